/-
  What a reading of an argument tells the walks: a tree leads to the cells of a list of files. What the law's Light of layer 7 returns (walk).
-/
import Derived.Test.YtfjllohhjpiphaaTrMem
import Derived.Test.YtfjllohhjpiphaaGQ
import Derived.Deep.Slices
import Derived.Deep.Strs
set_option maxRecDepth 100000
namespace Go.Proofs.Ytfjllohhjpiphaa
open Go.ChangeShapes Go.WideShapes Go.ChangeAt Go.RowKit Go.Deep
set_option linter.unusedVariables false
namespace Tr
open Tx

/-- What is told of a file that is handed in. -/
structure FitF (x : FL) : Prop where
  n : x.1.length ≤ maxLen
  l : x.2.length ≤ maxLen
  s : ∀ l ∈ x.2, l.length ≤ maxLen

/-- A tree that is handed in: it reads as t. -/
structure TreeArg (w : World) (A : Option Addr) (n c : Nat) (t : TR) : Prop where
  len : t.length = n
  cap : n ≤ c
  le : n ≤ maxLen
  rd : RdT w w.heap.size A t
  fit : ∀ x ∈ t, FitF x

section
variable {H : Type} {enc : TypeId × Value → H} {W : World} {base : Nat} {spare : Nat → Bool} {held : Bool}

theorem file_in {fuel : Nat} {a : Addr} {i : Nat} {cs : List Value} {x : DataW H × List MemPlace} (hc : W.cells? base (a.add (i * 2)) 2 = some cs) (h : DataW.trod enc Try.prog W base spare held fuel 48 cs = some x) : ∃ f : FL, FlAt W W.heap.size a i f ∧ FitF f := by
  obtain ⟨xs, n, _, rfl, hl0, hlen, hf⟩ := DataW.trod_struct Try.underlying48 h
  obtain ⟨_, hl, hcell⟩ := World.cells?_some hc
  have s9 : Try.prog.cellsOf 9 = 1 := by kernel_rfl
  have s24 : Try.prog.cellsOf 22 = 1 := by kernel_rfl
  match xs, hlen with
  | [y0, y1], _ =>
    have h0 : DataW.trod enc Try.prog W base spare held n 9 ((cs.drop 0).take (Try.prog.cellsOf 9)) = some y0 := by simpa using hf 0 _ rfl
    have h1 : DataW.trod enc Try.prog W base spare held n 22 ((cs.drop 1).take (Try.prog.cellsOf 22)) = some y1 := by simpa using hf 1 _ rfl
    match cs, hl with
    | [v0, v1], _ =>
      simp only [s9, s24, List.drop_zero, List.take_succ_cons, List.take_zero, List.drop_succ_cons] at h0 h1
      obtain ⟨s, e0, _, w0⟩ := DataW.trod_string Try.underlying9 h0
      obtain ⟨A2, n2, c2, ls, rfl, hs⟩ := strs_any h1
      injection e0 with e0
      subst e0
      have k0 := hcell 0 (by decide)
      have k1 := hcell 1 (by decide)
      rw [add_zero'] at k0
      refine ⟨(s.data.toList, ls), ⟨k0, A2, c2, ?_, ?_, hs.rd⟩, ?_, ?_, hs.short⟩
      · simp only [hs.len]; exact k1
      · simp only [hs.len]; exact hs.cap
      · show s.data.toList.length ≤ _; rw [Array.length_toList]; exact w0
      · simp only [hs.len]; exact hs.le

theorem tree_in {fuel : Nat} {cs : List Value} {x : DataW H × List MemPlace} {A : Option Addr} {l c : Nat} (h : DataW.trod enc Try.prog W base spare held fuel 33 cs = some x) (hcs : cs = [.slice A l c]) :
    ∃ t : TR, TreeArg W A l c t := by
  have s37 : Try.prog.cellsOf 48 = 2 := by kernel_rfl
  rcases open_slice Try.underlying33 h with ⟨hcs', _⟩ | ⟨a, len, cap, m, n, D, Pl, hcs', _, hl, hm, hmm, _, hi⟩
  · rw [hcs] at hcs'
    simp at hcs'
    obtain ⟨rfl, rfl, rfl⟩ := hcs'
    exact ⟨[], rfl, Nat.le_refl _, Nat.zero_le _, .inl rfl, fun x hx => by cases hx⟩
  · rw [hcs] at hcs'
    simp at hcs'
    obtain ⟨rfl, rfl, rfl⟩ := hcs'
    have hlm : l ≤ m := by rw [hmm]; split <;> omega
    rw [s37] at hi
    obtain ⟨t, h1, h2⟩ := list_of (P := fun i x => FlAt W W.heap.size a i x ∧ FitF x) l (fun i hil => by
      obtain ⟨cs', hc, ht⟩ := hi i (by omega)
      exact file_in hc ht)
    refine ⟨t, h1, hl, by omega, ?_, fun x hx => ?_⟩
    · cases t with
      | nil => exact .inl rfl
      | cons e es =>
        have hb := lt_of_cell (h2 0 e rfl).1.c0
        rw [add_block] at hb
        exact .inr ⟨a, rfl, hb, fun k x hx => (h2 k x hx).1⟩
    · obtain ⟨j, hj, rfl⟩ := List.mem_iff_getElem.1 hx
      exact (h2 j _ (List.getElem?_eq_getElem hj)).2
end

def lightT (t : TR) : Bool := decide (t.length ≤ 40) && t.all fun x => light x.2 300 && decide (x.1.length ≤ 100)
theorem lightT_no {t : TR} {x : FL} (hm : x ∈ t) (h : light x.2 300 = false ∨ 100 < x.1.length) : lightT t = false := by
  have : (t.all fun x => light x.2 300 && decide (x.1.length ≤ 100)) = false := by
    rw [List.all_eq_false]
    refine ⟨x, hm, ?_⟩
    rcases h with h | h
    · rw [h]; simp
    · simp; intro _; exact h
  simp [lightT, this]
theorem lightT_small {t : TR} (h : lightT t = true) : t.length ≤ 40 ∧ Small t := by
  simp only [lightT, Bool.and_eq_true, decide_eq_true_eq, List.all_eq_true] at h
  refine ⟨h.1, ⟨by omega, fun x hx => ?_⟩⟩
  obtain ⟨h1, h2⟩ := h.2 x hx
  simp only [light, Bool.and_eq_true, decide_eq_true_eq, List.all_eq_true] at h1
  exact ⟨by omega, by omega, fun l hl => by have := h1.2 l hl; omega⟩

set_option maxHeartbeats 1000000 in
theorem LightT (A : Option Addr) (c n B : Nat) (t : TR) (w : World) (hn : t.length = n) (hnm : n ≤ maxLen) (hfit : ∀ x ∈ t, FitF x) (hR : RdT w B A t) :
    Calls Try.prog 16 #[.slice A n c] w fun e w' => e = .returned (.bool (lightT t)) ∧ w = w' := by
  unfold maxLen at hnm
  have HN := Lib.hid hn; have HFIT := Lib.hid hfit; clear hn hfit
  by_cases h1 : 40 < n
  · have HF : Hid (lightT t = false) := Lib.hid (by unfold lightT; rw [HN.out]; simp; omega)
    go_enter Try.func16, Try.ntmps16
    go_wp2
    go_ret
    exact ⟨ret_bool HF.out.symm, rfl⟩
  · go_enter Try.func16, Try.ntmps16
    go_wp2
    go_loop [3] (fun i => ∃ k : Nat, k ≤ n ∧ i = .int .i64 k ∧ ∀ x ∈ t.take k, light x.2 300 = true ∧ x.1.length ≤ 100) (fun i => n - (intOf i).toNat)
    case atStart => exact ⟨0, Nat.zero_le _, rfl, by simp⟩
    case round =>
      obtain ⟨k, hk, rfl, hall⟩ := hrel
      have HA := Lib.hid hall; clear hall
      by_cases hlt : k < n
      · have hkl : k < t.length := by rw [HN.out]; exact hlt
        obtain ⟨a, rfl, hab, hat⟩ := hR.at_ hkl
        have hmem := List.getElem_mem hkl
        have hfx := HFIT.out _ hmem
        have HT := Lib.hid (take_snoc' hkl)
        generalize t[k] = x at *
        have HM := Lib.hid hmem; clear hmem
        obtain ⟨c0, A2, c2, h2, h3, h4⟩ := hat
        obtain ⟨s, l⟩ := x
        dsimp only at c0 h2 h3 h4
        have hl := hfx.l
        dsimp only at hl
        obtain ⟨ll, hll⟩ : ∃ ll, l.length = ll := ⟨_, rfl⟩
        rw [hll] at h2 h3 hl
        have HLL := Lib.hid hll
        obtain ⟨z, hz, hzl⟩ : ∃ z : ByteArray, strV s = .string z ∧ z.size = s.length := ⟨_, rfl, size_strV s⟩
        rw [hz] at c0
        have HZL := Lib.hid hzl
        clear hll hz hfx hzl
        go_wp2_with fail
        refine (Light A2 c2 ll B 300 l w HLL.out hl h4 (by decide)).mono ?_
        rintro e w' ⟨rfl, rfl⟩
        cases hb : light l 300 with
        | false =>
          have HF := Lib.hid (lightT_no HM.out (.inl hb))
          clear hb
          go_wp2
          go_ret
          exact ⟨ret_bool HF.out.symm, rfl⟩
        | true =>
          have HB := Lib.hid hb; clear hb
          by_cases h100 : 100 < z.size
          · have HF := Lib.hid (lightT_no HM.out (.inr (by show 100 < s.length; rw [← HZL.out]; exact h100)))
            go_wp2
            go_ret
            exact ⟨ret_bool HF.out.symm, rfl⟩
          · go_wp2
            go_round
            case rel => exact ⟨k + 1, by omega, by go_num, by rw [HT.out]; intro y hy; rcases List.mem_append.1 hy with h | h; exact HA.out y h; simp at h; rw [h]; exact ⟨HB.out, by have := HZL.out; show s.length ≤ 100; omega⟩⟩
            case measure => simp [intOf]; omega
      · have HF : Hid (lightT t = true) := Lib.hid (by
          have := HA.out; rw [List.take_of_length_le (by rw [HN.out]; omega)] at this
          simp only [lightT, Bool.and_eq_true, decide_eq_true_eq, List.all_eq_true]
          exact ⟨by rw [HN.out]; omega, this⟩)
        go_wp2
        go_ret
        exact ⟨ret_bool HF.out.symm, rfl⟩

end Tr
end Go.Proofs.Ytfjllohhjpiphaa
