/-
  What All of layer 1 returns for every list of lines (walk), and the example of the chapter that every statement asks first.
-/
import Derived.Test.YtobpdamfobldcaaTxSplit
import Derived.Lib.SlBytesConst
namespace Go.Proofs.Ytobpdamfobldcaa
open Go.RowKit Go.Shelf
namespace Tx

theorem RdS.at' {w : World} {B : Nat} {A : Option Addr} {ls : List (List UInt8)} (h : RdS w B A ls) {k : Nat} (hk : k < ls.length) : ∃ a, A = some a ∧ w.cell? (a.add k) = some (strV ls[k]) := by
  obtain ⟨a, e, _, hc⟩ := h.at_ (k := k) (by simpa using hk)
  exact ⟨a, e, by rw [hc]; simp⟩

theorem allMay_false {ls : List (List UInt8)} {x : List UInt8} (hm : x ∈ ls) (h : may x = false) : allMay ls = false := by
  simp [allMay, not_all_of hm h]
theorem allMay_true {ls : List (List UInt8)} (hl : ls.length ≤ 200) (h : ∀ x ∈ ls, may x = true) : allMay ls = true := by
  simp [allMay, all_of h, hl]
theorem take_snoc' {α : Type} {ls : List α} {k : Nat} (h : k < ls.length) : ls.take (k + 1) = ls.take k ++ [ls[k]] := List.take_succ_eq_append_getElem h

set_option maxHeartbeats 400000 in
theorem All (A : Option Addr) (cap n B : Nat) (ls : List (List UInt8)) (w : World) (hn : ls.length = n) (hR : RdS w B A ls) :
    Calls Try.prog 19 #[.slice A n cap] w fun e w' => e = .returned (.bool (allMay ls)) ∧ w = w' := by
  have HN := Lib.hid hn; clear hn
  by_cases h1 : 200 < n
  · have HF : Hid (allMay ls = false) := Lib.hid (by unfold allMay; rw [HN.out]; simp; omega)
    go_enter Try.func19, Try.ntmps19
    go_wp2
    go_ret
    exact ⟨ret_bool HF.out.symm, rfl⟩
  · go_enter Try.func19, Try.ntmps19
    go_wp2
    go_loop [10] (fun i => ∃ k : Nat, k ≤ n ∧ i = .int .i64 k ∧ ∀ x ∈ ls.take k, may x = true) (fun i => n - (intOf i).toNat)
    case atStart => exact ⟨0, Nat.zero_le _, rfl, by simp⟩
    case round =>
      obtain ⟨k, hk, rfl, hall⟩ := hrel
      have HA := Lib.hid hall; clear hall
      by_cases hlt : k < n
      · have hkl : k < ls.length := by rw [HN.out]; exact hlt
        obtain ⟨a, rfl, hcell⟩ := hR.at' hkl
        cases hb : may ls[k] with
        | true =>
          go_wp2_with fail
          refine (MayV ls[k] _).mono ?_
          rintro e w' ⟨rfl, rfl⟩
          go_wp2
          go_round
          case rel => exact ⟨k + 1, by omega, by go_num, by rw [take_snoc' hkl]; intro c hc; rcases List.mem_append.1 hc with h | h; exact HA.out c h; simp at h; rw [h]; exact hb⟩
          case measure => simp [intOf]; omega
        | false =>
          have HF := Lib.hid (allMay_false (List.getElem_mem hkl) hb)
          go_wp2_with fail
          refine (MayV ls[k] _).mono ?_
          rintro e w' ⟨rfl, rfl⟩
          go_wp2
          go_ret
          exact ⟨ret_bool HF.out.symm, rfl⟩
      · have HF : Hid (allMay ls = true) := Lib.hid (allMay_true (by rw [HN.out]; omega) (by have := HA.out; rw [List.take_of_length_le (by rw [HN.out]; omega)] at this; exact this))
        go_wp2
        go_ret
        exact ⟨ret_bool HF.out.symm, rfl⟩

theorem rd_of_own {w : World} {base : Nat} {e : TypeId} {v : Value} {n : Nat} {xs : List Value} (h : w.ownsRow base e 1 v n xs) : ∃ A cap, v = .slice A n cap ∧ n ≤ cap ∧ Rd w w.heap.size A xs := by
  rcases h.2 with ⟨rfl, rfl⟩ | ⟨g, cap, cur, rfl, hb, hg, hc, _, hcs, ht⟩
  · exact ⟨none, 0, rfl, Nat.le_refl _, .inl (List.eq_nil_of_length_eq_zero (by simpa using h.1))⟩
  · refine ⟨_, cap, rfl, hc, .inr ⟨_, rfl, (Array.getElem?_eq_some_iff.1 hg).1, fun j u hu => ?_⟩⟩
    have e1 : (⟨g, 0, none⟩ : Addr).add j = ⟨g, j, none⟩ := by unfold Addr.add; split <;> simp_all
    rw [e1, cell_of_row w g j cur e (0, 0) hg]
    rw [← ht, List.getElem?_take] at hu
    split at hu
    · simpa using hu
    · cases hu

theorem split_a : splitE [97, 10, 10] = 0 ∧ splitL [97, 10, 10] = [[97], []] := by decide

def AwakeSplit (w : World) (e : Ending) (w' : World) : Prop :=
  ∃ g cap, e = .returned (.tuple #[.slice (some ⟨g, 0, none⟩) 2 cap, .int .i64 0]) ∧ w'.cell? ⟨g, 0, none⟩ = some (.string ⟨#[97]⟩) ∧ w'.cell? ⟨g, 1, none⟩ = some (.string ⟨#[]⟩) ∧ RdS w' w'.heap.size (some ⟨g, 0, none⟩) [[97], []] ∧ Below w.heap.size w w'

theorem split_awake (w : World) (fr : Nat × Nat) : Calls Try.prog 10 #[.slice (some ⟨w.heap.size, 0, none⟩) 3 3] (w.alloc (.cells #[.int .u8 97, .int .u8 10, .int .u8 10] 5 fr)) (AwakeSplit w) := by
  have hB : Below w.heap.size w (w.alloc (.cells #[.int .u8 97, .int .u8 10, .int .u8 10] 5 fr)) := (Below.refl _ _).alloc (Nat.le_refl _) _
  have hh : (w.alloc (.cells #[.int .u8 97, .int .u8 10, .int .u8 10] 5 fr)).heap[w.heap.size]? = some (.cells #[.int .u8 97, .int .u8 10, .int .u8 10] 5 fr) := World.alloc_heap_new w _
  have hsz : (w.alloc (.cells #[.int .u8 97, .int .u8 10, .int .u8 10] 5 fr)).heap.size = w.heap.size + 1 := by simp
  generalize w.alloc (.cells #[.int .u8 97, .int .u8 10, .int .u8 10] 5 fr) = W at *
  have hR : RdB W W.heap.size (some ⟨w.heap.size, 0, none⟩) [97, 10, 10] := by
    refine .inr ⟨_, rfl, by rw [hsz]; exact Nat.lt_succ_self _, fun j u hu => ?_⟩
    have e1 : (⟨w.heap.size, 0, none⟩ : Addr).add j = ⟨w.heap.size, j, none⟩ := by unfold Addr.add; split <;> simp_all
    rw [e1, cell_of_row W _ j _ _ _ hh]
    match j, hu with
    | 0, hu => simpa [byteV] using hu
    | 1, hu => simpa [byteV] using hu
    | 2, hu => simpa [byteV] using hu
    | j + 3, hu => simp at hu
  refine (Split _ 3 3 [97, 10, 10] W rfl (Nat.le_refl _) hR).mono ?_
  rw [split_a.1, split_a.2]
  rintro e w' ⟨v, rfl, hrow, _, hb⟩
  obtain ⟨g, cap, rfl⟩ := ownsRow_succ (k := 1) hrow
  obtain ⟨A, cap', he, _, hrd⟩ := rd_of_own hrow
  injection he with h1 h2 h3
  subst h1
  have hcs := hrow.cells (g := g) rfl
  refine ⟨g, cap, rfl, ?_, ?_, hrd, hB.trans (hb.mono (by omega))⟩
  · have := hcs 0 _ rfl
    simpa [Addr.add] using this
  · have := hcs 1 _ rfl
    simpa [Addr.add] using this

theorem name_1 : name [97, 46, 49] = true := by decide
theorem name_A : name [65] = false := by decide
theorem may_x : may [120] = true := by decide
theorem all_a : allMay [[97], []] = true := by decide

set_option maxRecDepth 100000 in
set_option maxHeartbeats 1000000 in
theorem awake (w : World) : Calls Try.prog 8 #[] w fun e w' => e = .returned (.bool true) ∧ Below w.heap.size w w' := by
  have kc := fun (w : World) (C : Array Value) (n c : Nat) => Lib.run_convert_bytes_const (P := Try.prog) w 22 5 C n c Try.underlying22 Try.underlying5
  go_enter Try.func8, Try.ntmps8
  go_wp2_with fail
  clear kc
  refine (split_awake w _).mono ?_
  rintro e w1 ⟨g, cap, rfl, hc0, hc1, hRs, hB⟩
  go_wp2_with fail
  refine (Name _ _ (by decide)).mono ?_
  rintro e w' ⟨rfl, rfl⟩
  rw [show name (ByteArray.mk #[97, 46, 49]).data.toList = true from name_1]
  go_wp2_with fail
  refine (Name _ _ (by decide)).mono ?_
  rintro e w' ⟨rfl, rfl⟩
  rw [show name (ByteArray.mk #[65]).data.toList = false from name_A]
  go_wp2_with fail
  refine (May _ _).mono ?_
  rintro e w' ⟨rfl, rfl⟩
  rw [show may (ByteArray.mk #[120]).data.toList = true from may_x]
  go_wp2_with fail
  refine (All _ _ _ _ [[97], []] _ rfl hRs).mono ?_
  rintro e w' ⟨rfl, rfl⟩
  rw [all_a]
  go_wp2
  go_ret
  exact ⟨rfl, hB⟩

end Tx
end Go.Proofs.Ytobpdamfobldcaa
