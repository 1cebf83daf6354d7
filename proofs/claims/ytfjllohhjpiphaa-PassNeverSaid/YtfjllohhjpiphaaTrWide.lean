/-
  What a reading of an argument tells of its size: a tree of any size that fits a memory.
-/
import Derived.Test.YtfjllohhjpiphaaTrOpen
import Derived.SizedLaws
set_option maxRecDepth 100000
namespace Go.Proofs.Ytfjllohhjpiphaa
open Go.ChangeShapes Go.WideShapes Go.ChangeAt Go.RowKit Go.Deep
set_option linter.unusedVariables false
namespace Tr
open Tx

theorem bytes_str : Try.prog.bytesOf 9 = 16 := by kernel_rfl
theorem bytes_file : Try.prog.bytesOf 48 = 40 := by kernel_rfl

section
variable {H : Type} {enc : TypeId × Value → H} {W : World} {base : Nat} {spare : Nat → Bool} {held : Bool}

theorem weights_all_mem {P : Program} {e : TypeId} : ∀ {ds : List (DataW H)} {d : DataW H}, d ∈ ds → ∀ n ∈ d.weights P e, n ∈ DataW.weightsAll P e ds
  | d0 :: r, d, hd, n, hn => by
    simp only [DataW.weightsAll, List.mem_append]
    rcases List.mem_cons.1 hd with rfl | hd
    · exact .inl hn
    · exact .inr (weights_all_mem hd n hn)

theorem strs_wide {fuel : Nat} {A : Option Addr} {n c : Nat} {x : DataW H × List MemPlace} (h : DataW.trod enc Try.prog W base spare held fuel 22 [.slice A n c] = some x) (hz : ∀ k ∈ x.1.weights Try.prog 22, k ≤ reachBytes) : n * 16 ≤ reachBytes := by
  rcases open_slice Try.underlying22 h with ⟨h', _⟩ | ⟨a, len, cap, m, nn, D, Pl, h', _, hl, _, hmm, rfl, _⟩
  · simp at h'
    obtain ⟨_, rfl, _⟩ := h'
    unfold reachBytes
    omega
  · simp at h'
    obtain ⟨_, rfl, _⟩ := h'
    have := hz ((n + (m - n)) * 16) (by simp [DataW.weights, Try.underlying22, bytes_str])
    omega

theorem file_wide {fuel : Nat} {a : Addr} {i : Nat} {cs : List Value} {x : DataW H × List MemPlace} (hc : W.cells? base (a.add (i * 2)) 2 = some cs) (h : DataW.trod enc Try.prog W base spare held fuel 48 cs = some x)
    (hz : ∀ k ∈ x.1.weights Try.prog 48, k ≤ reachBytes) : ∃ f : FL, FlAt W W.heap.size a i f ∧ FitF f ∧ f.2.length * 16 ≤ reachBytes := by
  obtain ⟨xs, n, _, rfl, hl0, hlen, hf⟩ := DataW.trod_struct Try.underlying48 h
  obtain ⟨_, hl, hcell⟩ := World.cells?_some hc
  have s9 : Try.prog.cellsOf 9 = 1 := by kernel_rfl
  have s24 : Try.prog.cellsOf 22 = 1 := by kernel_rfl
  match xs, hlen with
  | [y0, y1], _ =>
    have h0 : DataW.trod enc Try.prog W base spare held n 9 ((cs.drop 0).take (Try.prog.cellsOf 9)) = some y0 := by simpa using hf 0 _ rfl
    have h1 : DataW.trod enc Try.prog W base spare held n 22 ((cs.drop 1).take (Try.prog.cellsOf 22)) = some y1 := by simpa using hf 1 _ rfl
    match cs, hl with
    | [v0, v1], _ =>
      simp only [s9, s24, List.drop_zero, List.take_succ_cons, List.take_zero, List.drop_succ_cons] at h0 h1
      obtain ⟨s, e0, _, w0⟩ := DataW.trod_string Try.underlying9 h0
      obtain ⟨A2, n2, c2, ls, rfl, hs⟩ := strs_any h1
      injection e0 with e0
      subst e0
      have k0 := hcell 0 (by decide)
      have k1 := hcell 1 (by decide)
      rw [add_zero'] at k0
      have hw : n2 * 16 ≤ reachBytes := strs_wide h1 (fun k hk => hz k (by
        simp only [DataW.weights, Try.underlying48]
        exact DataW.weights_mem_each (j := 1) rfl rfl k hk))
      refine ⟨(s.data.toList, ls), ⟨k0, A2, c2, ?_, ?_, hs.rd⟩, ⟨?_, ?_, hs.short⟩, ?_⟩
      · simp only [hs.len]; exact k1
      · simp only [hs.len]; exact hs.cap
      · show s.data.toList.length ≤ _; rw [Array.length_toList]; exact w0
      · simp only [hs.len]; exact hs.le
      · simp only [hs.len]; exact hw

theorem tree_wide {fuel : Nat} {cs : List Value} {x : DataW H × List MemPlace} {A : Option Addr} {l c : Nat} (h : DataW.trod enc Try.prog W base spare held fuel 33 cs = some x) (hcs : cs = [.slice A l c])
    (hz : ∀ k ∈ x.1.weights Try.prog 33, k ≤ reachBytes) : ∃ t : TR, TreeArg W A l c t ∧ Wide t := by
  have s37 : Try.prog.cellsOf 48 = 2 := by kernel_rfl
  rcases open_slice Try.underlying33 h with ⟨hcs', _⟩ | ⟨a, len, cap, m, n, D, Pl, hcs', _, hl, hm, hmm, rfl, hi⟩
  · rw [hcs] at hcs'
    simp at hcs'
    obtain ⟨rfl, rfl, rfl⟩ := hcs'
    exact ⟨[], ⟨rfl, Nat.le_refl _, Nat.zero_le _, .inl rfl, fun x hx => by cases hx⟩, by simp, fun x hx => by cases hx⟩
  · rw [hcs] at hcs'
    simp at hcs'
    obtain ⟨rfl, rfl, rfl⟩ := hcs'
    have hlm : l ≤ m := by rw [hmm]; split <;> omega
    have hw0 := hz ((l + (m - l)) * 40) (by simp [DataW.weights, Try.underlying33, bytes_file])
    have hw1 : ∀ i, i < l → ∀ k ∈ (D i).weights Try.prog 48, k ≤ reachBytes := fun i hi k hk => hz k (by
      simp only [DataW.weights, Try.underlying33, List.mem_cons, List.mem_append]
      exact .inr (.inl (weights_all_mem (List.mem_map.2 ⟨i, List.mem_range.2 hi, rfl⟩) k hk)))
    rw [s37] at hi
    obtain ⟨t, h1, h2⟩ := list_of (P := fun i x => FlAt W W.heap.size a i x ∧ FitF x ∧ x.2.length * 16 ≤ reachBytes) l (fun i hil => by
      obtain ⟨cs', hc, ht⟩ := hi i (by omega)
      exact file_wide hc ht (hw1 i hil))
    refine ⟨t, ⟨h1, hl, by omega, ?_, fun x hx => ?_⟩, ?_, fun x hx => ?_⟩
    · cases t with
      | nil => exact .inl rfl
      | cons e es =>
        have hb := lt_of_cell (h2 0 e rfl).1.c0
        rw [add_block] at hb
        exact .inr ⟨a, rfl, hb, fun k x hx => (h2 k x hx).1⟩
    · obtain ⟨j, hj, rfl⟩ := List.mem_iff_getElem.1 hx
      exact (h2 j _ (List.getElem?_eq_getElem hj)).2.1
    · rw [h1]
      unfold reachBytes at hw0
      omega
    · obtain ⟨j, hj, rfl⟩ := List.mem_iff_getElem.1 hx
      have := (h2 j _ (List.getElem?_eq_getElem hj)).2.2
      unfold reachBytes at this
      omega
end

end Tr
end Go.Proofs.Ytfjllohhjpiphaa
