/-
  The library's functions that package code calls, at the arguments that it hands them: out of the laid contracts. No walk.
-/
import Derived.Test.YtjhjmfodpnipiaaGreatDoorCdVars
import Derived.Test.YtjhjmfodpnipiaaGreatDoorCdNum
import Derived.Test.YtjhjmfodpnipiaaGreatDoorShelf
import Derived.Lib.AppendIntMem
import Derived.Lib.AtoiAllCases
import Derived.Lib.SplitLaws
import Derived.Lib.IndexBytes
import Derived.Lib.Join
import Derived.Lib.AtoiErrMem
set_option maxRecDepth 100000
namespace Go.Proofs.YtjhjmfodpnipiaaGreatDoor
open Go.RowKit
set_option linter.unusedVariables false
set_option linter.unusedSimpArgs false
namespace Cd
open Tx Df Sq Hk Tr Pr

theorem Itoa (n : Int) (hn : I64 n) (w : World) (hv : Vars w) : Calls Tryz.prog 22 #[.int .i64 n] w fun e w' => e = .returned (.string ⟨(Lib.itoa n).toArray⟩) ∧ Below w.heap.size w w' := by
  refine (Tryz.strconv_Itoa n hn.1 hn.2 w hv.tab).mono ?_
  rintro e w1 ⟨rfl, k, os, rfl⟩
  exact ⟨rfl, Lib.below_grow w.heap.size w (Nat.le_refl _) k os⟩
theorem Atoi_yes (s : List UInt8) (hl : s.length ≤ 281474976710656) (v : Int) (h : Lib.atoiAll s = .ok v) (w : World) :
    Calls Tryz.prog 67 #[strV s] w fun e w' => e = .returned (.tuple #[.int .i64 v, .nilIface]) ∧ Below w.heap.size w w' := by
  refine (Tryz.strconv_Atoi_ok ⟨s.toArray⟩ (by rw [size_strV]; omega) v h w).mono ?_
  rintro e w1 ⟨rfl, hw⟩
  refine ⟨rfl, ?_⟩
  rcases hw with rfl | ⟨t, rfl⟩
  · exact Below.refl _ _
  · exact Lib.bytesWorld_below _ _ _
theorem Atoi_no (s : List UInt8) (hl : s.length ≤ 281474976710656) (h : ∀ v, Lib.atoiAll s ≠ .ok v) (w : World) (hv : Vars w) :
    Calls Tryz.prog 67 #[strV s] w fun e w' => (∃ n t a, e = .returned (.tuple #[.int .i64 n, .iface t a])) ∧ Below w.heap.size w w' := by
  cases ha : Lib.atoiAll s
  · exact absurd ha (h _)
  · obtain ⟨tp, p, hp⟩ := hv.es
    refine (Tryz.strconv_Atoi_syntax_var ⟨s.toArray⟩ (by rw [size_strV]; omega) ha tp p w hp).mono ?_
    rintro e w1 ⟨N, rfl, _, _, hb⟩
    exact ⟨⟨_, _, _, rfl⟩, hb⟩
  · obtain ⟨tp, p, hp⟩ := hv.er
    refine (Tryz.strconv_Atoi_range_var ⟨s.toArray⟩ (by rw [size_strV]; omega) ha tp p w hp).mono ?_
    rintro e w1 ⟨N, rfl, _, _, hb⟩
    exact ⟨⟨_, _, _, rfl⟩, hb⟩

theorem str_back (ws : List (List UInt8)) : (ws.map fun x => (ByteArray.mk x.toArray)).map (·.data.toList) = ws := by
  rw [List.map_map]; simp [Function.comp_def]
/-- Words with blanks between are one text. -/
theorem Join (v : Value) (n : Nat) (ws : List (List UInt8)) (w : World) (base : Nat) (hn : ws.length = n) (h5 : n ≤ 5) (hR : w.ownsRow base 9 1 v n (ws.map strV)) (hl : (Lib.join ws [32]).length ≤ 140737488355328) :
    Calls Tryz.prog 40 #[v, strV [32]] w fun e w' => e = .returned (strV (Lib.join ws [32])) ∧ Below w.heap.size w w' := by
  subst hn
  have hR0 := hR
  rcases hR.2 with ⟨rfl, h0⟩ | ⟨g, cap, cur, rfl, _, hg, hc, hm, _, _⟩
  · have e0 : ws = [] := List.eq_nil_of_length_eq_zero h0
    subst e0
    refine (Tryz.strings_Join_none none 0 ⟨#[32]⟩ w).mono ?_
    rintro e w1 ⟨rfl, rfl⟩
    exact ⟨rfl, Below.refl _ _⟩
  · have hg' : g < w.heap.size := (Array.getElem?_eq_some_iff.1 hg).1
    have key := Tryz.strings_Join g 0 cap (ws.map fun x => (ByteArray.mk x.toArray)) ⟨#[32]⟩ w (fun j x hx => by
      have h1 : (ws.map strV)[j]? = some (.string x) := by
        rw [List.getElem?_map] at hx ⊢
        cases hj : ws[j]? with
        | none => rw [hj] at hx; cases hx
        | some y => rw [hj] at hx; injection hx with hx; subst hx; rfl
      have hjl : j < ws.length * 1 := by
        have h2 := (List.getElem?_eq_some_iff.1 h1).1
        rw [List.length_map] at h2
        omega
      rw [Nat.zero_add, World.ownsRow.cellAt hR0 j hjl]
      exact h1) hg' (by rw [List.length_map]; omega) (by rw [List.length_map]; exact hc) (by rw [str_back]; exact hl)
    rw [List.length_map, str_back] at key
    exact key

/-! A text's words. -/
theorem split_cons_ne {c : UInt8} (h : c ≠ 32) : ∀ (k : Nat) (s : List UInt8), Lib.splitK [32] 0 k (c :: s) = match Lib.splitK [32] 0 k s with | [] => [[c]] | w :: ws => (c :: w) :: ws
  | 0, s => rfl
  | k + 1, s => by
    have hb : (c == 32) = false := by simpa using h
    have hi : Lib.index (c :: s) [32] = if Lib.index s [32] == -1 then -1 else Lib.index s [32] + 1 := by
      rw [Lib.index_one, Lib.index_one, Lib.indexByte, hb]; rfl
    have hge : -1 ≤ Lib.index s [32] := by rw [Lib.index_one]; exact Lib.indexByte_ge _ _
    rw [Lib.splitK, Lib.splitK, hi]
    by_cases hm : (Lib.index s [32] == -1) = true
    · rw [if_pos hm, if_pos hm, if_pos (by decide)]
    · rw [if_neg hm]
      have hm1 : ¬ Lib.index s [32] = -1 := by simpa using hm
      have h2 : ¬ (Lib.index s [32] + 1 == -1) = true := by simp; omega
      rw [if_neg h2]
      obtain ⟨i, hi⟩ : ∃ i : Nat, Lib.index s [32] = i := ⟨(Lib.index s [32]).toNat, by omega⟩
      rw [hi]
      have e1 : ((i : Int) + 1).toNat = i + 1 := by omega
      rw [e1]
      rfl
theorem split_words : ∀ (s : List UInt8), Lib.splitK [32] 0 (Lib.count s [32]) s = words s
  | [] => rfl
  | c :: s => by
    rw [words]
    by_cases h : c = 32
    · subst h
      rw [if_pos rfl, Lib.count_cons_eq, Nat.add_comm, Lib.splitK]
      have hi : Lib.index (32 :: s) [32] = 0 := by rw [Lib.index_one, Lib.indexByte]; rfl
      rw [hi, if_neg (by decide)]
      show List.take 0 _ :: Lib.splitK [32] 0 _ s = _
      rw [split_words s]
      rfl
    · rw [if_neg h, Lib.count_cons_ne _ _ _ h, split_cons_ne h, split_words s]
      cases words s <;> rfl
theorem str_forth (L : List ByteArray) : (L.map (·.data.toList)).map strV = L.map Value.string := by
  rw [List.map_map]
  refine List.map_congr_left fun x _ => ?_
  rfl
theorem Split (s : List UInt8) (n : Nat) (w : World) (hv : Vars w) (hs : s.length < 4294967281) (hn : (words s).length = n) :
    Calls Tryz.prog 25 #[strV s, strV [32]] w fun e w' => e = .returned (.slice (some ⟨w.heap.size, 0, none⟩) n n) ∧ RdS w' w'.heap.size (some ⟨w.heap.size, 0, none⟩) (words s) ∧ Below w.heap.size w w' := by
  obtain ⟨m, hm⟩ := hv.ml
  refine (Tryz.strings_Split ⟨s.toArray⟩ ⟨#[32]⟩ m w (by rw [size_strV]; exact hs) hm (by decide)).mono ?_
  rintro e w1 ⟨rfl, rfl⟩
  have hd : (Lib.splitB ⟨#[32]⟩ 0 (Lib.countB ⟨s.toArray⟩ ⟨#[32]⟩) ⟨s.toArray⟩).map (·.data.toList) = words s := (Lib.splitB_data _ _ _ _).trans (split_words s)
  have hl : (Lib.splitB ⟨#[32]⟩ 0 (Lib.countB ⟨s.toArray⟩ ⟨#[32]⟩) ⟨s.toArray⟩).length = n := by rw [← hn, ← hd, List.length_map]
  have hl2 := Lib.splitB_all ⟨#[32]⟩ (by decide) 0 _ ⟨s.toArray⟩ rfl
  rw [hl] at hl2
  rw [← hl2]
  refine ⟨rfl, .inr ⟨_, rfl, by simp, fun j u hu => ?_⟩, (Below.refl _ _).alloc (Nat.le_refl _) _⟩
  rw [← hd, str_forth] at hu
  have hadd : (⟨w.heap.size, 0, none⟩ : Addr).add j = ⟨w.heap.size, j, none⟩ := by unfold Addr.add; split <;> simp_all
  rw [hadd, cell_of_row _ _ j _ _ _ (World.alloc_heap_new w _)]
  simpa using hu

/-- The place of a sign. -/
theorem Index (c : UInt8) (w : World) :
    Calls Tryz.prog 47 #[strV [43, 45, 62, 64, 61], strV [c]] w fun e w' => e = .returned (.int .i64 (kindB [c])) ∧ w = w' := by
  refine (Tryz.strings_Index_one ⟨#[43, 45, 62, 64, 61]⟩ c w).mono ?_
  rintro e w1 ⟨rfl, rfl⟩
  refine ⟨?_, rfl⟩
  have e : Lib.indexByte [43, 45, 62, 64, 61] c = kindB [c] := by
    unfold kindB
    simp only [Lib.indexByte, List.cons.injEq, and_true, beq_iff_eq]
    by_cases h0 : 43 = c
    · subst h0; rfl
    by_cases h1 : 45 = c
    · subst h1; rfl
    by_cases h2 : 62 = c
    · subst h2; rfl
    by_cases h3 : 64 = c
    · subst h3; rfl
    by_cases h4 : 61 = c
    · subst h4; rfl
    have g0 : ¬ c = 43 := fun h => h0 h.symm
    have g1 : ¬ c = 45 := fun h => h1 h.symm
    have g2 : ¬ c = 62 := fun h => h2 h.symm
    have g3 : ¬ c = 64 := fun h => h3 h.symm
    have g4 : ¬ c = 61 := fun h => h4 h.symm
    simp [h0, h1, h2, h3, h4, g0, g1, g2, g3, g4]
  show Ending.returned (.int .i64 (Lib.indexByte [43, 45, 62, 64, 61] c)) = _
  rw [e]
/-- What stands behind a sign. -/
def cutS (c : UInt8) (s : List UInt8) : List UInt8 × Bool := match s with | [] => ([], false) | d :: r => if d = c then (r, true) else (d :: r, false)
theorem CutPrefix (c : UInt8) (s : List UInt8) (w : World) :
    Calls Tryz.prog 49 #[strV s, strV [c]] w fun e w' => e = .returned (.tuple #[strV (cutS c s).1, .bool (cutS c s).2]) ∧ w = w' := by
  refine (Tryz.strings_CutPrefix ⟨s.toArray⟩ ⟨#[c]⟩ w).mono ?_
  rintro e w1 ⟨rfl, rfl⟩
  refine ⟨?_, rfl⟩
  have e : Lib.trimPrefix s [c] = (cutS c s).1 ∧ Lib.hasPrefix s [c] = (cutS c s).2 := by
    cases s with
    | nil => exact ⟨rfl, rfl⟩
    | cons d r =>
      unfold cutS Lib.trimPrefix Lib.hasPrefix
      by_cases h : d = c
      · subst h; simp
      · have h' : ¬ c = d := fun e => h e.symm
        simp [h, h', List.isPrefixOf]
  show Ending.returned (.tuple #[.string ⟨(Lib.trimPrefix s [c]).toArray⟩, .bool (Lib.hasPrefix s [c])]) = _
  rw [e.1, e.2]

end Cd
end Go.Proofs.YtjhjmfodpnipiaaGreatDoor
