/-
  Words for the statements of layer 13: what is told is light; contracts under names. No function of the program is walked here.
-/
import Derived.Test.YtjhjmfodpnipiaaNwAwake
import Derived.Test.YtjhjmfodpnipiaaFlSteps
import Derived.Test.YtjhjmfodpnipiaaGQ
set_option maxRecDepth 100000
namespace Go.Proofs.Ytjhjmfodpnipiaa
open Go.RowKit
set_option linter.unusedVariables false
namespace Nw
open Tx Df Sq Hk Tr Pr Fl

theorem name_100 {n : List UInt8} (h : name n = true) : n.length ≤ 100 := by
  unfold name at h
  simp only [Bool.and_eq_true, decide_eq_true_eq] at h
  omega
/-- What is told is light. -/
theorem news_lt {t u : TR} (ht : mayT t = true) (hu : mayT u = true) (st : Few60 t) (su : Few60 u) : Lt (newsL t u) := fun p hp => by
  unfold newsL at hp
  obtain ⟨n, hn, hp⟩ := List.mem_flatMap.1 hp
  have h1 := name_100 (namesN_name ht hu n hn)
  have f1 := fit_get ht st n
  have f2 := fit_get hu su n
  have none : ∀ (k : Int), lightP ⟨k, n, [], noneH⟩ = true := fun k => by
    unfold lightP
    simp only [Bool.and_eq_true, decide_eq_true_eq]
    exact ⟨⟨rfl, rfl⟩, h1, Nat.zero_le _⟩
  unfold oneN at hp
  rcases List.mem_append.1 hp with hp | hp
  · split at hp
    · cases hp
    · rw [List.mem_singleton.1 hp]; exact none 0
  rcases List.mem_append.1 hp with hp | hp
  · obtain ⟨h, hh, rfl⟩ := List.mem_map.1 hp
    obtain ⟨m1, m2⟩ := edits_mem _ _ h hh
    obtain ⟨L, k1, k2, k3, k4⟩ := trace_edits ((get t n).getD []) ((get u n).getD [])
    obtain ⟨i, hi⟩ := List.mem_iff_getElem?.1 hh
    have hlt : i < (hks ((get t n).getD []) 0 (edits ((get t n).getD []) ((get u n).getD []))).length := (List.getElem?_eq_some_iff.1 hi).1
    have hm := may_hunk f1.m f2.m (k4 i h hi) (by have := k3 i (by omega); have := f1.l; have := f2.l; omega) (by have := k3 (i + 1) (by omega); have := f1.l; have := f2.l; omega) m1 m2
    have hs : ∀ {l m : List (List UInt8)}, allMay m = true → (∀ y ∈ l, y ∈ m) → l.length ≤ 200 → light l 300 = true := fun {l m} ha hin hl => by
      unfold light
      rw [Bool.and_eq_true, decide_eq_true_eq, List.all_eq_true]
      refine ⟨by omega, fun y hy => ?_⟩
      unfold allMay at ha
      rw [Bool.and_eq_true, List.all_eq_true] at ha
      have h2 := ha.2 y (hin y hy)
      unfold may at h2
      rw [Bool.and_eq_true, decide_eq_true_eq] at h2
      simp; omega
    unfold lightP
    rw [Bool.and_eq_true, Bool.and_eq_true, Bool.and_eq_true]
    exact ⟨⟨hs f1.m m1 hm.2.1, hs f2.m m2 hm.2.2⟩, decide_eq_true h1, decide_eq_true (Nat.zero_le _)⟩
  · split at hp
    · cases hp
    · rw [List.mem_singleton.1 hp]; exact none 1
/-- The contract of two trees that may be. -/
theorem OfC {t u : TR} {w : World} {f : FuncId} {ar : Array Value} (ht : mayT t = true) (hu : mayT u = true) (h : Calls Try.prog f ar w (NewsEnd w (newsP t u))) :
    Calls Try.prog f ar w (NewsEnd w (0, newsL t u)) := by
  have e : newsP t u = (0, newsL t u) := by unfold newsP; rw [ht, hu]; rfl
  rw [e] at h
  exact h
/-- The contract, its answer under a name. -/
theorem OfE {t u : TR} {w : World} {f : FuncId} {ar : Array Value} {er : Int} {l : List Ch} (hP : newsP t u = (er, l)) (h : Calls Try.prog f ar w (NewsEnd w (newsP t u))) :
    Calls Try.prog f ar w (NewsEnd w (er, l)) := by
  rw [hP] at h
  exact h
theorem newsP_len {t u : TR} {er : Int} {l : List Ch} (hP : newsP t u = (er, l)) (ht : Few60 t) (hu : Few60 u) (h40 : t.length ≤ 40) (h40' : u.length ≤ 40) : l.length ≤ 17000 := by
  unfold newsP at hP
  split at hP
  · injection hP with _ h
    rw [← h]
    exact Nat.le_trans (news_len ht hu h40 h40') (by decide)
  · injection hP with _ h
    rw [← h]
    exact Nat.zero_le _

end Nw
end Go.Proofs.Ytjhjmfodpnipiaa
