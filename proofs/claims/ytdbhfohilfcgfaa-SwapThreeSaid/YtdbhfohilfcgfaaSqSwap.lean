/-
  What slices.Clone and Swap of layer 2 return for every lists of at most 1000 lines (walks): a list in memory that may be appended to, and true; or nothing and false. Nothing that was there is written.
-/
import Derived.Test.YtdbhfohilfcgfaaSqHas
namespace Go.Proofs.Ytdbhfohilfcgfaa
open Go.RowKit
set_option linter.unusedVariables false
namespace Sq
open Tx

/-- How Clone ends. -/
def CloneEnd (w : World) (ls : List (List UInt8)) (n : Nat) (e : Ending) (w' : World) : Prop :=
  ∃ v, e = .returned v ∧ App w' w.heap.size 9 v n (ls.map strV) ∧ Below w.heap.size w w'

set_option maxHeartbeats 400000 in
theorem Clone (A : Option Addr) (cap n B : Nat) (ls : List (List UInt8)) (w : World) (hn : ls.length = n) (hnm : n ≤ 1000) (hB : B ≤ w.heap.size) (hR : RdS w B A ls) :
    Calls Try.prog 36 #[.slice A n cap] w (CloneEnd w ls n) := by
  obtain ⟨j0, hj, hy0, hy1, hy2⟩ := info_parts info_str
  have q := fun (w : World) (a : Option Addr) (n c n' c' : Nat) => Lib.run_eql_slice_nil (P := Try.prog) w 47 9 a n c n' c' Try.underlying47
  have HN := Lib.hid hn; clear hn
  cases A with
  | none =>
    have hnil := hR.none_nil
    have hl0 : ls = [] := by simpa using hnil
    have hn0 : n = 0 := by rw [← HN.out, hl0]; rfl
    subst hl0
    subst hn0
    go_enter Try.func36, Try.ntmps36
    go_wp2
    go_ret
    exact ⟨_, rfl, app_nil _ _ _, Below.refl _ _⟩
  | some a =>
    go_enter Try.func36, Try.ntmps36
    go_wp2_with (at_builtin; refine wpList_app rfl (.tmp 5) (.tmp 6) 47 rfl w.heap.size 9 j0 (.string ⟨#[]⟩) 16 Try.underlying47 hj hy0 hy1 hy2 rfl (.slice (some ⟨w.heap.size, 0, none⟩) 0 0) 0 [] rfl ⟨_, 0, rfl, Nat.le_refl _, rfl, .inl rfl, .inl rfl⟩ B (some a) n cap (ls.map strV) rfl (by rw [List.length_map]; exact HN.out) (hR.below ((Below.refl _ _).alloc hB _)) (strs_one _) (by unfold maxLen; omega) (by omega) (by simp) ?_; intro v' w' hA hBl; simp only [Nat.zero_add, List.nil_append] at hA)
    go_ret
    exact ⟨_, rfl, hA, ((Below.refl _ _).alloc (Nat.le_refl _) _).trans hBl⟩

/-- How a Swap ends that is one: the list, and true. -/
def SwapEnd (w : World) (xs : List (List UInt8)) (e : Ending) (w' : World) : Prop :=
  ∃ v, e = .returned (.tuple #[v, .bool true]) ∧ App w' w.heap.size 9 v xs.length (xs.map strV) ∧ Below w.heap.size w w'
/-- How a Swap ends that is none. -/
def NoneEnd (w : World) (e : Ending) (w' : World) : Prop := e = .returned (.tuple #[.slice none 0 0, .bool false]) ∧ ∃ d, w' = w.drewN d

set_option maxHeartbeats 400000 in
theorem swap_no (A A' A2 : Option Addr) (cap cap' cap2 n n' n2 B : Nat) (i : Int) (ls ms : List (List UInt8)) (w : World) (hn : ls.length = n) (hn' : ms.length = n') (hc : n ≤ cap) (hnm : n ≤ maxLen) (hnm' : n' ≤ maxLen) (hR : RdS w B A ls) (hR' : RdS w B A' ms) (hh : has ls i ms = false) :
    Calls Try.prog 32 #[.slice A n cap, .int .i64 i, .slice A' n' cap', .slice A2 n2 cap2] w (NoneEnd w) := by
  have HN := Lib.hid hn; clear hn
  have HN' := Lib.hid hn'; clear hn'
  have HH := Lib.hid hh; clear hh
  go_enter Try.func32, Try.ntmps32
  go_wp2_with fail
  refine (Has A A' cap cap' n n' B i ls ms w HN.out HN'.out hc hnm hnm' hR hR').mono ?_
  rw [HH.out]
  rintro e w' ⟨rfl, d, rfl⟩
  go_wp2
  go_ret2
  exact ⟨rfl, _, rfl⟩

set_option maxHeartbeats 1000000 in
theorem swap_yes (A A' A2 : Option Addr) (cap cap' cap2 n n' n2 B k : Nat) (ls ms ns : List (List UInt8)) (w : World) (hn : ls.length = n) (hn' : ms.length = n') (hn2 : ns.length = n2) (hc : n ≤ cap) (hnm : n ≤ 1000) (hnm' : n' ≤ 1000) (hnm2 : n2 ≤ 1000) (hB : B ≤ w.heap.size)
    (hR : RdS w B A ls) (hR' : RdS w B A' ms) (hR2 : RdS w B A2 ns) (hh : has ls k ms = true) :
    Calls Try.prog 32 #[.slice A n cap, .int .i64 k, .slice A' n' cap', .slice A2 n2 cap2] w (SwapEnd w (swp ls k n' ns)) := by
  obtain ⟨j0, hj, hy0, hy1, hy2⟩ := info_parts info_str
  have hkn := (has_len hh).2
  rw [Int.toNat_natCast, hn, hn'] at hkn
  have HN := Lib.hid hn; clear hn
  have HN' := Lib.hid hn'; clear hn'
  have HN2 := Lib.hid hn2; clear hn2
  have HH := Lib.hid hh; clear hh
  have hm1 : n ≤ maxLen := by unfold maxLen; omega
  have hm2 : n' ≤ maxLen := by unfold maxLen; omega
  go_enter Try.func32, Try.ntmps32
  go_wp2_with fail
  refine (Has A A' cap cap' n n' B k ls ms w HN.out HN'.out hc hm1 hm2 hR hR').mono ?_
  rw [HH.out]
  rintro e w' ⟨rfl, d, rfl⟩
  go_wp2_with fail
  refine (Clone A cap n B ls _ HN.out hnm (by simpa using hB) (hR.drewN _)).mono ?_
  rintro e w1 ⟨v1, rfl, ⟨A1, c1, rfl, hc1, _, hR1, _⟩, hB1⟩
  have hB0 : Below w.heap.size w w1 := (below_drewN (Below.refl _ w) d).trans hB1
  clear hB1
  go_wp2_with fail
  have HL1 : Hid (((ls.map strV).take k).length = k) := Lib.hid (by rw [List.length_take, List.length_map, HN.out]; omega)
  have HL2 : Hid ((ns.map strV).length = n2) := Lib.hid (by rw [List.length_map]; exact HN2.out)
  have HL3 : Hid (((ls.map strV).drop (k + n')).length = n - (k + n')) := Lib.hid (by rw [List.length_drop, List.length_map, HN.out])
  have HL4 : Hid (∀ u ∈ (ls.map strV).drop (k + n'), u.oneCell' = true) := Lib.hid (fun u hu => strs_one ls u (List.mem_of_mem_drop hu))
  have HL5 : Hid ((swp ls k n' ns).length = k + n2 + (n - (k + n'))) := Lib.hid (by simp only [swp, List.length_append, List.length_take, List.length_drop, HN.out, HN2.out]; omega)
  have HL6 : Hid ((swp ls k n' ns).map strV = (ls.map strV).take k ++ ns.map strV ++ (ls.map strV).drop (k + n')) := Lib.hid (by simp [swp])
  have hT := Rd.drop hR1 (k := k + n') (cap := c1) (by rw [List.length_map, HN.out]; exact hc1)
  by_cases hck : c1 = k + n'
  · rw [if_pos hck] at hT
    go_quiet (fail)
    go_wp2_with (first
      | (at_builtin; refine wpList_app rfl (.tmp 30) (.tmp 31) 47 rfl w1.heap.size 9 j0 (.string ⟨#[]⟩) 16 Try.underlying47 hj hy0 hy1 hy2 rfl (.slice A1 k k) k ((ls.map strV).take k) rfl ⟨A1, k, rfl, Nat.le_refl _, HL1.out, (hR1.take k).drewN _, .inl rfl⟩ B A2 n2 cap2 (ns.map strV) rfl HL2.out ((hR2.below (hB0.mono hB)).drewN _) (strs_one _) (by unfold maxLen; omega) (by omega) (Nat.le_refl _) ?_; intro v3 w3 hA3 hB3; have hT3 := (hT.drewN nq).below hB3)
      | (at_builtin; refine wpList_app rfl (.tmp 32) (.tmp 33) 47 rfl w1.heap.size 9 j0 (.string ⟨#[]⟩) 16 Try.underlying47 hj hy0 hy1 hy2 rfl v3 (k + n2) _ rfl hA3 w1.heap.size _ (n - (k + n')) _ ((ls.map strV).drop (k + n')) rfl HL3.out hT3 HL4.out (by unfold maxLen; omega) (by omega) hB3.size ?_; intro v4 w4 hA4 hB4))
    go_ret2
    refine ⟨_, rfl, ?_, hB0.trans ((below_drewN (Below.refl _ w1) nq).trans (hB3.trans hB4) |>.mono hB0.size)⟩
    rw [HL5.out, HL6.out]
    exact app_mono hA4 hB0.size
  · rw [if_neg hck] at hT
    go_quiet (fail)
    go_wp2_with (first
      | (at_builtin; refine wpList_app rfl (.tmp 30) (.tmp 31) 47 rfl w1.heap.size 9 j0 (.string ⟨#[]⟩) 16 Try.underlying47 hj hy0 hy1 hy2 rfl (.slice A1 k k) k ((ls.map strV).take k) rfl ⟨A1, k, rfl, Nat.le_refl _, HL1.out, (hR1.take k).drewN _, .inl rfl⟩ B A2 n2 cap2 (ns.map strV) rfl HL2.out ((hR2.below (hB0.mono hB)).drewN _) (strs_one _) (by unfold maxLen; omega) (by omega) (Nat.le_refl _) ?_; intro v3 w3 hA3 hB3; have hT3 := (hT.drewN nq).below hB3)
      | (at_builtin; refine wpList_app rfl (.tmp 32) (.tmp 33) 47 rfl w1.heap.size 9 j0 (.string ⟨#[]⟩) 16 Try.underlying47 hj hy0 hy1 hy2 rfl v3 (k + n2) _ rfl hA3 w1.heap.size _ (n - (k + n')) _ ((ls.map strV).drop (k + n')) rfl HL3.out hT3 HL4.out (by unfold maxLen; omega) (by omega) hB3.size ?_; intro v4 w4 hA4 hB4))
    go_ret2
    refine ⟨_, rfl, ?_, hB0.trans ((below_drewN (Below.refl _ w1) nq).trans (hB3.trans hB4) |>.mono hB0.size)⟩
    rw [HL5.out, HL6.out]
    exact app_mono hA4 hB0.size

end Sq
end Go.Proofs.Ytdbhfohilfcgfaa
