/-
  What the leaf functions of layer 5 return (walks): slices.Equal of lines, May, Same, own, Turn, and the law's Light.
-/
import Derived.Test.YtfjllohhjpiphaaHkMem
import Derived.Test.YtfjllohhjpiphaaGQ
import Derived.Test.YtfjllohhjpiphaaGX
set_option maxRecDepth 100000
namespace Go.Proofs.Ytfjllohhjpiphaa
open Go.RowKit
set_option linter.unusedVariables false
namespace Hk
open Tx Df

set_option maxHeartbeats 400000 in
theorem Equal (A A' : Option Addr) (cap cap' n n' B : Nat) (ls ms : List (List UInt8)) (w : World) (hn : ls.length = n) (hn' : ms.length = n') (hnm : n ≤ maxLen) (hR : RdS w B A ls) (hR' : RdS w B A' ms) :
    Calls Try.prog 58 #[.slice A n cap, .slice A' n' cap'] w (SameEnd w (decide (ls = ms))) := by
  unfold maxLen at hnm
  have HN := Lib.hid hn; clear hn
  have HN' := Lib.hid hn'; clear hn'
  by_cases h1 : n = n'
  · subst h1
    go_enter Try.func58, Try.ntmps58
    go_wp2
    go_loopw [13] (fun i wr => ∃ k : Nat, k ≤ n ∧ i = .int .i64 k ∧ ls.take k = ms.take k ∧ ∃ d, wr = w.drewN d) (fun i _ => n - (intOf i).toNat)
    case atStart => exact ⟨0, Nat.zero_le _, rfl, by simp, 0, rfl⟩
    case round =>
      obtain ⟨k, hk, rfl, hall, d, rfl⟩ := hrel
      have HA := Lib.hid hall; clear hall
      by_cases hlt : k < n
      · have hkl : k < ls.length := by rw [HN.out]; exact hlt
        have hkm : k < ms.length := by rw [HN'.out]; exact hlt
        obtain ⟨a, rfl, hcell⟩ := hR.at' hkl
        obtain ⟨a', rfl, hcell'⟩ := hR'.at' hkm
        have HD := Lib.hid (same_step hkl hkm HA.out)
        have hki : (k : Int) < (n : Int) := by omega
        go_wp2
        go_quiet (fail)
        go_wp2
        · have hb : (!ls[k] == ms[k]) = true := by assumption
          go_ret
          exact ⟨ret_bool (HD.out.1 (by simpa using hb)).symm, d + nq, by simp⟩
        · have hb : (!ls[k] == ms[k]) = false := by assumption
          refine ⟨⟨k + 1, by omega, by go_num, HD.out.2 (by simpa using hb), _, rfl⟩, by simp [intOf]; omega⟩
      · have HD : Hid (decide (ls = ms) = true) := Lib.hid (by
          have := HA.out
          rw [List.take_of_length_le (by rw [HN.out]; omega), List.take_of_length_le (by rw [HN'.out]; omega)] at this
          exact decide_eq_true this)
        go_wp2
        go_ret
        exact ⟨ret_bool HD.out.symm, _, rfl⟩
  · have HD : Hid (decide (ls = ms) = false) := Lib.hid (decide_eq_false (fun e => h1 (by rw [← HN.out, ← HN'.out, e])))
    have hne : ((n : Int) != (n' : Int)) = true := by rw [bne_iff_ne]; omega
    go_enter Try.func58, Try.ntmps58
    go_wp2
    go_ret
    exact ⟨ret_bool HD.out.symm, 0, rfl⟩

/-- How a test of hunks ends. -/
def TestEnd (w : World) (b : Bool) (e : Ending) (w' : World) : Prop := e = .returned (.bool b) ∧ Below w.heap.size w w'

theorem rd_alloc {w : World} {B : Nat} {A : Option Addr} {xs : List Value} (h : Rd w B A xs) (hB : B ≤ w.heap.size) (o : Obj) : Rd (w.alloc o) B A xs := h.below ((Below.refl _ _).alloc hB o)

set_option maxHeartbeats 400000 in
theorem LightH (A : Option Addr) (n c : Nat) (A' : Option Addr) (n' c' B : Nat) (h : HU) (w : World) (hB : B ≤ w.heap.size) (hv : HV w B A n c A' n' c' h) :
    Calls Try.prog 23 #[hkV h.pos A n c A' n' c'] w (TestEnd w (light h.old 300 && light h.new 300)) := by
  obtain ⟨l, l', k, k', m, m', r, r', p⟩ := hv
  have HL := Lib.hid l; have HL' := Lib.hid l'; clear l l'
  obtain ⟨b, hb⟩ : ∃ b, (light h.old 300 && light h.new 300) = b := ⟨_, rfl⟩
  rw [hb]
  have HB := Lib.hid hb; clear hb
  go_enter Try.func23, Try.ntmps23
  go_wp2_with fail
  refine (Light _ _ _ B 300 h.old _ HL.out m (rd_alloc r hB _) (by decide)).mono ?_
  rintro e w' ⟨rfl, rfl⟩
  go_wp2_with fail
  refine (Light _ _ _ B 300 h.new _ HL'.out m' (rd_alloc r' hB _) (by decide)).mono ?_
  rintro e w' ⟨rfl, rfl⟩
  cases ho : light h.old 300 with
  | true =>
    have HO := Lib.hid ho; clear ho
    go_wp2
    go_ret
    exact ⟨ret_bool (by rw [← HB.out, HO.out]; simp), (Below.refl _ _).alloc (Nat.le_refl _) _⟩
  | false =>
    have HO := Lib.hid ho; clear ho
    go_wp2
    go_ret
    exact ⟨ret_bool (by rw [← HB.out, HO.out]; simp), (Below.refl _ _).alloc (Nat.le_refl _) _⟩

set_option maxHeartbeats 400000 in
theorem May (A : Option Addr) (n c : Nat) (A' : Option Addr) (n' c' B : Nat) (h : HU) (w : World) (hB : B ≤ w.heap.size) (hv : HV w B A n c A' n' c' h) :
    Calls Try.prog 43 #[hkV h.pos A n c A' n' c'] w (TestEnd w (mayH h)) := by
  obtain ⟨l, l', k, k', m, m', r, r', p⟩ := hv
  have HL := Lib.hid l; have HL' := Lib.hid l'; clear l l'
  have HM : Hid (mayH h = (decide (0 ≤ h.pos) && decide (h.pos ≤ 1048576) && (allMay h.old && allMay h.new))) := Lib.hid rfl
  have HP := Lib.hid p; clear p
  generalize mayH h = mh at *
  generalize h.pos = q at *
  by_cases h0 : 0 ≤ q
  · by_cases h1 : q ≤ 1048576
    · have HM1 : Hid (mh = (allMay h.old && allMay h.new)) := Lib.hid (by rw [HM.out, decide_eq_true h0, decide_eq_true h1]; rfl)
      clear HM
      cases ho : allMay h.old with
      | true =>
        have HO := Lib.hid ho; clear ho
        go_enter Try.func43, Try.ntmps43
        go_wp2_with fail
        refine (All _ _ _ B h.old _ HL.out (rd_alloc r hB _)).mono ?_
        rw [HO.out]
        rintro e w' ⟨rfl, rfl⟩
        go_wp2_with fail
        refine (All _ _ _ B h.new _ HL'.out (rd_alloc r' hB _)).mono ?_
        rintro e w' ⟨rfl, rfl⟩
        go_wp2
        go_ret
        exact ⟨ret_bool (by rw [HM1.out, HO.out]; simp), (Below.refl _ _).alloc (Nat.le_refl _) _⟩
      | false =>
        have HO := Lib.hid ho; clear ho
        go_enter Try.func43, Try.ntmps43
        go_wp2_with fail
        refine (All _ _ _ B h.old _ HL.out (rd_alloc r hB _)).mono ?_
        rw [HO.out]
        rintro e w' ⟨rfl, rfl⟩
        go_wp2
        go_ret
        exact ⟨ret_bool (by rw [HM1.out, HO.out]; simp), (Below.refl _ _).alloc (Nat.le_refl _) _⟩
    · have HM1 : Hid (mh = false) := Lib.hid (by rw [HM.out, decide_eq_false h1]; simp)
      clear HM
      go_enter Try.func43, Try.ntmps43
      go_wp2
      go_ret
      exact ⟨ret_bool (by rw [HM1.out]), (Below.refl _ _).alloc (Nat.le_refl _) _⟩
  · have HM1 : Hid (mh = false) := Lib.hid (by rw [HM.out, decide_eq_false h0]; simp)
    clear HM
    go_enter Try.func43, Try.ntmps43
    go_wp2
    go_ret
    exact ⟨ret_bool (by rw [HM1.out]), (Below.refl _ _).alloc (Nat.le_refl _) _⟩

/-- Two boxes. -/
theorem below_two (w : World) (o o' : Obj) (d : Nat) : Below w.heap.size w (((w.alloc o).alloc o').drewN d) := below_drewN (((Below.refl _ _).alloc (Nat.le_refl _) o).alloc (by simp) o') d
theorem rd_two {w : World} {B : Nat} {A : Option Addr} {xs : List Value} (h : Rd w B A xs) (hB : B ≤ w.heap.size) (o o' : Obj) (d : Nat) : Rd (((w.alloc o).alloc o').drewN d) B A xs := h.below ((below_two w o o' d).mono hB)

set_option maxHeartbeats 1000000 in
theorem SameH (A : Option Addr) (n c : Nat) (A' : Option Addr) (n' c' : Nat) (D : Option Addr) (m k : Nat) (D' : Option Addr) (m' k' B : Nat) (h g : HU) (w : World) (hB : B ≤ w.heap.size) (hv : HV w B A n c A' n' c' h) (gv : HV w B D m k D' m' k' g) :
    Calls Try.prog 38 #[hkV h.pos A n c A' n' c', hkV g.pos D m k D' m' k'] w (TestEnd w (sameH h g)) := by
  have HL := Lib.hid hv.l; have HL' := Lib.hid hv.l'; have GL := Lib.hid gv.l; have GL' := Lib.hid gv.l'
  have hm := hv.m; have hm' := hv.m'
  have R := Lib.hid hv.r; have R' := Lib.hid hv.r'; have Q := Lib.hid gv.r; have Q' := Lib.hid gv.r'
  clear hv gv
  obtain ⟨b, hb⟩ : ∃ b, sameH h g = b := ⟨_, rfl⟩
  rw [hb]
  have HS : Hid (b = (decide (h.pos = g.pos) && (decide (h.old = g.old) && decide (h.new = g.new)))) := Lib.hid (by rw [← hb]; rfl)
  clear hb
  generalize h.pos = p at *
  generalize g.pos = q at *
  by_cases hp : p = q
  · subst hp
    have HS1 : Hid (b = (decide (h.old = g.old) && decide (h.new = g.new))) := Lib.hid (by rw [HS.out, decide_eq_true rfl]; rfl)
    clear HS
    go_enter Try.func38, Try.ntmps38
    go_wp2_with fail
    refine (Equal _ _ _ _ _ _ B h.old g.old _ HL.out GL.out hm (rd_two R.out hB _ _ 0) (rd_two Q.out hB _ _ 0)).mono ?_
    rintro e w' ⟨rfl, d, rfl⟩
    cases ho : decide (h.old = g.old) with
    | true =>
      have HO := Lib.hid ho; clear ho
      go_wp2_with fail
      refine (Equal _ _ _ _ _ _ B h.new g.new _ HL'.out GL'.out hm' (rd_two R'.out hB _ _ _) (rd_two Q'.out hB _ _ _)).mono ?_
      rintro e w' ⟨rfl, d', rfl⟩
      go_wp2
      go_ret
      exact ⟨ret_bool (by rw [HS1.out, HO.out]; simp), by simpa using below_two w _ _ _⟩
    | false =>
      have HO := Lib.hid ho; clear ho
      go_wp2
      go_ret
      exact ⟨ret_bool (by rw [HS1.out, HO.out]; simp), by simpa using below_two w _ _ _⟩
  · have HS1 : Hid (b = false) := Lib.hid (by rw [HS.out, decide_eq_false hp]; rfl)
    clear HS
    have hne : (p == q) = false := by rw [beq_eq_false_iff_ne]; exact hp
    clear hp
    go_enter Try.func38, Try.ntmps38
    go_wp2
    go_ret
    exact ⟨ret_bool (by rw [HS1.out]), ((Below.refl _ _).alloc (Nat.le_refl _) _).alloc (by simp) _⟩

theorem own (A : Option Addr) (c n B : Nat) (ls : List (List UInt8)) (w : World) (hn : ls.length = n) (hln : n ≤ 1000000) (hR : RdS w B A ls) :
    Calls Try.prog 63 #[.slice A n c] w (OwnEnd w n (ls.map strV)) := by
  obtain ⟨j0, hj, hy0, hy1, hy2⟩ := info_parts info_str
  have HN := Lib.hid hn; clear hn
  go_enter Try.func63, Try.ntmps63
  go_wp2_with (at_builtin; refine wpList_nil' rfl (.const (.slice none 0 0)) (.tmp 3) 22 rfl 9 j0 (.string ⟨#[]⟩) 16 Try.underlying22 hj hy0 hy1 hy2 rfl rfl B A n c (ls.map strV) rfl (by rw [List.length_map]; exact HN.out) hR (strs_one _) (by unfold maxLen; omega) (by omega) ?_; intro A' c' w' hA hg)
  go_ret
  exact ⟨A', c', rfl, hA, hg⟩

end Hk
end Go.Proofs.Ytfjllohhjpiphaa
