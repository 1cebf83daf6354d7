/-
  Words and contracts, joined: HkMem HkOpen HkLeaf HkApply HkLaw HkTurn HkRef.
-/
import Derived.Test.YtjhjmfodpnipiaaGQ
import Derived.Test.YtjhjmfodpnipiaaGP
import Derived.Lib.SmallJoins
import Derived.Test.YtjhjmfodpnipiaaGX
import Derived.Test.YtjhjmfodpnipiaaGS
import Derived.Deep.RegionHeld3
set_option maxRecDepth 100000
namespace Go.Proofs.Ytjhjmfodpnipiaa
open Go.RowKit
set_option linter.unusedVariables false
namespace Hk
open Tx Df

abbrev HU : Type := Hu (List UInt8)

/-- The value of a hunk. -/
abbrev hkV (p : Int) (A : Option Addr) (n c : Nat) (A' : Option Addr) (n' c' : Nat) : Value := .agg #[.int .i64 p, .slice A n c, .slice A' n' c']

/-- Two slice values that read, below block B, as a hunk's lines. -/
structure HV (w : World) (B : Nat) (A : Option Addr) (n c : Nat) (A' : Option Addr) (n' c' : Nat) (h : HU) : Prop where
  l : h.old.length = n
  l' : h.new.length = n'
  k : n ≤ c
  k' : n' ≤ c'
  m : n ≤ maxLen
  m' : n' ≤ maxLen
  r : RdS w B A h.old
  r' : RdS w B A' h.new
  p : I64 h.pos

/-- The cells of a hunk at the address a, its lines below block B. -/
structure HkAt (w : World) (B : Nat) (a : Addr) (k : Nat) (h : HU) : Prop where
  c0 : w.cell? (a.add (k * 3)) = some (.int .i64 h.pos)
  c1 : ∃ A c A' c', w.cell? ⟨(a.add (k * 3)).block, (a.add (k * 3)).off + 1, none⟩ = some (.slice A h.old.length c) ∧ w.cell? ⟨(a.add (k * 3)).block, (a.add (k * 3)).off + 2, none⟩ = some (.slice A' h.new.length c') ∧ HV w B A h.old.length c A' h.new.length c' h

/-- The address A leads, below block B, to hunks; or there are none. -/
def RdH (w : World) (B : Nat) (A : Option Addr) (hs : List HU) : Prop :=
  hs = [] ∨ ∃ a, A = some a ∧ a.block < B ∧ ∀ (k : Nat) x, hs[k]? = some x → HkAt w B a k x

section
variable {w w' : World} {B B' : Nat} {A A' : Option Addr} {n c n' c' : Nat} {h : HU} {hs : List HU}
theorem HV.below (v : HV w B A n c A' n' c' h) (hb : Below B w w') : HV w' B A n c A' n' c' h := ⟨v.l, v.l', v.k, v.k', v.m, v.m', Rd.below v.r hb, Rd.below v.r' hb, v.p⟩
theorem HV.up (v : HV w B A n c A' n' c' h) (hB : B ≤ B') : HV w B' A n c A' n' c' h := ⟨v.l, v.l', v.k, v.k', v.m, v.m', Rd.up v.r hB, Rd.up v.r' hB, v.p⟩
theorem HV.drewN (v : HV w B A n c A' n' c' h) (d : Nat) : HV (w.drewN d) B A n c A' n' c' h := ⟨v.l, v.l', v.k, v.k', v.m, v.m', Rd.drewN v.r d, Rd.drewN v.r' d, v.p⟩
theorem HV.turn (v : HV w B A n c A' n' c' h) : HV w B A' n' c' A n c (turn h) := ⟨v.l', v.l, v.k', v.k, v.m', v.m, v.r', v.r, v.p⟩
theorem HkAt.below {a : Addr} {k : Nat} (x : HkAt w B a k h) (ha : a.block < B) (hb : Below B w w') : HkAt w' B a k h := by
  obtain ⟨c0, A, c, A', c', c1, c2, v⟩ := x
  exact ⟨(hb.cell (by rw [add_block]; exact ha)).trans c0, A, c, A', c', (hb.cell (by show (a.add (k * 3)).block < B; rw [add_block]; exact ha)).trans c1, (hb.cell (by show (a.add (k * 3)).block < B; rw [add_block]; exact ha)).trans c2, v.below hb⟩
theorem HkAt.up {a : Addr} {k : Nat} (x : HkAt w B a k h) (hB : B ≤ B') : HkAt w B' a k h := by
  obtain ⟨c0, A, c, A', c', c1, c2, v⟩ := x
  exact ⟨c0, A, c, A', c', c1, c2, v.up hB⟩
theorem RdH.below (h : RdH w B A hs) (hb : Below B w w') : RdH w' B A hs := by
  rcases h with h | ⟨a, e, hlt, hc⟩
  · exact .inl h
  · exact .inr ⟨a, e, hlt, fun k x hx => (hc k x hx).below hlt hb⟩
theorem RdH.up (h : RdH w B A hs) (hB : B ≤ B') : RdH w B' A hs := by
  rcases h with h | ⟨a, e, hlt, hc⟩
  · exact .inl h
  · exact .inr ⟨a, e, by omega, fun k x hx => (hc k x hx).up hB⟩
theorem RdH.at_ (h : RdH w B A hs) {k : Nat} (hk : k < hs.length) : ∃ a, A = some a ∧ a.block < B ∧ HkAt w B a k hs[k] := by
  rcases h with rfl | ⟨a, e, hlt, hc⟩
  · exact absurd hk (by simp)
  · exact ⟨a, e, hlt, hc k _ (List.getElem?_eq_getElem hk)⟩
end

def mayH (h : HU) : Bool := decide (0 ≤ h.pos) && decide (h.pos ≤ 1048576) && (allMay h.old && allMay h.new)
def sameH (g h : HU) : Bool := decide (g.pos = h.pos) && (decide (g.old = h.old) && decide (g.new = h.new))

theorem below_box {w w' : World} (o : Obj) (h : Below (w.alloc o).heap.size (w.alloc o) w') : Below w.heap.size w w' := ((Below.refl _ _).alloc (Nat.le_refl _) o).trans (h.mono (by simp))

end Hk
end Go.Proofs.Ytjhjmfodpnipiaa

namespace Go.Proofs.Ytjhjmfodpnipiaa
open Go.ChangeShapes Go.WideShapes Go.ChangeAt Go.RowKit Go.Deep Go.Joins
set_option linter.unusedVariables false
namespace Hk
open Tx Df

section
variable {H : Type} {enc : TypeId × Value → H} {W : World} {base : Nat} {spare : Nat → Bool} {held : Bool}

theorem hunk_in {r : Reach} {b0 : Nat} {v : Value} {d : DataW H} {p : List MemPlace} (hv : Value.okWide Try.prog W r b0 37 v) (h : DataW.Trod enc Try.prog W base spare held 37 v d p) :
    ∃ A n c A' n' c' h, v = hkV h.pos A n c A' n' c' ∧ HV W W.heap.size A n c A' n' c' h := by
  obtain ⟨v0, v1, v2, y0, y1, y2, m, rfl, _, _, h0, h1, h2⟩ := open_agg3 Try.underlying37 (by kernel_rfl) (by kernel_rfl) hv h
  obtain ⟨q, e0, _, w0⟩ := DataW.trod_int Try.underlying3 h0
  injection e0 with e0
  subst e0
  obtain ⟨A, n, c, l, rfl, s⟩ := strs_any h1
  obtain ⟨A', n', c', l', rfl, s'⟩ := strs_any h2
  exact ⟨A, n, c, A', n', c', ⟨q, l, l'⟩, rfl, ⟨s.len, s'.len, s.cap, s'.cap, s.le, s'.le, s.rd, s'.rd, i64_wf w0⟩⟩
end

end Hk
end Go.Proofs.Ytjhjmfodpnipiaa

namespace Go.Proofs.Ytjhjmfodpnipiaa
open Go.RowKit
set_option linter.unusedVariables false
namespace Hk
open Tx Df

set_option maxHeartbeats 400000 in
theorem Equal (A A' : Option Addr) (cap cap' n n' B : Nat) (ls ms : List (List UInt8)) (w : World) (hn : ls.length = n) (hn' : ms.length = n') (hnm : n ≤ maxLen) (hR : RdS w B A ls) (hR' : RdS w B A' ms) :
    Calls Try.prog 51 #[.slice A n cap, .slice A' n' cap'] w (SameEnd w (decide (ls = ms))) := by
  unfold maxLen at hnm
  have HN := Lib.hid hn; clear hn
  have HN' := Lib.hid hn'; clear hn'
  by_cases h1 : n = n'
  · subst h1
    go_enter Try.func51, Try.ntmps51
    go_wp2
    go_loopw [13] (fun i wr => ∃ k : Nat, k ≤ n ∧ i = .int .i64 k ∧ ls.take k = ms.take k ∧ ∃ d, wr = w.drewN d) (fun i _ => n - (intOf i).toNat)
    case atStart => exact ⟨0, Nat.zero_le _, rfl, by simp, 0, rfl⟩
    case round =>
      obtain ⟨k, hk, rfl, hall, d, rfl⟩ := hrel
      have HA := Lib.hid hall; clear hall
      by_cases hlt : k < n
      · have hkl : k < ls.length := by rw [HN.out]; exact hlt
        have hkm : k < ms.length := by rw [HN'.out]; exact hlt
        obtain ⟨a, rfl, hcell⟩ := hR.at' hkl
        obtain ⟨a', rfl, hcell'⟩ := hR'.at' hkm
        have HD := Lib.hid (same_step hkl hkm HA.out)
        have hki : (k : Int) < (n : Int) := by omega
        go_wp2
        go_quiet (fail)
        go_wp2
        · have hb : (!ls[k] == ms[k]) = true := by assumption
          go_ret
          exact ⟨ret_bool (HD.out.1 (by simpa using hb)).symm, d + nq, by simp⟩
        · have hb : (!ls[k] == ms[k]) = false := by assumption
          refine ⟨⟨k + 1, by omega, by go_num, HD.out.2 (by simpa using hb), _, rfl⟩, by simp [intOf]; omega⟩
      · have HD : Hid (decide (ls = ms) = true) := Lib.hid (by
          have := HA.out
          rw [List.take_of_length_le (by rw [HN.out]; omega), List.take_of_length_le (by rw [HN'.out]; omega)] at this
          exact decide_eq_true this)
        go_wp2
        go_ret
        exact ⟨ret_bool HD.out.symm, _, rfl⟩
  · have HD : Hid (decide (ls = ms) = false) := Lib.hid (decide_eq_false (fun e => h1 (by rw [← HN.out, ← HN'.out, e])))
    have hne : ((n : Int) != (n' : Int)) = true := by rw [bne_iff_ne]; omega
    go_enter Try.func51, Try.ntmps51
    go_wp2
    go_ret
    exact ⟨ret_bool HD.out.symm, 0, rfl⟩

/-- How a test of hunks ends. -/
def TestEnd (w : World) (b : Bool) (e : Ending) (w' : World) : Prop := e = .returned (.bool b) ∧ Below w.heap.size w w'

theorem rd_alloc {w : World} {B : Nat} {A : Option Addr} {xs : List Value} (h : Rd w B A xs) (hB : B ≤ w.heap.size) (o : Obj) : Rd (w.alloc o) B A xs := h.below ((Below.refl _ _).alloc hB o)

set_option maxHeartbeats 400000 in
theorem May (A : Option Addr) (n c : Nat) (A' : Option Addr) (n' c' B : Nat) (h : HU) (w : World) (hB : B ≤ w.heap.size) (hv : HV w B A n c A' n' c' h) :
    Calls Try.prog 77 #[hkV h.pos A n c A' n' c'] w (TestEnd w (mayH h)) := by
  obtain ⟨l, l', k, k', m, m', r, r', p⟩ := hv
  have HL := Lib.hid l; have HL' := Lib.hid l'; clear l l'
  have HM : Hid (mayH h = (decide (0 ≤ h.pos) && decide (h.pos ≤ 1048576) && (allMay h.old && allMay h.new))) := Lib.hid rfl
  have HP := Lib.hid p; clear p
  generalize mayH h = mh at *
  generalize h.pos = q at *
  by_cases h0 : 0 ≤ q
  · by_cases h1 : q ≤ 1048576
    · have HM1 : Hid (mh = (allMay h.old && allMay h.new)) := Lib.hid (by rw [HM.out, decide_eq_true h0, decide_eq_true h1]; rfl)
      clear HM
      cases ho : allMay h.old with
      | true =>
        have HO := Lib.hid ho; clear ho
        go_enter Try.func77, Try.ntmps77
        go_wp2_with fail
        refine (All _ _ _ B h.old _ HL.out (rd_alloc r hB _)).mono ?_
        rw [HO.out]
        rintro e w' ⟨rfl, rfl⟩
        go_wp2_with fail
        refine (All _ _ _ B h.new _ HL'.out (rd_alloc r' hB _)).mono ?_
        rintro e w' ⟨rfl, rfl⟩
        go_wp2
        go_ret
        exact ⟨ret_bool (by rw [HM1.out, HO.out]; simp), (Below.refl _ _).alloc (Nat.le_refl _) _⟩
      | false =>
        have HO := Lib.hid ho; clear ho
        go_enter Try.func77, Try.ntmps77
        go_wp2_with fail
        refine (All _ _ _ B h.old _ HL.out (rd_alloc r hB _)).mono ?_
        rw [HO.out]
        rintro e w' ⟨rfl, rfl⟩
        go_wp2
        go_ret
        exact ⟨ret_bool (by rw [HM1.out, HO.out]; simp), (Below.refl _ _).alloc (Nat.le_refl _) _⟩
    · have HM1 : Hid (mh = false) := Lib.hid (by rw [HM.out, decide_eq_false h1]; simp)
      clear HM
      go_enter Try.func77, Try.ntmps77
      go_wp2
      go_ret
      exact ⟨ret_bool (by rw [HM1.out]), (Below.refl _ _).alloc (Nat.le_refl _) _⟩
  · have HM1 : Hid (mh = false) := Lib.hid (by rw [HM.out, decide_eq_false h0]; simp)
    clear HM
    go_enter Try.func77, Try.ntmps77
    go_wp2
    go_ret
    exact ⟨ret_bool (by rw [HM1.out]), (Below.refl _ _).alloc (Nat.le_refl _) _⟩

/-- Two boxes. -/
theorem below_two (w : World) (o o' : Obj) (d : Nat) : Below w.heap.size w (((w.alloc o).alloc o').drewN d) := below_drewN (((Below.refl _ _).alloc (Nat.le_refl _) o).alloc (by simp) o') d
theorem rd_two {w : World} {B : Nat} {A : Option Addr} {xs : List Value} (h : Rd w B A xs) (hB : B ≤ w.heap.size) (o o' : Obj) (d : Nat) : Rd (((w.alloc o).alloc o').drewN d) B A xs := h.below ((below_two w o o' d).mono hB)

set_option maxHeartbeats 1000000 in
theorem SameH (A : Option Addr) (n c : Nat) (A' : Option Addr) (n' c' : Nat) (D : Option Addr) (m k : Nat) (D' : Option Addr) (m' k' B : Nat) (h g : HU) (w : World) (hB : B ≤ w.heap.size) (hv : HV w B A n c A' n' c' h) (gv : HV w B D m k D' m' k' g) :
    Calls Try.prog 72 #[hkV h.pos A n c A' n' c', hkV g.pos D m k D' m' k'] w (TestEnd w (sameH h g)) := by
  have HL := Lib.hid hv.l; have HL' := Lib.hid hv.l'; have GL := Lib.hid gv.l; have GL' := Lib.hid gv.l'
  have hm := hv.m; have hm' := hv.m'
  have R := Lib.hid hv.r; have R' := Lib.hid hv.r'; have Q := Lib.hid gv.r; have Q' := Lib.hid gv.r'
  clear hv gv
  obtain ⟨b, hb⟩ : ∃ b, sameH h g = b := ⟨_, rfl⟩
  rw [hb]
  have HS : Hid (b = (decide (h.pos = g.pos) && (decide (h.old = g.old) && decide (h.new = g.new)))) := Lib.hid (by rw [← hb]; rfl)
  clear hb
  generalize h.pos = p at *
  generalize g.pos = q at *
  by_cases hp : p = q
  · subst hp
    have HS1 : Hid (b = (decide (h.old = g.old) && decide (h.new = g.new))) := Lib.hid (by rw [HS.out, decide_eq_true rfl]; rfl)
    clear HS
    go_enter Try.func72, Try.ntmps72
    go_wp2_with fail
    refine (Equal _ _ _ _ _ _ B h.old g.old _ HL.out GL.out hm (rd_two R.out hB _ _ 0) (rd_two Q.out hB _ _ 0)).mono ?_
    rintro e w' ⟨rfl, d, rfl⟩
    cases ho : decide (h.old = g.old) with
    | true =>
      have HO := Lib.hid ho; clear ho
      go_wp2_with fail
      refine (Equal _ _ _ _ _ _ B h.new g.new _ HL'.out GL'.out hm' (rd_two R'.out hB _ _ _) (rd_two Q'.out hB _ _ _)).mono ?_
      rintro e w' ⟨rfl, d', rfl⟩
      go_wp2
      go_ret
      exact ⟨ret_bool (by rw [HS1.out, HO.out]; simp), by simpa using below_two w _ _ _⟩
    | false =>
      have HO := Lib.hid ho; clear ho
      go_wp2
      go_ret
      exact ⟨ret_bool (by rw [HS1.out, HO.out]; simp), by simpa using below_two w _ _ _⟩
  · have HS1 : Hid (b = false) := Lib.hid (by rw [HS.out, decide_eq_false hp]; rfl)
    clear HS
    have hne : (p == q) = false := by rw [beq_eq_false_iff_ne]; exact hp
    clear hp
    go_enter Try.func72, Try.ntmps72
    go_wp2
    go_ret
    exact ⟨ret_bool (by rw [HS1.out]), ((Below.refl _ _).alloc (Nat.le_refl _) _).alloc (by simp) _⟩

theorem own (A : Option Addr) (c n B : Nat) (ls : List (List UInt8)) (w : World) (hn : ls.length = n) (hln : n ≤ 1000000) (hR : RdS w B A ls) :
    Calls Try.prog 81 #[.slice A n c] w (OwnEnd w n (ls.map strV)) := by
  obtain ⟨j0, hj, hy0, hy1, hy2⟩ := info_parts info_str
  have HN := Lib.hid hn; clear hn
  go_enter Try.func81, Try.ntmps81
  go_wp2_with (at_builtin; refine wpList_nil' rfl (.const (.slice none 0 0)) (.tmp 3) 33 rfl 9 j0 (.string ⟨#[]⟩) 16 Try.underlying33 hj hy0 hy1 hy2 rfl rfl B A n c (ls.map strV) rfl (by rw [List.length_map]; exact HN.out) hR (strs_one _) (by unfold maxLen; omega) (by omega) ?_; intro A' c' w' hA hg)
  go_ret
  exact ⟨A', c', rfl, hA, hg⟩

end Hk
end Go.Proofs.Ytjhjmfodpnipiaa

namespace Go.Proofs.Ytjhjmfodpnipiaa
open Go.RowKit
set_option linter.unusedVariables false
namespace Hk
open Tx Df Sq

/-- The error that Apply answers, and the list. -/
def applyE (l : List (List UInt8)) (h : HU) : Int := if mayH h then (if has l h.pos h.old then 0 else 5) else 1
def applyL (l : List (List UInt8)) (h : HU) : List (List UInt8) := if mayH h && has l h.pos h.old then swp l h.pos.toNat h.old.length h.new else []
theorem applyL_len {l : List (List UInt8)} {h : HU} : (applyL l h).length ≤ l.length + h.new.length := by
  unfold applyL
  split
  · simp only [swp, List.length_append, List.length_take, List.length_drop]; omega
  · simp

def ApplyEnd (w : World) (l : List (List UInt8)) (h : HU) (e : Ending) (w' : World) : Prop :=
  ∃ A k c, e = .returned (.tuple #[.slice A k c, .int .i64 (applyE l h)]) ∧ k ≤ c ∧ (applyL l h).length = k ∧ RdS w' w'.heap.size A (applyL l h) ∧ Below w.heap.size w w'

theorem applyEnd_none {w w' : World} {l : List (List UInt8)} {h : HU} {r : Int} (he : applyE l h = r) (hl : applyL l h = []) (hb : Below w.heap.size w w') : ApplyEnd w l h (.returned (.tuple #[.slice none 0 0, .int .i64 r])) w' :=
  ⟨none, 0, 0, by rw [he], Nat.le_refl _, by rw [hl]; rfl, .inl (by rw [hl]; rfl), hb⟩

theorem mayH_new {h : HU} (hm : mayH h = true) : h.new.length ≤ 200 := by
  unfold mayH allMay at hm
  simp only [Bool.and_eq_true, decide_eq_true_eq] at hm
  omega
theorem mayH_old {h : HU} (hm : mayH h = true) : h.old.length ≤ 200 := by
  unfold mayH allMay at hm
  simp only [Bool.and_eq_true, decide_eq_true_eq] at hm
  omega

end Hk
end Go.Proofs.Ytjhjmfodpnipiaa

namespace Go.Proofs.Ytjhjmfodpnipiaa
open Go.RowKit
set_option linter.unusedVariables false
namespace Hk
open Tx Df Sq

theorem mayH_turn (h : HU) : mayH (turn h) = mayH h := by
  unfold mayH turn
  simp only
  rw [Bool.and_comm (allMay h.new)]
theorem sameH_self (h : HU) : sameH h h = true := by simp [sameH]
theorem applyE_cases (l : List (List UInt8)) (h : HU) : (applyE l h = 1 ∧ applyL l h = [] ∧ mayH h = false) ∨ (applyE l h = 5 ∧ applyL l h = [] ∧ mayH h = true ∧ has l h.pos h.old = false) ∨ (applyE l h = 0 ∧ applyL l h = swp l h.pos.toNat h.old.length h.new ∧ mayH h = true ∧ has l h.pos h.old = true) := by
  unfold applyE applyL
  cases mayH h <;> cases has l h.pos h.old <;> simp
theorem apply_done {l : List (List UInt8)} {h : HU} (he : applyE l h = 0) : done l h = some (applyL l h) := by
  rcases applyE_cases l h with ⟨h1, _⟩ | ⟨h1, _⟩ | ⟨_, h2, _, h4⟩
  · omega
  · omega
  · rw [done_yes h4, h2]
theorem done_apply {l m : List (List UInt8)} {h : HU} (hm : mayH h = true) (hd : done l h = some m) : applyE l h = 0 ∧ applyL l h = m := by
  obtain ⟨h1, h2⟩ := done_some hd
  unfold applyE applyL
  simp [hm, h1, h2]
theorem apply_back {l : List (List UInt8)} {h : HU} (he : applyE l h = 0) : applyE (applyL l h) (turn h) = 0 ∧ applyL (applyL l h) (turn h) = l := by
  have hm : mayH h = true := by
    rcases applyE_cases l h with ⟨h1, _⟩ | ⟨h1, _⟩ | ⟨_, _, h3, _⟩
    · omega
    · omega
    · exact h3
  exact done_apply (by rw [mayH_turn]; exact hm) (done_back (apply_done he))

theorem may_hunk {a b l m : List (List UInt8)} {h : HU} (ha : allMay a = true) (hb : allMay b = true) (hd : done l h = some m) (hl : l.length ≤ 200) (hm : m.length ≤ 200) (ho : ∀ y ∈ h.old, y ∈ a) (hn : ∀ y ∈ h.new, y ∈ b) : mayH h = true ∧ h.old.length ≤ 200 ∧ h.new.length ≤ 200 := by
  obtain ⟨p1, p2⟩ := done_pos hd
  have q1 := (has_len (done_len hd).1).2
  unfold allMay at ha hb
  rw [Bool.and_eq_true, List.all_eq_true] at ha hb
  refine ⟨?_, by omega, by omega⟩
  unfold mayH allMay
  simp only [Bool.and_eq_true, decide_eq_true_eq, List.all_eq_true]
  exact ⟨⟨p1, by omega⟩, ⟨by omega, fun y hy => ha.2 y (ho y hy)⟩, by omega, fun y hy => hb.2 y (hn y hy)⟩

theorem light_all {ls : List (List UInt8)} {k : Nat} (h : light ls k = true) : ∀ x ∈ ls, x.length ≤ maxLen := by
  simp only [light, Bool.and_eq_true, List.all_eq_true, decide_eq_true_eq] at h
  intro x hx
  have := h.2 x hx
  unfold maxLen
  omega

end Hk
end Go.Proofs.Ytjhjmfodpnipiaa

namespace Go.Proofs.Ytjhjmfodpnipiaa
open Go.RowKit
set_option linter.unusedVariables false
namespace Hk
open Tx Df

/-- How Turn ends. -/
def TurnEnd (w : World) (n n' : Nat) (h : HU) (e : Ending) (w' : World) : Prop :=
  ∃ D k D' k', e = .returned (hkV h.pos D n' k D' n k') ∧ HV w' w'.heap.size D n' k D' n k' (turn h) ∧ Below w.heap.size w w'

/-- How Turn ends: its lines lie in rows of its own. -/
def TurnOEnd (w : World) (n n' : Nat) (h : HU) (e : Ending) (w' : World) : Prop :=
  ∃ D k D' k', e = .returned (hkV h.pos D n' k D' n k') ∧ w'.ownsRow w.heap.size 9 1 (.slice D n' k) n' (h.new.map strV) ∧ w'.ownsRow w.heap.size 9 1 (.slice D' n k') n (h.old.map strV) ∧ Below w.heap.size w w'

set_option maxRecDepth 100000 in
set_option maxHeartbeats 2000000 in
theorem TurnO (A : Option Addr) (n c : Nat) (A' : Option Addr) (n' c' B : Nat) (h : HU) (w : World) (hB : B ≤ w.heap.size) (hn : n ≤ 1000) (hn' : n' ≤ 1000) (hv : HV w B A n c A' n' c' h) :
    Calls Try.prog 74 #[hkV h.pos A n c A' n' c'] w (TurnOEnd w n n' h) := by
  have HV0 := Lib.hid hv
  have HL := Lib.hid hv.l; have HL' := Lib.hid hv.l'
  have R := Lib.hid hv.r; have R' := Lib.hid hv.r'
  clear hv
  obtain ⟨p, hp⟩ : ∃ p, h.pos = p := ⟨_, rfl⟩
  rw [hp]
  have HP := Lib.hid hp; clear hp
  go_enter Try.func74, Try.ntmps74
  go_wp2_with fail
  have b1 := (Blk.new w 37 #[.int .i64 p, .slice A n c, .slice A' n' c']).alloc (.cells #[.int .i64 0, .slice none 0 0, .slice none 0 0] 37)
  have b2 := Blk.new (w.alloc (.cells #[.int .i64 p, .slice A n c, .slice A' n' c'] 37)) 37 #[.int .i64 0, .slice none 0 0, .slice none 0 0]
  have hw : Below w.heap.size w ((w.alloc (.cells #[.int .i64 p, .slice A n c, .slice A' n' c'] 37)).alloc (.cells #[.int .i64 0, .slice none 0 0, .slice none 0 0] 37)) := ((Below.refl _ _).alloc (Nat.le_refl _) _).alloc (by simp) _
  simp only [World.size_alloc] at b2
  generalize hW : (w.alloc (.cells #[.int .i64 p, .slice A n c, .slice A' n' c'] 37)).alloc (.cells #[.int .i64 0, .slice none 0 0, .slice none 0 0] 37) = W at *
  clear hW
  have R1 := Lib.hid (Rd.below R.out (hw.mono hB))
  have R1' := Lib.hid (Rd.below R'.out (hw.mono hB))
  have B1 := Lib.hid b1; have B2 := Lib.hid b2; have HW := Lib.hid hw; clear b1 b2 hw
  have HBW : Hid (B ≤ W.heap.size) := Lib.hid (Nat.le_trans hB HW.out.size)
  obtain ⟨g, hgs⟩ : ∃ g, w.heap.size = g := ⟨_, rfl⟩
  rw [hgs] at HW B1 B2 hB ⊢
  have HGS := Lib.hid hgs; clear hgs
  have x0 : W.cell? ⟨g, 0, none⟩ = some (.int .i64 p) := B1.out.cell 0 rfl
  have x1 : W.cell? ⟨g, 1, none⟩ = some (.slice A n c) := B1.out.cell 1 rfl
  have x2 : W.cell? ⟨g, 2, none⟩ = some (.slice A' n' c') := B1.out.cell 2 rfl
  go_region_held3 (fun w' => w'.cell? ⟨g, 0, none⟩ = some (.int .i64 p) ∧ w'.cell? ⟨g, 1, none⟩ = some (.slice A n c) ∧ w'.cell? ⟨g, 2, none⟩ = some (.slice A' n' c'))
    (first | go_keep | (exact ⟨y0, y1, y2⟩) | (exact ⟨z0, z1, z2⟩))
    (first
      | (go_at_call 81; refine (own A' c' n' B h.new W.drew HL'.out (by omega) (Rd.drewN R1'.out 1)).mono ?_; rintro e w1 ⟨D, k, rfl, hr1, hg1⟩;
          have y0 := cell_gr hg1 (nn _) x0; have y1 := cell_gr hg1 (nn _) x1; have y2 := cell_gr hg1 (nn _) x2; have HR1 := Lib.hid hr1; have HG1 := Lib.hid hg1; clear hr1 hg1)
      | (go_at_call 81; refine (own A c n B h.old w1 HL.out (by omega) (Rd.below (Rd.drewN R1.out 1) ((below_gr HG1.out).mono HBW.out))).mono ?_; rintro e w2 ⟨D', k', rfl, hr2, hg2⟩;
          have z0 := cell_gr hg2 (nn _) y0; have z1 := cell_gr hg2 (nn _) y1; have z2 := cell_gr hg2 (nn _) y2;
          have b3 := ((B2.out.drewN 1).gr HG1.out (nn _)).gr hg2 (nn _); have q0 : w2.cell? ⟨g + 1, 0, none⟩ = some (.int .i64 0) := b3.cell 0 rfl; have q1 : w2.cell? ⟨g + 1, 1, none⟩ = some (.slice none 0 0) := b3.cell 1 rfl; have q2 : w2.cell? ⟨g + 1, 2, none⟩ = some (.slice none 0 0) := b3.cell 2 rfl; have f0 := b3.frozen 0; have f1 := b3.frozen 1; have f2 := b3.frozen 2;
          have B3 := Lib.hid b3; clear b3; have HR2 := Lib.hid hr2; have HG2 := Lib.hid hg2; clear hr2 hg2))
  go_wp2_with fail
  have b4 := ((B3.out.set 0 (.int .i64 p)).set 1 (.slice D n' k)).set 2 (.slice D' n k')
  have hg1 : g + 1 < W.heap.size := B2.out.lt
  have hs1 : W.heap.size ≤ w1.heap.size := HG1.out.size
  have o1 := own_set (own_set (own_set (own_gr HR1.out HG2.out) hg1 0 (.int .i64 p)) hg1 1 (.slice D n' k)) hg1 2 (.slice D' n k')
  have o2 := own_set (own_set (own_set HR2.out (Nat.lt_of_lt_of_le hg1 hs1) 0 (.int .i64 p)) (Nat.lt_of_lt_of_le hg1 hs1) 1 (.slice D n' k)) (Nat.lt_of_lt_of_le hg1 hs1) 2 (.slice D' n k')
  have hB3 : Below g w (((w2.setCell ⟨g + 1, 0, none⟩ (.int .i64 p)).setCell ⟨g + 1, 1, none⟩ (.slice D n' k)).setCell ⟨g + 1, 2, none⟩ (.slice D' n k')) := (((HW.out.trans (((below_drewN (Below.refl W.heap.size W) 1).trans (below_gr HG1.out)).mono (Nat.le_trans (by omega) hg1)) |>.trans ((below_gr HG2.out).mono (by omega))).setCell (p := ⟨g + 1, 0, none⟩) (by show g ≤ g + 1; omega) _).setCell (p := ⟨g + 1, 1, none⟩) (by show g ≤ g + 1; omega) _).setCell (p := ⟨g + 1, 2, none⟩) (by show g ≤ g + 1; omega) _
  generalize ((w2.setCell ⟨g + 1, 0, none⟩ (.int .i64 p)).setCell ⟨g + 1, 1, none⟩ (.slice D n' k)).setCell ⟨g + 1, 2, none⟩ (.slice D' n k') = W3 at *
  have q0 : W3.cell? ⟨g + 1, 0, none⟩ = some (.int .i64 p) := b4.cell 0 rfl
  have q1 : W3.cell? ⟨g + 1, 1, none⟩ = some (.slice D n' k) := b4.cell 1 rfl
  have q2 : W3.cell? ⟨g + 1, 2, none⟩ = some (.slice D' n k') := b4.cell 2 rfl
  refine bodyPost_ret (v := hkV p D n' k D' n k') (by simp [results, Try.results74, go_sem, q0, q1, q2]) rfl ?_
  have hwW : w.heap.size ≤ W.heap.size := HW.out.size
  refine ⟨D, k, D', k', by rw [HP.out], own_mono o1 hwW, own_mono o2 (Nat.le_trans hwW hs1), by rw [HGS.out]; exact hB3⟩

theorem Turn (A : Option Addr) (n c : Nat) (A' : Option Addr) (n' c' B : Nat) (h : HU) (w : World) (hB : B ≤ w.heap.size) (hn : n ≤ 1000) (hn' : n' ≤ 1000) (hv : HV w B A n c A' n' c' h) :
    Calls Try.prog 74 #[hkV h.pos A n c A' n' c'] w (TurnEnd w n n' h) := by
  refine (TurnO A n c A' n' c' B h w hB hn hn' hv).mono ?_
  rintro e w' ⟨D, k, D', k', rfl, o1, o2, hb⟩
  obtain ⟨_, _, e1, hk1, r1⟩ := rd_of_own o1
  obtain ⟨_, _, e2, hk2, r2⟩ := rd_of_own o2
  cases e1; cases e2
  exact ⟨D, k, D', k', rfl, ⟨hv.l', hv.l, hk1, hk2, hv.m', hv.m, r1, r2, hv.p⟩, hb⟩

end Hk
end Go.Proofs.Ytjhjmfodpnipiaa

namespace Go.Proofs.Ytjhjmfodpnipiaa
open Go.RowKit
set_option linter.unusedVariables false
namespace Hk
open Tx Df Sq

theorem ret_and {b x y : Bool} (h : b = (x && y)) : Ending.returned (.bool (x && y)) = .returned (.bool b) := by rw [h]

set_option maxHeartbeats 1000000 in
theorem refSameH (A : Option Addr) (n c : Nat) (A' : Option Addr) (n' c' : Nat) (D : Option Addr) (m k : Nat) (D' : Option Addr) (m' k' B : Nat) (h g : HU) (w : World) (hB : B ≤ w.heap.size) (hv : HV w B A n c A' n' c' h) (gv : HV w B D m k D' m' k' g) :
    Calls Try.prog 48 #[hkV h.pos A n c A' n' c', hkV g.pos D m k D' m' k'] w (TestEnd w (sameH h g)) := by
  have HL := Lib.hid hv.l; have HL' := Lib.hid hv.l'; have GL := Lib.hid gv.l; have GL' := Lib.hid gv.l'
  have hm := hv.m; have hm' := hv.m'
  have R := Lib.hid hv.r; have R' := Lib.hid hv.r'; have Q := Lib.hid gv.r; have Q' := Lib.hid gv.r'
  clear hv gv
  obtain ⟨b, hb⟩ : ∃ b, sameH h g = b := ⟨_, rfl⟩
  rw [hb]
  have HS : Hid (b = (decide (h.pos = g.pos) && (decide (h.old = g.old) && decide (h.new = g.new)))) := Lib.hid (by rw [← hb]; rfl)
  clear hb
  generalize h.pos = p at *
  generalize g.pos = q at *
  go_enter Try.func48, Try.ntmps48
  go_wp2_with fail
  refine (Same _ _ _ _ _ _ B h.old g.old _ HL.out GL.out hm (rd_two R.out hB _ _ 0) (rd_two Q.out hB _ _ 0)).mono ?_
  rintro e w' ⟨rfl, d, rfl⟩
  go_wp2_with fail
  refine (Same _ _ _ _ _ _ B h.new g.new _ HL'.out GL'.out hm' (rd_two R'.out hB _ _ _) (rd_two Q'.out hB _ _ _)).mono ?_
  rintro e w' ⟨rfl, d', rfl⟩
  cases ho : decide (h.old = g.old) with
  | false =>
    have HO : Hid (b = false) := Lib.hid (by rw [HS.out, ho]; simp)
    clear ho HS
    go_wp2
    go_ret
    exact ⟨ret_bool (by rw [HO.out]), by simpa using below_two w _ _ _⟩
  | true =>
  cases hn : decide (h.new = g.new) with
  | false =>
    have HO : Hid (b = false) := Lib.hid (by rw [HS.out, hn]; simp)
    clear ho hn HS
    go_wp2
    go_ret
    exact ⟨ret_bool (by rw [HO.out]), by simpa using below_two w _ _ _⟩
  | true =>
  by_cases hp : p = q
  · have HO : Hid (b = true) := Lib.hid (by rw [HS.out, ho, hn, decide_eq_true hp]; rfl)
    clear ho hn HS
    subst hp
    go_wp2
    go_ret
    exact ⟨ret_bool (by rw [HO.out]), by simpa using below_two w _ _ _⟩
  · have HO : Hid (b = false) := Lib.hid (by rw [HS.out, decide_eq_false hp]; rfl)
    have hne : (p == q) = false := by rw [beq_eq_false_iff_ne]; exact hp
    clear ho hn HS hp
    go_wp2
    go_ret
    exact ⟨ret_bool (by rw [HO.out]), by simpa using below_two w _ _ _⟩

end Hk
end Go.Proofs.Ytjhjmfodpnipiaa
