/-
  Words and contracts, joined: HkMem HkOpen HkLeaf HkApply HkLaw HkTurn HkRef.
-/
import Derived.Test.YtbiiabfhngdeiaaGQ
import Derived.Test.YtbiiabfhngdeiaaGP
import Derived.Lib.SmallJoins
import Derived.Test.YtbiiabfhngdeiaaGX
import Derived.Test.YtbiiabfhngdeiaaGS
import Derived.Deep.RegionHeld3
set_option maxRecDepth 100000
namespace Go.Proofs.Ytbiiabfhngdeiaa
open Go.RowKit
set_option linter.unusedVariables false
namespace Hk
open Tx Df

abbrev HU : Type := Hu (List UInt8)

/-- The value of a hunk. -/
abbrev hkV (p : Int) (A : Option Addr) (n c : Nat) (A' : Option Addr) (n' c' : Nat) : Value := .agg #[.int .i64 p, .slice A n c, .slice A' n' c']

/-- Two slice values that read, below block B, as a hunk's lines. -/
structure HV (w : World) (B : Nat) (A : Option Addr) (n c : Nat) (A' : Option Addr) (n' c' : Nat) (h : HU) : Prop where
  l : h.old.length = n
  l' : h.new.length = n'
  k : n ≤ c
  k' : n' ≤ c'
  m : n ≤ maxLen
  m' : n' ≤ maxLen
  r : RdS w B A h.old
  r' : RdS w B A' h.new
  p : I64 h.pos

/-- The cells of a hunk at the address a, its lines below block B. -/
structure HkAt (w : World) (B : Nat) (a : Addr) (k : Nat) (h : HU) : Prop where
  c0 : w.cell? (a.add (k * 3)) = some (.int .i64 h.pos)
  c1 : ∃ A c A' c', w.cell? ⟨(a.add (k * 3)).block, (a.add (k * 3)).off + 1, none⟩ = some (.slice A h.old.length c) ∧ w.cell? ⟨(a.add (k * 3)).block, (a.add (k * 3)).off + 2, none⟩ = some (.slice A' h.new.length c') ∧ HV w B A h.old.length c A' h.new.length c' h

/-- The address A leads, below block B, to hunks; or there are none. -/
def RdH (w : World) (B : Nat) (A : Option Addr) (hs : List HU) : Prop :=
  hs = [] ∨ ∃ a, A = some a ∧ a.block < B ∧ ∀ (k : Nat) x, hs[k]? = some x → HkAt w B a k x

section
variable {w w' : World} {B B' : Nat} {A A' : Option Addr} {n c n' c' : Nat} {h : HU} {hs : List HU}
theorem HV.below (v : HV w B A n c A' n' c' h) (hb : Below B w w') : HV w' B A n c A' n' c' h := ⟨v.l, v.l', v.k, v.k', v.m, v.m', Rd.below v.r hb, Rd.below v.r' hb, v.p⟩
theorem HV.up (v : HV w B A n c A' n' c' h) (hB : B ≤ B') : HV w B' A n c A' n' c' h := ⟨v.l, v.l', v.k, v.k', v.m, v.m', Rd.up v.r hB, Rd.up v.r' hB, v.p⟩
theorem HV.drewN (v : HV w B A n c A' n' c' h) (d : Nat) : HV (w.drewN d) B A n c A' n' c' h := ⟨v.l, v.l', v.k, v.k', v.m, v.m', Rd.drewN v.r d, Rd.drewN v.r' d, v.p⟩
theorem HV.turn (v : HV w B A n c A' n' c' h) : HV w B A' n' c' A n c (turn h) := ⟨v.l', v.l, v.k', v.k, v.m', v.m, v.r', v.r, v.p⟩
theorem HkAt.below {a : Addr} {k : Nat} (x : HkAt w B a k h) (ha : a.block < B) (hb : Below B w w') : HkAt w' B a k h := by
  obtain ⟨c0, A, c, A', c', c1, c2, v⟩ := x
  exact ⟨(hb.cell (by rw [add_block]; exact ha)).trans c0, A, c, A', c', (hb.cell (by show (a.add (k * 3)).block < B; rw [add_block]; exact ha)).trans c1, (hb.cell (by show (a.add (k * 3)).block < B; rw [add_block]; exact ha)).trans c2, v.below hb⟩
theorem HkAt.up {a : Addr} {k : Nat} (x : HkAt w B a k h) (hB : B ≤ B') : HkAt w B' a k h := by
  obtain ⟨c0, A, c, A', c', c1, c2, v⟩ := x
  exact ⟨c0, A, c, A', c', c1, c2, v.up hB⟩
theorem RdH.below (h : RdH w B A hs) (hb : Below B w w') : RdH w' B A hs := by
  rcases h with h | ⟨a, e, hlt, hc⟩
  · exact .inl h
  · exact .inr ⟨a, e, hlt, fun k x hx => (hc k x hx).below hlt hb⟩
theorem RdH.up (h : RdH w B A hs) (hB : B ≤ B') : RdH w B' A hs := by
  rcases h with h | ⟨a, e, hlt, hc⟩
  · exact .inl h
  · exact .inr ⟨a, e, by omega, fun k x hx => (hc k x hx).up hB⟩
theorem RdH.at_ (h : RdH w B A hs) {k : Nat} (hk : k < hs.length) : ∃ a, A = some a ∧ a.block < B ∧ HkAt w B a k hs[k] := by
  rcases h with rfl | ⟨a, e, hlt, hc⟩
  · exact absurd hk (by simp)
  · exact ⟨a, e, hlt, hc k _ (List.getElem?_eq_getElem hk)⟩
end

def mayH (h : HU) : Bool := decide (0 ≤ h.pos) && decide (h.pos ≤ 1048576) && (allMay h.old && allMay h.new)
def sameH (g h : HU) : Bool := decide (g.pos = h.pos) && (decide (g.old = h.old) && decide (g.new = h.new))

theorem below_box {w w' : World} (o : Obj) (h : Below (w.alloc o).heap.size (w.alloc o) w') : Below w.heap.size w w' := ((Below.refl _ _).alloc (Nat.le_refl _) o).trans (h.mono (by simp))

end Hk
end Go.Proofs.Ytbiiabfhngdeiaa

namespace Go.Proofs.Ytbiiabfhngdeiaa
open Go.ChangeShapes Go.WideShapes Go.ChangeAt Go.RowKit Go.Deep Go.Joins
set_option linter.unusedVariables false
namespace Hk
open Tx Df

section
variable {H : Type} {enc : TypeId × Value → H} {W : World} {base : Nat} {spare : Nat → Bool} {held : Bool}

theorem hunk_in {r : Reach} {b0 : Nat} {v : Value} {d : DataW H} {p : List MemPlace} (hv : Value.okWide Try.prog W r b0 49 v) (h : DataW.Trod enc Try.prog W base spare held 49 v d p) :
    ∃ A n c A' n' c' h, v = hkV h.pos A n c A' n' c' ∧ HV W W.heap.size A n c A' n' c' h := by
  obtain ⟨v0, v1, v2, y0, y1, y2, m, rfl, _, _, h0, h1, h2⟩ := open_agg3 Try.underlying49 (by kernel_rfl) (by kernel_rfl) hv h
  obtain ⟨q, e0, _, w0⟩ := DataW.trod_int Try.underlying3 h0
  injection e0 with e0
  subst e0
  obtain ⟨A, n, c, l, rfl, s⟩ := strs_any h1
  obtain ⟨A', n', c', l', rfl, s'⟩ := strs_any h2
  exact ⟨A, n, c, A', n', c', ⟨q, l, l'⟩, rfl, ⟨s.len, s'.len, s.cap, s'.cap, s.le, s'.le, s.rd, s'.rd, i64_wf w0⟩⟩
end

end Hk
end Go.Proofs.Ytbiiabfhngdeiaa

namespace Go.Proofs.Ytbiiabfhngdeiaa
open Go.RowKit
set_option linter.unusedVariables false
namespace Hk
open Tx Df

set_option maxHeartbeats 400000 in
theorem Equal (A A' : Option Addr) (cap cap' n n' B : Nat) (ls ms : List (List UInt8)) (w : World) (hn : ls.length = n) (hn' : ms.length = n') (hnm : n ≤ maxLen) (hR : RdS w B A ls) (hR' : RdS w B A' ms) :
    Calls Try.prog 49 #[.slice A n cap, .slice A' n' cap'] w (SameEnd w (decide (ls = ms))) := by
  unfold maxLen at hnm
  have HN := Lib.hid hn; clear hn
  have HN' := Lib.hid hn'; clear hn'
  by_cases h1 : n = n'
  · subst h1
    go_enter Try.func49, Try.ntmps49
    go_wp2
    go_loopw [13] (fun i wr => ∃ k : Nat, k ≤ n ∧ i = .int .i64 k ∧ ls.take k = ms.take k ∧ ∃ d, wr = w.drewN d) (fun i _ => n - (intOf i).toNat)
    case atStart => exact ⟨0, Nat.zero_le _, rfl, by simp, 0, rfl⟩
    case round =>
      obtain ⟨k, hk, rfl, hall, d, rfl⟩ := hrel
      have HA := Lib.hid hall; clear hall
      by_cases hlt : k < n
      · have hkl : k < ls.length := by rw [HN.out]; exact hlt
        have hkm : k < ms.length := by rw [HN'.out]; exact hlt
        obtain ⟨a, rfl, hcell⟩ := hR.at' hkl
        obtain ⟨a', rfl, hcell'⟩ := hR'.at' hkm
        have HD := Lib.hid (same_step hkl hkm HA.out)
        have hki : (k : Int) < (n : Int) := by omega
        go_wp2
        go_quiet (fail)
        go_wp2
        · have hb : (!ls[k] == ms[k]) = true := by assumption
          go_ret
          exact ⟨ret_bool (HD.out.1 (by simpa using hb)).symm, d + nq, by simp⟩
        · have hb : (!ls[k] == ms[k]) = false := by assumption
          refine ⟨⟨k + 1, by omega, by go_num, HD.out.2 (by simpa using hb), _, rfl⟩, by simp [intOf]; omega⟩
      · have HD : Hid (decide (ls = ms) = true) := Lib.hid (by
          have := HA.out
          rw [List.take_of_length_le (by rw [HN.out]; omega), List.take_of_length_le (by rw [HN'.out]; omega)] at this
          exact decide_eq_true this)
        go_wp2
        go_ret
        exact ⟨ret_bool HD.out.symm, _, rfl⟩
  · have HD : Hid (decide (ls = ms) = false) := Lib.hid (decide_eq_false (fun e => h1 (by rw [← HN.out, ← HN'.out, e])))
    have hne : ((n : Int) != (n' : Int)) = true := by rw [bne_iff_ne]; omega
    go_enter Try.func49, Try.ntmps49
    go_wp2
    go_ret
    exact ⟨ret_bool HD.out.symm, 0, rfl⟩

/-- How a test of hunks ends. -/
def TestEnd (w : World) (b : Bool) (e : Ending) (w' : World) : Prop := e = .returned (.bool b) ∧ Below w.heap.size w w'

theorem rd_alloc {w : World} {B : Nat} {A : Option Addr} {xs : List Value} (h : Rd w B A xs) (hB : B ≤ w.heap.size) (o : Obj) : Rd (w.alloc o) B A xs := h.below ((Below.refl _ _).alloc hB o)

set_option maxHeartbeats 400000 in
theorem LightH (A : Option Addr) (n c : Nat) (A' : Option Addr) (n' c' B : Nat) (h : HU) (w : World) (hB : B ≤ w.heap.size) (hv : HV w B A n c A' n' c' h) :
    Calls Try.prog 62 #[hkV h.pos A n c A' n' c'] w (TestEnd w (light h.old 300 && light h.new 300)) := by
  obtain ⟨l, l', k, k', m, m', r, r', p⟩ := hv
  have HL := Lib.hid l; have HL' := Lib.hid l'; clear l l'
  obtain ⟨b, hb⟩ : ∃ b, (light h.old 300 && light h.new 300) = b := ⟨_, rfl⟩
  rw [hb]
  have HB := Lib.hid hb; clear hb
  go_enter Try.func62, Try.ntmps62
  go_wp2_with fail
  refine (Light _ _ _ B 300 h.old _ HL.out m (rd_alloc r hB _) (by decide)).mono ?_
  rintro e w' ⟨rfl, rfl⟩
  go_wp2_with fail
  refine (Light _ _ _ B 300 h.new _ HL'.out m' (rd_alloc r' hB _) (by decide)).mono ?_
  rintro e w' ⟨rfl, rfl⟩
  cases ho : light h.old 300 with
  | true =>
    have HO := Lib.hid ho; clear ho
    go_wp2
    go_ret
    exact ⟨ret_bool (by rw [← HB.out, HO.out]; simp), (Below.refl _ _).alloc (Nat.le_refl _) _⟩
  | false =>
    have HO := Lib.hid ho; clear ho
    go_wp2
    go_ret
    exact ⟨ret_bool (by rw [← HB.out, HO.out]; simp), (Below.refl _ _).alloc (Nat.le_refl _) _⟩

set_option maxHeartbeats 400000 in
theorem May (A : Option Addr) (n c : Nat) (A' : Option Addr) (n' c' B : Nat) (h : HU) (w : World) (hB : B ≤ w.heap.size) (hv : HV w B A n c A' n' c' h) :
    Calls Try.prog 80 #[hkV h.pos A n c A' n' c'] w (TestEnd w (mayH h)) := by
  obtain ⟨l, l', k, k', m, m', r, r', p⟩ := hv
  have HL := Lib.hid l; have HL' := Lib.hid l'; clear l l'
  have HM : Hid (mayH h = (decide (0 ≤ h.pos) && decide (h.pos ≤ 1048576) && (allMay h.old && allMay h.new))) := Lib.hid rfl
  have HP := Lib.hid p; clear p
  generalize mayH h = mh at *
  generalize h.pos = q at *
  by_cases h0 : 0 ≤ q
  · by_cases h1 : q ≤ 1048576
    · have HM1 : Hid (mh = (allMay h.old && allMay h.new)) := Lib.hid (by rw [HM.out, decide_eq_true h0, decide_eq_true h1]; rfl)
      clear HM
      cases ho : allMay h.old with
      | true =>
        have HO := Lib.hid ho; clear ho
        go_enter Try.func80, Try.ntmps80
        go_wp2_with fail
        refine (All _ _ _ B h.old _ HL.out (rd_alloc r hB _)).mono ?_
        rw [HO.out]
        rintro e w' ⟨rfl, rfl⟩
        go_wp2_with fail
        refine (All _ _ _ B h.new _ HL'.out (rd_alloc r' hB _)).mono ?_
        rintro e w' ⟨rfl, rfl⟩
        go_wp2
        go_ret
        exact ⟨ret_bool (by rw [HM1.out, HO.out]; simp), (Below.refl _ _).alloc (Nat.le_refl _) _⟩
      | false =>
        have HO := Lib.hid ho; clear ho
        go_enter Try.func80, Try.ntmps80
        go_wp2_with fail
        refine (All _ _ _ B h.old _ HL.out (rd_alloc r hB _)).mono ?_
        rw [HO.out]
        rintro e w' ⟨rfl, rfl⟩
        go_wp2
        go_ret
        exact ⟨ret_bool (by rw [HM1.out, HO.out]; simp), (Below.refl _ _).alloc (Nat.le_refl _) _⟩
    · have HM1 : Hid (mh = false) := Lib.hid (by rw [HM.out, decide_eq_false h1]; simp)
      clear HM
      go_enter Try.func80, Try.ntmps80
      go_wp2
      go_ret
      exact ⟨ret_bool (by rw [HM1.out]), (Below.refl _ _).alloc (Nat.le_refl _) _⟩
  · have HM1 : Hid (mh = false) := Lib.hid (by rw [HM.out, decide_eq_false h0]; simp)
    clear HM
    go_enter Try.func80, Try.ntmps80
    go_wp2
    go_ret
    exact ⟨ret_bool (by rw [HM1.out]), (Below.refl _ _).alloc (Nat.le_refl _) _⟩

/-- Two boxes. -/
theorem below_two (w : World) (o o' : Obj) (d : Nat) : Below w.heap.size w (((w.alloc o).alloc o').drewN d) := below_drewN (((Below.refl _ _).alloc (Nat.le_refl _) o).alloc (by simp) o') d
theorem rd_two {w : World} {B : Nat} {A : Option Addr} {xs : List Value} (h : Rd w B A xs) (hB : B ≤ w.heap.size) (o o' : Obj) (d : Nat) : Rd (((w.alloc o).alloc o').drewN d) B A xs := h.below ((below_two w o o' d).mono hB)

set_option maxHeartbeats 1000000 in
theorem SameH (A : Option Addr) (n c : Nat) (A' : Option Addr) (n' c' : Nat) (D : Option Addr) (m k : Nat) (D' : Option Addr) (m' k' B : Nat) (h g : HU) (w : World) (hB : B ≤ w.heap.size) (hv : HV w B A n c A' n' c' h) (gv : HV w B D m k D' m' k' g) :
    Calls Try.prog 61 #[hkV h.pos A n c A' n' c', hkV g.pos D m k D' m' k'] w (TestEnd w (sameH h g)) := by
  have HL := Lib.hid hv.l; have HL' := Lib.hid hv.l'; have GL := Lib.hid gv.l; have GL' := Lib.hid gv.l'
  have hm := hv.m; have hm' := hv.m'
  have R := Lib.hid hv.r; have R' := Lib.hid hv.r'; have Q := Lib.hid gv.r; have Q' := Lib.hid gv.r'
  clear hv gv
  obtain ⟨b, hb⟩ : ∃ b, sameH h g = b := ⟨_, rfl⟩
  rw [hb]
  have HS : Hid (b = (decide (h.pos = g.pos) && (decide (h.old = g.old) && decide (h.new = g.new)))) := Lib.hid (by rw [← hb]; rfl)
  clear hb
  generalize h.pos = p at *
  generalize g.pos = q at *
  by_cases hp : p = q
  · subst hp
    have HS1 : Hid (b = (decide (h.old = g.old) && decide (h.new = g.new))) := Lib.hid (by rw [HS.out, decide_eq_true rfl]; rfl)
    clear HS
    go_enter Try.func61, Try.ntmps61
    go_wp2_with fail
    refine (Equal _ _ _ _ _ _ B h.old g.old _ HL.out GL.out hm (rd_two R.out hB _ _ 0) (rd_two Q.out hB _ _ 0)).mono ?_
    rintro e w' ⟨rfl, d, rfl⟩
    cases ho : decide (h.old = g.old) with
    | true =>
      have HO := Lib.hid ho; clear ho
      go_wp2_with fail
      refine (Equal _ _ _ _ _ _ B h.new g.new _ HL'.out GL'.out hm' (rd_two R'.out hB _ _ _) (rd_two Q'.out hB _ _ _)).mono ?_
      rintro e w' ⟨rfl, d', rfl⟩
      go_wp2
      go_ret
      exact ⟨ret_bool (by rw [HS1.out, HO.out]; simp), by simpa using below_two w _ _ _⟩
    | false =>
      have HO := Lib.hid ho; clear ho
      go_wp2
      go_ret
      exact ⟨ret_bool (by rw [HS1.out, HO.out]; simp), by simpa using below_two w _ _ _⟩
  · have HS1 : Hid (b = false) := Lib.hid (by rw [HS.out, decide_eq_false hp]; rfl)
    clear HS
    have hne : (p == q) = false := by rw [beq_eq_false_iff_ne]; exact hp
    clear hp
    go_enter Try.func61, Try.ntmps61
    go_wp2
    go_ret
    exact ⟨ret_bool (by rw [HS1.out]), ((Below.refl _ _).alloc (Nat.le_refl _) _).alloc (by simp) _⟩

end Hk
end Go.Proofs.Ytbiiabfhngdeiaa

namespace Go.Proofs.Ytbiiabfhngdeiaa
open Go.RowKit
set_option linter.unusedVariables false
namespace Hk
open Tx Df Sq

/-- The error that Apply answers, and the list. -/
def applyE (l : List (List UInt8)) (h : HU) : Int := if mayH h then (if has l h.pos h.old then 0 else 5) else 1
def applyL (l : List (List UInt8)) (h : HU) : List (List UInt8) := if mayH h && has l h.pos h.old then swp l h.pos.toNat h.old.length h.new else []
theorem applyL_len {l : List (List UInt8)} {h : HU} : (applyL l h).length ≤ l.length + h.new.length := by
  unfold applyL
  split
  · simp only [swp, List.length_append, List.length_take, List.length_drop]; omega
  · simp

def ApplyEnd (w : World) (l : List (List UInt8)) (h : HU) (e : Ending) (w' : World) : Prop :=
  ∃ A k c, e = .returned (.tuple #[.slice A k c, .int .i64 (applyE l h)]) ∧ k ≤ c ∧ (applyL l h).length = k ∧ RdS w' w'.heap.size A (applyL l h) ∧ Below w.heap.size w w'

theorem applyEnd_none {w w' : World} {l : List (List UInt8)} {h : HU} {r : Int} (he : applyE l h = r) (hl : applyL l h = []) (hb : Below w.heap.size w w') : ApplyEnd w l h (.returned (.tuple #[.slice none 0 0, .int .i64 r])) w' :=
  ⟨none, 0, 0, by rw [he], Nat.le_refl _, by rw [hl]; rfl, .inl (by rw [hl]; rfl), hb⟩

theorem mayH_new {h : HU} (hm : mayH h = true) : h.new.length ≤ 200 := by
  unfold mayH allMay at hm
  simp only [Bool.and_eq_true, decide_eq_true_eq] at hm
  omega
theorem mayH_old {h : HU} (hm : mayH h = true) : h.old.length ≤ 200 := by
  unfold mayH allMay at hm
  simp only [Bool.and_eq_true, decide_eq_true_eq] at hm
  omega

set_option maxHeartbeats 1000000 in
theorem ApplyW (A0 : Option Addr) (n0 c0 : Nat) (A : Option Addr) (n c : Nat) (A' : Option Addr) (n' c' B : Nat) (l : List (List UInt8)) (h : HU) (w : World) (hB : B ≤ w.heap.size) (hl : l.length = n0) (hc0 : n0 ≤ c0) (h0 : n0 ≤ 8796093021952)
    (hR : RdS w B A0 l) (hv : HV w B A n c A' n' c' h) :
    Calls Try.prog 95 #[.slice A0 n0 c0, hkV h.pos A n c A' n' c'] w (ApplyEnd w l h) := by
  have HV0 := Lib.hid hv
  have HL := Lib.hid hv.l; have HL' := Lib.hid hv.l'; have HL0 := Lib.hid hl
  have R := Lib.hid hv.r; have R' := Lib.hid hv.r'; have R0 := Lib.hid hR
  clear hv hl hR
  obtain ⟨p, hp⟩ : ∃ p, h.pos = p := ⟨_, rfl⟩
  have HM := Lib.hid (May A n c A' n' c' B h (w.alloc (.cells #[.int .i64 h.pos, .slice A n c, .slice A' n' c'] 49)) (Nat.le_trans hB (by simp)) (HV0.out.below ((Below.refl _ w).alloc hB _)))
  rw [hp] at HM ⊢
  have HP := Lib.hid hp; clear hp
  cases hm : mayH h with
  | false =>
    rw [hm] at HM
    have HE := Lib.hid (show applyE l h = 1 by unfold applyE; rw [hm]; rfl)
    have HA := Lib.hid (show applyL l h = [] by unfold applyL; rw [hm]; rfl)
    clear hm
    go_enter Try.func95, Try.ntmps95
    go_wp2_with fail
    refine HM.out.mono ?_
    rintro e w1 ⟨rfl, hb⟩
    go_wp2
    go_ret2
    exact applyEnd_none HE.out HA.out (below_box _ hb)
  | true =>
  rw [hm] at HM
  cases hh : has l h.pos h.old with
  | false =>
    have HE := Lib.hid (show applyE l h = 5 by unfold applyE; rw [hm, hh]; rfl)
    have HA := Lib.hid (show applyL l h = [] by unfold applyL; rw [hm, hh]; rfl)
    rw [HP.out] at hh
    have HH := Lib.hid hh; clear hm hh
    go_enter Try.func95, Try.ntmps95
    go_wp2_with fail
    refine HM.out.mono ?_
    rintro e w1 ⟨rfl, hb⟩
    have b1 := (Blk.new w 49 #[.int .i64 p, .slice A n c, .slice A' n' c']).below hb (by simp)
    have x0 : w1.cell? ⟨w.heap.size, 0, none⟩ = some (.int .i64 p) := b1.cell 0 rfl
    have x1 : w1.cell? ⟨w.heap.size, 1, none⟩ = some (.slice A n c) := b1.cell 1 rfl
    have x2 : w1.cell? ⟨w.heap.size, 2, none⟩ = some (.slice A' n' c') := b1.cell 2 rfl
    have HB1 := Lib.hid (below_box _ hb)
    clear b1 hb
    go_wp2_with fail
    refine (Swap_no A0 A A' c0 c c' n0 n n' B p l h.old w1 HL0.out HL.out hc0 (by unfold maxLen; omega) HV0.out.m (Rd.below R0.out (HB1.out.mono hB)) (Rd.below R.out (HB1.out.mono hB)) HH.out).mono ?_
    rintro e w2 ⟨rfl, d, rfl⟩
    go_wp2
    go_ret2
    exact applyEnd_none HE.out HA.out (below_drewN HB1.out d)
  | true =>
    have HE := Lib.hid (show applyE l h = 0 by unfold applyE; rw [hm, hh]; rfl)
    have HA := Lib.hid (show applyL l h = swp l h.pos.toNat n h.new by unfold applyL; rw [hm, hh, HL.out]; rfl)
    rw [HP.out] at hh
    obtain ⟨k, rfl⟩ : ∃ k : Nat, p = k := ⟨p.toNat, by have := (has_len hh).1; omega⟩
    rw [HP.out, Int.toNat_natCast] at HA
    have hn2 : n' ≤ 200 := by rw [← HL'.out]; exact mayH_new hm
    have HH := Lib.hid hh; clear hm hh
    go_enter Try.func95, Try.ntmps95
    go_wp2_with fail
    refine HM.out.mono ?_
    rintro e w1 ⟨rfl, hb⟩
    have b1 := (Blk.new w 49 #[.int .i64 (k : Int), .slice A n c, .slice A' n' c']).below hb (by simp)
    have x0 : w1.cell? ⟨w.heap.size, 0, none⟩ = some (.int .i64 (k : Int)) := b1.cell 0 rfl
    have x1 : w1.cell? ⟨w.heap.size, 1, none⟩ = some (.slice A n c) := b1.cell 1 rfl
    have x2 : w1.cell? ⟨w.heap.size, 2, none⟩ = some (.slice A' n' c') := b1.cell 2 rfl
    have HB1 := Lib.hid (below_box _ hb)
    clear b1 hb
    go_wp2_with fail
    refine (Swap_yesW A0 A A' c0 c c' n0 n n' B k l h.old h.new w1 HL0.out HL.out HL'.out hc0 (by omega) (Nat.le_trans hB HB1.out.size) (Rd.below R0.out (HB1.out.mono hB)) (Rd.below R.out (HB1.out.mono hB)) (Rd.below R'.out (HB1.out.mono hB)) HH.out).mono ?_
    rintro e w2 ⟨v, rfl, hA, hb2⟩
    obtain ⟨A3, c3, rfl, hc3, _, hr3, _⟩ := hA
    go_wp2
    go_ret2
    exact ⟨A3, (swp l k n h.new).length, c3, by rw [HE.out]; rfl, hc3, by rw [HA.out], by rw [HA.out]; exact hr3, HB1.out.trans (hb2.mono HB1.out.size)⟩

theorem Apply (A0 : Option Addr) (n0 c0 : Nat) (A : Option Addr) (n c : Nat) (A' : Option Addr) (n' c' B : Nat) (l : List (List UInt8)) (h : HU) (w : World) (hB : B ≤ w.heap.size) (hl : l.length = n0) (hc0 : n0 ≤ c0) (h0 : n0 ≤ 1000) (hn : n ≤ 1000) (hn' : n' ≤ 1000)
    (hR : RdS w B A0 l) (hv : HV w B A n c A' n' c' h) :
    Calls Try.prog 95 #[.slice A0 n0 c0, hkV h.pos A n c A' n' c'] w (ApplyEnd w l h) :=
  ApplyW A0 n0 c0 A n c A' n' c' B l h w hB hl hc0 (by omega) hR hv

end Hk
end Go.Proofs.Ytbiiabfhngdeiaa

namespace Go.Proofs.Ytbiiabfhngdeiaa
open Go.RowKit
set_option linter.unusedVariables false
namespace Hk
open Tx Df Sq

theorem mayH_turn (h : HU) : mayH (turn h) = mayH h := by
  unfold mayH turn
  simp only
  rw [Bool.and_comm (allMay h.new)]
theorem sameH_self (h : HU) : sameH h h = true := by simp [sameH]
theorem applyE_cases (l : List (List UInt8)) (h : HU) : (applyE l h = 1 ∧ applyL l h = [] ∧ mayH h = false) ∨ (applyE l h = 5 ∧ applyL l h = [] ∧ mayH h = true ∧ has l h.pos h.old = false) ∨ (applyE l h = 0 ∧ applyL l h = swp l h.pos.toNat h.old.length h.new ∧ mayH h = true ∧ has l h.pos h.old = true) := by
  unfold applyE applyL
  cases mayH h <;> cases has l h.pos h.old <;> simp
theorem apply_done {l : List (List UInt8)} {h : HU} (he : applyE l h = 0) : done l h = some (applyL l h) := by
  rcases applyE_cases l h with ⟨h1, _⟩ | ⟨h1, _⟩ | ⟨_, h2, _, h4⟩
  · omega
  · omega
  · rw [done_yes h4, h2]
theorem done_apply {l m : List (List UInt8)} {h : HU} (hm : mayH h = true) (hd : done l h = some m) : applyE l h = 0 ∧ applyL l h = m := by
  obtain ⟨h1, h2⟩ := done_some hd
  unfold applyE applyL
  simp [hm, h1, h2]
theorem apply_back {l : List (List UInt8)} {h : HU} (he : applyE l h = 0) : applyE (applyL l h) (turn h) = 0 ∧ applyL (applyL l h) (turn h) = l := by
  have hm : mayH h = true := by
    rcases applyE_cases l h with ⟨h1, _⟩ | ⟨h1, _⟩ | ⟨_, _, h3, _⟩
    · omega
    · omega
    · exact h3
  exact done_apply (by rw [mayH_turn]; exact hm) (done_back (apply_done he))

theorem may_hunk {a b l m : List (List UInt8)} {h : HU} (ha : allMay a = true) (hb : allMay b = true) (hd : done l h = some m) (hl : l.length ≤ 200) (hm : m.length ≤ 200) (ho : ∀ y ∈ h.old, y ∈ a) (hn : ∀ y ∈ h.new, y ∈ b) : mayH h = true ∧ h.old.length ≤ 200 ∧ h.new.length ≤ 200 := by
  obtain ⟨p1, p2⟩ := done_pos hd
  have q1 := (has_len (done_len hd).1).2
  unfold allMay at ha hb
  rw [Bool.and_eq_true, List.all_eq_true] at ha hb
  refine ⟨?_, by omega, by omega⟩
  unfold mayH allMay
  simp only [Bool.and_eq_true, decide_eq_true_eq, List.all_eq_true]
  exact ⟨⟨p1, by omega⟩, ⟨by omega, fun y hy => ha.2 y (ho y hy)⟩, by omega, fun y hy => hb.2 y (hn y hy)⟩

theorem light_all {ls : List (List UInt8)} {k : Nat} (h : light ls k = true) : ∀ x ∈ ls, x.length ≤ maxLen := by
  simp only [light, Bool.and_eq_true, List.all_eq_true, decide_eq_true_eq] at h
  intro x hx
  have := h.2 x hx
  unfold maxLen
  omega

end Hk
end Go.Proofs.Ytbiiabfhngdeiaa

namespace Go.Proofs.Ytbiiabfhngdeiaa
open Go.RowKit
set_option linter.unusedVariables false
namespace Hk
open Tx Df

/-- How Turn ends. -/
def TurnEnd (w : World) (n n' : Nat) (h : HU) (e : Ending) (w' : World) : Prop :=
  ∃ D k D' k', e = .returned (hkV h.pos D n' k D' n k') ∧ HV w' w'.heap.size D n' k D' n k' (turn h) ∧ Below w.heap.size w w'

/-- How Turn ends: its lines lie in rows of its own. -/
def TurnOEnd (w : World) (n n' : Nat) (h : HU) (e : Ending) (w' : World) : Prop :=
  ∃ D k D' k', e = .returned (hkV h.pos D n' k D' n k') ∧ w'.ownsRow w.heap.size 9 1 (.slice D n' k) n' (h.new.map strV) ∧ w'.ownsRow w.heap.size 9 1 (.slice D' n k') n (h.old.map strV) ∧ Below w.heap.size w w'

end Hk
end Go.Proofs.Ytbiiabfhngdeiaa

namespace Go.Proofs.Ytbiiabfhngdeiaa
open Go.RowKit
set_option linter.unusedVariables false
namespace Hk
open Tx Df Sq

theorem ret_and {b x y : Bool} (h : b = (x && y)) : Ending.returned (.bool (x && y)) = .returned (.bool b) := by rw [h]

set_option maxHeartbeats 1000000 in
theorem refMay (A : Option Addr) (n c : Nat) (A' : Option Addr) (n' c' B : Nat) (h : HU) (w : World) (hB : B ≤ w.heap.size) (hv : HV w B A n c A' n' c' h) (hq : ∀ x ∈ h.old, x.length ≤ maxLen) (hq' : ∀ x ∈ h.new, x.length ≤ maxLen) :
    Calls Try.prog 84 #[hkV h.pos A n c A' n' c'] w (TestEnd w (mayH h)) := by
  obtain ⟨l, l', k, k', m, m', r, r', p⟩ := hv
  have HL := Lib.hid l; have HL' := Lib.hid l'; have HQ := Lib.hid hq; have HQ' := Lib.hid hq'; clear l l' hq hq'
  have HM : Hid (mayH h = (decide (0 ≤ h.pos) && decide (h.pos ≤ 1048576) && (allMay h.old && allMay h.new))) := Lib.hid rfl
  have HP := Lib.hid p; clear p
  generalize mayH h = mh at *
  generalize h.pos = q at *
  go_enter Try.func84, Try.ntmps84
  go_wp2_with fail
  refine (RefAll _ _ _ B h.old _ HL.out m (rd_alloc r hB _) HQ.out).mono ?_
  rintro e w' ⟨rfl, rfl⟩
  go_wp2_with fail
  refine (RefAll _ _ _ B h.new _ HL'.out m' (rd_alloc r' hB _) HQ'.out).mono ?_
  rintro e w' ⟨rfl, rfl⟩
  cases ho : allMay h.old with
  | false =>
    have HO : Hid (mh = false) := Lib.hid (by rw [HM.out, ho]; simp)
    clear ho HM
    go_wp2
    go_ret
    exact ⟨ret_bool (by rw [HO.out]), (Below.refl _ _).alloc (Nat.le_refl _) _⟩
  | true =>
  cases hn : allMay h.new with
  | false =>
    have HO : Hid (mh = false) := Lib.hid (by rw [HM.out, hn]; simp)
    clear ho hn HM
    go_wp2
    go_ret
    exact ⟨ret_bool (by rw [HO.out]), (Below.refl _ _).alloc (Nat.le_refl _) _⟩
  | true =>
  by_cases h0 : 0 ≤ q
  · by_cases h1 : q ≤ 1048576
    · have HO : Hid (mh = true) := Lib.hid (by rw [HM.out, ho, hn, decide_eq_true h0, decide_eq_true h1]; rfl)
      clear ho hn HM
      go_wp2
      go_ret
      exact ⟨ret_bool (by rw [HO.out]), (Below.refl _ _).alloc (Nat.le_refl _) _⟩
    · have HO : Hid (mh = false) := Lib.hid (by rw [HM.out, decide_eq_false h1]; simp)
      clear ho hn HM
      go_wp2
      go_ret
      exact ⟨ret_bool (by rw [HO.out]; exact decide_eq_false (by omega)), (Below.refl _ _).alloc (Nat.le_refl _) _⟩
  · have HO : Hid (mh = false) := Lib.hid (by rw [HM.out, decide_eq_false h0]; simp)
    clear ho hn HM
    go_wp2
    go_ret
    exact ⟨ret_bool (by rw [HO.out]), (Below.refl _ _).alloc (Nat.le_refl _) _⟩

set_option maxHeartbeats 1000000 in
theorem refSameH (A : Option Addr) (n c : Nat) (A' : Option Addr) (n' c' : Nat) (D : Option Addr) (m k : Nat) (D' : Option Addr) (m' k' B : Nat) (h g : HU) (w : World) (hB : B ≤ w.heap.size) (hv : HV w B A n c A' n' c' h) (gv : HV w B D m k D' m' k' g) :
    Calls Try.prog 57 #[hkV h.pos A n c A' n' c', hkV g.pos D m k D' m' k'] w (TestEnd w (sameH h g)) := by
  have HL := Lib.hid hv.l; have HL' := Lib.hid hv.l'; have GL := Lib.hid gv.l; have GL' := Lib.hid gv.l'
  have hm := hv.m; have hm' := hv.m'
  have R := Lib.hid hv.r; have R' := Lib.hid hv.r'; have Q := Lib.hid gv.r; have Q' := Lib.hid gv.r'
  clear hv gv
  obtain ⟨b, hb⟩ : ∃ b, sameH h g = b := ⟨_, rfl⟩
  rw [hb]
  have HS : Hid (b = (decide (h.pos = g.pos) && (decide (h.old = g.old) && decide (h.new = g.new)))) := Lib.hid (by rw [← hb]; rfl)
  clear hb
  generalize h.pos = p at *
  generalize g.pos = q at *
  go_enter Try.func57, Try.ntmps57
  go_wp2_with fail
  refine (Same _ _ _ _ _ _ B h.old g.old _ HL.out GL.out hm (rd_two R.out hB _ _ 0) (rd_two Q.out hB _ _ 0)).mono ?_
  rintro e w' ⟨rfl, d, rfl⟩
  go_wp2_with fail
  refine (Same _ _ _ _ _ _ B h.new g.new _ HL'.out GL'.out hm' (rd_two R'.out hB _ _ _) (rd_two Q'.out hB _ _ _)).mono ?_
  rintro e w' ⟨rfl, d', rfl⟩
  cases ho : decide (h.old = g.old) with
  | false =>
    have HO : Hid (b = false) := Lib.hid (by rw [HS.out, ho]; simp)
    clear ho HS
    go_wp2
    go_ret
    exact ⟨ret_bool (by rw [HO.out]), by simpa using below_two w _ _ _⟩
  | true =>
  cases hn : decide (h.new = g.new) with
  | false =>
    have HO : Hid (b = false) := Lib.hid (by rw [HS.out, hn]; simp)
    clear ho hn HS
    go_wp2
    go_ret
    exact ⟨ret_bool (by rw [HO.out]), by simpa using below_two w _ _ _⟩
  | true =>
  by_cases hp : p = q
  · have HO : Hid (b = true) := Lib.hid (by rw [HS.out, ho, hn, decide_eq_true hp]; rfl)
    clear ho hn HS
    subst hp
    go_wp2
    go_ret
    exact ⟨ret_bool (by rw [HO.out]), by simpa using below_two w _ _ _⟩
  · have HO : Hid (b = false) := Lib.hid (by rw [HS.out, decide_eq_false hp]; rfl)
    have hne : (p == q) = false := by rw [beq_eq_false_iff_ne]; exact hp
    clear ho hn HS hp
    go_wp2
    go_ret
    exact ⟨ret_bool (by rw [HO.out]), by simpa using below_two w _ _ _⟩

end Hk
end Go.Proofs.Ytbiiabfhngdeiaa
