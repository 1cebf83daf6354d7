/-
  Words and contracts, joined: HkMem HkOpen HkLeaf HkApply HkLaw HkTurn HkRef.
-/
import Derived.Test.YtjhjmfodpnipiabGQ
import Derived.Test.YtjhjmfodpnipiabGP
import Derived.Lib.SmallJoins
import Derived.Test.YtjhjmfodpnipiabGX
import Derived.Test.YtjhjmfodpnipiabGS
import Derived.Deep.RegionHeld3
set_option maxRecDepth 100000
namespace Go.Proofs.Ytjhjmfodpnipiab
open Go.RowKit
set_option linter.unusedVariables false
namespace Hk
open Tx Df

abbrev HU : Type := Hu (List UInt8)

/-- The value of a hunk. -/
abbrev hkV (p : Int) (A : Option Addr) (n c : Nat) (A' : Option Addr) (n' c' : Nat) : Value := .agg #[.int .i64 p, .slice A n c, .slice A' n' c']

/-- Two slice values that read, below block B, as a hunk's lines. -/
structure HV (w : World) (B : Nat) (A : Option Addr) (n c : Nat) (A' : Option Addr) (n' c' : Nat) (h : HU) : Prop where
  l : h.old.length = n
  l' : h.new.length = n'
  k : n ≤ c
  k' : n' ≤ c'
  m : n ≤ maxLen
  m' : n' ≤ maxLen
  r : RdS w B A h.old
  r' : RdS w B A' h.new
  p : I64 h.pos

/-- The cells of a hunk at the address a, its lines below block B. -/
structure HkAt (w : World) (B : Nat) (a : Addr) (k : Nat) (h : HU) : Prop where
  c0 : w.cell? (a.add (k * 3)) = some (.int .i64 h.pos)
  c1 : ∃ A c A' c', w.cell? ⟨(a.add (k * 3)).block, (a.add (k * 3)).off + 1, none⟩ = some (.slice A h.old.length c) ∧ w.cell? ⟨(a.add (k * 3)).block, (a.add (k * 3)).off + 2, none⟩ = some (.slice A' h.new.length c') ∧ HV w B A h.old.length c A' h.new.length c' h

/-- The address A leads, below block B, to hunks; or there are none. -/
def RdH (w : World) (B : Nat) (A : Option Addr) (hs : List HU) : Prop :=
  hs = [] ∨ ∃ a, A = some a ∧ a.block < B ∧ ∀ (k : Nat) x, hs[k]? = some x → HkAt w B a k x

section
variable {w w' : World} {B B' : Nat} {A A' : Option Addr} {n c n' c' : Nat} {h : HU} {hs : List HU}
theorem HV.below (v : HV w B A n c A' n' c' h) (hb : Below B w w') : HV w' B A n c A' n' c' h := ⟨v.l, v.l', v.k, v.k', v.m, v.m', Rd.below v.r hb, Rd.below v.r' hb, v.p⟩
theorem HV.up (v : HV w B A n c A' n' c' h) (hB : B ≤ B') : HV w B' A n c A' n' c' h := ⟨v.l, v.l', v.k, v.k', v.m, v.m', Rd.up v.r hB, Rd.up v.r' hB, v.p⟩
theorem HV.drewN (v : HV w B A n c A' n' c' h) (d : Nat) : HV (w.drewN d) B A n c A' n' c' h := ⟨v.l, v.l', v.k, v.k', v.m, v.m', Rd.drewN v.r d, Rd.drewN v.r' d, v.p⟩
theorem HV.turn (v : HV w B A n c A' n' c' h) : HV w B A' n' c' A n c (turn h) := ⟨v.l', v.l, v.k', v.k, v.m', v.m, v.r', v.r, v.p⟩
theorem HkAt.below {a : Addr} {k : Nat} (x : HkAt w B a k h) (ha : a.block < B) (hb : Below B w w') : HkAt w' B a k h := by
  obtain ⟨c0, A, c, A', c', c1, c2, v⟩ := x
  exact ⟨(hb.cell (by rw [add_block]; exact ha)).trans c0, A, c, A', c', (hb.cell (by show (a.add (k * 3)).block < B; rw [add_block]; exact ha)).trans c1, (hb.cell (by show (a.add (k * 3)).block < B; rw [add_block]; exact ha)).trans c2, v.below hb⟩
theorem HkAt.up {a : Addr} {k : Nat} (x : HkAt w B a k h) (hB : B ≤ B') : HkAt w B' a k h := by
  obtain ⟨c0, A, c, A', c', c1, c2, v⟩ := x
  exact ⟨c0, A, c, A', c', c1, c2, v.up hB⟩
theorem RdH.below (h : RdH w B A hs) (hb : Below B w w') : RdH w' B A hs := by
  rcases h with h | ⟨a, e, hlt, hc⟩
  · exact .inl h
  · exact .inr ⟨a, e, hlt, fun k x hx => (hc k x hx).below hlt hb⟩
theorem RdH.up (h : RdH w B A hs) (hB : B ≤ B') : RdH w B' A hs := by
  rcases h with h | ⟨a, e, hlt, hc⟩
  · exact .inl h
  · exact .inr ⟨a, e, by omega, fun k x hx => (hc k x hx).up hB⟩
theorem RdH.at_ (h : RdH w B A hs) {k : Nat} (hk : k < hs.length) : ∃ a, A = some a ∧ a.block < B ∧ HkAt w B a k hs[k] := by
  rcases h with rfl | ⟨a, e, hlt, hc⟩
  · exact absurd hk (by simp)
  · exact ⟨a, e, hlt, hc k _ (List.getElem?_eq_getElem hk)⟩
end

def mayH (h : HU) : Bool := decide (0 ≤ h.pos) && decide (h.pos ≤ 1048576) && (allMay h.old && allMay h.new)
def sameH (g h : HU) : Bool := decide (g.pos = h.pos) && (decide (g.old = h.old) && decide (g.new = h.new))

theorem below_box {w w' : World} (o : Obj) (h : Below (w.alloc o).heap.size (w.alloc o) w') : Below w.heap.size w w' := ((Below.refl _ _).alloc (Nat.le_refl _) o).trans (h.mono (by simp))

end Hk
end Go.Proofs.Ytjhjmfodpnipiab

namespace Go.Proofs.Ytjhjmfodpnipiab
open Go.ChangeShapes Go.WideShapes Go.ChangeAt Go.RowKit Go.Deep Go.Joins
set_option linter.unusedVariables false
namespace Hk
open Tx Df

section
variable {H : Type} {enc : TypeId × Value → H} {W : World} {base : Nat} {spare : Nat → Bool} {held : Bool}

theorem hunk_in {r : Reach} {b0 : Nat} {v : Value} {d : DataW H} {p : List MemPlace} (hv : Value.okWide Try.prog W r b0 32 v) (h : DataW.Trod enc Try.prog W base spare held 32 v d p) :
    ∃ A n c A' n' c' h, v = hkV h.pos A n c A' n' c' ∧ HV W W.heap.size A n c A' n' c' h := by
  obtain ⟨v0, v1, v2, y0, y1, y2, m, rfl, _, _, h0, h1, h2⟩ := open_agg3 Try.underlying32 (by kernel_rfl) (by kernel_rfl) hv h
  obtain ⟨q, e0, _, w0⟩ := DataW.trod_int Try.underlying3 h0
  injection e0 with e0
  subst e0
  obtain ⟨A, n, c, l, rfl, s⟩ := strs_any h1
  obtain ⟨A', n', c', l', rfl, s'⟩ := strs_any h2
  exact ⟨A, n, c, A', n', c', ⟨q, l, l'⟩, rfl, ⟨s.len, s'.len, s.cap, s'.cap, s.le, s'.le, s.rd, s'.rd, i64_wf w0⟩⟩
end

end Hk
end Go.Proofs.Ytjhjmfodpnipiab

namespace Go.Proofs.Ytjhjmfodpnipiab
open Go.RowKit
set_option linter.unusedVariables false
namespace Hk
open Tx Df

/-- How a test of hunks ends. -/
def TestEnd (w : World) (b : Bool) (e : Ending) (w' : World) : Prop := e = .returned (.bool b) ∧ Below w.heap.size w w'

theorem rd_alloc {w : World} {B : Nat} {A : Option Addr} {xs : List Value} (h : Rd w B A xs) (hB : B ≤ w.heap.size) (o : Obj) : Rd (w.alloc o) B A xs := h.below ((Below.refl _ _).alloc hB o)

/-- Two boxes. -/
theorem below_two (w : World) (o o' : Obj) (d : Nat) : Below w.heap.size w (((w.alloc o).alloc o').drewN d) := below_drewN (((Below.refl _ _).alloc (Nat.le_refl _) o).alloc (by simp) o') d
theorem rd_two {w : World} {B : Nat} {A : Option Addr} {xs : List Value} (h : Rd w B A xs) (hB : B ≤ w.heap.size) (o o' : Obj) (d : Nat) : Rd (((w.alloc o).alloc o').drewN d) B A xs := h.below ((below_two w o o' d).mono hB)

theorem own (A : Option Addr) (c n B : Nat) (ls : List (List UInt8)) (w : World) (hn : ls.length = n) (hln : n ≤ 1000000) (hR : RdS w B A ls) :
    Calls Try.prog 36 #[.slice A n c] w (OwnEnd w n (ls.map strV)) := by
  obtain ⟨j0, hj, hy0, hy1, hy2⟩ := info_parts info_str
  have HN := Lib.hid hn; clear hn
  go_enter Try.func36, Try.ntmps36
  go_wp2_with (at_builtin; refine wpList_nil' rfl (.const (.slice none 0 0)) (.tmp 3) 30 rfl 9 j0 (.string ⟨#[]⟩) 16 Try.underlying30 hj hy0 hy1 hy2 rfl rfl B A n c (ls.map strV) rfl (by rw [List.length_map]; exact HN.out) hR (strs_one _) (by unfold maxLen; omega) (by omega) ?_; intro A' c' w' hA hg)
  go_ret
  exact ⟨A', c', rfl, hA, hg⟩

end Hk
end Go.Proofs.Ytjhjmfodpnipiab

namespace Go.Proofs.Ytjhjmfodpnipiab
open Go.RowKit
set_option linter.unusedVariables false
namespace Hk
open Tx Df Sq

/-- The error that Apply answers, and the list. -/
def applyE (l : List (List UInt8)) (h : HU) : Int := if mayH h then (if has l h.pos h.old then 0 else 5) else 1
def applyL (l : List (List UInt8)) (h : HU) : List (List UInt8) := if mayH h && has l h.pos h.old then swp l h.pos.toNat h.old.length h.new else []
theorem applyL_len {l : List (List UInt8)} {h : HU} : (applyL l h).length ≤ l.length + h.new.length := by
  unfold applyL
  split
  · simp only [swp, List.length_append, List.length_take, List.length_drop]; omega
  · simp

def ApplyEnd (w : World) (l : List (List UInt8)) (h : HU) (e : Ending) (w' : World) : Prop :=
  ∃ A k c, e = .returned (.tuple #[.slice A k c, .int .i64 (applyE l h)]) ∧ k ≤ c ∧ (applyL l h).length = k ∧ RdS w' w'.heap.size A (applyL l h) ∧ Below w.heap.size w w'

theorem applyEnd_none {w w' : World} {l : List (List UInt8)} {h : HU} {r : Int} (he : applyE l h = r) (hl : applyL l h = []) (hb : Below w.heap.size w w') : ApplyEnd w l h (.returned (.tuple #[.slice none 0 0, .int .i64 r])) w' :=
  ⟨none, 0, 0, by rw [he], Nat.le_refl _, by rw [hl]; rfl, .inl (by rw [hl]; rfl), hb⟩

theorem mayH_new {h : HU} (hm : mayH h = true) : h.new.length ≤ 200 := by
  unfold mayH allMay at hm
  simp only [Bool.and_eq_true, decide_eq_true_eq] at hm
  omega
theorem mayH_old {h : HU} (hm : mayH h = true) : h.old.length ≤ 200 := by
  unfold mayH allMay at hm
  simp only [Bool.and_eq_true, decide_eq_true_eq] at hm
  omega

end Hk
end Go.Proofs.Ytjhjmfodpnipiab

namespace Go.Proofs.Ytjhjmfodpnipiab
open Go.RowKit
set_option linter.unusedVariables false
namespace Hk
open Tx Df Sq

theorem mayH_turn (h : HU) : mayH (turn h) = mayH h := by
  unfold mayH turn
  simp only
  rw [Bool.and_comm (allMay h.new)]
theorem sameH_self (h : HU) : sameH h h = true := by simp [sameH]
theorem applyE_cases (l : List (List UInt8)) (h : HU) : (applyE l h = 1 ∧ applyL l h = [] ∧ mayH h = false) ∨ (applyE l h = 5 ∧ applyL l h = [] ∧ mayH h = true ∧ has l h.pos h.old = false) ∨ (applyE l h = 0 ∧ applyL l h = swp l h.pos.toNat h.old.length h.new ∧ mayH h = true ∧ has l h.pos h.old = true) := by
  unfold applyE applyL
  cases mayH h <;> cases has l h.pos h.old <;> simp
theorem apply_done {l : List (List UInt8)} {h : HU} (he : applyE l h = 0) : done l h = some (applyL l h) := by
  rcases applyE_cases l h with ⟨h1, _⟩ | ⟨h1, _⟩ | ⟨_, h2, _, h4⟩
  · omega
  · omega
  · rw [done_yes h4, h2]
theorem done_apply {l m : List (List UInt8)} {h : HU} (hm : mayH h = true) (hd : done l h = some m) : applyE l h = 0 ∧ applyL l h = m := by
  obtain ⟨h1, h2⟩ := done_some hd
  unfold applyE applyL
  simp [hm, h1, h2]
theorem apply_back {l : List (List UInt8)} {h : HU} (he : applyE l h = 0) : applyE (applyL l h) (turn h) = 0 ∧ applyL (applyL l h) (turn h) = l := by
  have hm : mayH h = true := by
    rcases applyE_cases l h with ⟨h1, _⟩ | ⟨h1, _⟩ | ⟨_, _, h3, _⟩
    · omega
    · omega
    · exact h3
  exact done_apply (by rw [mayH_turn]; exact hm) (done_back (apply_done he))

theorem may_hunk {a b l m : List (List UInt8)} {h : HU} (ha : allMay a = true) (hb : allMay b = true) (hd : done l h = some m) (hl : l.length ≤ 200) (hm : m.length ≤ 200) (ho : ∀ y ∈ h.old, y ∈ a) (hn : ∀ y ∈ h.new, y ∈ b) : mayH h = true ∧ h.old.length ≤ 200 ∧ h.new.length ≤ 200 := by
  obtain ⟨p1, p2⟩ := done_pos hd
  have q1 := (has_len (done_len hd).1).2
  unfold allMay at ha hb
  rw [Bool.and_eq_true, List.all_eq_true] at ha hb
  refine ⟨?_, by omega, by omega⟩
  unfold mayH allMay
  simp only [Bool.and_eq_true, decide_eq_true_eq, List.all_eq_true]
  exact ⟨⟨p1, by omega⟩, ⟨by omega, fun y hy => ha.2 y (ho y hy)⟩, by omega, fun y hy => hb.2 y (hn y hy)⟩

theorem light_all {ls : List (List UInt8)} {k : Nat} (h : light ls k = true) : ∀ x ∈ ls, x.length ≤ maxLen := by
  simp only [light, Bool.and_eq_true, List.all_eq_true, decide_eq_true_eq] at h
  intro x hx
  have := h.2 x hx
  unfold maxLen
  omega

end Hk
end Go.Proofs.Ytjhjmfodpnipiab

namespace Go.Proofs.Ytjhjmfodpnipiab
open Go.RowKit
set_option linter.unusedVariables false
namespace Hk
open Tx Df

/-- How Turn ends. -/
def TurnEnd (w : World) (n n' : Nat) (h : HU) (e : Ending) (w' : World) : Prop :=
  ∃ D k D' k', e = .returned (hkV h.pos D n' k D' n k') ∧ HV w' w'.heap.size D n' k D' n k' (turn h) ∧ Below w.heap.size w w'

/-- How Turn ends: its lines lie in rows of its own. -/
def TurnOEnd (w : World) (n n' : Nat) (h : HU) (e : Ending) (w' : World) : Prop :=
  ∃ D k D' k', e = .returned (hkV h.pos D n' k D' n k') ∧ w'.ownsRow w.heap.size 9 1 (.slice D n' k) n' (h.new.map strV) ∧ w'.ownsRow w.heap.size 9 1 (.slice D' n k') n (h.old.map strV) ∧ Below w.heap.size w w'

end Hk
end Go.Proofs.Ytjhjmfodpnipiab

namespace Go.Proofs.Ytjhjmfodpnipiab
open Go.RowKit
set_option linter.unusedVariables false
namespace Hk
open Tx Df Sq

theorem ret_and {b x y : Bool} (h : b = (x && y)) : Ending.returned (.bool (x && y)) = .returned (.bool b) := by rw [h]

end Hk
end Go.Proofs.Ytjhjmfodpnipiab
