/-
  Words and contracts, joined: GZ GF GN PsCube FlCube PnCube BbPlain PrMay PrTurn GU GV PsGrow.
-/
import Derived.BigQuiet
import Derived.Deep.RegionHeld3
import Derived.Deep.Cut
import Derived.Laws.EntriesVeiled
import Derived.Deep.AppendLies
import Derived.Test.YtdnkinajbebkoaaBN0
set_option maxRecDepth 100000
namespace Go.Proofs.Ytdnkinajbebkoaa
namespace Pr
open Tx Sq Hk Tr
set_option linter.unusedVariables false

/-- Two name no file both. -/
structure Apart (p q : Ch) : Prop where
  nn : p.nm ≠ q.nm
  tn : p.k = 2 → p.to ≠ q.nm
  nt : q.k = 2 → p.nm ≠ q.to
  tt : p.k = 2 → q.k = 2 → p.to ≠ q.to
theorem Apart.symm {p q : Ch} (h : Apart p q) : Apart q p := ⟨h.nn.symm, fun hk => (h.nt hk).symm, fun hk => (h.tn hk).symm, fun h1 h2 => (h.tt h2 h1).symm⟩

def namesP (p : Ch) (n : List UInt8) : Bool := decide (p.nm = n) || (decide (p.k = 2) && decide (p.to = n))
def apartP (p q : Ch) : Bool := !namesP p q.nm && (decide (q.k ≠ 2) || !namesP p q.to)
theorem apartP_iff {p q : Ch} : apartP p q = true ↔ Apart p q := by
  unfold apartP namesP
  simp only [Bool.and_eq_true, Bool.or_eq_true, Bool.not_eq_true', Bool.or_eq_false_iff, Bool.and_eq_false_iff, decide_eq_true_eq, decide_eq_false_iff_not]
  constructor
  · rintro ⟨⟨h1, h2⟩, h3⟩
    refine ⟨h1, fun hk => h2.resolve_left (fun h => h hk), fun hk => ?_, fun hk hk' => ?_⟩
    · rcases h3 with h3 | h3
      · exact absurd hk h3
      · exact h3.1
    · rcases h3 with h3 | h3
      · exact absurd hk' h3
      · exact h3.2.resolve_left (fun h => h hk)
  · rintro ⟨h1, h2, h3, h4⟩
    refine ⟨⟨h1, ?_⟩, ?_⟩
    · by_cases hk : p.k = 2
      · exact .inr (h2 hk)
      · exact .inl hk
    · by_cases hk : q.k = 2
      · refine .inr ⟨h3 hk, ?_⟩
        by_cases hk' : p.k = 2
        · exact .inr (h4 hk' hk)
        · exact .inl hk'
      · exact .inl hk

/-- What two changes are when the second one is ahead. -/
def passP (p q : Ch) : Option (Ch × Ch) :=
  if mayP p = false ∨ mayP q = false then none
  else if apartP p q = true then some (q, p)
  else if p.k = 3 ∧ q.k = 3 then (Sw.passH p.h q.h).map fun z => (⟨q.k, q.nm, q.to, z.1⟩, ⟨p.k, p.nm, p.to, z.2⟩)
  else if p.k = 2 ∧ (q.k = 3 ∨ q.k = 4) ∧ q.nm = p.to then some (⟨q.k, p.nm, q.to, q.h⟩, p)
  else if q.k = 2 ∧ (p.k = 3 ∨ p.k = 4) ∧ p.nm = q.nm then some (q, ⟨p.k, q.to, p.to, p.h⟩)
  else none

/-- The ways in which two pass. -/
inductive Way (p q : Ch) : Ch → Ch → Prop
  | apart (h : Apart p q) : Way p q q p
  | both (hp : p.k = 3) (hq : q.k = 3) (hn : p.nm = q.nm) (u v : HU) (h : Sw.passH p.h q.h = some (u, v)) : Way p q ⟨q.k, q.nm, q.to, u⟩ ⟨p.k, p.nm, p.to, v⟩
  | out (hp : p.k = 2) (hq : q.k = 3 ∨ q.k = 4) (hn : q.nm = p.to) : Way p q ⟨q.k, p.nm, q.to, q.h⟩ p
  | into (hq : q.k = 2) (hp : p.k = 3 ∨ p.k = 4) (hn : p.nm = q.nm) : Way p q q ⟨p.k, q.to, p.to, p.h⟩

theorem not_apart {p q : Ch} (h : ¬ Apart p q) : apartP p q ≠ true := fun h1 => h (apartP_iff.1 h1)
theorem may_not {p q : Ch} (hp : mayP p = true) (hq : mayP q = true) : ¬ (mayP p = false ∨ mayP q = false) := by rw [hp, hq]; simp
theorem passP_apart {p q : Ch} (hp : mayP p = true) (hq : mayP q = true) (h : Apart p q) : passP p q = some (q, p) := by
  unfold passP; rw [if_neg (may_not hp hq), if_pos (apartP_iff.2 h)]
theorem passP_both {p q : Ch} (hp : mayP p = true) (hq : mayP q = true) (kp : p.k = 3) (kq : q.k = 3) (hn : p.nm = q.nm) {u v : HU} (h : Sw.passH p.h q.h = some (u, v)) : passP p q = some (⟨q.k, q.nm, q.to, u⟩, ⟨p.k, p.nm, p.to, v⟩) := by
  unfold passP; rw [if_neg (may_not hp hq), if_neg (not_apart fun a => a.nn hn), if_pos ⟨kp, kq⟩, h]; rfl
theorem passP_out {p q : Ch} (hp : mayP p = true) (hq : mayP q = true) (kp : p.k = 2) (kq : q.k = 3 ∨ q.k = 4) (hn : q.nm = p.to) : passP p q = some (⟨q.k, p.nm, q.to, q.h⟩, p) := by
  unfold passP; rw [if_neg (may_not hp hq), if_neg (not_apart fun a => a.tn kp hn.symm), if_neg (by omega), if_pos ⟨kp, kq, hn⟩]
theorem passP_into {p q : Ch} (hp : mayP p = true) (hq : mayP q = true) (kq : q.k = 2) (kp : p.k = 3 ∨ p.k = 4) (hn : p.nm = q.nm) : passP p q = some (q, ⟨p.k, q.to, p.to, p.h⟩) := by
  unfold passP; rw [if_neg (may_not hp hq), if_neg (not_apart fun a => a.nn hn), if_neg (by omega), if_neg (by omega), if_pos ⟨kq, kp, hn⟩]
/-- Two patches that are not apart are of one file. -/
theorem both_name {p q : Ch} (h : ¬ Apart p q) (hp : p.k = 3) (hq : q.k = 3) : p.nm = q.nm := by
  by_cases hn : p.nm = q.nm
  · exact hn
  · exact absurd ⟨hn, fun h => absurd h (by omega), fun h => absurd h (by omega), fun h => absurd h (by omega)⟩ h
theorem passP_way {p q x y : Ch} (h : passP p q = some (x, y)) : mayP p = true ∧ mayP q = true ∧ Way p q x y := by
  unfold passP at h
  split at h
  · cases h
  · rename_i hm
    have hp : mayP p = true := by
      cases hb : mayP p with
      | true => rfl
      | false => exact absurd (.inl hb) hm
    have hq : mayP q = true := by
      cases hb : mayP q with
      | true => rfl
      | false => exact absurd (.inr hb) hm
    refine ⟨hp, hq, ?_⟩
    split at h
    · rename_i ha
      injection h with h; injection h with h1 h2
      subst h1 h2
      exact .apart (apartP_iff.1 ha)
    · rename_i ha
      have ha : ¬ Apart p q := fun a => ha (apartP_iff.2 a)
      split at h
      · rename_i hk
        cases hz : Sw.passH p.h q.h with
        | none => rw [hz] at h; cases h
        | some z =>
          rw [hz] at h
          injection h with h; injection h with h1 h2
          subst h1 h2
          exact .both hk.1 hk.2 (both_name ha hk.1 hk.2) z.1 z.2 hz
      · split at h
        · rename_i hk
          injection h with h; injection h with h1 h2
          subst h1 h2
          exact .out hk.1 hk.2.1 hk.2.2
        · split at h
          · rename_i hk
            injection h with h; injection h with h1 h2
            subst h1 h2
            exact .into hk.1 hk.2.1 hk.2.2
          · cases h
theorem passP_of_way {p q x y : Ch} (hp : mayP p = true) (hq : mayP q = true) (w : Way p q x y) : passP p q = some (x, y) := by
  cases w with
  | apart h => exact passP_apart hp hq h
  | both kp kq hn u v h => exact passP_both hp hq kp kq hn h
  | out kp kq hn => exact passP_out hp hq kp kq hn
  | into kq kp hn => exact passP_into hp hq kq kp hn

theorem may_h {p : Ch} (hm : mayP p = true) (hk : p.k = 3 ∨ p.k = 4) : name p.nm = true ∧ p.to = [] ∧ mayH p.h = true ∧ (p.k = 4 → p.h.pos = 0) := by
  obtain ⟨hn, h⟩ := mayP_cases.1 hm
  rcases h with ⟨h, _⟩ | ⟨h, _⟩ | ⟨h, h1, h2⟩ | ⟨h, h1, h2, h3⟩
  · omega
  · omega
  · exact ⟨hn, h1, h2, fun h => by omega⟩
  · exact ⟨hn, h1, h2, fun _ => h3⟩
theorem h_may {p : Ch} (hk : p.k = 3 ∨ p.k = 4) (hn : name p.nm = true) (ht : p.to = []) (hh : mayH p.h = true) (h4 : p.k = 4 → p.h.pos = 0) : mayP p = true := by
  rw [mayP_cases]
  refine ⟨hn, ?_⟩
  rcases hk with hk | hk
  · exact .inr (.inr (.inl ⟨hk, ht, hh⟩))
  · exact .inr (.inr (.inr ⟨hk, ht, hh, h4 hk⟩))
theorem may_2 {p : Ch} (hm : mayP p = true) (hk : p.k = 2) : name p.nm = true ∧ name p.to = true ∧ p.to ≠ p.nm := by
  obtain ⟨hn, h⟩ := mayP_cases.1 hm
  rcases h with ⟨h, _⟩ | ⟨h, h1, h2, _⟩ | ⟨h, _⟩ | ⟨h, _⟩
  · omega
  · exact ⟨hn, h1, h2⟩
  · omega
  · omega
/-- What passed may be. -/
theorem way_may {p q x y : Ch} (hp : mayP p = true) (hq : mayP q = true) (w : Way p q x y) : mayP x = true ∧ mayP y = true := by
  cases w with
  | apart h => exact ⟨hq, hp⟩
  | both kp kq hn u v h =>
    obtain ⟨a1, a2, a3, a4⟩ := may_h hp (.inl kp)
    obtain ⟨b1, b2, b3, b4⟩ := may_h hq (.inl kq)
    obtain ⟨m1, m2⟩ := Sw.passH_mays h
    exact ⟨h_may (.inl kq) b1 b2 m1 (fun h => by simp only at h; omega), h_may (.inl kp) a1 a2 m2 (fun h => by simp only at h; omega)⟩
  | out kp kq hn =>
    obtain ⟨b1, b2, b3, b4⟩ := may_h hq kq
    exact ⟨h_may kq (may_2 hp kp).1 b2 b3 b4, hp⟩
  | into kq kp hn =>
    obtain ⟨a1, a2, a3, a4⟩ := may_h hp kp
    exact ⟨hq, h_may kp (may_2 hq kq).2.1 a2 a3 a4⟩

theorem turnP_k (p : Ch) : (turnP p).k = 2 ↔ p.k = 2 := by
  by_cases h0 : p.k = 0
  · rw [turnP_0 h0, h0]; simp
  · by_cases h1 : p.k = 1
    · rw [turnP_1 h1, h1]; simp
    · by_cases h2 : p.k = 2
      · rw [turnP_2 h2, h2]
      · rw [turnP_h h0 h1 h2]
theorem turnP_nm {p : Ch} (h : p.k ≠ 2) : (turnP p).nm = p.nm := by
  by_cases h0 : p.k = 0
  · rw [turnP_0 h0]
  · by_cases h1 : p.k = 1
    · rw [turnP_1 h1]
    · rw [turnP_h h0 h1 h]
theorem apart_turn1 {p q : Ch} (h : Apart p q) : Apart (turnP p) q := by
  by_cases hk : p.k = 2
  · rw [turnP_2 hk]
    exact ⟨h.tn hk, fun _ => h.nn, fun hq => h.tt hk hq, fun _ hq => h.nt hq⟩
  · have hk' : (turnP p).k ≠ 2 := fun e => hk ((turnP_k p).1 e)
    exact ⟨by rw [turnP_nm hk]; exact h.nn, fun e => absurd e hk', fun hq => by rw [turnP_nm hk]; exact h.nt hq, fun e => absurd e hk'⟩
/-- Turned they pass in the other order. -/
theorem way_turn {p q x y : Ch} (w : Way p q x y) : Way (turnP q) (turnP p) (turnP y) (turnP x) := by
  cases w with
  | apart h => exact .apart (apart_turn1 (apart_turn1 h).symm)
  | both kp kq hn u v h =>
    have e1 : turnP q = ⟨q.k, q.nm, q.to, turn q.h⟩ := turnP_h (by omega) (by omega) (by omega)
    have e2 : turnP p = ⟨p.k, p.nm, p.to, turn p.h⟩ := turnP_h (by omega) (by omega) (by omega)
    have e3 : turnP ⟨p.k, p.nm, p.to, v⟩ = ⟨p.k, p.nm, p.to, turn v⟩ := turnP_h (by simp only; omega) (by simp only; omega) (by simp only; omega)
    have e4 : turnP ⟨q.k, q.nm, q.to, u⟩ = ⟨q.k, q.nm, q.to, turn u⟩ := turnP_h (by simp only; omega) (by simp only; omega) (by simp only; omega)
    rw [e1, e2, e3, e4]
    exact Way.both (p := ⟨q.k, q.nm, q.to, turn q.h⟩) (q := ⟨p.k, p.nm, p.to, turn p.h⟩) kq kp hn.symm (turn v) (turn u) (Sw.passH_turn h)
  | out kp kq hn =>
    have e1 : turnP q = ⟨q.k, q.nm, q.to, turn q.h⟩ := turnP_h (by omega) (by omega) (by omega)
    have e2 : turnP p = ⟨2, p.to, p.nm, p.h⟩ := turnP_2 kp
    have e4 : turnP ⟨q.k, p.nm, q.to, q.h⟩ = ⟨q.k, p.nm, q.to, turn q.h⟩ := turnP_h (by simp only; omega) (by simp only; omega) (by simp only; omega)
    rw [e1, e2, e4]
    exact Way.into (p := ⟨q.k, q.nm, q.to, turn q.h⟩) (q := ⟨2, p.to, p.nm, p.h⟩) rfl kq hn
  | into kq kp hn =>
    have e1 : turnP p = ⟨p.k, p.nm, p.to, turn p.h⟩ := turnP_h (by omega) (by omega) (by omega)
    have e2 : turnP q = ⟨2, q.to, q.nm, q.h⟩ := turnP_2 kq
    have e4 : turnP ⟨p.k, q.to, p.to, p.h⟩ = ⟨p.k, q.to, p.to, turn p.h⟩ := turnP_h (by simp only; omega) (by simp only; omega) (by simp only; omega)
    rw [e1, e2, e4]
    exact Way.out (p := ⟨2, q.to, q.nm, q.h⟩) (q := ⟨p.k, p.nm, p.to, turn p.h⟩) rfl kp hn
theorem passP_turn {p q x y : Ch} (h : passP p q = some (x, y)) : passP (turnP q) (turnP p) = some (turnP y, turnP x) := by
  obtain ⟨hp, hq, w⟩ := passP_way h
  exact passP_of_way (mayP_turn1 hq) (mayP_turn1 hp) (way_turn w)
/-- Passing one another changes no kind, and no lines. -/
theorem way_kinds {p q x y : Ch} (w : Way p q x y) : (x.k = q.k ∧ x.to = q.to ∧ x.h.old = q.h.old ∧ x.h.new = q.h.new) ∧ (y.k = p.k ∧ y.to = p.to ∧ y.h.old = p.h.old ∧ y.h.new = p.h.new) := by
  cases w with
  | apart h => exact ⟨⟨rfl, rfl, rfl, rfl⟩, rfl, rfl, rfl, rfl⟩
  | both kp kq hn u v h =>
    obtain ⟨_, a1, a2, a3, a4⟩ := Sw.pass_moves (x := u) (y := v) (Sw.passH_may h).2.2.1
    exact ⟨⟨rfl, rfl, a1, a2⟩, rfl, rfl, a3, a4⟩
  | out kp kq hn => exact ⟨⟨rfl, rfl, rfl, rfl⟩, rfl, rfl, rfl, rfl⟩
  | into kq kp hn => exact ⟨⟨rfl, rfl, rfl, rfl⟩, rfl, rfl, rfl, rfl⟩
end Pr
end Go.Proofs.Ytdnkinajbebkoaa

namespace Go.Proofs.Ytdnkinajbebkoaa
open Go.RowKit
set_option linter.unusedVariables false
namespace Pr
open Tx Df Sq Hk Tr

/-- Noughts. -/
def zeroP : Ch := ⟨0, [], [], ⟨0, [], []⟩⟩
def outP (o : Option (Ch × Ch)) : Ch × Ch := o.getD (zeroP, zeroP)

/-- How a call ends that tells the changes x and y, and b. -/
def PPEnd (w : World) (x y : Ch) (b : Bool) (e : Ending) (w' : World) : Prop :=
  ∃ A n c B m d D i j E k l, e = .returned (.tuple #[prV x.k x.nm x.to x.h.pos A n c B m d, prV y.k y.nm y.to y.h.pos D i j E k l, .bool b]) ∧
    PV w' w'.heap.size A n c B m d x ∧ PV w' w'.heap.size D i j E k l y ∧ (n ≤ 1000 ∧ m ≤ 1000) ∧ (i ≤ 1000 ∧ k ≤ 1000) ∧ Below w.heap.size w w'

theorem outP_of {o : Option (Ch × Ch)} {x y : Ch} (h : outP o = (x, y)) (hb : o.isSome = true) : o = some (x, y) := by
  cases o with
  | none => cases hb
  | some z => exact congrArg some h
theorem none_ofP {α : Type} {o : Option α} (h : o.isSome = false) : o = none := by cases o with | none => rfl | some _ => cases h
theorem zero_PV (w : World) (B : Nat) : PV w B none 0 0 none 0 0 zeroP :=
  ⟨⟨rfl, rfl, Nat.le_refl _, Nat.le_refl _, Nat.zero_le _, Nat.zero_le _, .inl rfl, .inl rfl, ⟨by decide, by decide⟩⟩, ⟨by decide, by decide⟩, Nat.zero_le _, Nat.zero_le _, fun x hx => (by cases hx), fun x hx => (by cases hx)⟩

section
variable {w w' : World} {A B D E : Option Addr} {n c m d i j k l : Nat} {p q x y : Ch} {b : Bool}
/-- Noughts are told. -/
theorem ppEnd_none (ho : outP (passP p q) = (x, y)) (hb : (passP p q).isSome = b) (h : passP p q = none) (hw : Below w.heap.size w w') :
    PPEnd w x y b (.returned (.tuple #[.agg #[.int .i64 0, strV [], strV [], .int .i64 0, .slice none 0 0, .slice none 0 0], .agg #[.int .i64 0, strV [], strV [], .int .i64 0, .slice none 0 0, .slice none 0 0], .bool false])) w' := by
  rw [h] at ho hb
  subst hb
  injection ho with h1 h2
  subst h1 h2
  exact ⟨none, 0, 0, none, 0, 0, none, 0, 0, none, 0, 0, rfl, zero_PV _ _, zero_PV _ _, ⟨Nat.zero_le _, Nat.zero_le _⟩, ⟨Nat.zero_le _, Nat.zero_le _⟩, hw⟩
/-- Two are told. -/
theorem ppEnd_some (ho : outP (passP p q) = (x, y)) (hb : (passP p q).isSome = b) {x' y' : Ch} (h : passP p q = some (x', y')) (hv : PV w' w'.heap.size A n c B m d x') (gv : PV w' w'.heap.size D i j E k l y') (hl : n ≤ 1000 ∧ m ≤ 1000) (gl : i ≤ 1000 ∧ k ≤ 1000) (hw : Below w.heap.size w w') :
    PPEnd w x y b (.returned (.tuple #[prV x'.k x'.nm x'.to x'.h.pos A n c B m d, prV y'.k y'.nm y'.to y'.h.pos D i j E k l, .bool true])) w' := by
  rw [h] at ho hb
  subst hb
  injection ho with h1 h2
  subst h1 h2
  exact ⟨A, n, c, B, m, d, D, i, j, E, k, l, rfl, hv, gv, hl, gl, hw⟩
/-- A change of another name, or place. -/
theorem PV.name (hv : PV w k A n c B m d p) (s : List UInt8) (hs : s.length ≤ maxLen) : PV w k A n c B m d ⟨p.k, s, p.to, p.h⟩ := ⟨hv.h, hv.k, hs, hv.to, hv.s, hv.s'⟩
theorem PV.hunk {N N' : Nat} (hv : PV w N A n c B m d p) {h : HU} (gv : HV w' N' D i j E k l h) (ho : h.old = p.h.old) (hn : h.new = p.h.new) : PV w' N' D i j E k l ⟨p.k, p.nm, p.to, h⟩ := ⟨gv, hv.k, hv.nm, hv.to, (by dsimp only; rw [ho]; exact hv.s), (by dsimp only; rw [hn]; exact hv.s')⟩
end

theorem PV.hi {W : World} {N lo b : Nat} {A B : Option Addr} {n c m d : Nat} {x : Ch} (h : PV W N A n c B m d x) (hi : Hi lo A) (hi' : Hi lo B) (hb : b < lo) (j : Nat) (v : Value) : PV (W.setCell ⟨b, j, none⟩ v) N A n c B m d x :=
  ⟨⟨h.h.l, h.h.l', h.h.k, h.h.k', h.h.m, h.h.m', rdS_hi h.h.r hi hb j v, rdS_hi h.h.r' hi' hb j v, h.h.p⟩, h.k, h.nm, h.to, h.s, h.s'⟩
theorem PV.hi6 {W : World} {N lo b : Nat} {A B : Option Addr} {n c m d : Nat} {x : Ch} (h : PV W N A n c B m d x) (hi : Hi lo A) (hi' : Hi lo B) (hb : b < lo) (v0 v1 v2 v3 v4 v5 : Value) :
    PV ((((((W.setCell ⟨b, 0, none⟩ v0).setCell ⟨b, 1, none⟩ v1).setCell ⟨b, 2, none⟩ v2).setCell ⟨b, 3, none⟩ v3).setCell ⟨b, 4, none⟩ v4).setCell ⟨b, 5, none⟩ v5) N A n c B m d x :=
  (((((h.hi hi hi' hb 0 v0).hi hi hi' hb 1 v1).hi hi hi' hb 2 v2).hi hi hi' hb 3 v3).hi hi hi' hb 4 v4).hi hi hi' hb 5 v5
/-- The same, of lines in memory of their own. -/
def PPEndH (w : World) (x y : Ch) (b : Bool) (e : Ending) (w' : World) : Prop :=
  ∃ A n c B m d D i j E k l, e = .returned (.tuple #[prV x.k x.nm x.to x.h.pos A n c B m d, prV y.k y.nm y.to y.h.pos D i j E k l, .bool b]) ∧
    PV w' w'.heap.size A n c B m d x ∧ PV w' w'.heap.size D i j E k l y ∧ (n ≤ 1000 ∧ m ≤ 1000) ∧ (i ≤ 1000 ∧ k ≤ 1000) ∧ (Hi w.heap.size A ∧ Hi w.heap.size B ∧ Hi w.heap.size D ∧ Hi w.heap.size E) ∧ Below w.heap.size w w'
theorem PPEndH.end_ {w w' : World} {x y : Ch} {b : Bool} {e : Ending} (h : PPEndH w x y b e w') : PPEnd w x y b e w' := by
  obtain ⟨A, n, c, B, m, d, D, i, j, E, k, l, h1, h2, h3, h4, h5, _, h6⟩ := h
  exact ⟨A, n, c, B, m, d, D, i, j, E, k, l, h1, h2, h3, h4, h5, h6⟩

end Pr
end Go.Proofs.Ytdnkinajbebkoaa

namespace Go.Proofs.Ytdnkinajbebkoaa
open Go.RowKit
set_option linter.unusedVariables false
namespace Pr
open Tx Df Sq Hk Tr

/-- How a call ends that tells the lines that are handed in, as they are. -/
def PPEndE (A : Option Addr) (n c : Nat) (A' : Option Addr) (n' c' : Nat) (D : Option Addr) (m k : Nat) (D' : Option Addr) (m' k' : Nat) (w : World) (o : Option (Ch × Ch)) (e : Ending) (w' : World) : Prop :=
  (∀ z, o = some z → e = .returned (.tuple #[prV z.1.k z.1.nm z.1.to z.1.h.pos D m k D' m' k', prV z.2.k z.2.nm z.2.to z.2.h.pos A n c A' n' c', .bool true])) ∧
  (o = none → e = .returned (.tuple #[.agg #[.int .i64 0, strV [], strV [], .int .i64 0, .slice none 0 0, .slice none 0 0], .agg #[.int .i64 0, strV [], strV [], .int .i64 0, .slice none 0 0, .slice none 0 0], .bool false])) ∧ Below w.heap.size w w'
section
variable {A A' D D' : Option Addr} {n c n' c' m k m' k' : Nat} {w w' : World} {o : Option (Ch × Ch)} {e : Ending} {p q x y : Ch} {b : Bool}
/-- What is told reads as the lines that are handed in. -/
theorem way_pv {N : Nat} (h : Way p q x y) (hv : PV w N A n c A' n' c' p) (gv : PV w N D m k D' m' k' q) : PV w N D m k D' m' k' x ∧ PV w N A n c A' n' c' y := by
  cases h with
  | apart h => exact ⟨gv, hv⟩
  | out kp kq hn => exact ⟨gv.name p.nm hv.nm, hv⟩
  | into kq kp hn => exact ⟨gv, hv.name q.to gv.to⟩
  | both kp kq hn u v h =>
    obtain ⟨m1, m2⟩ := Sw.passH_mays h
    obtain ⟨_, b1, b2, b3, b4⟩ := Sw.pass_moves (x := u) (y := v) (Sw.passH_may h).2.2.1
    have g1 := Sw.mayH_pos m1
    have g2 := Sw.mayH_pos m2
    refine ⟨gv.hunk (h := u) ⟨by rw [b1]; exact gv.h.l, by rw [b2]; exact gv.h.l', gv.h.k, gv.h.k', gv.h.m, gv.h.m', by rw [b1]; exact gv.h.r, by rw [b2]; exact gv.h.r', ⟨by omega, by omega⟩⟩ b1 b2, ?_⟩
    exact hv.hunk (h := v) ⟨by rw [b3]; exact hv.h.l, by rw [b4]; exact hv.h.l', hv.h.k, hv.h.k', hv.h.m, hv.h.m', by rw [b3]; exact hv.h.r, by rw [b4]; exact hv.h.r', ⟨by omega, by omega⟩⟩ b3 b4
theorem PPEndE.end_ (h : PPEndE A n c A' n' c' D m k D' m' k' w (passP p q) e w') (hl : n ≤ 1000 ∧ n' ≤ 1000) (gl : m ≤ 1000 ∧ m' ≤ 1000) (hv : PV w w.heap.size A n c A' n' c' p) (gv : PV w w.heap.size D m k D' m' k' q) (ho : outP (passP p q) = (x, y)) (hb : (passP p q).isSome = b) : PPEnd w x y b e w' := by
  obtain ⟨h1, h2, hw⟩ := h
  cases hz : passP p q with
  | none => rw [h2 hz]; exact ppEnd_none ho hb hz hw
  | some z =>
    rw [h1 z hz]
    obtain ⟨v1, v2⟩ := way_pv (passP_way (x := z.1) (y := z.2) hz).2.2 (hv.mv hw) (gv.mv hw)
    exact ppEnd_some ho hb (x' := z.1) (y' := z.2) hz v1 v2 gl hl hw
end

end Pr
end Go.Proofs.Ytdnkinajbebkoaa

namespace Go.Proofs.Ytdnkinajbebkoaa
namespace Pr
open Tx Sq Hk Tr
set_option linter.unusedVariables false

theorem way_fun {p q x y x' y' : Ch} (h' : Way p q x' y') (h : Way p q x y) : x = x' ∧ y = y' := by
  cases h with
  | apart a =>
    cases h' with
    | apart _ => exact ⟨rfl, rfl⟩
    | both _ _ hn => exact absurd hn a.nn
    | out hp _ hn => exact absurd hn.symm (a.tn hp)
    | into _ _ hn => exact absurd hn a.nn
  | both kp kq hn u v h =>
    cases h' with
    | apart a => exact absurd hn a.nn
    | both _ _ _ u' v' h' => rw [h] at h'; injection h' with h'; injection h' with h1 h2; subst h1 h2; exact ⟨rfl, rfl⟩
    | out hp => omega
    | into hq => omega
  | out kp kq hn =>
    cases h' with
    | apart a => exact absurd hn.symm (a.tn kp)
    | both hp => omega
    | out => exact ⟨rfl, rfl⟩
    | into hq => omega
  | into kq kp hn =>
    cases h' with
    | apart a => exact absurd hn a.nn
    | both hp hq => omega
    | out hp => omega
    | into => exact ⟨rfl, rfl⟩

theorem way_three {p q r q1 p1 r1 p2 r2 q2 r3 q3 r4 p3 q4 p4 : Ch} (i : Way p q q1 p1) (j : Way p1 r r1 p2) (k : Way q1 r1 r2 q2)
    (l : Way q r r3 q3) (m : Way p r3 r4 p3) (n : Way p3 q3 q4 p4) : r2 = r4 ∧ q2 = q4 ∧ p2 = p4 := by
  cases i with
  | apart a =>
    cases j with
    | apart b =>
      cases l with
      | apart c =>
        obtain ⟨rfl, rfl⟩ := way_fun k (.apart c)
        obtain ⟨rfl, rfl⟩ := way_fun m (.apart b)
        obtain ⟨rfl, rfl⟩ := way_fun n (.apart a)
        exact ⟨rfl, rfl, rfl⟩
      | both kq kr hn u v h =>
        obtain ⟨rfl, rfl⟩ := way_fun k (.both kq kr hn u v h)
        obtain ⟨rfl, rfl⟩ := way_fun m (Way.apart (q := ⟨r.k, r.nm, r.to, u⟩) ⟨b.nn, b.tn, b.nt, b.tt⟩)
        obtain ⟨rfl, rfl⟩ := way_fun n (Way.apart (q := ⟨q.k, q.nm, q.to, v⟩) ⟨a.nn, a.tn, a.nt, a.tt⟩)
        exact ⟨rfl, rfl, rfl⟩
      | out kq kr hn =>
        obtain ⟨rfl, rfl⟩ := way_fun k (.out kq kr hn)
        obtain ⟨rfl, rfl⟩ := way_fun m (Way.apart (q := ⟨r.k, q.nm, r.to, r.h⟩) ⟨a.nn, a.tn, fun h => by simp only at h; omega, fun _ h => by simp only at h; omega⟩)
        obtain ⟨rfl, rfl⟩ := way_fun n (.apart a)
        exact ⟨rfl, rfl, rfl⟩
      | into kr kq hn =>
        obtain ⟨rfl, rfl⟩ := way_fun k (.into kr kq hn)
        obtain ⟨rfl, rfl⟩ := way_fun m (.apart b)
        obtain ⟨rfl, rfl⟩ := way_fun n (Way.apart (q := ⟨q.k, r.to, q.to, q.h⟩) ⟨b.nt kr, fun hp => b.tt hp kr, fun h => by simp only at h; omega, fun _ h => by simp only at h; omega⟩)
        exact ⟨rfl, rfl, rfl⟩
    | both kp kr hn u v h =>
      -- q apart from p; r of p's file
      have c : Apart q r := ⟨by rw [← hn]; exact a.nn.symm, fun hq => by rw [← hn]; exact (a.nt hq).symm, fun hr => by omega, fun _ hr => by omega⟩
      obtain ⟨rfl, rfl⟩ := way_fun l (.apart c)
      obtain ⟨rfl, rfl⟩ := way_fun k (Way.apart (q := ⟨r.k, r.nm, r.to, u⟩) ⟨c.nn, c.tn, c.nt, c.tt⟩)
      obtain ⟨rfl, rfl⟩ := way_fun m (.both kp kr hn u v h)
      obtain ⟨rfl, rfl⟩ := way_fun n (Way.apart (p := ⟨p.k, p.nm, p.to, v⟩) ⟨a.nn, a.tn, a.nt, a.tt⟩)
      exact ⟨rfl, rfl, rfl⟩
    | out kp kr hn =>
      have c : Apart q r := ⟨by rw [hn]; exact (a.tn kp).symm, fun hq => by rw [hn]; exact (a.tt kp hq).symm, fun hr => by omega, fun _ hr => by omega⟩
      obtain ⟨rfl, rfl⟩ := way_fun l (.apart c)
      obtain ⟨rfl, rfl⟩ := way_fun k (Way.apart (q := ⟨r.k, p.nm, r.to, r.h⟩) ⟨a.nn.symm, fun hq => (a.nt hq).symm, fun h => by simp only at h; omega, fun _ h => by simp only at h; omega⟩)
      obtain ⟨rfl, rfl⟩ := way_fun m (.out kp kr hn)
      obtain ⟨rfl, rfl⟩ := way_fun n (.apart a)
      exact ⟨rfl, rfl, rfl⟩
    | into kr kp hn =>
      -- r moves p's file
      cases l with
      | apart c =>
        obtain ⟨rfl, rfl⟩ := way_fun k (.apart c)
        obtain ⟨rfl, rfl⟩ := way_fun m (.into kr kp hn)
        obtain ⟨rfl, rfl⟩ := way_fun n (Way.apart (p := ⟨p.k, r.to, p.to, p.h⟩) ⟨(c.nt kr).symm, fun h => by simp only at h; omega, fun hq => (c.tt hq kr).symm, fun h => by simp only at h; omega⟩)
        exact ⟨rfl, rfl, rfl⟩
      | both kq kr' hn' u v h => omega
      | out kq kr' hn' => omega
      | into kr' kq hn' => exact absurd (hn.trans hn'.symm) a.nn
  | both kp kq hn u v h =>
    -- p and q of one file
    cases j with
    | apart b =>
      have b' : Apart p r := ⟨b.nn, b.tn, b.nt, b.tt⟩
      have c : Apart q r := ⟨by rw [← hn]; exact b.nn, fun hq => by omega, fun hr => by rw [← hn]; exact b.nt hr, fun hq => by omega⟩
      obtain ⟨rfl, rfl⟩ := way_fun l (.apart c)
      obtain ⟨rfl, rfl⟩ := way_fun k (Way.apart (p := ⟨q.k, q.nm, q.to, u⟩) ⟨c.nn, c.tn, c.nt, c.tt⟩)
      obtain ⟨rfl, rfl⟩ := way_fun m (.apart b')
      obtain ⟨rfl, rfl⟩ := way_fun n (.both kp kq hn u v h)
      exact ⟨rfl, rfl, rfl⟩
    | both kp' kr hn' u' v' h' =>
      simp only at hn' h' kp'
      cases l with
      | apart c => exact absurd (hn.symm.trans hn') c.nn
      | both kq' kr' hn'' u3 v3 h3 =>
        cases k with
        | apart c => exact absurd hn'' c.nn
        | both kq1 kr1 hn1 u2 v2 h2 =>
          cases m with
          | apart c => exact absurd hn' c.nn
          | both kp1 kr2 hn2 u4 v4 h4 =>
            cases n with
            | apart c => exact absurd hn c.nn
            | both kp2 kq2 hn3 u5 v5 h5 =>
              obtain ⟨rfl, rfl, rfl⟩ := Sw.passH_three h h' h2 h3 h4 h5
              exact ⟨rfl, rfl, rfl⟩
            | out kp2 => simp only at kp2; omega
            | into kq2 => simp only at kq2; omega
          | out kp1 => omega
          | into kr2 => simp only at kr2; omega
        | out kq1 => simp only at kq1; omega
        | into kr1 => simp only at kr1; omega
      | out kq' => omega
      | into kr' => omega
    | out kp' => simp only at kp'; omega
    | into kr kp' hn' =>
      simp only at hn'
      obtain ⟨rfl, rfl⟩ := way_fun l (.into kr (.inl kq) (hn.symm.trans hn'))
      obtain ⟨rfl, rfl⟩ := way_fun k (Way.into (p := ⟨q.k, q.nm, q.to, u⟩) kr (.inl kq) (hn.symm.trans hn'))
      obtain ⟨rfl, rfl⟩ := way_fun m (.into kr (.inl kp) hn')
      obtain ⟨rfl, rfl⟩ := way_fun n (Way.both (p := ⟨p.k, r.to, p.to, p.h⟩) (q := ⟨q.k, r.to, q.to, q.h⟩) kp kq rfl u v h)
      exact ⟨rfl, rfl, rfl⟩
  | out kp kq hn =>
    -- p moves, q of where it goes
    cases l with
    | apart c =>
      cases j with
      | apart b =>
        obtain ⟨rfl, rfl⟩ := way_fun k (Way.apart (p := ⟨q.k, p.nm, q.to, q.h⟩) ⟨b.nn, fun h => by simp only at h; omega, b.nt, fun h => by simp only at h; omega⟩)
        obtain ⟨rfl, rfl⟩ := way_fun m (.apart b)
        obtain ⟨rfl, rfl⟩ := way_fun n (.out kp kq hn)
        exact ⟨rfl, rfl, rfl⟩
      | both kp' => omega
      | out kp' kr hn' => exact absurd (hn.trans hn'.symm) c.nn
      | into kr kp' => omega
    | both kq' kr hn' u v h =>
      obtain ⟨rfl, rfl⟩ := way_fun j (.out kp (.inl kr) (hn'.symm.trans hn))
      obtain ⟨rfl, rfl⟩ := way_fun k (Way.both (p := ⟨q.k, p.nm, q.to, q.h⟩) (q := ⟨r.k, p.nm, r.to, r.h⟩) kq' kr rfl u v h)
      obtain ⟨rfl, rfl⟩ := way_fun m (Way.out (q := ⟨r.k, r.nm, r.to, u⟩) kp (.inl kr) (hn'.symm.trans hn))
      obtain ⟨rfl, rfl⟩ := way_fun n (Way.out (q := ⟨q.k, q.nm, q.to, v⟩) kp (.inl kq') hn)
      exact ⟨rfl, rfl, rfl⟩
    | out kq' => omega
    | into kr kq' hn' =>
      cases j with
      | apart b => exact absurd (hn.symm.trans hn') (b.tn kp)
      | both kp' => omega
      | out kp' kr' => omega
      | into kr' kp' => omega
  | into kq kp hn =>
    -- q moves p's file
    cases l with
    | apart c =>
      cases j with
      | apart b =>
        obtain ⟨rfl, rfl⟩ := way_fun k (.apart c)
        obtain ⟨rfl, rfl⟩ := way_fun m (Way.apart (p := p) ⟨by rw [hn]; exact c.nn, fun h => by omega, fun hr => by rw [hn]; exact c.nt hr, fun h => by omega⟩)
        obtain ⟨rfl, rfl⟩ := way_fun n (.into kq kp hn)
        exact ⟨rfl, rfl, rfl⟩
      | both kp' kr hn' => exact absurd hn' (c.tn kq)
      | out kp' => simp only at kp'; omega
      | into kr kp' hn' => exact absurd hn' (c.tn kq)
    | both kq' => omega
    | out kq' kr hn' =>
      cases j with
      | apart b => exact absurd hn'.symm b.nn
      | both kp' kr' hn'' u v h =>
        simp only at kp' h
        obtain ⟨rfl, rfl⟩ := way_fun k (Way.out (q := ⟨r.k, r.nm, r.to, u⟩) kq (.inl kr') hn')
        obtain ⟨rfl, rfl⟩ := way_fun m (Way.both (p := p) (q := ⟨r.k, q.nm, r.to, r.h⟩) kp' kr' hn u v h)
        obtain ⟨rfl, rfl⟩ := way_fun n (Way.into (p := ⟨p.k, p.nm, p.to, v⟩) kq (.inl kp') hn)
        exact ⟨rfl, rfl, rfl⟩
      | out kp' => simp only at kp'; omega
      | into kr' => omega
    | into kr kq' => omega

theorem passP_three {p q r q1 p1 r1 p2 r2 q2 r3 q3 r4 p3 q4 p4 : Ch} (i : passP p q = some (q1, p1)) (j : passP p1 r = some (r1, p2)) (k : passP q1 r1 = some (r2, q2))
    (l : passP q r = some (r3, q3)) (m : passP p r3 = some (r4, p3)) (n : passP p3 q3 = some (q4, p4)) : r2 = r4 ∧ q2 = q4 ∧ p2 = p4 :=
  way_three (passP_way i).2.2 (passP_way j).2.2 (passP_way k).2.2 (passP_way l).2.2 (passP_way m).2.2 (passP_way n).2.2

end Pr
end Go.Proofs.Ytdnkinajbebkoaa

namespace Go.Proofs.Ytdnkinajbebkoaa
open Go.RowKit
set_option linter.unusedVariables false
set_option linter.unusedSimpArgs false
namespace Pr
open Tx Df Sq Hk Tr

set_option maxHeartbeats 1000000 in
theorem Names (A : Option Addr) (n c : Nat) (A' : Option Addr) (n' c' : Nat) (p : Ch) (s : List UInt8) (w : World) (b : Bool) (hb : namesP p s = b) :
    Calls Try.prog 100 #[prV p.k p.nm p.to p.h.pos A n c A' n' c', strV s] w (TestEnd w b) := by
  have HB := Lib.hid hb.symm
  clear hb
  have hw : Below w.heap.size w (w.alloc (.cells #[.int .i64 p.k, strV p.nm, strV p.to, .int .i64 p.h.pos, .slice A n c, .slice A' n' c'] 54)) := (Below.refl _ _).alloc (Nat.le_refl _) _
  have HW := Lib.hid hw; clear hw
  unfold namesP at HB
  by_cases h1 : p.nm = s
  · have e1 : (p.nm == s) = true := by simpa using h1
    have H1 := Lib.hid h1; clear h1
    go_enter Try.func100, Try.ntmps100
    go_wp2
    go_ret
    exact ⟨ret_bool (by rw [HB.out, decide_eq_true H1.out]; rfl), HW.out⟩
  have e1 : (p.nm == s) = false := by simpa using h1
  have H1 := Lib.hid h1; clear h1
  by_cases h2 : p.k = 2
  · have e2 : (p.k == 2) = true := by simpa using h2
    have H2 := Lib.hid h2; clear h2
    cases h3 : (p.to == s)
    all_goals
      go_enter Try.func100, Try.ntmps100
      go_wp2
      go_ret
    · exact ⟨ret_bool (by rw [HB.out, decide_eq_false H1.out, decide_eq_true H2.out, decide_eq_false (by simpa using h3)]; rfl), HW.out⟩
    · exact ⟨ret_bool (by rw [HB.out, decide_eq_false H1.out, decide_eq_true H2.out, decide_eq_true (by simpa using h3)]; rfl), HW.out⟩
  · have e2 : (p.k == 2) = false := by simpa using h2
    go_enter Try.func100, Try.ntmps100
    go_wp2
    go_ret
    exact ⟨ret_bool (by rw [HB.out, decide_eq_false H1.out, decide_eq_false h2]; rfl), HW.out⟩

set_option maxHeartbeats 1000000 in
theorem Meet (A : Option Addr) (n c : Nat) (A' : Option Addr) (n' c' : Nat) (D : Option Addr) (m k : Nat) (D' : Option Addr) (m' k' : Nat) (p q : Ch) (w : World) (b : Bool) (hb : apartP p q = b) :
    Calls Try.prog 86 #[prV p.k p.nm p.to p.h.pos A n c A' n' c', prV q.k q.nm q.to q.h.pos D m k D' m' k'] w (TestEnd w (!b)) := by
  have HB := Lib.hid hb.symm
  clear hb
  obtain ⟨b1, h1⟩ : ∃ b, namesP p q.nm = b := ⟨_, rfl⟩
  obtain ⟨b2, h2⟩ : ∃ b, namesP p q.to = b := ⟨_, rfl⟩
  have H1 := Lib.hid h1; have H2 := Lib.hid h2; clear h1 h2
  have hw := two_box w (.cells #[.int .i64 p.k, strV p.nm, strV p.to, .int .i64 p.h.pos, .slice A n c, .slice A' n' c'] 54) (.cells #[.int .i64 q.k, strV q.nm, strV q.to, .int .i64 q.h.pos, .slice D m k, .slice D' m' k'] 54)
  have b0 := (Blk.new w 54 #[.int .i64 p.k, strV p.nm, strV p.to, .int .i64 p.h.pos, .slice A n c, .slice A' n' c']).alloc (.cells #[.int .i64 q.k, strV q.nm, strV q.to, .int .i64 q.h.pos, .slice D m k, .slice D' m' k'] 54)
  have c0 := Blk.new (w.alloc (.cells #[.int .i64 p.k, strV p.nm, strV p.to, .int .i64 p.h.pos, .slice A n c, .slice A' n' c'] 54)) 54 #[.int .i64 q.k, strV q.nm, strV q.to, .int .i64 q.h.pos, .slice D m k, .slice D' m' k']
  simp only [World.size_alloc] at c0
  go_enter Try.func86, Try.ntmps86
  go_wp2_with fail
  generalize ((w.alloc (.cells #[.int .i64 p.k, strV p.nm, strV p.to, .int .i64 p.h.pos, .slice A n c, .slice A' n' c'] 54)).alloc (.cells #[.int .i64 q.k, strV q.nm, strV q.to, .int .i64 q.h.pos, .slice D m k, .slice D' m' k'] 54)) = w1 at *
  have HW1 := Lib.hid hw; have HB1 := Lib.hid b0; have HC1 := Lib.hid c0
  clear hw b0 c0
  refine (Names A n c A' n' c' p q.nm w1 b1 H1.out).mono ?_
  rintro e w2 ⟨rfl, hb⟩
  have HW2 := Lib.hid (HW1.out.trans (hb.mono HW1.out.size)); have HB2 := Lib.hid (HB1.out.below hb HB1.out.lt); have HC2 := Lib.hid (HC1.out.below hb HC1.out.lt)
  clear hb HW1 HB1 HC1
  have x0 : w2.cell? ⟨w.heap.size, 0, none⟩ = some (.int .i64 p.k) := HB2.out.cell 0 rfl; have x1 : w2.cell? ⟨w.heap.size, 1, none⟩ = some (strV p.nm) := HB2.out.cell 1 rfl; have x2 : w2.cell? ⟨w.heap.size, 2, none⟩ = some (strV p.to) := HB2.out.cell 2 rfl; have x3 : w2.cell? ⟨w.heap.size, 3, none⟩ = some (.int .i64 p.h.pos) := HB2.out.cell 3 rfl; have x4 : w2.cell? ⟨w.heap.size, 4, none⟩ = some (.slice A n c) := HB2.out.cell 4 rfl; have x5 : w2.cell? ⟨w.heap.size, 5, none⟩ = some (.slice A' n' c') := HB2.out.cell 5 rfl
  have y0 : w2.cell? ⟨w.heap.size + 1, 0, none⟩ = some (.int .i64 q.k) := HC2.out.cell 0 rfl; have y1 : w2.cell? ⟨w.heap.size + 1, 1, none⟩ = some (strV q.nm) := HC2.out.cell 1 rfl; have y2 : w2.cell? ⟨w.heap.size + 1, 2, none⟩ = some (strV q.to) := HC2.out.cell 2 rfl; have y3 : w2.cell? ⟨w.heap.size + 1, 3, none⟩ = some (.int .i64 q.h.pos) := HC2.out.cell 3 rfl; have y4 : w2.cell? ⟨w.heap.size + 1, 4, none⟩ = some (.slice D m k) := HC2.out.cell 4 rfl; have y5 : w2.cell? ⟨w.heap.size + 1, 5, none⟩ = some (.slice D' m' k') := HC2.out.cell 5 rfl
  unfold apartP at HB
  rw [H1.out, H2.out] at HB
  cases b1 with
  | true =>
    go_wp2
    go_ret
    exact ⟨ret_bool (by rw [HB.out]; simp), HW2.out⟩
  | false =>
  by_cases hk : q.k = 2
  · have e1 : (q.k == 2) = true := by simpa using hk
    have HK := Lib.hid hk; clear hk
    go_wp2_with fail
    refine (Names A n c A' n' c' p q.to w2 b2 H2.out).mono ?_
    rintro e w3 ⟨rfl, hb⟩
    clear x0 x1 x2 x3 x4 x5 y0 y1 y2 y3 y4 y5
    have HW3 := Lib.hid (HW2.out.trans (hb.mono HW2.out.size))
    clear hb HW2
    go_wp2
    go_ret
    exact ⟨ret_bool (by rw [HB.out]; simp [HK.out]), HW3.out⟩
  · have e1 : (q.k == 2) = false := by simpa using hk
    have HK := Lib.hid hk; clear hk
    go_wp2
    go_ret
    exact ⟨ret_bool (by rw [HB.out]; simp [HK.out]), HW2.out⟩

/-- How own ends: the change, of lines of one's own. -/
def POEnd (w : World) (n n' : Nat) (p : Ch) (e : Ending) (w' : World) : Prop :=
  ∃ D d D' d', e = .returned (prV p.k p.nm p.to p.h.pos D n d D' n' d') ∧ PV w' w'.heap.size D n d D' n' d' p ∧ (Hi w.heap.size D ∧ Hi w.heap.size D') ∧ Below w.heap.size w w'

set_option maxRecDepth 100000 in
set_option maxHeartbeats 2000000 in
theorem OwnC (A : Option Addr) (n c : Nat) (A' : Option Addr) (n' c' B : Nat) (p : Ch) (w : World) (hB : B ≤ w.heap.size) (hn : n ≤ 1000) (hn' : n' ≤ 1000) (hv : PV w B A n c A' n' c' p) :
    Calls Try.prog 88 #[prV p.k p.nm p.to p.h.pos A n c A' n' c'] w (POEnd w n n' p) := by
  obtain ⟨j0, hj, hy0, hy1, hy2⟩ := info_parts info_str
  have HV0 := Lib.hid hv
  have HBL := Lib.hid hB
  clear hv hB
  go_enter Try.func88, Try.ntmps88
  go_upto_region 1 with fail
  have b1 := (Blk.new w 54 #[.int .i64 p.k, strV p.nm, strV p.to, .int .i64 p.h.pos, .slice A n c, .slice A' n' c']).alloc (.cells #[.int .i64 0, strV [], strV [], .int .i64 0, .slice none 0 0, .slice none 0 0] 54)
  have b2 := Blk.new (w.alloc (.cells #[.int .i64 p.k, strV p.nm, strV p.to, .int .i64 p.h.pos, .slice A n c, .slice A' n' c'] 54)) 54 #[.int .i64 0, strV [], strV [], .int .i64 0, .slice none 0 0, .slice none 0 0]
  have hw := two_box w (.cells #[.int .i64 p.k, strV p.nm, strV p.to, .int .i64 p.h.pos, .slice A n c, .slice A' n' c'] 54) (.cells #[.int .i64 0, strV [], strV [], .int .i64 0, .slice none 0 0, .slice none 0 0] 54)
  simp only [World.size_alloc] at b2
  generalize (w.alloc (.cells #[.int .i64 p.k, strV p.nm, strV p.to, .int .i64 p.h.pos, .slice A n c, .slice A' n' c'] 54)).alloc (.cells #[.int .i64 0, strV [], strV [], .int .i64 0, .slice none 0 0, .slice none 0 0] 54) = W at *
  obtain ⟨g, hgs⟩ : ∃ g, w.heap.size = g := ⟨_, rfl⟩
  rw [hgs] at b1 b2 hw ⊢
  have HGS := Lib.hid hgs
  have R1 := Lib.hid (And.intro HV0.out.h.l (Rd.below HV0.out.h.r (hw.mono (by rw [← hgs]; exact HBL.out))))
  have R2 := Lib.hid (And.intro HV0.out.h.l' (Rd.below HV0.out.h.r' (hw.mono (by rw [← hgs]; exact HBL.out))))
  have HW := Lib.hid hw; have B1 := Lib.hid b1; have B2 := Lib.hid b2
  have HBW : Hid (B ≤ g) := Lib.hid (by rw [← hgs]; exact HBL.out)
  clear hgs hw b1 b2
  have x0 : W.cell? ⟨g, 0, none⟩ = some (.int .i64 p.k) := B1.out.cell 0 rfl; have x1 : W.cell? ⟨g, 1, none⟩ = some (strV p.nm) := B1.out.cell 1 rfl; have x2 : W.cell? ⟨g, 2, none⟩ = some (strV p.to) := B1.out.cell 2 rfl; have x3 : W.cell? ⟨g, 3, none⟩ = some (.int .i64 p.h.pos) := B1.out.cell 3 rfl; have x4 : W.cell? ⟨g, 4, none⟩ = some (.slice A n c) := B1.out.cell 4 rfl; have x5 : W.cell? ⟨g, 5, none⟩ = some (.slice A' n' c') := B1.out.cell 5 rfl
  go_upto_region 2 with (at_builtin; refine wpList_nil' rfl (.const (.slice none 0 0)) (.tmp 5) 50 rfl 9 j0 (.string ⟨#[]⟩) 16 Try.underlying50 hj hy0 hy1 hy2 rfl rfl B A n c (p.h.old.map strV) rfl (by rw [List.length_map]; exact R1.out.1) R1.out.2 (strs_one _) (by unfold maxLen; omega) (by omega) ?_; intro D1 d1 w1 hA hg; have b1 := B1.out.gr hg (nn _); have b2 := B2.out.gr hg (nn _); have f4 : w1.frozen? ⟨g, 4, none⟩ = false := b1.frozen 4; have z0 : w1.cell? ⟨g, 0, none⟩ = some (.int .i64 p.k) := b1.cell 0 rfl; have z1 : w1.cell? ⟨g, 1, none⟩ = some (strV p.nm) := b1.cell 1 rfl; have z2 : w1.cell? ⟨g, 2, none⟩ = some (strV p.to) := b1.cell 2 rfl; have z3 : w1.cell? ⟨g, 3, none⟩ = some (.int .i64 p.h.pos) := b1.cell 3 rfl; have z4 : w1.cell? ⟨g, 4, none⟩ = some (.slice A n c) := b1.cell 4 rfl; have z5 : w1.cell? ⟨g, 5, none⟩ = some (.slice A' n' c') := b1.cell 5 rfl; have hgl := HW.out.size; have BA := Lib.hid b1; have BB := Lib.hid b2; have HA := Lib.hid hA; have HG := Lib.hid hg; clear b1 b2 hA hg)
  clear x0 z0 x1 z1 x2 z2 x3 z3 x4 z4 x5 z5 f4
  have hl1 := HG.out.size
  have hgW : g + 1 < W.heap.size := B2.out.lt
  have b3 : Blk (World.setCell w1 ⟨g, 4, none⟩ (.slice D1 n d1)) g 54 #[.int .i64 p.k, strV p.nm, strV p.to, .int .i64 p.h.pos, .slice D1 n d1, .slice A' n' c'] := BA.out.set 4 (.slice D1 n d1)
  have b4 := BB.out.set_ne (show g + 1 ≠ g by omega) 4 (.slice D1 n d1)
  have o1 := own_set HA.out (show g < W.heap.size by omega) 4 (.slice D1 n d1)
  have h1 : Below g w (World.setCell w1 ⟨g, 4, none⟩ (.slice D1 n d1)) := (HW.out.trans ((below_gr HG.out).mono (by omega))).setCell (p := ⟨g, 4, none⟩) (Nat.le_refl _) _
  have r2 : RdS (World.setCell w1 ⟨g, 4, none⟩ (.slice D1 n d1)) B A' p.h.new := Rd.below R2.out.2 (((below_gr HG.out).mono (Nat.le_trans HBW.out (by omega))).setCell (p := ⟨g, 4, none⟩) HBW.out _)
  have hs1 : (World.setCell w1 ⟨g, 4, none⟩ (.slice D1 n d1)).heap.size = w1.heap.size := by simp
  generalize (World.setCell w1 ⟨g, 4, none⟩ (.slice D1 n d1)) = X at *
  have R3 := Lib.hid (And.intro R2.out.1 r2)
  have B3 := Lib.hid b3; have B4 := Lib.hid b4; have O1 := Lib.hid o1; have H1 := Lib.hid h1; have HS1 := Lib.hid hs1
  clear b3 b4 o1 h1 r2 hs1
  have x0 : X.cell? ⟨g, 0, none⟩ = some (.int .i64 p.k) := B3.out.cell 0 rfl; have x1 : X.cell? ⟨g, 1, none⟩ = some (strV p.nm) := B3.out.cell 1 rfl; have x2 : X.cell? ⟨g, 2, none⟩ = some (strV p.to) := B3.out.cell 2 rfl; have x3 : X.cell? ⟨g, 3, none⟩ = some (.int .i64 p.h.pos) := B3.out.cell 3 rfl; have x4 : X.cell? ⟨g, 4, none⟩ = some (.slice D1 n d1) := B3.out.cell 4 rfl; have x5 : X.cell? ⟨g, 5, none⟩ = some (.slice A' n' c') := B3.out.cell 5 rfl
  go_upto_region 3 with (at_builtin; refine wpList_nil' rfl (.const (.slice none 0 0)) (.tmp 11) 50 rfl 9 j0 (.string ⟨#[]⟩) 16 Try.underlying50 hj hy0 hy1 hy2 rfl rfl B A' n' c' (p.h.new.map strV) rfl (by rw [List.length_map]; exact R3.out.1) R3.out.2 (strs_one _) (by unfold maxLen; omega) (by omega) ?_; intro D2 d2 w2 hA2 hg2; have b1 := B3.out.gr hg2 (nn _); have b2 := B4.out.gr hg2 (nn _); have f5 : w2.frozen? ⟨g, 5, none⟩ = false := b1.frozen 5; have z0 : w2.cell? ⟨g, 0, none⟩ = some (.int .i64 p.k) := b1.cell 0 rfl; have z1 : w2.cell? ⟨g, 1, none⟩ = some (strV p.nm) := b1.cell 1 rfl; have z2 : w2.cell? ⟨g, 2, none⟩ = some (strV p.to) := b1.cell 2 rfl; have z3 : w2.cell? ⟨g, 3, none⟩ = some (.int .i64 p.h.pos) := b1.cell 3 rfl; have z4 : w2.cell? ⟨g, 4, none⟩ = some (.slice D1 n d1) := b1.cell 4 rfl; have z5 : w2.cell? ⟨g, 5, none⟩ = some (.slice A' n' c') := b1.cell 5 rfl; have BC := Lib.hid b1; have BD := Lib.hid b2; have HA2 := Lib.hid hA2; have HG2 := Lib.hid hg2; clear b1 b2 hA2 hg2)
  clear x0 z0 x1 z1 x2 z2 x3 z3 x4 z4 x5 z5 f5
  have hl2 := HG2.out.size
  have hs1 := HS1.out
  have b3 : Blk (World.setCell w2 ⟨g, 5, none⟩ (.slice D2 n' d2)) g 54 #[.int .i64 p.k, strV p.nm, strV p.to, .int .i64 p.h.pos, .slice D1 n d1, .slice D2 n' d2] := BC.out.set 5 (.slice D2 n' d2)
  have b4 := BD.out.set_ne (show g + 1 ≠ g by omega) 5 (.slice D2 n' d2)
  have o1 := own_set (own_gr O1.out HG2.out) (show g < W.heap.size by omega) 5 (.slice D2 n' d2)
  have o2 := own_set HA2.out (show g < X.heap.size by omega) 5 (.slice D2 n' d2)
  have h1 : Below g w (World.setCell w2 ⟨g, 5, none⟩ (.slice D2 n' d2)) := (H1.out.trans ((below_gr HG2.out).mono (by omega))).setCell (p := ⟨g, 5, none⟩) (Nat.le_refl _) _
  generalize (World.setCell w2 ⟨g, 5, none⟩ (.slice D2 n' d2)) = Y at *
  have B5 := Lib.hid b3; have B6 := Lib.hid b4; have O2 := Lib.hid o1; have O3 := Lib.hid o2; have H2 := Lib.hid h1
  clear b3 b4 o1 o2 h1 hl1 hl2 hs1
  have x0 : Y.cell? ⟨g, 0, none⟩ = some (.int .i64 p.k) := B5.out.cell 0 rfl; have x1 : Y.cell? ⟨g, 1, none⟩ = some (strV p.nm) := B5.out.cell 1 rfl; have x2 : Y.cell? ⟨g, 2, none⟩ = some (strV p.to) := B5.out.cell 2 rfl; have x3 : Y.cell? ⟨g, 3, none⟩ = some (.int .i64 p.h.pos) := B5.out.cell 3 rfl; have x4 : Y.cell? ⟨g, 4, none⟩ = some (.slice D1 n d1) := B5.out.cell 4 rfl; have x5 : Y.cell? ⟨g, 5, none⟩ = some (.slice D2 n' d2) := B5.out.cell 5 rfl
  have z0 : Y.cell? ⟨g + 1, 0, none⟩ = some (.int .i64 0) := B6.out.cell 0 rfl; have z1 : Y.cell? ⟨g + 1, 1, none⟩ = some (strV []) := B6.out.cell 1 rfl; have z2 : Y.cell? ⟨g + 1, 2, none⟩ = some (strV []) := B6.out.cell 2 rfl; have z3 : Y.cell? ⟨g + 1, 3, none⟩ = some (.int .i64 0) := B6.out.cell 3 rfl; have z4 : Y.cell? ⟨g + 1, 4, none⟩ = some (.slice none 0 0) := B6.out.cell 4 rfl; have z5 : Y.cell? ⟨g + 1, 5, none⟩ = some (.slice none 0 0) := B6.out.cell 5 rfl
  have f0 : Y.frozen? ⟨g + 1, 0, none⟩ = false := B6.out.frozen 0; have f1 : Y.frozen? ⟨g + 1, 1, none⟩ = false := B6.out.frozen 1; have f2 : Y.frozen? ⟨g + 1, 2, none⟩ = false := B6.out.frozen 2; have f3 : Y.frozen? ⟨g + 1, 3, none⟩ = false := B6.out.frozen 3; have f4 : Y.frozen? ⟨g + 1, 4, none⟩ = false := B6.out.frozen 4; have f5 : Y.frozen? ⟨g + 1, 5, none⟩ = false := B6.out.frozen 5
  go_wp2
  have b5 := blk6 B6.out (.int .i64 p.k) (strV p.nm) (strV p.to) (.int .i64 p.h.pos) (.slice D1 n d1) (.slice D2 n' d2)
  have hb9 : Below g w (World.setCell (World.setCell (World.setCell (World.setCell (World.setCell (World.setCell Y ⟨g + 1, 0, none⟩ (.int .i64 p.k)) ⟨g + 1, 1, none⟩ (strV p.nm)) ⟨g + 1, 2, none⟩ (strV p.to)) ⟨g + 1, 3, none⟩ (.int .i64 p.h.pos)) ⟨g + 1, 4, none⟩ (.slice D1 n d1)) ⟨g + 1, 5, none⟩ (.slice D2 n' d2)) := ((((((H2.out.setCell (p := ⟨g + 1, 0, none⟩) (Nat.le_succ g) _).setCell (p := ⟨g + 1, 1, none⟩) (Nat.le_succ g) _).setCell (p := ⟨g + 1, 2, none⟩) (Nat.le_succ g) _).setCell (p := ⟨g + 1, 3, none⟩) (Nat.le_succ g) _).setCell (p := ⟨g + 1, 4, none⟩) (Nat.le_succ g) _).setCell (p := ⟨g + 1, 5, none⟩) (Nat.le_succ g) _)
  have o9 := own_set (own_set (own_set (own_set (own_set (own_set O2.out hgW 0 (.int .i64 p.k)) hgW 1 (strV p.nm)) hgW 2 (strV p.to)) hgW 3 (.int .i64 p.h.pos)) hgW 4 (.slice D1 n d1)) hgW 5 (.slice D2 n' d2)
  have hgX : g + 1 < X.heap.size := by have := HS1.out; have := HG.out.size; omega
  have o9' := own_set (own_set (own_set (own_set (own_set (own_set O3.out hgX 0 (.int .i64 p.k)) hgX 1 (strV p.nm)) hgX 2 (strV p.to)) hgX 3 (.int .i64 p.h.pos)) hgX 4 (.slice D1 n d1)) hgX 5 (.slice D2 n' d2)
  generalize (World.setCell (World.setCell (World.setCell (World.setCell (World.setCell (World.setCell Y ⟨g + 1, 0, none⟩ (.int .i64 p.k)) ⟨g + 1, 1, none⟩ (strV p.nm)) ⟨g + 1, 2, none⟩ (strV p.to)) ⟨g + 1, 3, none⟩ (.int .i64 p.h.pos)) ⟨g + 1, 4, none⟩ (.slice D1 n d1)) ⟨g + 1, 5, none⟩ (.slice D2 n' d2)) = X9 at *
  clear x0 z0 f0 x1 z1 f1 x2 z2 f2 x3 z3 f3 x4 z4 f4 x5 z5 f5
  have q0 : X9.cell? ⟨g + 1, 0, none⟩ = some (.int .i64 p.k) := b5.cell 0 rfl; have q1 : X9.cell? ⟨g + 1, 1, none⟩ = some (strV p.nm) := b5.cell 1 rfl; have q2 : X9.cell? ⟨g + 1, 2, none⟩ = some (strV p.to) := b5.cell 2 rfl; have q3 : X9.cell? ⟨g + 1, 3, none⟩ = some (.int .i64 p.h.pos) := b5.cell 3 rfl; have q4 : X9.cell? ⟨g + 1, 4, none⟩ = some (.slice D1 n d1) := b5.cell 4 rfl; have q5 : X9.cell? ⟨g + 1, 5, none⟩ = some (.slice D2 n' d2) := b5.cell 5 rfl
  refine bodyPost_ret (v := .agg #[.int .i64 p.k, strV p.nm, strV p.to, .int .i64 p.h.pos, .slice D1 n d1, .slice D2 n' d2]) (by simp [results, Try.results88, go_sem, q0, q1, q2, q3, q4, q5]) rfl ?_
  obtain ⟨_, _, e1, hk1, r1⟩ := rd_of_own o9
  obtain ⟨_, _, e2, hk2, r2⟩ := rd_of_own o9'
  cases e1; cases e2
  have v := HV0.out
  refine ⟨D1, d1, D2, d2, rfl, ⟨⟨v.h.l, v.h.l', hk1, hk2, v.h.m, v.h.m', r1, r2, v.h.p⟩, v.k, v.nm, v.to, v.s, v.s'⟩, ⟨(hi_own o9).mono (by rw [HGS.out]; omega), (hi_own o9').mono (by rw [HGS.out]; omega)⟩, by rw [HGS.out]; exact hb9⟩

end Pr
end Go.Proofs.Ytdnkinajbebkoaa

set_option maxRecDepth 100000
namespace Go.Proofs.Ytdnkinajbebkoaa
namespace Fl
open Tx Sq Hk Tr Pr
set_option linter.unusedVariables false

section
variable {α : Type} (P : α → α → Option (α × α))

/-- One passes a list, from the last one to the first one. -/
def one : List α → α → Option (α × List α)
  | [], q => some (q, [])
  | p :: a, q => (one a q).bind fun z => (P p z.1).map fun y => (y.1, y.2 :: z.2)
/-- Each of a list, in order, passes a list. -/
def passL : List α → List α → Option (List α × List α)
  | a, [] => some ([], a)
  | a, q :: b => (one P a q).bind fun z => (passL z.2 b).map fun y => (z.1 :: y.1, y.2)

theorem one_cons {p q x y q1 : α} {a a1 : List α} (h : one P a q = some (q1, a1)) (h1 : P p q1 = some (x, y)) : one P (p :: a) q = some (x, y :: a1) := by
  rw [one, h, Option.bind_some, h1]; rfl
theorem one_cons_inv {p q x : α} {a y : List α} (h : one P (p :: a) q = some (x, y)) : ∃ q1 a1 z, one P a q = some (q1, a1) ∧ P p q1 = some (x, z) ∧ y = z :: a1 := by
  rw [one] at h
  cases h1 : one P a q with
  | none => rw [h1] at h; cases h
  | some w =>
    rw [h1, Option.bind_some] at h
    cases h2 : P p w.1 with
    | none => rw [h2] at h; cases h
    | some v =>
      rw [h2] at h
      injection h with h; injection h with h3 h4
      exact ⟨w.1, w.2, v.2, rfl, by rw [h2, ← h3], h4.symm⟩
theorem passL_cons {q q1 : α} {a a1 b b1 a2 : List α} (h : one P a q = some (q1, a1)) (h1 : passL P a1 b = some (b1, a2)) : passL P a (q :: b) = some (q1 :: b1, a2) := by
  rw [passL, h, Option.bind_some, h1]; rfl
theorem passL_cons_inv {q : α} {a b x y : List α} (h : passL P a (q :: b) = some (x, y)) : ∃ q1 a1 b1, one P a q = some (q1, a1) ∧ passL P a1 b = some (b1, y) ∧ x = q1 :: b1 := by
  rw [passL] at h
  cases h1 : one P a q with
  | none => rw [h1] at h; cases h
  | some w =>
    rw [h1, Option.bind_some] at h
    cases h2 : passL P w.2 b with
    | none => rw [h2] at h; cases h
    | some v =>
      rw [h2] at h
      injection h with h; injection h with h3 h4
      exact ⟨w.1, w.2, v.1, rfl, by rw [h2, ← h4], h3.symm⟩
theorem passL_nil (a : List α) : passL P a [] = some ([], a) := by cases a <;> rfl
theorem one_len : ∀ {a : List α} {q x : α} {y : List α}, one P a q = some (x, y) → y.length = a.length
  | [], _, _, _, h => by injection h with h; injection h with _ h; rw [← h]
  | p :: a, q, x, y, h => by
    obtain ⟨q1, a1, z, h1, _, rfl⟩ := one_cons_inv P h
    rw [List.length_cons, one_len h1, List.length_cons]
theorem passL_len : ∀ {b a x y : List α}, passL P a b = some (x, y) → x.length = b.length ∧ y.length = a.length
  | [], a, x, y, h => by rw [passL_nil] at h; injection h with h; injection h with h1 h2; rw [← h1, ← h2]; exact ⟨rfl, rfl⟩
  | q :: b, a, x, y, h => by
    obtain ⟨q1, a1, b1, h1, h2, rfl⟩ := passL_cons_inv P h
    obtain ⟨e1, e2⟩ := passL_len h2
    exact ⟨by rw [List.length_cons, e1, List.length_cons], by rw [e2, one_len P h1]⟩
/-- A list passes two lists, one behind the other, as it passes their joint. -/
theorem one_app : ∀ (a b : List α) (q : α), one P (a ++ b) q = (one P b q).bind fun z => (one P a z.1).map fun y => (y.1, y.2 ++ z.2)
  | [], b, q => by
    rw [List.nil_append]
    cases h : one P b q with
    | none => rfl
    | some z => rfl
  | p :: a, b, q => by
    rw [List.cons_append, one, one_app a b q]
    cases h : one P b q with
    | none => rfl
    | some z =>
      simp only [Option.bind_some]
      rw [one]
      cases h1 : one P a z.1 with
      | none => rfl
      | some y =>
        simp only [Option.map_some, Option.bind_some]
        cases h2 : P p y.1 with
        | none => rfl
        | some v => rfl
theorem passL_app2 : ∀ (b a c : List α), passL P a (b ++ c) = (passL P a b).bind fun z => (passL P z.2 c).map fun y => (z.1 ++ y.1, y.2)
  | [], a, c => by
    rw [List.nil_append, passL_nil, Option.bind_some]
    cases h : passL P a c with
    | none => rfl
    | some z => rfl
  | q :: b, a, c => by
    rw [List.cons_append, passL, passL]
    cases h : one P a q with
    | none => rfl
    | some z =>
      simp only [Option.bind_some]
      rw [passL_app2 b z.2 c]
      cases h1 : passL P z.2 b with
      | none => rfl
      | some y =>
        simp only [Option.bind_some, Option.map_some]
        cases h2 : passL P y.2 c with
        | none => rfl
        | some v => rfl

variable {τ : Type} (D : τ → α → Option τ) (I : τ → Prop)
end

def turnF (l : List Ch) : List Ch := (l.map turnP).reverse
abbrev passF : List Ch → List Ch → Option (List Ch × List Ch) := passL passP
end Fl
end Go.Proofs.Ytdnkinajbebkoaa

namespace Go.Proofs.Ytdnkinajbebkoaa
open Go.RowKit
set_option linter.unusedVariables false
namespace Fl
open Tx Df Sq Hk Tr Pr

/-- Two memories are alike in the blocks that S names. -/
def Alike (S : Nat → Prop) (W W' : World) : Prop := ∀ b, S b → b < W.heap.size → W'.heap[b]? = W.heap[b]?
section
variable {W W' W1 : World} {S T : Nat → Prop} {B b : Nat}
theorem Alike.mono (h : Alike T W W') (hs : ∀ b, S b → T b) : Alike S W W' := fun b hb hl => h b (hs b hb) hl
theorem alike_below (hb : Below B W W') : Alike (· < B) W W' := fun b h _ => hb.block b h
theorem alike_gr {row : Option Nat} (hg : W.grownBy W' row) : Alike (fun b => some b ≠ row) W W' := fun b h hl => hg.block b hl h
theorem alike_set (W : World) (b j : Nat) (v : Value) : Alike (· ≠ b) W (W.setCell ⟨b, j, none⟩ v) := fun k h hl => (grownBy_set W b j v).block k hl (by simpa using h)
theorem alike_drewN (S : Nat → Prop) (W : World) (d : Nat) : Alike S W (W.drewN d) := fun _ _ _ => rfl
end

/-- The address A leads, in a block that S names, to the cells xs; or there are none. -/
def RdG (w : World) (S : Nat → Prop) (A : Option Addr) (xs : List Value) : Prop := xs = [] ∨ ∃ a, A = some a ∧ S a.block ∧ ∀ (j : Nat) u, xs[j]? = some u → w.cell? (a.add j) = some u
section
variable {W W' : World} {S T : Nat → Prop} {A : Option Addr} {xs : List Value} {B : Nat} {ls : List (List UInt8)}
theorem RdG.mono (h : RdG W S A xs) (hs : ∀ b, S b → T b) : RdG W T A xs := h.imp id fun ⟨a, e, h1, h2⟩ => ⟨a, e, hs _ h1, h2⟩
theorem RdG.to (h : RdG W S A xs) (ha : Alike S W W') : RdG W' S A xs := h.imp id fun ⟨a, e, h1, h2⟩ => ⟨a, e, h1, fun j u hu => by
  have hc := h2 j u hu
  exact (World.cell?_of_block (ha _ (by rw [add_block]; exact h1) (World.block_lt_of_cell? W _ hc))).trans hc⟩
theorem RdG.rd (h : RdG W (· < B) A (ls.map strV)) : RdS W B A ls := h
end

/-- Two slice values that read, in blocks that S names, as a change's lines. -/
structure PG (w : World) (S : Nat → Prop) (A : Option Addr) (n c : Nat) (B : Option Addr) (m d : Nat) (p : Ch) : Prop where
  l : p.h.old.length = n
  l' : p.h.new.length = m
  k : n ≤ c
  k' : m ≤ d
  mm : n ≤ maxLen
  mm' : m ≤ maxLen
  r : RdG w S A (p.h.old.map strV)
  r' : RdG w S B (p.h.new.map strV)
  pp : I64 p.h.pos
  kk : I64 p.k
  nm : p.nm.length ≤ maxLen
  to : p.to.length ≤ maxLen
  s : ∀ x ∈ p.h.old, x.length ≤ maxLen
  s' : ∀ x ∈ p.h.new, x.length ≤ maxLen
section
variable {W W' : World} {S T : Nat → Prop} {A B : Option Addr} {n c m d N : Nat} {p : Ch}
theorem PG.mono (h : PG W S A n c B m d p) (hs : ∀ b, S b → T b) : PG W T A n c B m d p := ⟨h.l, h.l', h.k, h.k', h.mm, h.mm', h.r.mono hs, h.r'.mono hs, h.pp, h.kk, h.nm, h.to, h.s, h.s'⟩
theorem PG.to_ (h : PG W S A n c B m d p) (ha : Alike S W W') : PG W' S A n c B m d p := ⟨h.l, h.l', h.k, h.k', h.mm, h.mm', h.r.to ha, h.r'.to ha, h.pp, h.kk, h.nm, h.to, h.s, h.s'⟩
theorem PG.pv (h : PG W (· < N) A n c B m d p) : PV W N A n c B m d p := ⟨⟨h.l, h.l', h.k, h.k', h.mm, h.mm', h.r, h.r', h.pp⟩, h.kk, h.nm, h.to, h.s, h.s'⟩
/-- A change whose lines are in memory that is new. -/
theorem rdG_hi {ls : List (List UInt8)} {lo : Nat} (h : RdS W N A ls) (hi : Hi lo A) : RdG W (fun b => lo ≤ b ∧ b < N) A (ls.map strV) := by
  rcases h with h | ⟨a, e, h1, h2⟩
  · exact .inl h
  · exact .inr ⟨a, e, ⟨hi a e, h1⟩, h2⟩
theorem pg_hi {lo : Nat} (h : PV W N A n c B m d p) (hi : Hi lo A) (hi' : Hi lo B) : PG W (fun b => lo ≤ b ∧ b < N) A n c B m d p :=
  ⟨h.h.l, h.h.l', h.h.k, h.h.k', h.h.m, h.h.m', rdG_hi h.h.r hi, rdG_hi h.h.r' hi', h.h.p, h.k, h.nm, h.to, h.s, h.s'⟩
end

/-- The cells of a change, the k-th of a row at the address a. -/
structure PrAt (w : World) (S : Nat → Prop) (a : Addr) (k : Nat) (x : Ch) : Prop where
  c0 : w.cell? (a.add (k * 6)) = some (.int .i64 x.k)
  c1 : w.cell? ⟨(a.add (k * 6)).block, (a.add (k * 6)).off + 1, none⟩ = some (strV x.nm)
  c2 : w.cell? ⟨(a.add (k * 6)).block, (a.add (k * 6)).off + 2, none⟩ = some (strV x.to)
  c3 : w.cell? ⟨(a.add (k * 6)).block, (a.add (k * 6)).off + 3, none⟩ = some (.int .i64 x.h.pos)
  c4 : ∃ A n c B m d, w.cell? ⟨(a.add (k * 6)).block, (a.add (k * 6)).off + 4, none⟩ = some (.slice A n c) ∧ w.cell? ⟨(a.add (k * 6)).block, (a.add (k * 6)).off + 5, none⟩ = some (.slice B m d) ∧ PG w S A n c B m d x

/-- The address A leads, in blocks that S names, to changes; or there are none. -/
def RdP (w : World) (S : Nat → Prop) (A : Option Addr) (l : List Ch) : Prop :=
  l = [] ∨ ∃ a, A = some a ∧ S a.block ∧ ∀ (k : Nat) x, l[k]? = some x → PrAt w S a k x
section
variable {W W' : World} {S T : Nat → Prop} {A : Option Addr} {l : List Ch} {N : Nat}
theorem PrAt.mono {a : Addr} {k : Nat} {x : Ch} (h : PrAt W S a k x) (hs : ∀ b, S b → T b) : PrAt W T a k x := by
  obtain ⟨c0, c1, c2, c3, A, n, c, B, m, d, c4, c5, c6⟩ := h
  exact ⟨c0, c1, c2, c3, A, n, c, B, m, d, c4, c5, c6.mono hs⟩
theorem cell_to {p : Addr} {u : Value} (ha : Alike S W W') (hp : S p.block) (hc : W.cell? p = some u) : W'.cell? p = some u := (World.cell?_of_block (ha _ hp (World.block_lt_of_cell? W _ hc))).trans hc
theorem PrAt.to {a : Addr} {k : Nat} {x : Ch} (h : PrAt W S a k x) (hS : S a.block) (ha : Alike S W W') : PrAt W' S a k x := by
  obtain ⟨c0, c1, c2, c3, A, n, c, B, m, d, c4, c5, c6⟩ := h
  have hb : S (a.add (k * 6)).block := by rw [add_block]; exact hS
  exact ⟨cell_to ha hb c0, cell_to ha hb c1, cell_to ha hb c2, cell_to ha hb c3, A, n, c, B, m, d, cell_to ha hb c4, cell_to ha hb c5, c6.to_ ha⟩
theorem RdP.mono (h : RdP W S A l) (hs : ∀ b, S b → T b) : RdP W T A l := h.imp id fun ⟨a, e, h1, h2⟩ => ⟨a, e, hs _ h1, fun k x hx => (h2 k x hx).mono hs⟩
theorem RdP.to (h : RdP W S A l) (ha : Alike S W W') : RdP W' S A l := h.imp id fun ⟨a, e, h1, h2⟩ => ⟨a, e, h1, fun k x hx => (h2 k x hx).to h1 ha⟩
theorem RdP.below {B : Nat} (h : RdP W (· < B) A l) (hb : Below B W W') : RdP W' (· < B) A l := h.to (alike_below hb)
theorem RdP.mv (h : RdP W (· < W.heap.size) A l) (hb : Below W.heap.size W W') : RdP W' (· < W'.heap.size) A l := (h.below hb).mono fun b hb' => Nat.lt_of_lt_of_le hb' hb.size
theorem RdP.drewN (h : RdP W S A l) (d : Nat) : RdP (W.drewN d) S A l := h.to (alike_drewN S W d)
theorem RdP.nil (W : World) (S : Nat → Prop) (A : Option Addr) : RdP W S A [] := .inl rfl
theorem RdP.at_ (h : RdP W S A l) {k : Nat} (hk : k < l.length) : ∃ a, A = some a ∧ S a.block ∧ PrAt W S a k l[k] := by
  rcases h with rfl | ⟨a, e, hlt, hc⟩
  · exact absurd hk (by simp)
  · exact ⟨a, e, hlt, hc k _ (List.getElem?_eq_getElem hk)⟩
/-- A part of a list. -/
theorem RdP.tail {x : Ch} {a : Addr} (h : RdP W S (some a) (x :: l)) : RdP W S (some (a.add 6)) l := by
  rcases h with h | ⟨a', e, h1, h2⟩
  · cases h
  · injection e with e
    subst e
    refine .inr ⟨_, rfl, by rw [add_block]; exact h1, fun k y hy => ?_⟩
    have := h2 (k + 1) y (by simpa using hy)
    have ea : (a.add 6).add (k * 6) = a.add ((k + 1) * 6) := by rw [add_add]; congr 1; omega
    obtain ⟨c0, c1, c2, c3, c4⟩ := this
    exact ⟨by rw [ea]; exact c0, by rw [ea]; exact c1, by rw [ea]; exact c2, by rw [ea]; exact c3, by rw [ea]; exact c4⟩
end

/-- The cells of changes, as far as they go; their lines lie in blocks that S names. -/
def PCells (W : World) (S : Nat → Prop) (l : List Ch) (xs : List Value) : Prop :=
  ∀ (k : Nat) x, l[k]? = some x → ∃ A n c B m d, xs[k * 6]? = some (.int .i64 x.k) ∧ xs[k * 6 + 1]? = some (strV x.nm) ∧ xs[k * 6 + 2]? = some (strV x.to) ∧ xs[k * 6 + 3]? = some (.int .i64 x.h.pos) ∧ xs[k * 6 + 4]? = some (.slice A n c) ∧ xs[k * 6 + 5]? = some (.slice B m d) ∧ PG W S A n c B m d x
section
variable {W W' : World} {S T : Nat → Prop} {l u : List Ch} {xs ys : List Value}
theorem PCells.mono (h : PCells W S l xs) (hs : ∀ b, S b → T b) : PCells W T l xs := fun k x hx => by
  obtain ⟨A, n, c, B, m, d, h0, h1, h2, h3, h4, h5, h6⟩ := h k x hx
  exact ⟨A, n, c, B, m, d, h0, h1, h2, h3, h4, h5, h6.mono hs⟩
theorem PCells.to (h : PCells W S l xs) (ha : Alike S W W') : PCells W' S l xs := fun k x hx => by
  obtain ⟨A, n, c, B, m, d, h0, h1, h2, h3, h4, h5, h6⟩ := h k x hx
  exact ⟨A, n, c, B, m, d, h0, h1, h2, h3, h4, h5, h6.to_ ha⟩
theorem PCells.nil (W : World) (S : Nat → Prop) (xs : List Value) : PCells W S [] xs := fun k x hx => by simp at hx
theorem PCells.one {A B : Option Addr} {n c m d : Nat} {x : Ch} (h : PG W S A n c B m d x) : PCells W S [x] [.int .i64 x.k, strV x.nm, strV x.to, .int .i64 x.h.pos, .slice A n c, .slice B m d] := fun k y hy => by
  cases k with
  | zero => cases hy; exact ⟨A, n, c, B, m, d, rfl, rfl, rfl, rfl, rfl, rfl, h⟩
  | succ k => simp at hy
theorem PCells.append (h : PCells W S l xs) (hl : xs.length = l.length * 6) (h' : PCells W S u ys) : PCells W S (l ++ u) (xs ++ ys) := fun k x hx => by
  by_cases hk : k < l.length
  · rw [List.getElem?_append_left hk] at hx
    obtain ⟨A, n, c, B, m, d, h0, h1, h2, h3, h4, h5, h6⟩ := h k x hx
    have hle : ∀ j, j < 6 → k * 6 + j < xs.length := fun j hj => by omega
    exact ⟨A, n, c, B, m, d, by rw [List.getElem?_append_left (by omega)]; exact h0, by rw [List.getElem?_append_left (by omega)]; exact h1, by rw [List.getElem?_append_left (by omega)]; exact h2, by rw [List.getElem?_append_left (by omega)]; exact h3, by rw [List.getElem?_append_left (by omega)]; exact h4, by rw [List.getElem?_append_left (by omega)]; exact h5, h6⟩
  · rw [List.getElem?_append_right (by omega)] at hx
    obtain ⟨A, n, c, B, m, d, h0, h1, h2, h3, h4, h5, h6⟩ := h' _ x hx
    have e : ∀ j, k * 6 + j - xs.length = (k - l.length) * 6 + j := fun j => by omega
    refine ⟨A, n, c, B, m, d, ?_, ?_, ?_, ?_, ?_, ?_, h6⟩
    · rw [List.getElem?_append_right (by omega), show k * 6 - xs.length = (k - l.length) * 6 by omega]; exact h0
    · rw [List.getElem?_append_right (by omega), e]; exact h1
    · rw [List.getElem?_append_right (by omega), e]; exact h2
    · rw [List.getElem?_append_right (by omega), e]; exact h3
    · rw [List.getElem?_append_right (by omega), e]; exact h4
    · rw [List.getElem?_append_right (by omega), e]; exact h5
theorem one6 : ∀ {u : List Ch} {ys : List Value}, PCells W S u ys → ys.length = u.length * 6 → ∀ y ∈ ys, Value.oneCell' y = true := fun {u ys} h hl y hy => by
  obtain ⟨j, hj, rfl⟩ := List.mem_iff_getElem.1 hy
  have hk : j / 6 < u.length := by omega
  obtain ⟨A, n, c, B, m, d, h0, h1, h2, h3, h4, h5, h6⟩ := h (j / 6) _ (List.getElem?_eq_getElem hk)
  obtain ⟨v, hv⟩ : ∃ v, ys[j] = v := ⟨_, rfl⟩
  have hj' : ys[j]? = some v := by rw [← hv]; exact List.getElem?_eq_getElem hj
  rw [hv]
  have hm : j % 6 < 6 := Nat.mod_lt _ (by decide)
  have hd : j / 6 * 6 + j % 6 = j := by omega
  rw [← hd] at hj'
  generalize j % 6 = r at *
  match r, hm with
  | 0, _ => rw [Nat.add_zero] at hj'; rw [h0] at hj'; injection hj' with e; rw [← e]; rfl
  | 1, _ => rw [h1] at hj'; injection hj' with e; rw [← e]; rfl
  | 2, _ => rw [h2] at hj'; injection hj' with e; rw [← e]; rfl
  | 3, _ => rw [h3] at hj'; injection hj' with e; rw [← e]; rfl
  | 4, _ => rw [h4] at hj'; injection hj' with e; rw [← e]; rfl
  | 5, _ => rw [h5] at hj'; injection hj' with e; rw [← e]; rfl
end

/-- The blocks that there are, but for one. -/
def Out (W : World) (row : Option Nat) : Nat → Prop := fun b => b < W.heap.size ∧ some b ≠ row
theorem out_gr {W W' : World} {row : Option Nat} (hg : W.grownBy W' row) : Alike (Out W row) W W' := fun b h hl => hg.block b hl h.2
theorem out_up {W W' : World} {row : Option Nat} (hs : W.heap.size ≤ W'.heap.size) : ∀ b, Out W row b → Out W' row b := fun b h => ⟨Nat.lt_of_lt_of_le h.1 hs, h.2⟩
theorem out_lt {W : World} {row : Option Nat} {B : Nat} (hB : B ≤ W.heap.size) (hr : ∀ g, row = some g → B ≤ g) : ∀ b, b < B → Out W row b := fun b hb => ⟨Nat.lt_of_lt_of_le hb hB, fun e => by have := hr b e.symm; omega⟩
theorem PCells.gr {W W' : World} {row : Option Nat} {l : List Ch} {xs : List Value} (h : PCells W (Out W row) l xs) (hg : W.grownBy W' row) : PCells W' (Out W' row) l xs := (h.to (out_gr hg)).mono (out_up hg.size)

/-- Changes in a row of one's own. -/
def OwnP (W : World) (base : Nat) (v : Value) (l : List Ch) : Prop := ∃ xs, W.ownsRow base 54 6 v l.length xs ∧ PCells W (Out W v.ownBlock) l xs
section
variable {W W' : World} {base : Nat} {v : Value} {l : List Ch}
theorem ownP_nil (W : World) (base : Nat) : OwnP W base (.slice none 0 0) [] := ⟨[], World.ownsRow_nil _ _ _ _, PCells.nil _ _ _⟩
theorem ownP_ge (h : OwnP W base v l) : ∀ k, v.ownBlock = some k → base ≤ k := fun k hk => (h.elim fun xs h => own_ge h.1 k hk)
theorem OwnP.below (h : OwnP W base v l) (hb : Below W.heap.size W W') : OwnP W' base v l := by
  obtain ⟨xs, h1, h2⟩ := h
  exact ⟨xs, own_gr h1 (below_gr_row hb), h2.gr (gr_none (below_gr_row hb))⟩
theorem OwnP.drewN (h : OwnP W base v l) (d : Nat) : OwnP (W.drewN d) base v l := h.below (below_drewN (Below.refl _ _) d)
/-- A row of changes of one's own is read as changes. -/
theorem rdP_own (h : OwnP W base v l) : ∃ A c, v = .slice A l.length c ∧ l.length ≤ c ∧ RdP W (· < W.heap.size) A l ∧ Hi base A := by
  obtain ⟨xs, hr, hF⟩ := h
  have hr0 := hr
  rcases hr.2 with ⟨rfl, h0⟩ | ⟨g, cap, cur, rfl, hbg, hg, hc, _⟩
  · have : l = [] := List.eq_nil_of_length_eq_zero h0
    subst this
    exact ⟨none, 0, rfl, Nat.le_refl _, .inl rfl, hi_none _⟩
  · refine ⟨_, cap, rfl, hc, .inr ⟨_, rfl, (Array.getElem?_eq_some_iff.1 hg).1, fun k x hx => ?_⟩, hi_own hr0⟩
    obtain ⟨A, n, c, B, m, d, h0, h1, h2, h3, h4, h5, h6⟩ := hF k x hx
    have hk : k < l.length := (List.getElem?_eq_some_iff.1 hx).1
    have ea : (⟨g, 0, none⟩ : Addr).add (k * 6) = ⟨g, k * 6, none⟩ := by unfold Addr.add; split <;> simp_all
    refine ⟨?_, ?_, ?_, ?_, A, n, c, B, m, d, ?_, ?_, h6.mono fun b hb => hb.1⟩
    · rw [ea, hr0.cellAt (k * 6) (by omega)]; exact h0
    · rw [ea]; show W.cell? ⟨g, k * 6 + 1, none⟩ = _; rw [hr0.cellAt (k * 6 + 1) (by omega)]; exact h1
    · rw [ea]; show W.cell? ⟨g, k * 6 + 2, none⟩ = _; rw [hr0.cellAt (k * 6 + 2) (by omega)]; exact h2
    · rw [ea]; show W.cell? ⟨g, k * 6 + 3, none⟩ = _; rw [hr0.cellAt (k * 6 + 3) (by omega)]; exact h3
    · rw [ea]; show W.cell? ⟨g, k * 6 + 4, none⟩ = _; rw [hr0.cellAt (k * 6 + 4) (by omega)]; exact h4
    · rw [ea]; show W.cell? ⟨g, k * 6 + 5, none⟩ = _; rw [hr0.cellAt (k * 6 + 5) (by omega)]; exact h5
end

theorem add_off (a : Addr) (k j : Nat) (hj : 0 < j) : (⟨(a.add k).block, (a.add k).off + j, none⟩ : Addr) = a.add (k + j) := by
  unfold Addr.add
  by_cases h : k = 0
  · subst h; simp [Nat.ne_of_gt hj]
  · simp [h, Nat.add_assoc]

/-- The cells of a list that is read. -/
theorem flatP {w : World} {S : Nat → Prop} {A : Option Addr} {l : List Ch} (h : RdP w S A l) :
    ∃ xs : List Value, xs.length = l.length * 6 ∧ PCells w S l xs ∧ (xs = [] ∨ ∃ a, A = some a ∧ ∀ (j : Nat) u, xs[j]? = some u → w.cell? (a.add j) = some u) := by
  rcases h with rfl | ⟨a, rfl, hlt, hc⟩
  · exact ⟨[], rfl, PCells.nil _ _ _, .inl rfl⟩
  · have key : ∀ (u : List Ch) (p : Nat), (∀ (k : Nat) x, u[k]? = some x → PrAt w S a (p + k) x) → ∃ xs : List Value, xs.length = u.length * 6 ∧ PCells w S u xs ∧ ∀ (j : Nat) v, xs[j]? = some v → w.cell? (a.add (p * 6 + j)) = some v := by
      intro u
      induction u with
      | nil => intro p _; exact ⟨[], rfl, PCells.nil _ _ _, fun j v hv => by simp at hv⟩
      | cons x u ih =>
        intro p hu
        obtain ⟨xs, h1, h2, h3⟩ := ih (p + 1) fun k y hy => by
          have := hu (k + 1) y (by simpa using hy)
          rw [show p + 1 + k = p + (k + 1) by omega]; exact this
        obtain ⟨c0, c1, c2, c3, A, n, c, B, m, d, c4, c5, c6⟩ := hu 0 x rfl
        rw [Nat.add_zero] at c0 c1 c2 c3 c4 c5
        rw [add_off _ _ _ (by decide)] at c1 c2 c3 c4 c5
        refine ⟨[.int .i64 x.k, strV x.nm, strV x.to, .int .i64 x.h.pos, .slice A n c, .slice B m d] ++ xs, by simp [h1]; omega, PCells.append (l := [x]) (PCells.one c6) rfl h2, fun j v hv => ?_⟩
        rcases j with _ | _ | _ | _ | _ | _ | j
        · cases hv; exact c0
        · cases hv; exact c1
        · cases hv; exact c2
        · cases hv; exact c3
        · cases hv; exact c4
        · cases hv; exact c5
        · have := h3 j v (by simpa using hv)
          rw [show p * 6 + (j + 6) = (p + 1) * 6 + j by omega]; exact this
    obtain ⟨xs, h1, h2, h3⟩ := key l 0 fun k x hx => by rw [Nat.zero_add]; exact hc k x hx
    exact ⟨xs, h1, h2, .inr ⟨a, rfl, fun j u hu => by have := h3 j u hu; rw [Nat.zero_mul, Nat.zero_add] at this; exact this⟩⟩

theorem info_prim : (Try.prog.info? 54).map (fun i => (i.zero, i.size, i.bytes)) = some (some (.agg #[.int .i64 0, .string ⟨#[]⟩, .string ⟨#[]⟩, .int .i64 0, .slice none 0 0, .slice none 0 0]), 6, 96) := by kernel_rfl

/-- Changes appended onto a row of one's own. -/
theorem run_ownP {W : World} {ty : TypeId} {base m c : Nat} {v : Value} {A : Option Addr} {l u : List Ch} {ys : List Value} (h : OwnP W base v l) (hu : PCells W (Out W v.ownBlock) u ys) (hyl : ys.length = u.length * 6) (hsrc : ys = [] ∨ ∃ a, A = some a ∧ ∀ (j : Nat) x, ys[j]? = some x → W.cell? (a.add j) = some x)
    (hm : u.length = m) (hn : l.length + m ≤ 100000) (hbase : base ≤ W.heap.size) :
    ∃ v' W', (Builtin.append_ #[43, 43] ty #[v, .slice A m c]).run Try.prog W = .ok v' W' ∧ OwnP W' base v' (l ++ u) ∧ W.grownBy W' v.ownBlock := by
  obtain ⟨i0, hi0, hz0, hz1, hz2⟩ := info_parts info_prim
  obtain ⟨xs, hrow, hF⟩ := h
  have h1 := one6 hu hyl
  by_cases h0 : m = 0
  · have hu0 : u = [] := List.eq_nil_of_length_eq_zero (by omega)
    subst hu0
    obtain ⟨A0, c0, rfl, hc0, _⟩ := rdP_own ⟨xs, hrow, hF⟩
    subst h0
    exact ⟨_, W, run_append_none Try.underlying43 hi0 hc0, by rw [List.append_nil]; exact ⟨xs, hrow, hF⟩, ⟨rfl, rfl, rfl, Nat.le_refl _, fun _ _ _ => rfl⟩⟩
  · obtain ⟨a, rfl, hcell⟩ : ∃ a, A = some a ∧ ∀ (j : Nat) x, ys[j]? = some x → W.cell? (a.add j) = some x := by
      rcases hsrc with hy | h
      · rw [hy] at hyl; simp at hyl; omega
      · exact h
    obtain ⟨g, cap, W', hr, r1, r2, r3, r4⟩ := run_append_lies (P := Try.prog) (w := W) 43 ty base 54 i0 _ 6 96 Try.underlying43 hi0 hz0 hz1 hz2 rfl (by decide) v l.length xs hrow a m c ys (by rw [hyl, hm]) hcell h1 (by omega) (by unfold maxLen; omega) (by omega) hbase W.heap.size rfl
    refine ⟨_, W', hr, ⟨xs ++ ys, by rw [List.length_append, hm]; exact r1, ?_⟩, r2⟩
    have hJ := (hF.append hrow.1 hu)
    rcases r3 with r3 | r3
    · rw [r3] at hJ r2
      exact hJ.gr r2
    · refine (hJ.to (out_gr r2)).mono fun b hb => ⟨Nat.lt_of_lt_of_le hb.1 r2.size, fun e => ?_⟩
      injection e with e
      have e' : b = g := e
      have := hb.1
      omega

theorem wpList_ownP {W : World} {ops : Array Oper} {rest : List Oper} {o : Oper} {a : Act} {Q : Exit → Act → World → Prop} (hgd : o.guard = none) (s x : Operand)
    (ho : o.op = .call { callee := .builtin .append, args := #[s, x], argTypes := #[43, 43] })
    (base m c : Nat) (v : Value) (A : Option Addr) (l u : List Ch) (ys : List Value) (hs : a.eval s = v) (hx : a.eval x = .slice A m c) (h : OwnP W base v l) (hu : PCells W (Out W v.ownBlock) u ys) (hyl : ys.length = u.length * 6) (hsrc : ys = [] ∨ ∃ a, A = some a ∧ ∀ (j : Nat) x, ys[j]? = some x → W.cell? (a.add j) = some x)
    (hm : u.length = m) (hn : l.length + m ≤ 100000) (hbase : base ≤ W.heap.size)
    (hK : ∀ v' W', OwnP W' base v' (l ++ u) → W.grownBy W' v.ownBlock → wpList Try.prog ops Q rest (a.put o.dst v') W') : wpList Try.prog ops Q (o :: rest) a W := by
  refine wpList_plain hgd fun K hK' => ?_
  obtain ⟨v', W', hrun, h2, h3⟩ := run_ownP (ty := o.type) (c := c) h hu hyl hsrc hm hn hbase
  unfold Oper.wp execOp
  simp only [ho, resolve, invoke, builtin, Sem.run_bind, Sem.run_pure, Result.andThen_ok, List.map_toArray, List.map_cons, List.map_nil, hs, hx, hrun]
  exact hK' _ _ (hK v' W' h2 h3)
/-- The same of a list that is read below a block that the row lies behind. -/
theorem wpList_ownPL {W : World} {ops : Array Oper} {rest : List Oper} {o : Oper} {a : Act} {Q : Exit → Act → World → Prop} (hgd : o.guard = none) (s x : Operand)
    (ho : o.op = .call { callee := .builtin .append, args := #[s, x], argTypes := #[43, 43] })
    (base N m c : Nat) (v : Value) (A : Option Addr) (l u : List Ch) (hs : a.eval s = v) (hx : a.eval x = .slice A m c) (h : OwnP W base v l) (hu : RdP W (· < N) A u) (hN : N ≤ base)
    (hm : u.length = m) (hn : l.length + m ≤ 100000) (hbase : base ≤ W.heap.size)
    (hK : ∀ v' W', OwnP W' base v' (l ++ u) → W.grownBy W' v.ownBlock → wpList Try.prog ops Q rest (a.put o.dst v') W') : wpList Try.prog ops Q (o :: rest) a W := by
  obtain ⟨ys, h1, h2, h3⟩ := flatP hu
  exact wpList_ownP hgd s x ho base m c v A l u ys hs hx h (h2.mono (out_lt (Nat.le_trans hN hbase) fun g e => Nat.le_trans hN (ownP_ge h g e))) h1 h3 hm hn hbase hK

end Fl
end Go.Proofs.Ytdnkinajbebkoaa

namespace Go.Proofs.Ytdnkinajbebkoaa
open Go.RowKit
set_option linter.unusedVariables false
namespace Fl
open Tx Df Sq Hk Tr Pr

/-- Changes in a row of one's own, their lines in blocks that S names. -/
def OwnS (W : World) (S : Nat → Prop) (base : Nat) (v : Value) (l : List Ch) : Prop := ∃ xs, W.ownsRow base 54 6 v l.length xs ∧ PCells W S l xs
/-- The same, their lines below block N. -/
abbrev OwnN (W : World) (N base : Nat) (v : Value) (l : List Ch) : Prop := OwnS W (· < N) base v l
section
variable {W W' : World} {N base : Nat} {v : Value} {l u : List Ch}
theorem OwnS.below {S : Nat → Prop} (h : OwnS W S base v l) (hb : Below W.heap.size W W') : OwnS W' S base v l := by
  obtain ⟨xs, h1, h2⟩ := h
  exact ⟨xs, own_gr h1 (below_gr_row hb), h2.to (fun b _ hl => hb.block b hl)⟩
theorem OwnS.mono {S T : Nat → Prop} (h : OwnS W S base v l) (hs : ∀ b, S b → T b) : OwnS W T base v l := by
  obtain ⟨xs, h1, h2⟩ := h
  exact ⟨xs, h1, h2.mono hs⟩
theorem OwnS.set {S : Nat → Prop} (h : OwnS W S base v l) {b : Nat} (hb : some b ≠ v.ownBlock) (hN : ¬ S b) (j : Nat) (x : Value) : OwnS (W.setCell ⟨b, j, none⟩ x) S base v l := by
  obtain ⟨xs, h1, h2⟩ := h
  refine ⟨xs, h1.kept (grownBy_set W b j x) ?_, h2.to ((alike_set W b j x).mono fun k hk e => hN (e ▸ hk))⟩
  rcases h1.2 with ⟨rfl, _⟩ | ⟨g, cap, cur, rfl, _⟩
  · exact .inl rfl
  · exact .inr fun e => hb e.symm
theorem OwnS.set6 {S : Nat → Prop} (h : OwnS W S base v l) {b : Nat} (hb : some b ≠ v.ownBlock) (hN : ¬ S b) (v0 v1 v2 v3 v4 v5 : Value) :
    OwnS ((((((W.setCell ⟨b, 0, none⟩ v0).setCell ⟨b, 1, none⟩ v1).setCell ⟨b, 2, none⟩ v2).setCell ⟨b, 3, none⟩ v3).setCell ⟨b, 4, none⟩ v4).setCell ⟨b, 5, none⟩ v5) S base v l :=
  (((((h.set hb hN 0 v0).set hb hN 1 v1).set hb hN 2 v2).set hb hN 3 v3).set hb hN 4 v4).set hb hN 5 v5
theorem alike_set6 (W : World) (b : Nat) (v0 v1 v2 v3 v4 v5 : Value) : Alike (· ≠ b) W ((((((W.setCell ⟨b, 0, none⟩ v0).setCell ⟨b, 1, none⟩ v1).setCell ⟨b, 2, none⟩ v2).setCell ⟨b, 3, none⟩ v3).setCell ⟨b, 4, none⟩ v4).setCell ⟨b, 5, none⟩ v5) := fun k h hl => by
  have al : ∀ (X : World) (j : Nat) (v : Value), k < X.heap.size → (X.setCell ⟨b, j, none⟩ v).heap[k]? = X.heap[k]? := fun X j v hx => alike_set X b j v k h hx
  rw [al _ _ _ (by simp; exact hl), al _ _ _ (by simp; exact hl), al _ _ _ (by simp; exact hl), al _ _ _ (by simp; exact hl), al _ _ _ (by simp; exact hl), al _ _ _ hl]
theorem below_set6 {B : Nat} {w X : World} {b : Nat} (h : Below B w X) (hb : B ≤ b) (v0 v1 v2 v3 v4 v5 : Value) : Below B w ((((((X.setCell ⟨b, 0, none⟩ v0).setCell ⟨b, 1, none⟩ v1).setCell ⟨b, 2, none⟩ v2).setCell ⟨b, 3, none⟩ v3).setCell ⟨b, 4, none⟩ v4).setCell ⟨b, 5, none⟩ v5) :=
  (((((h.setCell (p := ⟨b, 0, none⟩) hb v0).setCell (p := ⟨b, 1, none⟩) hb v1).setCell (p := ⟨b, 2, none⟩) hb v2).setCell (p := ⟨b, 3, none⟩) hb v3).setCell (p := ⟨b, 4, none⟩) hb v4).setCell (p := ⟨b, 5, none⟩) hb v5
theorem OwnS.own (h : OwnN W N base v l) (hN : N ≤ base) (hb : base ≤ W.heap.size) : OwnP W base v l := by
  obtain ⟨xs, h1, h2⟩ := h
  exact ⟨xs, h1, h2.mono (out_lt (Nat.le_trans hN hb) fun g e => Nat.le_trans hN (own_ge h1 g e))⟩

/-- One of a row's changes. -/
theorem OwnS.elem {S : Nat → Prop} {g n cap k : Nat} {x : Ch} (h : OwnS W S base (.slice (some ⟨g, 0, none⟩) n cap) l) (hn : l.length = n) (hx : l[k]? = some x) :
    ∃ B i j D m d, W.cell? ⟨g, k * 6, none⟩ = some (.int .i64 x.k) ∧ W.cell? ⟨g, k * 6 + 1, none⟩ = some (strV x.nm) ∧ W.cell? ⟨g, k * 6 + 2, none⟩ = some (strV x.to) ∧ W.cell? ⟨g, k * 6 + 3, none⟩ = some (.int .i64 x.h.pos) ∧ W.cell? ⟨g, k * 6 + 4, none⟩ = some (.slice B i j) ∧ W.cell? ⟨g, k * 6 + 5, none⟩ = some (.slice D m d) ∧
      (∀ j, W.frozen? ⟨g, j, none⟩ = false) ∧ PG W S B i j D m d x := by
  subst hn
  obtain ⟨xs, hr, hF⟩ := h
  obtain ⟨B, i, j, D, m, d, h0, h1, h2, h3, h4, h5, h6⟩ := hF k x hx
  have hk : k < l.length := (List.getElem?_eq_some_iff.1 hx).1
  exact ⟨B, i, j, D, m, d, by rw [hr.cellAt (k * 6) (by omega)]; exact h0, by rw [hr.cellAt (k * 6 + 1) (by omega)]; exact h1, by rw [hr.cellAt (k * 6 + 2) (by omega)]; exact h2, by rw [hr.cellAt (k * 6 + 3) (by omega)]; exact h3, by rw [hr.cellAt (k * 6 + 4) (by omega)]; exact h4, by rw [hr.cellAt (k * 6 + 5) (by omega)]; exact h5, fun j => hr.frozenAt _, h6⟩

theorem PCells.set {S : Nat → Prop} {xs : List Value} {k : Nat} {B D : Option Addr} {i j m d : Nat} {y : Ch} (h : PCells W S l xs) (hl : xs.length = l.length * 6) (hy : PG W S B i j D m d y) :
    PCells W S (l.set k y) ((((((xs.set (k * 6) (.int .i64 y.k)).set (k * 6 + 1) (strV y.nm)).set (k * 6 + 2) (strV y.to)).set (k * 6 + 3) (.int .i64 y.h.pos)).set (k * 6 + 4) (.slice B i j)).set (k * 6 + 5) (.slice D m d)) := fun p x hx => by
  by_cases hp : p = k
  · subst hp
    have hk : p < l.length := by
      have := (List.getElem?_eq_some_iff.1 hx).1
      simpa using this
    rw [List.getElem?_set_self hk] at hx
    injection hx with hx
    subst hx
    refine ⟨B, i, j, D, m, d, ?_, ?_, ?_, ?_, ?_, ?_, hy⟩
    · rw [List.getElem?_set_ne (by omega), List.getElem?_set_ne (by omega), List.getElem?_set_ne (by omega), List.getElem?_set_ne (by omega), List.getElem?_set_ne (by omega), List.getElem?_set_self (by omega)]
    · rw [List.getElem?_set_ne (by omega), List.getElem?_set_ne (by omega), List.getElem?_set_ne (by omega), List.getElem?_set_ne (by omega), List.getElem?_set_self (by simp; omega)]
    · rw [List.getElem?_set_ne (by omega), List.getElem?_set_ne (by omega), List.getElem?_set_ne (by omega), List.getElem?_set_self (by simp; omega)]
    · rw [List.getElem?_set_ne (by omega), List.getElem?_set_ne (by omega), List.getElem?_set_self (by simp; omega)]
    · rw [List.getElem?_set_ne (by omega), List.getElem?_set_self (by simp; omega)]
    · rw [List.getElem?_set_self (by simp; omega)]
  · rw [List.getElem?_set_ne (fun e => hp e.symm)] at hx
    obtain ⟨B', i', j', D', m', d', h0, h1, h2, h3, h4, h5, h6⟩ := h p x hx
    have ne : ∀ a b, a < 6 → b < 6 → k * 6 + a ≠ p * 6 + b := fun a b ha hb => by omega
    have n0 : ∀ b, b < 6 → k * 6 ≠ p * 6 + b := fun b hb => by omega
    have key : ∀ b, b < 6 → ((((((xs.set (k * 6) (.int .i64 y.k)).set (k * 6 + 1) (strV y.nm)).set (k * 6 + 2) (strV y.to)).set (k * 6 + 3) (.int .i64 y.h.pos)).set (k * 6 + 4) (.slice B i j)).set (k * 6 + 5) (.slice D m d))[p * 6 + b]? = xs[p * 6 + b]? := fun b hb => by
      rw [List.getElem?_set_ne (ne 5 b (by decide) hb), List.getElem?_set_ne (ne 4 b (by decide) hb), List.getElem?_set_ne (ne 3 b (by decide) hb), List.getElem?_set_ne (ne 2 b (by decide) hb), List.getElem?_set_ne (ne 1 b (by decide) hb), List.getElem?_set_ne (n0 b hb)]
    exact ⟨B', i', j', D', m', d', (key 0 (by decide)).trans h0, (key 1 (by decide)).trans h1, (key 2 (by decide)).trans h2, (key 3 (by decide)).trans h3, (key 4 (by decide)).trans h4, (key 5 (by decide)).trans h5, h6⟩

/-- One of a row's changes stored anew. -/
theorem OwnS.store {S : Nat → Prop} {g n cap k : Nat} {B D : Option Addr} {i j m d : Nat} {y : Ch} (h : OwnS W S base (.slice (some ⟨g, 0, none⟩) n cap) l) (hn : l.length = n) (hN : ¬ S g) (hy : PG W S B i j D m d y) :
    OwnS ((((((W.setCell ⟨g, k * 6, none⟩ (.int .i64 y.k)).setCell ⟨g, k * 6 + 1, none⟩ (strV y.nm)).setCell ⟨g, k * 6 + 2, none⟩ (strV y.to)).setCell ⟨g, k * 6 + 3, none⟩ (.int .i64 y.h.pos)).setCell ⟨g, k * 6 + 4, none⟩ (.slice B i j)).setCell ⟨g, k * 6 + 5, none⟩ (.slice D m d)) S base (.slice (some ⟨g, 0, none⟩) n cap) (l.set k y) := by
  subst hn
  obtain ⟨xs, hr, hF⟩ := h
  obtain ⟨h0, _⟩ := hr.stored (k * 6) (.int .i64 y.k)
  obtain ⟨h1, _⟩ := h0.stored (k * 6 + 1) (strV y.nm)
  obtain ⟨h2, _⟩ := h1.stored (k * 6 + 2) (strV y.to)
  obtain ⟨h3, _⟩ := h2.stored (k * 6 + 3) (.int .i64 y.h.pos)
  obtain ⟨h4, _⟩ := h3.stored (k * 6 + 4) (.slice B i j)
  obtain ⟨h5, _⟩ := h4.stored (k * 6 + 5) (.slice D m d)
  refine ⟨_, by rw [List.length_set]; exact h5, ?_⟩
  have al : ∀ (X : World) (p : Nat) (v : Value), Alike S X (X.setCell ⟨g, p, none⟩ v) := fun X p v => (alike_set X g p v).mono fun b hb e => hN (e ▸ hb)
  exact ((((((hF.set hr.1 hy).to (al _ _ _)).to (al _ _ _)).to (al _ _ _)).to (al _ _ _)).to (al _ _ _)).to (al _ _ _)
end

/-- Six cells of a row are set. -/
theorem below_row6 {B g : Nat} {w X : World} (h : Below B w X) (hb : B ≤ g) (k : Nat) (v0 v1 v2 v3 v4 v5 : Value) : Below B w ((((((X.setCell ⟨g, k * 6, none⟩ v0).setCell ⟨g, k * 6 + 1, none⟩ v1).setCell ⟨g, k * 6 + 2, none⟩ v2).setCell ⟨g, k * 6 + 3, none⟩ v3).setCell ⟨g, k * 6 + 4, none⟩ v4).setCell ⟨g, k * 6 + 5, none⟩ v5) :=
  (((((h.setCell (p := ⟨g, k * 6, none⟩) hb v0).setCell (p := ⟨g, k * 6 + 1, none⟩) hb v1).setCell (p := ⟨g, k * 6 + 2, none⟩) hb v2).setCell (p := ⟨g, k * 6 + 3, none⟩) hb v3).setCell (p := ⟨g, k * 6 + 4, none⟩) hb v4).setCell (p := ⟨g, k * 6 + 5, none⟩) hb v5
theorem blk_row6 {X : World} {b g : Nat} {t : TypeId} {cs : Array Value} (h : Blk X b t cs) (hne : b ≠ g) (k : Nat) (v0 v1 v2 v3 v4 v5 : Value) : Blk ((((((X.setCell ⟨g, k * 6, none⟩ v0).setCell ⟨g, k * 6 + 1, none⟩ v1).setCell ⟨g, k * 6 + 2, none⟩ v2).setCell ⟨g, k * 6 + 3, none⟩ v3).setCell ⟨g, k * 6 + 4, none⟩ v4).setCell ⟨g, k * 6 + 5, none⟩ v5) b t cs :=
  (((((h.set_ne hne (k * 6) v0).set_ne hne (k * 6 + 1) v1).set_ne hne (k * 6 + 2) v2).set_ne hne (k * 6 + 3) v3).set_ne hne (k * 6 + 4) v4).set_ne hne (k * 6 + 5) v5
theorem blk_set6 {X : World} {b g : Nat} {t : TypeId} {cs : Array Value} (h : Blk X b t cs) (hne : b ≠ g) (v0 v1 v2 v3 v4 v5 : Value) : Blk ((((((X.setCell ⟨g, 0, none⟩ v0).setCell ⟨g, 1, none⟩ v1).setCell ⟨g, 2, none⟩ v2).setCell ⟨g, 3, none⟩ v3).setCell ⟨g, 4, none⟩ v4).setCell ⟨g, 5, none⟩ v5) b t cs :=
  (((((h.set_ne hne 0 v0).set_ne hne 1 v1).set_ne hne 2 v2).set_ne hne 3 v3).set_ne hne 4 v4).set_ne hne 5 v5
theorem alike_row6 (X : World) (g k : Nat) (v0 v1 v2 v3 v4 v5 : Value) : Alike (· ≠ g) X ((((((X.setCell ⟨g, k * 6, none⟩ v0).setCell ⟨g, k * 6 + 1, none⟩ v1).setCell ⟨g, k * 6 + 2, none⟩ v2).setCell ⟨g, k * 6 + 3, none⟩ v3).setCell ⟨g, k * 6 + 4, none⟩ v4).setCell ⟨g, k * 6 + 5, none⟩ v5) := fun i h hl => by
  have al : ∀ (X : World) (j : Nat) (v : Value), i < X.heap.size → (X.setCell ⟨g, j, none⟩ v).heap[i]? = X.heap[i]? := fun X j v hx => alike_set X g j v i h hx
  rw [al _ _ _ (by simp; exact hl), al _ _ _ (by simp; exact hl), al _ _ _ (by simp; exact hl), al _ _ _ (by simp; exact hl), al _ _ _ (by simp; exact hl), al _ _ _ hl]
theorem Alike.trans_ {S : Nat → Prop} {W W1 W2 : World} (h : Alike S W W1) (h' : Alike S W1 W2) (hs : W.heap.size ≤ W1.heap.size) : Alike S W W2 := fun b hb hl => (h' b hb (Nat.lt_of_lt_of_le hl hs)).trans (h b hb hl)

end Fl
end Go.Proofs.Ytdnkinajbebkoaa

namespace Go.Proofs.Ytdnkinajbebkoaa
open Go.ChangeShapes Go.WideShapes Go.ChangeAt Go.RowKit Go.Deep
set_option linter.unusedVariables false
namespace Fl
open Tx Df Sq Hk Tr Pr

/-- Changes that are handed in. -/
structure PrsArg (w : World) (A : Option Addr) (n c : Nat) (l : List Ch) : Prop where
  len : l.length = n
  cap : n ≤ c
  le : n ≤ maxLen
  rd : RdP w (· < w.heap.size) A l

section
variable {H : Type} {enc : TypeId × Value → H} {W : World} {base : Nat} {spare : Nat → Bool} {held : Bool}

theorem pr_in {fuel : Nat} {a : Addr} {i : Nat} {cs : List Value} {x : DataW H × List MemPlace} (hc : W.cells? base (a.add (i * 6)) 6 = some cs) (h : DataW.trod enc Try.prog W base spare held fuel 54 cs = some x) : ∃ p : Ch, PrAt W (· < W.heap.size) a i p := by
  have s3 : Try.prog.cellsOf 52 = 3 := by kernel_rfl
  have s1 : Try.prog.cellsOf 9 = 1 := by kernel_rfl
  have s0 : Try.prog.cellsOf 3 = 1 := by kernel_rfl
  have s2 : Try.prog.cellsOf 50 = 1 := by kernel_rfl
  obtain ⟨_, hl, hcell⟩ := World.cells?_some hc
  obtain ⟨xs, n, _, _, _, hlen, hf⟩ := DataW.trod_struct Try.underlying54 h
  match cs, hl with
  | [v0, v1, v2, v3, v4, v5], _ =>
    match xs, hlen with
    | [y0, y1, y2, y3], _ =>
      have h0 : DataW.trod enc Try.prog W base spare held n 3 (([v0, v1, v2, v3, v4, v5].drop 0).take (Try.prog.cellsOf 3)) = some y0 := by simpa using hf 0 _ rfl
      have h1 : DataW.trod enc Try.prog W base spare held n 9 (([v0, v1, v2, v3, v4, v5].drop 1).take (Try.prog.cellsOf 9)) = some y1 := by simpa using hf 1 _ rfl
      have h2 : DataW.trod enc Try.prog W base spare held n 9 (([v0, v1, v2, v3, v4, v5].drop 2).take (Try.prog.cellsOf 9)) = some y2 := by simpa using hf 2 _ rfl
      have h3 : DataW.trod enc Try.prog W base spare held n 52 (([v0, v1, v2, v3, v4, v5].drop 3).take (Try.prog.cellsOf 52)) = some y3 := by simpa using hf 3 _ rfl
      simp only [s0, s1, s3, List.drop_zero, List.take_succ_cons, List.take_zero, List.drop_succ_cons] at h0 h1 h2 h3
      obtain ⟨zs, m, _, _, _, hlen3, hf3⟩ := DataW.trod_struct Try.underlying52 h3
      match zs, hlen3 with
      | [z0, z1, z2], _ =>
        have g0 : DataW.trod enc Try.prog W base spare held m 3 (([v3, v4, v5].drop 0).take (Try.prog.cellsOf 3)) = some z0 := by simpa using hf3 0 _ rfl
        have g1 : DataW.trod enc Try.prog W base spare held m 50 (([v3, v4, v5].drop 1).take (Try.prog.cellsOf 50)) = some z1 := by simpa using hf3 1 _ rfl
        have g2 : DataW.trod enc Try.prog W base spare held m 50 (([v3, v4, v5].drop 2).take (Try.prog.cellsOf 50)) = some z2 := by simpa using hf3 2 _ rfl
        simp only [s0, s2, List.drop_zero, List.take_succ_cons, List.take_zero, List.drop_succ_cons] at g0 g1 g2
        obtain ⟨k, e0, _, w0⟩ := DataW.trod_int Try.underlying3 h0
        injection e0 with e0
        subst e0
        obtain ⟨sn, e1, _, w1⟩ := DataW.trod_string Try.underlying9 h1
        injection e1 with e1
        subst e1
        obtain ⟨so, e2, _, w2⟩ := DataW.trod_string Try.underlying9 h2
        injection e2 with e2
        subst e2
        obtain ⟨q, e3, _, w3⟩ := DataW.trod_int Try.underlying3 g0
        injection e3 with e3
        subst e3
        obtain ⟨A, n1, c1, l, rfl, s⟩ := strs_any g1
        obtain ⟨A', n2, c2, l', rfl, s'⟩ := strs_any g2
        have k0 := hcell 0 (by decide); have k1 := hcell 1 (by decide); have k2 := hcell 2 (by decide); have k3 := hcell 3 (by decide); have k4 := hcell 4 (by decide); have k5 := hcell 5 (by decide)
        rw [add_zero'] at k0
        refine ⟨⟨k, sn.data.toList, so.data.toList, ⟨q, l, l'⟩⟩, ?_, ?_, ?_, ?_, A, n1, c1, A', n2, c2, ?_, ?_, ⟨s.len, s'.len, s.cap, s'.cap, s.le, s'.le, s.rd, s'.rd, i64_wf w3, i64_wf w0, ?_, ?_, s.short, s'.short⟩⟩
        · exact k0
        · exact k1
        · exact k2
        · exact k3
        · exact k4
        · exact k5
        · show sn.data.toList.length ≤ _; rw [Array.length_toList]; exact w1
        · show so.data.toList.length ≤ _; rw [Array.length_toList]; exact w2

theorem prs_in {fuel : Nat} {cs : List Value} {x : DataW H × List MemPlace} {A : Option Addr} {l c : Nat} (h : DataW.trod enc Try.prog W base spare held fuel 43 cs = some x) (hcs : cs = [.slice A l c]) :
    ∃ t : List Ch, PrsArg W A l c t := by
  have s37 : Try.prog.cellsOf 54 = 6 := by kernel_rfl
  rcases open_slice Try.underlying43 h with ⟨hcs', _⟩ | ⟨a, len, cap, m, n, D, Pl, hcs', _, hl, hm, hmm, _, hi⟩
  · rw [hcs] at hcs'
    simp at hcs'
    obtain ⟨rfl, rfl, rfl⟩ := hcs'
    exact ⟨[], rfl, Nat.le_refl _, Nat.zero_le _, .inl rfl⟩
  · rw [hcs] at hcs'
    simp at hcs'
    obtain ⟨rfl, rfl, rfl⟩ := hcs'
    have hlm : l ≤ m := by rw [hmm]; split <;> omega
    rw [s37] at hi
    obtain ⟨t, h1, h2⟩ := list_of (P := fun i x => PrAt W (· < W.heap.size) a i x) l (fun i hil => by
      obtain ⟨cs', hc, ht⟩ := hi i (by omega)
      exact pr_in hc ht)
    refine ⟨t, h1, hl, by omega, ?_⟩
    cases t with
    | nil => exact .inl rfl
    | cons e es =>
      have hb := lt_of_cell (h2 0 e rfl).c0
      rw [add_block] at hb
      exact .inr ⟨a, rfl, hb, fun k x hx => h2 k x hx⟩
end

end Fl
end Go.Proofs.Ytdnkinajbebkoaa

namespace Go.Proofs.Ytdnkinajbebkoaa
namespace Td
open Tx Sq Hk Tr Pr Fl
set_option linter.unusedVariables false

section
variable {α : Type} (idle : α → Bool) (inv : α → α)

/-- None is idle, and none undoes the one behind it (of a stack). -/
def Tst : List α → Prop
  | [] => True
  | [p] => idle p = false
  | p :: o :: s => idle p = false ∧ p ≠ inv o ∧ Tst (o :: s)
theorem Tst.tail {p : α} {s : List α} (h : Tst idle inv (p :: s)) : Tst idle inv s := by
  cases s with
  | nil => trivial
  | cons o s => exact h.2.2
variable [DecidableEq α]

/-- One more on a stack, its last one ahead: nothing, if it is idle; it takes away the last one, if it undoes that. -/
def step (s : List α) (p : α) : List α :=
  if idle p then s else match s with
    | [] => [p]
    | o :: s' => if p = inv o then s' else p :: o :: s'
def run (s l : List α) : List α := l.foldl (step idle inv) s
end

instance : DecidableEq Ch := fun p q => decidable_of_iff (sameP p q = true) sameP_iff
end Td
end Go.Proofs.Ytdnkinajbebkoaa

set_option maxRecDepth 100000
namespace Go.Proofs.Ytdnkinajbebkoaa
namespace Pn
open Tx Df Sq Hk Tr Pr Fl
set_option linter.unusedVariables false

/-- An id: who, and its number. -/
abbrev Id_ : Type := Int × Int
/-- A named patch. -/
structure Nm where
  id : Id_
  deps : List Id_
  txt : List UInt8
  l : List Ch
theorem nm_ext {p q : Nm} (h1 : p.id = q.id) (h2 : p.deps = q.deps) (h3 : p.txt = q.txt) (h4 : p.l = q.l) : p = q := by
  cases p; cases q; simp only at h1 h2 h3 h4; subst h1 h2 h3 h4; rfl
instance : DecidableEq Ch := fun p q => decidable_of_iff (sameP p q = true) sameP_iff
def sameN (p q : Nm) : Bool := decide (p.l = q.l) && (decide (p.id = q.id) && (decide (p.txt = q.txt) && decide (p.deps = q.deps)))
theorem sameN_iff {p q : Nm} : sameN p q = true ↔ p = q := by
  unfold sameN
  simp only [Bool.and_eq_true, decide_eq_true_eq]
  exact ⟨fun ⟨h1, h2, h3, h4⟩ => nm_ext h2 h4 h3 h1, fun h => by rw [h]; exact ⟨rfl, rfl, rfl, rfl⟩⟩
theorem sameN_self (p : Nm) : sameN p p = true := sameN_iff.2 rfl
def allN (l : List Nm) : List Ch := l.flatMap (·.l)
theorem allN_cons (p : Nm) (l : List Nm) : allN (p :: l) = p.l ++ allN l := List.flatMap_cons
theorem allN_app (a b : List Nm) : allN (a ++ b) = allN a ++ allN b := List.flatMap_append
def findN (l : List Nm) (id : Id_) : Int := match l.findIdx? (fun p => decide (p.id = id)) with
  | some k => k
  | none => -1
/-- A patch passes another one: they are told with the changes that their changes tell. -/
def passN (p q : Nm) : Option (Nm × Nm) := if p.id ∈ q.deps then none else (passF p.l q.l).map fun z => (⟨q.id, q.deps, q.txt, z.1⟩, ⟨p.id, p.deps, p.txt, z.2⟩)
theorem passN_inv {p q x y : Nm} (h : passN p q = some (x, y)) : p.id ∉ q.deps ∧ passF p.l q.l = some (x.l, y.l) ∧ (x.id = q.id ∧ x.deps = q.deps ∧ x.txt = q.txt) ∧ (y.id = p.id ∧ y.deps = p.deps ∧ y.txt = p.txt) := by
  unfold passN at h
  by_cases hd : p.id ∈ q.deps
  · rw [if_pos hd] at h; cases h
  · rw [if_neg hd] at h
    cases hp : passF p.l q.l with
    | none => rw [hp] at h; cases h
    | some z =>
      rw [hp] at h
      injection h with h
      injection h with h1 h2
      subst h1 h2
      exact ⟨hd, rfl, ⟨rfl, rfl, rfl⟩, rfl, rfl, rfl⟩
/-- One passes all of a list. -/
abbrev overN : List Nm → Nm → Option (Nm × List Nm) := one passN
/-- Passing changes no Id, Deps or Text, and no number of changes. -/
theorem passN_keeps {p q x y : Nm} (h : passN p q = some (x, y)) : (x.id = q.id ∧ x.deps = q.deps ∧ x.txt = q.txt ∧ x.l.length = q.l.length) ∧ (y.id = p.id ∧ y.deps = p.deps ∧ y.txt = p.txt ∧ y.l.length = p.l.length) := by
  obtain ⟨_, h2, ⟨a1, a2, a3⟩, b1, b2, b3⟩ := passN_inv h
  obtain ⟨n1, n2⟩ := passL_len passP h2
  exact ⟨⟨a1, a2, a3, n1⟩, b1, b2, b3, n2⟩
end Pn
end Go.Proofs.Ytdnkinajbebkoaa

namespace Go.Proofs.Ytdnkinajbebkoaa
open Go.RowKit
set_option linter.unusedVariables false
namespace Pn
open Tx Df Sq Hk Tr Pr Fl

/-- The cells of ids. -/
def idsV (l : List Id_) : List Value := l.flatMap fun x => [.int .i64 x.1, .int .i64 x.2]
theorem idsV_cons (x : Id_) (l : List Id_) : idsV (x :: l) = .int .i64 x.1 :: .int .i64 x.2 :: idsV l := List.flatMap_cons
theorem idsV_app (l u : List Id_) : idsV (l ++ u) = idsV l ++ idsV u := List.flatMap_append
theorem idsV_len : ∀ (l : List Id_), (idsV l).length = l.length * 2
  | [] => rfl
  | x :: l => by rw [idsV_cons, List.length_cons, List.length_cons, idsV_len l, List.length_cons]; omega
theorem idsV_at : ∀ {l : List Id_} {k : Nat} {x : Id_}, l[k]? = some x → (idsV l)[k * 2]? = some (.int .i64 x.1) ∧ (idsV l)[k * 2 + 1]? = some (.int .i64 x.2)
  | [], k, x, h => by simp at h
  | y :: l, 0, x, h => by
    injection h with h
    subst h
    rw [idsV_cons]
    exact ⟨rfl, rfl⟩
  | y :: l, k + 1, x, h => by
    rw [idsV_cons, show (k + 1) * 2 = k * 2 + 1 + 1 by omega]
    exact idsV_at (l := l) (by simpa using h)
theorem idsV_one : ∀ (l : List Id_), ∀ u ∈ idsV l, u.oneCell' = true
  | [], u, h => by cases h
  | x :: l, u, h => by
    rw [idsV_cons] at h
    rcases List.mem_cons.1 h with rfl | h
    · rfl
    · rcases List.mem_cons.1 h with rfl | h
      · rfl
      · exact idsV_one l u h
theorem idsV_drop : ∀ (l : List Id_) (n : Nat), (idsV l).drop (n * 2) = idsV (l.drop n)
  | [], n => by simp [idsV]
  | x :: l, 0 => rfl
  | x :: l, n + 1 => by
    rw [idsV_cons, show (n + 1) * 2 = n * 2 + 1 + 1 by omega, List.drop_succ_cons, List.drop_succ_cons, List.drop_succ_cons]
    exact idsV_drop l n
/-- The address A leads, below block B, to ids; or there are none. -/
abbrev RdI (w : World) (B : Nat) (A : Option Addr) (l : List Id_) : Prop := Rd w B A (idsV l)
theorem RdI.elem {W : World} {B : Nat} {A : Option Addr} {l : List Id_} (h : RdI W B A l) {k : Nat} (hk : k < l.length) :
    ∃ a x, A = some a ∧ a.block < B ∧ l[k]? = some x ∧ W.cell? (a.add (k * 2)) = some (.int .i64 x.1) ∧ W.cell? ⟨(a.add (k * 2)).block, (a.add (k * 2)).off + 1, none⟩ = some (.int .i64 x.2) := by
  obtain ⟨h1, h2⟩ := idsV_at (l := l) (List.getElem?_eq_getElem hk)
  rcases h with h | ⟨a, e, hlt, hc⟩
  · rw [h] at h1; simp at h1
  · exact ⟨a, l[k], e, hlt, List.getElem?_eq_getElem hk, hc _ _ h1, by rw [add_off _ _ _ (by decide)]; exact hc _ _ h2⟩
theorem RdI.drop {W : World} {B : Nat} {A : Option Addr} {l : List Id_} (h : RdI W B A l) (k : Nat) : RdI W B (A.map (·.add (k * 2))) (l.drop k) := by
  show Rd W B _ (idsV (l.drop k))
  rw [← idsV_drop]
  rcases h with h | ⟨a, rfl, hlt, hc⟩
  · exact .inl (by rw [h]; simp)
  · refine .inr ⟨a.add (k * 2), rfl, by rw [add_block]; exact hlt, fun j u hu => ?_⟩
    rw [add_add]
    exact hc _ u (by rw [← hu, List.getElem?_drop])
theorem RdI.mv {W W' : World} {A : Option Addr} {l : List Id_} (h : RdI W W.heap.size A l) (hb : Below W.heap.size W W') : RdI W' W'.heap.size A l := Rd.up (Rd.below h hb) hb.size

/-- The value of a named patch. -/
abbrev nmV (x : Id_) (D : Option Addr) (dn dc : Nat) (t : List UInt8) (A : Option Addr) (n c : Nat) : Value := .agg #[.int .i64 x.1, .int .i64 x.2, .slice D dn dc, strV t, .slice A n c]

/-- Two slice values that read, below block B, as a patch's Deps and changes. -/
structure NV (w : World) (B : Nat) (D : Option Addr) (dn dc : Nat) (A : Option Addr) (n c : Nat) (p : Nm) : Prop where
  dl : p.deps.length = dn
  dk : dn ≤ dc
  dm : dn ≤ maxLen
  dr : RdI w B D p.deps
  tm : p.txt.length ≤ maxLen
  l : p.l.length = n
  k : n ≤ c
  m : n ≤ maxLen
  r : RdP w (· < B) A p.l
section
variable {W W' : World} {B B' : Nat} {D A : Option Addr} {dn dc n c : Nat} {p : Nm}
theorem NV.below (h : NV W B D dn dc A n c p) (hb : Below B W W') : NV W' B D dn dc A n c p := ⟨h.dl, h.dk, h.dm, Rd.below h.dr hb, h.tm, h.l, h.k, h.m, h.r.below hb⟩
theorem NV.up (h : NV W B D dn dc A n c p) (hB : B ≤ B') : NV W B' D dn dc A n c p := ⟨h.dl, h.dk, h.dm, Rd.up h.dr hB, h.tm, h.l, h.k, h.m, h.r.mono fun b hb => Nat.lt_of_lt_of_le hb hB⟩
theorem NV.mv (h : NV W W.heap.size D dn dc A n c p) (hb : Below W.heap.size W W') : NV W' W'.heap.size D dn dc A n c p := (h.below hb).up hb.size
theorem NV.drewN (h : NV W B D dn dc A n c p) (d : Nat) : NV (W.drewN d) B D dn dc A n c p := h.below (below_drewN (Below.refl _ _) d)
end

/-- The cells of a patch, the k-th of a row at the address a. -/
structure NAt (w : World) (B : Nat) (a : Addr) (k : Nat) (x : Nm) : Prop where
  c0 : w.cell? (a.add (k * 5)) = some (.int .i64 x.id.1)
  c1 : w.cell? ⟨(a.add (k * 5)).block, (a.add (k * 5)).off + 1, none⟩ = some (.int .i64 x.id.2)
  c3 : w.cell? ⟨(a.add (k * 5)).block, (a.add (k * 5)).off + 3, none⟩ = some (strV x.txt)
  c2 : ∃ D dn dc A n c, w.cell? ⟨(a.add (k * 5)).block, (a.add (k * 5)).off + 2, none⟩ = some (.slice D dn dc) ∧ w.cell? ⟨(a.add (k * 5)).block, (a.add (k * 5)).off + 4, none⟩ = some (.slice A n c) ∧ NV w B D dn dc A n c x

/-- The address A leads, below block B, to patches; or there are none. -/
def RdN (w : World) (B : Nat) (A : Option Addr) (l : List Nm) : Prop :=
  l = [] ∨ ∃ a, A = some a ∧ a.block < B ∧ ∀ (k : Nat) x, l[k]? = some x → NAt w B a k x
section
variable {W W' : World} {B B' : Nat} {A : Option Addr} {l : List Nm}
theorem cellB {p : Addr} {u : Value} (hc : W.cell? p = some u) (hb : Below B W W') (hp : p.block < B) : W'.cell? p = some u := (hb.cell hp).trans hc
theorem NAt.below {a : Addr} {k : Nat} {x : Nm} (h : NAt W B a k x) (ha : a.block < B) (hb : Below B W W') : NAt W' B a k x := by
  obtain ⟨c0, c1, c3, D, dn, dc, A, n, c, c2, c4, c5⟩ := h
  have hk : (a.add (k * 5)).block < B := by rw [add_block]; exact ha
  exact ⟨cellB c0 hb hk, cellB c1 hb hk, cellB c3 hb hk, D, dn, dc, A, n, c, cellB c2 hb hk, cellB c4 hb hk, c5.below hb⟩
theorem NAt.up {a : Addr} {k : Nat} {x : Nm} (h : NAt W B a k x) (hB : B ≤ B') : NAt W B' a k x := by
  obtain ⟨c0, c1, c3, D, dn, dc, A, n, c, c2, c4, c5⟩ := h
  exact ⟨c0, c1, c3, D, dn, dc, A, n, c, c2, c4, c5.up hB⟩
theorem RdN.below (h : RdN W B A l) (hb : Below B W W') : RdN W' B A l := h.imp id fun ⟨a, e, h1, h2⟩ => ⟨a, e, h1, fun k x hx => (h2 k x hx).below h1 hb⟩
theorem RdN.up (h : RdN W B A l) (hB : B ≤ B') : RdN W B' A l := h.imp id fun ⟨a, e, h1, h2⟩ => ⟨a, e, Nat.lt_of_lt_of_le h1 hB, fun k x hx => (h2 k x hx).up hB⟩
theorem RdN.mv (h : RdN W W.heap.size A l) (hb : Below W.heap.size W W') : RdN W' W'.heap.size A l := (h.below hb).up hb.size
theorem RdN.drewN (h : RdN W B A l) (d : Nat) : RdN (W.drewN d) B A l := h.below (below_drewN (Below.refl _ _) d)
theorem RdN.nil (W : World) (B : Nat) (A : Option Addr) : RdN W B A [] := .inl rfl
/-- One of a list of patches. -/
theorem RdN.elem (h : RdN W B A l) {k : Nat} (hk : k < l.length) :
    ∃ a x D dn dc E n c, A = some a ∧ a.block < B ∧ l[k]? = some x ∧
      W.cell? (a.add (k * 5)) = some (.int .i64 x.id.1) ∧ W.cell? ⟨(a.add (k * 5)).block, (a.add (k * 5)).off + 1, none⟩ = some (.int .i64 x.id.2) ∧ W.cell? ⟨(a.add (k * 5)).block, (a.add (k * 5)).off + 2, none⟩ = some (.slice D dn dc) ∧
      W.cell? ⟨(a.add (k * 5)).block, (a.add (k * 5)).off + 3, none⟩ = some (strV x.txt) ∧ W.cell? ⟨(a.add (k * 5)).block, (a.add (k * 5)).off + 4, none⟩ = some (.slice E n c) ∧ NV W B D dn dc E n c x := by
  rcases h with rfl | ⟨a, e, hlt, hc⟩
  · exact absurd hk (by simp)
  · obtain ⟨c0, c1, c3, D, dn, dc, E, n, c, c2, c4, c5⟩ := hc k _ (List.getElem?_eq_getElem hk)
    exact ⟨a, l[k], D, dn, dc, E, n, c, e, hlt, List.getElem?_eq_getElem hk, c0, c1, c2, c3, c4, c5⟩
/-- The first ones of a list, and those behind them. -/
theorem RdN.take (h : RdN W B A l) (k : Nat) : RdN W B A (l.take k) := by
  rcases h with rfl | ⟨a, e, h1, h2⟩
  · exact .inl (by simp)
  · refine .inr ⟨a, e, h1, fun j y hy => h2 j y ?_⟩
    rw [List.getElem?_take] at hy
    split at hy
    · exact hy
    · cases hy
theorem RdN.drop (h : RdN W B A l) (k : Nat) : RdN W B (A.map (·.add (k * 5))) (l.drop k) := by
  rcases h with rfl | ⟨a, rfl, h1, h2⟩
  · exact .inl (by simp)
  · refine .inr ⟨_, rfl, by rw [add_block]; exact h1, fun j y hy => ?_⟩
    rw [List.getElem?_drop] at hy
    have := h2 (k + j) y hy
    have ea : (a.add (k * 5)).add (j * 5) = a.add ((k + j) * 5) := by rw [add_add]; congr 1; omega
    obtain ⟨c0, c1, c3, c2⟩ := this
    exact ⟨by rw [ea]; exact c0, by rw [ea]; exact c1, by rw [ea]; exact c3, by rw [ea]; exact c2⟩
end

/-- The cells of patches, as far as they go; what they hold lies below block B. -/
def NCells (W : World) (B : Nat) (l : List Nm) (xs : List Value) : Prop :=
  ∀ (k : Nat) x, l[k]? = some x → ∃ D dn dc A n c, xs[k * 5]? = some (.int .i64 x.id.1) ∧ xs[k * 5 + 1]? = some (.int .i64 x.id.2) ∧ xs[k * 5 + 2]? = some (.slice D dn dc) ∧ xs[k * 5 + 3]? = some (strV x.txt) ∧ xs[k * 5 + 4]? = some (.slice A n c) ∧ NV W B D dn dc A n c x
section
variable {W W' : World} {B B' : Nat} {l u : List Nm} {xs ys : List Value}
theorem NCells.below (h : NCells W B l xs) (hb : Below B W W') : NCells W' B l xs := fun k x hx => by
  obtain ⟨D, dn, dc, A, n, c, h0, h1, h2, h3, h4, h5⟩ := h k x hx
  exact ⟨D, dn, dc, A, n, c, h0, h1, h2, h3, h4, h5.below hb⟩
theorem NCells.up (h : NCells W B l xs) (hB : B ≤ B') : NCells W B' l xs := fun k x hx => by
  obtain ⟨D, dn, dc, A, n, c, h0, h1, h2, h3, h4, h5⟩ := h k x hx
  exact ⟨D, dn, dc, A, n, c, h0, h1, h2, h3, h4, h5.up hB⟩
theorem NCells.nil (W : World) (B : Nat) (xs : List Value) : NCells W B [] xs := fun k x hx => by simp at hx
theorem NCells.one {D A : Option Addr} {dn dc n c : Nat} {x : Nm} (h : NV W B D dn dc A n c x) : NCells W B [x] [.int .i64 x.id.1, .int .i64 x.id.2, .slice D dn dc, strV x.txt, .slice A n c] := fun k y hy => by
  cases k with
  | zero => cases hy; exact ⟨D, dn, dc, A, n, c, rfl, rfl, rfl, rfl, rfl, h⟩
  | succ k => simp at hy
theorem NCells.append (h : NCells W B l xs) (hl : xs.length = l.length * 5) (h' : NCells W B u ys) : NCells W B (l ++ u) (xs ++ ys) := fun k x hx => by
  by_cases hk : k < l.length
  · rw [List.getElem?_append_left hk] at hx
    obtain ⟨D, dn, dc, A, n, c, h0, h1, h2, h3, h4, h5⟩ := h k x hx
    exact ⟨D, dn, dc, A, n, c, by rw [List.getElem?_append_left (by omega)]; exact h0, by rw [List.getElem?_append_left (by omega)]; exact h1, by rw [List.getElem?_append_left (by omega)]; exact h2, by rw [List.getElem?_append_left (by omega)]; exact h3, by rw [List.getElem?_append_left (by omega)]; exact h4, h5⟩
  · rw [List.getElem?_append_right (by omega)] at hx
    obtain ⟨D, dn, dc, A, n, c, h0, h1, h2, h3, h4, h5⟩ := h' _ x hx
    have e : ∀ j, k * 5 + j - xs.length = (k - l.length) * 5 + j := fun j => by omega
    refine ⟨D, dn, dc, A, n, c, ?_, ?_, ?_, ?_, ?_, h5⟩
    · rw [List.getElem?_append_right (by omega), show k * 5 - xs.length = (k - l.length) * 5 by omega]; exact h0
    · rw [List.getElem?_append_right (by omega), e]; exact h1
    · rw [List.getElem?_append_right (by omega), e]; exact h2
    · rw [List.getElem?_append_right (by omega), e]; exact h3
    · rw [List.getElem?_append_right (by omega), e]; exact h4
theorem one5 : ∀ {u : List Nm} {ys : List Value}, NCells W B u ys → ys.length = u.length * 5 → ∀ y ∈ ys, Value.oneCell' y = true := fun {u ys} h hl y hy => by
  obtain ⟨j, hj, rfl⟩ := List.mem_iff_getElem.1 hy
  have hk : j / 5 < u.length := by omega
  obtain ⟨D, dn, dc, A, n, c, h0, h1, h2, h3, h4, h5⟩ := h (j / 5) _ (List.getElem?_eq_getElem hk)
  obtain ⟨v, hv⟩ : ∃ v, ys[j] = v := ⟨_, rfl⟩
  have hj' : ys[j]? = some v := by rw [← hv]; exact List.getElem?_eq_getElem hj
  rw [hv]
  have hm : j % 5 < 5 := Nat.mod_lt _ (by decide)
  have hd : j / 5 * 5 + j % 5 = j := by omega
  rw [← hd] at hj'
  generalize j % 5 = r at *
  match r, hm with
  | 0, _ => rw [Nat.add_zero] at hj'; rw [h0] at hj'; injection hj' with e; rw [← e]; rfl
  | 1, _ => rw [h1] at hj'; injection hj' with e; rw [← e]; rfl
  | 2, _ => rw [h2] at hj'; injection hj' with e; rw [← e]; rfl
  | 3, _ => rw [h3] at hj'; injection hj' with e; rw [← e]; rfl
  | 4, _ => rw [h4] at hj'; injection hj' with e; rw [← e]; rfl
end

theorem info_named : (Try.prog.info? 45).map (fun i => (i.zero, i.size, i.bytes)) = some (some (.agg #[.int .i64 0, .int .i64 0, .slice none 0 0, .string ⟨#[]⟩, .slice none 0 0]), 5, 80) := by kernel_rfl
theorem info_id : (Try.prog.info? 42).map (fun i => (i.zero, i.size, i.bytes)) = some (some (.agg #[.int .i64 0, .int .i64 0]), 2, 16) := by kernel_rfl

/-- Patches in a row of one's own; what they hold lies below block N. -/
def OwnM (W : World) (N base : Nat) (v : Value) (l : List Nm) : Prop := ∃ xs, W.ownsRow base 45 5 v l.length xs ∧ NCells W N l xs
section
variable {W W' : World} {N base : Nat} {v : Value} {l u : List Nm}
theorem OwnM.below (h : OwnM W N base v l) (hN : N ≤ W.heap.size) (hb : Below W.heap.size W W') : OwnM W' N base v l := by
  obtain ⟨xs, h1, h2⟩ := h
  exact ⟨xs, own_gr h1 (below_gr_row hb), h2.below (hb.mono hN)⟩
/-- A row of patches of one's own is read as patches. -/
theorem rdN_own (h : OwnM W N base v l) (hN : N ≤ W.heap.size) : ∃ A c, v = .slice A l.length c ∧ l.length ≤ c ∧ RdN W W.heap.size A l := by
  obtain ⟨xs, hr, hF⟩ := h
  have hr0 := hr
  rcases hr.2 with ⟨rfl, h0⟩ | ⟨g, cap, cur, rfl, hbg, hg, hc, _⟩
  · have : l = [] := List.eq_nil_of_length_eq_zero h0
    subst this
    exact ⟨none, 0, rfl, Nat.le_refl _, .inl rfl⟩
  · refine ⟨_, cap, rfl, hc, .inr ⟨_, rfl, (Array.getElem?_eq_some_iff.1 hg).1, fun k x hx => ?_⟩⟩
    obtain ⟨D, dn, dc, A, n, c, h0, h1, h2, h3, h4, h5⟩ := hF k x hx
    have hk : k < l.length := (List.getElem?_eq_some_iff.1 hx).1
    have ea : (⟨g, 0, none⟩ : Addr).add (k * 5) = ⟨g, k * 5, none⟩ := by unfold Addr.add; split <;> simp_all
    refine ⟨?_, ?_, ?_, D, dn, dc, A, n, c, ?_, ?_, h5.up hN⟩
    · rw [ea, hr0.cellAt (k * 5) (by omega)]; exact h0
    · rw [ea]; show W.cell? ⟨g, k * 5 + 1, none⟩ = _; rw [hr0.cellAt (k * 5 + 1) (by omega)]; exact h1
    · rw [ea]; show W.cell? ⟨g, k * 5 + 3, none⟩ = _; rw [hr0.cellAt (k * 5 + 3) (by omega)]; exact h3
    · rw [ea]; show W.cell? ⟨g, k * 5 + 2, none⟩ = _; rw [hr0.cellAt (k * 5 + 2) (by omega)]; exact h2
    · rw [ea]; show W.cell? ⟨g, k * 5 + 4, none⟩ = _; rw [hr0.cellAt (k * 5 + 4) (by omega)]; exact h4
end

/-- Ids in a row of one's own. -/
abbrev OwnI (W : World) (base : Nat) (v : Value) (l : List Id_) : Prop := W.ownsRow base 42 2 v l.length (idsV l)
section
variable {W W' : World} {base : Nat} {v : Value} {l u : List Id_}
theorem ownI_nil (W : World) (base : Nat) : OwnI W base (.slice none 0 0) [] := World.ownsRow_nil _ _ _ _
theorem rdI_own (h : OwnI W base v l) : ∃ A c, v = .slice A l.length c ∧ l.length ≤ c ∧ RdI W W.heap.size A l := by
  rcases h.2 with ⟨rfl, h0⟩ | ⟨g, cap, cur, rfl, hbg, hg, hc, _⟩
  · have : l = [] := List.eq_nil_of_length_eq_zero h0
    subst this
    exact ⟨none, 0, rfl, Nat.le_refl _, .inl rfl⟩
  · refine ⟨_, cap, rfl, hc, .inr ⟨_, rfl, (Array.getElem?_eq_some_iff.1 hg).1, fun j u hu => ?_⟩⟩
    have ea : (⟨g, 0, none⟩ : Addr).add j = ⟨g, j, none⟩ := by unfold Addr.add; split <;> simp_all
    have hj : j < (idsV l).length := (List.getElem?_eq_some_iff.1 hu).1
    rw [idsV_len] at hj
    rw [ea, h.cellAt j (by omega)]
    exact hu
theorem run_ownI {ty : TypeId} {m c : Nat} {A : Option Addr} (h : OwnI W base v l) (hu : RdI W W.heap.size A u) (hm : u.length = m) (hn : l.length + m ≤ 100000) (hbase : base ≤ W.heap.size) :
    ∃ v' W', (Builtin.append_ #[23, 23] ty #[v, .slice A m c]).run Try.prog W = .ok v' W' ∧ OwnI W' base v' (l ++ u) ∧ W.grownBy W' v.ownBlock := by
  obtain ⟨i0, hi0, hz0, hz1, hz2⟩ := info_parts info_id
  by_cases hm0 : m = 0
  · have hu0 : u = [] := List.eq_nil_of_length_eq_zero (by omega)
    subst hu0
    obtain ⟨A0, c0, rfl, hc0, _⟩ := rdI_own h
    subst hm0
    exact ⟨_, W, run_append_none Try.underlying23 hi0 hc0, by rw [List.append_nil]; exact h, ⟨rfl, rfl, rfl, Nat.le_refl _, fun _ _ _ => rfl⟩⟩
  · have hy := idsV_len u
    obtain ⟨a, rfl, hcell⟩ : ∃ a, A = some a ∧ ∀ (j : Nat) x, (idsV u)[j]? = some x → W.cell? (a.add j) = some x := by
      rcases hu with hy' | ⟨a, e, _, h⟩
      · rw [hy'] at hy; simp at hy; omega
      · exact ⟨a, e, h⟩
    obtain ⟨g, cap, W', hr, r1, r2, r3, r4⟩ := run_append_lies (P := Try.prog) (w := W) 23 ty base 42 i0 _ 2 16 Try.underlying23 hi0 hz0 hz1 hz2 rfl (by decide) v l.length (idsV l) h a m c (idsV u) (by rw [hy, hm]) hcell (idsV_one u) (by omega) (by unfold maxLen; omega) (by omega) hbase W.heap.size rfl
    refine ⟨_, W', hr, ?_, r2⟩
    show W'.ownsRow _ _ _ _ (l ++ u).length (idsV (l ++ u))
    rw [List.length_append, hm, idsV_app]
    exact r1
theorem wpList_ownI {ops : Array Oper} {rest : List Oper} {o : Oper} {a : Act} {Q : Exit → Act → World → Prop} (hgd : o.guard = none) (s x : Operand)
    (ho : o.op = .call { callee := .builtin .append, args := #[s, x], argTypes := #[23, 23] })
    (base m c : Nat) (v : Value) (A : Option Addr) (l u : List Id_) (hs : a.eval s = v) (hx : a.eval x = .slice A m c) (h : OwnI W base v l) (hu : RdI W W.heap.size A u)
    (hm : u.length = m) (hn : l.length + m ≤ 100000) (hbase : base ≤ W.heap.size)
    (hK : ∀ v' W', OwnI W' base v' (l ++ u) → W.grownBy W' v.ownBlock → wpList Try.prog ops Q rest (a.put o.dst v') W') : wpList Try.prog ops Q (o :: rest) a W := by
  refine wpList_plain hgd fun K hK' => ?_
  obtain ⟨v', W', hrun, h2, h3⟩ := run_ownI (ty := o.type) (c := c) h hu hm hn hbase
  unfold Oper.wp execOp
  simp only [ho, resolve, invoke, builtin, Sem.run_bind, Sem.run_pure, Result.andThen_ok, List.map_toArray, List.map_cons, List.map_nil, hs, hx, hrun]
  exact hK' _ _ (hK v' W' h2 h3)
/-- The same as a step of a drawn region. -/
theorem step_ownI {m c : Nat} {A : Option Addr} {ops : Array Oper} {o : Oper} {a : Act} {K : Act → World → Prop} {Q : Exit → Act → World → Prop} {E : Prop} (hgd : o.guard = none) (s x : Operand)
    (ho : o.op = .call { callee := .builtin .append, args := #[s, x], argTypes := #[23, 23] }) (hs : a.eval s = v) (hx : a.eval x = .slice A m c)
    (h : OwnI W base v l) (hu : RdI W W.heap.size A u) (hm : u.length = m) (hn : l.length + m ≤ 100000) (hbase : base ≤ W.heap.size)
    (hK : ∀ v' W', OwnI W' base v' (l ++ u) → W.grownBy W' v.ownBlock → K (a.put o.dst v') W') : if Region.wanted o (yielded ops a.tmps) = true then Oper.wp Try.prog o a W K Q else E := by
  have hw : Region.wanted o (yielded ops a.tmps) = true := by simp [Region.wanted, hgd]
  rw [if_pos hw]
  obtain ⟨v', W', hrun, h4, h5⟩ := run_ownI (ty := o.type) (c := c) h hu hm hn hbase
  unfold Oper.wp execOp
  simp only [ho, resolve, invoke, builtin, Sem.run_bind, Sem.run_pure, Result.andThen_ok, List.map_toArray, List.map_cons, List.map_nil, hs, hx, hrun]
  exact hK v' W' h4 h5
theorem ownI_ge (h : OwnI W base v l) : ∀ k, v.ownBlock = some k → base ≤ k := fun k hk => own_ge h k hk
/-- One id in a block of its own is read as a list. -/
theorem rdI_lone {b N : Nat} {x : Id_} (h : Blk W b 42 #[.int .i64 x.1, .int .i64 x.2]) (hb : b < N) : RdI W N (some ⟨b, 0, none⟩) [x] :=
  .inr ⟨_, rfl, hb, fun j u hu => by
    rcases j with _ | _ | j
    · rw [add_zero']; exact h.cell 0 hu
    · exact h.cell 1 hu
    · simp [idsV] at hu⟩
end
end Pn
end Go.Proofs.Ytdnkinajbebkoaa

namespace Go.Proofs.Ytdnkinajbebkoaa
open Go.ChangeShapes Go.WideShapes Go.ChangeAt Go.RowKit Go.Deep
set_option linter.unusedVariables false
namespace Pn
open Tx Df Sq Hk Tr Pr Fl

/-- Patches that are handed in. -/
structure NmsArg (w : World) (A : Option Addr) (n c : Nat) (l : List Nm) : Prop where
  len : l.length = n
  cap : n ≤ c
  le : n ≤ maxLen
  rd : RdN w w.heap.size A l

section
variable {H : Type} {enc : TypeId × Value → H} {W : World} {base : Nat} {spare : Nat → Bool} {held : Bool}

theorem id_cells {fuel : Nat} {v0 v1 : Value} {x : DataW H × List MemPlace} (h : DataW.trod enc Try.prog W base spare held fuel 42 [v0, v1] = some x) : ∃ p : Id_, v0 = .int .i64 p.1 ∧ v1 = .int .i64 p.2 := by
  have s0 : Try.prog.cellsOf 3 = 1 := by kernel_rfl
  obtain ⟨xs, n, _, _, _, hlen, hf⟩ := DataW.trod_struct Try.underlying42 h
  match xs, hlen with
  | [y0, y1], _ =>
    have h0 : DataW.trod enc Try.prog W base spare held n 3 (([v0, v1].drop 0).take (Try.prog.cellsOf 3)) = some y0 := by simpa using hf 0 _ rfl
    have h1 : DataW.trod enc Try.prog W base spare held n 3 (([v0, v1].drop 1).take (Try.prog.cellsOf 3)) = some y1 := by simpa using hf 1 _ rfl
    simp only [s0, List.drop_zero, List.take_succ_cons, List.take_zero, List.drop_succ_cons] at h0 h1
    obtain ⟨k, e0, _, w0⟩ := DataW.trod_int Try.underlying3 h0
    injection e0 with e0
    subst e0
    obtain ⟨m, e1, _, w1⟩ := DataW.trod_int Try.underlying3 h1
    injection e1 with e1
    subst e1
    exact ⟨(k, m), rfl, rfl⟩

theorem ids_any {fuel : Nat} {v : Value} {x : DataW H × List MemPlace} (h : DataW.trod enc Try.prog W base spare held fuel 23 [v] = some x) : ∃ A n c l, v = .slice A n c ∧ l.length = n ∧ n ≤ c ∧ n ≤ maxLen ∧ RdI W W.heap.size A l := by
  have s2 : Try.prog.cellsOf 42 = 2 := by kernel_rfl
  rcases open_slice Try.underlying23 h with ⟨hcs', _⟩ | ⟨a, len, cap, m, n, D, Pl, hcs', _, hl, hm, hmm, _, hi⟩
  · injection hcs' with hcs'
    subst hcs'
    exact ⟨none, 0, 0, [], rfl, rfl, Nat.le_refl _, Nat.zero_le _, .inl rfl⟩
  · injection hcs' with hcs'
    subst hcs'
    have hlm : len ≤ m := by rw [hmm]; split <;> omega
    rw [s2] at hi
    obtain ⟨t, h1, h2⟩ := list_of (P := fun i (x : Id_) => W.cell? (a.add (i * 2)) = some (.int .i64 x.1) ∧ W.cell? (a.add (i * 2 + 1)) = some (.int .i64 x.2)) len (fun i hil => by
      obtain ⟨cs', hc, ht⟩ := hi i (by omega)
      obtain ⟨_, hl2, hcell⟩ := World.cells?_some hc
      match cs', hl2 with
      | [v0, v1], _ =>
        obtain ⟨x, rfl, rfl⟩ := id_cells ht
        have k0 := hcell 0 (by decide); have k1 := hcell 1 (by decide)
        rw [add_zero'] at k0
        refine ⟨x, k0, ?_⟩
        rw [← Tx.add_add]
        have e : (⟨(a.add (i * 2)).block, (a.add (i * 2)).off + 1, none⟩ : Addr) = (a.add (i * 2)).add 1 := rfl
        exact k1)
    refine ⟨some a, len, cap, t, rfl, h1, hl, by omega, ?_⟩
    cases t with
    | nil => exact .inl rfl
    | cons e es =>
      have hb := lt_of_cell (h2 0 e rfl).1
      rw [add_block] at hb
      refine .inr ⟨a, rfl, hb, fun j u hu => ?_⟩
      have hj := (List.getElem?_eq_some_iff.1 hu).1
      rw [idsV_len] at hj
      have hk : j / 2 < (e :: es).length := by omega
      obtain ⟨g1, g2⟩ := idsV_at (List.getElem?_eq_getElem hk)
      obtain ⟨q1, q2⟩ := h2 (j / 2) _ (List.getElem?_eq_getElem hk)
      by_cases hp : j % 2 = 0
      · have ej : j = j / 2 * 2 := by omega
        rw [← ej] at g1 q1
        rw [hu] at g1
        injection g1 with g1
        rw [g1]
        exact q1
      · have ej : j = j / 2 * 2 + 1 := by omega
        rw [← ej] at g2 q2
        rw [hu] at g2
        injection g2 with g2
        rw [g2]
        exact q2
theorem prs_any {fuel : Nat} {v : Value} {x : DataW H × List MemPlace} (h : DataW.trod enc Try.prog W base spare held fuel 43 [v] = some x) : ∃ A n c l, v = .slice A n c ∧ PrsArg W A n c l := by
  obtain ⟨A, n, c, rfl⟩ : ∃ A n c, v = .slice A n c := by
    rcases open_slice Try.underlying43 h with ⟨hcs', _⟩ | ⟨a, len, cap, m, n, D, Pl, hcs', _⟩
    · injection hcs' with hcs'; exact ⟨_, _, _, hcs'⟩
    · injection hcs' with hcs'; exact ⟨_, _, _, hcs'⟩
  obtain ⟨l, hl⟩ := prs_in h rfl
  exact ⟨A, n, c, l, rfl, hl⟩

theorem nm_cells {fuel : Nat} {v0 v1 v2 v3 v4 : Value} {x : DataW H × List MemPlace} (h : DataW.trod enc Try.prog W base spare held fuel 45 [v0, v1, v2, v3, v4] = some x) :
    ∃ D dn dc A n c p, v0 = .int .i64 p.id.1 ∧ v1 = .int .i64 p.id.2 ∧ v2 = .slice D dn dc ∧ v3 = strV p.txt ∧ v4 = .slice A n c ∧ NV W W.heap.size D dn dc A n c p := by
  have s2 : Try.prog.cellsOf 42 = 2 := by kernel_rfl
  have s1 : Try.prog.cellsOf 9 = 1 := by kernel_rfl
  have s3 : Try.prog.cellsOf 23 = 1 := by kernel_rfl
  have s4 : Try.prog.cellsOf 43 = 1 := by kernel_rfl
  obtain ⟨xs, n, _, _, _, hlen, hf⟩ := DataW.trod_struct Try.underlying45 h
  match xs, hlen with
  | [y0, y1, y2, y3], _ =>
    have h0 : DataW.trod enc Try.prog W base spare held n 42 (([v0, v1, v2, v3, v4].drop 0).take (Try.prog.cellsOf 42)) = some y0 := by simpa using hf 0 _ rfl
    have h1 : DataW.trod enc Try.prog W base spare held n 23 (([v0, v1, v2, v3, v4].drop 2).take (Try.prog.cellsOf 23)) = some y1 := by simpa using hf 1 _ rfl
    have h2 : DataW.trod enc Try.prog W base spare held n 9 (([v0, v1, v2, v3, v4].drop 3).take (Try.prog.cellsOf 9)) = some y2 := by simpa using hf 2 _ rfl
    have h3 : DataW.trod enc Try.prog W base spare held n 43 (([v0, v1, v2, v3, v4].drop 4).take (Try.prog.cellsOf 43)) = some y3 := by simpa using hf 3 _ rfl
    simp only [s1, s2, s3, s4, List.drop_zero, List.take_succ_cons, List.take_zero, List.drop_succ_cons] at h0 h1 h2 h3
    obtain ⟨i, rfl, rfl⟩ := id_cells h0
    obtain ⟨D, dn, dc, ds, rfl, d1, d2, d3, d4⟩ := ids_any h1
    obtain ⟨s, e1, _, w1⟩ := DataW.trod_string Try.underlying9 h2
    injection e1 with e1
    subst e1
    obtain ⟨A, m, c, l, rfl, hl⟩ := prs_any h3
    refine ⟨D, dn, dc, A, m, c, ⟨i, ds, s.data.toList, l⟩, rfl, rfl, rfl, rfl, rfl, d1, d2, d3, d4, ?_, hl.len, hl.cap, hl.le, hl.rd⟩
    show s.data.toList.length ≤ _; rw [Array.length_toList]; exact w1

/-- Patches that are handed in. -/
theorem nms_in {fuel : Nat} {cs : List Value} {x : DataW H × List MemPlace} {A : Option Addr} {l c : Nat} (h : DataW.trod enc Try.prog W base spare held fuel 22 cs = some x) (hcs : cs = [.slice A l c]) : ∃ t : List Nm, NmsArg W A l c t := by
  have s5 : Try.prog.cellsOf 45 = 5 := by kernel_rfl
  rcases open_slice Try.underlying22 h with ⟨hcs', _⟩ | ⟨a, len, cap, m, n, D, Pl, hcs', _, hl, hm, hmm, _, hi⟩
  · rw [hcs] at hcs'
    simp at hcs'
    obtain ⟨rfl, rfl, rfl⟩ := hcs'
    exact ⟨[], rfl, Nat.le_refl _, Nat.zero_le _, .inl rfl⟩
  · rw [hcs] at hcs'
    simp at hcs'
    obtain ⟨rfl, rfl, rfl⟩ := hcs'
    have hlm : l ≤ m := by rw [hmm]; split <;> omega
    rw [s5] at hi
    obtain ⟨t, h1, h2⟩ := list_of (P := fun i x => NAt W W.heap.size a i x) l (fun i hil => by
      obtain ⟨cs', hc, ht⟩ := hi i (by omega)
      obtain ⟨_, hl5, hcell⟩ := World.cells?_some hc
      match cs', hl5 with
      | [v0, v1, v2, v3, v4], _ =>
        obtain ⟨D, dn, dc, A, n, c, x, rfl, rfl, rfl, rfl, rfl, hx⟩ := nm_cells ht
        have k0 := hcell 0 (by decide); have k1 := hcell 1 (by decide); have k2 := hcell 2 (by decide); have k3 := hcell 3 (by decide); have k4 := hcell 4 (by decide)
        rw [add_zero'] at k0
        exact ⟨x, k0, k1, k3, D, dn, dc, A, n, c, k2, k4, hx⟩)
    refine ⟨t, h1, hl, by omega, ?_⟩
    cases t with
    | nil => exact .inl rfl
    | cons e es =>
      have hb := lt_of_cell (h2 0 e rfl).c0
      rw [add_block] at hb
      exact .inr ⟨a, rfl, hb, fun k x hx => h2 k x hx⟩
end

end Pn
end Go.Proofs.Ytdnkinajbebkoaa

set_option maxRecDepth 100000
namespace Go.Proofs.Ytdnkinajbebkoaa
set_option linter.unusedVariables false
namespace Sw
open Sq Hk Tx
theorem pass_cube {α : Type} {p q r r3 q3 r4 p3 q4 p4 : Hu α} (l : pass q r = some (r3, q3)) (m : pass p r3 = some (r4, p3)) (n : pass p3 q3 = some (q4, p4)) :
    ∃ q1 p1 r1 p2 r2 q2, pass p q = some (q1, p1) ∧ pass p1 r = some (r1, p2) ∧ pass q1 r1 = some (r2, q2) := by
  rcases pass_cases l with ⟨l1, rfl, rfl⟩ | ⟨l1, rfl, rfl⟩ <;> rcases pass_cases m with ⟨m1, rfl, rfl⟩ | ⟨m1, rfl, rfl⟩ <;> rcases pass_cases n with ⟨n1, rfl, rfl⟩ | ⟨n1, rfl, rfl⟩ <;>
    simp only [at_] at l1 m1 n1 <;>
    first
      | (exfalso; omega)
      | exact ⟨_, _, _, _, _, _, pass_ahead (by first | omega | (simp only [at_]; omega)), pass_ahead (by first | omega | (simp only [at_]; omega)), pass_ahead (by first | omega | (simp only [at_]; omega))⟩
      | exact ⟨_, _, _, _, _, _, pass_ahead (by first | omega | (simp only [at_]; omega)), pass_ahead (by first | omega | (simp only [at_]; omega)), pass_behind (by first | omega | (simp only [at_]; omega))⟩
      | exact ⟨_, _, _, _, _, _, pass_ahead (by first | omega | (simp only [at_]; omega)), pass_behind (by first | omega | (simp only [at_]; omega)), pass_ahead (by first | omega | (simp only [at_]; omega))⟩
      | exact ⟨_, _, _, _, _, _, pass_ahead (by first | omega | (simp only [at_]; omega)), pass_behind (by first | omega | (simp only [at_]; omega)), pass_behind (by first | omega | (simp only [at_]; omega))⟩
      | exact ⟨_, _, _, _, _, _, pass_behind (by first | omega | (simp only [at_]; omega)), pass_ahead (by first | omega | (simp only [at_]; omega)), pass_ahead (by first | omega | (simp only [at_]; omega))⟩
      | exact ⟨_, _, _, _, _, _, pass_behind (by first | omega | (simp only [at_]; omega)), pass_ahead (by first | omega | (simp only [at_]; omega)), pass_behind (by first | omega | (simp only [at_]; omega))⟩
      | exact ⟨_, _, _, _, _, _, pass_behind (by first | omega | (simp only [at_]; omega)), pass_behind (by first | omega | (simp only [at_]; omega)), pass_ahead (by first | omega | (simp only [at_]; omega))⟩
      | exact ⟨_, _, _, _, _, _, pass_behind (by first | omega | (simp only [at_]; omega)), pass_behind (by first | omega | (simp only [at_]; omega)), pass_behind (by first | omega | (simp only [at_]; omega))⟩
/-- How far one moves. -/
theorem pass_far {p q x y : HU} (h : pass p q = some (x, y)) (hp : mayH p = true) (hq : mayH q = true) : x.pos ≤ q.pos + 200 ∧ y.pos ≤ p.pos + 200 := by
  have a1 := mayH_new hp; have a2 := mayH_old hp; have a3 := mayH_new hq; have a4 := mayH_old hq
  rcases pass_cases h with ⟨_, rfl, rfl⟩ | ⟨_, rfl, rfl⟩ <;> simp only [at_] <;> omega
theorem passH_cube {p q r r3 q3 r4 p3 q4 p4 : HU} (l : passH q r = some (r3, q3)) (m : passH p r3 = some (r4, p3)) (n : passH p3 q3 = some (q4, p4)) (bp : p.pos ≤ 1048176) (bq : q.pos ≤ 1048176) (br : r.pos ≤ 1048176) :
    ∃ q1 p1 r1 p2 r2 q2, passH p q = some (q1, p1) ∧ passH p1 r = some (r1, p2) ∧ passH q1 r1 = some (r2, q2) := by
  obtain ⟨mq, mr, l3, _⟩ := passH_may l
  obtain ⟨mp, _, m3, _⟩ := passH_may m
  obtain ⟨q1, p1, r1, p2, r2, q2, i, j, k⟩ := pass_cube l3 m3 (passH_may n).2.2.1
  have f1 := pass_far i mp mq
  have i' := passH_some (z := (q1, p1)) mp mq i (by dsimp only; omega) (by dsimp only; omega)
  obtain ⟨mq1, mp1⟩ := passH_mays i'
  have f2 := pass_far j mp1 mr
  have j' := passH_some (z := (r1, p2)) mp1 mr j (by dsimp only; omega) (by dsimp only; omega)
  obtain ⟨mr1, mp2⟩ := passH_mays j'
  have f3 := pass_far k mq1 mr1
  exact ⟨q1, p1, r1, p2, r2, q2, i', j', passH_some (z := (r2, q2)) mq1 mr1 k (by dsimp only; omega) (by dsimp only; omega)⟩
end Sw
namespace Pr
open Tx Sq Hk Tr

theorem way_cube {p q r r3 q3 r4 p3 q4 p4 : Ch} (l : Way q r r3 q3) (m : Way p r3 r4 p3) (n : Way p3 q3 q4 p4) (bp : p.h.pos ≤ 1048176) (bq : q.h.pos ≤ 1048176) (br : r.h.pos ≤ 1048176) :
    ∃ q1 p1 r1 p2 r2 q2, Way p q q1 p1 ∧ Way p1 r r1 p2 ∧ Way q1 r1 r2 q2 := by
  cases l with
  | apart c =>
    cases m with
    | apart b =>
      cases n with
      | apart a => exact ⟨_, _, _, _, _, _, .apart a, .apart b, .apart c⟩
      | both kp kq hn u v h => exact ⟨_, _, _, _, _, _, .both kp kq hn u v h, Way.apart (p := ⟨p.k, p.nm, p.to, v⟩) ⟨b.nn, b.tn, b.nt, b.tt⟩, Way.apart (p := ⟨q.k, q.nm, q.to, u⟩) ⟨c.nn, c.tn, c.nt, c.tt⟩⟩
      | out kp kq hn => exact ⟨_, _, _, _, _, _, .out kp kq hn, .apart b, Way.apart (p := ⟨q.k, p.nm, q.to, q.h⟩) ⟨b.nn, fun h => by simp only at h; omega, b.nt, fun h => by simp only at h; omega⟩⟩
      | into kq kp hn => exact ⟨_, _, _, _, _, _, .into kq kp hn, Way.apart (p := ⟨p.k, q.to, p.to, p.h⟩) ⟨c.tn kq, fun h => by simp only at h; omega, fun hr => c.tt kq hr, fun h => by simp only at h; omega⟩, .apart c⟩
    | both kp kr hn u v h =>
      have a : Apart p q := ⟨by rw [hn]; exact c.nn.symm, fun hk => by omega, fun hk => by rw [hn]; exact (c.tn hk).symm, fun hk => by omega⟩
      exact ⟨_, _, _, _, _, _, .apart a, .both kp kr hn u v h, Way.apart (q := ⟨r.k, r.nm, r.to, u⟩) ⟨c.nn, c.tn, c.nt, c.tt⟩⟩
    | out kp kr hn =>
      cases n with
      | apart a => exact ⟨_, _, _, _, _, _, .apart a, .out kp kr hn, Way.apart (q := ⟨r.k, p.nm, r.to, r.h⟩) ⟨a.nn.symm, fun hk => (a.nt hk).symm, fun h => by simp only at h; omega, fun _ h => by simp only at h; omega⟩⟩
      | both kp' => omega
      | out kp' kq hn' => exact absurd (hn'.trans hn.symm) c.nn
      | into kq kp' => omega
    | into kr kp hn =>
      cases n with
      | apart a =>
        have a' : Apart p q := ⟨by rw [hn]; exact c.nn.symm, fun hk => by omega, fun hk => by rw [hn]; exact (c.tn hk).symm, fun hk => by omega⟩
        exact ⟨_, _, _, _, _, _, .apart a', .into kr kp hn, .apart c⟩
      | both kp' kq hn' => exact absurd hn'.symm (c.nt kr)
      | out kp' => simp only at kp'; omega
      | into kq kp' hn' => exact absurd hn'.symm (c.nt kr)
  | both kq kr hqr u v h =>
    cases m with
    | apart b =>
      have b' : Apart p r := ⟨b.nn, b.tn, b.nt, b.tt⟩
      have a : Apart p q := ⟨by rw [hqr]; exact b.nn, fun hk => by rw [hqr]; exact b.tn hk, fun hk => by omega, fun _ hk => by omega⟩
      exact ⟨_, _, _, _, _, _, .apart a, .apart b', .both kq kr hqr u v h⟩
    | both kp kr' hn u' v' h' =>
      cases n with
      | apart a => exact absurd (hn.trans hqr.symm) a.nn
      | both kp' kq' hn' u4 v4 h4 =>
        obtain ⟨q1, p1, r1, p2, r2, q2, i, j, k⟩ := Sw.passH_cube h h' h4 bp bq br
        exact ⟨_, _, _, _, _, _, .both kp kq hn' q1 p1 i, Way.both (p := ⟨p.k, p.nm, p.to, p1⟩) kp kr hn r1 p2 j, Way.both (p := ⟨q.k, q.nm, q.to, q1⟩) (q := ⟨r.k, r.nm, r.to, r1⟩) kq kr hqr r2 q2 k⟩
      | out kp' => simp only at kp'; omega
      | into kq' => simp only at kq'; omega
    | out kp kr' hn =>
      have hq : q.nm = p.to := hqr.trans hn
      exact ⟨_, _, _, _, _, _, .out kp (.inl kq) hq, .out kp (.inl kr) hn, Way.both (p := ⟨q.k, p.nm, q.to, q.h⟩) (q := ⟨r.k, p.nm, r.to, r.h⟩) kq kr rfl u v h⟩
    | into kr' => simp only at kr'; omega
  | out kq kr hn =>
    cases m with
    | apart b =>
      cases n with
      | apart a =>
        have b' : Apart p r := ⟨by rw [hn]; exact a.nt kq, fun hk => by rw [hn]; exact a.tt hk kq, fun hk => by omega, fun _ hk => by omega⟩
        exact ⟨_, _, _, _, _, _, .apart a, .apart b', .out kq kr hn⟩
      | both kp kq' => omega
      | out kp kq' => omega
      | into kq' kp hn' => exact absurd hn' b.nn
    | both kp kr' hn' u v h =>
      simp only at hn' kr' h
      exact ⟨_, _, _, _, _, _, .into kq (.inl kp) hn', Way.both (p := ⟨p.k, q.to, p.to, p.h⟩) kp kr' hn.symm u v h, Way.out (q := ⟨r.k, r.nm, r.to, u⟩) kq kr hn⟩
    | out kp kr' hn' =>
      cases n with
      | apart a => exact absurd hn'.symm (a.tn kp)
      | both kp' => omega
      | out kp' kq' => omega
      | into kq' kp' => omega
    | into kr' => simp only at kr'; omega
  | into kr kq hn =>
    cases m with
    | apart b =>
      have a : Apart p q := ⟨by rw [hn]; exact b.nn, fun hk => by rw [hn]; exact b.tn hk, fun hk => by omega, fun _ hk => by omega⟩
      exact ⟨_, _, _, _, _, _, .apart a, .apart b, .into kr kq hn⟩
    | both kp kr' => omega
    | out kp kr' => omega
    | into kr' kp hn' =>
      cases n with
      | apart a => exact absurd rfl a.nn
      | both kp' kq' hn'' u v h =>
        have e : p.nm = q.nm := hn'.trans hn.symm
        exact ⟨_, _, _, _, _, _, Way.both (p := p) (q := q) kp' kq' e u v h, Way.into (p := ⟨p.k, p.nm, p.to, v⟩) kr kp hn', Way.into (p := ⟨q.k, q.nm, q.to, u⟩) kr kq hn⟩
      | out kp' => simp only at kp'; omega
      | into kq' => simp only at kq'; omega
/-- How often a change may pass another one still: its place stays within what a hunk may have. -/
def G (n : Nat) (x : Ch) : Prop := x.h.pos + 200 * n ≤ 1048576
theorem G.mono {n m : Nat} {x : Ch} (h : G n x) (hm : m ≤ n) : G m x := by unfold G at h ⊢; omega
theorem way_far {p q x y : Ch} (hp : mayP p = true) (hq : mayP q = true) (w : Way p q x y) : x.h.pos ≤ q.h.pos + 200 ∧ y.h.pos ≤ p.h.pos + 200 := by
  cases w with
  | apart a => constructor <;> omega
  | both kp kq hn u v h =>
    obtain ⟨m1, m2, h3, _⟩ := Sw.passH_may h
    exact Sw.pass_far h3 m1 m2
  | out kp kq hn => constructor <;> first | omega | (dsimp only; omega)
  | into kq kp hn => constructor <;> first | omega | (dsimp only; omega)
theorem passP_G {p q x y : Ch} {a b : Nat} (h : passP p q = some (x, y)) : (G (b + 1) q → G b x) ∧ (G (a + 1) p → G a y) := by
  obtain ⟨hp, hq, w⟩ := passP_way h
  have := way_far hp hq w
  unfold G
  constructor <;> intro _ <;> omega
theorem passP_cube {p q r r3 q3 r4 p3 q4 p4 : Ch} (l : passP q r = some (r3, q3)) (m : passP p r3 = some (r4, p3)) (n : passP p3 q3 = some (q4, p4)) (bp : G 3 p) (bq : G 3 q) (br : G 3 r) :
    ∃ q1 p1 r1, passP p q = some (q1, p1) ∧ passP p1 r = some (r1, p4) ∧ passP q1 r1 = some (r4, q4) := by
  obtain ⟨mq, mr, wl⟩ := passP_way l
  obtain ⟨mp, _, wm⟩ := passP_way m
  unfold G at bp bq br
  obtain ⟨q1, p1, r1, p2, r2, q2, i, j, k⟩ := way_cube wl wm (passP_way n).2.2 (by omega) (by omega) (by omega)
  obtain ⟨mq1, mp1⟩ := way_may mp mq i
  obtain ⟨mr1, mp2⟩ := way_may mp1 mr j
  have i' := passP_of_way mp mq i
  have j' := passP_of_way mp1 mr j
  have k' := passP_of_way mq1 mr1 k
  obtain ⟨e1, e2, e3⟩ := passP_three i' j' k' l m n
  subst e1 e2 e3
  exact ⟨q1, p1, r1, i', j', k'⟩
theorem turn_pos (p : Ch) : (turnP p).h.pos = p.h.pos := by
  by_cases h0 : p.k = 0
  · rw [turnP_0 h0]
  · by_cases h1 : p.k = 1
    · rw [turnP_1 h1]
    · by_cases h2 : p.k = 2
      · rw [turnP_2 h2]
      · rw [turnP_h h0 h1 h2]; rfl
/-- The other way round: the second one passes the first one, then the third one both: then the third one passes the second one as they were. -/
theorem passP_cube2 {p q r q1 p1 r1 p2 r2 q2 : Ch} (i : passP p q = some (q1, p1)) (j : passP p1 r = some (r1, p2)) (k : passP q1 r1 = some (r2, q2)) (bp : G 3 p) (bq : G 3 q) (br : G 3 r) :
    ∃ r3 q3 p3, passP q r = some (r3, q3) ∧ passP p r3 = some (r2, p3) ∧ passP p3 q3 = some (q2, p2) := by
  have gt : ∀ {x : Ch}, G 3 x → G 3 (turnP x) := fun {x} h => by unfold G at h ⊢; rw [turn_pos]; exact h
  obtain ⟨a, b, c, h1, h2, h3⟩ := passP_cube (passP_turn i) (passP_turn j) (passP_turn k) (gt br) (gt bq) (gt bp)
  have g1 := passP_turn h1
  have g2 := passP_turn h2
  have g3 := passP_turn h3
  rw [turnP_turnP, turnP_turnP] at g1
  rw [turnP_turnP, turnP_turnP] at g2
  rw [turnP_turnP, turnP_turnP] at g3
  exact ⟨_, _, _, g1, g2, g3⟩

end Pr
end Go.Proofs.Ytdnkinajbebkoaa

set_option maxRecDepth 100000
namespace Go.Proofs.Ytdnkinajbebkoaa
namespace Fl
open Tx Sq Hk Tr Pr
set_option linter.unusedVariables false

section
variable {α : Type} (P : α → α → Option (α × α)) (L : Nat → α → Prop)

/-- How often each may pass still is told by L. -/
structure Tells : Prop where
  mono : ∀ {n m : Nat} {x : α}, L n x → m ≤ n → L m x
  pass : ∀ {a b : Nat} {p q x y : α}, P p q = some (x, y) → L (a + 1) p → L (b + 1) q → L b x ∧ L a y
variable (hT : Tells P L)
include hT
theorem one_tells : ∀ {a y : List α} {q x : α} {m n : Nat}, one P a q = some (x, y) → (∀ z ∈ a, L (m + 1) z) → L (n + a.length) q → L n x ∧ ∀ z ∈ y, L m z
  | [], y, q, x, m, n, h, ha, hq => by
    injection h with h
    injection h with h1 h2
    subst h1 h2
    exact ⟨hq, fun z hz => by cases hz⟩
  | p :: a, y, q, x, m, n, h, ha, hq => by
    obtain ⟨q1, a1, z, h1, h2, rfl⟩ := one_cons_inv P h
    rw [List.length_cons] at hq
    obtain ⟨i1, i2⟩ := one_tells (n := n + 1) h1 (fun z hz => ha z (.tail _ hz)) (hT.mono hq (by omega))
    obtain ⟨j1, j2⟩ := hT.pass h2 (ha p (.head _)) i1
    exact ⟨j1, fun u hu => by
      rcases List.mem_cons.1 hu with rfl | hu
      · exact j2
      · exact i2 u hu⟩
theorem passL_tells : ∀ {b a x y : List α} {m n : Nat}, passL P a b = some (x, y) → (∀ z ∈ a, L (m + b.length) z) → (∀ z ∈ b, L (n + a.length) z) → (∀ z ∈ x, L n z) ∧ ∀ z ∈ y, L m z
  | [], a, x, y, m, n, h, ha, hb => by
    rw [passL_nil] at h
    injection h with h
    injection h with h1 h2
    subst h1 h2
    exact ⟨(fun z hz => by cases hz), ha⟩
  | q :: b, a, x, y, m, n, h, ha, hb => by
    obtain ⟨q1, a1, b1, h1, h2, rfl⟩ := passL_cons_inv P h
    have hl := one_len P h1
    obtain ⟨i1, i2⟩ := one_tells P L hT (m := m + b.length) h1 (fun z hz => hT.mono (ha z hz) (by rw [List.length_cons]; omega)) (hb q (.head _))
    obtain ⟨j1, j2⟩ := passL_tells (m := m) (n := n) h2 i2 (fun z hz => by rw [hl]; exact hb z (.tail _ hz))
    exact ⟨fun u hu => by
      rcases List.mem_cons.1 hu with rfl | hu
      · exact i1
      · exact j1 u hu, j2⟩

variable (hC : ∀ {p q r r3 q3 r4 p3 q4 p4 : α}, P q r = some (r3, q3) → P p r3 = some (r4, p3) → P p3 q3 = some (q4, p4) → L 3 p → L 3 q → L 3 r → ∃ q1 p1 r1, P p q = some (q1, p1) ∧ P p1 r = some (r1, p4) ∧ P q1 r1 = some (r4, q4))
include hC
theorem cube_one : ∀ {A A3 A4 : List α} {q r r3 q3 r4 q4 : α}, P q r = some (r3, q3) → one P A r3 = some (r4, A3) → one P A3 q3 = some (q4, A4) → (∀ z ∈ A, L (A.length + 2) z) → L (A.length + 2) q → L (A.length + 2) r →
    ∃ q1 A1 r1, one P A q = some (q1, A1) ∧ one P A1 r = some (r1, A4) ∧ P q1 r1 = some (r4, q4)
  | [], A3, A4, q, r, r3, q3, r4, q4, l, m, n, ga, gq, gr => by
    injection m with m
    injection m with m1 m2
    subst m1 m2
    injection n with n
    injection n with n1 n2
    subst n1 n2
    exact ⟨q, [], r, rfl, rfl, l⟩
  | p :: A, A3, A4, q, r, r3, q3, r4, q4, l, m, n, ga, gq, gr => by
    obtain ⟨ra, Aa, p3, m1, m2, rfl⟩ := one_cons_inv P m
    obtain ⟨qa, Ab, p4, n1, n2, rfl⟩ := one_cons_inv P n
    rw [List.length_cons] at ga gq gr
    obtain ⟨qb, Aq, rb, h1, h2, h3⟩ := cube_one l m1 n1 (fun z hz => hT.mono (ga z (.tail _ hz)) (by omega)) (hT.mono gq (by omega)) (hT.mono gr (by omega))
    have hl := one_len P h1
    have g1 := (one_tells P L hT (m := A.length + 2) (n := 3) h1 (fun z hz => hT.mono (ga z (.tail _ hz)) (by omega)) (hT.mono gq (by omega)))
    have g2 := (one_tells P L hT (m := 0) (n := 3) h2 (fun z hz => hT.mono (g1.2 z hz) (by omega)) (hT.mono gr (by omega))).1
    obtain ⟨q1, p1, r1, k1, k2, k3⟩ := hC h3 m2 n2 (hT.mono (ga p (.head _)) (by omega)) g1.1 g2
    exact ⟨q1, p1 :: Aq, r1, one_cons P h1 k1, one_cons P h2 k2, k3⟩
theorem cube_two : ∀ {B A B3 A3 B4 A4 : List α} {r r3 r4 : α}, one P B r = some (r3, B3) → one P A r3 = some (r4, A3) → passL P A3 B3 = some (B4, A4) → (∀ z ∈ A, L (A.length + B.length + 1) z) → (∀ z ∈ B, L (A.length + B.length + 1) z) → L (A.length + B.length + 1) r →
    ∃ B1 A1 r1, passL P A B = some (B1, A1) ∧ one P A1 r = some (r1, A4) ∧ one P B1 r1 = some (r4, B4)
  | [], A, B3, A3, B4, A4, r, r3, r4, l, m, n, ga, gb, gr => by
    injection l with l
    injection l with l1 l2
    subst l1 l2
    rw [passL_nil] at n
    injection n with n
    injection n with n1 n2
    subst n1 n2
    exact ⟨[], A, r4, passL_nil P A, m, rfl⟩
  | q :: B, A, B3, A3, B4, A4, r, r3, r4, l, m, n, ga, gb, gr => by
    obtain ⟨ra, Ba, q3, l1, l2, rfl⟩ := one_cons_inv P l
    obtain ⟨q4, Ab, Bb, n1, n2, rfl⟩ := passL_cons_inv P n
    rw [List.length_cons] at ga gb gr
    have g1 := (one_tells P L hT (m := 0) (n := A.length + 2) l1 (fun z hz => hT.mono (gb z (.tail _ hz)) (by omega)) (hT.mono gr (by omega))).1
    obtain ⟨q1, Aq, rb, h1, h2, h3⟩ := cube_one P L hT hC l2 m n1 (fun z hz => hT.mono (ga z hz) (by omega)) (hT.mono (gb q (.head _)) (by omega)) g1
    have hl := one_len P h1
    have g2 := (one_tells P L hT (m := A.length + B.length + 1) (n := 0) h1 (fun z hz => hT.mono (ga z hz) (by omega)) (hT.mono (gb q (.head _)) (by omega))).2
    obtain ⟨B1, A1, r1, k1, k2, k3⟩ := cube_two l1 h2 n2 (fun z hz => by rw [hl]; exact g2 z hz) (fun z hz => by rw [hl]; exact hT.mono (gb z (.tail _ hz)) (by omega)) (by rw [hl]; exact hT.mono gr (by omega))
    exact ⟨q1 :: B1, A1, r1, passL_cons P h1 k1, k2, one_cons P k3 h3⟩
theorem cube_three : ∀ {C A B C3 B3 C4 A3 B4 A4 : List α}, passL P B C = some (C3, B3) → passL P A C3 = some (C4, A3) → passL P A3 B3 = some (B4, A4) → (∀ z ∈ A, L (A.length + B.length + C.length) z) → (∀ z ∈ B, L (A.length + B.length + C.length) z) → (∀ z ∈ C, L (A.length + B.length + C.length) z) →
    ∃ B1 A1 C1, passL P A B = some (B1, A1) ∧ passL P A1 C = some (C1, A4) ∧ passL P B1 C1 = some (C4, B4)
  | [], A, B, C3, B3, C4, A3, B4, A4, l, m, n, ga, gb, gc => by
    rw [passL_nil] at l
    injection l with l
    injection l with l1 l2
    subst l1 l2
    rw [passL_nil] at m
    injection m with m
    injection m with m1 m2
    subst m1 m2
    exact ⟨B4, A4, [], n, passL_nil P _, passL_nil P _⟩
  | r :: C, A, B, C3, B3, C4, A3, B4, A4, l, m, n, ga, gb, gc => by
    obtain ⟨r3, Ba, Ca, l1, l2, rfl⟩ := passL_cons_inv P l
    obtain ⟨r4, Aa, Cb, m1, m2, rfl⟩ := passL_cons_inv P m
    rw [List.length_cons] at ga gb gc
    have e1 := one_len P l1
    have e2 := one_len P m1
    have g1 := one_tells P L hT (m := A.length + B.length + C.length) (n := A.length) l1 (fun z hz => hT.mono (gb z hz) (by omega)) (hT.mono (gc r (.head _)) (by omega))
    have g2 := (one_tells P L hT (m := A.length + B.length + C.length) (n := 0) m1 (fun z hz => hT.mono (ga z hz) (by omega)) (hT.mono g1.1 (by omega))).2
    obtain ⟨Bx, Ax, Cx, h1, h2, h3⟩ := cube_three l2 m2 n (fun z hz => by rw [e1, e2]; exact g2 z hz) (fun z hz => by rw [e1, e2]; exact g1.2 z hz) (fun z hz => by rw [e1, e2]; exact hT.mono (gc z (.tail _ hz)) (by omega))
    obtain ⟨B1, A1, r1, k1, k2, k3⟩ := cube_two P L hT hC l1 m1 h1 (fun z hz => hT.mono (ga z hz) (by omega)) (fun z hz => hT.mono (gb z hz) (by omega)) (hT.mono (gc r (.head _)) (by omega))
    exact ⟨B1, A1, r1 :: Cx, k1, passL_cons P k2 h2, passL_cons P k3 h3⟩
omit hC
variable (hC2 : ∀ {p q r q1 p1 r1 p2 r2 q2 : α}, P p q = some (q1, p1) → P p1 r = some (r1, p2) → P q1 r1 = some (r2, q2) → L 3 p → L 3 q → L 3 r → ∃ r3 q3 p3, P q r = some (r3, q3) ∧ P p r3 = some (r2, p3) ∧ P p3 q3 = some (q2, p2))
include hC2
theorem cube2_one : ∀ {A A1 A2 : List α} {q r q1 r1 r2 q2 : α}, one P A q = some (q1, A1) → one P A1 r = some (r1, A2) → P q1 r1 = some (r2, q2) → (∀ z ∈ A, L (A.length + 2) z) → L (A.length + 2) q → L (A.length + 2) r →
    ∃ r3 q3 A3, P q r = some (r3, q3) ∧ one P A r3 = some (r2, A3) ∧ one P A3 q3 = some (q2, A2)
  | [], A1, A2, q, r, q1, r1, r2, q2, i, j, k, ga, gq, gr => by
    injection i with i
    injection i with i1 i2
    subst i1 i2
    injection j with j
    injection j with j1 j2
    subst j1 j2
    exact ⟨r2, q2, [], k, rfl, rfl⟩
  | p :: A, A1, A2, q, r, q1, r1, r2, q2, i, j, k, ga, gq, gr => by
    obtain ⟨qb, Aq, p1, i1, i2, rfl⟩ := one_cons_inv P i
    obtain ⟨rb, Ab, p2, j1, j2, rfl⟩ := one_cons_inv P j
    rw [List.length_cons] at ga gq gr
    have hl := one_len P i1
    have g1 := (one_tells P L hT (m := A.length + 2) (n := 3) i1 (fun z hz => hT.mono (ga z (.tail _ hz)) (by omega)) (hT.mono gq (by omega)))
    have g2 := (one_tells P L hT (m := 0) (n := 3) j1 (fun z hz => hT.mono (g1.2 z hz) (by omega)) (hT.mono gr (by omega))).1
    obtain ⟨ra, qa, p3, k1, k2, k3⟩ := hC2 i2 j2 k (hT.mono (ga p (.head _)) (by omega)) g1.1 g2
    obtain ⟨r3, q3, Aa, h1, h2, h3⟩ := cube2_one i1 j1 k1 (fun z hz => hT.mono (ga z (.tail _ hz)) (by omega)) (hT.mono gq (by omega)) (hT.mono gr (by omega))
    exact ⟨r3, q3, p3 :: Aa, h1, one_cons P h2 k2, one_cons P h3 k3⟩
theorem cube2_two : ∀ {B A B1 A1 B2 A2 : List α} {r r1 r2 : α}, passL P A B = some (B1, A1) → one P A1 r = some (r1, A2) → one P B1 r1 = some (r2, B2) → (∀ z ∈ A, L (A.length + B.length + 1) z) → (∀ z ∈ B, L (A.length + B.length + 1) z) → L (A.length + B.length + 1) r →
    ∃ r3 B3 A3, one P B r = some (r3, B3) ∧ one P A r3 = some (r2, A3) ∧ passL P A3 B3 = some (B2, A2)
  | [], A, B1, A1, B2, A2, r, r1, r2, i, j, k, ga, gb, gr => by
    rw [passL_nil] at i
    injection i with i
    injection i with i1 i2
    subst i1 i2
    injection k with k
    injection k with k1 k2
    subst k1 k2
    exact ⟨r, [], A2, rfl, j, passL_nil P _⟩
  | q :: B, A, B1, A1, B2, A2, r, r1, r2, i, j, k, ga, gb, gr => by
    obtain ⟨q1, Aq, Bb, i1, i2, rfl⟩ := passL_cons_inv P i
    obtain ⟨rb, Bc, q2, k1, k2, rfl⟩ := one_cons_inv P k
    rw [List.length_cons] at ga gb gr
    have hl := one_len P i1
    have g2 := (one_tells P L hT (m := A.length + B.length + 1) (n := 0) i1 (fun z hz => hT.mono (ga z hz) (by omega)) (hT.mono (gb q (.head _)) (by omega))).2
    obtain ⟨ra, Ba, Ax, h1, h2, h3⟩ := cube2_two i2 j k1 (fun z hz => by rw [hl]; exact g2 z hz) (fun z hz => by rw [hl]; exact hT.mono (gb z (.tail _ hz)) (by omega)) (by rw [hl]; exact hT.mono gr (by omega))
    have g1 := (one_tells P L hT (m := 0) (n := A.length + 2) h1 (fun z hz => hT.mono (gb z (.tail _ hz)) (by omega)) (hT.mono gr (by omega))).1
    obtain ⟨r3, q3, A3, e1, e2, e3⟩ := cube2_one P L hT hC2 i1 h2 k2 (fun z hz => hT.mono (ga z hz) (by omega)) (hT.mono (gb q (.head _)) (by omega)) g1
    exact ⟨r3, q3 :: Ba, A3, one_cons P h1 e1, e2, passL_cons P e3 h3⟩
theorem cube2_three : ∀ {C A B B1 A1 C1 A2 C2 B2 : List α}, passL P A B = some (B1, A1) → passL P A1 C = some (C1, A2) → passL P B1 C1 = some (C2, B2) → (∀ z ∈ A, L (A.length + B.length + C.length) z) → (∀ z ∈ B, L (A.length + B.length + C.length) z) → (∀ z ∈ C, L (A.length + B.length + C.length) z) →
    ∃ C3 B3 A3, passL P B C = some (C3, B3) ∧ passL P A C3 = some (C2, A3) ∧ passL P A3 B3 = some (B2, A2)
  | [], A, B, B1, A1, C1, A2, C2, B2, i, j, k, ga, gb, gc => by
    rw [passL_nil] at j
    injection j with j
    injection j with j1 j2
    subst j1 j2
    rw [passL_nil] at k
    injection k with k
    injection k with k1 k2
    subst k1 k2
    exact ⟨[], B, A, passL_nil P _, passL_nil P _, i⟩
  | r :: C, A, B, B1, A1, C1, A2, C2, B2, i, j, k, ga, gb, gc => by
    obtain ⟨r1, Ax, Cx, j1, j2, rfl⟩ := passL_cons_inv P j
    obtain ⟨r2, Bx, Cy, k1, k2, rfl⟩ := passL_cons_inv P k
    rw [List.length_cons] at ga gb gc
    obtain ⟨r3, Ba, Aa, h1, h2, h3⟩ := cube2_two P L hT hC2 i j1 k1 (fun z hz => hT.mono (ga z hz) (by omega)) (fun z hz => hT.mono (gb z hz) (by omega)) (hT.mono (gc r (.head _)) (by omega))
    have e1 := one_len P h1
    have e2 := one_len P h2
    have g1 := one_tells P L hT (m := A.length + B.length + C.length) (n := A.length) h1 (fun z hz => hT.mono (gb z hz) (by omega)) (hT.mono (gc r (.head _)) (by omega))
    have g2 := (one_tells P L hT (m := A.length + B.length + C.length) (n := 0) h2 (fun z hz => hT.mono (ga z hz) (by omega)) (hT.mono g1.1 (by omega))).2
    obtain ⟨C3, B3, A3, c1, c2, c3⟩ := cube2_three h3 j2 k2 (fun z hz => by rw [e1, e2]; exact g2 z hz) (fun z hz => by rw [e1, e2]; exact g1.2 z hz) (fun z hz => by rw [e1, e2]; exact hT.mono (gc z (.tail _ hz)) (by omega))
    exact ⟨r3 :: C3, B3, A3, passL_cons P h1 c1, passL_cons P h2 c2, c3⟩
end

theorem tellsP : Tells passP G := ⟨fun h hm => h.mono hm, fun h hp hq => ⟨(passP_G (a := 0) h).1 hq, (passP_G (b := 0) h).2 hp⟩⟩
/-- Of changes. -/
theorem passF_cube {A B C C3 B3 C4 A3 B4 A4 : List Ch} (l : passF B C = some (C3, B3)) (m : passF A C3 = some (C4, A3)) (n : passF A3 B3 = some (B4, A4)) (ga : ∀ z ∈ A, G (A.length + B.length + C.length) z) (gb : ∀ z ∈ B, G (A.length + B.length + C.length) z) (gc : ∀ z ∈ C, G (A.length + B.length + C.length) z) :
    ∃ B1 A1 C1, passF A B = some (B1, A1) ∧ passF A1 C = some (C1, A4) ∧ passF B1 C1 = some (C4, B4) :=
  cube_three passP G tellsP (fun l m n bp bq br => passP_cube l m n bp bq br) l m n ga gb gc
theorem passF_cube2 {A B C B1 A1 C1 A2 C2 B2 : List Ch} (i : passF A B = some (B1, A1)) (j : passF A1 C = some (C1, A2)) (k : passF B1 C1 = some (C2, B2)) (ga : ∀ z ∈ A, G (A.length + B.length + C.length) z) (gb : ∀ z ∈ B, G (A.length + B.length + C.length) z) (gc : ∀ z ∈ C, G (A.length + B.length + C.length) z) :
    ∃ C3 B3 A3, passF B C = some (C3, B3) ∧ passF A C3 = some (C2, A3) ∧ passF A3 B3 = some (B2, A2) :=
  cube2_three passP G tellsP (fun i j k bp bq br => passP_cube2 i j k bp bq br) i j k ga gb gc

end Fl
end Go.Proofs.Ytdnkinajbebkoaa

set_option maxRecDepth 100000
namespace Go.Proofs.Ytdnkinajbebkoaa
namespace Pn
open Tx Sq Hk Tr Pr Fl
set_option linter.unusedVariables false

/-- How often a patch may pass another one still: it has at most ten changes, and each may pass ten times as many. -/
def GN (n : Nat) (p : Nm) : Prop := p.l.length ≤ 10 ∧ ∀ z ∈ p.l, G (10 * n) z
/-- Light patches. -/
theorem gn_light {p : Nm} (hl : p.l.length ≤ 10) (hp : ∀ z ∈ p.l, z.h.pos ≤ 524288) : GN 18 p := ⟨hl, fun z hz => by have := hp z hz; unfold G; omega⟩
theorem passN_some {p q : Nm} {x y : List Ch} (hd : p.id ∉ q.deps) (h : passF p.l q.l = some (x, y)) : passN p q = some (⟨q.id, q.deps, q.txt, x⟩, ⟨p.id, p.deps, p.txt, y⟩) := by
  unfold passN
  rw [if_neg hd, h]
  rfl
theorem tellsN : Tells passN GN where
  mono := fun {n m x} h hm => ⟨h.1, fun z hz => (h.2 z hz).mono (by omega)⟩
  pass := fun {a b p q x y} h hp hq => by
    obtain ⟨_, hf, _, _⟩ := passN_inv h
    obtain ⟨l1, l2⟩ := passL_len passP hf
    have ha := hp.1
    have hb := hq.1
    obtain ⟨i1, i2⟩ := passL_tells passP G tellsP (m := 10 * a) (n := 10 * b) hf (fun z hz => (hp.2 z hz).mono (by omega)) (fun z hz => (hq.2 z hz).mono (by omega))
    exact ⟨⟨by omega, i1⟩, by omega, i2⟩
theorem passN_cube {p q r r3 q3 r4 p3 q4 p4 : Nm} (l : passN q r = some (r3, q3)) (m : passN p r3 = some (r4, p3)) (n : passN p3 q3 = some (q4, p4)) (gp : GN 3 p) (gq : GN 3 q) (gr : GN 3 r) :
    ∃ q1 p1 r1, passN p q = some (q1, p1) ∧ passN p1 r = some (r1, p4) ∧ passN q1 r1 = some (r4, q4) := by
  obtain ⟨l1, l2, ⟨l3, l4, l5⟩, l6, l7, l8⟩ := passN_inv l
  obtain ⟨m1, m2, ⟨m3, m4, m5⟩, m6, m7, m8⟩ := passN_inv m
  obtain ⟨n1, n2, ⟨n3, n4, n5⟩, n6, n7, n8⟩ := passN_inv n
  have a1 := gp.1; have a2 := gq.1; have a3 := gr.1
  obtain ⟨B1, A1, C1, i, j, k⟩ := passF_cube l2 m2 n2 (fun z hz => (gp.2 z hz).mono (by omega)) (fun z hz => (gq.2 z hz).mono (by omega)) (fun z hz => (gr.2 z hz).mono (by omega))
  refine ⟨⟨q.id, q.deps, q.txt, B1⟩, ⟨p.id, p.deps, p.txt, A1⟩, ⟨r.id, r.deps, r.txt, C1⟩, passN_some (by rw [← m6, ← l7]; exact n1) i, ?_, ?_⟩
  · rw [passN_some (p := ⟨p.id, p.deps, p.txt, A1⟩) (by rw [← l4]; exact m1) j]
    exact congrArg some (Prod.ext rfl (nm_ext (n6.trans m6).symm (n7.trans m7).symm (n8.trans m8).symm rfl))
  · rw [passN_some (p := ⟨q.id, q.deps, q.txt, B1⟩) (q := ⟨r.id, r.deps, r.txt, C1⟩) l1 k]
    exact congrArg some (Prod.ext (nm_ext (m3.trans l3).symm (m4.trans l4).symm (m5.trans l5).symm rfl) (nm_ext (n3.trans l6).symm (n4.trans l7).symm (n5.trans l8).symm rfl))
theorem passN_cube2 {p q r q1 p1 r1 p2 r2 q2 : Nm} (i : passN p q = some (q1, p1)) (j : passN p1 r = some (r1, p2)) (k : passN q1 r1 = some (r2, q2)) (gp : GN 3 p) (gq : GN 3 q) (gr : GN 3 r) :
    ∃ r3 q3 p3, passN q r = some (r3, q3) ∧ passN p r3 = some (r2, p3) ∧ passN p3 q3 = some (q2, p2) := by
  obtain ⟨i1, i2, ⟨i3, i4, i5⟩, i6, i7, i8⟩ := passN_inv i
  obtain ⟨j1, j2, ⟨j3, j4, j5⟩, j6, j7, j8⟩ := passN_inv j
  obtain ⟨k1, k2, ⟨k3, k4, k5⟩, k6, k7, k8⟩ := passN_inv k
  have a1 := gp.1; have a2 := gq.1; have a3 := gr.1
  obtain ⟨C3, B3, A3, l, m, n⟩ := passF_cube2 i2 j2 k2 (fun z hz => (gp.2 z hz).mono (by omega)) (fun z hz => (gq.2 z hz).mono (by omega)) (fun z hz => (gr.2 z hz).mono (by omega))
  refine ⟨⟨r.id, r.deps, r.txt, C3⟩, ⟨q.id, q.deps, q.txt, B3⟩, ⟨p.id, p.deps, p.txt, A3⟩, passN_some (by rw [← i3, ← j4]; exact k1) l, ?_, ?_⟩
  · rw [passN_some (p := p) (q := ⟨r.id, r.deps, r.txt, C3⟩) (by rw [← i6]; exact j1) m]
    exact congrArg some (Prod.ext (nm_ext (k3.trans j3).symm (k4.trans j4).symm (k5.trans j5).symm rfl) rfl)
  · rw [passN_some (p := ⟨p.id, p.deps, p.txt, A3⟩) (q := ⟨q.id, q.deps, q.txt, B3⟩) i1 n]
    exact congrArg some (Prod.ext (nm_ext (k6.trans i3).symm (k7.trans i4).symm (k8.trans i5).symm rfl) (nm_ext (j6.trans i6).symm (j7.trans i7).symm (j8.trans i8).symm rfl))
/-- One that passes a list behind which it stood, and another one behind it, that passed it: see cube_one. -/
theorem overN_cube {A A3 A4 : List Nm} {q r r3 q3 r4 q4 : Nm} (l : passN q r = some (r3, q3)) (m : overN A r3 = some (r4, A3)) (n : overN A3 q3 = some (q4, A4)) (ga : ∀ z ∈ A, GN (A.length + 2) z) (gq : GN (A.length + 2) q) (gr : GN (A.length + 2) r) :
    ∃ q1 A1 r1, overN A q = some (q1, A1) ∧ overN A1 r = some (r1, A4) ∧ passN q1 r1 = some (r4, q4) :=
  cube_one passN GN tellsN (fun l m n bp bq br => passN_cube l m n bp bq br) l m n ga gq gr

end Pn
end Go.Proofs.Ytdnkinajbebkoaa

set_option maxRecDepth 100000
namespace Go.Proofs.Ytdnkinajbebkoaa
namespace Bb
open Tx Sq Hk Tr Pr Fl Pn
set_option linter.unusedVariables false

/-- Of a list, from the first one on: what stays, and what is put behind. -/
def partG (ids : List Id_) : List Nm → List Nm → List Nm → List Nm × List Nm
  | [], s, g => (s, g)
  | p :: l, s, g => if p.id ∈ ids then partG ids l s (g ++ [p]) else match overN g p with
    | none => partG ids l s (g ++ [p])
    | some z => partG ids l (s ++ [z.1]) z.2
def partN (l : List Nm) (ids : List Id_) : List Nm × List Nm := partG ids l [] []
/-- One that goes behind a list that stood behind it. -/
abbrev underN (p : Nm) (l : List Nm) : Option (List Nm × List Nm) := passL passN [p] l
/-- Of a list, from the last one on: what is picked, and the rest. -/
def pickN (ids : List Id_) : List Nm → List Nm × List Nm
  | [] => ([], [])
  | p :: l => if p.id ∈ ids then (p :: (pickN ids l).1, (pickN ids l).2) else match underN p (pickN ids l).1 with
    | none => (p :: (pickN ids l).1, (pickN ids l).2)
    | some z => (z.1, z.2 ++ (pickN ids l).2)
def idsN (l : List Nm) : List Id_ := l.map (·.id)

section
variable {ids : List Id_} {p : Nm} {l s g : List Nm}
theorem partG_in (h : p.id ∈ ids) : partG ids (p :: l) s g = partG ids l s (g ++ [p]) := by rw [partG, if_pos h]
theorem partG_no (h : overN g p = none) : partG ids (p :: l) s g = partG ids l s (g ++ [p]) := by
  rw [partG]
  split
  · rfl
  · rw [h]
theorem partG_over {z : Nm × List Nm} (hi : p.id ∉ ids) (h : overN g p = some z) : partG ids (p :: l) s g = partG ids l (s ++ [z.1]) z.2 := by rw [partG, if_neg hi, h]
/-- One is put behind, or passes. -/
theorem partG_cases : (partG ids (p :: l) s g = partG ids l s (g ++ [p]) ∧ (p.id ∈ ids ∨ overN g p = none)) ∨ ∃ x g', p.id ∉ ids ∧ overN g p = some (x, g') ∧ partG ids (p :: l) s g = partG ids l (s ++ [x]) g' := by
  by_cases hi : p.id ∈ ids
  · exact .inl ⟨partG_in hi, .inl hi⟩
  · cases h : overN g p with
    | none => exact .inl ⟨partG_no h, .inr rfl⟩
    | some z => exact .inr ⟨z.1, z.2, hi, rfl, partG_over hi h⟩
theorem pickN_cases : (pickN ids (p :: l) = (p :: (pickN ids l).1, (pickN ids l).2) ∧ (p.id ∈ ids ∨ underN p (pickN ids l).1 = none)) ∨ ∃ k' r', p.id ∉ ids ∧ underN p (pickN ids l).1 = some (k', r') ∧ pickN ids (p :: l) = (k', r' ++ (pickN ids l).2) := by
  by_cases hi : p.id ∈ ids
  · exact .inl ⟨by rw [pickN, if_pos hi], .inl hi⟩
  · cases h : underN p (pickN ids l).1 with
    | none => exact .inl ⟨by rw [pickN, if_neg hi, h], .inr rfl⟩
    | some z => exact .inr ⟨z.1, z.2, hi, rfl, by rw [pickN, if_neg hi, h]⟩
end

theorem one_ids : ∀ {a y : List Nm} {q x : Nm}, overN a q = some (x, y) → x.id = q.id ∧ idsN y = idsN a
  | [], y, q, x, h => by
    injection h with h
    injection h with h1 h2
    subst h1 h2
    exact ⟨rfl, rfl⟩
  | p :: a, y, q, x, h => by
    obtain ⟨q1, a1, z, h1, h2, rfl⟩ := one_cons_inv passN h
    obtain ⟨i1, i2⟩ := one_ids h1
    obtain ⟨⟨j1, _⟩, j2, _⟩ := passN_keeps h2
    exact ⟨j1.trans i1, by unfold idsN at i2 ⊢; rw [List.map_cons, List.map_cons, i2, j2]⟩
theorem passL_ids : ∀ {b a x y : List Nm}, passL passN a b = some (x, y) → idsN x = idsN b ∧ idsN y = idsN a
  | [], a, x, y, h => by
    rw [passL_nil] at h
    injection h with h
    injection h with h1 h2
    subst h1 h2
    exact ⟨rfl, rfl⟩
  | q :: b, a, x, y, h => by
    obtain ⟨q1, a1, b1, h1, h2, rfl⟩ := passL_cons_inv passN h
    obtain ⟨i1, i2⟩ := one_ids h1
    obtain ⟨j1, j2⟩ := passL_ids h2
    exact ⟨by unfold idsN at j1 ⊢; rw [List.map_cons, List.map_cons, i1, j1], j2.trans i2⟩
theorem idsN_app (a b : List Nm) : idsN (a ++ b) = idsN a ++ idsN b := List.map_append
theorem part_perm {ids : List Id_} : ∀ {l s g : List Nm}, (idsN (partG ids l s g).1 ++ idsN (partG ids l s g).2).Perm (idsN s ++ (idsN g ++ idsN l))
  | [], s, g => by
    show (idsN s ++ idsN g).Perm (idsN s ++ (idsN g ++ []))
    rw [List.append_nil]
  | p :: l, s, g => by
    rcases partG_cases (ids := ids) (p := p) (l := l) (s := s) (g := g) with ⟨e, _⟩ | ⟨x, g', _, h, e⟩
    · rw [e]
      have := part_perm (ids := ids) (l := l) (s := s) (g := g ++ [p])
      rw [idsN_app, List.append_assoc] at this
      exact this
    · rw [e]
      have := part_perm (ids := ids) (l := l) (s := s ++ [x]) (g := g')
      obtain ⟨i1, i2⟩ := one_ids h
      rw [idsN_app, i2, List.append_assoc] at this
      refine this.trans (List.Perm.append_left _ ?_)
      show ([x.id] ++ (idsN g ++ idsN l)).Perm (idsN g ++ (p.id :: idsN l))
      rw [i1]
      exact (List.perm_middle (a := p.id) (l₁ := idsN g) (l₂ := idsN l)).symm
theorem pick_perm {ids : List Id_} : ∀ {l : List Nm}, (idsN (pickN ids l).1 ++ idsN (pickN ids l).2).Perm (idsN l)
  | [] => List.Perm.refl _
  | p :: l => by
    have ih := pick_perm (ids := ids) (l := l)
    rcases pickN_cases (ids := ids) (p := p) (l := l) with ⟨e, _⟩ | ⟨k', r', _, h, e⟩
    · rw [e]
      exact ih.cons p.id
    · rw [e]
      obtain ⟨i1, i2⟩ := passL_ids h
      dsimp only
      rw [idsN_app, i1, i2]
      show (idsN (pickN ids l).1 ++ (p.id :: idsN (pickN ids l).2)).Perm (p.id :: idsN l)
      exact List.perm_middle.trans (ih.cons p.id)
theorem part_len (l : List Nm) (ids : List Id_) : (partN l ids).1.length + (partN l ids).2.length = l.length := by
  have := (part_perm (ids := ids) (l := l) (s := []) (g := [])).length_eq
  unfold idsN at this
  simpa [partN] using this
theorem pick_len (l : List Nm) (ids : List Id_) : (pickN ids l).1.length + (pickN ids l).2.length = l.length := by
  have := (pick_perm (ids := ids) (l := l)).length_eq
  unfold idsN at this
  simpa using this
/-- What is put behind stays behind. -/
theorem part_behind {ids : List Id_} : ∀ {l s g : List Nm} {i : Id_}, i ∈ idsN g → i ∈ idsN (partG ids l s g).2
  | [], s, g, i, h => h
  | p :: l, s, g, i, h => by
    rcases partG_cases (ids := ids) (p := p) (l := l) (s := s) (g := g) with ⟨e, _⟩ | ⟨x, g', _, h1, e⟩
    · rw [e]
      exact part_behind (by rw [idsN_app]; exact List.mem_append_left _ h)
    · rw [e]
      exact part_behind (by rw [(one_ids h1).2]; exact h)
/-- What stays stays. -/
theorem part_ahead {ids : List Id_} : ∀ {l s g : List Nm} {i : Id_}, i ∈ idsN s → i ∈ idsN (partG ids l s g).1
  | [], s, g, i, h => h
  | p :: l, s, g, i, h => by
    rcases partG_cases (ids := ids) (p := p) (l := l) (s := s) (g := g) with ⟨e, _⟩ | ⟨x, g', _, h1, e⟩
    · rw [e]
      exact part_ahead h
    · rw [e]
      exact part_ahead (by rw [idsN_app]; exact List.mem_append_left _ h)
theorem part_in {ids : List Id_} : ∀ {l s g : List Nm} {i : Id_}, i ∈ idsN l → i ∈ ids → i ∈ idsN (partG ids l s g).2
  | [], s, g, i, h, _ => by cases h
  | p :: l, s, g, i, h, hi => by
    by_cases hp : p.id = i
    · subst hp
      rw [partG_in hi]
      exact part_behind (by rw [idsN_app]; exact List.mem_append_right _ (.head _))
    · have h' : i ∈ idsN l := by
        rcases List.mem_cons.1 (show i ∈ p.id :: idsN l from h) with h | h
        · exact absurd h.symm hp
        · exact h
      rcases partG_cases (ids := ids) (p := p) (l := l) (s := s) (g := g) with ⟨e, _⟩ | ⟨x, g', _, h1, e⟩
      · rw [e]; exact part_in h' hi
      · rw [e]; exact part_in h' hi
theorem pick_in {ids : List Id_} : ∀ {l : List Nm} {i : Id_}, i ∈ idsN l → i ∈ ids → i ∈ idsN (pickN ids l).1
  | [], i, h, _ => by cases h
  | p :: l, i, h, hi => by
    by_cases hp : p.id = i
    · subst hp
      rcases pickN_cases (ids := ids) (p := p) (l := l) with ⟨e, _⟩ | ⟨k', r', h1, _⟩
      · rw [e]; exact .head _
      · exact absurd hi h1
    · have h' : i ∈ idsN l := by
        rcases List.mem_cons.1 (show i ∈ p.id :: idsN l from h) with h | h
        · exact absurd h.symm hp
        · exact h
      have ih := pick_in h' hi
      rcases pickN_cases (ids := ids) (p := p) (l := l) with ⟨e, _⟩ | ⟨k', r', _, h1, e⟩
      · rw [e]; exact .tail _ ih
      · rw [e]
        show i ∈ idsN k'
        rw [(passL_ids h1).1]; exact ih
/-- Of ids that are not there nothing is put behind, or picked. -/
theorem part_none {ids : List Id_} : ∀ {l s : List Nm}, (∀ p ∈ l, p.id ∉ ids) → partG ids l s [] = (s ++ l, [])
  | [], s, _ => by rw [List.append_nil]; rfl
  | p :: l, s, h => by
    rw [partG_over (z := (p, [])) (h p (.head _)) rfl, part_none fun q hq => h q (.tail _ hq)]
    dsimp only
    rw [List.append_assoc]
    rfl
theorem pick_none {ids : List Id_} : ∀ {l : List Nm}, (∀ p ∈ l, p.id ∉ ids) → pickN ids l = ([], l)
  | [], _ => rfl
  | p :: l, h => by
    have ih := pick_none fun q hq => h q (.tail _ hq)
    have hp := h p (.head _)
    rw [pickN, if_neg hp, ih]
    rfl
/-- None that stays is of the ids. -/
theorem part_stay {ids : List Id_} : ∀ {l s g : List Nm}, (∀ p ∈ s, p.id ∉ ids) → ∀ p ∈ (partG ids l s g).1, p.id ∉ ids
  | [], s, g, h => h
  | p :: l, s, g, h => by
    rcases partG_cases (ids := ids) (p := p) (l := l) (s := s) (g := g) with ⟨e, _⟩ | ⟨x, g', hi, h1, e⟩
    · rw [e]; exact part_stay h
    · rw [e]
      refine part_stay fun q hq => ?_
      rcases List.mem_append.1 hq with hq | hq
      · exact h q hq
      · have : q = x := by simpa using hq
        rw [this, (one_ids h1).1]
        exact hi
theorem part_stays (l : List Nm) (ids : List Id_) : partN (partN l ids).1 ids = ((partN l ids).1, []) := by
  have h := part_none (ids := ids) (s := []) (part_stay (ids := ids) (l := l) (s := []) (g := []) fun p hp => by cases hp)
  rw [List.nil_append] at h
  exact h
/-- By the ids of what was put behind the same is. -/
theorem part_again {ids : List Id_} : ∀ {l s g : List Nm}, (idsN s ++ (idsN g ++ idsN l)).Nodup → partG (idsN (partG ids l s g).2) l s g = partG ids l s g
  | [], s, g, _ => rfl
  | p :: l, s, g, hn => by
    rcases partG_cases (ids := ids) (p := p) (l := l) (s := s) (g := g) with ⟨e, _⟩ | ⟨x, g', hi, h1, e⟩
    · rw [e]
      have hp : p.id ∈ idsN (partG ids l s (g ++ [p])).2 := part_behind (by rw [idsN_app]; exact List.mem_append_right _ (.head _))
      rw [partG_in hp]
      refine part_again ?_
      rw [idsN_app, List.append_assoc]
      exact hn
    · rw [e]
      obtain ⟨i1, i2⟩ := one_ids h1
      have hn' : (idsN (s ++ [x]) ++ (idsN g' ++ idsN l)).Nodup := by
        rw [idsN_app, i2, List.append_assoc]
        refine (List.Perm.nodup_iff (List.Perm.append_left _ ?_)).1 hn
        show (idsN g ++ (p.id :: idsN l)).Perm ([x.id] ++ (idsN g ++ idsN l))
        rw [i1]
        exact List.perm_middle
      have hx : p.id ∉ idsN (partG ids l (s ++ [x]) g').2 := fun hx => by
        have h2 : p.id ∈ idsN (partG ids l (s ++ [x]) g').1 := part_ahead (by rw [idsN_app, ← i1]; exact List.mem_append_right _ (.head _))
        have h3 := (List.Perm.nodup_iff (part_perm (ids := ids) (l := l) (s := s ++ [x]) (g := g'))).2 hn'
        exact (List.nodup_append.1 h3).2.2 _ h2 _ hx rfl
      rw [partG_over hx h1]
      exact part_again hn'

def Hangs (ids : List Id_) (g : List Nm) : Prop := ∀ A b C, g = A ++ b :: C → b.id ∈ ids ∨ overN A b = none
theorem hangs_put {ids : List Id_} {g : List Nm} {p : Nm} (h : Hangs ids g) (hp : p.id ∈ ids ∨ overN g p = none) : Hangs ids (g ++ [p]) := fun A b C e => by
  rcases List.eq_nil_or_concat C with rfl | ⟨C', c, rfl⟩
  · obtain ⟨e1, e2⟩ := List.append_inj' e rfl
    injection e2 with e2
    subst e1 e2
    exact hp
  · have e' : g ++ [p] = (A ++ b :: C') ++ [c] := by rw [e, List.concat_eq_append, List.append_assoc]; rfl
    obtain ⟨e1, _⟩ := List.append_inj' e' rfl
    exact h A b C' e1
theorem over_parts {A C : List Nm} {b q x : Nm} {m : List Nm} (h : overN (A ++ b :: C) q = some (x, m)) : ∃ qc C' qb b' A', overN C q = some (qc, C') ∧ passN b qc = some (qb, b') ∧ overN A qb = some (x, A') ∧ m = A' ++ b' :: C' := by
  have h0 := h
  unfold overN at h0
  rw [one_app] at h0
  cases h1 : one passN (b :: C) q with
  | none => rw [h1] at h0; cases h0
  | some z =>
    obtain ⟨qb, m1⟩ := z
    rw [h1, Option.bind_some] at h0
    obtain ⟨qc, C', b', h2, h3, rfl⟩ := one_cons_inv passN h1
    cases h4 : one passN A qb with
    | none => rw [h4] at h0; cases h0
    | some y =>
      rw [h4] at h0
      injection h0 with h0
      injection h0 with h5 h6
      subst h5 h6
      exact ⟨qc, C', qb, b', y.2, h2, h3, h4, rfl⟩
theorem hangs_pass {ids : List Id_} {g g' : List Nm} {q x : Nm} (h : Hangs ids g) (ho : overN g q = some (x, g')) (gg : ∀ z ∈ g, GN (g.length + 1) z) (gq : GN (g.length + 1) q) : Hangs ids g' := fun A' b' C' e => by
  subst e
  have hl := one_len passN ho
  rw [List.length_append, List.length_cons] at hl
  have e : g = g.take A'.length ++ g.drop A'.length := (List.take_append_drop _ _).symm
  obtain ⟨b, C, e2⟩ : ∃ b C, g.drop A'.length = b :: C := by
    cases hd : g.drop A'.length with
    | nil =>
      have := congrArg List.length hd
      rw [List.length_drop, List.length_nil] at this
      omega
    | cons b C => exact ⟨b, C, rfl⟩
  obtain ⟨A, eA⟩ : ∃ A, g.take A'.length = A := ⟨_, rfl⟩
  have hA : A.length = A'.length := by rw [← eA, List.length_take]; omega
  rw [e2, eA] at e
  subst e
  obtain ⟨qc, C2, qb, b2, A2, h1, h2, h3, h4⟩ := over_parts ho
  have l3 := one_len passN h3
  obtain ⟨h5, h6⟩ := List.append_inj h4 (by rw [l3, hA])
  injection h6 with h6 h7
  subst h5 h6 h7
  have hid : b'.id = b.id := (passN_keeps h2).2.1
  rcases h A b C rfl with hb | hb
  · exact .inl (by rw [hid]; exact hb)
  · refine .inr ?_
    cases h8 : overN A' b' with
    | none => rfl
    | some z =>
      exfalso
      rw [List.length_append, List.length_cons] at gg gq
      have g1 := (one_tells passN GN tellsN (m := 0) (n := A.length + 2) h1 (fun z hz => tellsN.mono (gg z (List.mem_append_right _ (.tail _ hz))) (by omega)) (tellsN.mono gq (by omega))).1
      obtain ⟨q1, A1, r1, k1, _⟩ := overN_cube (q4 := z.1) (A4 := z.2) h2 h3 h8 (fun z hz => tellsN.mono (gg z (List.mem_append_left _ hz)) (by omega)) (tellsN.mono (gg b (List.mem_append_right _ (.head _))) (by omega)) g1
      rw [hb] at k1
      cases k1
theorem part_hangs {ids : List Id_} : ∀ {l s g : List Nm} {N : Nat}, g.length + l.length ≤ N → (∀ z ∈ g, GN (N + 1 + l.length) z) → (∀ z ∈ l, GN (N + 1 + l.length) z) → Hangs ids g → Hangs ids (partG ids l s g).2
  | [], s, g, N, _, _, _, h => h
  | p :: l, s, g, N, hN, gg, gl, h => by
    rw [List.length_cons] at hN gg gl
    rcases partG_cases (ids := ids) (p := p) (l := l) (s := s) (g := g) with ⟨e, hp⟩ | ⟨x, g', _, h1, e⟩
    · rw [e]
      refine part_hangs (N := N) (by rw [List.length_append, List.length_singleton]; omega) (fun z hz => ?_) (fun z hz => tellsN.mono (gl z (.tail _ hz)) (by omega)) (hangs_put h hp)
      rcases List.mem_append.1 hz with hz | hz
      · exact tellsN.mono (gg z hz) (by omega)
      · have : z = p := by simpa using hz
        rw [this]
        exact tellsN.mono (gl p (.head _)) (by omega)
    · rw [e]
      have g2 := (one_tells passN GN tellsN (m := N + 1 + l.length) (n := 0) h1 (fun z hz => tellsN.mono (gg z hz) (by omega)) (tellsN.mono (gl p (.head _)) (by omega))).2
      exact part_hangs (N := N) (by rw [one_len passN h1]; omega) g2 (fun z hz => tellsN.mono (gl z (.tail _ hz)) (by omega)) (hangs_pass h h1 (fun z hz => tellsN.mono (gg z hz) (by omega)) (tellsN.mono (gl p (.head _)) (by omega)))
/-- Of at most eight patches, light ones. -/
theorem partN_hangs {ids : List Id_} {l : List Nm} (hl : l.length ≤ 8) (h : ∀ z ∈ l, GN 17 z) : Hangs ids (partN l ids).2 :=
  part_hangs (N := l.length) (by simp) (fun z hz => by cases hz) (fun z hz => tellsN.mono (h z hz) (by omega)) (fun A b C e => by
    have := congrArg List.length e
    rw [List.length_append, List.length_cons] at this
    simp at this)

def Needs (ids : List Id_) (k : List Nm) : Prop := ∀ A b C, k = A ++ b :: C → b.id ∈ ids ∨ underN b C = none
theorem needs_put {ids : List Id_} {k : List Nm} {p : Nm} (h : Needs ids k) (hp : p.id ∈ ids ∨ underN p k = none) : Needs ids (p :: k) := fun A b C e => by
  cases A with
  | nil =>
    injection e with e1 e2
    subst e1 e2
    exact hp
  | cons a A =>
    injection e with e1 e2
    exact h A b C e2
theorem under_cons {p q : Nm} {l x y : List Nm} (h : underN p (q :: l) = some (x, y)) : ∃ q1 p1 x1, passN p q = some (q1, p1) ∧ underN p1 l = some (x1, y) ∧ x = q1 :: x1 := by
  obtain ⟨q1, a1, b1, h1, h2, rfl⟩ := passL_cons_inv passN h
  obtain ⟨q2, a2, z, h3, h4, rfl⟩ := one_cons_inv passN h1
  injection h3 with h3
  injection h3 with e1 e2
  subst e1 e2
  exact ⟨q1, z, b1, h4, h2, rfl⟩
theorem under_parts : ∀ {A C : List Nm} {p b : Nm} {x y : List Nm}, underN p (A ++ b :: C) = some (x, y) → ∃ pa A' b' pb C', underN p A = some (A', [pa]) ∧ passN pa b = some (b', pb) ∧ underN pb C = some (C', y) ∧ x = A' ++ b' :: C'
  | [], C, p, b, x, y, h => by
    obtain ⟨q1, p1, x1, h1, h2, rfl⟩ := under_cons h
    exact ⟨p, [], q1, p1, x1, passL_nil passN _, h1, h2, rfl⟩
  | a :: A, C, p, b, x, y, h => by
    obtain ⟨q1, p1, x1, h1, h2, rfl⟩ := under_cons h
    obtain ⟨pa, A', b', pb, C', i1, i2, i3, rfl⟩ := under_parts h2
    have h3 : one passN [p] a = some (q1, [p1]) := one_cons passN (a := []) (a1 := []) rfl h1
    exact ⟨pa, q1 :: A', b', pb, C', passL_cons passN h3 i1, i2, i3, rfl⟩
theorem needs_pass {ids : List Id_} {k k' r' : List Nm} {p : Nm} (h : Needs ids k) (ho : underN p k = some (k', r')) (gk : ∀ z ∈ k, GN (k.length + 2) z) (gp : GN (k.length + 2) p) : Needs ids k' := fun A' b' C' e => by
  subst e
  have hl := (passL_len passN ho).1
  rw [List.length_append, List.length_cons] at hl
  have e : k = k.take A'.length ++ k.drop A'.length := (List.take_append_drop _ _).symm
  obtain ⟨b, C, e2⟩ : ∃ b C, k.drop A'.length = b :: C := by
    cases hd : k.drop A'.length with
    | nil =>
      have := congrArg List.length hd
      rw [List.length_drop, List.length_nil] at this
      omega
    | cons b C => exact ⟨b, C, rfl⟩
  obtain ⟨A, eA⟩ : ∃ A, k.take A'.length = A := ⟨_, rfl⟩
  have hA : A.length = A'.length := by rw [← eA, List.length_take]; omega
  rw [e2, eA] at e
  subst e
  obtain ⟨pa, A2, b2, pb, C2, h1, h2, h3, h4⟩ := under_parts ho
  have l3 := (passL_len passN h1).1
  obtain ⟨h5, h6⟩ := List.append_inj h4 (by rw [l3, hA])
  injection h6 with h6 h7
  subst h5 h6 h7
  have hid : b'.id = b.id := (passN_keeps h2).1.1
  rcases h A b C rfl with hb | hb
  · exact .inl (by rw [hid]; exact hb)
  · refine .inr ?_
    cases h8 : underN b' C' with
    | none => rfl
    | some z =>
      exfalso
      rw [List.length_append, List.length_cons] at gk gp
      obtain ⟨c2, b2⟩ := z
      have g1 := (passL_tells passN GN tellsN (m := C.length + 2) (n := 0) h1 (fun z hz => by
        have : z = p := by simpa using hz
        rw [this]
        exact tellsN.mono gp (by omega)) (fun z hz => tellsN.mono (gk z (List.mem_append_left _ hz)) (by simp))).2
      have i1 : passL passN [pa] [b] = some ([b'], [pb]) := passL_cons passN (one_cons passN (a := []) (a1 := []) rfl h2) (passL_nil passN _)
      obtain ⟨C3, B3, A3, k1, _⟩ := cube2_three passN GN tellsN (fun i j k bp bq br => passN_cube2 i j k bp bq br) i1 h3 h8
        (fun z hz => by
          have : z = pa := by simpa using hz
          rw [this]
          exact tellsN.mono (g1 pa (.head _)) (by simp; omega))
        (fun z hz => by
          have : z = b := by simpa using hz
          rw [this]
          exact tellsN.mono (gk b (List.mem_append_right _ (.head _))) (by simp; omega))
        (fun z hz => tellsN.mono (gk z (List.mem_append_right _ (.tail _ hz))) (by simp; omega))
      rw [show passL passN [b] C = none from hb] at k1
      cases k1
/-- What is picked, and how often each may pass still. -/
theorem pick_needs {ids : List Id_} : ∀ {l : List Nm} {N : Nat}, l.length ≤ N → (∀ z ∈ l, GN (N + 2 + l.length) z) → Needs ids (pickN ids l).1 ∧ ∀ z ∈ (pickN ids l).1, GN (N + 2) z
  | [], N, _, _ => ⟨fun A b C e => by
      have := congrArg List.length e
      rw [List.length_append, List.length_cons] at this
      simp [pickN] at this, fun z hz => by cases hz⟩
  | p :: l, N, hN, gl => by
    rw [List.length_cons] at hN gl
    obtain ⟨i1, i2⟩ := pick_needs (ids := ids) (l := l) (N := N + 1) (by omega) (fun z hz => tellsN.mono (gl z (.tail _ hz)) (by omega))
    have hlen : (pickN ids l).1.length ≤ l.length := by have := pick_len l ids; omega
    rcases pickN_cases (ids := ids) (p := p) (l := l) with ⟨e, hp⟩ | ⟨k', r', _, h1, e⟩
    · rw [e]
      refine ⟨needs_put i1 hp, fun z hz => ?_⟩
      rcases List.mem_cons.1 hz with rfl | hz
      · exact tellsN.mono (gl z (.head _)) (by omega)
      · exact tellsN.mono (i2 z hz) (by omega)
    · rw [e]
      have g2 := (passL_tells passN GN tellsN (m := 0) (n := N + 2) h1 (fun z hz => by
        have : z = p := by simpa using hz
        rw [this]
        exact tellsN.mono (gl p (.head _)) (by omega)) (fun z hz => tellsN.mono (i2 z hz) (by simp))).1
      exact ⟨needs_pass i1 h1 (fun z hz => tellsN.mono (i2 z hz) (by omega)) (tellsN.mono (gl p (.head _)) (by omega)), g2⟩
theorem pickN_needs {ids : List Id_} {l : List Nm} (hl : l.length ≤ 8) (h : ∀ z ∈ l, GN 18 z) : Needs ids (pickN ids l).1 :=
  (pick_needs (N := 8) hl (fun z hz => tellsN.mono (h z hz) (by omega))).1

end Bb
end Go.Proofs.Ytdnkinajbebkoaa

set_option maxRecDepth 100000
namespace Go.Proofs.Ytdnkinajbebkoaa
open Go.RowKit
set_option linter.unusedVariables false
set_option linter.unusedSimpArgs false
namespace Pr
open Tx Df Sq Hk Tr

theorem NameB (x : List UInt8) (w : World) (b : Bool) (hx : x.length ≤ maxLen) (hb : name x = b) : Calls Try.prog 40 #[strV x] w fun e w' => e = .returned (.bool b) ∧ w = w' := by
  have := Name ⟨x.toArray⟩ w (by rw [size_strV]; exact hx)
  rw [← hb]
  simpa using this

/-- The box of a change with methods. -/
abbrev boxC (w : World) (k : Int) (nm to : List UInt8) (q : Int) (A : Option Addr) (n c : Nat) (A' : Option Addr) (n' c' : Nat) : World := w.alloc (.cells #[.int .i64 k, strV nm, strV to, .int .i64 q, .slice A n c, .slice A' n' c'] 106)
theorem below_box1 (w : World) (o : Obj) : Below w.heap.size w (w.alloc o) := (Below.refl _ _).alloc (Nat.le_refl _) _
theorem hv_mv {w w' : World} {A A' : Option Addr} {n c n' c' : Nat} {h : HU} (v : HV w w.heap.size A n c A' n' c' h) (hb : Below w.heap.size w w') : HV w' w'.heap.size A n c A' n' c' h := (v.below hb).up hb.size
theorem hv_none (w : World) (B : Nat) : HV w B none 0 0 none 0 0 noneH := ⟨rfl, rfl, Nat.le_refl _, Nat.le_refl _, Nat.zero_le _, Nat.zero_le _, .inl rfl, .inl rfl, by unfold I64; decide⟩
theorem sameH_none (h : HU) : sameH h noneH = noH h := by
  rw [Bool.eq_iff_iff, noH_iff]
  constructor
  · intro hs
    cases h
    simp only [sameH, noneH, Bool.and_eq_true] at hs ⊢
    obtain ⟨h1, h2, h3⟩ := hs
    obtain rfl := of_decide_eq_true h1
    obtain rfl := of_decide_eq_true h2
    obtain rfl := of_decide_eq_true h3
    rfl
  · rintro rfl
    decide
theorem below_via {w0 w w' : World} (h : Below w0.heap.size w0 w) (hb : Below w.heap.size w w') : Below w0.heap.size w0 w' := h.trans (hb.mono h.size)

set_option maxHeartbeats 1000000 in
theorem noHunk (A : Option Addr) (n c : Nat) (A' : Option Addr) (n' c' : Nat) (k : Int) (nm to : List UInt8) (q : Int) (h : HU) (w : World) (b : Bool) (hq : h.pos = q) (hv : HV w w.heap.size A n c A' n' c' h) (hb : noH h = b) :
    Calls Try.prog 108 #[prV k nm to q A n c A' n' c'] w (TestEnd w b) := by
  have hbx := below_box1 w (.cells #[.int .i64 k, strV nm, strV to, .int .i64 q, .slice A n c, .slice A' n' c'] 106)
  have h3 := SameH A n c A' n' c' none 0 0 none 0 0 (boxC w k nm to q A n c A' n' c').heap.size h noneH (boxC w k nm to q A n c A' n' c') (Nat.le_refl _) (hv_mv hv hbx) (hv_none _ _)
  rw [sameH_none, hb, hq] at h3
  have H3 := Lib.hid h3; have HBX := Lib.hid hbx
  clear h3 hbx hv hb hq
  go_enter Try.func108, Try.ntmps108
  go_wp2_with fail
  refine H3.out.mono ?_
  rintro e w1 ⟨rfl, hb1⟩
  have HB1 := Lib.hid (below_via HBX.out hb1)
  clear hb1
  go_wp2
  go_ret
  exact ⟨rfl, HB1.out⟩

set_option maxHeartbeats 1000000 in
theorem namesOne (A : Option Addr) (n c : Nat) (A' : Option Addr) (n' c' : Nat) (k : Int) (nm to : List UInt8) (q : Int) (h : HU) (w : World) (b : Bool) (hq : h.pos = q) (hv : HV w w.heap.size A n c A' n' c' h) (hb : (decide (to = []) && noH h) = b) :
    Calls Try.prog 92 #[prV k nm to q A n c A' n' c'] w (TestEnd w b) := by
  have hbx := below_box1 w (.cells #[.int .i64 k, strV nm, strV to, .int .i64 q, .slice A n c, .slice A' n' c'] 106)
  obtain ⟨bo, hbo⟩ : ∃ b, noH h = b := ⟨_, rfl⟩
  rw [hbo] at hb
  have h3 := noHunk A n c A' n' c' k nm to q h (boxC w k nm to q A n c A' n' c') bo hq (hv_mv hv hbx) hbo
  have H3 := Lib.hid h3; have HBX := Lib.hid hbx; have HB := Lib.hid hb
  clear h3 hbx hv hb hq hbo
  by_cases ht : to = []
  · subst ht
    go_enter Try.func92, Try.ntmps92
    go_wp2_with fail
    refine H3.out.mono ?_
    rintro e w1 ⟨rfl, hb1⟩
    have HB1 := Lib.hid (below_via HBX.out hb1)
    clear hb1
    go_wp2
    go_ret
    exact ⟨ret_bool (by rw [← HB.out]; simp), HB1.out⟩
  · have et : (to == []) = false := by simpa using ht
    go_enter Try.func92, Try.ntmps92
    go_wp2
    go_ret
    exact ⟨ret_bool (by rw [← HB.out, decide_eq_false ht]; simp), HBX.out⟩

set_option maxHeartbeats 1000000 in
theorem hasHunk (A : Option Addr) (n c : Nat) (A' : Option Addr) (n' c' : Nat) (k : Int) (nm to : List UInt8) (q : Int) (h : HU) (w : World) (b : Bool) (hq : h.pos = q) (hv : HV w w.heap.size A n c A' n' c' h) (hb : (decide (to = []) && mayH h) = b) :
    Calls Try.prog 94 #[prV k nm to q A n c A' n' c'] w (TestEnd w b) := by
  have hbx := below_box1 w (.cells #[.int .i64 k, strV nm, strV to, .int .i64 q, .slice A n c, .slice A' n' c'] 106)
  obtain ⟨bo, hbo⟩ : ∃ b, mayH h = b := ⟨_, rfl⟩
  rw [hbo] at hb
  have h3 := May A n c A' n' c' (boxC w k nm to q A n c A' n' c').heap.size h (boxC w k nm to q A n c A' n' c') (Nat.le_refl _) (hv_mv hv hbx)
  rw [hbo, hq] at h3
  have H3 := Lib.hid h3; have HBX := Lib.hid hbx; have HB := Lib.hid hb
  clear h3 hbx hv hb hq hbo
  by_cases ht : to = []
  · subst ht
    go_enter Try.func94, Try.ntmps94
    go_wp2_with fail
    refine H3.out.mono ?_
    rintro e w1 ⟨rfl, hb1⟩
    have HB1 := Lib.hid (below_via HBX.out hb1)
    clear hb1
    go_wp2
    go_ret
    exact ⟨ret_bool (by rw [← HB.out]; simp), HB1.out⟩
  · have et : (to == []) = false := by simpa using ht
    go_enter Try.func94, Try.ntmps94
    go_wp2
    go_ret
    exact ⟨ret_bool (by rw [← HB.out, decide_eq_false ht]; simp), HBX.out⟩

set_option maxHeartbeats 1000000 in
theorem hasLines (A : Option Addr) (n c : Nat) (A' : Option Addr) (n' c' : Nat) (k : Int) (nm to : List UInt8) (q : Int) (h : HU) (w : World) (b : Bool) (hq : h.pos = q) (hv : HV w w.heap.size A n c A' n' c' h) (hb : (decide (to = []) && (mayH h && decide (h.pos = 0))) = b) :
    Calls Try.prog 95 #[prV k nm to q A n c A' n' c'] w (TestEnd w b) := by
  have hbx := below_box1 w (.cells #[.int .i64 k, strV nm, strV to, .int .i64 q, .slice A n c, .slice A' n' c'] 106)
  obtain ⟨bo, hbo⟩ : ∃ b, (decide (to = []) && mayH h) = b := ⟨_, rfl⟩
  rw [← Bool.and_assoc, hbo, hq] at hb
  have h3 := hasHunk A n c A' n' c' k nm to q h (boxC w k nm to q A n c A' n' c') bo hq (hv_mv hv hbx) hbo
  have b0 := Blk.new w 106 #[.int .i64 k, strV nm, strV to, .int .i64 q, .slice A n c, .slice A' n' c']
  have H3 := Lib.hid h3; have HBX := Lib.hid hbx; have HB := Lib.hid hb; have B0 := Lib.hid b0
  clear h3 hbx hv hb hq hbo b0
  go_enter Try.func95, Try.ntmps95
  go_wp2_with fail
  refine H3.out.mono ?_
  rintro e w1 ⟨rfl, hb1⟩
  have HB1 := Lib.hid (below_via HBX.out hb1)
  have b1 := B0.out.below hb1 B0.out.lt
  have x3 : w1.cell? ⟨w.heap.size, 3, none⟩ = some (.int .i64 q) := b1.cell 3 rfl
  clear hb1 b1 B0
  cases bo with
  | false =>
    go_wp2
    go_ret
    exact ⟨ret_bool (by rw [← HB.out]; simp), HB1.out⟩
  | true =>
    by_cases h0 : q = 0
    · have e0 : (q == 0) = true := by simpa using h0
      go_wp2
      go_ret
      exact ⟨ret_bool (by rw [← HB.out, decide_eq_true h0]; simp), HB1.out⟩
    · have e0 : (q == 0) = false := by simpa using h0
      go_wp2
      go_ret
      exact ⟨ret_bool (by rw [← HB.out, decide_eq_false h0]; simp), HB1.out⟩

set_option maxHeartbeats 1000000 in
theorem namesTwo (A : Option Addr) (n c : Nat) (A' : Option Addr) (n' c' : Nat) (k : Int) (nm to : List UInt8) (q : Int) (h : HU) (w : World) (b : Bool) (hto : to.length ≤ maxLen) (hq : h.pos = q) (hv : HV w w.heap.size A n c A' n' c' h) (hb : (name to && (decide (to ≠ nm) && noH h)) = b) :
    Calls Try.prog 93 #[prV k nm to q A n c A' n' c'] w (TestEnd w b) := by
  have hbx := below_box1 w (.cells #[.int .i64 k, strV nm, strV to, .int .i64 q, .slice A n c, .slice A' n' c'] 106)
  obtain ⟨bo, hbo⟩ : ∃ b, noH h = b := ⟨_, rfl⟩
  obtain ⟨bn, hbn⟩ : ∃ b, name to = b := ⟨_, rfl⟩
  rw [hbo, hbn] at hb
  have h3 := noHunk A n c A' n' c' k nm to q h (boxC w k nm to q A n c A' n' c') bo hq (hv_mv hv hbx) hbo
  have HN := Lib.hid (fun w => NameB to w bn hto hbn)
  have H3 := Lib.hid h3; have HBX := Lib.hid hbx; have HB := Lib.hid hb
  clear h3 hbx hv hb hq hbo hbn
  go_enter Try.func93, Try.ntmps93
  go_wp2_with fail
  refine (HN.out _).mono ?_
  rintro e w1 ⟨rfl, rfl⟩
  cases bn with
  | false =>
    go_wp2
    go_ret
    exact ⟨ret_bool (by rw [← HB.out]; simp), HBX.out⟩
  | true =>
    by_cases ht : to = nm
    · have et : (to == nm) = true := by simpa using ht
      have HO : Hid (false = b) := Lib.hid (by rw [← HB.out]; simp [ht])
      clear ht
      go_wp2
      go_ret
      exact ⟨ret_bool HO.out, HBX.out⟩
    · have et : (to == nm) = false := by simpa using ht
      go_wp2_with fail
      refine H3.out.mono ?_
      rintro e w1 ⟨rfl, hb1⟩
      have HB1 := Lib.hid (below_via HBX.out hb1)
      clear hb1
      go_wp2
      go_ret
      exact ⟨ret_bool (by rw [← HB.out]; simp [ht]), HB1.out⟩

/-- Five cells are set. -/
theorem blk5 {W : World} {b : Nat} {t : TypeId} {x0 x1 x2 x3 x4 : Value} (h : Blk W b t #[x0, x1, x2, x3, x4]) (v0 v1 v2 v3 v4 : Value) : Blk (((((World.setCell W ⟨b, 0, none⟩ v0).setCell ⟨b, 1, none⟩ v1).setCell ⟨b, 2, none⟩ v2).setCell ⟨b, 3, none⟩ v3).setCell ⟨b, 4, none⟩ v4) b t #[v0, v1, v2, v3, v4] :=
  have b0 : Blk _ b t #[v0, x1, x2, x3, x4] := h.set 0 v0
  have b1 : Blk _ b t #[v0, v1, x2, x3, x4] := b0.set 1 v1
  have b2 : Blk _ b t #[v0, v1, v2, x3, x4] := b1.set 2 v2
  have b3 : Blk _ b t #[v0, v1, v2, v3, x4] := b2.set 3 v3
  have b4 : Blk _ b t #[v0, v1, v2, v3, v4] := b3.set 4 v4
  b4
theorem below5 {w W : World} {b : Nat} (hb : Below b w W) (v0 v1 v2 v3 v4 : Value) : Below b w (((((World.setCell W ⟨b, 0, none⟩ v0).setCell ⟨b, 1, none⟩ v1).setCell ⟨b, 2, none⟩ v2).setCell ⟨b, 3, none⟩ v3).setCell ⟨b, 4, none⟩ v4) :=
  ((((hb.setCell (p := ⟨b, 0, none⟩) (Nat.le_refl _) v0).setCell (p := ⟨b, 1, none⟩) (Nat.le_refl _) v1).setCell (p := ⟨b, 2, none⟩) (Nat.le_refl _) v2).setCell (p := ⟨b, 3, none⟩) (Nat.le_refl _) v3).setCell (p := ⟨b, 4, none⟩) (Nat.le_refl _) v4

set_option maxHeartbeats 1000000 in
theorem forms (w : World) : Calls Try.prog 79 #[] w fun e w' => e = .returned (.agg #[.func (.func 92) #[] #[], .func (.func 92) #[] #[], .func (.func 93) #[] #[], .func (.func 94) #[] #[], .func (.func 95) #[] #[]]) ∧ Below w.heap.size w w' := by
  have hb := below_box1 w (.cells #[.nilFunc, .nilFunc, .nilFunc, .nilFunc, .nilFunc] 117)
  have b0 := Blk.new w 117 #[.nilFunc, .nilFunc, .nilFunc, .nilFunc, .nilFunc]
  go_enter Try.func79, Try.ntmps79
  go_upto_region 1 with fail
  generalize w.alloc (.cells #[.nilFunc, .nilFunc, .nilFunc, .nilFunc, .nilFunc] 117) = w1 at *
  have x0 : w1.cell? ⟨w.heap.size, 0, none⟩ = some .nilFunc := b0.cell 0 rfl
  have f0 : w1.frozen? ⟨w.heap.size, 0, none⟩ = false := b0.frozen 0
  have x1 : w1.cell? ⟨w.heap.size, 1, none⟩ = some .nilFunc := b0.cell 1 rfl
  have f1 : w1.frozen? ⟨w.heap.size, 1, none⟩ = false := b0.frozen 1
  have x2 : w1.cell? ⟨w.heap.size, 2, none⟩ = some .nilFunc := b0.cell 2 rfl
  have f2 : w1.frozen? ⟨w.heap.size, 2, none⟩ = false := b0.frozen 2
  have x3 : w1.cell? ⟨w.heap.size, 3, none⟩ = some .nilFunc := b0.cell 3 rfl
  have f3 : w1.frozen? ⟨w.heap.size, 3, none⟩ = false := b0.frozen 3
  have x4 : w1.cell? ⟨w.heap.size, 4, none⟩ = some .nilFunc := b0.cell 4 rfl
  have f4 : w1.frozen? ⟨w.heap.size, 4, none⟩ = false := b0.frozen 4
  have b1 := blk5 b0 (.func (.func 92) #[] #[]) (.func (.func 92) #[] #[]) (.func (.func 93) #[] #[]) (.func (.func 94) #[] #[]) (.func (.func 95) #[] #[])
  have HB := Lib.hid (below5 hb (.func (.func 92) #[] #[]) (.func (.func 92) #[] #[]) (.func (.func 93) #[] #[]) (.func (.func 94) #[] #[]) (.func (.func 95) #[] #[])); have B1 := Lib.hid b1
  clear b0 b1 hb
  go_wp2
  have b1 := B1.out; have hb := HB.out
  clear x0 x1 x2 x3 x4 f0 f1 f2 f3 f4 B1 HB
  generalize (World.setCell (World.setCell (World.setCell (World.setCell (World.setCell w1 ⟨w.heap.size, 0, none⟩ (.func (.func 92) #[] #[])) ⟨w.heap.size, 1, none⟩ (.func (.func 92) #[] #[])) ⟨w.heap.size, 2, none⟩ (.func (.func 93) #[] #[])) ⟨w.heap.size, 3, none⟩ (.func (.func 94) #[] #[])) ⟨w.heap.size, 4, none⟩ (.func (.func 95) #[] #[])) = w2 at *
  have q0 : w2.cell? ⟨w.heap.size, 0, none⟩ = some (.func (.func 92) #[] #[]) := b1.cell 0 rfl
  have q1 : w2.cell? ⟨w.heap.size, 1, none⟩ = some (.func (.func 92) #[] #[]) := b1.cell 1 rfl
  have q2 : w2.cell? ⟨w.heap.size, 2, none⟩ = some (.func (.func 93) #[] #[]) := b1.cell 2 rfl
  have q3 : w2.cell? ⟨w.heap.size, 3, none⟩ = some (.func (.func 94) #[] #[]) := b1.cell 3 rfl
  have q4 : w2.cell? ⟨w.heap.size, 4, none⟩ = some (.func (.func 95) #[] #[]) := b1.cell 4 rfl
  refine bodyPost_ret (v := .agg #[.func (.func 92) #[] #[], .func (.func 92) #[] #[], .func (.func 93) #[] #[], .func (.func 94) #[] #[], .func (.func 95) #[] #[]]) (by simp [results, Try.results79, go_sem, q0, q1, q2, q3, q4]) rfl ?_
  exact ⟨rfl, hb⟩

theorem index_may (w : World) (i : Int) (f : Value) (hi : 0 ≤ i ∧ i < 5) (hf : (#[.func (.func 92) #[] #[], .func (.func 92) #[] #[], .func (.func 93) #[] #[], .func (.func 94) #[] #[], .func (.func 95) #[] #[]] : Array Value)[i.toNat]? = some f) :
    (Instr.index 117 (.agg #[.func (.func 92) #[] #[], .func (.func 92) #[] #[], .func (.func 93) #[] #[], .func (.func 94) #[] #[], .func (.func 95) #[] #[]]) (.int .i64 i)).run Try.prog w = .ok f w :=
  run_index_array Try.underlying117 hi (by kernel_rfl) (by kernel_rfl) hf

set_option maxHeartbeats 4000000 in
theorem MayP0 (A : Option Addr) (n c : Nat) (A' : Option Addr) (n' c' : Nat) (nm to : List UInt8) (q : Int) (w : World) (bn bm : Bool) (hn : nm.length ≤ maxLen) (hb : name nm = bn)
    (hm : ∀ w1, Below w.heap.size w w1 → Calls Try.prog 92 #[prV 0 nm to q A n c A' n' c'] w1 (TestEnd w1 bm)) :
    Calls Try.prog 71 #[prV 0 nm to q A n c A' n' c'] w (TestEnd w (bn && bm)) := by
  have HN := Lib.hid (fun w => NameB nm w bn hn hb)
  have hbx : Below w.heap.size w (box w 0 nm to q A n c A' n' c') := (Below.refl _ _).alloc (Nat.le_refl _) _
  have HBX := Lib.hid hbx; have H1 := Lib.hid hm
  have b0 := Blk.new w 54 #[.int .i64 0, strV nm, strV to, .int .i64 q, .slice A n c, .slice A' n' c']
  clear hbx hm hb
  go_enter Try.func71, Try.ntmps71
  go_wp2_with fail
  have HH : Hid (∀ w1, Below (box w 0 nm to q A n c A' n' c').heap.size (box w 0 nm to q A n c A' n' c').drew w1 → Blk w1 w.heap.size 54 #[.int .i64 0, strV nm, strV to, .int .i64 q, .slice A n c, .slice A' n' c']) := Lib.hid (fun w1 hb => (b0.drewN 1).below hb (by simp))
  have HT : Hid (∀ w1, Below (box w 0 nm to q A n c A' n' c').heap.size (box w 0 nm to q A n c A' n' c').drew w1 → Below w.heap.size w w1) := Lib.hid (fun w1 hb => (below_drewN HBX.out 1).trans (hb.mono HBX.out.size))
  have HBD : Hid (∀ d, Below w.heap.size w ((box w 0 nm to q A n c A' n' c').drewN d)) := Lib.hid (below_drewN HBX.out)
  generalize hW : box w 0 nm to q A n c A' n' c' = W at *
  unfold box at hW
  rw [hW] at b0 ⊢
  clear hW
  have x0 : W.cell? ⟨w.heap.size, 0, none⟩ = some (.int .i64 0) := b0.cell 0 rfl
  have x1 : W.cell? ⟨w.heap.size, 1, none⟩ = some (strV nm) := b0.cell 1 rfl
  have x2 : W.cell? ⟨w.heap.size, 2, none⟩ = some (strV to) := b0.cell 2 rfl
  have x3 : W.cell? ⟨w.heap.size, 3, none⟩ = some (.int .i64 q) := b0.cell 3 rfl
  have x4 : W.cell? ⟨w.heap.size, 4, none⟩ = some (.slice A n c) := b0.cell 4 rfl
  have x5 : W.cell? ⟨w.heap.size, 5, none⟩ = some (.slice A' n' c') := b0.cell 5 rfl
  clear b0
  have qi := fun w => index_may w 0 _ (by decide) rfl
  cases bn with
  | false =>
    have HN0 : Hid (∀ d : Nat, Calls Try.prog 40 #[strV nm] (W.drewN d) fun e w' => e = .returned (.bool false) ∧ ∃ m, w' = (W.drewN d).drewN m) := Lib.hid (fun d => (HN.out (W.drewN d)).mono (by rintro e w' ⟨rfl, rfl⟩; exact ⟨rfl, 0, rfl⟩))
    go_quiet (with_reducible exact Calls.quiet_of (HN0.out _))
    go_wp2
    go_ret
    exact ⟨rfl, HBD.out _⟩
  | true =>
    go_region_held3 (fun w' => w'.cell? ⟨w.heap.size, 0, none⟩ = some (.int .i64 0) ∧ w'.cell? ⟨w.heap.size, 1, none⟩ = some (strV nm) ∧ w'.cell? ⟨w.heap.size, 2, none⟩ = some (strV to) ∧ w'.cell? ⟨w.heap.size, 3, none⟩ = some (.int .i64 q) ∧ w'.cell? ⟨w.heap.size, 4, none⟩ = some (.slice A n c) ∧ w'.cell? ⟨w.heap.size, 5, none⟩ = some (.slice A' n' c'))
      (first | go_keep | (exact ⟨y0, y1, y2, y3, y4, y5⟩) | (exact ⟨z0, z1, z2, z3, z4, z5⟩))
      (first
        | (go_at_call 40; refine (HN.out W.drew).mono ?_; rintro e w1 ⟨rfl, rfl⟩)
        | (go_at_call 79; refine (forms W.drew).mono ?_; rintro e w1 ⟨rfl, hb1⟩; have b1 := HH.out w1 hb1; have hb01 := HT.out w1 hb1; have y0 : w1.cell? ⟨w.heap.size, 0, none⟩ = some (.int .i64 0) := b1.cell 0 rfl; have y1 : w1.cell? ⟨w.heap.size, 1, none⟩ = some (strV nm) := b1.cell 1 rfl; have y2 : w1.cell? ⟨w.heap.size, 2, none⟩ = some (strV to) := b1.cell 2 rfl; have y3 : w1.cell? ⟨w.heap.size, 3, none⟩ = some (.int .i64 q) := b1.cell 3 rfl; have y4 : w1.cell? ⟨w.heap.size, 4, none⟩ = some (.slice A n c) := b1.cell 4 rfl; have y5 : w1.cell? ⟨w.heap.size, 5, none⟩ = some (.slice A' n' c') := b1.cell 5 rfl; have HB1 := Lib.hid hb01; have B1 := Lib.hid b1; clear b1 hb1 hb01)
        | (go_at_call 92; refine (H1.out w1 HB1.out).mono ?_; rintro e w2 ⟨rfl, hb2⟩; have hb02 := below_via HB1.out hb2; have b2 := B1.out.below hb2 B1.out.lt; have z0 : w2.cell? ⟨w.heap.size, 0, none⟩ = some (.int .i64 0) := b2.cell 0 rfl; have z1 : w2.cell? ⟨w.heap.size, 1, none⟩ = some (strV nm) := b2.cell 1 rfl; have z2 : w2.cell? ⟨w.heap.size, 2, none⟩ = some (strV to) := b2.cell 2 rfl; have z3 : w2.cell? ⟨w.heap.size, 3, none⟩ = some (.int .i64 q) := b2.cell 3 rfl; have z4 : w2.cell? ⟨w.heap.size, 4, none⟩ = some (.slice A n c) := b2.cell 4 rfl; have z5 : w2.cell? ⟨w.heap.size, 5, none⟩ = some (.slice A' n' c') := b2.cell 5 rfl; have HB2 := Lib.hid hb02; clear b2 hb2 hb02))
    go_wp2
    go_ret
    exact ⟨ret_bool (by simp), HB2.out⟩

set_option maxHeartbeats 4000000 in
theorem MayP1 (A : Option Addr) (n c : Nat) (A' : Option Addr) (n' c' : Nat) (nm to : List UInt8) (q : Int) (w : World) (bn bm : Bool) (hn : nm.length ≤ maxLen) (hb : name nm = bn)
    (hm : ∀ w1, Below w.heap.size w w1 → Calls Try.prog 92 #[prV 1 nm to q A n c A' n' c'] w1 (TestEnd w1 bm)) :
    Calls Try.prog 71 #[prV 1 nm to q A n c A' n' c'] w (TestEnd w (bn && bm)) := by
  have HN := Lib.hid (fun w => NameB nm w bn hn hb)
  have hbx : Below w.heap.size w (box w 1 nm to q A n c A' n' c') := (Below.refl _ _).alloc (Nat.le_refl _) _
  have HBX := Lib.hid hbx; have H1 := Lib.hid hm
  have b0 := Blk.new w 54 #[.int .i64 1, strV nm, strV to, .int .i64 q, .slice A n c, .slice A' n' c']
  clear hbx hm hb
  go_enter Try.func71, Try.ntmps71
  go_wp2_with fail
  have HH : Hid (∀ w1, Below (box w 1 nm to q A n c A' n' c').heap.size (box w 1 nm to q A n c A' n' c').drew w1 → Blk w1 w.heap.size 54 #[.int .i64 1, strV nm, strV to, .int .i64 q, .slice A n c, .slice A' n' c']) := Lib.hid (fun w1 hb => (b0.drewN 1).below hb (by simp))
  have HT : Hid (∀ w1, Below (box w 1 nm to q A n c A' n' c').heap.size (box w 1 nm to q A n c A' n' c').drew w1 → Below w.heap.size w w1) := Lib.hid (fun w1 hb => (below_drewN HBX.out 1).trans (hb.mono HBX.out.size))
  have HBD : Hid (∀ d, Below w.heap.size w ((box w 1 nm to q A n c A' n' c').drewN d)) := Lib.hid (below_drewN HBX.out)
  generalize hW : box w 1 nm to q A n c A' n' c' = W at *
  unfold box at hW
  rw [hW] at b0 ⊢
  clear hW
  have x0 : W.cell? ⟨w.heap.size, 0, none⟩ = some (.int .i64 1) := b0.cell 0 rfl
  have x1 : W.cell? ⟨w.heap.size, 1, none⟩ = some (strV nm) := b0.cell 1 rfl
  have x2 : W.cell? ⟨w.heap.size, 2, none⟩ = some (strV to) := b0.cell 2 rfl
  have x3 : W.cell? ⟨w.heap.size, 3, none⟩ = some (.int .i64 q) := b0.cell 3 rfl
  have x4 : W.cell? ⟨w.heap.size, 4, none⟩ = some (.slice A n c) := b0.cell 4 rfl
  have x5 : W.cell? ⟨w.heap.size, 5, none⟩ = some (.slice A' n' c') := b0.cell 5 rfl
  clear b0
  have qi := fun w => index_may w 1 _ (by decide) rfl
  cases bn with
  | false =>
    have HN0 : Hid (∀ d : Nat, Calls Try.prog 40 #[strV nm] (W.drewN d) fun e w' => e = .returned (.bool false) ∧ ∃ m, w' = (W.drewN d).drewN m) := Lib.hid (fun d => (HN.out (W.drewN d)).mono (by rintro e w' ⟨rfl, rfl⟩; exact ⟨rfl, 0, rfl⟩))
    go_quiet (with_reducible exact Calls.quiet_of (HN0.out _))
    go_wp2
    go_ret
    exact ⟨rfl, HBD.out _⟩
  | true =>
    go_region_held3 (fun w' => w'.cell? ⟨w.heap.size, 0, none⟩ = some (.int .i64 1) ∧ w'.cell? ⟨w.heap.size, 1, none⟩ = some (strV nm) ∧ w'.cell? ⟨w.heap.size, 2, none⟩ = some (strV to) ∧ w'.cell? ⟨w.heap.size, 3, none⟩ = some (.int .i64 q) ∧ w'.cell? ⟨w.heap.size, 4, none⟩ = some (.slice A n c) ∧ w'.cell? ⟨w.heap.size, 5, none⟩ = some (.slice A' n' c'))
      (first | go_keep | (exact ⟨y0, y1, y2, y3, y4, y5⟩) | (exact ⟨z0, z1, z2, z3, z4, z5⟩))
      (first
        | (go_at_call 40; refine (HN.out W.drew).mono ?_; rintro e w1 ⟨rfl, rfl⟩)
        | (go_at_call 79; refine (forms W.drew).mono ?_; rintro e w1 ⟨rfl, hb1⟩; have b1 := HH.out w1 hb1; have hb01 := HT.out w1 hb1; have y0 : w1.cell? ⟨w.heap.size, 0, none⟩ = some (.int .i64 1) := b1.cell 0 rfl; have y1 : w1.cell? ⟨w.heap.size, 1, none⟩ = some (strV nm) := b1.cell 1 rfl; have y2 : w1.cell? ⟨w.heap.size, 2, none⟩ = some (strV to) := b1.cell 2 rfl; have y3 : w1.cell? ⟨w.heap.size, 3, none⟩ = some (.int .i64 q) := b1.cell 3 rfl; have y4 : w1.cell? ⟨w.heap.size, 4, none⟩ = some (.slice A n c) := b1.cell 4 rfl; have y5 : w1.cell? ⟨w.heap.size, 5, none⟩ = some (.slice A' n' c') := b1.cell 5 rfl; have HB1 := Lib.hid hb01; have B1 := Lib.hid b1; clear b1 hb1 hb01)
        | (go_at_call 92; refine (H1.out w1 HB1.out).mono ?_; rintro e w2 ⟨rfl, hb2⟩; have hb02 := below_via HB1.out hb2; have b2 := B1.out.below hb2 B1.out.lt; have z0 : w2.cell? ⟨w.heap.size, 0, none⟩ = some (.int .i64 1) := b2.cell 0 rfl; have z1 : w2.cell? ⟨w.heap.size, 1, none⟩ = some (strV nm) := b2.cell 1 rfl; have z2 : w2.cell? ⟨w.heap.size, 2, none⟩ = some (strV to) := b2.cell 2 rfl; have z3 : w2.cell? ⟨w.heap.size, 3, none⟩ = some (.int .i64 q) := b2.cell 3 rfl; have z4 : w2.cell? ⟨w.heap.size, 4, none⟩ = some (.slice A n c) := b2.cell 4 rfl; have z5 : w2.cell? ⟨w.heap.size, 5, none⟩ = some (.slice A' n' c') := b2.cell 5 rfl; have HB2 := Lib.hid hb02; clear b2 hb2 hb02))
    go_wp2
    go_ret
    exact ⟨ret_bool (by simp), HB2.out⟩

set_option maxHeartbeats 4000000 in
theorem MayP2 (A : Option Addr) (n c : Nat) (A' : Option Addr) (n' c' : Nat) (nm to : List UInt8) (q : Int) (w : World) (bn bm : Bool) (hn : nm.length ≤ maxLen) (hb : name nm = bn)
    (hm : ∀ w1, Below w.heap.size w w1 → Calls Try.prog 93 #[prV 2 nm to q A n c A' n' c'] w1 (TestEnd w1 bm)) :
    Calls Try.prog 71 #[prV 2 nm to q A n c A' n' c'] w (TestEnd w (bn && bm)) := by
  have HN := Lib.hid (fun w => NameB nm w bn hn hb)
  have hbx : Below w.heap.size w (box w 2 nm to q A n c A' n' c') := (Below.refl _ _).alloc (Nat.le_refl _) _
  have HBX := Lib.hid hbx; have H1 := Lib.hid hm
  have b0 := Blk.new w 54 #[.int .i64 2, strV nm, strV to, .int .i64 q, .slice A n c, .slice A' n' c']
  clear hbx hm hb
  go_enter Try.func71, Try.ntmps71
  go_wp2_with fail
  have HH : Hid (∀ w1, Below (box w 2 nm to q A n c A' n' c').heap.size (box w 2 nm to q A n c A' n' c').drew w1 → Blk w1 w.heap.size 54 #[.int .i64 2, strV nm, strV to, .int .i64 q, .slice A n c, .slice A' n' c']) := Lib.hid (fun w1 hb => (b0.drewN 1).below hb (by simp))
  have HT : Hid (∀ w1, Below (box w 2 nm to q A n c A' n' c').heap.size (box w 2 nm to q A n c A' n' c').drew w1 → Below w.heap.size w w1) := Lib.hid (fun w1 hb => (below_drewN HBX.out 1).trans (hb.mono HBX.out.size))
  have HBD : Hid (∀ d, Below w.heap.size w ((box w 2 nm to q A n c A' n' c').drewN d)) := Lib.hid (below_drewN HBX.out)
  generalize hW : box w 2 nm to q A n c A' n' c' = W at *
  unfold box at hW
  rw [hW] at b0 ⊢
  clear hW
  have x0 : W.cell? ⟨w.heap.size, 0, none⟩ = some (.int .i64 2) := b0.cell 0 rfl
  have x1 : W.cell? ⟨w.heap.size, 1, none⟩ = some (strV nm) := b0.cell 1 rfl
  have x2 : W.cell? ⟨w.heap.size, 2, none⟩ = some (strV to) := b0.cell 2 rfl
  have x3 : W.cell? ⟨w.heap.size, 3, none⟩ = some (.int .i64 q) := b0.cell 3 rfl
  have x4 : W.cell? ⟨w.heap.size, 4, none⟩ = some (.slice A n c) := b0.cell 4 rfl
  have x5 : W.cell? ⟨w.heap.size, 5, none⟩ = some (.slice A' n' c') := b0.cell 5 rfl
  clear b0
  have qi := fun w => index_may w 2 _ (by decide) rfl
  cases bn with
  | false =>
    have HN0 : Hid (∀ d : Nat, Calls Try.prog 40 #[strV nm] (W.drewN d) fun e w' => e = .returned (.bool false) ∧ ∃ m, w' = (W.drewN d).drewN m) := Lib.hid (fun d => (HN.out (W.drewN d)).mono (by rintro e w' ⟨rfl, rfl⟩; exact ⟨rfl, 0, rfl⟩))
    go_quiet (with_reducible exact Calls.quiet_of (HN0.out _))
    go_wp2
    go_ret
    exact ⟨rfl, HBD.out _⟩
  | true =>
    go_region_held3 (fun w' => w'.cell? ⟨w.heap.size, 0, none⟩ = some (.int .i64 2) ∧ w'.cell? ⟨w.heap.size, 1, none⟩ = some (strV nm) ∧ w'.cell? ⟨w.heap.size, 2, none⟩ = some (strV to) ∧ w'.cell? ⟨w.heap.size, 3, none⟩ = some (.int .i64 q) ∧ w'.cell? ⟨w.heap.size, 4, none⟩ = some (.slice A n c) ∧ w'.cell? ⟨w.heap.size, 5, none⟩ = some (.slice A' n' c'))
      (first | go_keep | (exact ⟨y0, y1, y2, y3, y4, y5⟩) | (exact ⟨z0, z1, z2, z3, z4, z5⟩))
      (first
        | (go_at_call 40; refine (HN.out W.drew).mono ?_; rintro e w1 ⟨rfl, rfl⟩)
        | (go_at_call 79; refine (forms W.drew).mono ?_; rintro e w1 ⟨rfl, hb1⟩; have b1 := HH.out w1 hb1; have hb01 := HT.out w1 hb1; have y0 : w1.cell? ⟨w.heap.size, 0, none⟩ = some (.int .i64 2) := b1.cell 0 rfl; have y1 : w1.cell? ⟨w.heap.size, 1, none⟩ = some (strV nm) := b1.cell 1 rfl; have y2 : w1.cell? ⟨w.heap.size, 2, none⟩ = some (strV to) := b1.cell 2 rfl; have y3 : w1.cell? ⟨w.heap.size, 3, none⟩ = some (.int .i64 q) := b1.cell 3 rfl; have y4 : w1.cell? ⟨w.heap.size, 4, none⟩ = some (.slice A n c) := b1.cell 4 rfl; have y5 : w1.cell? ⟨w.heap.size, 5, none⟩ = some (.slice A' n' c') := b1.cell 5 rfl; have HB1 := Lib.hid hb01; have B1 := Lib.hid b1; clear b1 hb1 hb01)
        | (go_at_call 93; refine (H1.out w1 HB1.out).mono ?_; rintro e w2 ⟨rfl, hb2⟩; have hb02 := below_via HB1.out hb2; have b2 := B1.out.below hb2 B1.out.lt; have z0 : w2.cell? ⟨w.heap.size, 0, none⟩ = some (.int .i64 2) := b2.cell 0 rfl; have z1 : w2.cell? ⟨w.heap.size, 1, none⟩ = some (strV nm) := b2.cell 1 rfl; have z2 : w2.cell? ⟨w.heap.size, 2, none⟩ = some (strV to) := b2.cell 2 rfl; have z3 : w2.cell? ⟨w.heap.size, 3, none⟩ = some (.int .i64 q) := b2.cell 3 rfl; have z4 : w2.cell? ⟨w.heap.size, 4, none⟩ = some (.slice A n c) := b2.cell 4 rfl; have z5 : w2.cell? ⟨w.heap.size, 5, none⟩ = some (.slice A' n' c') := b2.cell 5 rfl; have HB2 := Lib.hid hb02; clear b2 hb2 hb02))
    go_wp2
    go_ret
    exact ⟨ret_bool (by simp), HB2.out⟩

set_option maxHeartbeats 4000000 in
theorem MayP3 (A : Option Addr) (n c : Nat) (A' : Option Addr) (n' c' : Nat) (nm to : List UInt8) (q : Int) (w : World) (bn bm : Bool) (hn : nm.length ≤ maxLen) (hb : name nm = bn)
    (hm : ∀ w1, Below w.heap.size w w1 → Calls Try.prog 94 #[prV 3 nm to q A n c A' n' c'] w1 (TestEnd w1 bm)) :
    Calls Try.prog 71 #[prV 3 nm to q A n c A' n' c'] w (TestEnd w (bn && bm)) := by
  have HN := Lib.hid (fun w => NameB nm w bn hn hb)
  have hbx : Below w.heap.size w (box w 3 nm to q A n c A' n' c') := (Below.refl _ _).alloc (Nat.le_refl _) _
  have HBX := Lib.hid hbx; have H1 := Lib.hid hm
  have b0 := Blk.new w 54 #[.int .i64 3, strV nm, strV to, .int .i64 q, .slice A n c, .slice A' n' c']
  clear hbx hm hb
  go_enter Try.func71, Try.ntmps71
  go_wp2_with fail
  have HH : Hid (∀ w1, Below (box w 3 nm to q A n c A' n' c').heap.size (box w 3 nm to q A n c A' n' c').drew w1 → Blk w1 w.heap.size 54 #[.int .i64 3, strV nm, strV to, .int .i64 q, .slice A n c, .slice A' n' c']) := Lib.hid (fun w1 hb => (b0.drewN 1).below hb (by simp))
  have HT : Hid (∀ w1, Below (box w 3 nm to q A n c A' n' c').heap.size (box w 3 nm to q A n c A' n' c').drew w1 → Below w.heap.size w w1) := Lib.hid (fun w1 hb => (below_drewN HBX.out 1).trans (hb.mono HBX.out.size))
  have HBD : Hid (∀ d, Below w.heap.size w ((box w 3 nm to q A n c A' n' c').drewN d)) := Lib.hid (below_drewN HBX.out)
  generalize hW : box w 3 nm to q A n c A' n' c' = W at *
  unfold box at hW
  rw [hW] at b0 ⊢
  clear hW
  have x0 : W.cell? ⟨w.heap.size, 0, none⟩ = some (.int .i64 3) := b0.cell 0 rfl
  have x1 : W.cell? ⟨w.heap.size, 1, none⟩ = some (strV nm) := b0.cell 1 rfl
  have x2 : W.cell? ⟨w.heap.size, 2, none⟩ = some (strV to) := b0.cell 2 rfl
  have x3 : W.cell? ⟨w.heap.size, 3, none⟩ = some (.int .i64 q) := b0.cell 3 rfl
  have x4 : W.cell? ⟨w.heap.size, 4, none⟩ = some (.slice A n c) := b0.cell 4 rfl
  have x5 : W.cell? ⟨w.heap.size, 5, none⟩ = some (.slice A' n' c') := b0.cell 5 rfl
  clear b0
  have qi := fun w => index_may w 3 _ (by decide) rfl
  cases bn with
  | false =>
    have HN0 : Hid (∀ d : Nat, Calls Try.prog 40 #[strV nm] (W.drewN d) fun e w' => e = .returned (.bool false) ∧ ∃ m, w' = (W.drewN d).drewN m) := Lib.hid (fun d => (HN.out (W.drewN d)).mono (by rintro e w' ⟨rfl, rfl⟩; exact ⟨rfl, 0, rfl⟩))
    go_quiet (with_reducible exact Calls.quiet_of (HN0.out _))
    go_wp2
    go_ret
    exact ⟨rfl, HBD.out _⟩
  | true =>
    go_region_held3 (fun w' => w'.cell? ⟨w.heap.size, 0, none⟩ = some (.int .i64 3) ∧ w'.cell? ⟨w.heap.size, 1, none⟩ = some (strV nm) ∧ w'.cell? ⟨w.heap.size, 2, none⟩ = some (strV to) ∧ w'.cell? ⟨w.heap.size, 3, none⟩ = some (.int .i64 q) ∧ w'.cell? ⟨w.heap.size, 4, none⟩ = some (.slice A n c) ∧ w'.cell? ⟨w.heap.size, 5, none⟩ = some (.slice A' n' c'))
      (first | go_keep | (exact ⟨y0, y1, y2, y3, y4, y5⟩) | (exact ⟨z0, z1, z2, z3, z4, z5⟩))
      (first
        | (go_at_call 40; refine (HN.out W.drew).mono ?_; rintro e w1 ⟨rfl, rfl⟩)
        | (go_at_call 79; refine (forms W.drew).mono ?_; rintro e w1 ⟨rfl, hb1⟩; have b1 := HH.out w1 hb1; have hb01 := HT.out w1 hb1; have y0 : w1.cell? ⟨w.heap.size, 0, none⟩ = some (.int .i64 3) := b1.cell 0 rfl; have y1 : w1.cell? ⟨w.heap.size, 1, none⟩ = some (strV nm) := b1.cell 1 rfl; have y2 : w1.cell? ⟨w.heap.size, 2, none⟩ = some (strV to) := b1.cell 2 rfl; have y3 : w1.cell? ⟨w.heap.size, 3, none⟩ = some (.int .i64 q) := b1.cell 3 rfl; have y4 : w1.cell? ⟨w.heap.size, 4, none⟩ = some (.slice A n c) := b1.cell 4 rfl; have y5 : w1.cell? ⟨w.heap.size, 5, none⟩ = some (.slice A' n' c') := b1.cell 5 rfl; have HB1 := Lib.hid hb01; have B1 := Lib.hid b1; clear b1 hb1 hb01)
        | (go_at_call 94; refine (H1.out w1 HB1.out).mono ?_; rintro e w2 ⟨rfl, hb2⟩; have hb02 := below_via HB1.out hb2; have b2 := B1.out.below hb2 B1.out.lt; have z0 : w2.cell? ⟨w.heap.size, 0, none⟩ = some (.int .i64 3) := b2.cell 0 rfl; have z1 : w2.cell? ⟨w.heap.size, 1, none⟩ = some (strV nm) := b2.cell 1 rfl; have z2 : w2.cell? ⟨w.heap.size, 2, none⟩ = some (strV to) := b2.cell 2 rfl; have z3 : w2.cell? ⟨w.heap.size, 3, none⟩ = some (.int .i64 q) := b2.cell 3 rfl; have z4 : w2.cell? ⟨w.heap.size, 4, none⟩ = some (.slice A n c) := b2.cell 4 rfl; have z5 : w2.cell? ⟨w.heap.size, 5, none⟩ = some (.slice A' n' c') := b2.cell 5 rfl; have HB2 := Lib.hid hb02; clear b2 hb2 hb02))
    go_wp2
    go_ret
    exact ⟨ret_bool (by simp), HB2.out⟩

set_option maxHeartbeats 4000000 in
theorem MayP4 (A : Option Addr) (n c : Nat) (A' : Option Addr) (n' c' : Nat) (nm to : List UInt8) (q : Int) (w : World) (bn bm : Bool) (hn : nm.length ≤ maxLen) (hb : name nm = bn)
    (hm : ∀ w1, Below w.heap.size w w1 → Calls Try.prog 95 #[prV 4 nm to q A n c A' n' c'] w1 (TestEnd w1 bm)) :
    Calls Try.prog 71 #[prV 4 nm to q A n c A' n' c'] w (TestEnd w (bn && bm)) := by
  have HN := Lib.hid (fun w => NameB nm w bn hn hb)
  have hbx : Below w.heap.size w (box w 4 nm to q A n c A' n' c') := (Below.refl _ _).alloc (Nat.le_refl _) _
  have HBX := Lib.hid hbx; have H1 := Lib.hid hm
  have b0 := Blk.new w 54 #[.int .i64 4, strV nm, strV to, .int .i64 q, .slice A n c, .slice A' n' c']
  clear hbx hm hb
  go_enter Try.func71, Try.ntmps71
  go_wp2_with fail
  have HH : Hid (∀ w1, Below (box w 4 nm to q A n c A' n' c').heap.size (box w 4 nm to q A n c A' n' c').drew w1 → Blk w1 w.heap.size 54 #[.int .i64 4, strV nm, strV to, .int .i64 q, .slice A n c, .slice A' n' c']) := Lib.hid (fun w1 hb => (b0.drewN 1).below hb (by simp))
  have HT : Hid (∀ w1, Below (box w 4 nm to q A n c A' n' c').heap.size (box w 4 nm to q A n c A' n' c').drew w1 → Below w.heap.size w w1) := Lib.hid (fun w1 hb => (below_drewN HBX.out 1).trans (hb.mono HBX.out.size))
  have HBD : Hid (∀ d, Below w.heap.size w ((box w 4 nm to q A n c A' n' c').drewN d)) := Lib.hid (below_drewN HBX.out)
  generalize hW : box w 4 nm to q A n c A' n' c' = W at *
  unfold box at hW
  rw [hW] at b0 ⊢
  clear hW
  have x0 : W.cell? ⟨w.heap.size, 0, none⟩ = some (.int .i64 4) := b0.cell 0 rfl
  have x1 : W.cell? ⟨w.heap.size, 1, none⟩ = some (strV nm) := b0.cell 1 rfl
  have x2 : W.cell? ⟨w.heap.size, 2, none⟩ = some (strV to) := b0.cell 2 rfl
  have x3 : W.cell? ⟨w.heap.size, 3, none⟩ = some (.int .i64 q) := b0.cell 3 rfl
  have x4 : W.cell? ⟨w.heap.size, 4, none⟩ = some (.slice A n c) := b0.cell 4 rfl
  have x5 : W.cell? ⟨w.heap.size, 5, none⟩ = some (.slice A' n' c') := b0.cell 5 rfl
  clear b0
  have qi := fun w => index_may w 4 _ (by decide) rfl
  cases bn with
  | false =>
    have HN0 : Hid (∀ d : Nat, Calls Try.prog 40 #[strV nm] (W.drewN d) fun e w' => e = .returned (.bool false) ∧ ∃ m, w' = (W.drewN d).drewN m) := Lib.hid (fun d => (HN.out (W.drewN d)).mono (by rintro e w' ⟨rfl, rfl⟩; exact ⟨rfl, 0, rfl⟩))
    go_quiet (with_reducible exact Calls.quiet_of (HN0.out _))
    go_wp2
    go_ret
    exact ⟨rfl, HBD.out _⟩
  | true =>
    go_region_held3 (fun w' => w'.cell? ⟨w.heap.size, 0, none⟩ = some (.int .i64 4) ∧ w'.cell? ⟨w.heap.size, 1, none⟩ = some (strV nm) ∧ w'.cell? ⟨w.heap.size, 2, none⟩ = some (strV to) ∧ w'.cell? ⟨w.heap.size, 3, none⟩ = some (.int .i64 q) ∧ w'.cell? ⟨w.heap.size, 4, none⟩ = some (.slice A n c) ∧ w'.cell? ⟨w.heap.size, 5, none⟩ = some (.slice A' n' c'))
      (first | go_keep | (exact ⟨y0, y1, y2, y3, y4, y5⟩) | (exact ⟨z0, z1, z2, z3, z4, z5⟩))
      (first
        | (go_at_call 40; refine (HN.out W.drew).mono ?_; rintro e w1 ⟨rfl, rfl⟩)
        | (go_at_call 79; refine (forms W.drew).mono ?_; rintro e w1 ⟨rfl, hb1⟩; have b1 := HH.out w1 hb1; have hb01 := HT.out w1 hb1; have y0 : w1.cell? ⟨w.heap.size, 0, none⟩ = some (.int .i64 4) := b1.cell 0 rfl; have y1 : w1.cell? ⟨w.heap.size, 1, none⟩ = some (strV nm) := b1.cell 1 rfl; have y2 : w1.cell? ⟨w.heap.size, 2, none⟩ = some (strV to) := b1.cell 2 rfl; have y3 : w1.cell? ⟨w.heap.size, 3, none⟩ = some (.int .i64 q) := b1.cell 3 rfl; have y4 : w1.cell? ⟨w.heap.size, 4, none⟩ = some (.slice A n c) := b1.cell 4 rfl; have y5 : w1.cell? ⟨w.heap.size, 5, none⟩ = some (.slice A' n' c') := b1.cell 5 rfl; have HB1 := Lib.hid hb01; have B1 := Lib.hid b1; clear b1 hb1 hb01)
        | (go_at_call 95; refine (H1.out w1 HB1.out).mono ?_; rintro e w2 ⟨rfl, hb2⟩; have hb02 := below_via HB1.out hb2; have b2 := B1.out.below hb2 B1.out.lt; have z0 : w2.cell? ⟨w.heap.size, 0, none⟩ = some (.int .i64 4) := b2.cell 0 rfl; have z1 : w2.cell? ⟨w.heap.size, 1, none⟩ = some (strV nm) := b2.cell 1 rfl; have z2 : w2.cell? ⟨w.heap.size, 2, none⟩ = some (strV to) := b2.cell 2 rfl; have z3 : w2.cell? ⟨w.heap.size, 3, none⟩ = some (.int .i64 q) := b2.cell 3 rfl; have z4 : w2.cell? ⟨w.heap.size, 4, none⟩ = some (.slice A n c) := b2.cell 4 rfl; have z5 : w2.cell? ⟨w.heap.size, 5, none⟩ = some (.slice A' n' c') := b2.cell 5 rfl; have HB2 := Lib.hid hb02; clear b2 hb2 hb02))
    go_wp2
    go_ret
    exact ⟨ret_bool (by simp), HB2.out⟩

set_option maxHeartbeats 1000000 in
theorem MayNo (A : Option Addr) (n c : Nat) (A' : Option Addr) (n' c' : Nat) (k : Int) (nm to : List UInt8) (q : Int) (w : World) (hk : k < 0 ∨ 5 ≤ k) :
    Calls Try.prog 71 #[prV k nm to q A n c A' n' c'] w (TestEnd w false) := by
  have hbx : Below w.heap.size w (box w k nm to q A n c A' n' c') := (Below.refl _ _).alloc (Nat.le_refl _) _
  have HBX := Lib.hid hbx; clear hbx
  by_cases h0 : k < 0
  · go_enter Try.func71, Try.ntmps71
    go_wp2
    go_ret
    exact ⟨rfl, HBX.out⟩
  · have h5 : 5 ≤ k := by omega
    have h6 : ¬ k < 5 := by omega
    go_enter Try.func71, Try.ntmps71
    go_wp2
    go_ret
    exact ⟨rfl, HBX.out⟩

theorem MayP (A : Option Addr) (n c : Nat) (A' : Option Addr) (n' c' : Nat) (p : Ch) (w : World) (b : Bool) (hv : PV w w.heap.size A n c A' n' c' p) (hb : mayP p = b) :
    Calls Try.prog 71 #[prV p.k p.nm p.to p.h.pos A n c A' n' c'] w (TestEnd w b) := by
  obtain ⟨k, nm, to, h⟩ := p
  dsimp only at hv ⊢
  rcases kinds k with rfl | rfl | rfl | rfl | rfl | ⟨e0, e1, e2, e3, e4⟩
  · have h1 := MayP0 A n c A' n' c' nm to h.pos w (name nm) (decide (to = []) && noH h) hv.nm rfl (fun w1 hb1 => namesOne A n c A' n' c' 0 nm to h.pos h w1 _ rfl (hv_mv hv.h hb1) rfl)
    rw [← hb]; exact h1
  · have h1 := MayP1 A n c A' n' c' nm to h.pos w (name nm) (decide (to = []) && noH h) hv.nm rfl (fun w1 hb1 => namesOne A n c A' n' c' 1 nm to h.pos h w1 _ rfl (hv_mv hv.h hb1) rfl)
    rw [← hb]; exact h1
  · have h1 := MayP2 A n c A' n' c' nm to h.pos w (name nm) (name to && (decide (to ≠ nm) && noH h)) hv.nm rfl (fun w1 hb1 => namesTwo A n c A' n' c' 2 nm to h.pos h w1 _ hv.to rfl (hv_mv hv.h hb1) rfl)
    rw [← hb]; exact h1
  · have h1 := MayP3 A n c A' n' c' nm to h.pos w (name nm) (decide (to = []) && mayH h) hv.nm rfl (fun w1 hb1 => hasHunk A n c A' n' c' 3 nm to h.pos h w1 _ rfl (hv_mv hv.h hb1) rfl)
    rw [← hb]; exact h1
  · have h1 := MayP4 A n c A' n' c' nm to h.pos w (name nm) (decide (to = []) && (mayH h && decide (h.pos = 0))) hv.nm rfl (fun w1 hb1 => hasLines A n c A' n' c' 4 nm to h.pos h w1 _ rfl (hv_mv hv.h hb1) rfl)
    rw [← hb]; exact h1
  · rw [beq_eq_false_iff_ne] at e0 e1 e2 e3 e4
    have hf : mayP ⟨k, nm, to, h⟩ = false := by simp [mayP, e0, e1, e2, e3, e4]
    rw [← hb, hf]
    exact MayNo A n c A' n' c' k nm to h.pos w (by omega)

end Pr
end Go.Proofs.Ytdnkinajbebkoaa

set_option maxRecDepth 100000
namespace Go.Proofs.Ytdnkinajbebkoaa
open Go.RowKit
set_option linter.unusedVariables false
set_option linter.unusedSimpArgs false
namespace Pr
open Tx Df Sq Hk Tr

section
variable {w W X Y : World} {base n T b : Nat} {A : Option Addr} {k : Nat} {xs : List Value}
theorem belD0 (W : World) : Below W.heap.size W W.drew := below_drewN (Below.refl _ _) 1
theorem belD1 (W : World) (o : Obj) : Below W.heap.size W (W.alloc o).drew := below_drewN ((Below.refl _ _).alloc (Nat.le_refl _) o) 1
end

/-- How Turn ends: the same as PTEnd, of lines in memory of their own. -/
def PTEndH (w : World) (q : Ch) (e : Ending) (w' : World) : Prop :=
  ∃ A n c A' n' c', e = .returned (prV q.k q.nm q.to q.h.pos A n c A' n' c') ∧ PV w' w'.heap.size A n c A' n' c' q ∧ q.h.old.length = n ∧ q.h.new.length = n' ∧ (Hi w.heap.size A ∧ Hi w.heap.size A') ∧ Below w.heap.size w w'
theorem PTEndH.end_ {w w' : World} {q : Ch} {e : Ending} (h : PTEndH w q e w') : PTEnd w q e w' := by
  obtain ⟨A, n, c, A', n', c', h1, h2, h3, h4, _, h5⟩ := h
  exact ⟨A, n, c, A', n', c', h1, h2, h3, h4, h5⟩
end Pr
end Go.Proofs.Ytdnkinajbebkoaa

set_option maxRecDepth 100000
namespace Go.Proofs.Ytdnkinajbebkoaa
open Go.RowKit
set_option linter.unusedVariables false
namespace Tr
open Tx

end Tr
end Go.Proofs.Ytdnkinajbebkoaa

namespace Go.Proofs.Ytdnkinajbebkoaa
open Go.RowKit
set_option linter.unusedVariables false
namespace Tr
open Tx

end Tr
end Go.Proofs.Ytdnkinajbebkoaa

namespace Go.Proofs.Ytdnkinajbebkoaa
open Go.RowKit
set_option linter.unusedVariables false
namespace Tr
open Tx

set_option maxHeartbeats 1000000 in
theorem same (s s' : List UInt8) (A A' : Option Addr) (n c n' c' B : Nat) (ls ms : List (List UInt8)) (w : World) (hn : ls.length = n) (hn' : ms.length = n') (hnm : n ≤ maxLen) (hB : B ≤ w.heap.size) (hR : RdS w B A ls) (hR' : RdS w B A' ms) :
    Calls Try.prog 45 #[flV s A n c, flV s' A' n' c'] w (BoolEnd w (decide ((s, ls) = (s', ms)))) := by
  have HN := Lib.hid hn; have HN' := Lib.hid hn'; have R := Lib.hid hR; have R' := Lib.hid hR'
  clear hn hn' hR hR'
  have hw : Below w.heap.size w ((w.alloc (.cells #[strV s, .slice A n c] 72)).alloc (.cells #[strV s', .slice A' n' c'] 72)) := ((Below.refl _ _).alloc (Nat.le_refl _) _).alloc (by simp) _
  have HW := Lib.hid hw; clear hw
  by_cases he : s = s'
  · subst he
    have HD : Hid (decide ((s, ls) = (s, ms)) = decide (ls = ms)) := Lib.hid (by simp)
    go_enter Try.func45, Try.ntmps45
    go_wp2_with fail
    refine (EqualS A A' c c' n n' B ls ms _ HN.out HN'.out hnm (Rd.below R.out (HW.out.mono hB)) (Rd.below R'.out (HW.out.mono hB))).mono ?_
    rintro e w1 ⟨rfl, d, rfl⟩
    go_wp2
    go_ret
    exact ⟨ret_bool HD.out.symm, below_drewN HW.out _⟩
  · have HD : Hid (decide ((s, ls) = (s', ms)) = false) := Lib.hid (decide_eq_false (fun e => he (by injection e)))
    have h1 : (s == s') = false := by simpa using he
    clear he
    go_enter Try.func45, Try.ntmps45
    go_wp2
    go_ret
    exact ⟨ret_bool HD.out.symm, HW.out⟩

set_option maxHeartbeats 2000000 in
theorem EqualF (A A' : Option Addr) (n c n' c' B : Nat) (t u : TR) (w : World) (hn : t.length = n) (hn' : u.length = n') (hnm : n ≤ maxLen) (hfit : ∀ x ∈ t, x.2.length ≤ maxLen) (hB : B ≤ w.heap.size) (hR : RdT w B A t) (hR' : RdT w B A' u) :
    Calls Try.prog 44 #[.slice A n c, .slice A' n' c', .func (.func 45) #[] #[]] w (BoolEnd w (decide (t = u))) := by
  unfold maxLen at hnm
  have HN := Lib.hid hn; have HN' := Lib.hid hn'; have R := Lib.hid hR; have R' := Lib.hid hR'; have HFIT := Lib.hid hfit
  clear hn hn' hR hR' hfit
  by_cases h1 : n = n'
  · subst h1
    go_enter Try.func44, Try.ntmps44
    go_wp2
    go_loopw [17] (fun i wr => ∃ k : Nat, k ≤ n ∧ i = .int .i64 k ∧ t.take k = u.take k ∧ Below w.heap.size w wr) (fun i _ => n - (intOf i).toNat)
    case atStart => exact ⟨0, Nat.zero_le _, rfl, by simp, Below.refl _ _⟩
    case round =>
      obtain ⟨k, hk, rfl, hall, hbw⟩ := hrel
      have HA := Lib.hid hall; have HBW := Lib.hid hbw; clear hall hbw
      by_cases hlt : k < n
      · have hkt : k < t.length := by rw [HN.out]; exact hlt
        have hku : k < u.length := by rw [HN'.out]; exact hlt
        obtain ⟨a, rfl, hab, hat⟩ := (RdT.below R.out (HBW.out.mono hB)).at_ hkt
        obtain ⟨a', rfl, hab', hat'⟩ := (RdT.below R'.out (HBW.out.mono hB)).at_ hku
        have hl := HFIT.out _ (List.getElem_mem hkt)
        have hnx : t[k] = u[k] → t.take (k + 1) = u.take (k + 1) := fun e => take_eq_succ hkt hku HA.out e
        have hno : t[k] ≠ u[k] → decide (t = u) = false := fun e => decide_eq_false fun h => e (by subst h; rfl)
        generalize t[k] = x at *
        generalize u[k] = y at *
        obtain ⟨xs, xl⟩ := x
        obtain ⟨ys, yl⟩ := y
        have HNX := Lib.hid hnx; have HNO := Lib.hid hno
        clear hnx hno
        obtain ⟨c0, A1, c1, k1, _, r1⟩ := hat
        obtain ⟨c0', A2, c2, k2, _, r2⟩ := hat'
        dsimp only at c0 k1 r1 c0' k2 r2 hl
        obtain ⟨m1, hm1⟩ : ∃ m, xl.length = m := ⟨_, rfl⟩
        obtain ⟨m2, hm2⟩ : ∃ m, yl.length = m := ⟨_, rfl⟩
        rw [hm1] at k1 hl
        rw [hm2] at k2
        have HM1 := Lib.hid hm1; have HM2 := Lib.hid hm2; have R1 := Lib.hid r1; have R2 := Lib.hid r2
        clear hm1 hm2 r1 r2
        have hBW : B ≤ wr.heap.size := Nat.le_trans hB HBW.out.size
        have hba : Below wr.heap.size wr ((wr.alloc (.cells #[strV xs, .slice A1 m1 c1] 72)).alloc (.cells #[strV ys, .slice A2 m2 c2] 72)) := ((Below.refl _ _).alloc (Nat.le_refl _) _).alloc (by simp) _
        have HBA := Lib.hid hba; clear hba
        have hcell : ∀ o, (wr.alloc o).cell? (a'.add (k * 2)) = some (strV ys) := fun o => cell_alc o c0'
        have hcell2 : ∀ o, (wr.alloc o).cell? ⟨(a'.add (k * 2)).block, (a'.add (k * 2)).off + 1, none⟩ = some (.slice A2 m2 c2) := fun o => cell_alc o k2
        have g0 := hcell (.cells #[strV xs, .slice A1 m1 c1] 72)
        have g1 := hcell2 (.cells #[strV xs, .slice A1 m1 c1] 72)
        clear hcell hcell2
        cases hq : decide ((xs, xl) = (ys, yl)) with
        | true =>
          have HQ := Lib.hid (HNX.out (of_decide_eq_true hq))
          have HQ2 := Lib.hid hq
          clear hq
          go_wp2_with fail
          refine (same xs ys A1 A2 m1 c1 m2 c2 B xl yl _ HM1.out HM2.out hl (Nat.le_trans hBW HBA.out.size) (Rd.below R1.out (HBA.out.mono hBW)) (Rd.below R2.out (HBA.out.mono hBW))).mono ?_
          rintro e w2 ⟨rfl, hb2⟩
          rw [HQ2.out]
          have HB2 := Lib.hid (HBW.out.trans ((HBA.out.trans (hb2.mono HBA.out.size)).mono HBW.out.size))
          clear hb2
          go_wp2
          go_roundw
          case rel => exact ⟨k + 1, by omega, by go_num, HQ.out, HB2.out⟩
          case measure => simp [intOf]; omega
        | false =>
          have HQ := Lib.hid (HNO.out (of_decide_eq_false hq))
          have HQ2 := Lib.hid hq
          clear hq
          go_wp2_with fail
          refine (same xs ys A1 A2 m1 c1 m2 c2 B xl yl _ HM1.out HM2.out hl (Nat.le_trans hBW HBA.out.size) (Rd.below R1.out (HBA.out.mono hBW)) (Rd.below R2.out (HBA.out.mono hBW))).mono ?_
          rintro e w2 ⟨rfl, hb2⟩
          rw [HQ2.out]
          have HB2 := Lib.hid (HBW.out.trans ((HBA.out.trans (hb2.mono HBA.out.size)).mono HBW.out.size))
          clear hb2
          go_wp2
          go_ret
          exact ⟨ret_bool HQ.out.symm, HB2.out⟩
      · have HD : Hid (decide (t = u) = true) := Lib.hid (by
          have := HA.out
          rw [List.take_of_length_le (by rw [HN.out]; omega), List.take_of_length_le (by rw [HN'.out]; omega)] at this
          exact decide_eq_true this)
        go_wp2
        go_ret
        exact ⟨ret_bool HD.out.symm, HBW.out⟩
  · have HD : Hid (decide (t = u) = false) := Lib.hid (decide_eq_false (fun e => h1 (by rw [← HN.out, ← HN'.out, e])))
    have hne : ((n : Int) != (n' : Int)) = true := by rw [bne_iff_ne]; omega
    go_enter Try.func44, Try.ntmps44
    go_wp2
    go_ret
    exact ⟨ret_bool HD.out.symm, Below.refl _ _⟩

theorem Same (A A' : Option Addr) (n c n' c' B : Nat) (t u : TR) (w : World) (hn : t.length = n) (hn' : u.length = n') (hnm : n ≤ maxLen) (hfit : ∀ x ∈ t, x.2.length ≤ maxLen) (hB : B ≤ w.heap.size) (hR : RdT w B A t) (hR' : RdT w B A' u) :
    Calls Try.prog 23 #[.slice A n c, .slice A' n' c'] w (BoolEnd w (decide (t = u))) := by
  have H := Lib.hid (EqualF A A' n c n' c' B t u w hn hn' hnm hfit hB hR hR')
  go_enter Try.func23, Try.ntmps23
  go_wp2_with fail
  refine H.out.mono ?_
  rintro e w1 ⟨rfl, hb⟩
  go_wp2
  go_ret
  exact ⟨rfl, hb⟩

end Tr
end Go.Proofs.Ytdnkinajbebkoaa

namespace Go.Proofs.Ytdnkinajbebkoaa
open Go.RowKit
set_option linter.unusedVariables false
namespace Tr
open Tx

def SmallL (l : List (List UInt8)) : Prop := l.length ≤ 100000 ∧ ∀ x ∈ l, x.length ≤ 100000
theorem small_put {t : TR} {s : List UInt8} {l : List (List UInt8)} {k : Nat} (h : Small t) (hk : t.length ≤ k) (hk2 : k + 1 ≤ 100000) (hs : s.length ≤ 100000) (hl : SmallL l) : Small (put Op.bytesLess t s l) ∧ (put Op.bytesLess t s l).length ≤ k + 1 := by
  have hle : (put Op.bytesLess t s l).length ≤ k + 1 := by rw [put_len]; split <;> omega
  refine ⟨⟨by omega, fun x hx => ?_⟩, hle⟩
  rcases put_mem hx with rfl | hx
  · exact ⟨hs, hl.1, hl.2⟩
  · exact h.all x hx
theorem small_del {t : TR} {s : List UInt8} {k : Nat} (h : Small t) (hk : t.length ≤ k) : Small (del t s) ∧ (del t s).length ≤ k := by
  have hs := del_sub t s
  exact ⟨⟨Nat.le_trans hs.length_le h.len, fun x hx => h.all x (hs.subset hx)⟩, Nat.le_trans hs.length_le hk⟩
section
variable {A A' : Option Addr} {n c m c' B : Nat} {t u P : TR} {s : List UInt8} {l L : List (List UInt8)} {w : World} {b : Bool} {k : Nat}
end

theorem RdT.mv {w w' : World} {A : Option Addr} {t : TR} (h : RdT w w.heap.size A t) (hb : Below w.heap.size w w') : RdT w' w'.heap.size A t := (h.below hb).up hb.size
theorem below_mv {w0 w w' : World} (h : Below w0.heap.size w0 w) (hb : Below w.heap.size w w') : Below w0.heap.size w0 w' := h.trans (hb.mono h.size)

end Tr
end Go.Proofs.Ytdnkinajbebkoaa

set_option maxRecDepth 100000
namespace Go.Proofs.Ytdnkinajbebkoaa
open Go.RowKit
set_option linter.unusedVariables false
namespace Pr
open Tx Df Sq Hk Tr

section
variable {A0 A A' D D' : Option Addr} {n0 c0 n c n' c' m e m' e' : Nat} {t P : TR} {p q p2 : Ch} {w : World} {b : Bool} {k : Nat} {r : Int}
end

theorem PV.len {w : World} {B : Nat} {A A' : Option Addr} {n c n' c' : Nat} {p : Ch} (h : PV w B A n c A' n' c' p) (hp : lightP p = true) : n ≤ 1000 ∧ n' ≤ 1000 := by
  have := lightP_h hp
  rw [h.h.l, h.h.l'] at this
  omega

end Pr
end Go.Proofs.Ytdnkinajbebkoaa

namespace Go.Proofs.Ytdnkinajbebkoaa
open Go.RowKit
set_option linter.unusedVariables false
namespace Pr
open Tx Df Sq Hk Tr

end Pr
end Go.Proofs.Ytdnkinajbebkoaa

set_option maxRecDepth 100000
namespace Go.Proofs.Ytdnkinajbebkoaa
open Go.RowKit
set_option linter.unusedVariables false
namespace Pr
open Tx Df Sq Hk Tr

theorem way_light {p q x y : Ch} (w : Way p q x y) (hp : lightP p = true) (hq : lightP q = true) : lightP x = true ∧ lightP y = true := by
  have hk := way_kinds w
  have split : ∀ {r : Ch}, lightP r = true ↔ (light r.h.old 300 && light r.h.new 300) = true ∧ r.nm.length ≤ 100 ∧ r.to.length ≤ 100 := by
    intro r
    unfold lightP
    simp only [Bool.and_eq_true, decide_eq_true_eq]
  rw [split] at hp hq ⊢
  rw [split]
  rw [hk.1.2.2.1, hk.1.2.2.2, hk.1.2.1, hk.2.2.2.1, hk.2.2.2.2, hk.2.2.1]
  cases w with
  | apart h => exact ⟨hq, hp⟩
  | both kp kq hn u v h => exact ⟨hq, hp⟩
  | out kp kq hn => exact ⟨⟨hq.1, hp.2.1, hq.2.2⟩, hp⟩
  | into kq kp hn => exact ⟨hq, hp.1, hq.2.2, hp.2.2⟩

/-- A tree of at most k files of at most l lines. -/
structure Most (t : TR) (k l : Nat) : Prop where
  s : Small t
  k : t.length ≤ k
  l : ∀ x ∈ t, x.2.length ≤ l
theorem applyL_300 {l : List (List UInt8)} {p : Ch} (hp : lightP p = true) : (lineL l p).length ≤ l.length + 300 ∧ ∀ x ∈ lineL l p, x ∈ l ∨ x.length ≤ 100000 := by
  have h2 := lightP_h hp
  have h4 : ∀ x ∈ p.h.new, x.length ≤ 100000 := fun x hx => by
    simp only [lightP, light, Bool.and_eq_true, decide_eq_true_eq, List.all_eq_true] at hp
    have := hp.1.2.2 x hx
    omega
  unfold lineL
  split
  · refine ⟨Nat.le_trans applyL_len (by omega), fun x hx => ?_⟩
    unfold applyL at hx
    split at hx
    · simp only [swp, List.mem_append] at hx
      rcases hx with hx | hx | hx
      · exact .inl (List.mem_of_mem_take hx)
      · exact .inr (h4 x hx)
      · exact .inl (List.mem_of_mem_drop hx)
    · cases hx
  · exact ⟨by omega, fun x hx => .inr (h4 x hx)⟩
theorem Most.put {t : TR} {k l : Nat} {s : List UInt8} {ls : List (List UInt8)} (h : Most t k l) (hk : k + 1 ≤ 100000) (hs : s.length ≤ 100000) (hl : SmallL ls) (hll : ls.length ≤ l) : Most (put lt t s ls) (k + 1) l := by
  obtain ⟨h1, h2⟩ := small_put h.s h.k hk hs hl
  refine ⟨h1, h2, fun x hx => ?_⟩
  rcases put_mem hx with rfl | hx
  · exact hll
  · exact h.l x hx
theorem Most.del {t : TR} {k l : Nat} {s : List UInt8} (h : Most t k l) : Most (del t s) k l := by
  obtain ⟨h1, h2⟩ := small_del (s := s) h.s h.k
  exact ⟨h1, h2, fun x hx => h.l x ((del_sub t s).subset hx)⟩
theorem Most.mono {t : TR} {k l k' l' : Nat} (h : Most t k l) (hk : k ≤ k') (hl : l ≤ l') : Most t k' l' := ⟨h.s, Nat.le_trans h.k hk, fun x hx => Nat.le_trans (h.l x hx) hl⟩
theorem Most.do {t u : TR} {p : Ch} {r : Int} {k l : Nat} (h : Most t k l) (hk : k + 1 ≤ 100000) (hl : l + 300 ≤ 100000) (hp : lightP p = true) (hd : doP t p = (r, u)) : Most u (k + 1) (l + 300) := by
  have hnm : p.nm.length ≤ 100000 ∧ p.to.length ≤ 100000 := by
    simp only [lightP, Bool.and_eq_true, decide_eq_true_eq] at hp
    omega
  by_cases h0 : r = 0
  · subst h0
    obtain ⟨_, hd⟩ := doP_cases hd
    rcases hd with ⟨_, _, rfl⟩ | ⟨_, _, rfl⟩ | ⟨_, ls, hg, _, rfl⟩ | ⟨_, ls, hg, _, rfl⟩
    · exact (h.mono (Nat.le_refl _) (Nat.le_add_right _ _)).put hk hnm.1 ⟨Nat.zero_le _, fun x hx => by cases hx⟩ (Nat.zero_le _)
    · exact h.del.mono (Nat.le_succ _) (Nat.le_add_right _ _)
    · have h2 := h.s.all _ (get_mem hg)
      exact (h.del.mono (Nat.le_refl _) (Nat.le_add_right _ _)).put hk hnm.2 ⟨h2.l, h2.s⟩ (Nat.le_trans (h.l _ (get_mem hg)) (Nat.le_add_right _ _))
    · have h2 := h.s.all _ (get_mem hg)
      have h3 := h.l _ (get_mem hg)
      obtain ⟨a1, a2⟩ := applyL_300 (l := ls) hp
      dsimp only at h3
      exact (h.mono (Nat.le_refl _) (Nat.le_add_right _ _)).put hk hnm.1 ⟨by omega, fun x hx => (a2 x hx).elim (fun h => h2.s x h) id⟩ (by omega)
  · have h1 := doP_none (t := t) (p := p) (by rw [hd]; exact h0)
    rw [hd] at h1
    dsimp only at h1
    subst h1
    exact ⟨⟨by simp, fun x hx => by cases hx⟩, Nat.zero_le _, fun x hx => by cases hx⟩
theorem most_light {t : TR} (hl : lightT t = true) : Most t 40 300 := by
  obtain ⟨h40, hs⟩ := lightT_small hl
  refine ⟨hs, h40, fun x hx => ?_⟩
  simp only [lightT, Bool.and_eq_true, decide_eq_true_eq, List.all_eq_true] at hl
  have := hl.2 x hx
  simp only [light, Bool.and_eq_true, decide_eq_true_eq] at this
  omega
theorem grown {t u : TR} {p : Ch} {r : Int} (hl : lightT t = true) (hp : lightP p = true) (hd : doP t p = (r, u)) : Most u 41 600 := (most_light hl).do (by decide) (by decide) hp hd
end Pr
end Go.Proofs.Ytdnkinajbebkoaa
