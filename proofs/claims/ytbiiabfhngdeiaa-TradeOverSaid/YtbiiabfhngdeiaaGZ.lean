/-
  Words and contracts, joined: PsPlain PsMem PsWay PsThree PsOwn.
-/
import Derived.Test.YtbiiabfhngdeiaaGR
import Derived.Test.YtbiiabfhngdeiaaGW
import Derived.Test.YtbiiabfhngdeiaaGQ
set_option maxRecDepth 100000
namespace Go.Proofs.Ytbiiabfhngdeiaa
namespace Pr
open Tx Sq Hk Tr
set_option linter.unusedVariables false

/-- Two name no file both. -/
structure Apart (p q : Ch) : Prop where
  nn : p.nm ≠ q.nm
  tn : p.k = 2 → p.to ≠ q.nm
  nt : q.k = 2 → p.nm ≠ q.to
  tt : p.k = 2 → q.k = 2 → p.to ≠ q.to
theorem Apart.symm {p q : Ch} (h : Apart p q) : Apart q p := ⟨h.nn.symm, fun hk => (h.nt hk).symm, fun hk => (h.tn hk).symm, fun h1 h2 => (h.tt h2 h1).symm⟩

def namesP (p : Ch) (n : List UInt8) : Bool := decide (p.nm = n) || (decide (p.k = 2) && decide (p.to = n))
def apartP (p q : Ch) : Bool := !namesP p q.nm && (decide (q.k ≠ 2) || !namesP p q.to)
theorem apartP_iff {p q : Ch} : apartP p q = true ↔ Apart p q := by
  unfold apartP namesP
  simp only [Bool.and_eq_true, Bool.or_eq_true, Bool.not_eq_true', Bool.or_eq_false_iff, Bool.and_eq_false_iff, decide_eq_true_eq, decide_eq_false_iff_not]
  constructor
  · rintro ⟨⟨h1, h2⟩, h3⟩
    refine ⟨h1, fun hk => h2.resolve_left (fun h => h hk), fun hk => ?_, fun hk hk' => ?_⟩
    · rcases h3 with h3 | h3
      · exact absurd hk h3
      · exact h3.1
    · rcases h3 with h3 | h3
      · exact absurd hk' h3
      · exact h3.2.resolve_left (fun h => h hk)
  · rintro ⟨h1, h2, h3, h4⟩
    refine ⟨⟨h1, ?_⟩, ?_⟩
    · by_cases hk : p.k = 2
      · exact .inr (h2 hk)
      · exact .inl hk
    · by_cases hk : q.k = 2
      · refine .inr ⟨h3 hk, ?_⟩
        by_cases hk' : p.k = 2
        · exact .inr (h4 hk' hk)
        · exact .inl hk'
      · exact .inl hk

/-- What two changes are when the second one is ahead. -/
def passP (p q : Ch) : Option (Ch × Ch) :=
  if mayP p = false ∨ mayP q = false then none
  else if apartP p q = true then some (q, p)
  else if p.k = 3 ∧ q.k = 3 then (Sw.passH p.h q.h).map fun z => (⟨q.k, q.nm, q.to, z.1⟩, ⟨p.k, p.nm, p.to, z.2⟩)
  else if p.k = 2 ∧ (q.k = 3 ∨ q.k = 4) ∧ q.nm = p.to then some (⟨q.k, p.nm, q.to, q.h⟩, p)
  else if q.k = 2 ∧ (p.k = 3 ∨ p.k = 4) ∧ p.nm = q.nm then some (q, ⟨p.k, q.to, p.to, p.h⟩)
  else none

/-- The ways in which two pass. -/
inductive Way (p q : Ch) : Ch → Ch → Prop
  | apart (h : Apart p q) : Way p q q p
  | both (hp : p.k = 3) (hq : q.k = 3) (hn : p.nm = q.nm) (u v : HU) (h : Sw.passH p.h q.h = some (u, v)) : Way p q ⟨q.k, q.nm, q.to, u⟩ ⟨p.k, p.nm, p.to, v⟩
  | out (hp : p.k = 2) (hq : q.k = 3 ∨ q.k = 4) (hn : q.nm = p.to) : Way p q ⟨q.k, p.nm, q.to, q.h⟩ p
  | into (hq : q.k = 2) (hp : p.k = 3 ∨ p.k = 4) (hn : p.nm = q.nm) : Way p q q ⟨p.k, q.to, p.to, p.h⟩

theorem not_apart {p q : Ch} (h : ¬ Apart p q) : apartP p q ≠ true := fun h1 => h (apartP_iff.1 h1)
theorem may_not {p q : Ch} (hp : mayP p = true) (hq : mayP q = true) : ¬ (mayP p = false ∨ mayP q = false) := by rw [hp, hq]; simp
theorem passP_apart {p q : Ch} (hp : mayP p = true) (hq : mayP q = true) (h : Apart p q) : passP p q = some (q, p) := by
  unfold passP; rw [if_neg (may_not hp hq), if_pos (apartP_iff.2 h)]
theorem passP_both {p q : Ch} (hp : mayP p = true) (hq : mayP q = true) (kp : p.k = 3) (kq : q.k = 3) (hn : p.nm = q.nm) {u v : HU} (h : Sw.passH p.h q.h = some (u, v)) : passP p q = some (⟨q.k, q.nm, q.to, u⟩, ⟨p.k, p.nm, p.to, v⟩) := by
  unfold passP; rw [if_neg (may_not hp hq), if_neg (not_apart fun a => a.nn hn), if_pos ⟨kp, kq⟩, h]; rfl
theorem passP_out {p q : Ch} (hp : mayP p = true) (hq : mayP q = true) (kp : p.k = 2) (kq : q.k = 3 ∨ q.k = 4) (hn : q.nm = p.to) : passP p q = some (⟨q.k, p.nm, q.to, q.h⟩, p) := by
  unfold passP; rw [if_neg (may_not hp hq), if_neg (not_apart fun a => a.tn kp hn.symm), if_neg (by omega), if_pos ⟨kp, kq, hn⟩]
theorem passP_into {p q : Ch} (hp : mayP p = true) (hq : mayP q = true) (kq : q.k = 2) (kp : p.k = 3 ∨ p.k = 4) (hn : p.nm = q.nm) : passP p q = some (q, ⟨p.k, q.to, p.to, p.h⟩) := by
  unfold passP; rw [if_neg (may_not hp hq), if_neg (not_apart fun a => a.nn hn), if_neg (by omega), if_neg (by omega), if_pos ⟨kq, kp, hn⟩]
/-- Two patches that are not apart are of one file. -/
theorem both_name {p q : Ch} (h : ¬ Apart p q) (hp : p.k = 3) (hq : q.k = 3) : p.nm = q.nm := by
  by_cases hn : p.nm = q.nm
  · exact hn
  · exact absurd ⟨hn, fun h => absurd h (by omega), fun h => absurd h (by omega), fun h => absurd h (by omega)⟩ h
theorem passP_way {p q x y : Ch} (h : passP p q = some (x, y)) : mayP p = true ∧ mayP q = true ∧ Way p q x y := by
  unfold passP at h
  split at h
  · cases h
  · rename_i hm
    have hp : mayP p = true := by
      cases hb : mayP p with
      | true => rfl
      | false => exact absurd (.inl hb) hm
    have hq : mayP q = true := by
      cases hb : mayP q with
      | true => rfl
      | false => exact absurd (.inr hb) hm
    refine ⟨hp, hq, ?_⟩
    split at h
    · rename_i ha
      injection h with h; injection h with h1 h2
      subst h1 h2
      exact .apart (apartP_iff.1 ha)
    · rename_i ha
      have ha : ¬ Apart p q := fun a => ha (apartP_iff.2 a)
      split at h
      · rename_i hk
        cases hz : Sw.passH p.h q.h with
        | none => rw [hz] at h; cases h
        | some z =>
          rw [hz] at h
          injection h with h; injection h with h1 h2
          subst h1 h2
          exact .both hk.1 hk.2 (both_name ha hk.1 hk.2) z.1 z.2 hz
      · split at h
        · rename_i hk
          injection h with h; injection h with h1 h2
          subst h1 h2
          exact .out hk.1 hk.2.1 hk.2.2
        · split at h
          · rename_i hk
            injection h with h; injection h with h1 h2
            subst h1 h2
            exact .into hk.1 hk.2.1 hk.2.2
          · cases h
theorem passP_of_way {p q x y : Ch} (hp : mayP p = true) (hq : mayP q = true) (w : Way p q x y) : passP p q = some (x, y) := by
  cases w with
  | apart h => exact passP_apart hp hq h
  | both kp kq hn u v h => exact passP_both hp hq kp kq hn h
  | out kp kq hn => exact passP_out hp hq kp kq hn
  | into kq kp hn => exact passP_into hp hq kq kp hn

theorem may_h {p : Ch} (hm : mayP p = true) (hk : p.k = 3 ∨ p.k = 4) : name p.nm = true ∧ p.to = [] ∧ mayH p.h = true ∧ (p.k = 4 → p.h.pos = 0) := by
  obtain ⟨hn, h⟩ := mayP_cases.1 hm
  rcases h with ⟨h, _⟩ | ⟨h, _⟩ | ⟨h, h1, h2⟩ | ⟨h, h1, h2, h3⟩
  · omega
  · omega
  · exact ⟨hn, h1, h2, fun h => by omega⟩
  · exact ⟨hn, h1, h2, fun _ => h3⟩
theorem h_may {p : Ch} (hk : p.k = 3 ∨ p.k = 4) (hn : name p.nm = true) (ht : p.to = []) (hh : mayH p.h = true) (h4 : p.k = 4 → p.h.pos = 0) : mayP p = true := by
  rw [mayP_cases]
  refine ⟨hn, ?_⟩
  rcases hk with hk | hk
  · exact .inr (.inr (.inl ⟨hk, ht, hh⟩))
  · exact .inr (.inr (.inr ⟨hk, ht, hh, h4 hk⟩))
theorem may_2 {p : Ch} (hm : mayP p = true) (hk : p.k = 2) : name p.nm = true ∧ name p.to = true ∧ p.to ≠ p.nm := by
  obtain ⟨hn, h⟩ := mayP_cases.1 hm
  rcases h with ⟨h, _⟩ | ⟨h, h1, h2, _⟩ | ⟨h, _⟩ | ⟨h, _⟩
  · omega
  · exact ⟨hn, h1, h2⟩
  · omega
  · omega
/-- What passed may be. -/
theorem way_may {p q x y : Ch} (hp : mayP p = true) (hq : mayP q = true) (w : Way p q x y) : mayP x = true ∧ mayP y = true := by
  cases w with
  | apart h => exact ⟨hq, hp⟩
  | both kp kq hn u v h =>
    obtain ⟨a1, a2, a3, a4⟩ := may_h hp (.inl kp)
    obtain ⟨b1, b2, b3, b4⟩ := may_h hq (.inl kq)
    obtain ⟨m1, m2⟩ := Sw.passH_mays h
    exact ⟨h_may (.inl kq) b1 b2 m1 (fun h => by simp only at h; omega), h_may (.inl kp) a1 a2 m2 (fun h => by simp only at h; omega)⟩
  | out kp kq hn =>
    obtain ⟨b1, b2, b3, b4⟩ := may_h hq kq
    exact ⟨h_may kq (may_2 hp kp).1 b2 b3 b4, hp⟩
  | into kq kp hn =>
    obtain ⟨a1, a2, a3, a4⟩ := may_h hp kp
    exact ⟨hq, h_may kp (may_2 hq kq).2.1 a2 a3 a4⟩

/-- Those that passed one another pass back to what they were. -/
theorem way_back {p q x y : Ch} (w : Way p q x y) : Way x y p q := by
  cases w with
  | apart h => exact .apart h.symm
  | both kp kq hn u v h => exact Way.both (p := ⟨q.k, q.nm, q.to, u⟩) (q := ⟨p.k, p.nm, p.to, v⟩) kq kp hn.symm p.h q.h (Sw.passH_back h)
  | out kp kq hn =>
    have := Way.into (p := ⟨q.k, p.nm, q.to, q.h⟩) (q := p) kp kq rfl
    rw [← hn] at this
    exact this
  | into kq kp hn =>
    have := Way.out (p := q) (q := ⟨p.k, q.to, p.to, p.h⟩) kq kp rfl
    rw [← hn] at this
    exact this
theorem passP_back {p q x y : Ch} (h : passP p q = some (x, y)) : passP x y = some (p, q) := by
  obtain ⟨hp, hq, w⟩ := passP_way h
  obtain ⟨hx, hy⟩ := way_may hp hq w
  exact passP_of_way hx hy (way_back w)

theorem turnP_k (p : Ch) : (turnP p).k = 2 ↔ p.k = 2 := by
  by_cases h0 : p.k = 0
  · rw [turnP_0 h0, h0]; simp
  · by_cases h1 : p.k = 1
    · rw [turnP_1 h1, h1]; simp
    · by_cases h2 : p.k = 2
      · rw [turnP_2 h2, h2]
      · rw [turnP_h h0 h1 h2]
theorem turnP_nm {p : Ch} (h : p.k ≠ 2) : (turnP p).nm = p.nm := by
  by_cases h0 : p.k = 0
  · rw [turnP_0 h0]
  · by_cases h1 : p.k = 1
    · rw [turnP_1 h1]
    · rw [turnP_h h0 h1 h]
theorem apart_turn1 {p q : Ch} (h : Apart p q) : Apart (turnP p) q := by
  by_cases hk : p.k = 2
  · rw [turnP_2 hk]
    exact ⟨h.tn hk, fun _ => h.nn, fun hq => h.tt hk hq, fun _ hq => h.nt hq⟩
  · have hk' : (turnP p).k ≠ 2 := fun e => hk ((turnP_k p).1 e)
    exact ⟨by rw [turnP_nm hk]; exact h.nn, fun e => absurd e hk', fun hq => by rw [turnP_nm hk]; exact h.nt hq, fun e => absurd e hk'⟩
/-- Turned they pass in the other order. -/
theorem way_turn {p q x y : Ch} (w : Way p q x y) : Way (turnP q) (turnP p) (turnP y) (turnP x) := by
  cases w with
  | apart h => exact .apart (apart_turn1 (apart_turn1 h).symm)
  | both kp kq hn u v h =>
    have e1 : turnP q = ⟨q.k, q.nm, q.to, turn q.h⟩ := turnP_h (by omega) (by omega) (by omega)
    have e2 : turnP p = ⟨p.k, p.nm, p.to, turn p.h⟩ := turnP_h (by omega) (by omega) (by omega)
    have e3 : turnP ⟨p.k, p.nm, p.to, v⟩ = ⟨p.k, p.nm, p.to, turn v⟩ := turnP_h (by simp only; omega) (by simp only; omega) (by simp only; omega)
    have e4 : turnP ⟨q.k, q.nm, q.to, u⟩ = ⟨q.k, q.nm, q.to, turn u⟩ := turnP_h (by simp only; omega) (by simp only; omega) (by simp only; omega)
    rw [e1, e2, e3, e4]
    exact Way.both (p := ⟨q.k, q.nm, q.to, turn q.h⟩) (q := ⟨p.k, p.nm, p.to, turn p.h⟩) kq kp hn.symm (turn v) (turn u) (Sw.passH_turn h)
  | out kp kq hn =>
    have e1 : turnP q = ⟨q.k, q.nm, q.to, turn q.h⟩ := turnP_h (by omega) (by omega) (by omega)
    have e2 : turnP p = ⟨2, p.to, p.nm, p.h⟩ := turnP_2 kp
    have e4 : turnP ⟨q.k, p.nm, q.to, q.h⟩ = ⟨q.k, p.nm, q.to, turn q.h⟩ := turnP_h (by simp only; omega) (by simp only; omega) (by simp only; omega)
    rw [e1, e2, e4]
    exact Way.into (p := ⟨q.k, q.nm, q.to, turn q.h⟩) (q := ⟨2, p.to, p.nm, p.h⟩) rfl kq hn
  | into kq kp hn =>
    have e1 : turnP p = ⟨p.k, p.nm, p.to, turn p.h⟩ := turnP_h (by omega) (by omega) (by omega)
    have e2 : turnP q = ⟨2, q.to, q.nm, q.h⟩ := turnP_2 kq
    have e4 : turnP ⟨p.k, q.to, p.to, p.h⟩ = ⟨p.k, q.to, p.to, turn p.h⟩ := turnP_h (by simp only; omega) (by simp only; omega) (by simp only; omega)
    rw [e1, e2, e4]
    exact Way.out (p := ⟨2, q.to, q.nm, q.h⟩) (q := ⟨p.k, p.nm, p.to, turn p.h⟩) rfl kp hn
theorem passP_turn {p q x y : Ch} (h : passP p q = some (x, y)) : passP (turnP q) (turnP p) = some (turnP y, turnP x) := by
  obtain ⟨hp, hq, w⟩ := passP_way h
  exact passP_of_way (mayP_turn1 hq) (mayP_turn1 hp) (way_turn w)
theorem passP_turn_none {p q : Ch} (h : passP p q = none) : passP (turnP q) (turnP p) = none := by
  cases hb : passP (turnP q) (turnP p) with
  | none => rfl
  | some z =>
    have := passP_turn (x := z.1) (y := z.2) hb
    rw [turnP_turnP, turnP_turnP, h] at this
    cases this

/-- Passing one another changes no kind, and no lines. -/
theorem way_kinds {p q x y : Ch} (w : Way p q x y) : (x.k = q.k ∧ x.to = q.to ∧ x.h.old = q.h.old ∧ x.h.new = q.h.new) ∧ (y.k = p.k ∧ y.to = p.to ∧ y.h.old = p.h.old ∧ y.h.new = p.h.new) := by
  cases w with
  | apart h => exact ⟨⟨rfl, rfl, rfl, rfl⟩, rfl, rfl, rfl, rfl⟩
  | both kp kq hn u v h =>
    obtain ⟨_, a1, a2, a3, a4⟩ := Sw.pass_moves (x := u) (y := v) (Sw.passH_may h).2.2.1
    exact ⟨⟨rfl, rfl, a1, a2⟩, rfl, rfl, a3, a4⟩
  | out kp kq hn => exact ⟨⟨rfl, rfl, rfl, rfl⟩, rfl, rfl, rfl, rfl⟩
  | into kq kp hn => exact ⟨⟨rfl, rfl, rfl, rfl⟩, rfl, rfl, rfl, rfl⟩
/-- Two that do not pass. -/
theorem passP_never {p q : Ch} (hn : p.nm = q.nm) (h : (p.k ≤ 2 ∧ q.k ≤ 2) ∨ (p.k = 4 ∧ 3 ≤ q.k) ∨ (q.k = 4 ∧ 3 ≤ p.k)) : passP p q = none := by
  cases hb : passP p q with
  | none => rfl
  | some z =>
    obtain ⟨_, _, w⟩ := passP_way (x := z.1) (y := z.2) hb
    generalize z.1 = x at *
    generalize z.2 = y at *
    cases w with
    | apart a => exact absurd hn a.nn
    | both kp kq => omega
    | out kp kq => omega
    | into kq kp => omega

/-! What they do to a tree. -/
theorem doP_local {t t' u : TR} {p : Ch} (hu : Up lt t) (hu' : Up lt t') (h : doP t p = (0, u)) (h1 : get t' p.nm = get t p.nm) (h2 : p.k = 2 → get t' p.to = get t p.to) :
    ∃ u', doP t' p = (0, u') ∧ get u' p.nm = get u p.nm ∧ (p.k = 2 → get u' p.to = get u p.to) := by
  obtain ⟨hm, h⟩ := doP_cases h
  rcases h with ⟨hk, hg, rfl⟩ | ⟨hk, hg, rfl⟩ | ⟨hk, l, hg, ht, rfl⟩ | ⟨hk, l, hg, he, rfl⟩
  · exact ⟨_, doP_0 hm hk (by rw [h1, hg]), by rw [get_put, get_put, if_pos rfl, if_pos rfl], fun h => by omega⟩
  · exact ⟨_, doP_1 hm hk (by rw [h1, hg]), by rw [get_del lin hu', get_del lin hu, if_pos rfl, if_pos rfl], fun h => by omega⟩
  · have hne := (may_2 hm hk).2.2
    exact ⟨_, doP_2 (l := l) hm hk (by rw [h1, hg]) (by rw [h2 hk, ht]), by rw [get_put, get_put, if_neg hne, if_neg hne, get_del lin hu', get_del lin hu, if_pos rfl, if_pos rfl], fun _ => by rw [get_put, get_put, if_pos rfl, if_pos rfl]⟩
  · exact ⟨_, doP_h (l := l) hm hk (by rw [h1, hg]) he, by rw [get_put, get_put, if_pos rfl, if_pos rfl], fun h => by omega⟩
/-- Where both change a tree, one behind the other, those that are told do so, in their order, to the same. -/
theorem passP_same {t u v : TR} {p q x y : Ch} (hu : Up lt t) (h : passP p q = some (x, y)) (h1 : doP t p = (0, u)) (h2 : doP u q = (0, v)) : ∃ w, doP t x = (0, w) ∧ doP w y = (0, v) := by
  obtain ⟨hp, hq, wy⟩ := passP_way h
  obtain ⟨hx, hy⟩ := way_may hp hq wy
  have uu := doP_up hu h1
  have uv := doP_up uu h2
  cases wy with
  | apart a =>
    have k1 : get u q.nm = get t q.nm := doP_keeps hu h1 a.nn.symm (fun hk => (a.tn hk).symm)
    have k2 : q.k = 2 → get u q.to = get t q.to := fun hk => doP_keeps hu h1 (a.nt hk).symm (fun hk' => (a.tt hk' hk).symm)
    obtain ⟨w, hw, w1, w2⟩ := doP_local uu hu h2 k1.symm (fun hk => (k2 hk).symm)
    have uw := doP_up hu hw
    have k3 : get w p.nm = get t p.nm := doP_keeps hu hw a.nn a.nt
    have k4 : p.k = 2 → get w p.to = get t p.to := fun hk => doP_keeps hu hw (a.tn hk) (fun hk' => a.tt hk hk')
    obtain ⟨v', hv, v1, v2⟩ := doP_local hu uw h1 k3 k4
    refine ⟨w, hw, ?_⟩
    rw [hv]
    refine congrArg (Prod.mk 0) (up_ext lin (doP_up uw hv) uv fun n => ?_)
    by_cases n1 : n = p.nm
    · subst n1; rw [v1, doP_keeps uu h2 a.nn a.nt]
    · by_cases n2 : p.k = 2 ∧ n = p.to
      · obtain ⟨hk, rfl⟩ := n2
        rw [v2 hk, doP_keeps uu h2 (a.tn hk) (fun hk' => a.tt hk hk')]
      · have e1 : get v' n = get w n := doP_keeps uw hv n1 (fun hk e => n2 ⟨hk, e⟩)
        have e2 : get u n = get t n := doP_keeps hu h1 n1 (fun hk e => n2 ⟨hk, e⟩)
        rw [e1]
        by_cases n3 : n = q.nm
        · subst n3; rw [w1]
        · by_cases n4 : q.k = 2 ∧ n = q.to
          · obtain ⟨hk, rfl⟩ := n4
            rw [w2 hk]
          · rw [doP_keeps hu hw n3 (fun hk e => n4 ⟨hk, e⟩), doP_keeps uu h2 n3 (fun hk e => n4 ⟨hk, e⟩), e2]
  | both kp kq hn a b hh =>
    obtain ⟨_, c1⟩ := doP_cases h1
    obtain ⟨l, hg, he, rfl⟩ : ∃ l, get t p.nm = some l ∧ lineE l p = 0 ∧ u = put lt t p.nm (lineL l p) := by
      rcases c1 with ⟨hk, _⟩ | ⟨hk, _⟩ | ⟨hk, _⟩ | ⟨_, h⟩
      · omega
      · omega
      · omega
      · exact h
    obtain ⟨_, c2⟩ := doP_cases h2
    obtain ⟨m, hg2, he2, rfl⟩ : ∃ m, get (put lt t p.nm (lineL l p)) q.nm = some m ∧ lineE m q = 0 ∧ v = put lt (put lt t p.nm (lineL l p)) q.nm (lineL m q) := by
      rcases c2 with ⟨hk, _⟩ | ⟨hk, _⟩ | ⟨hk, _⟩ | ⟨_, h⟩
      · omega
      · omega
      · omega
      · exact h
    rw [get_put, if_pos hn] at hg2
    injection hg2 with hg2
    subst hg2
    unfold lineE lineL at *
    simp only [kp, kq, if_true] at *
    obtain ⟨s1, s2, s3⟩ := Sw.passH_same hh he he2
    refine ⟨_, doP_h (p := ⟨3, q.nm, q.to, a⟩) (l := l) hx (.inl rfl) (by simp only; rw [← hn, hg]) (by unfold lineE; simp only [if_true]; exact s1), ?_⟩
    rw [doP_h (p := ⟨3, p.nm, p.to, b⟩) (l := applyL l a) hy (.inl rfl) (by simp only; rw [get_put, if_pos hn.symm]; unfold lineL; simp only [if_true]) (by unfold lineE; simp only [if_true]; exact s2)]
    unfold lineL
    simp only [if_true]
    rw [s3]
    refine congrArg (Prod.mk 0) (up_ext lin (up_put lin (up_put lin hu _ _) _ _) (up_put lin (up_put lin hu _ _) _ _) fun n => ?_)
    rw [get_put, get_put, get_put, get_put, hn]
    by_cases e : q.nm = n
    · rw [if_pos e, if_pos e]
    · rw [if_neg e, if_neg e, if_neg e, if_neg e]
  | out kp kq hn =>
    obtain ⟨_, c1⟩ := doP_cases h1
    obtain ⟨l, hg, ht, rfl⟩ : ∃ l, get t p.nm = some l ∧ get t p.to = none ∧ u = put lt (del t p.nm) p.to l := by
      rcases c1 with ⟨hk, _⟩ | ⟨hk, _⟩ | ⟨_, h⟩ | ⟨hk, _⟩
      · omega
      · omega
      · exact h
      · omega
    obtain ⟨_, c2⟩ := doP_cases h2
    obtain ⟨m, hg2, he2, rfl⟩ : ∃ m, get (put lt (del t p.nm) p.to l) q.nm = some m ∧ lineE m q = 0 ∧ v = put lt (put lt (del t p.nm) p.to l) q.nm (lineL m q) := by
      rcases c2 with ⟨hk, _⟩ | ⟨hk, _⟩ | ⟨hk, _⟩ | ⟨_, h⟩
      · omega
      · omega
      · omega
      · exact h
    rw [get_put, if_pos hn.symm] at hg2
    injection hg2 with hg2
    subst hg2
    have hne := (may_2 hp kp).2.2
    refine ⟨put lt t p.nm (lineL l q), doP_h (p := ⟨q.k, p.nm, q.to, q.h⟩) (l := l) hx kq hg he2, ?_⟩
    rw [doP_2 (p := p) (l := lineL l q) hp kp (by rw [get_put, if_pos rfl]) (by rw [get_put, if_neg hne.symm, ht])]
    have uw := up_put lin hu p.nm (lineL l q)
    refine congrArg (Prod.mk 0) (up_ext lin (up_put lin (up_del uw _) _ _) (up_put lin (up_put lin (up_del hu _) _ _) _ _) fun n => ?_)
    rw [get_put, get_put, get_put, get_del lin hu, get_del lin uw, get_put, hn]
    by_cases e : p.to = n
    · rw [if_pos e, if_pos e]
    · rw [if_neg e, if_neg e, if_neg e]
      by_cases e' : p.nm = n
      · rw [if_pos e', if_pos e']
      · rw [if_neg e', if_neg e', if_neg e']
  | into kq kp hn =>
    obtain ⟨_, c1⟩ := doP_cases h1
    obtain ⟨l, hg, he, rfl⟩ : ∃ l, get t p.nm = some l ∧ lineE l p = 0 ∧ u = put lt t p.nm (lineL l p) := by
      rcases c1 with ⟨hk, _⟩ | ⟨hk, _⟩ | ⟨hk, _⟩ | ⟨_, h⟩
      · omega
      · omega
      · omega
      · exact h
    obtain ⟨_, c2⟩ := doP_cases h2
    obtain ⟨m, hg2, ht, rfl⟩ : ∃ m, get (put lt t p.nm (lineL l p)) q.nm = some m ∧ get (put lt t p.nm (lineL l p)) q.to = none ∧ v = put lt (del (put lt t p.nm (lineL l p)) q.nm) q.to m := by
      rcases c2 with ⟨hk, _⟩ | ⟨hk, _⟩ | ⟨_, h⟩ | ⟨hk, _⟩
      · omega
      · omega
      · exact h
      · omega
    rw [get_put, if_pos hn] at hg2
    injection hg2 with hg2
    subst hg2
    have hne := (may_2 hq kq).2.2
    rw [get_put, if_neg (by rw [hn]; exact hne.symm)] at ht
    refine ⟨_, doP_2 (l := l) hq kq (by rw [← hn, hg]) ht, ?_⟩
    rw [doP_h (p := ⟨p.k, q.to, p.to, p.h⟩) (l := l) hy kp (by simp only; rw [get_put, if_pos rfl]) he]
    have uw := up_put lin hu p.nm (lineL l p)
    refine congrArg (Prod.mk 0) (up_ext lin (up_put lin (up_put lin (up_del hu _) _ _) _ _) (up_put lin (up_del uw _) _ _) fun n => ?_)
    rw [get_put, get_put, get_put, get_del lin hu, get_del lin uw, get_put, hn]
    by_cases e : q.to = n
    · rw [if_pos e, if_pos e]; rfl
    · rw [if_neg e, if_neg e, if_neg e]
      by_cases e' : q.nm = n
      · rw [if_pos e', if_pos e']
      · rw [if_neg e', if_neg e', if_neg e']

end Pr
end Go.Proofs.Ytbiiabfhngdeiaa

namespace Go.Proofs.Ytbiiabfhngdeiaa
open Go.RowKit
set_option linter.unusedVariables false
namespace Pr
open Tx Df Sq Hk Tr

/-- Noughts. -/
def zeroP : Ch := ⟨0, [], [], ⟨0, [], []⟩⟩
def outP (o : Option (Ch × Ch)) : Ch × Ch := o.getD (zeroP, zeroP)

/-- How a call ends that tells the changes x and y, and b. -/
def PPEnd (w : World) (x y : Ch) (b : Bool) (e : Ending) (w' : World) : Prop :=
  ∃ A n c B m d D i j E k l, e = .returned (.tuple #[prV x.k x.nm x.to x.h.pos A n c B m d, prV y.k y.nm y.to y.h.pos D i j E k l, .bool b]) ∧
    PV w' w'.heap.size A n c B m d x ∧ PV w' w'.heap.size D i j E k l y ∧ (n ≤ 1000 ∧ m ≤ 1000) ∧ (i ≤ 1000 ∧ k ≤ 1000) ∧ Below w.heap.size w w'

theorem outP_some {o : Option (Ch × Ch)} {x y : Ch} (h : o = some (x, y)) : outP o = (x, y) := by subst h; rfl
theorem outP_of {o : Option (Ch × Ch)} {x y : Ch} (h : outP o = (x, y)) (hb : o.isSome = true) : o = some (x, y) := by
  cases o with
  | none => cases hb
  | some z => exact congrArg some h
theorem none_ofP {α : Type} {o : Option α} (h : o.isSome = false) : o = none := by cases o with | none => rfl | some _ => cases h
theorem outP_none {o : Option (Ch × Ch)} {x y : Ch} (h : outP o = (x, y)) (hb : o.isSome = false) : x = zeroP ∧ y = zeroP := by
  cases o with
  | none => injection h with h1 h2; exact ⟨h1.symm, h2.symm⟩
  | some z => cases hb
theorem zero_PV (w : World) (B : Nat) : PV w B none 0 0 none 0 0 zeroP :=
  ⟨⟨rfl, rfl, Nat.le_refl _, Nat.le_refl _, Nat.zero_le _, Nat.zero_le _, .inl rfl, .inl rfl, ⟨by decide, by decide⟩⟩, ⟨by decide, by decide⟩, Nat.zero_le _, Nat.zero_le _, fun x hx => (by cases hx), fun x hx => (by cases hx)⟩

section
variable {w w' : World} {A B D E : Option Addr} {n c m d i j k l : Nat} {p q x y : Ch} {b : Bool}
/-- Noughts are told. -/
theorem ppEnd_none (ho : outP (passP p q) = (x, y)) (hb : (passP p q).isSome = b) (h : passP p q = none) (hw : Below w.heap.size w w') :
    PPEnd w x y b (.returned (.tuple #[.agg #[.int .i64 0, strV [], strV [], .int .i64 0, .slice none 0 0, .slice none 0 0], .agg #[.int .i64 0, strV [], strV [], .int .i64 0, .slice none 0 0, .slice none 0 0], .bool false])) w' := by
  rw [h] at ho hb
  subst hb
  injection ho with h1 h2
  subst h1 h2
  exact ⟨none, 0, 0, none, 0, 0, none, 0, 0, none, 0, 0, rfl, zero_PV _ _, zero_PV _ _, ⟨Nat.zero_le _, Nat.zero_le _⟩, ⟨Nat.zero_le _, Nat.zero_le _⟩, hw⟩
/-- Two are told. -/
theorem ppEnd_some (ho : outP (passP p q) = (x, y)) (hb : (passP p q).isSome = b) {x' y' : Ch} (h : passP p q = some (x', y')) (hv : PV w' w'.heap.size A n c B m d x') (gv : PV w' w'.heap.size D i j E k l y') (hl : n ≤ 1000 ∧ m ≤ 1000) (gl : i ≤ 1000 ∧ k ≤ 1000) (hw : Below w.heap.size w w') :
    PPEnd w x y b (.returned (.tuple #[prV x'.k x'.nm x'.to x'.h.pos A n c B m d, prV y'.k y'.nm y'.to y'.h.pos D i j E k l, .bool true])) w' := by
  rw [h] at ho hb
  subst hb
  injection ho with h1 h2
  subst h1 h2
  exact ⟨A, n, c, B, m, d, D, i, j, E, k, l, rfl, hv, gv, hl, gl, hw⟩
/-- A change of another name, or place. -/
theorem PV.name (hv : PV w k A n c B m d p) (s : List UInt8) (hs : s.length ≤ maxLen) : PV w k A n c B m d ⟨p.k, s, p.to, p.h⟩ := ⟨hv.h, hv.k, hs, hv.to, hv.s, hv.s'⟩
theorem PV.hunk {N N' : Nat} (hv : PV w N A n c B m d p) {h : HU} (gv : HV w' N' D i j E k l h) (ho : h.old = p.h.old) (hn : h.new = p.h.new) : PV w' N' D i j E k l ⟨p.k, p.nm, p.to, h⟩ := ⟨gv, hv.k, hv.nm, hv.to, (by dsimp only; rw [ho]; exact hv.s), (by dsimp only; rw [hn]; exact hv.s')⟩
end

theorem PV.hi {W : World} {N lo b : Nat} {A B : Option Addr} {n c m d : Nat} {x : Ch} (h : PV W N A n c B m d x) (hi : Hi lo A) (hi' : Hi lo B) (hb : b < lo) (j : Nat) (v : Value) : PV (W.setCell ⟨b, j, none⟩ v) N A n c B m d x :=
  ⟨⟨h.h.l, h.h.l', h.h.k, h.h.k', h.h.m, h.h.m', rdS_hi h.h.r hi hb j v, rdS_hi h.h.r' hi' hb j v, h.h.p⟩, h.k, h.nm, h.to, h.s, h.s'⟩
theorem PV.hi6 {W : World} {N lo b : Nat} {A B : Option Addr} {n c m d : Nat} {x : Ch} (h : PV W N A n c B m d x) (hi : Hi lo A) (hi' : Hi lo B) (hb : b < lo) (v0 v1 v2 v3 v4 v5 : Value) :
    PV ((((((W.setCell ⟨b, 0, none⟩ v0).setCell ⟨b, 1, none⟩ v1).setCell ⟨b, 2, none⟩ v2).setCell ⟨b, 3, none⟩ v3).setCell ⟨b, 4, none⟩ v4).setCell ⟨b, 5, none⟩ v5) N A n c B m d x :=
  (((((h.hi hi hi' hb 0 v0).hi hi hi' hb 1 v1).hi hi hi' hb 2 v2).hi hi hi' hb 3 v3).hi hi hi' hb 4 v4).hi hi hi' hb 5 v5
/-- A change of another's name and place. -/
theorem PV.as {w w' : World} {N N' : Nat} {A B D E : Option Addr} {n c m d i j k l : Nat} {x q : Ch} (hx : PV w N A n c B m d x) (hq : PV w' N' D i j E k l q) : PV w N A n c B m d ⟨x.k, q.nm, x.to, ⟨q.h.pos, x.h.old, x.h.new⟩⟩ :=
  ⟨⟨hx.h.l, hx.h.l', hx.h.k, hx.h.k', hx.h.m, hx.h.m', hx.h.r, hx.h.r', hq.h.p⟩, hx.k, hq.nm, hx.to, hx.s, hx.s'⟩
/-- The same, of lines in memory of their own. -/
def PPEndH (w : World) (x y : Ch) (b : Bool) (e : Ending) (w' : World) : Prop :=
  ∃ A n c B m d D i j E k l, e = .returned (.tuple #[prV x.k x.nm x.to x.h.pos A n c B m d, prV y.k y.nm y.to y.h.pos D i j E k l, .bool b]) ∧
    PV w' w'.heap.size A n c B m d x ∧ PV w' w'.heap.size D i j E k l y ∧ (n ≤ 1000 ∧ m ≤ 1000) ∧ (i ≤ 1000 ∧ k ≤ 1000) ∧ (Hi w.heap.size A ∧ Hi w.heap.size B ∧ Hi w.heap.size D ∧ Hi w.heap.size E) ∧ Below w.heap.size w w'
theorem PPEndH.end_ {w w' : World} {x y : Ch} {b : Bool} {e : Ending} (h : PPEndH w x y b e w') : PPEnd w x y b e w' := by
  obtain ⟨A, n, c, B, m, d, D, i, j, E, k, l, h1, h2, h3, h4, h5, _, h6⟩ := h
  exact ⟨A, n, c, B, m, d, D, i, j, E, k, l, h1, h2, h3, h4, h5, h6⟩

theorem outP_lines (p q : Ch) : outP (passP p q) = (zeroP, zeroP) ∨ ((outP (passP p q)).1.h.old = q.h.old ∧ (outP (passP p q)).1.h.new = q.h.new ∧ (outP (passP p q)).2.h.old = p.h.old ∧ (outP (passP p q)).2.h.new = p.h.new) := by
  cases h : passP p q with
  | none => exact .inl rfl
  | some z =>
    obtain ⟨⟨_, _, h1, h2⟩, _, _, h3, h4⟩ := way_kinds (passP_way (x := z.1) (y := z.2) h).2.2
    exact .inr ⟨h1, h2, h3, h4⟩

end Pr
end Go.Proofs.Ytbiiabfhngdeiaa

namespace Go.Proofs.Ytbiiabfhngdeiaa
open Go.RowKit
set_option linter.unusedVariables false
namespace Pr
open Tx Df Sq Hk Tr

/-- How a call ends that tells the lines that are handed in, as they are. -/
def PPEndE (A : Option Addr) (n c : Nat) (A' : Option Addr) (n' c' : Nat) (D : Option Addr) (m k : Nat) (D' : Option Addr) (m' k' : Nat) (w : World) (o : Option (Ch × Ch)) (e : Ending) (w' : World) : Prop :=
  (∀ z, o = some z → e = .returned (.tuple #[prV z.1.k z.1.nm z.1.to z.1.h.pos D m k D' m' k', prV z.2.k z.2.nm z.2.to z.2.h.pos A n c A' n' c', .bool true])) ∧
  (o = none → e = .returned (.tuple #[.agg #[.int .i64 0, strV [], strV [], .int .i64 0, .slice none 0 0, .slice none 0 0], .agg #[.int .i64 0, strV [], strV [], .int .i64 0, .slice none 0 0, .slice none 0 0], .bool false])) ∧ Below w.heap.size w w'
section
variable {A A' D D' : Option Addr} {n c n' c' m k m' k' : Nat} {w w' : World} {o : Option (Ch × Ch)} {e : Ending} {p q x y : Ch} {b : Bool}
theorem ppEndE_none (ho : o = none) (hb : Below w.heap.size w w') : PPEndE A n c A' n' c' D m k D' m' k' w o (.returned (.tuple #[.agg #[.int .i64 0, strV [], strV [], .int .i64 0, .slice none 0 0, .slice none 0 0], .agg #[.int .i64 0, strV [], strV [], .int .i64 0, .slice none 0 0, .slice none 0 0], .bool false])) w' := by
  subst ho
  exact ⟨fun z h => (by cases h), fun _ => rfl, hb⟩
theorem ppEndE_some (hb : Below w.heap.size w w') : PPEndE A n c A' n' c' D m k D' m' k' w (some (x, y)) (.returned (.tuple #[prV x.k x.nm x.to x.h.pos D m k D' m' k', prV y.k y.nm y.to y.h.pos A n c A' n' c', .bool true])) w' :=
  ⟨fun z h => (by injection h with h; subst h; rfl), fun h => (by cases h), hb⟩

/-- What is told reads as the lines that are handed in. -/
theorem way_pv {N : Nat} (h : Way p q x y) (hv : PV w N A n c A' n' c' p) (gv : PV w N D m k D' m' k' q) : PV w N D m k D' m' k' x ∧ PV w N A n c A' n' c' y := by
  cases h with
  | apart h => exact ⟨gv, hv⟩
  | out kp kq hn => exact ⟨gv.name p.nm hv.nm, hv⟩
  | into kq kp hn => exact ⟨gv, hv.name q.to gv.to⟩
  | both kp kq hn u v h =>
    obtain ⟨m1, m2⟩ := Sw.passH_mays h
    obtain ⟨_, b1, b2, b3, b4⟩ := Sw.pass_moves (x := u) (y := v) (Sw.passH_may h).2.2.1
    have g1 := Sw.mayH_pos m1
    have g2 := Sw.mayH_pos m2
    refine ⟨gv.hunk (h := u) ⟨by rw [b1]; exact gv.h.l, by rw [b2]; exact gv.h.l', gv.h.k, gv.h.k', gv.h.m, gv.h.m', by rw [b1]; exact gv.h.r, by rw [b2]; exact gv.h.r', ⟨by omega, by omega⟩⟩ b1 b2, ?_⟩
    exact hv.hunk (h := v) ⟨by rw [b3]; exact hv.h.l, by rw [b4]; exact hv.h.l', hv.h.k, hv.h.k', hv.h.m, hv.h.m', by rw [b3]; exact hv.h.r, by rw [b4]; exact hv.h.r', ⟨by omega, by omega⟩⟩ b3 b4
theorem PPEndE.end_ (h : PPEndE A n c A' n' c' D m k D' m' k' w (passP p q) e w') (hl : n ≤ 1000 ∧ n' ≤ 1000) (gl : m ≤ 1000 ∧ m' ≤ 1000) (hv : PV w w.heap.size A n c A' n' c' p) (gv : PV w w.heap.size D m k D' m' k' q) (ho : outP (passP p q) = (x, y)) (hb : (passP p q).isSome = b) : PPEnd w x y b e w' := by
  obtain ⟨h1, h2, hw⟩ := h
  cases hz : passP p q with
  | none => rw [h2 hz]; exact ppEnd_none ho hb hz hw
  | some z =>
    rw [h1 z hz]
    obtain ⟨v1, v2⟩ := way_pv (passP_way (x := z.1) (y := z.2) hz).2.2 (hv.mv hw) (gv.mv hw)
    exact ppEnd_some ho hb (x' := z.1) (y' := z.2) hz v1 v2 gl hl hw
end

end Pr
end Go.Proofs.Ytbiiabfhngdeiaa

namespace Go.Proofs.Ytbiiabfhngdeiaa
namespace Pr
open Tx Sq Hk Tr
set_option linter.unusedVariables false

theorem way_fun {p q x y x' y' : Ch} (h' : Way p q x' y') (h : Way p q x y) : x = x' ∧ y = y' := by
  cases h with
  | apart a =>
    cases h' with
    | apart _ => exact ⟨rfl, rfl⟩
    | both _ _ hn => exact absurd hn a.nn
    | out hp _ hn => exact absurd hn.symm (a.tn hp)
    | into _ _ hn => exact absurd hn a.nn
  | both kp kq hn u v h =>
    cases h' with
    | apart a => exact absurd hn a.nn
    | both _ _ _ u' v' h' => rw [h] at h'; injection h' with h'; injection h' with h1 h2; subst h1 h2; exact ⟨rfl, rfl⟩
    | out hp => omega
    | into hq => omega
  | out kp kq hn =>
    cases h' with
    | apart a => exact absurd hn.symm (a.tn kp)
    | both hp => omega
    | out => exact ⟨rfl, rfl⟩
    | into hq => omega
  | into kq kp hn =>
    cases h' with
    | apart a => exact absurd hn a.nn
    | both hp hq => omega
    | out hp => omega
    | into => exact ⟨rfl, rfl⟩

theorem way_three {p q r q1 p1 r1 p2 r2 q2 r3 q3 r4 p3 q4 p4 : Ch} (i : Way p q q1 p1) (j : Way p1 r r1 p2) (k : Way q1 r1 r2 q2)
    (l : Way q r r3 q3) (m : Way p r3 r4 p3) (n : Way p3 q3 q4 p4) : r2 = r4 ∧ q2 = q4 ∧ p2 = p4 := by
  cases i with
  | apart a =>
    cases j with
    | apart b =>
      cases l with
      | apart c =>
        obtain ⟨rfl, rfl⟩ := way_fun k (.apart c)
        obtain ⟨rfl, rfl⟩ := way_fun m (.apart b)
        obtain ⟨rfl, rfl⟩ := way_fun n (.apart a)
        exact ⟨rfl, rfl, rfl⟩
      | both kq kr hn u v h =>
        obtain ⟨rfl, rfl⟩ := way_fun k (.both kq kr hn u v h)
        obtain ⟨rfl, rfl⟩ := way_fun m (Way.apart (q := ⟨r.k, r.nm, r.to, u⟩) ⟨b.nn, b.tn, b.nt, b.tt⟩)
        obtain ⟨rfl, rfl⟩ := way_fun n (Way.apart (q := ⟨q.k, q.nm, q.to, v⟩) ⟨a.nn, a.tn, a.nt, a.tt⟩)
        exact ⟨rfl, rfl, rfl⟩
      | out kq kr hn =>
        obtain ⟨rfl, rfl⟩ := way_fun k (.out kq kr hn)
        obtain ⟨rfl, rfl⟩ := way_fun m (Way.apart (q := ⟨r.k, q.nm, r.to, r.h⟩) ⟨a.nn, a.tn, fun h => by simp only at h; omega, fun _ h => by simp only at h; omega⟩)
        obtain ⟨rfl, rfl⟩ := way_fun n (.apart a)
        exact ⟨rfl, rfl, rfl⟩
      | into kr kq hn =>
        obtain ⟨rfl, rfl⟩ := way_fun k (.into kr kq hn)
        obtain ⟨rfl, rfl⟩ := way_fun m (.apart b)
        obtain ⟨rfl, rfl⟩ := way_fun n (Way.apart (q := ⟨q.k, r.to, q.to, q.h⟩) ⟨b.nt kr, fun hp => b.tt hp kr, fun h => by simp only at h; omega, fun _ h => by simp only at h; omega⟩)
        exact ⟨rfl, rfl, rfl⟩
    | both kp kr hn u v h =>
      -- q apart from p; r of p's file
      have c : Apart q r := ⟨by rw [← hn]; exact a.nn.symm, fun hq => by rw [← hn]; exact (a.nt hq).symm, fun hr => by omega, fun _ hr => by omega⟩
      obtain ⟨rfl, rfl⟩ := way_fun l (.apart c)
      obtain ⟨rfl, rfl⟩ := way_fun k (Way.apart (q := ⟨r.k, r.nm, r.to, u⟩) ⟨c.nn, c.tn, c.nt, c.tt⟩)
      obtain ⟨rfl, rfl⟩ := way_fun m (.both kp kr hn u v h)
      obtain ⟨rfl, rfl⟩ := way_fun n (Way.apart (p := ⟨p.k, p.nm, p.to, v⟩) ⟨a.nn, a.tn, a.nt, a.tt⟩)
      exact ⟨rfl, rfl, rfl⟩
    | out kp kr hn =>
      have c : Apart q r := ⟨by rw [hn]; exact (a.tn kp).symm, fun hq => by rw [hn]; exact (a.tt kp hq).symm, fun hr => by omega, fun _ hr => by omega⟩
      obtain ⟨rfl, rfl⟩ := way_fun l (.apart c)
      obtain ⟨rfl, rfl⟩ := way_fun k (Way.apart (q := ⟨r.k, p.nm, r.to, r.h⟩) ⟨a.nn.symm, fun hq => (a.nt hq).symm, fun h => by simp only at h; omega, fun _ h => by simp only at h; omega⟩)
      obtain ⟨rfl, rfl⟩ := way_fun m (.out kp kr hn)
      obtain ⟨rfl, rfl⟩ := way_fun n (.apart a)
      exact ⟨rfl, rfl, rfl⟩
    | into kr kp hn =>
      -- r moves p's file
      cases l with
      | apart c =>
        obtain ⟨rfl, rfl⟩ := way_fun k (.apart c)
        obtain ⟨rfl, rfl⟩ := way_fun m (.into kr kp hn)
        obtain ⟨rfl, rfl⟩ := way_fun n (Way.apart (p := ⟨p.k, r.to, p.to, p.h⟩) ⟨(c.nt kr).symm, fun h => by simp only at h; omega, fun hq => (c.tt hq kr).symm, fun h => by simp only at h; omega⟩)
        exact ⟨rfl, rfl, rfl⟩
      | both kq kr' hn' u v h => omega
      | out kq kr' hn' => omega
      | into kr' kq hn' => exact absurd (hn.trans hn'.symm) a.nn
  | both kp kq hn u v h =>
    -- p and q of one file
    cases j with
    | apart b =>
      have b' : Apart p r := ⟨b.nn, b.tn, b.nt, b.tt⟩
      have c : Apart q r := ⟨by rw [← hn]; exact b.nn, fun hq => by omega, fun hr => by rw [← hn]; exact b.nt hr, fun hq => by omega⟩
      obtain ⟨rfl, rfl⟩ := way_fun l (.apart c)
      obtain ⟨rfl, rfl⟩ := way_fun k (Way.apart (p := ⟨q.k, q.nm, q.to, u⟩) ⟨c.nn, c.tn, c.nt, c.tt⟩)
      obtain ⟨rfl, rfl⟩ := way_fun m (.apart b')
      obtain ⟨rfl, rfl⟩ := way_fun n (.both kp kq hn u v h)
      exact ⟨rfl, rfl, rfl⟩
    | both kp' kr hn' u' v' h' =>
      simp only at hn' h' kp'
      cases l with
      | apart c => exact absurd (hn.symm.trans hn') c.nn
      | both kq' kr' hn'' u3 v3 h3 =>
        cases k with
        | apart c => exact absurd hn'' c.nn
        | both kq1 kr1 hn1 u2 v2 h2 =>
          cases m with
          | apart c => exact absurd hn' c.nn
          | both kp1 kr2 hn2 u4 v4 h4 =>
            cases n with
            | apart c => exact absurd hn c.nn
            | both kp2 kq2 hn3 u5 v5 h5 =>
              obtain ⟨rfl, rfl, rfl⟩ := Sw.passH_three h h' h2 h3 h4 h5
              exact ⟨rfl, rfl, rfl⟩
            | out kp2 => simp only at kp2; omega
            | into kq2 => simp only at kq2; omega
          | out kp1 => omega
          | into kr2 => simp only at kr2; omega
        | out kq1 => simp only at kq1; omega
        | into kr1 => simp only at kr1; omega
      | out kq' => omega
      | into kr' => omega
    | out kp' => simp only at kp'; omega
    | into kr kp' hn' =>
      simp only at hn'
      obtain ⟨rfl, rfl⟩ := way_fun l (.into kr (.inl kq) (hn.symm.trans hn'))
      obtain ⟨rfl, rfl⟩ := way_fun k (Way.into (p := ⟨q.k, q.nm, q.to, u⟩) kr (.inl kq) (hn.symm.trans hn'))
      obtain ⟨rfl, rfl⟩ := way_fun m (.into kr (.inl kp) hn')
      obtain ⟨rfl, rfl⟩ := way_fun n (Way.both (p := ⟨p.k, r.to, p.to, p.h⟩) (q := ⟨q.k, r.to, q.to, q.h⟩) kp kq rfl u v h)
      exact ⟨rfl, rfl, rfl⟩
  | out kp kq hn =>
    -- p moves, q of where it goes
    cases l with
    | apart c =>
      cases j with
      | apart b =>
        obtain ⟨rfl, rfl⟩ := way_fun k (Way.apart (p := ⟨q.k, p.nm, q.to, q.h⟩) ⟨b.nn, fun h => by simp only at h; omega, b.nt, fun h => by simp only at h; omega⟩)
        obtain ⟨rfl, rfl⟩ := way_fun m (.apart b)
        obtain ⟨rfl, rfl⟩ := way_fun n (.out kp kq hn)
        exact ⟨rfl, rfl, rfl⟩
      | both kp' => omega
      | out kp' kr hn' => exact absurd (hn.trans hn'.symm) c.nn
      | into kr kp' => omega
    | both kq' kr hn' u v h =>
      obtain ⟨rfl, rfl⟩ := way_fun j (.out kp (.inl kr) (hn'.symm.trans hn))
      obtain ⟨rfl, rfl⟩ := way_fun k (Way.both (p := ⟨q.k, p.nm, q.to, q.h⟩) (q := ⟨r.k, p.nm, r.to, r.h⟩) kq' kr rfl u v h)
      obtain ⟨rfl, rfl⟩ := way_fun m (Way.out (q := ⟨r.k, r.nm, r.to, u⟩) kp (.inl kr) (hn'.symm.trans hn))
      obtain ⟨rfl, rfl⟩ := way_fun n (Way.out (q := ⟨q.k, q.nm, q.to, v⟩) kp (.inl kq') hn)
      exact ⟨rfl, rfl, rfl⟩
    | out kq' => omega
    | into kr kq' hn' =>
      cases j with
      | apart b => exact absurd (hn.symm.trans hn') (b.tn kp)
      | both kp' => omega
      | out kp' kr' => omega
      | into kr' kp' => omega
  | into kq kp hn =>
    -- q moves p's file
    cases l with
    | apart c =>
      cases j with
      | apart b =>
        obtain ⟨rfl, rfl⟩ := way_fun k (.apart c)
        obtain ⟨rfl, rfl⟩ := way_fun m (Way.apart (p := p) ⟨by rw [hn]; exact c.nn, fun h => by omega, fun hr => by rw [hn]; exact c.nt hr, fun h => by omega⟩)
        obtain ⟨rfl, rfl⟩ := way_fun n (.into kq kp hn)
        exact ⟨rfl, rfl, rfl⟩
      | both kp' kr hn' => exact absurd hn' (c.tn kq)
      | out kp' => simp only at kp'; omega
      | into kr kp' hn' => exact absurd hn' (c.tn kq)
    | both kq' => omega
    | out kq' kr hn' =>
      cases j with
      | apart b => exact absurd hn'.symm b.nn
      | both kp' kr' hn'' u v h =>
        simp only at kp' h
        obtain ⟨rfl, rfl⟩ := way_fun k (Way.out (q := ⟨r.k, r.nm, r.to, u⟩) kq (.inl kr') hn')
        obtain ⟨rfl, rfl⟩ := way_fun m (Way.both (p := p) (q := ⟨r.k, q.nm, r.to, r.h⟩) kp' kr' hn u v h)
        obtain ⟨rfl, rfl⟩ := way_fun n (Way.into (p := ⟨p.k, p.nm, p.to, v⟩) kq (.inl kp') hn)
        exact ⟨rfl, rfl, rfl⟩
      | out kp' => simp only at kp'; omega
      | into kr' => omega
    | into kr kq' => omega

theorem passP_three {p q r q1 p1 r1 p2 r2 q2 r3 q3 r4 p3 q4 p4 : Ch} (i : passP p q = some (q1, p1)) (j : passP p1 r = some (r1, p2)) (k : passP q1 r1 = some (r2, q2))
    (l : passP q r = some (r3, q3)) (m : passP p r3 = some (r4, p3)) (n : passP p3 q3 = some (q4, p4)) : r2 = r4 ∧ q2 = q4 ∧ p2 = p4 :=
  way_three (passP_way i).2.2 (passP_way j).2.2 (passP_way k).2.2 (passP_way l).2.2 (passP_way m).2.2 (passP_way n).2.2

end Pr
end Go.Proofs.Ytbiiabfhngdeiaa

namespace Go.Proofs.Ytbiiabfhngdeiaa
open Go.RowKit
set_option linter.unusedVariables false
set_option linter.unusedSimpArgs false
namespace Pr
open Tx Df Sq Hk Tr

set_option maxHeartbeats 1000000 in
theorem Names (A : Option Addr) (n c : Nat) (A' : Option Addr) (n' c' : Nat) (p : Ch) (s : List UInt8) (w : World) (b : Bool) (hb : namesP p s = b) :
    Calls Try.prog 79 #[prV p.k p.nm p.to p.h.pos A n c A' n' c', strV s] w (TestEnd w b) := by
  have HB := Lib.hid hb.symm
  clear hb
  have hw : Below w.heap.size w (w.alloc (.cells #[.int .i64 p.k, strV p.nm, strV p.to, .int .i64 p.h.pos, .slice A n c, .slice A' n' c'] 51)) := (Below.refl _ _).alloc (Nat.le_refl _) _
  have HW := Lib.hid hw; clear hw
  unfold namesP at HB
  by_cases h1 : p.nm = s
  · have e1 : (p.nm == s) = true := by simpa using h1
    have H1 := Lib.hid h1; clear h1
    go_enter Try.func79, Try.ntmps79
    go_wp2
    go_ret
    exact ⟨ret_bool (by rw [HB.out, decide_eq_true H1.out]; rfl), HW.out⟩
  have e1 : (p.nm == s) = false := by simpa using h1
  have H1 := Lib.hid h1; clear h1
  by_cases h2 : p.k = 2
  · have e2 : (p.k == 2) = true := by simpa using h2
    have H2 := Lib.hid h2; clear h2
    cases h3 : (p.to == s)
    all_goals
      go_enter Try.func79, Try.ntmps79
      go_wp2
      go_ret
    · exact ⟨ret_bool (by rw [HB.out, decide_eq_false H1.out, decide_eq_true H2.out, decide_eq_false (by simpa using h3)]; rfl), HW.out⟩
    · exact ⟨ret_bool (by rw [HB.out, decide_eq_false H1.out, decide_eq_true H2.out, decide_eq_true (by simpa using h3)]; rfl), HW.out⟩
  · have e2 : (p.k == 2) = false := by simpa using h2
    go_enter Try.func79, Try.ntmps79
    go_wp2
    go_ret
    exact ⟨ret_bool (by rw [HB.out, decide_eq_false H1.out, decide_eq_false h2]; rfl), HW.out⟩

set_option maxHeartbeats 1000000 in
theorem Meet (A : Option Addr) (n c : Nat) (A' : Option Addr) (n' c' : Nat) (D : Option Addr) (m k : Nat) (D' : Option Addr) (m' k' : Nat) (p q : Ch) (w : World) (b : Bool) (hb : apartP p q = b) :
    Calls Try.prog 64 #[prV p.k p.nm p.to p.h.pos A n c A' n' c', prV q.k q.nm q.to q.h.pos D m k D' m' k'] w (TestEnd w (!b)) := by
  have HB := Lib.hid hb.symm
  clear hb
  obtain ⟨b1, h1⟩ : ∃ b, namesP p q.nm = b := ⟨_, rfl⟩
  obtain ⟨b2, h2⟩ : ∃ b, namesP p q.to = b := ⟨_, rfl⟩
  have H1 := Lib.hid h1; have H2 := Lib.hid h2; clear h1 h2
  have hw := two_box w (.cells #[.int .i64 p.k, strV p.nm, strV p.to, .int .i64 p.h.pos, .slice A n c, .slice A' n' c'] 51) (.cells #[.int .i64 q.k, strV q.nm, strV q.to, .int .i64 q.h.pos, .slice D m k, .slice D' m' k'] 51)
  have b0 := (Blk.new w 51 #[.int .i64 p.k, strV p.nm, strV p.to, .int .i64 p.h.pos, .slice A n c, .slice A' n' c']).alloc (.cells #[.int .i64 q.k, strV q.nm, strV q.to, .int .i64 q.h.pos, .slice D m k, .slice D' m' k'] 51)
  have c0 := Blk.new (w.alloc (.cells #[.int .i64 p.k, strV p.nm, strV p.to, .int .i64 p.h.pos, .slice A n c, .slice A' n' c'] 51)) 51 #[.int .i64 q.k, strV q.nm, strV q.to, .int .i64 q.h.pos, .slice D m k, .slice D' m' k']
  simp only [World.size_alloc] at c0
  go_enter Try.func64, Try.ntmps64
  go_wp2_with fail
  generalize ((w.alloc (.cells #[.int .i64 p.k, strV p.nm, strV p.to, .int .i64 p.h.pos, .slice A n c, .slice A' n' c'] 51)).alloc (.cells #[.int .i64 q.k, strV q.nm, strV q.to, .int .i64 q.h.pos, .slice D m k, .slice D' m' k'] 51)) = w1 at *
  have HW1 := Lib.hid hw; have HB1 := Lib.hid b0; have HC1 := Lib.hid c0
  clear hw b0 c0
  refine (Names A n c A' n' c' p q.nm w1 b1 H1.out).mono ?_
  rintro e w2 ⟨rfl, hb⟩
  have HW2 := Lib.hid (HW1.out.trans (hb.mono HW1.out.size)); have HB2 := Lib.hid (HB1.out.below hb HB1.out.lt); have HC2 := Lib.hid (HC1.out.below hb HC1.out.lt)
  clear hb HW1 HB1 HC1
  have x0 : w2.cell? ⟨w.heap.size, 0, none⟩ = some (.int .i64 p.k) := HB2.out.cell 0 rfl; have x1 : w2.cell? ⟨w.heap.size, 1, none⟩ = some (strV p.nm) := HB2.out.cell 1 rfl; have x2 : w2.cell? ⟨w.heap.size, 2, none⟩ = some (strV p.to) := HB2.out.cell 2 rfl; have x3 : w2.cell? ⟨w.heap.size, 3, none⟩ = some (.int .i64 p.h.pos) := HB2.out.cell 3 rfl; have x4 : w2.cell? ⟨w.heap.size, 4, none⟩ = some (.slice A n c) := HB2.out.cell 4 rfl; have x5 : w2.cell? ⟨w.heap.size, 5, none⟩ = some (.slice A' n' c') := HB2.out.cell 5 rfl
  have y0 : w2.cell? ⟨w.heap.size + 1, 0, none⟩ = some (.int .i64 q.k) := HC2.out.cell 0 rfl; have y1 : w2.cell? ⟨w.heap.size + 1, 1, none⟩ = some (strV q.nm) := HC2.out.cell 1 rfl; have y2 : w2.cell? ⟨w.heap.size + 1, 2, none⟩ = some (strV q.to) := HC2.out.cell 2 rfl; have y3 : w2.cell? ⟨w.heap.size + 1, 3, none⟩ = some (.int .i64 q.h.pos) := HC2.out.cell 3 rfl; have y4 : w2.cell? ⟨w.heap.size + 1, 4, none⟩ = some (.slice D m k) := HC2.out.cell 4 rfl; have y5 : w2.cell? ⟨w.heap.size + 1, 5, none⟩ = some (.slice D' m' k') := HC2.out.cell 5 rfl
  unfold apartP at HB
  rw [H1.out, H2.out] at HB
  cases b1 with
  | true =>
    go_wp2
    go_ret
    exact ⟨ret_bool (by rw [HB.out]; simp), HW2.out⟩
  | false =>
  by_cases hk : q.k = 2
  · have e1 : (q.k == 2) = true := by simpa using hk
    have HK := Lib.hid hk; clear hk
    go_wp2_with fail
    refine (Names A n c A' n' c' p q.to w2 b2 H2.out).mono ?_
    rintro e w3 ⟨rfl, hb⟩
    clear x0 x1 x2 x3 x4 x5 y0 y1 y2 y3 y4 y5
    have HW3 := Lib.hid (HW2.out.trans (hb.mono HW2.out.size))
    clear hb HW2
    go_wp2
    go_ret
    exact ⟨ret_bool (by rw [HB.out]; simp [HK.out]), HW3.out⟩
  · have e1 : (q.k == 2) = false := by simpa using hk
    have HK := Lib.hid hk; clear hk
    go_wp2
    go_ret
    exact ⟨ret_bool (by rw [HB.out]; simp [HK.out]), HW2.out⟩

/-- How own ends: the change, of lines of one's own. -/
def POEnd (w : World) (n n' : Nat) (p : Ch) (e : Ending) (w' : World) : Prop :=
  ∃ D d D' d', e = .returned (prV p.k p.nm p.to p.h.pos D n d D' n' d') ∧ PV w' w'.heap.size D n d D' n' d' p ∧ (Hi w.heap.size D ∧ Hi w.heap.size D') ∧ Below w.heap.size w w'

set_option maxRecDepth 100000 in
set_option maxHeartbeats 2000000 in
theorem OwnC (A : Option Addr) (n c : Nat) (A' : Option Addr) (n' c' B : Nat) (p : Ch) (w : World) (hB : B ≤ w.heap.size) (hn : n ≤ 1000) (hn' : n' ≤ 1000) (hv : PV w B A n c A' n' c' p) :
    Calls Try.prog 66 #[prV p.k p.nm p.to p.h.pos A n c A' n' c'] w (POEnd w n n' p) := by
  obtain ⟨j0, hj, hy0, hy1, hy2⟩ := info_parts info_str
  have HV0 := Lib.hid hv
  have HBL := Lib.hid hB
  clear hv hB
  go_enter Try.func66, Try.ntmps66
  go_upto_region 1 with fail
  have b1 := (Blk.new w 51 #[.int .i64 p.k, strV p.nm, strV p.to, .int .i64 p.h.pos, .slice A n c, .slice A' n' c']).alloc (.cells #[.int .i64 0, strV [], strV [], .int .i64 0, .slice none 0 0, .slice none 0 0] 51)
  have b2 := Blk.new (w.alloc (.cells #[.int .i64 p.k, strV p.nm, strV p.to, .int .i64 p.h.pos, .slice A n c, .slice A' n' c'] 51)) 51 #[.int .i64 0, strV [], strV [], .int .i64 0, .slice none 0 0, .slice none 0 0]
  have hw := two_box w (.cells #[.int .i64 p.k, strV p.nm, strV p.to, .int .i64 p.h.pos, .slice A n c, .slice A' n' c'] 51) (.cells #[.int .i64 0, strV [], strV [], .int .i64 0, .slice none 0 0, .slice none 0 0] 51)
  simp only [World.size_alloc] at b2
  generalize (w.alloc (.cells #[.int .i64 p.k, strV p.nm, strV p.to, .int .i64 p.h.pos, .slice A n c, .slice A' n' c'] 51)).alloc (.cells #[.int .i64 0, strV [], strV [], .int .i64 0, .slice none 0 0, .slice none 0 0] 51) = W at *
  obtain ⟨g, hgs⟩ : ∃ g, w.heap.size = g := ⟨_, rfl⟩
  rw [hgs] at b1 b2 hw ⊢
  have HGS := Lib.hid hgs
  have R1 := Lib.hid (And.intro HV0.out.h.l (Rd.below HV0.out.h.r (hw.mono (by rw [← hgs]; exact HBL.out))))
  have R2 := Lib.hid (And.intro HV0.out.h.l' (Rd.below HV0.out.h.r' (hw.mono (by rw [← hgs]; exact HBL.out))))
  have HW := Lib.hid hw; have B1 := Lib.hid b1; have B2 := Lib.hid b2
  have HBW : Hid (B ≤ g) := Lib.hid (by rw [← hgs]; exact HBL.out)
  clear hgs hw b1 b2
  have x0 : W.cell? ⟨g, 0, none⟩ = some (.int .i64 p.k) := B1.out.cell 0 rfl; have x1 : W.cell? ⟨g, 1, none⟩ = some (strV p.nm) := B1.out.cell 1 rfl; have x2 : W.cell? ⟨g, 2, none⟩ = some (strV p.to) := B1.out.cell 2 rfl; have x3 : W.cell? ⟨g, 3, none⟩ = some (.int .i64 p.h.pos) := B1.out.cell 3 rfl; have x4 : W.cell? ⟨g, 4, none⟩ = some (.slice A n c) := B1.out.cell 4 rfl; have x5 : W.cell? ⟨g, 5, none⟩ = some (.slice A' n' c') := B1.out.cell 5 rfl
  go_upto_region 2 with (at_builtin; refine wpList_nil' rfl (.const (.slice none 0 0)) (.tmp 5) 47 rfl 9 j0 (.string ⟨#[]⟩) 16 Try.underlying47 hj hy0 hy1 hy2 rfl rfl B A n c (p.h.old.map strV) rfl (by rw [List.length_map]; exact R1.out.1) R1.out.2 (strs_one _) (by unfold maxLen; omega) (by omega) ?_; intro D1 d1 w1 hA hg; have b1 := B1.out.gr hg (nn _); have b2 := B2.out.gr hg (nn _); have f4 : w1.frozen? ⟨g, 4, none⟩ = false := b1.frozen 4; have z0 : w1.cell? ⟨g, 0, none⟩ = some (.int .i64 p.k) := b1.cell 0 rfl; have z1 : w1.cell? ⟨g, 1, none⟩ = some (strV p.nm) := b1.cell 1 rfl; have z2 : w1.cell? ⟨g, 2, none⟩ = some (strV p.to) := b1.cell 2 rfl; have z3 : w1.cell? ⟨g, 3, none⟩ = some (.int .i64 p.h.pos) := b1.cell 3 rfl; have z4 : w1.cell? ⟨g, 4, none⟩ = some (.slice A n c) := b1.cell 4 rfl; have z5 : w1.cell? ⟨g, 5, none⟩ = some (.slice A' n' c') := b1.cell 5 rfl; have hgl := HW.out.size; have BA := Lib.hid b1; have BB := Lib.hid b2; have HA := Lib.hid hA; have HG := Lib.hid hg; clear b1 b2 hA hg)
  clear x0 z0 x1 z1 x2 z2 x3 z3 x4 z4 x5 z5 f4
  have hl1 := HG.out.size
  have hgW : g + 1 < W.heap.size := B2.out.lt
  have b3 : Blk (World.setCell w1 ⟨g, 4, none⟩ (.slice D1 n d1)) g 51 #[.int .i64 p.k, strV p.nm, strV p.to, .int .i64 p.h.pos, .slice D1 n d1, .slice A' n' c'] := BA.out.set 4 (.slice D1 n d1)
  have b4 := BB.out.set_ne (show g + 1 ≠ g by omega) 4 (.slice D1 n d1)
  have o1 := own_set HA.out (show g < W.heap.size by omega) 4 (.slice D1 n d1)
  have h1 : Below g w (World.setCell w1 ⟨g, 4, none⟩ (.slice D1 n d1)) := (HW.out.trans ((below_gr HG.out).mono (by omega))).setCell (p := ⟨g, 4, none⟩) (Nat.le_refl _) _
  have r2 : RdS (World.setCell w1 ⟨g, 4, none⟩ (.slice D1 n d1)) B A' p.h.new := Rd.below R2.out.2 (((below_gr HG.out).mono (Nat.le_trans HBW.out (by omega))).setCell (p := ⟨g, 4, none⟩) HBW.out _)
  have hs1 : (World.setCell w1 ⟨g, 4, none⟩ (.slice D1 n d1)).heap.size = w1.heap.size := by simp
  generalize (World.setCell w1 ⟨g, 4, none⟩ (.slice D1 n d1)) = X at *
  have R3 := Lib.hid (And.intro R2.out.1 r2)
  have B3 := Lib.hid b3; have B4 := Lib.hid b4; have O1 := Lib.hid o1; have H1 := Lib.hid h1; have HS1 := Lib.hid hs1
  clear b3 b4 o1 h1 r2 hs1
  have x0 : X.cell? ⟨g, 0, none⟩ = some (.int .i64 p.k) := B3.out.cell 0 rfl; have x1 : X.cell? ⟨g, 1, none⟩ = some (strV p.nm) := B3.out.cell 1 rfl; have x2 : X.cell? ⟨g, 2, none⟩ = some (strV p.to) := B3.out.cell 2 rfl; have x3 : X.cell? ⟨g, 3, none⟩ = some (.int .i64 p.h.pos) := B3.out.cell 3 rfl; have x4 : X.cell? ⟨g, 4, none⟩ = some (.slice D1 n d1) := B3.out.cell 4 rfl; have x5 : X.cell? ⟨g, 5, none⟩ = some (.slice A' n' c') := B3.out.cell 5 rfl
  go_upto_region 3 with (at_builtin; refine wpList_nil' rfl (.const (.slice none 0 0)) (.tmp 11) 47 rfl 9 j0 (.string ⟨#[]⟩) 16 Try.underlying47 hj hy0 hy1 hy2 rfl rfl B A' n' c' (p.h.new.map strV) rfl (by rw [List.length_map]; exact R3.out.1) R3.out.2 (strs_one _) (by unfold maxLen; omega) (by omega) ?_; intro D2 d2 w2 hA2 hg2; have b1 := B3.out.gr hg2 (nn _); have b2 := B4.out.gr hg2 (nn _); have f5 : w2.frozen? ⟨g, 5, none⟩ = false := b1.frozen 5; have z0 : w2.cell? ⟨g, 0, none⟩ = some (.int .i64 p.k) := b1.cell 0 rfl; have z1 : w2.cell? ⟨g, 1, none⟩ = some (strV p.nm) := b1.cell 1 rfl; have z2 : w2.cell? ⟨g, 2, none⟩ = some (strV p.to) := b1.cell 2 rfl; have z3 : w2.cell? ⟨g, 3, none⟩ = some (.int .i64 p.h.pos) := b1.cell 3 rfl; have z4 : w2.cell? ⟨g, 4, none⟩ = some (.slice D1 n d1) := b1.cell 4 rfl; have z5 : w2.cell? ⟨g, 5, none⟩ = some (.slice A' n' c') := b1.cell 5 rfl; have BC := Lib.hid b1; have BD := Lib.hid b2; have HA2 := Lib.hid hA2; have HG2 := Lib.hid hg2; clear b1 b2 hA2 hg2)
  clear x0 z0 x1 z1 x2 z2 x3 z3 x4 z4 x5 z5 f5
  have hl2 := HG2.out.size
  have hs1 := HS1.out
  have b3 : Blk (World.setCell w2 ⟨g, 5, none⟩ (.slice D2 n' d2)) g 51 #[.int .i64 p.k, strV p.nm, strV p.to, .int .i64 p.h.pos, .slice D1 n d1, .slice D2 n' d2] := BC.out.set 5 (.slice D2 n' d2)
  have b4 := BD.out.set_ne (show g + 1 ≠ g by omega) 5 (.slice D2 n' d2)
  have o1 := own_set (own_gr O1.out HG2.out) (show g < W.heap.size by omega) 5 (.slice D2 n' d2)
  have o2 := own_set HA2.out (show g < X.heap.size by omega) 5 (.slice D2 n' d2)
  have h1 : Below g w (World.setCell w2 ⟨g, 5, none⟩ (.slice D2 n' d2)) := (H1.out.trans ((below_gr HG2.out).mono (by omega))).setCell (p := ⟨g, 5, none⟩) (Nat.le_refl _) _
  generalize (World.setCell w2 ⟨g, 5, none⟩ (.slice D2 n' d2)) = Y at *
  have B5 := Lib.hid b3; have B6 := Lib.hid b4; have O2 := Lib.hid o1; have O3 := Lib.hid o2; have H2 := Lib.hid h1
  clear b3 b4 o1 o2 h1 hl1 hl2 hs1
  have x0 : Y.cell? ⟨g, 0, none⟩ = some (.int .i64 p.k) := B5.out.cell 0 rfl; have x1 : Y.cell? ⟨g, 1, none⟩ = some (strV p.nm) := B5.out.cell 1 rfl; have x2 : Y.cell? ⟨g, 2, none⟩ = some (strV p.to) := B5.out.cell 2 rfl; have x3 : Y.cell? ⟨g, 3, none⟩ = some (.int .i64 p.h.pos) := B5.out.cell 3 rfl; have x4 : Y.cell? ⟨g, 4, none⟩ = some (.slice D1 n d1) := B5.out.cell 4 rfl; have x5 : Y.cell? ⟨g, 5, none⟩ = some (.slice D2 n' d2) := B5.out.cell 5 rfl
  have z0 : Y.cell? ⟨g + 1, 0, none⟩ = some (.int .i64 0) := B6.out.cell 0 rfl; have z1 : Y.cell? ⟨g + 1, 1, none⟩ = some (strV []) := B6.out.cell 1 rfl; have z2 : Y.cell? ⟨g + 1, 2, none⟩ = some (strV []) := B6.out.cell 2 rfl; have z3 : Y.cell? ⟨g + 1, 3, none⟩ = some (.int .i64 0) := B6.out.cell 3 rfl; have z4 : Y.cell? ⟨g + 1, 4, none⟩ = some (.slice none 0 0) := B6.out.cell 4 rfl; have z5 : Y.cell? ⟨g + 1, 5, none⟩ = some (.slice none 0 0) := B6.out.cell 5 rfl
  have f0 : Y.frozen? ⟨g + 1, 0, none⟩ = false := B6.out.frozen 0; have f1 : Y.frozen? ⟨g + 1, 1, none⟩ = false := B6.out.frozen 1; have f2 : Y.frozen? ⟨g + 1, 2, none⟩ = false := B6.out.frozen 2; have f3 : Y.frozen? ⟨g + 1, 3, none⟩ = false := B6.out.frozen 3; have f4 : Y.frozen? ⟨g + 1, 4, none⟩ = false := B6.out.frozen 4; have f5 : Y.frozen? ⟨g + 1, 5, none⟩ = false := B6.out.frozen 5
  go_wp2
  have b5 := blk6 B6.out (.int .i64 p.k) (strV p.nm) (strV p.to) (.int .i64 p.h.pos) (.slice D1 n d1) (.slice D2 n' d2)
  have hb9 : Below g w (World.setCell (World.setCell (World.setCell (World.setCell (World.setCell (World.setCell Y ⟨g + 1, 0, none⟩ (.int .i64 p.k)) ⟨g + 1, 1, none⟩ (strV p.nm)) ⟨g + 1, 2, none⟩ (strV p.to)) ⟨g + 1, 3, none⟩ (.int .i64 p.h.pos)) ⟨g + 1, 4, none⟩ (.slice D1 n d1)) ⟨g + 1, 5, none⟩ (.slice D2 n' d2)) := ((((((H2.out.setCell (p := ⟨g + 1, 0, none⟩) (Nat.le_succ g) _).setCell (p := ⟨g + 1, 1, none⟩) (Nat.le_succ g) _).setCell (p := ⟨g + 1, 2, none⟩) (Nat.le_succ g) _).setCell (p := ⟨g + 1, 3, none⟩) (Nat.le_succ g) _).setCell (p := ⟨g + 1, 4, none⟩) (Nat.le_succ g) _).setCell (p := ⟨g + 1, 5, none⟩) (Nat.le_succ g) _)
  have o9 := own_set (own_set (own_set (own_set (own_set (own_set O2.out hgW 0 (.int .i64 p.k)) hgW 1 (strV p.nm)) hgW 2 (strV p.to)) hgW 3 (.int .i64 p.h.pos)) hgW 4 (.slice D1 n d1)) hgW 5 (.slice D2 n' d2)
  have hgX : g + 1 < X.heap.size := by have := HS1.out; have := HG.out.size; omega
  have o9' := own_set (own_set (own_set (own_set (own_set (own_set O3.out hgX 0 (.int .i64 p.k)) hgX 1 (strV p.nm)) hgX 2 (strV p.to)) hgX 3 (.int .i64 p.h.pos)) hgX 4 (.slice D1 n d1)) hgX 5 (.slice D2 n' d2)
  generalize (World.setCell (World.setCell (World.setCell (World.setCell (World.setCell (World.setCell Y ⟨g + 1, 0, none⟩ (.int .i64 p.k)) ⟨g + 1, 1, none⟩ (strV p.nm)) ⟨g + 1, 2, none⟩ (strV p.to)) ⟨g + 1, 3, none⟩ (.int .i64 p.h.pos)) ⟨g + 1, 4, none⟩ (.slice D1 n d1)) ⟨g + 1, 5, none⟩ (.slice D2 n' d2)) = X9 at *
  clear x0 z0 f0 x1 z1 f1 x2 z2 f2 x3 z3 f3 x4 z4 f4 x5 z5 f5
  have q0 : X9.cell? ⟨g + 1, 0, none⟩ = some (.int .i64 p.k) := b5.cell 0 rfl; have q1 : X9.cell? ⟨g + 1, 1, none⟩ = some (strV p.nm) := b5.cell 1 rfl; have q2 : X9.cell? ⟨g + 1, 2, none⟩ = some (strV p.to) := b5.cell 2 rfl; have q3 : X9.cell? ⟨g + 1, 3, none⟩ = some (.int .i64 p.h.pos) := b5.cell 3 rfl; have q4 : X9.cell? ⟨g + 1, 4, none⟩ = some (.slice D1 n d1) := b5.cell 4 rfl; have q5 : X9.cell? ⟨g + 1, 5, none⟩ = some (.slice D2 n' d2) := b5.cell 5 rfl
  refine bodyPost_ret (v := .agg #[.int .i64 p.k, strV p.nm, strV p.to, .int .i64 p.h.pos, .slice D1 n d1, .slice D2 n' d2]) (by simp [results, Try.results66, go_sem, q0, q1, q2, q3, q4, q5]) rfl ?_
  obtain ⟨_, _, e1, hk1, r1⟩ := rd_of_own o9
  obtain ⟨_, _, e2, hk2, r2⟩ := rd_of_own o9'
  cases e1; cases e2
  have v := HV0.out
  refine ⟨D1, d1, D2, d2, rfl, ⟨⟨v.h.l, v.h.l', hk1, hk2, v.h.m, v.h.m', r1, r2, v.h.p⟩, v.k, v.nm, v.to, v.s, v.s'⟩, ⟨(hi_own o9).mono (by rw [HGS.out]; omega), (hi_own o9').mono (by rw [HGS.out]; omega)⟩, by rw [HGS.out]; exact hb9⟩

end Pr
end Go.Proofs.Ytbiiabfhngdeiaa
