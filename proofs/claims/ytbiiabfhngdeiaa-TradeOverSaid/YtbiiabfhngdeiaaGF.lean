/-
  Words and contracts, joined: FlPlain FlMem FlOwn FlOpen TdPlain.
-/
import Derived.Test.YtbiiabfhngdeiaaGZ
import Derived.Test.YtbiiabfhngdeiaaGT
set_option maxRecDepth 100000
namespace Go.Proofs.Ytbiiabfhngdeiaa
namespace Fl
open Tx Sq Hk Tr Pr
set_option linter.unusedVariables false

section
variable {α : Type} (P : α → α → Option (α × α))

/-- One passes a list, from the last one to the first one. -/
def one : List α → α → Option (α × List α)
  | [], q => some (q, [])
  | p :: a, q => (one a q).bind fun z => (P p z.1).map fun y => (y.1, y.2 :: z.2)
/-- Each of a list, in order, passes a list. -/
def passL : List α → List α → Option (List α × List α)
  | a, [] => some ([], a)
  | a, q :: b => (one P a q).bind fun z => (passL z.2 b).map fun y => (z.1 :: y.1, y.2)

theorem one_cons {p q x y q1 : α} {a a1 : List α} (h : one P a q = some (q1, a1)) (h1 : P p q1 = some (x, y)) : one P (p :: a) q = some (x, y :: a1) := by
  rw [one, h, Option.bind_some, h1]; rfl
theorem one_cons_inv {p q x : α} {a y : List α} (h : one P (p :: a) q = some (x, y)) : ∃ q1 a1 z, one P a q = some (q1, a1) ∧ P p q1 = some (x, z) ∧ y = z :: a1 := by
  rw [one] at h
  cases h1 : one P a q with
  | none => rw [h1] at h; cases h
  | some w =>
    rw [h1, Option.bind_some] at h
    cases h2 : P p w.1 with
    | none => rw [h2] at h; cases h
    | some v =>
      rw [h2] at h
      injection h with h; injection h with h3 h4
      exact ⟨w.1, w.2, v.2, rfl, by rw [h2, ← h3], h4.symm⟩
theorem passL_cons {q q1 : α} {a a1 b b1 a2 : List α} (h : one P a q = some (q1, a1)) (h1 : passL P a1 b = some (b1, a2)) : passL P a (q :: b) = some (q1 :: b1, a2) := by
  rw [passL, h, Option.bind_some, h1]; rfl
theorem passL_cons_inv {q : α} {a b x y : List α} (h : passL P a (q :: b) = some (x, y)) : ∃ q1 a1 b1, one P a q = some (q1, a1) ∧ passL P a1 b = some (b1, y) ∧ x = q1 :: b1 := by
  rw [passL] at h
  cases h1 : one P a q with
  | none => rw [h1] at h; cases h
  | some w =>
    rw [h1, Option.bind_some] at h
    cases h2 : passL P w.2 b with
    | none => rw [h2] at h; cases h
    | some v =>
      rw [h2] at h
      injection h with h; injection h with h3 h4
      exact ⟨w.1, w.2, v.1, rfl, by rw [h2, ← h4], h3.symm⟩
theorem passL_nil (a : List α) : passL P a [] = some ([], a) := by cases a <;> rfl
theorem one_len : ∀ {a : List α} {q x : α} {y : List α}, one P a q = some (x, y) → y.length = a.length
  | [], _, _, _, h => by injection h with h; injection h with _ h; rw [← h]
  | p :: a, q, x, y, h => by
    obtain ⟨q1, a1, z, h1, _, rfl⟩ := one_cons_inv P h
    rw [List.length_cons, one_len h1, List.length_cons]
theorem passL_len : ∀ {b a x y : List α}, passL P a b = some (x, y) → x.length = b.length ∧ y.length = a.length
  | [], a, x, y, h => by rw [passL_nil] at h; injection h with h; injection h with h1 h2; rw [← h1, ← h2]; exact ⟨rfl, rfl⟩
  | q :: b, a, x, y, h => by
    obtain ⟨q1, a1, b1, h1, h2, rfl⟩ := passL_cons_inv P h
    obtain ⟨e1, e2⟩ := passL_len h2
    exact ⟨by rw [List.length_cons, e1, List.length_cons], by rw [e2, one_len P h1]⟩
/-- Nothing passes all. -/
theorem passL_none : ∀ b : List α, passL P [] b = some (b, [])
  | [] => rfl
  | q :: b => passL_cons P (q1 := q) (a1 := []) rfl (passL_none b)

/-- A list passes two lists, one behind the other, as it passes their joint. -/
theorem one_app : ∀ (a b : List α) (q : α), one P (a ++ b) q = (one P b q).bind fun z => (one P a z.1).map fun y => (y.1, y.2 ++ z.2)
  | [], b, q => by
    rw [List.nil_append]
    cases h : one P b q with
    | none => rfl
    | some z => rfl
  | p :: a, b, q => by
    rw [List.cons_append, one, one_app a b q]
    cases h : one P b q with
    | none => rfl
    | some z =>
      simp only [Option.bind_some]
      rw [one]
      cases h1 : one P a z.1 with
      | none => rfl
      | some y =>
        simp only [Option.map_some, Option.bind_some]
        cases h2 : P p y.1 with
        | none => rfl
        | some v => rfl
theorem passL_app1 : ∀ (c a b : List α), passL P (a ++ b) c = (passL P b c).bind fun z => (passL P a z.1).map fun y => (y.1, y.2 ++ z.2)
  | [], a, b => by rw [passL_nil, passL_nil, Option.bind_some, passL_nil]; rfl
  | q :: c, a, b => by
    rw [passL, one_app, passL]
    cases h : one P b q with
    | none => rfl
    | some z =>
      simp only [Option.bind_some]
      cases h1 : one P a z.1 with
      | none =>
        simp only [Option.map_none, Option.bind_none]
        cases h2 : passL P z.2 c with
        | none => rfl
        | some v =>
          simp only [Option.map_some, Option.bind_some]
          rw [passL, h1]
          rfl
      | some y =>
        simp only [Option.map_some, Option.bind_some]
        rw [passL_app1 c y.2 z.2]
        cases h2 : passL P z.2 c with
        | none => rfl
        | some v =>
          simp only [Option.bind_some, Option.map_some]
          rw [passL, h1, Option.bind_some]
          cases h3 : passL P y.2 v.1 with
          | none => rfl
          | some u => rfl
theorem passL_app2 : ∀ (b a c : List α), passL P a (b ++ c) = (passL P a b).bind fun z => (passL P z.2 c).map fun y => (z.1 ++ y.1, y.2)
  | [], a, c => by
    rw [List.nil_append, passL_nil, Option.bind_some]
    cases h : passL P a c with
    | none => rfl
    | some z => rfl
  | q :: b, a, c => by
    rw [List.cons_append, passL, passL]
    cases h : one P a q with
    | none => rfl
    | some z =>
      simp only [Option.bind_some]
      rw [passL_app2 b z.2 c]
      cases h1 : passL P z.2 b with
      | none => rfl
      | some y =>
        simp only [Option.bind_some, Option.map_some]
        cases h2 : passL P y.2 c with
        | none => rfl
        | some v => rfl

/-- Where those that passed one another pass back, lists do. -/
theorem one_back (hP : ∀ {p q x y}, P p q = some (x, y) → P x y = some (p, q)) : ∀ {a : List α} {q x : α} {y : List α}, one P a q = some (x, y) → passL P [x] y = some (a, [q])
  | [], q, x, y, h => by injection h with h; injection h with h1 h2; subst h1 h2; rfl
  | p :: a, q, x, y, h => by
    obtain ⟨q1, a1, z, h1, h2, rfl⟩ := one_cons_inv P h
    exact passL_cons P (one_cons P (a := []) (a1 := []) rfl (hP h2)) (one_back hP h1)
theorem passL_back (hP : ∀ {p q x y}, P p q = some (x, y) → P x y = some (p, q)) : ∀ {b a x y : List α}, passL P a b = some (x, y) → passL P x y = some (a, b)
  | [], a, x, y, h => by rw [passL_nil] at h; injection h with h; injection h with h1 h2; subst h1 h2; exact passL_none P a
  | q :: b, a, x, y, h => by
    obtain ⟨q1, a1, b1, h1, h2, rfl⟩ := passL_cons_inv P h
    have e1 := passL_back hP h2
    have e2 := one_back P hP h1
    have := passL_app1 P y [q1] b1
    rw [e1, Option.bind_some] at this
    simp only at this
    rw [e2] at this
    exact this

variable {τ : Type} (D : τ → α → Option τ) (I : τ → Prop)
/-- What is done by each of a list, one behind the other. -/
def doL : τ → List α → Option τ
  | t, [] => some t
  | t, p :: a => (D t p).bind fun u => doL u a
theorem doL_cons {t u : τ} {p : α} {a : List α} (h : D t p = some u) : doL D t (p :: a) = doL D u a := by rw [doL, h]; rfl
theorem doL_cons_inv {t v : τ} {p : α} {a : List α} (h : doL D t (p :: a) = some v) : ∃ u, D t p = some u ∧ doL D u a = some v := by
  rw [doL] at h
  cases h1 : D t p with
  | none => rw [h1] at h; cases h
  | some u => rw [h1] at h; exact ⟨u, rfl, h⟩
theorem doL_app : ∀ (a b : List α) (t : τ), doL D t (a ++ b) = (doL D t a).bind fun u => doL D u b
  | [], _, _ => rfl
  | p :: a, b, t => by
    rw [List.cons_append, doL, doL]
    cases h : D t p with
    | none => rfl
    | some u => simp only [Option.bind_some]; exact doL_app a b u
theorem doL_inv (hI : ∀ {t u p}, I t → D t p = some u → I u) : ∀ {a : List α} {t u : τ}, I t → doL D t a = some u → I u
  | [], _, _, h, e => by injection e with e; rw [← e]; exact h
  | p :: a, t, u, h, e => by
    obtain ⟨v, h1, h2⟩ := doL_cons_inv D e
    exact doL_inv hI (hI h h1) h2
/-- Where two that are told do the same, lists do. -/
theorem one_same (hI : ∀ {t u p}, I t → D t p = some u → I u) (hP : ∀ {t u v p q x y}, I t → P p q = some (x, y) → D t p = some u → D u q = some v → ∃ w, D t x = some w ∧ D w y = some v) :
    ∀ {a : List α} {q x : α} {y : List α} {t u v : τ}, I t → one P a q = some (x, y) → doL D t a = some u → D u q = some v → ∃ w, D t x = some w ∧ doL D w y = some v
  | [], q, x, y, t, u, v, hi, h, h1, h2 => by
    injection h with h; injection h with e1 e2; subst e1 e2
    injection h1 with h1; subst h1
    exact ⟨v, h2, rfl⟩
  | p :: a, q, x, y, t, u, v, hi, h, h1, h2 => by
    obtain ⟨q1, a1, z, e1, e2, rfl⟩ := one_cons_inv P h
    obtain ⟨t1, d1, d2⟩ := doL_cons_inv D h1
    obtain ⟨w, d3, d4⟩ := one_same hI hP (hI hi d1) e1 d2 h2
    obtain ⟨w1, d5, d6⟩ := hP hi e2 d1 d3
    exact ⟨w1, d5, by rw [doL_cons D d6]; exact d4⟩
theorem passL_same (hI : ∀ {t u p}, I t → D t p = some u → I u) (hP : ∀ {t u v p q x y}, I t → P p q = some (x, y) → D t p = some u → D u q = some v → ∃ w, D t x = some w ∧ D w y = some v) :
    ∀ {b a x y : List α} {t u v : τ}, I t → passL P a b = some (x, y) → doL D t a = some u → doL D u b = some v → ∃ w, doL D t x = some w ∧ doL D w y = some v
  | [], a, x, y, t, u, v, hi, h, h1, h2 => by
    rw [passL_nil] at h; injection h with h; injection h with e1 e2; subst e1 e2
    injection h2 with h2; subst h2
    exact ⟨t, rfl, h1⟩
  | q :: b, a, x, y, t, u, v, hi, h, h1, h2 => by
    obtain ⟨q1, a1, b1, e1, e2, rfl⟩ := passL_cons_inv P h
    obtain ⟨u1, d1, d2⟩ := doL_cons_inv D h2
    obtain ⟨w, d3, d4⟩ := one_same P D I hI hP hi e1 h1 d1
    obtain ⟨w1, d5, d6⟩ := passL_same hI hP (hI hi d3) e2 d4 d2
    exact ⟨w1, by rw [doL_cons D d3]; exact d5, d6⟩
end

/-! Of changes. -/
/-- A tree changed, or nothing. -/
def dP (t : TR) (p : Ch) : Option TR := if (doP t p).1 = 0 then some (doP t p).2 else none
theorem dP_some {t u : TR} {p : Ch} : dP t p = some u ↔ doP t p = (0, u) := by
  unfold dP
  constructor
  · intro h
    split at h
    · rename_i h0
      injection h with h
      rw [← h]
      exact Prod.ext h0 rfl
    · cases h
  · intro h
    rw [h]; rfl
theorem dP_up {t u : TR} {p : Ch} (ht : Up lt t) (h : dP t p = some u) : Up lt u := doP_up ht (dP_some.1 h)
theorem dP_same {t u v : TR} {p q x y : Ch} (ht : Up lt t) (h : passP p q = some (x, y)) (h1 : dP t p = some u) (h2 : dP u q = some v) : ∃ w, dP t x = some w ∧ dP w y = some v := by
  obtain ⟨w, a, b⟩ := passP_same ht h (dP_some.1 h1) (dP_some.1 h2)
  exact ⟨w, dP_some.2 a, dP_some.2 b⟩
/-- What a tree becomes by changes: the first error, or a tree. -/
def doF : TR → List Ch → Int × TR
  | t, [] => (0, t)
  | t, p :: a => if (doP t p).1 = 0 then doF (doP t p).2 a else ((doP t p).1, [])
theorem doF_cons_ok {t u : TR} {p : Ch} {a : List Ch} (h : doP t p = (0, u)) : doF t (p :: a) = doF u a := by rw [doF, h]; rfl
theorem doF_cons_no {t : TR} {p : Ch} {a : List Ch} (h : (doP t p).1 ≠ 0) : doF t (p :: a) = ((doP t p).1, []) := by rw [doF, if_neg h]
theorem doF_none : ∀ {a : List Ch} {t : TR}, (doF t a).1 ≠ 0 → (doF t a).2 = []
  | [], t, h => absurd rfl h
  | p :: a, t, h => by
    by_cases h0 : (doP t p).1 = 0
    · rw [doF_cons_ok (u := (doP t p).2) (Prod.ext h0 rfl)] at h ⊢
      exact doF_none h
    · rw [doF_cons_no h0]
theorem doF_some : ∀ {a : List Ch} {t u : TR}, doL dP t a = some u ↔ doF t a = (0, u)
  | [], t, u => by
    constructor
    · intro h; injection h with h; rw [h]; rfl
    · intro h; injection h with _ h; rw [← h]; rfl
  | p :: a, t, u => by
    by_cases h0 : (doP t p).1 = 0
    · have e : doP t p = (0, (doP t p).2) := Prod.ext h0 rfl
      rw [doL_cons dP (dP_some.2 e), doF_cons_ok e]
      exact doF_some
    · rw [doF_cons_no h0]
      constructor
      · intro h
        obtain ⟨v, h1, _⟩ := doL_cons_inv dP h
        rw [dP_some] at h1
        exact absurd (by rw [h1]) h0
      · intro h
        injection h with h _
        exact absurd h h0
def turnF (l : List Ch) : List Ch := (l.map turnP).reverse
theorem turnF_turnF (l : List Ch) : turnF (turnF l) = l := by
  unfold turnF
  rw [List.map_reverse, List.reverse_reverse, List.map_map]
  have : turnP ∘ turnP = id := funext turnP_turnP
  rw [this, List.map_id]
theorem turnF_len (l : List Ch) : (turnF l).length = l.length := by unfold turnF; simp
/-- What changes change they change back, turned. -/
theorem doF_turn {t u : TR} {l : List Ch} (ht : Up lt t) (h : doF t l = (0, u)) : doF u (turnF l) = (0, t) := by
  rw [← doF_some] at h ⊢
  induction l generalizing t with
  | nil => injection h with h; rw [h]; rfl
  | cons p l ih =>
    obtain ⟨v, h1, h2⟩ := doL_cons_inv dP h
    have e := ih (dP_up ht h1) h2
    unfold turnF at e ⊢
    rw [List.map_cons, List.reverse_cons, doL_app, e, Option.bind_some]
    rw [doL_cons dP (dP_some.2 (doP_back ht (dP_some.1 h1)))]
    rfl

abbrev passF : List Ch → List Ch → Option (List Ch × List Ch) := passL passP
theorem passF_back {a b x y : List Ch} (h : passF a b = some (x, y)) : passF x y = some (a, b) := passL_back passP passP_back h
/-- Where both lists change a tree, one behind the other, those that are told do so, to the same. -/
theorem passF_same {t v : TR} {a b x y : List Ch} (ht : Up lt t) (h : passF a b = some (x, y)) (h1 : doF t (a ++ b) = (0, v)) : doF t (x ++ y) = (0, v) := by
  rw [← doF_some, doL_app] at h1 ⊢
  cases ha : doL dP t a with
  | none => rw [ha] at h1; cases h1
  | some u =>
    rw [ha, Option.bind_some] at h1
    obtain ⟨w, d1, d2⟩ := passL_same passP dP (fun t => Up lt t) dP_up dP_same ht h ha h1
    rw [d1, Option.bind_some]
    exact d2
theorem doF_up {t u : TR} {l : List Ch} (ht : Up lt t) (h : doF t l = (0, u)) : Up lt u := doL_inv dP (fun t => Up lt t) dP_up ht (doF_some.2 h)

end Fl
end Go.Proofs.Ytbiiabfhngdeiaa

namespace Go.Proofs.Ytbiiabfhngdeiaa
open Go.RowKit
set_option linter.unusedVariables false
namespace Fl
open Tx Df Sq Hk Tr Pr

/-- Two memories are alike in the blocks that S names. -/
def Alike (S : Nat → Prop) (W W' : World) : Prop := ∀ b, S b → b < W.heap.size → W'.heap[b]? = W.heap[b]?
section
variable {W W' W1 : World} {S T : Nat → Prop} {B b : Nat}
theorem Alike.mono (h : Alike T W W') (hs : ∀ b, S b → T b) : Alike S W W' := fun b hb hl => h b (hs b hb) hl
theorem alike_below (hb : Below B W W') : Alike (· < B) W W' := fun b h _ => hb.block b h
theorem alike_gr {row : Option Nat} (hg : W.grownBy W' row) : Alike (fun b => some b ≠ row) W W' := fun b h hl => hg.block b hl h
theorem alike_set (W : World) (b j : Nat) (v : Value) : Alike (· ≠ b) W (W.setCell ⟨b, j, none⟩ v) := fun k h hl => (grownBy_set W b j v).block k hl (by simpa using h)
theorem alike_drewN (S : Nat → Prop) (W : World) (d : Nat) : Alike S W (W.drewN d) := fun _ _ _ => rfl
end

/-- The address A leads, in a block that S names, to the cells xs; or there are none. -/
def RdG (w : World) (S : Nat → Prop) (A : Option Addr) (xs : List Value) : Prop := xs = [] ∨ ∃ a, A = some a ∧ S a.block ∧ ∀ (j : Nat) u, xs[j]? = some u → w.cell? (a.add j) = some u
section
variable {W W' : World} {S T : Nat → Prop} {A : Option Addr} {xs : List Value} {B : Nat} {ls : List (List UInt8)}
theorem RdG.mono (h : RdG W S A xs) (hs : ∀ b, S b → T b) : RdG W T A xs := h.imp id fun ⟨a, e, h1, h2⟩ => ⟨a, e, hs _ h1, h2⟩
theorem RdG.to (h : RdG W S A xs) (ha : Alike S W W') : RdG W' S A xs := h.imp id fun ⟨a, e, h1, h2⟩ => ⟨a, e, h1, fun j u hu => by
  have hc := h2 j u hu
  exact (World.cell?_of_block (ha _ (by rw [add_block]; exact h1) (World.block_lt_of_cell? W _ hc))).trans hc⟩
theorem RdG.rd (h : RdG W (· < B) A (ls.map strV)) : RdS W B A ls := h
theorem rdG_of (h : RdS W B A ls) : RdG W (· < B) A (ls.map strV) := h
end

/-- Two slice values that read, in blocks that S names, as a change's lines. -/
structure PG (w : World) (S : Nat → Prop) (A : Option Addr) (n c : Nat) (B : Option Addr) (m d : Nat) (p : Ch) : Prop where
  l : p.h.old.length = n
  l' : p.h.new.length = m
  k : n ≤ c
  k' : m ≤ d
  mm : n ≤ maxLen
  mm' : m ≤ maxLen
  r : RdG w S A (p.h.old.map strV)
  r' : RdG w S B (p.h.new.map strV)
  pp : I64 p.h.pos
  kk : I64 p.k
  nm : p.nm.length ≤ maxLen
  to : p.to.length ≤ maxLen
  s : ∀ x ∈ p.h.old, x.length ≤ maxLen
  s' : ∀ x ∈ p.h.new, x.length ≤ maxLen
section
variable {W W' : World} {S T : Nat → Prop} {A B : Option Addr} {n c m d N : Nat} {p : Ch}
theorem PG.mono (h : PG W S A n c B m d p) (hs : ∀ b, S b → T b) : PG W T A n c B m d p := ⟨h.l, h.l', h.k, h.k', h.mm, h.mm', h.r.mono hs, h.r'.mono hs, h.pp, h.kk, h.nm, h.to, h.s, h.s'⟩
theorem PG.to_ (h : PG W S A n c B m d p) (ha : Alike S W W') : PG W' S A n c B m d p := ⟨h.l, h.l', h.k, h.k', h.mm, h.mm', h.r.to ha, h.r'.to ha, h.pp, h.kk, h.nm, h.to, h.s, h.s'⟩
theorem PG.pv (h : PG W (· < N) A n c B m d p) : PV W N A n c B m d p := ⟨⟨h.l, h.l', h.k, h.k', h.mm, h.mm', h.r, h.r', h.pp⟩, h.kk, h.nm, h.to, h.s, h.s'⟩
theorem pg_of (h : PV W N A n c B m d p) : PG W (· < N) A n c B m d p := ⟨h.h.l, h.h.l', h.h.k, h.h.k', h.h.m, h.h.m', h.h.r, h.h.r', h.h.p, h.k, h.nm, h.to, h.s, h.s'⟩
/-- A change whose lines are in memory that is new. -/
theorem rdG_hi {ls : List (List UInt8)} {lo : Nat} (h : RdS W N A ls) (hi : Hi lo A) : RdG W (fun b => lo ≤ b ∧ b < N) A (ls.map strV) := by
  rcases h with h | ⟨a, e, h1, h2⟩
  · exact .inl h
  · exact .inr ⟨a, e, ⟨hi a e, h1⟩, h2⟩
theorem pg_hi {lo : Nat} (h : PV W N A n c B m d p) (hi : Hi lo A) (hi' : Hi lo B) : PG W (fun b => lo ≤ b ∧ b < N) A n c B m d p :=
  ⟨h.h.l, h.h.l', h.h.k, h.h.k', h.h.m, h.h.m', rdG_hi h.h.r hi, rdG_hi h.h.r' hi', h.h.p, h.k, h.nm, h.to, h.s, h.s'⟩
end

/-- The cells of a change, the k-th of a row at the address a. -/
structure PrAt (w : World) (S : Nat → Prop) (a : Addr) (k : Nat) (x : Ch) : Prop where
  c0 : w.cell? (a.add (k * 6)) = some (.int .i64 x.k)
  c1 : w.cell? ⟨(a.add (k * 6)).block, (a.add (k * 6)).off + 1, none⟩ = some (strV x.nm)
  c2 : w.cell? ⟨(a.add (k * 6)).block, (a.add (k * 6)).off + 2, none⟩ = some (strV x.to)
  c3 : w.cell? ⟨(a.add (k * 6)).block, (a.add (k * 6)).off + 3, none⟩ = some (.int .i64 x.h.pos)
  c4 : ∃ A n c B m d, w.cell? ⟨(a.add (k * 6)).block, (a.add (k * 6)).off + 4, none⟩ = some (.slice A n c) ∧ w.cell? ⟨(a.add (k * 6)).block, (a.add (k * 6)).off + 5, none⟩ = some (.slice B m d) ∧ PG w S A n c B m d x

/-- The address A leads, in blocks that S names, to changes; or there are none. -/
def RdP (w : World) (S : Nat → Prop) (A : Option Addr) (l : List Ch) : Prop :=
  l = [] ∨ ∃ a, A = some a ∧ S a.block ∧ ∀ (k : Nat) x, l[k]? = some x → PrAt w S a k x
section
variable {W W' : World} {S T : Nat → Prop} {A : Option Addr} {l : List Ch} {N : Nat}
theorem PrAt.mono {a : Addr} {k : Nat} {x : Ch} (h : PrAt W S a k x) (hs : ∀ b, S b → T b) : PrAt W T a k x := by
  obtain ⟨c0, c1, c2, c3, A, n, c, B, m, d, c4, c5, c6⟩ := h
  exact ⟨c0, c1, c2, c3, A, n, c, B, m, d, c4, c5, c6.mono hs⟩
theorem cell_to {p : Addr} {u : Value} (ha : Alike S W W') (hp : S p.block) (hc : W.cell? p = some u) : W'.cell? p = some u := (World.cell?_of_block (ha _ hp (World.block_lt_of_cell? W _ hc))).trans hc
theorem PrAt.to {a : Addr} {k : Nat} {x : Ch} (h : PrAt W S a k x) (hS : S a.block) (ha : Alike S W W') : PrAt W' S a k x := by
  obtain ⟨c0, c1, c2, c3, A, n, c, B, m, d, c4, c5, c6⟩ := h
  have hb : S (a.add (k * 6)).block := by rw [add_block]; exact hS
  exact ⟨cell_to ha hb c0, cell_to ha hb c1, cell_to ha hb c2, cell_to ha hb c3, A, n, c, B, m, d, cell_to ha hb c4, cell_to ha hb c5, c6.to_ ha⟩
theorem RdP.mono (h : RdP W S A l) (hs : ∀ b, S b → T b) : RdP W T A l := h.imp id fun ⟨a, e, h1, h2⟩ => ⟨a, e, hs _ h1, fun k x hx => (h2 k x hx).mono hs⟩
theorem RdP.to (h : RdP W S A l) (ha : Alike S W W') : RdP W' S A l := h.imp id fun ⟨a, e, h1, h2⟩ => ⟨a, e, h1, fun k x hx => (h2 k x hx).to h1 ha⟩
theorem RdP.below {B : Nat} (h : RdP W (· < B) A l) (hb : Below B W W') : RdP W' (· < B) A l := h.to (alike_below hb)
theorem RdP.mv (h : RdP W (· < W.heap.size) A l) (hb : Below W.heap.size W W') : RdP W' (· < W'.heap.size) A l := (h.below hb).mono fun b hb' => Nat.lt_of_lt_of_le hb' hb.size
theorem RdP.drewN (h : RdP W S A l) (d : Nat) : RdP (W.drewN d) S A l := h.to (alike_drewN S W d)
theorem RdP.nil (W : World) (S : Nat → Prop) (A : Option Addr) : RdP W S A [] := .inl rfl
theorem RdP.at_ (h : RdP W S A l) {k : Nat} (hk : k < l.length) : ∃ a, A = some a ∧ S a.block ∧ PrAt W S a k l[k] := by
  rcases h with rfl | ⟨a, e, hlt, hc⟩
  · exact absurd hk (by simp)
  · exact ⟨a, e, hlt, hc k _ (List.getElem?_eq_getElem hk)⟩
/-- A part of a list. -/
theorem RdP.tail {x : Ch} {a : Addr} (h : RdP W S (some a) (x :: l)) : RdP W S (some (a.add 6)) l := by
  rcases h with h | ⟨a', e, h1, h2⟩
  · cases h
  · injection e with e
    subst e
    refine .inr ⟨_, rfl, by rw [add_block]; exact h1, fun k y hy => ?_⟩
    have := h2 (k + 1) y (by simpa using hy)
    have ea : (a.add 6).add (k * 6) = a.add ((k + 1) * 6) := by rw [add_add]; congr 1; omega
    obtain ⟨c0, c1, c2, c3, c4⟩ := this
    exact ⟨by rw [ea]; exact c0, by rw [ea]; exact c1, by rw [ea]; exact c2, by rw [ea]; exact c3, by rw [ea]; exact c4⟩
end

/-- The cells of changes, as far as they go; their lines lie in blocks that S names. -/
def PCells (W : World) (S : Nat → Prop) (l : List Ch) (xs : List Value) : Prop :=
  ∀ (k : Nat) x, l[k]? = some x → ∃ A n c B m d, xs[k * 6]? = some (.int .i64 x.k) ∧ xs[k * 6 + 1]? = some (strV x.nm) ∧ xs[k * 6 + 2]? = some (strV x.to) ∧ xs[k * 6 + 3]? = some (.int .i64 x.h.pos) ∧ xs[k * 6 + 4]? = some (.slice A n c) ∧ xs[k * 6 + 5]? = some (.slice B m d) ∧ PG W S A n c B m d x
section
variable {W W' : World} {S T : Nat → Prop} {l u : List Ch} {xs ys : List Value}
theorem PCells.mono (h : PCells W S l xs) (hs : ∀ b, S b → T b) : PCells W T l xs := fun k x hx => by
  obtain ⟨A, n, c, B, m, d, h0, h1, h2, h3, h4, h5, h6⟩ := h k x hx
  exact ⟨A, n, c, B, m, d, h0, h1, h2, h3, h4, h5, h6.mono hs⟩
theorem PCells.to (h : PCells W S l xs) (ha : Alike S W W') : PCells W' S l xs := fun k x hx => by
  obtain ⟨A, n, c, B, m, d, h0, h1, h2, h3, h4, h5, h6⟩ := h k x hx
  exact ⟨A, n, c, B, m, d, h0, h1, h2, h3, h4, h5, h6.to_ ha⟩
theorem PCells.nil (W : World) (S : Nat → Prop) (xs : List Value) : PCells W S [] xs := fun k x hx => by simp at hx
theorem PCells.one {A B : Option Addr} {n c m d : Nat} {x : Ch} (h : PG W S A n c B m d x) : PCells W S [x] [.int .i64 x.k, strV x.nm, strV x.to, .int .i64 x.h.pos, .slice A n c, .slice B m d] := fun k y hy => by
  cases k with
  | zero => cases hy; exact ⟨A, n, c, B, m, d, rfl, rfl, rfl, rfl, rfl, rfl, h⟩
  | succ k => simp at hy
theorem PCells.append (h : PCells W S l xs) (hl : xs.length = l.length * 6) (h' : PCells W S u ys) : PCells W S (l ++ u) (xs ++ ys) := fun k x hx => by
  by_cases hk : k < l.length
  · rw [List.getElem?_append_left hk] at hx
    obtain ⟨A, n, c, B, m, d, h0, h1, h2, h3, h4, h5, h6⟩ := h k x hx
    have hle : ∀ j, j < 6 → k * 6 + j < xs.length := fun j hj => by omega
    exact ⟨A, n, c, B, m, d, by rw [List.getElem?_append_left (by omega)]; exact h0, by rw [List.getElem?_append_left (by omega)]; exact h1, by rw [List.getElem?_append_left (by omega)]; exact h2, by rw [List.getElem?_append_left (by omega)]; exact h3, by rw [List.getElem?_append_left (by omega)]; exact h4, by rw [List.getElem?_append_left (by omega)]; exact h5, h6⟩
  · rw [List.getElem?_append_right (by omega)] at hx
    obtain ⟨A, n, c, B, m, d, h0, h1, h2, h3, h4, h5, h6⟩ := h' _ x hx
    have e : ∀ j, k * 6 + j - xs.length = (k - l.length) * 6 + j := fun j => by omega
    refine ⟨A, n, c, B, m, d, ?_, ?_, ?_, ?_, ?_, ?_, h6⟩
    · rw [List.getElem?_append_right (by omega), show k * 6 - xs.length = (k - l.length) * 6 by omega]; exact h0
    · rw [List.getElem?_append_right (by omega), e]; exact h1
    · rw [List.getElem?_append_right (by omega), e]; exact h2
    · rw [List.getElem?_append_right (by omega), e]; exact h3
    · rw [List.getElem?_append_right (by omega), e]; exact h4
    · rw [List.getElem?_append_right (by omega), e]; exact h5
theorem one6 : ∀ {u : List Ch} {ys : List Value}, PCells W S u ys → ys.length = u.length * 6 → ∀ y ∈ ys, Value.oneCell' y = true := fun {u ys} h hl y hy => by
  obtain ⟨j, hj, rfl⟩ := List.mem_iff_getElem.1 hy
  have hk : j / 6 < u.length := by omega
  obtain ⟨A, n, c, B, m, d, h0, h1, h2, h3, h4, h5, h6⟩ := h (j / 6) _ (List.getElem?_eq_getElem hk)
  obtain ⟨v, hv⟩ : ∃ v, ys[j] = v := ⟨_, rfl⟩
  have hj' : ys[j]? = some v := by rw [← hv]; exact List.getElem?_eq_getElem hj
  rw [hv]
  have hm : j % 6 < 6 := Nat.mod_lt _ (by decide)
  have hd : j / 6 * 6 + j % 6 = j := by omega
  rw [← hd] at hj'
  generalize j % 6 = r at *
  match r, hm with
  | 0, _ => rw [Nat.add_zero] at hj'; rw [h0] at hj'; injection hj' with e; rw [← e]; rfl
  | 1, _ => rw [h1] at hj'; injection hj' with e; rw [← e]; rfl
  | 2, _ => rw [h2] at hj'; injection hj' with e; rw [← e]; rfl
  | 3, _ => rw [h3] at hj'; injection hj' with e; rw [← e]; rfl
  | 4, _ => rw [h4] at hj'; injection hj' with e; rw [← e]; rfl
  | 5, _ => rw [h5] at hj'; injection hj' with e; rw [← e]; rfl
end

/-- The blocks that there are, but for one. -/
def Out (W : World) (row : Option Nat) : Nat → Prop := fun b => b < W.heap.size ∧ some b ≠ row
theorem out_gr {W W' : World} {row : Option Nat} (hg : W.grownBy W' row) : Alike (Out W row) W W' := fun b h hl => hg.block b hl h.2
theorem out_up {W W' : World} {row : Option Nat} (hs : W.heap.size ≤ W'.heap.size) : ∀ b, Out W row b → Out W' row b := fun b h => ⟨Nat.lt_of_lt_of_le h.1 hs, h.2⟩
theorem out_lt {W : World} {row : Option Nat} {B : Nat} (hB : B ≤ W.heap.size) (hr : ∀ g, row = some g → B ≤ g) : ∀ b, b < B → Out W row b := fun b hb => ⟨Nat.lt_of_lt_of_le hb hB, fun e => by have := hr b e.symm; omega⟩
theorem PCells.gr {W W' : World} {row : Option Nat} {l : List Ch} {xs : List Value} (h : PCells W (Out W row) l xs) (hg : W.grownBy W' row) : PCells W' (Out W' row) l xs := (h.to (out_gr hg)).mono (out_up hg.size)

/-- Changes in a row of one's own. -/
def OwnP (W : World) (base : Nat) (v : Value) (l : List Ch) : Prop := ∃ xs, W.ownsRow base 51 6 v l.length xs ∧ PCells W (Out W v.ownBlock) l xs
section
variable {W W' : World} {base : Nat} {v : Value} {l : List Ch}
theorem ownP_nil (W : World) (base : Nat) : OwnP W base (.slice none 0 0) [] := ⟨[], World.ownsRow_nil _ _ _ _, PCells.nil _ _ _⟩
theorem ownP_ge (h : OwnP W base v l) : ∀ k, v.ownBlock = some k → base ≤ k := fun k hk => (h.elim fun xs h => own_ge h.1 k hk)
theorem OwnP.below (h : OwnP W base v l) (hb : Below W.heap.size W W') : OwnP W' base v l := by
  obtain ⟨xs, h1, h2⟩ := h
  exact ⟨xs, own_gr h1 (below_gr_row hb), h2.gr (gr_none (below_gr_row hb))⟩
theorem OwnP.drewN (h : OwnP W base v l) (d : Nat) : OwnP (W.drewN d) base v l := h.below (below_drewN (Below.refl _ _) d)
/-- A row of changes of one's own is read as changes. -/
theorem rdP_own (h : OwnP W base v l) : ∃ A c, v = .slice A l.length c ∧ l.length ≤ c ∧ RdP W (· < W.heap.size) A l ∧ Hi base A := by
  obtain ⟨xs, hr, hF⟩ := h
  have hr0 := hr
  rcases hr.2 with ⟨rfl, h0⟩ | ⟨g, cap, cur, rfl, hbg, hg, hc, _⟩
  · have : l = [] := List.eq_nil_of_length_eq_zero h0
    subst this
    exact ⟨none, 0, rfl, Nat.le_refl _, .inl rfl, hi_none _⟩
  · refine ⟨_, cap, rfl, hc, .inr ⟨_, rfl, (Array.getElem?_eq_some_iff.1 hg).1, fun k x hx => ?_⟩, hi_own hr0⟩
    obtain ⟨A, n, c, B, m, d, h0, h1, h2, h3, h4, h5, h6⟩ := hF k x hx
    have hk : k < l.length := (List.getElem?_eq_some_iff.1 hx).1
    have ea : (⟨g, 0, none⟩ : Addr).add (k * 6) = ⟨g, k * 6, none⟩ := by unfold Addr.add; split <;> simp_all
    refine ⟨?_, ?_, ?_, ?_, A, n, c, B, m, d, ?_, ?_, h6.mono fun b hb => hb.1⟩
    · rw [ea, hr0.cellAt (k * 6) (by omega)]; exact h0
    · rw [ea]; show W.cell? ⟨g, k * 6 + 1, none⟩ = _; rw [hr0.cellAt (k * 6 + 1) (by omega)]; exact h1
    · rw [ea]; show W.cell? ⟨g, k * 6 + 2, none⟩ = _; rw [hr0.cellAt (k * 6 + 2) (by omega)]; exact h2
    · rw [ea]; show W.cell? ⟨g, k * 6 + 3, none⟩ = _; rw [hr0.cellAt (k * 6 + 3) (by omega)]; exact h3
    · rw [ea]; show W.cell? ⟨g, k * 6 + 4, none⟩ = _; rw [hr0.cellAt (k * 6 + 4) (by omega)]; exact h4
    · rw [ea]; show W.cell? ⟨g, k * 6 + 5, none⟩ = _; rw [hr0.cellAt (k * 6 + 5) (by omega)]; exact h5
end

theorem add_off (a : Addr) (k j : Nat) (hj : 0 < j) : (⟨(a.add k).block, (a.add k).off + j, none⟩ : Addr) = a.add (k + j) := by
  unfold Addr.add
  by_cases h : k = 0
  · subst h; simp [Nat.ne_of_gt hj]
  · simp [h, Nat.add_assoc]

/-- The cells of a list that is read. -/
theorem flatP {w : World} {S : Nat → Prop} {A : Option Addr} {l : List Ch} (h : RdP w S A l) :
    ∃ xs : List Value, xs.length = l.length * 6 ∧ PCells w S l xs ∧ (xs = [] ∨ ∃ a, A = some a ∧ ∀ (j : Nat) u, xs[j]? = some u → w.cell? (a.add j) = some u) := by
  rcases h with rfl | ⟨a, rfl, hlt, hc⟩
  · exact ⟨[], rfl, PCells.nil _ _ _, .inl rfl⟩
  · have key : ∀ (u : List Ch) (p : Nat), (∀ (k : Nat) x, u[k]? = some x → PrAt w S a (p + k) x) → ∃ xs : List Value, xs.length = u.length * 6 ∧ PCells w S u xs ∧ ∀ (j : Nat) v, xs[j]? = some v → w.cell? (a.add (p * 6 + j)) = some v := by
      intro u
      induction u with
      | nil => intro p _; exact ⟨[], rfl, PCells.nil _ _ _, fun j v hv => by simp at hv⟩
      | cons x u ih =>
        intro p hu
        obtain ⟨xs, h1, h2, h3⟩ := ih (p + 1) fun k y hy => by
          have := hu (k + 1) y (by simpa using hy)
          rw [show p + 1 + k = p + (k + 1) by omega]; exact this
        obtain ⟨c0, c1, c2, c3, A, n, c, B, m, d, c4, c5, c6⟩ := hu 0 x rfl
        rw [Nat.add_zero] at c0 c1 c2 c3 c4 c5
        rw [add_off _ _ _ (by decide)] at c1 c2 c3 c4 c5
        refine ⟨[.int .i64 x.k, strV x.nm, strV x.to, .int .i64 x.h.pos, .slice A n c, .slice B m d] ++ xs, by simp [h1]; omega, PCells.append (l := [x]) (PCells.one c6) rfl h2, fun j v hv => ?_⟩
        rcases j with _ | _ | _ | _ | _ | _ | j
        · cases hv; exact c0
        · cases hv; exact c1
        · cases hv; exact c2
        · cases hv; exact c3
        · cases hv; exact c4
        · cases hv; exact c5
        · have := h3 j v (by simpa using hv)
          rw [show p * 6 + (j + 6) = (p + 1) * 6 + j by omega]; exact this
    obtain ⟨xs, h1, h2, h3⟩ := key l 0 fun k x hx => by rw [Nat.zero_add]; exact hc k x hx
    exact ⟨xs, h1, h2, .inr ⟨a, rfl, fun j u hu => by have := h3 j u hu; rw [Nat.zero_mul, Nat.zero_add] at this; exact this⟩⟩

theorem info_prim : (Try.prog.info? 51).map (fun i => (i.zero, i.size, i.bytes)) = some (some (.agg #[.int .i64 0, .string ⟨#[]⟩, .string ⟨#[]⟩, .int .i64 0, .slice none 0 0, .slice none 0 0]), 6, 96) := by kernel_rfl

/-- Changes appended onto a row of one's own. -/
theorem run_ownP {W : World} {ty : TypeId} {base m c : Nat} {v : Value} {A : Option Addr} {l u : List Ch} {ys : List Value} (h : OwnP W base v l) (hu : PCells W (Out W v.ownBlock) u ys) (hyl : ys.length = u.length * 6) (hsrc : ys = [] ∨ ∃ a, A = some a ∧ ∀ (j : Nat) x, ys[j]? = some x → W.cell? (a.add j) = some x)
    (hm : u.length = m) (hn : l.length + m ≤ 100000) (hbase : base ≤ W.heap.size) :
    ∃ v' W', (Builtin.append_ #[26, 26] ty #[v, .slice A m c]).run Try.prog W = .ok v' W' ∧ OwnP W' base v' (l ++ u) ∧ W.grownBy W' v.ownBlock := by
  obtain ⟨i0, hi0, hz0, hz1, hz2⟩ := info_parts info_prim
  obtain ⟨xs, hrow, hF⟩ := h
  have h1 := one6 hu hyl
  by_cases h0 : m = 0
  · have hu0 : u = [] := List.eq_nil_of_length_eq_zero (by omega)
    subst hu0
    obtain ⟨A0, c0, rfl, hc0, _⟩ := rdP_own ⟨xs, hrow, hF⟩
    subst h0
    exact ⟨_, W, run_append_none Try.underlying26 hi0 hc0, by rw [List.append_nil]; exact ⟨xs, hrow, hF⟩, ⟨rfl, rfl, rfl, Nat.le_refl _, fun _ _ _ => rfl⟩⟩
  · obtain ⟨a, rfl, hcell⟩ : ∃ a, A = some a ∧ ∀ (j : Nat) x, ys[j]? = some x → W.cell? (a.add j) = some x := by
      rcases hsrc with hy | h
      · rw [hy] at hyl; simp at hyl; omega
      · exact h
    obtain ⟨g, cap, W', hr, r1, r2, r3, r4⟩ := run_append_lies (P := Try.prog) (w := W) 26 ty base 51 i0 _ 6 96 Try.underlying26 hi0 hz0 hz1 hz2 rfl (by decide) v l.length xs hrow a m c ys (by rw [hyl, hm]) hcell h1 (by omega) (by unfold maxLen; omega) (by omega) hbase W.heap.size rfl
    refine ⟨_, W', hr, ⟨xs ++ ys, by rw [List.length_append, hm]; exact r1, ?_⟩, r2⟩
    have hJ := (hF.append hrow.1 hu)
    rcases r3 with r3 | r3
    · rw [r3] at hJ r2
      exact hJ.gr r2
    · refine (hJ.to (out_gr r2)).mono fun b hb => ⟨Nat.lt_of_lt_of_le hb.1 r2.size, fun e => ?_⟩
      injection e with e
      have e' : b = g := e
      have := hb.1
      omega

theorem wpList_ownP {W : World} {ops : Array Oper} {rest : List Oper} {o : Oper} {a : Act} {Q : Exit → Act → World → Prop} (hgd : o.guard = none) (s x : Operand)
    (ho : o.op = .call { callee := .builtin .append, args := #[s, x], argTypes := #[26, 26] })
    (base m c : Nat) (v : Value) (A : Option Addr) (l u : List Ch) (ys : List Value) (hs : a.eval s = v) (hx : a.eval x = .slice A m c) (h : OwnP W base v l) (hu : PCells W (Out W v.ownBlock) u ys) (hyl : ys.length = u.length * 6) (hsrc : ys = [] ∨ ∃ a, A = some a ∧ ∀ (j : Nat) x, ys[j]? = some x → W.cell? (a.add j) = some x)
    (hm : u.length = m) (hn : l.length + m ≤ 100000) (hbase : base ≤ W.heap.size)
    (hK : ∀ v' W', OwnP W' base v' (l ++ u) → W.grownBy W' v.ownBlock → wpList Try.prog ops Q rest (a.put o.dst v') W') : wpList Try.prog ops Q (o :: rest) a W := by
  refine wpList_plain hgd fun K hK' => ?_
  obtain ⟨v', W', hrun, h2, h3⟩ := run_ownP (ty := o.type) (c := c) h hu hyl hsrc hm hn hbase
  unfold Oper.wp execOp
  simp only [ho, resolve, invoke, builtin, Sem.run_bind, Sem.run_pure, Result.andThen_ok, List.map_toArray, List.map_cons, List.map_nil, hs, hx, hrun]
  exact hK' _ _ (hK v' W' h2 h3)
/-- The same of a list that is read below a block that the row lies behind. -/
theorem wpList_ownPL {W : World} {ops : Array Oper} {rest : List Oper} {o : Oper} {a : Act} {Q : Exit → Act → World → Prop} (hgd : o.guard = none) (s x : Operand)
    (ho : o.op = .call { callee := .builtin .append, args := #[s, x], argTypes := #[26, 26] })
    (base N m c : Nat) (v : Value) (A : Option Addr) (l u : List Ch) (hs : a.eval s = v) (hx : a.eval x = .slice A m c) (h : OwnP W base v l) (hu : RdP W (· < N) A u) (hN : N ≤ base)
    (hm : u.length = m) (hn : l.length + m ≤ 100000) (hbase : base ≤ W.heap.size)
    (hK : ∀ v' W', OwnP W' base v' (l ++ u) → W.grownBy W' v.ownBlock → wpList Try.prog ops Q rest (a.put o.dst v') W') : wpList Try.prog ops Q (o :: rest) a W := by
  obtain ⟨ys, h1, h2, h3⟩ := flatP hu
  exact wpList_ownP hgd s x ho base m c v A l u ys hs hx h (h2.mono (out_lt (Nat.le_trans hN hbase) fun g e => Nat.le_trans hN (ownP_ge h g e))) h1 h3 hm hn hbase hK

end Fl
end Go.Proofs.Ytbiiabfhngdeiaa

namespace Go.Proofs.Ytbiiabfhngdeiaa
open Go.RowKit
set_option linter.unusedVariables false
namespace Fl
open Tx Df Sq Hk Tr Pr

/-- Changes in a row of one's own, their lines in blocks that S names. -/
def OwnS (W : World) (S : Nat → Prop) (base : Nat) (v : Value) (l : List Ch) : Prop := ∃ xs, W.ownsRow base 51 6 v l.length xs ∧ PCells W S l xs
/-- The same, their lines below block N. -/
abbrev OwnN (W : World) (N base : Nat) (v : Value) (l : List Ch) : Prop := OwnS W (· < N) base v l
section
variable {W W' : World} {N base : Nat} {v : Value} {l u : List Ch}
theorem ownN_nil (W : World) (N base : Nat) : OwnN W N base (.slice none 0 0) [] := ⟨[], World.ownsRow_nil _ _ _ _, PCells.nil _ _ _⟩
theorem ownN_ge (h : OwnN W N base v l) : ∀ k, v.ownBlock = some k → base ≤ k := fun k hk => (h.elim fun xs h => own_ge h.1 k hk)
theorem OwnS.below {S : Nat → Prop} (h : OwnS W S base v l) (hb : Below W.heap.size W W') : OwnS W' S base v l := by
  obtain ⟨xs, h1, h2⟩ := h
  exact ⟨xs, own_gr h1 (below_gr_row hb), h2.to (fun b _ hl => hb.block b hl)⟩
theorem OwnS.mono {S T : Nat → Prop} (h : OwnS W S base v l) (hs : ∀ b, S b → T b) : OwnS W T base v l := by
  obtain ⟨xs, h1, h2⟩ := h
  exact ⟨xs, h1, h2.mono hs⟩
theorem OwnS.set {S : Nat → Prop} (h : OwnS W S base v l) {b : Nat} (hb : some b ≠ v.ownBlock) (hN : ¬ S b) (j : Nat) (x : Value) : OwnS (W.setCell ⟨b, j, none⟩ x) S base v l := by
  obtain ⟨xs, h1, h2⟩ := h
  refine ⟨xs, h1.kept (grownBy_set W b j x) ?_, h2.to ((alike_set W b j x).mono fun k hk e => hN (e ▸ hk))⟩
  rcases h1.2 with ⟨rfl, _⟩ | ⟨g, cap, cur, rfl, _⟩
  · exact .inl rfl
  · exact .inr fun e => hb e.symm
theorem OwnS.set6 {S : Nat → Prop} (h : OwnS W S base v l) {b : Nat} (hb : some b ≠ v.ownBlock) (hN : ¬ S b) (v0 v1 v2 v3 v4 v5 : Value) :
    OwnS ((((((W.setCell ⟨b, 0, none⟩ v0).setCell ⟨b, 1, none⟩ v1).setCell ⟨b, 2, none⟩ v2).setCell ⟨b, 3, none⟩ v3).setCell ⟨b, 4, none⟩ v4).setCell ⟨b, 5, none⟩ v5) S base v l :=
  (((((h.set hb hN 0 v0).set hb hN 1 v1).set hb hN 2 v2).set hb hN 3 v3).set hb hN 4 v4).set hb hN 5 v5
theorem alike_set6 (W : World) (b : Nat) (v0 v1 v2 v3 v4 v5 : Value) : Alike (· ≠ b) W ((((((W.setCell ⟨b, 0, none⟩ v0).setCell ⟨b, 1, none⟩ v1).setCell ⟨b, 2, none⟩ v2).setCell ⟨b, 3, none⟩ v3).setCell ⟨b, 4, none⟩ v4).setCell ⟨b, 5, none⟩ v5) := fun k h hl => by
  have al : ∀ (X : World) (j : Nat) (v : Value), k < X.heap.size → (X.setCell ⟨b, j, none⟩ v).heap[k]? = X.heap[k]? := fun X j v hx => alike_set X b j v k h hx
  rw [al _ _ _ (by simp; exact hl), al _ _ _ (by simp; exact hl), al _ _ _ (by simp; exact hl), al _ _ _ (by simp; exact hl), al _ _ _ (by simp; exact hl), al _ _ _ hl]
theorem below_set6 {B : Nat} {w X : World} {b : Nat} (h : Below B w X) (hb : B ≤ b) (v0 v1 v2 v3 v4 v5 : Value) : Below B w ((((((X.setCell ⟨b, 0, none⟩ v0).setCell ⟨b, 1, none⟩ v1).setCell ⟨b, 2, none⟩ v2).setCell ⟨b, 3, none⟩ v3).setCell ⟨b, 4, none⟩ v4).setCell ⟨b, 5, none⟩ v5) :=
  (((((h.setCell (p := ⟨b, 0, none⟩) hb v0).setCell (p := ⟨b, 1, none⟩) hb v1).setCell (p := ⟨b, 2, none⟩) hb v2).setCell (p := ⟨b, 3, none⟩) hb v3).setCell (p := ⟨b, 4, none⟩) hb v4).setCell (p := ⟨b, 5, none⟩) hb v5
theorem OwnS.own (h : OwnN W N base v l) (hN : N ≤ base) (hb : base ≤ W.heap.size) : OwnP W base v l := by
  obtain ⟨xs, h1, h2⟩ := h
  exact ⟨xs, h1, h2.mono (out_lt (Nat.le_trans hN hb) fun g e => Nat.le_trans hN (own_ge h1 g e))⟩

/-- Changes appended onto a row of one's own. -/
theorem run_ownN {ty : TypeId} {m c : Nat} {A : Option Addr} {ys : List Value} (h : OwnN W N base v l) (hu : PCells W (· < N) u ys) (hyl : ys.length = u.length * 6) (hsrc : ys = [] ∨ ∃ a, A = some a ∧ ∀ (j : Nat) x, ys[j]? = some x → W.cell? (a.add j) = some x)
    (hm : u.length = m) (hn : l.length + m ≤ 100000) (hN : N ≤ base) (hbase : base ≤ W.heap.size) :
    ∃ v' W', (Builtin.append_ #[26, 26] ty #[v, .slice A m c]).run Try.prog W = .ok v' W' ∧ OwnN W' N base v' (l ++ u) ∧ W.grownBy W' v.ownBlock := by
  obtain ⟨i0, hi0, hz0, hz1, hz2⟩ := info_parts info_prim
  obtain ⟨xs, hrow, hF⟩ := h
  have h1 := one6 hu hyl
  by_cases h0 : m = 0
  · have hu0 : u = [] := List.eq_nil_of_length_eq_zero (by omega)
    subst hu0
    obtain ⟨A0, c0, rfl, hc0, _⟩ := rdP_own (OwnS.own ⟨xs, hrow, hF⟩ hN hbase)
    subst h0
    exact ⟨_, W, run_append_none Try.underlying26 hi0 hc0, by rw [List.append_nil]; exact ⟨xs, hrow, hF⟩, ⟨rfl, rfl, rfl, Nat.le_refl _, fun _ _ _ => rfl⟩⟩
  · obtain ⟨a, rfl, hcell⟩ : ∃ a, A = some a ∧ ∀ (j : Nat) x, ys[j]? = some x → W.cell? (a.add j) = some x := by
      rcases hsrc with hy | h
      · rw [hy] at hyl; simp at hyl; omega
      · exact h
    obtain ⟨g, cap, W', hr, r1, r2, r3, r4⟩ := run_append_lies (P := Try.prog) (w := W) 26 ty base 51 i0 _ 6 96 Try.underlying26 hi0 hz0 hz1 hz2 rfl (by decide) v l.length xs hrow a m c ys (by rw [hyl, hm]) hcell h1 (by omega) (by unfold maxLen; omega) (by omega) hbase W.heap.size rfl
    refine ⟨_, W', hr, ⟨xs ++ ys, by rw [List.length_append, hm]; exact r1, ?_⟩, r2⟩
    exact (hF.append hrow.1 hu).to ((alike_gr r2).mono fun b hb e => by have := own_ge hrow b e.symm; omega)

theorem wpList_ownN {ops : Array Oper} {rest : List Oper} {o : Oper} {a : Act} {Q : Exit → Act → World → Prop} (hgd : o.guard = none) (s x : Operand)
    (ho : o.op = .call { callee := .builtin .append, args := #[s, x], argTypes := #[26, 26] })
    (N base m c : Nat) (v : Value) (A : Option Addr) (l u : List Ch) (ys : List Value) (hs : a.eval s = v) (hx : a.eval x = .slice A m c) (h : OwnN W N base v l) (hu : PCells W (· < N) u ys) (hyl : ys.length = u.length * 6) (hsrc : ys = [] ∨ ∃ a, A = some a ∧ ∀ (j : Nat) x, ys[j]? = some x → W.cell? (a.add j) = some x)
    (hm : u.length = m) (hn : l.length + m ≤ 100000) (hN : N ≤ base) (hbase : base ≤ W.heap.size)
    (hK : ∀ v' W', OwnN W' N base v' (l ++ u) → W.grownBy W' v.ownBlock → wpList Try.prog ops Q rest (a.put o.dst v') W') : wpList Try.prog ops Q (o :: rest) a W := by
  refine wpList_plain hgd fun K hK' => ?_
  obtain ⟨v', W', hrun, h2, h3⟩ := run_ownN (ty := o.type) (c := c) h hu hyl hsrc hm hn hN hbase
  unfold Oper.wp execOp
  simp only [ho, resolve, invoke, builtin, Sem.run_bind, Sem.run_pure, Result.andThen_ok, List.map_toArray, List.map_cons, List.map_nil, hs, hx, hrun]
  exact hK' _ _ (hK v' W' h2 h3)
theorem wpList_ownNL {ops : Array Oper} {rest : List Oper} {o : Oper} {a : Act} {Q : Exit → Act → World → Prop} (hgd : o.guard = none) (s x : Operand)
    (ho : o.op = .call { callee := .builtin .append, args := #[s, x], argTypes := #[26, 26] })
    (N base m c : Nat) (v : Value) (A : Option Addr) (l u : List Ch) (hs : a.eval s = v) (hx : a.eval x = .slice A m c) (h : OwnN W N base v l) (hu : RdP W (· < N) A u)
    (hm : u.length = m) (hn : l.length + m ≤ 100000) (hN : N ≤ base) (hbase : base ≤ W.heap.size)
    (hK : ∀ v' W', OwnN W' N base v' (l ++ u) → W.grownBy W' v.ownBlock → wpList Try.prog ops Q rest (a.put o.dst v') W') : wpList Try.prog ops Q (o :: rest) a W := by
  obtain ⟨ys, h1, h2, h3⟩ := flatP hu
  exact wpList_ownN hgd s x ho N base m c v A l u ys hs hx h h2 h1 h3 hm hn hN hbase hK

/-- Where a row of one's own lies. -/
theorem ownN_addr (h : OwnN W N base v l) (h0 : 0 < l.length) : ∃ g cap, v = .slice (some ⟨g, 0, none⟩) l.length cap ∧ base ≤ g ∧ g < W.heap.size := by
  obtain ⟨xs, hr, hF⟩ := h
  rcases hr.2 with ⟨rfl, h1⟩ | ⟨g, cap, cur, rfl, hbg, hg, hc, _⟩
  · omega
  · exact ⟨g, cap, rfl, hbg, (Array.getElem?_eq_some_iff.1 hg).1⟩
theorem ownN_slice (h : OwnN W N base v l) : ∃ A c, v = .slice A l.length c ∧ l.length ≤ c := by
  obtain ⟨xs, hr, hF⟩ := h
  rcases hr.2 with ⟨rfl, h1⟩ | ⟨g, cap, cur, rfl, hbg, hg, hc, _⟩
  · exact ⟨none, 0, by rw [h1], by rw [h1]; exact Nat.le_refl _⟩
  · exact ⟨_, cap, rfl, hc⟩

/-- One of a row's changes. -/
theorem OwnS.elem {S : Nat → Prop} {g n cap k : Nat} {x : Ch} (h : OwnS W S base (.slice (some ⟨g, 0, none⟩) n cap) l) (hn : l.length = n) (hx : l[k]? = some x) :
    ∃ B i j D m d, W.cell? ⟨g, k * 6, none⟩ = some (.int .i64 x.k) ∧ W.cell? ⟨g, k * 6 + 1, none⟩ = some (strV x.nm) ∧ W.cell? ⟨g, k * 6 + 2, none⟩ = some (strV x.to) ∧ W.cell? ⟨g, k * 6 + 3, none⟩ = some (.int .i64 x.h.pos) ∧ W.cell? ⟨g, k * 6 + 4, none⟩ = some (.slice B i j) ∧ W.cell? ⟨g, k * 6 + 5, none⟩ = some (.slice D m d) ∧
      (∀ j, W.frozen? ⟨g, j, none⟩ = false) ∧ PG W S B i j D m d x := by
  subst hn
  obtain ⟨xs, hr, hF⟩ := h
  obtain ⟨B, i, j, D, m, d, h0, h1, h2, h3, h4, h5, h6⟩ := hF k x hx
  have hk : k < l.length := (List.getElem?_eq_some_iff.1 hx).1
  exact ⟨B, i, j, D, m, d, by rw [hr.cellAt (k * 6) (by omega)]; exact h0, by rw [hr.cellAt (k * 6 + 1) (by omega)]; exact h1, by rw [hr.cellAt (k * 6 + 2) (by omega)]; exact h2, by rw [hr.cellAt (k * 6 + 3) (by omega)]; exact h3, by rw [hr.cellAt (k * 6 + 4) (by omega)]; exact h4, by rw [hr.cellAt (k * 6 + 5) (by omega)]; exact h5, fun j => hr.frozenAt _, h6⟩

theorem PCells.set {S : Nat → Prop} {xs : List Value} {k : Nat} {B D : Option Addr} {i j m d : Nat} {y : Ch} (h : PCells W S l xs) (hl : xs.length = l.length * 6) (hy : PG W S B i j D m d y) :
    PCells W S (l.set k y) ((((((xs.set (k * 6) (.int .i64 y.k)).set (k * 6 + 1) (strV y.nm)).set (k * 6 + 2) (strV y.to)).set (k * 6 + 3) (.int .i64 y.h.pos)).set (k * 6 + 4) (.slice B i j)).set (k * 6 + 5) (.slice D m d)) := fun p x hx => by
  by_cases hp : p = k
  · subst hp
    have hk : p < l.length := by
      have := (List.getElem?_eq_some_iff.1 hx).1
      simpa using this
    rw [List.getElem?_set_self hk] at hx
    injection hx with hx
    subst hx
    refine ⟨B, i, j, D, m, d, ?_, ?_, ?_, ?_, ?_, ?_, hy⟩
    · rw [List.getElem?_set_ne (by omega), List.getElem?_set_ne (by omega), List.getElem?_set_ne (by omega), List.getElem?_set_ne (by omega), List.getElem?_set_ne (by omega), List.getElem?_set_self (by omega)]
    · rw [List.getElem?_set_ne (by omega), List.getElem?_set_ne (by omega), List.getElem?_set_ne (by omega), List.getElem?_set_ne (by omega), List.getElem?_set_self (by simp; omega)]
    · rw [List.getElem?_set_ne (by omega), List.getElem?_set_ne (by omega), List.getElem?_set_ne (by omega), List.getElem?_set_self (by simp; omega)]
    · rw [List.getElem?_set_ne (by omega), List.getElem?_set_ne (by omega), List.getElem?_set_self (by simp; omega)]
    · rw [List.getElem?_set_ne (by omega), List.getElem?_set_self (by simp; omega)]
    · rw [List.getElem?_set_self (by simp; omega)]
  · rw [List.getElem?_set_ne (fun e => hp e.symm)] at hx
    obtain ⟨B', i', j', D', m', d', h0, h1, h2, h3, h4, h5, h6⟩ := h p x hx
    have ne : ∀ a b, a < 6 → b < 6 → k * 6 + a ≠ p * 6 + b := fun a b ha hb => by omega
    have n0 : ∀ b, b < 6 → k * 6 ≠ p * 6 + b := fun b hb => by omega
    have key : ∀ b, b < 6 → ((((((xs.set (k * 6) (.int .i64 y.k)).set (k * 6 + 1) (strV y.nm)).set (k * 6 + 2) (strV y.to)).set (k * 6 + 3) (.int .i64 y.h.pos)).set (k * 6 + 4) (.slice B i j)).set (k * 6 + 5) (.slice D m d))[p * 6 + b]? = xs[p * 6 + b]? := fun b hb => by
      rw [List.getElem?_set_ne (ne 5 b (by decide) hb), List.getElem?_set_ne (ne 4 b (by decide) hb), List.getElem?_set_ne (ne 3 b (by decide) hb), List.getElem?_set_ne (ne 2 b (by decide) hb), List.getElem?_set_ne (ne 1 b (by decide) hb), List.getElem?_set_ne (n0 b hb)]
    exact ⟨B', i', j', D', m', d', (key 0 (by decide)).trans h0, (key 1 (by decide)).trans h1, (key 2 (by decide)).trans h2, (key 3 (by decide)).trans h3, (key 4 (by decide)).trans h4, (key 5 (by decide)).trans h5, h6⟩

/-- One of a row's changes stored anew. -/
theorem OwnS.store {S : Nat → Prop} {g n cap k : Nat} {B D : Option Addr} {i j m d : Nat} {y : Ch} (h : OwnS W S base (.slice (some ⟨g, 0, none⟩) n cap) l) (hn : l.length = n) (hN : ¬ S g) (hy : PG W S B i j D m d y) :
    OwnS ((((((W.setCell ⟨g, k * 6, none⟩ (.int .i64 y.k)).setCell ⟨g, k * 6 + 1, none⟩ (strV y.nm)).setCell ⟨g, k * 6 + 2, none⟩ (strV y.to)).setCell ⟨g, k * 6 + 3, none⟩ (.int .i64 y.h.pos)).setCell ⟨g, k * 6 + 4, none⟩ (.slice B i j)).setCell ⟨g, k * 6 + 5, none⟩ (.slice D m d)) S base (.slice (some ⟨g, 0, none⟩) n cap) (l.set k y) := by
  subst hn
  obtain ⟨xs, hr, hF⟩ := h
  obtain ⟨h0, _⟩ := hr.stored (k * 6) (.int .i64 y.k)
  obtain ⟨h1, _⟩ := h0.stored (k * 6 + 1) (strV y.nm)
  obtain ⟨h2, _⟩ := h1.stored (k * 6 + 2) (strV y.to)
  obtain ⟨h3, _⟩ := h2.stored (k * 6 + 3) (.int .i64 y.h.pos)
  obtain ⟨h4, _⟩ := h3.stored (k * 6 + 4) (.slice B i j)
  obtain ⟨h5, _⟩ := h4.stored (k * 6 + 5) (.slice D m d)
  refine ⟨_, by rw [List.length_set]; exact h5, ?_⟩
  have al : ∀ (X : World) (p : Nat) (v : Value), Alike S X (X.setCell ⟨g, p, none⟩ v) := fun X p v => (alike_set X g p v).mono fun b hb e => hN (e ▸ hb)
  exact ((((((hF.set hr.1 hy).to (al _ _ _)).to (al _ _ _)).to (al _ _ _)).to (al _ _ _)).to (al _ _ _)).to (al _ _ _)
end

/-- Six cells of a row are set. -/
theorem below_row6 {B g : Nat} {w X : World} (h : Below B w X) (hb : B ≤ g) (k : Nat) (v0 v1 v2 v3 v4 v5 : Value) : Below B w ((((((X.setCell ⟨g, k * 6, none⟩ v0).setCell ⟨g, k * 6 + 1, none⟩ v1).setCell ⟨g, k * 6 + 2, none⟩ v2).setCell ⟨g, k * 6 + 3, none⟩ v3).setCell ⟨g, k * 6 + 4, none⟩ v4).setCell ⟨g, k * 6 + 5, none⟩ v5) :=
  (((((h.setCell (p := ⟨g, k * 6, none⟩) hb v0).setCell (p := ⟨g, k * 6 + 1, none⟩) hb v1).setCell (p := ⟨g, k * 6 + 2, none⟩) hb v2).setCell (p := ⟨g, k * 6 + 3, none⟩) hb v3).setCell (p := ⟨g, k * 6 + 4, none⟩) hb v4).setCell (p := ⟨g, k * 6 + 5, none⟩) hb v5
theorem blk_row6 {X : World} {b g : Nat} {t : TypeId} {cs : Array Value} (h : Blk X b t cs) (hne : b ≠ g) (k : Nat) (v0 v1 v2 v3 v4 v5 : Value) : Blk ((((((X.setCell ⟨g, k * 6, none⟩ v0).setCell ⟨g, k * 6 + 1, none⟩ v1).setCell ⟨g, k * 6 + 2, none⟩ v2).setCell ⟨g, k * 6 + 3, none⟩ v3).setCell ⟨g, k * 6 + 4, none⟩ v4).setCell ⟨g, k * 6 + 5, none⟩ v5) b t cs :=
  (((((h.set_ne hne (k * 6) v0).set_ne hne (k * 6 + 1) v1).set_ne hne (k * 6 + 2) v2).set_ne hne (k * 6 + 3) v3).set_ne hne (k * 6 + 4) v4).set_ne hne (k * 6 + 5) v5
theorem blk_set6 {X : World} {b g : Nat} {t : TypeId} {cs : Array Value} (h : Blk X b t cs) (hne : b ≠ g) (v0 v1 v2 v3 v4 v5 : Value) : Blk ((((((X.setCell ⟨g, 0, none⟩ v0).setCell ⟨g, 1, none⟩ v1).setCell ⟨g, 2, none⟩ v2).setCell ⟨g, 3, none⟩ v3).setCell ⟨g, 4, none⟩ v4).setCell ⟨g, 5, none⟩ v5) b t cs :=
  (((((h.set_ne hne 0 v0).set_ne hne 1 v1).set_ne hne 2 v2).set_ne hne 3 v3).set_ne hne 4 v4).set_ne hne 5 v5
theorem alike_row6 (X : World) (g k : Nat) (v0 v1 v2 v3 v4 v5 : Value) : Alike (· ≠ g) X ((((((X.setCell ⟨g, k * 6, none⟩ v0).setCell ⟨g, k * 6 + 1, none⟩ v1).setCell ⟨g, k * 6 + 2, none⟩ v2).setCell ⟨g, k * 6 + 3, none⟩ v3).setCell ⟨g, k * 6 + 4, none⟩ v4).setCell ⟨g, k * 6 + 5, none⟩ v5) := fun i h hl => by
  have al : ∀ (X : World) (j : Nat) (v : Value), i < X.heap.size → (X.setCell ⟨g, j, none⟩ v).heap[i]? = X.heap[i]? := fun X j v hx => alike_set X g j v i h hx
  rw [al _ _ _ (by simp; exact hl), al _ _ _ (by simp; exact hl), al _ _ _ (by simp; exact hl), al _ _ _ (by simp; exact hl), al _ _ _ (by simp; exact hl), al _ _ _ hl]
theorem Alike.trans_ {S : Nat → Prop} {W W1 W2 : World} (h : Alike S W W1) (h' : Alike S W1 W2) (hs : W.heap.size ≤ W1.heap.size) : Alike S W W2 := fun b hb hl => (h' b hb (Nat.lt_of_lt_of_le hl hs)).trans (h b hb hl)

/-- What two that pass read as. -/
theorem way_pg1 {W : World} {S : Nat → Prop} {p q x y : Ch} {D E : Option Addr} {m k m' k' : Nat} (h : Pr.Way p q x y) (gv : PG W S D m k E m' k' q) (hn : p.nm.length ≤ maxLen) : PG W S D m k E m' k' x := by
  cases h with
  | apart h => exact gv
  | out kp kq hn' => exact ⟨gv.l, gv.l', gv.k, gv.k', gv.mm, gv.mm', gv.r, gv.r', gv.pp, gv.kk, hn, gv.to, gv.s, gv.s'⟩
  | into kq kp hn' => exact gv
  | both kp kq hn' u v h =>
    obtain ⟨m1, m2⟩ := Sw.passH_mays h
    obtain ⟨_, b1, b2, b3, b4⟩ := Sw.pass_moves (x := u) (y := v) (Sw.passH_may h).2.2.1
    have g1 := Sw.mayH_pos m1
    exact ⟨by dsimp only; rw [b1]; exact gv.l, by dsimp only; rw [b2]; exact gv.l', gv.k, gv.k', gv.mm, gv.mm', by dsimp only; rw [b1]; exact gv.r, by dsimp only; rw [b2]; exact gv.r', by unfold I64; dsimp only; omega, gv.kk, gv.nm, gv.to, by dsimp only; rw [b1]; exact gv.s, by dsimp only; rw [b2]; exact gv.s'⟩
theorem way_pg2 {W : World} {S : Nat → Prop} {p q x y : Ch} {A B : Option Addr} {n c n' c' : Nat} (h : Pr.Way p q x y) (hv : PG W S A n c B n' c' p) (ht : q.to.length ≤ maxLen) : PG W S A n c B n' c' y := by
  cases h with
  | apart h => exact hv
  | out kp kq hn' => exact hv
  | into kq kp hn' => exact ⟨hv.l, hv.l', hv.k, hv.k', hv.mm, hv.mm', hv.r, hv.r', hv.pp, hv.kk, ht, hv.to, hv.s, hv.s'⟩
  | both kp kq hn' u v h =>
    obtain ⟨m1, m2⟩ := Sw.passH_mays h
    obtain ⟨_, b1, b2, b3, b4⟩ := Sw.pass_moves (x := u) (y := v) (Sw.passH_may h).2.2.1
    have g1 := Sw.mayH_pos m2
    exact ⟨by dsimp only; rw [b3]; exact hv.l, by dsimp only; rw [b4]; exact hv.l', hv.k, hv.k', hv.mm, hv.mm', by dsimp only; rw [b3]; exact hv.r, by dsimp only; rw [b4]; exact hv.r', by unfold I64; dsimp only; omega, hv.kk, hv.nm, hv.to, by dsimp only; rw [b3]; exact hv.s, by dsimp only; rw [b4]; exact hv.s'⟩

/-- Hunks of at most 1000 lines. -/
def Short (l : List Ch) : Prop := ∀ x ∈ l, x.h.old.length ≤ 1000 ∧ x.h.new.length ≤ 1000

end Fl
end Go.Proofs.Ytbiiabfhngdeiaa

namespace Go.Proofs.Ytbiiabfhngdeiaa
open Go.ChangeShapes Go.WideShapes Go.ChangeAt Go.RowKit Go.Deep
set_option linter.unusedVariables false
namespace Fl
open Tx Df Sq Hk Tr Pr

/-- Changes that are handed in. -/
structure PrsArg (w : World) (A : Option Addr) (n c : Nat) (l : List Ch) : Prop where
  len : l.length = n
  cap : n ≤ c
  le : n ≤ maxLen
  rd : RdP w (· < w.heap.size) A l

section
variable {H : Type} {enc : TypeId × Value → H} {W : World} {base : Nat} {spare : Nat → Bool} {held : Bool}

theorem pr_in {fuel : Nat} {a : Addr} {i : Nat} {cs : List Value} {x : DataW H × List MemPlace} (hc : W.cells? base (a.add (i * 6)) 6 = some cs) (h : DataW.trod enc Try.prog W base spare held fuel 51 cs = some x) : ∃ p : Ch, PrAt W (· < W.heap.size) a i p := by
  have s3 : Try.prog.cellsOf 49 = 3 := by kernel_rfl
  have s1 : Try.prog.cellsOf 9 = 1 := by kernel_rfl
  have s0 : Try.prog.cellsOf 3 = 1 := by kernel_rfl
  have s2 : Try.prog.cellsOf 47 = 1 := by kernel_rfl
  obtain ⟨_, hl, hcell⟩ := World.cells?_some hc
  obtain ⟨xs, n, _, _, _, hlen, hf⟩ := DataW.trod_struct Try.underlying51 h
  match cs, hl with
  | [v0, v1, v2, v3, v4, v5], _ =>
    match xs, hlen with
    | [y0, y1, y2, y3], _ =>
      have h0 : DataW.trod enc Try.prog W base spare held n 3 (([v0, v1, v2, v3, v4, v5].drop 0).take (Try.prog.cellsOf 3)) = some y0 := by simpa using hf 0 _ rfl
      have h1 : DataW.trod enc Try.prog W base spare held n 9 (([v0, v1, v2, v3, v4, v5].drop 1).take (Try.prog.cellsOf 9)) = some y1 := by simpa using hf 1 _ rfl
      have h2 : DataW.trod enc Try.prog W base spare held n 9 (([v0, v1, v2, v3, v4, v5].drop 2).take (Try.prog.cellsOf 9)) = some y2 := by simpa using hf 2 _ rfl
      have h3 : DataW.trod enc Try.prog W base spare held n 49 (([v0, v1, v2, v3, v4, v5].drop 3).take (Try.prog.cellsOf 49)) = some y3 := by simpa using hf 3 _ rfl
      simp only [s0, s1, s3, List.drop_zero, List.take_succ_cons, List.take_zero, List.drop_succ_cons] at h0 h1 h2 h3
      obtain ⟨zs, m, _, _, _, hlen3, hf3⟩ := DataW.trod_struct Try.underlying49 h3
      match zs, hlen3 with
      | [z0, z1, z2], _ =>
        have g0 : DataW.trod enc Try.prog W base spare held m 3 (([v3, v4, v5].drop 0).take (Try.prog.cellsOf 3)) = some z0 := by simpa using hf3 0 _ rfl
        have g1 : DataW.trod enc Try.prog W base spare held m 47 (([v3, v4, v5].drop 1).take (Try.prog.cellsOf 47)) = some z1 := by simpa using hf3 1 _ rfl
        have g2 : DataW.trod enc Try.prog W base spare held m 47 (([v3, v4, v5].drop 2).take (Try.prog.cellsOf 47)) = some z2 := by simpa using hf3 2 _ rfl
        simp only [s0, s2, List.drop_zero, List.take_succ_cons, List.take_zero, List.drop_succ_cons] at g0 g1 g2
        obtain ⟨k, e0, _, w0⟩ := DataW.trod_int Try.underlying3 h0
        injection e0 with e0
        subst e0
        obtain ⟨sn, e1, _, w1⟩ := DataW.trod_string Try.underlying9 h1
        injection e1 with e1
        subst e1
        obtain ⟨so, e2, _, w2⟩ := DataW.trod_string Try.underlying9 h2
        injection e2 with e2
        subst e2
        obtain ⟨q, e3, _, w3⟩ := DataW.trod_int Try.underlying3 g0
        injection e3 with e3
        subst e3
        obtain ⟨A, n1, c1, l, rfl, s⟩ := strs_any g1
        obtain ⟨A', n2, c2, l', rfl, s'⟩ := strs_any g2
        have k0 := hcell 0 (by decide); have k1 := hcell 1 (by decide); have k2 := hcell 2 (by decide); have k3 := hcell 3 (by decide); have k4 := hcell 4 (by decide); have k5 := hcell 5 (by decide)
        rw [add_zero'] at k0
        refine ⟨⟨k, sn.data.toList, so.data.toList, ⟨q, l, l'⟩⟩, ?_, ?_, ?_, ?_, A, n1, c1, A', n2, c2, ?_, ?_, ⟨s.len, s'.len, s.cap, s'.cap, s.le, s'.le, s.rd, s'.rd, i64_wf w3, i64_wf w0, ?_, ?_, s.short, s'.short⟩⟩
        · exact k0
        · exact k1
        · exact k2
        · exact k3
        · exact k4
        · exact k5
        · show sn.data.toList.length ≤ _; rw [Array.length_toList]; exact w1
        · show so.data.toList.length ≤ _; rw [Array.length_toList]; exact w2

theorem prs_in {fuel : Nat} {cs : List Value} {x : DataW H × List MemPlace} {A : Option Addr} {l c : Nat} (h : DataW.trod enc Try.prog W base spare held fuel 26 cs = some x) (hcs : cs = [.slice A l c]) :
    ∃ t : List Ch, PrsArg W A l c t := by
  have s37 : Try.prog.cellsOf 51 = 6 := by kernel_rfl
  rcases open_slice Try.underlying26 h with ⟨hcs', _⟩ | ⟨a, len, cap, m, n, D, Pl, hcs', _, hl, hm, hmm, _, hi⟩
  · rw [hcs] at hcs'
    simp at hcs'
    obtain ⟨rfl, rfl, rfl⟩ := hcs'
    exact ⟨[], rfl, Nat.le_refl _, Nat.zero_le _, .inl rfl⟩
  · rw [hcs] at hcs'
    simp at hcs'
    obtain ⟨rfl, rfl, rfl⟩ := hcs'
    have hlm : l ≤ m := by rw [hmm]; split <;> omega
    rw [s37] at hi
    obtain ⟨t, h1, h2⟩ := list_of (P := fun i x => PrAt W (· < W.heap.size) a i x) l (fun i hil => by
      obtain ⟨cs', hc, ht⟩ := hi i (by omega)
      exact pr_in hc ht)
    refine ⟨t, h1, hl, by omega, ?_⟩
    cases t with
    | nil => exact .inl rfl
    | cons e es =>
      have hb := lt_of_cell (h2 0 e rfl).c0
      rw [add_block] at hb
      exact .inr ⟨a, rfl, hb, fun k x hx => h2 k x hx⟩
end

end Fl
end Go.Proofs.Ytbiiabfhngdeiaa

namespace Go.Proofs.Ytbiiabfhngdeiaa
namespace Td
open Tx Sq Hk Tr Pr Fl
set_option linter.unusedVariables false

section
variable {α : Type} (idle : α → Bool) (inv : α → α)

/-- None is idle, and none undoes the one behind it (of a stack). -/
def Tst : List α → Prop
  | [] => True
  | [p] => idle p = false
  | p :: o :: s => idle p = false ∧ p ≠ inv o ∧ Tst (o :: s)
theorem Tst.tail {p : α} {s : List α} (h : Tst idle inv (p :: s)) : Tst idle inv s := by
  cases s with
  | nil => trivial
  | cons o s => exact h.2.2
theorem tst_snoc {s : List α} {p : α} : Tst idle inv (s ++ [p]) ↔ Tst idle inv s ∧ idle p = false ∧ (∀ q ∈ s.getLast?, q ≠ inv p) := by
  induction s with
  | nil => simp [Tst]
  | cons a s ih =>
    cases s with
    | nil =>
      simp only [List.cons_append, List.nil_append, Tst, List.getLast?_singleton, Option.mem_def, Option.some.injEq, forall_eq']
      exact ⟨fun ⟨h1, h2, h3⟩ => ⟨h1, h3, h2⟩, fun ⟨h1, h2, h3⟩ => ⟨h1, h3, h2⟩⟩
    | cons b s =>
      rw [List.cons_append, List.cons_append, Tst, Tst, ← List.cons_append, ih]
      rw [List.getLast?_cons_cons]
      exact ⟨fun ⟨h1, h2, h3, h4, h5⟩ => ⟨⟨h1, h2, h3⟩, h4, h5⟩, fun ⟨⟨h1, h2, h3⟩, h4, h5⟩ => ⟨h1, h2, h3, h4, h5⟩⟩
variable [DecidableEq α]

/-- One more on a stack, its last one ahead: nothing, if it is idle; it takes away the last one, if it undoes that. -/
def step (s : List α) (p : α) : List α :=
  if idle p then s else match s with
    | [] => [p]
    | o :: s' => if p = inv o then s' else p :: o :: s'
def run (s l : List α) : List α := l.foldl (step idle inv) s
def tidy (l : List α) : List α := (run idle inv [] l).reverse

theorem step_idle {s : List α} {p : α} (h : idle p = true) : step idle inv s p = s := by unfold step; rw [if_pos h]
theorem step_pop {s : List α} {o : α} (h : idle (inv o) = false) : step idle inv (o :: s) (inv o) = s := by
  unfold step; rw [h]; simp
theorem step_push {s : List α} {p : α} (h : idle p = false) (hs : ∀ o s', s = o :: s' → p ≠ inv o) : step idle inv s p = p :: s := by
  unfold step
  rw [h]
  cases s with
  | nil => rfl
  | cons o s' => simp [hs o s' rfl]
theorem step_cases (s : List α) (p : α) : (idle p = true ∧ step idle inv s p = s) ∨ (idle p = false ∧ ∃ o, s = o :: step idle inv s p ∧ p = inv o) ∨ (idle p = false ∧ (∀ o s', s = o :: s' → p ≠ inv o) ∧ step idle inv s p = p :: s) := by
  cases hi : idle p with
  | true => exact .inl ⟨rfl, step_idle idle inv hi⟩
  | false =>
    refine .inr ?_
    cases s with
    | nil =>
      have hs : ∀ o s', ([] : List α) = o :: s' → p ≠ inv o := fun o s' h => by cases h
      exact .inr ⟨rfl, hs, step_push idle inv hi hs⟩
    | cons o s' =>
      by_cases hp : p = inv o
      · subst hp
        exact .inl ⟨rfl, o, by rw [step_pop idle inv hi], rfl⟩
      · have hs : ∀ o2 s2, o :: s' = o2 :: s2 → p ≠ inv o2 := fun o2 s2 h => by injection h with h1 h2; rw [← h1]; exact hp
        exact .inr ⟨rfl, hs, step_push idle inv hi hs⟩
theorem step_tst {s : List α} {p : α} (h : Tst idle inv s) : Tst idle inv (step idle inv s p) := by
  rcases step_cases idle inv s p with ⟨_, e⟩ | ⟨_, o, e, _⟩ | ⟨hi, hs, e⟩
  · rw [e]; exact h
  · rw [e] at h; exact h.tail
  · rw [e]
    cases s with
    | nil => exact hi
    | cons o s => exact ⟨hi, hs o s rfl, h⟩
theorem run_tst : ∀ {l s : List α}, Tst idle inv s → Tst idle inv (run idle inv s l)
  | [], _, h => h
  | p :: l, s, h => run_tst (l := l) (step_tst idle inv h)
theorem step_len (s : List α) (p : α) : (step idle inv s p).length ≤ s.length + 1 := by
  rcases step_cases idle inv s p with ⟨_, e⟩ | ⟨_, o, e, _⟩ | ⟨hi, hs, e⟩
  · rw [e]; omega
  · have := congrArg List.length e
    simp only [List.length_cons] at this
    omega
  · rw [e]; simp
theorem run_len : ∀ (l s : List α), (run idle inv s l).length ≤ s.length + l.length
  | [], s => by simp [run]
  | p :: l, s => by
    have h1 := run_len l (step idle inv s p)
    have h2 := step_len idle inv s p
    show (run idle inv (step idle inv s p) l).length ≤ _
    simp only [List.length_cons]
    omega
theorem tidy_len (l : List α) : (tidy idle inv l).length ≤ l.length := by
  have := run_len idle inv l []
  unfold tidy
  rw [List.length_reverse]
  simpa using this
theorem run_app (s a b : List α) : run idle inv s (a ++ b) = run idle inv (run idle inv s a) b := List.foldl_append
theorem run_snoc (s a : List α) (p : α) : run idle inv s (a ++ [p]) = step idle inv (run idle inv s a) p := run_app idle inv s a [p]

theorem step_back (hii : ∀ p, inv (inv p) = p) (hid : ∀ p, idle (inv p) = idle p) {s : List α} (h : Tst idle inv s) (p : α) : step idle inv (step idle inv s p) (inv p) = s := by
  rcases step_cases idle inv s p with ⟨hi, e⟩ | ⟨hi, o, e, rfl⟩ | ⟨hi, hs, e⟩
  · rw [e, step_idle idle inv (by rw [hid]; exact hi)]
  · rw [hii]
    rw [e] at h
    rw [hid] at hi
    have : step idle inv (step idle inv s (inv o)) o = o :: step idle inv s (inv o) := by
      refine step_push idle inv hi (fun o2 s2 h2 => ?_)
      rw [h2] at h
      exact h.2.1
    rw [this, ← e]
  · rw [e, step_pop idle inv (by rw [hid]; exact hi)]
/-- Changes, and what undoes them, behind them, leave what was. -/
theorem run_back (hii : ∀ p, inv (inv p) = p) (hid : ∀ p, idle (inv p) = idle p) : ∀ {l s : List α}, Tst idle inv s → run idle inv s (l ++ (l.map inv).reverse) = s
  | [], s, h => rfl
  | p :: l, s, h => by
    rw [List.map_cons, List.reverse_cons, List.cons_append, ← List.append_assoc]
    show run idle inv (step idle inv s p) (l ++ (l.map inv).reverse ++ [inv p]) = s
    rw [run_snoc, run_back hii hid (step_tst idle inv h), step_back idle inv hii hid h]
theorem tidy_none (hii : ∀ p, inv (inv p) = p) (hid : ∀ p, idle (inv p) = idle p) (l : List α) : tidy idle inv (l ++ (l.map inv).reverse) = [] := by unfold tidy; rw [run_back idle inv hii hid (s := []) trivial]; rfl
/-- What is left of a list does what the list does. -/
theorem run_tidy (hii : ∀ p, inv (inv p) = p) (hid : ∀ p, idle (inv p) = idle p) {s : List α} (h : Tst idle inv s) (b : List α) : run idle inv s (tidy idle inv b) = run idle inv s b := by
  have key : ∀ (r : List α), run idle inv s (tidy idle inv r.reverse) = run idle inv s r.reverse := by
    intro r
    induction r with
    | nil => rfl
    | cons p r ih =>
      rw [List.reverse_cons, run_snoc, ← ih]
      unfold tidy
      rw [run_snoc]
      rcases step_cases idle inv (run idle inv [] r.reverse) p with ⟨hi, e⟩ | ⟨hi, o, e, rfl⟩ | ⟨hi, hs, e⟩
      · rw [e, step_idle idle inv hi]
      · have e2 : (run idle inv [] r.reverse).reverse = (step idle inv (run idle inv [] r.reverse) (inv o)).reverse ++ [o] := by
          conv => lhs; rw [e]
          rw [List.reverse_cons]
        rw [e2, run_snoc, step_back idle inv hii hid (run_tst idle inv h)]
      · rw [e, List.reverse_cons, run_snoc]
  have := key b.reverse
  rw [List.reverse_reverse] at this
  exact this
theorem tidy_parts (hii : ∀ p, inv (inv p) = p) (hid : ∀ p, idle (inv p) = idle p) (a b : List α) : tidy idle inv (tidy idle inv a ++ tidy idle inv b) = tidy idle inv (a ++ b) := by
  unfold tidy
  rw [run_app, run_app]
  have e1 := run_tidy idle inv hii hid (s := []) trivial a
  have e2 := run_tidy idle inv hii hid (s := run idle inv [] a) (run_tst idle inv trivial) b
  unfold tidy at e1 e2
  rw [e1, e2]
theorem tidy_idle {p : α} (hp : idle p = true) (a b : List α) : tidy idle inv (a ++ p :: b) = tidy idle inv (a ++ b) := by
  unfold tidy
  rw [run_app, run_app]
  show (run idle inv (step idle inv (run idle inv [] a) p) b).reverse = _
  rw [step_idle idle inv hp]
/-- What is tight stays. -/
theorem run_of_tst : ∀ {s : List α}, Tst idle inv s → run idle inv [] s.reverse = s
  | [], _ => rfl
  | p :: s, h => by
    rw [List.reverse_cons, run_snoc, run_of_tst h.tail]
    refine step_push idle inv ?_ (fun o s' e => ?_)
    · cases s with
      | nil => exact h
      | cons o s => exact h.1
    · rw [e] at h; exact h.2.1

/-- Is none idle, and none what undoes the one ahead of it? -/
def tight : List α → Bool
  | [] => true
  | [p] => !idle p
  | p :: q :: l => !idle p && (decide (q ≠ inv p) && tight (q :: l))
theorem tight_iff : ∀ {l : List α}, tight idle inv l = true ↔ Tst idle inv l.reverse
  | [] => by simp [tight, Tst]
  | [p] => by simp [tight, Tst]
  | p :: q :: l => by
    rw [tight, Bool.and_eq_true, Bool.and_eq_true, tight_iff (l := q :: l), List.reverse_cons (a := p), tst_snoc]
    have : (q :: l).reverse.getLast? = some q := by rw [List.getLast?_reverse]; rfl
    rw [this]
    simp only [Bool.not_eq_true', decide_eq_true_eq, Option.mem_def, Option.some.injEq, forall_eq']
    exact ⟨fun ⟨h1, h2, h3⟩ => ⟨h3, h1, h2⟩, fun ⟨h3, h1, h2⟩ => ⟨h1, h2, h3⟩⟩
theorem tidy_tight (l : List α) : tight idle inv (tidy idle inv l) = true := by
  rw [tight_iff]
  unfold tidy
  rw [List.reverse_reverse]
  exact run_tst idle inv trivial
theorem tight_tidy {l : List α} (h : tight idle inv l = true) : tidy idle inv l = l := by
  rw [tight_iff] at h
  have := run_of_tst idle inv h
  rw [List.reverse_reverse] at this
  unfold tidy
  rw [this, List.reverse_reverse]
theorem tidy_tidy (l : List α) : tidy idle inv (tidy idle inv l) = tidy idle inv l := tight_tidy idle inv (tidy_tight idle inv l)
theorem tight_iff_same (l : List α) : tight idle inv l = decide (tidy idle inv l = l) := by
  rw [Bool.eq_iff_iff, decide_eq_true_eq]
  exact ⟨tight_tidy idle inv, fun h => by rw [← h]; exact tidy_tight idle inv l⟩
end

/-! Of changes. -/
instance : DecidableEq Ch := fun p q => decidable_of_iff (sameP p q = true) sameP_iff
theorem idleP_turn (p : Ch) : idleP (turnP p) = idleP p := by
  by_cases h0 : p.k = 0
  · rw [turnP_0 h0]; unfold idleP; simp [h0]
  · by_cases h1 : p.k = 1
    · rw [turnP_1 h1]; unfold idleP; simp [h1]
    · by_cases h2 : p.k = 2
      · rw [turnP_2 h2]; unfold idleP; simp [h2]
      · rw [turnP_h h0 h1 h2]
        unfold idleP turn
        simp only
        rw [show decide (p.h.new = p.h.old) = decide (p.h.old = p.h.new) from decide_eq_decide.2 ⟨Eq.symm, Eq.symm⟩]
abbrev tidyP : List Ch → List Ch := tidy idleP turnP
abbrev tightP : List Ch → Bool := tight idleP turnP
/-- Where a list changes a tree, the tidied one does so to the same. -/
theorem tidyP_same {t u : TR} {l : List Ch} (ht : Up lt t) (h : doF t l = (0, u)) : doF t (tidyP l) = (0, u) := by
  have key : ∀ (r : List Ch) (u : TR), doL dP t r.reverse = some u → doL dP t (run idleP turnP [] r.reverse).reverse = some u := by
    intro r
    induction r with
    | nil => exact fun u h => h
    | cons p r ih =>
      intro u h
      rw [List.reverse_cons, doL_app] at h
      cases hw : doL dP t r.reverse with
      | none => rw [hw] at h; cases h
      | some w =>
        rw [hw, Option.bind_some] at h
        obtain ⟨u', h1, h2⟩ := doL_cons_inv dP h
        injection h2 with h2
        subst h2
        have uw : Up lt w := doF_up ht (doF_some.1 hw)
        have e0 := ih w hw
        rw [List.reverse_cons, run_snoc]
        rcases step_cases idleP turnP (run idleP turnP [] r.reverse) p with ⟨hi, e⟩ | ⟨hi, o, e, rfl⟩ | ⟨hi, hs, e⟩
        · rw [e, e0, doP_idle uw (dP_some.1 h1) hi]
        · rw [e, List.reverse_cons, doL_app] at e0
          cases hv : doL dP t (step idleP turnP (run idleP turnP [] r.reverse) (turnP o)).reverse with
          | none => rw [hv] at e0; cases e0
          | some v =>
            rw [hv, Option.bind_some] at e0
            obtain ⟨w', h3, h4⟩ := doL_cons_inv dP e0
            injection h4 with h4
            subst h4
            have uv : Up lt v := doF_up ht (doF_some.1 hv)
            have := doP_back uv (dP_some.1 h3)
            rw [dP_some.1 h1] at this
            injection this with _ this
            rw [this]
        · rw [e, List.reverse_cons, doL_app, e0, Option.bind_some, doL_cons dP h1]
          rfl
  have := key l.reverse u (by rw [List.reverse_reverse]; exact doF_some.2 h)
  rw [List.reverse_reverse] at this
  exact doF_some.1 this

end Td
end Go.Proofs.Ytbiiabfhngdeiaa
