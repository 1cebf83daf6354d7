/-
  Words and contracts, joined: PnPlain PnMem PnOpen.
-/
import Derived.Test.YtbiiabfhngdeiaaGF
set_option maxRecDepth 100000
namespace Go.Proofs.Ytbiiabfhngdeiaa
namespace Pn
open Tx Df Sq Hk Tr Pr Fl
set_option linter.unusedVariables false

/-! Layer 14. -/
/-- An id: who, and its number. -/
abbrev Id_ : Type := Int × Int
/-- A named patch. -/
structure Nm where
  id : Id_
  deps : List Id_
  txt : List UInt8
  l : List Ch
theorem nm_ext {p q : Nm} (h1 : p.id = q.id) (h2 : p.deps = q.deps) (h3 : p.txt = q.txt) (h4 : p.l = q.l) : p = q := by
  cases p; cases q; simp only at h1 h2 h3 h4; subst h1 h2 h3 h4; rfl
def lessI (a b : Id_) : Bool := decide (a.1 < b.1) || (decide (a.1 = b.1) && decide (a.2 < b.2))
theorem lessI_iff {a b : Id_} : lessI a b = true ↔ a.1 < b.1 ∨ (a.1 = b.1 ∧ a.2 < b.2) := by
  unfold lessI
  simp only [Bool.or_eq_true, Bool.and_eq_true, decide_eq_true_eq]
theorem lessI_asym {a b : Id_} : ¬ (lessI a b = true ∧ lessI b a = true) := by rw [lessI_iff, lessI_iff]; omega
theorem lessI_tri {a b : Id_} : (lessI a b = true ∨ lessI b a = true) ↔ a ≠ b := by
  rw [lessI_iff, lessI_iff]
  constructor
  · rintro h rfl; omega
  · intro h
    by_cases h1 : a.1 = b.1
    · have h2 : a.2 ≠ b.2 := fun e => h (Prod.ext h1 e)
      omega
    · omega
theorem lessI_trans {a b c : Id_} (h : lessI a b = true) (h' : lessI b c = true) : lessI a c = true := by
  rw [lessI_iff] at h h' ⊢; omega
def okI (x : Id_) : Bool := decide (0 ≤ x.1) && decide (x.1 < 8) && (decide (1 ≤ x.2) && decide (x.2 ≤ 1048576))
/-- Do ids rise? -/
def riseI : List Id_ → Bool
  | [] => true
  | [_] => true
  | a :: b :: l => lessI a b && riseI (b :: l)
def depsOk (me : Id_) (l : List Id_) : Bool := (l.all fun x => okI x && decide (x ≠ me)) && riseI l
def mayN (p : Nm) : Bool := okI p.id && (may p.txt && (p.l.all mayP && (depsOk p.id p.deps && (decide (p.deps.length ≤ 60) && decide (p.l.length ≤ 200)))))
instance : DecidableEq Ch := fun p q => decidable_of_iff (sameP p q = true) sameP_iff
def sameN (p q : Nm) : Bool := decide (p.l = q.l) && (decide (p.id = q.id) && (decide (p.txt = q.txt) && decide (p.deps = q.deps)))
theorem sameN_iff {p q : Nm} : sameN p q = true ↔ p = q := by
  unfold sameN
  simp only [Bool.and_eq_true, decide_eq_true_eq]
  exact ⟨fun ⟨h1, h2, h3, h4⟩ => nm_ext h2 h4 h3 h1, fun h => by rw [h]; exact ⟨rfl, rfl, rfl, rfl⟩⟩
theorem sameN_self (p : Nm) : sameN p p = true := sameN_iff.2 rfl
def allN (l : List Nm) : List Ch := l.flatMap (·.l)
theorem allN_cons (p : Nm) (l : List Nm) : allN (p :: l) = p.l ++ allN l := List.flatMap_cons
theorem allN_app (a b : List Nm) : allN (a ++ b) = allN a ++ allN b := List.flatMap_append
def findN (l : List Nm) (id : Id_) : Int := match l.findIdx? (fun p => decide (p.id = id)) with
  | some k => k
  | none => -1
theorem riseI_drop : ∀ {l : List Id_} (n : Nat), riseI l = true → riseI (l.drop n) = true
  | [], n, _ => by simp [riseI]
  | [a], n, _ => by
    cases n with
    | zero => rfl
    | succ n => simp [riseI]
  | a :: b :: l, 0, h => h
  | a :: b :: l, n + 1, h => by
    rw [riseI, Bool.and_eq_true] at h
    rw [List.drop_succ_cons]
    exact riseI_drop n h.2
theorem depsOk_drop {me : Id_} {l : List Id_} (n : Nat) (h : depsOk me l = true) : depsOk me (l.drop n) = true := by
  unfold depsOk at h ⊢
  rw [Bool.and_eq_true, List.all_eq_true] at h ⊢
  exact ⟨fun x hx => h.1 x (List.mem_of_mem_drop hx), riseI_drop n h.2⟩
/-- Fewer Deps, and fewer changes. -/
theorem mayN_less {p : Nm} (h : mayN p = true) (n k : Nat) : mayN ⟨p.id, p.deps.drop n, p.txt, p.l.take k⟩ = true := by
  unfold mayN at h ⊢
  simp only [Bool.and_eq_true, decide_eq_true_eq, List.all_eq_true] at h ⊢
  obtain ⟨h1, h2, h3, h4, h5, h6⟩ := h
  exact ⟨h1, h2, fun x hx => h3 x (List.mem_of_mem_take hx), depsOk_drop n h4, by rw [List.length_drop]; omega, by rw [List.length_take]; omega⟩
theorem riseI_twice : ∀ {l : List Id_} {x : Id_}, riseI (l ++ [x] ++ [x]) = false
  | [], x => by
    show (lessI x x && true) = false
    have : lessI x x = false := by
      cases h : lessI x x with
      | false => rfl
      | true => rw [lessI_iff] at h; omega
    rw [this]; rfl
  | [a], x => by
    show (lessI a x && riseI ([] ++ [x] ++ [x])) = false
    rw [riseI_twice (l := []), Bool.and_false]
  | a :: b :: l, x => by
    show (lessI a b && riseI ((b :: l) ++ [x] ++ [x])) = false
    rw [riseI_twice (l := b :: l), Bool.and_false]
/-- One of Deps twice. -/
theorem mayN_twice {p : Nm} {ds : List Id_} {x : Id_} (h : p.deps = ds ++ [x]) : mayN ⟨p.id, p.deps ++ [x], p.txt, p.l⟩ = false := by
  unfold mayN depsOk
  simp only [h, riseI_twice, Bool.and_false, Bool.false_and]
theorem findN_first {a b : List Nm} {id : Id_} : findN (a ++ b) id = if 0 ≤ findN a id then findN a id else if 0 ≤ findN b id then a.length + findN b id else -1 := by
  unfold findN
  rw [List.findIdx?_append]
  cases ha : a.findIdx? (fun p => decide (p.id = id)) with
  | some k =>
    simp only [Option.some_or]
    rw [if_pos (by omega)]
  | none =>
    simp only [Option.none_or]
    rw [if_neg (by omega)]
    cases hb : b.findIdx? (fun p => decide (p.id = id)) with
    | some k =>
      simp only [Option.map_some]
      rw [if_pos (by omega)]
      omega
    | none => rfl
/-- What a tree becomes by patches. -/
def doN (t : TR) (l : List Nm) : Int × TR := doF t (allN l)
theorem doF_app : ∀ {a b : List Ch} {t u : TR}, doF t a = (0, u) → doF t (a ++ b) = doF u b
  | [], b, t, u, h => by injection h with _ h; rw [h]; rfl
  | p :: a, b, t, u, h => by
    by_cases h0 : (doP t p).1 = 0
    · have e : doP t p = (0, (doP t p).2) := Prod.ext h0 rfl
      rw [doF_cons_ok e] at h
      rw [List.cons_append, doF_cons_ok e]
      exact doF_app h
    · rw [doF_cons_no h0] at h
      injection h with h _
      exact absurd h h0
theorem doF_split {t : TR} (a b : List Ch) : doF t (a ++ b) = if (doF t a).1 = 0 then doF (doF t a).2 b else ((doF t a).1, []) := by
  by_cases h : (doF t a).1 = 0
  · rw [if_pos h]
    exact doF_app (Prod.ext h rfl)
  · rw [if_neg h]
    have key : ∀ {a : List Ch} {t : TR}, (doF t a).1 ≠ 0 → doF t (a ++ b) = ((doF t a).1, []) := by
      intro a
      induction a with
      | nil => intro t h; exact absurd rfl h
      | cons p a ih =>
        intro t h
        by_cases h0 : (doP t p).1 = 0
        · have e : doP t p = (0, (doP t p).2) := Prod.ext h0 rfl
          rw [doF_cons_ok e] at h
          rw [List.cons_append, doF_cons_ok e, doF_cons_ok e]
          exact ih h
        · rw [List.cons_append, doF_cons_no h0, doF_cons_no h0]
    exact key h
/-- By the first ones, and then by the rest. -/
theorem doN_split (t : TR) (l : List Nm) (n : Nat) : doN t l = if (doN t (l.take n)).1 = 0 then doF (doN t (l.take n)).2 (allN (l.drop n)) else ((doN t (l.take n)).1, []) := by
  unfold doN
  have e : allN l = allN (l.take n) ++ allN (l.drop n) := by rw [← allN_app, List.take_append_drop]
  rw [e, doF_split]

/-! Layer 15. -/
/-- A patch passes another one: they are told with the changes that their changes tell. -/
def passN (p q : Nm) : Option (Nm × Nm) := if p.id ∈ q.deps then none else (passF p.l q.l).map fun z => (⟨q.id, q.deps, q.txt, z.1⟩, ⟨p.id, p.deps, p.txt, z.2⟩)
theorem passN_inv {p q x y : Nm} (h : passN p q = some (x, y)) : p.id ∉ q.deps ∧ passF p.l q.l = some (x.l, y.l) ∧ (x.id = q.id ∧ x.deps = q.deps ∧ x.txt = q.txt) ∧ (y.id = p.id ∧ y.deps = p.deps ∧ y.txt = p.txt) := by
  unfold passN at h
  by_cases hd : p.id ∈ q.deps
  · rw [if_pos hd] at h; cases h
  · rw [if_neg hd] at h
    cases hp : passF p.l q.l with
    | none => rw [hp] at h; cases h
    | some z =>
      rw [hp] at h
      injection h with h
      injection h with h1 h2
      subst h1 h2
      exact ⟨hd, rfl, ⟨rfl, rfl, rfl⟩, rfl, rfl, rfl⟩
theorem passN_back {p q x y : Nm} (h : passN p q = some (x, y)) (hd : q.id ∉ p.deps) : passN x y = some (p, q) := by
  obtain ⟨_, h2, ⟨a1, a2, a3⟩, b1, b2, b3⟩ := passN_inv h
  unfold passN
  rw [a1, b2, if_neg hd, passF_back h2]
  exact congrArg some (Prod.ext (nm_ext b1 rfl b3 rfl) (nm_ext rfl a2 a3 rfl))
/-- A tree changed by a patch, or nothing. -/
def dN (t : TR) (p : Nm) : Option TR := doL dP t p.l
theorem dN_up {t u : TR} {p : Nm} (ht : Up lt t) (h : dN t p = some u) : Up lt u := doL_inv dP (fun t => Up lt t) dP_up ht h
theorem dN_some {t u : TR} {p : Nm} : dN t p = some u ↔ doF t p.l = (0, u) := doF_some
theorem doL_dN : ∀ (l : List Nm) (t : TR), doL dN t l = doL dP t (allN l)
  | [], t => rfl
  | p :: l, t => by
    rw [allN_cons, doL_app, doL]
    show (dN t p).bind _ = (doL dP t p.l).bind _
    unfold dN
    congr 1
    funext u
    exact doL_dN l u
theorem passN_same {t u v : TR} {p q x y : Nm} (ht : Up lt t) (h : passN p q = some (x, y)) (h1 : dN t p = some u) (h2 : dN u q = some v) : ∃ w, dN t x = some w ∧ dN w y = some v := by
  obtain ⟨_, h3, _⟩ := passN_inv h
  obtain ⟨w, a, b⟩ := passL_same passP dP (fun t => Up lt t) dP_up (fun hi hp d1 d2 => dP_same hi hp d1 d2) ht h3 h1 h2
  exact ⟨w, a, b⟩
theorem passN_does {t v : TR} {p q x y : Nm} (ht : Up lt t) (h : passN p q = some (x, y)) (hd : doN t [p, q] = (0, v)) : doN t [x, y] = (0, v) := by
  unfold doN at hd ⊢
  rw [← doF_some, ← doL_dN] at hd ⊢
  obtain ⟨u, h1, h2⟩ := doL_cons_inv dN hd
  obtain ⟨v', h3, h4⟩ := doL_cons_inv dN h2
  injection h4 with h4
  subst h4
  obtain ⟨w, a, b⟩ := passN_same ht h h1 h3
  rw [doL_cons dN a, doL_cons dN b]
  rfl
/-- One passes all of a list. -/
abbrev overN : List Nm → Nm → Option (Nm × List Nm) := one passN
theorem overN_does {t v : TR} {l m : List Nm} {q x : Nm} (ht : Up lt t) (h : overN l q = some (x, m)) (hd : doN t (l ++ [q]) = (0, v)) : doN t (x :: m) = (0, v) := by
  unfold doN at hd ⊢
  rw [← doF_some, ← doL_dN] at hd ⊢
  rw [doL_app] at hd
  cases hl : doL dN t l with
  | none => rw [hl] at hd; cases hd
  | some u =>
    rw [hl, Option.bind_some] at hd
    obtain ⟨v', h3, h4⟩ := doL_cons_inv dN hd
    injection h4 with h4
    subst h4
    obtain ⟨w, a, b⟩ := one_same passN dN (fun t => Up lt t) dN_up (fun hi hp d1 d2 => passN_same hi hp d1 d2) ht h hl h3
    rw [doL_cons dN a]
    exact b
/-- Passing changes no Id, Deps or Text, and no number of changes. -/
theorem passN_keeps {p q x y : Nm} (h : passN p q = some (x, y)) : (x.id = q.id ∧ x.deps = q.deps ∧ x.txt = q.txt ∧ x.l.length = q.l.length) ∧ (y.id = p.id ∧ y.deps = p.deps ∧ y.txt = p.txt ∧ y.l.length = p.l.length) := by
  obtain ⟨_, h2, ⟨a1, a2, a3⟩, b1, b2, b3⟩ := passN_inv h
  obtain ⟨n1, n2⟩ := passL_len passP h2
  exact ⟨⟨a1, a2, a3, n1⟩, b1, b2, b3, n2⟩
theorem overN_keeps : ∀ {l m : List Nm} {q x : Nm}, overN l q = some (x, m) → (x.id = q.id ∧ x.deps = q.deps ∧ x.txt = q.txt ∧ x.l.length = q.l.length) ∧ m.length = l.length ∧ ∀ (i : Nat) p, l[i]? = some p → ∃ y, m[i]? = some y ∧ y.id = p.id ∧ y.deps = p.deps ∧ y.txt = p.txt ∧ y.l.length = p.l.length
  | [], m, q, x, h => by
    injection h with h
    injection h with h1 h2
    subst h1 h2
    exact ⟨⟨rfl, rfl, rfl, rfl⟩, rfl, fun i p hp => by simp at hp⟩
  | p :: l, m, q, x, h => by
    obtain ⟨q1, a1, z, e1, e2, rfl⟩ := one_cons_inv passN h
    obtain ⟨⟨k1, k2, k3, k4⟩, k5, k6⟩ := overN_keeps e1
    obtain ⟨⟨a1', a2, a3, a4⟩, b⟩ := passN_keeps e2
    refine ⟨⟨a1'.trans k1, a2.trans k2, a3.trans k3, a4.trans k4⟩, by simp [k5], fun i r hr => ?_⟩
    cases i with
    | zero =>
      injection hr with hr
      subst hr
      exact ⟨z, rfl, b⟩
    | succ i => exact k6 i r (by simpa using hr)

end Pn
end Go.Proofs.Ytbiiabfhngdeiaa

namespace Go.Proofs.Ytbiiabfhngdeiaa
open Go.RowKit
set_option linter.unusedVariables false
namespace Pn
open Tx Df Sq Hk Tr Pr Fl

/-- The cells of ids. -/
def idsV (l : List Id_) : List Value := l.flatMap fun x => [.int .i64 x.1, .int .i64 x.2]
theorem idsV_cons (x : Id_) (l : List Id_) : idsV (x :: l) = .int .i64 x.1 :: .int .i64 x.2 :: idsV l := List.flatMap_cons
theorem idsV_app (l u : List Id_) : idsV (l ++ u) = idsV l ++ idsV u := List.flatMap_append
theorem idsV_len : ∀ (l : List Id_), (idsV l).length = l.length * 2
  | [] => rfl
  | x :: l => by rw [idsV_cons, List.length_cons, List.length_cons, idsV_len l, List.length_cons]; omega
theorem idsV_at : ∀ {l : List Id_} {k : Nat} {x : Id_}, l[k]? = some x → (idsV l)[k * 2]? = some (.int .i64 x.1) ∧ (idsV l)[k * 2 + 1]? = some (.int .i64 x.2)
  | [], k, x, h => by simp at h
  | y :: l, 0, x, h => by
    injection h with h
    subst h
    rw [idsV_cons]
    exact ⟨rfl, rfl⟩
  | y :: l, k + 1, x, h => by
    rw [idsV_cons, show (k + 1) * 2 = k * 2 + 1 + 1 by omega]
    exact idsV_at (l := l) (by simpa using h)
theorem idsV_one : ∀ (l : List Id_), ∀ u ∈ idsV l, u.oneCell' = true
  | [], u, h => by cases h
  | x :: l, u, h => by
    rw [idsV_cons] at h
    rcases List.mem_cons.1 h with rfl | h
    · rfl
    · rcases List.mem_cons.1 h with rfl | h
      · rfl
      · exact idsV_one l u h
theorem idsV_drop : ∀ (l : List Id_) (n : Nat), (idsV l).drop (n * 2) = idsV (l.drop n)
  | [], n => by simp [idsV]
  | x :: l, 0 => rfl
  | x :: l, n + 1 => by
    rw [idsV_cons, show (n + 1) * 2 = n * 2 + 1 + 1 by omega, List.drop_succ_cons, List.drop_succ_cons, List.drop_succ_cons]
    exact idsV_drop l n
/-- The address A leads, below block B, to ids; or there are none. -/
abbrev RdI (w : World) (B : Nat) (A : Option Addr) (l : List Id_) : Prop := Rd w B A (idsV l)
theorem RdI.elem {W : World} {B : Nat} {A : Option Addr} {l : List Id_} (h : RdI W B A l) {k : Nat} (hk : k < l.length) :
    ∃ a x, A = some a ∧ a.block < B ∧ l[k]? = some x ∧ W.cell? (a.add (k * 2)) = some (.int .i64 x.1) ∧ W.cell? ⟨(a.add (k * 2)).block, (a.add (k * 2)).off + 1, none⟩ = some (.int .i64 x.2) := by
  obtain ⟨h1, h2⟩ := idsV_at (l := l) (List.getElem?_eq_getElem hk)
  rcases h with h | ⟨a, e, hlt, hc⟩
  · rw [h] at h1; simp at h1
  · exact ⟨a, l[k], e, hlt, List.getElem?_eq_getElem hk, hc _ _ h1, by rw [add_off _ _ _ (by decide)]; exact hc _ _ h2⟩
theorem RdI.drop {W : World} {B : Nat} {A : Option Addr} {l : List Id_} (h : RdI W B A l) (k : Nat) : RdI W B (A.map (·.add (k * 2))) (l.drop k) := by
  show Rd W B _ (idsV (l.drop k))
  rw [← idsV_drop]
  rcases h with h | ⟨a, rfl, hlt, hc⟩
  · exact .inl (by rw [h]; simp)
  · refine .inr ⟨a.add (k * 2), rfl, by rw [add_block]; exact hlt, fun j u hu => ?_⟩
    rw [add_add]
    exact hc _ u (by rw [← hu, List.getElem?_drop])
theorem RdI.mv {W W' : World} {A : Option Addr} {l : List Id_} (h : RdI W W.heap.size A l) (hb : Below W.heap.size W W') : RdI W' W'.heap.size A l := Rd.up (Rd.below h hb) hb.size

/-- The value of a named patch. -/
abbrev nmV (x : Id_) (D : Option Addr) (dn dc : Nat) (t : List UInt8) (A : Option Addr) (n c : Nat) : Value := .agg #[.int .i64 x.1, .int .i64 x.2, .slice D dn dc, strV t, .slice A n c]

/-- Two slice values that read, below block B, as a patch's Deps and changes. -/
structure NV (w : World) (B : Nat) (D : Option Addr) (dn dc : Nat) (A : Option Addr) (n c : Nat) (p : Nm) : Prop where
  dl : p.deps.length = dn
  dk : dn ≤ dc
  dm : dn ≤ maxLen
  dr : RdI w B D p.deps
  tm : p.txt.length ≤ maxLen
  l : p.l.length = n
  k : n ≤ c
  m : n ≤ maxLen
  r : RdP w (· < B) A p.l
section
variable {W W' : World} {B B' : Nat} {D A : Option Addr} {dn dc n c : Nat} {p : Nm}
theorem NV.below (h : NV W B D dn dc A n c p) (hb : Below B W W') : NV W' B D dn dc A n c p := ⟨h.dl, h.dk, h.dm, Rd.below h.dr hb, h.tm, h.l, h.k, h.m, h.r.below hb⟩
theorem NV.up (h : NV W B D dn dc A n c p) (hB : B ≤ B') : NV W B' D dn dc A n c p := ⟨h.dl, h.dk, h.dm, Rd.up h.dr hB, h.tm, h.l, h.k, h.m, h.r.mono fun b hb => Nat.lt_of_lt_of_le hb hB⟩
theorem NV.mv (h : NV W W.heap.size D dn dc A n c p) (hb : Below W.heap.size W W') : NV W' W'.heap.size D dn dc A n c p := (h.below hb).up hb.size
theorem NV.drewN (h : NV W B D dn dc A n c p) (d : Nat) : NV (W.drewN d) B D dn dc A n c p := h.below (below_drewN (Below.refl _ _) d)
end

/-- The cells of a patch, the k-th of a row at the address a. -/
structure NAt (w : World) (B : Nat) (a : Addr) (k : Nat) (x : Nm) : Prop where
  c0 : w.cell? (a.add (k * 5)) = some (.int .i64 x.id.1)
  c1 : w.cell? ⟨(a.add (k * 5)).block, (a.add (k * 5)).off + 1, none⟩ = some (.int .i64 x.id.2)
  c3 : w.cell? ⟨(a.add (k * 5)).block, (a.add (k * 5)).off + 3, none⟩ = some (strV x.txt)
  c2 : ∃ D dn dc A n c, w.cell? ⟨(a.add (k * 5)).block, (a.add (k * 5)).off + 2, none⟩ = some (.slice D dn dc) ∧ w.cell? ⟨(a.add (k * 5)).block, (a.add (k * 5)).off + 4, none⟩ = some (.slice A n c) ∧ NV w B D dn dc A n c x

/-- The address A leads, below block B, to patches; or there are none. -/
def RdN (w : World) (B : Nat) (A : Option Addr) (l : List Nm) : Prop :=
  l = [] ∨ ∃ a, A = some a ∧ a.block < B ∧ ∀ (k : Nat) x, l[k]? = some x → NAt w B a k x
section
variable {W W' : World} {B B' : Nat} {A : Option Addr} {l : List Nm}
theorem cellB {p : Addr} {u : Value} (hc : W.cell? p = some u) (hb : Below B W W') (hp : p.block < B) : W'.cell? p = some u := (hb.cell hp).trans hc
theorem NAt.below {a : Addr} {k : Nat} {x : Nm} (h : NAt W B a k x) (ha : a.block < B) (hb : Below B W W') : NAt W' B a k x := by
  obtain ⟨c0, c1, c3, D, dn, dc, A, n, c, c2, c4, c5⟩ := h
  have hk : (a.add (k * 5)).block < B := by rw [add_block]; exact ha
  exact ⟨cellB c0 hb hk, cellB c1 hb hk, cellB c3 hb hk, D, dn, dc, A, n, c, cellB c2 hb hk, cellB c4 hb hk, c5.below hb⟩
theorem NAt.up {a : Addr} {k : Nat} {x : Nm} (h : NAt W B a k x) (hB : B ≤ B') : NAt W B' a k x := by
  obtain ⟨c0, c1, c3, D, dn, dc, A, n, c, c2, c4, c5⟩ := h
  exact ⟨c0, c1, c3, D, dn, dc, A, n, c, c2, c4, c5.up hB⟩
theorem RdN.below (h : RdN W B A l) (hb : Below B W W') : RdN W' B A l := h.imp id fun ⟨a, e, h1, h2⟩ => ⟨a, e, h1, fun k x hx => (h2 k x hx).below h1 hb⟩
theorem RdN.up (h : RdN W B A l) (hB : B ≤ B') : RdN W B' A l := h.imp id fun ⟨a, e, h1, h2⟩ => ⟨a, e, Nat.lt_of_lt_of_le h1 hB, fun k x hx => (h2 k x hx).up hB⟩
theorem RdN.mv (h : RdN W W.heap.size A l) (hb : Below W.heap.size W W') : RdN W' W'.heap.size A l := (h.below hb).up hb.size
theorem RdN.drewN (h : RdN W B A l) (d : Nat) : RdN (W.drewN d) B A l := h.below (below_drewN (Below.refl _ _) d)
theorem RdN.nil (W : World) (B : Nat) (A : Option Addr) : RdN W B A [] := .inl rfl
/-- One of a list of patches. -/
theorem RdN.elem (h : RdN W B A l) {k : Nat} (hk : k < l.length) :
    ∃ a x D dn dc E n c, A = some a ∧ a.block < B ∧ l[k]? = some x ∧
      W.cell? (a.add (k * 5)) = some (.int .i64 x.id.1) ∧ W.cell? ⟨(a.add (k * 5)).block, (a.add (k * 5)).off + 1, none⟩ = some (.int .i64 x.id.2) ∧ W.cell? ⟨(a.add (k * 5)).block, (a.add (k * 5)).off + 2, none⟩ = some (.slice D dn dc) ∧
      W.cell? ⟨(a.add (k * 5)).block, (a.add (k * 5)).off + 3, none⟩ = some (strV x.txt) ∧ W.cell? ⟨(a.add (k * 5)).block, (a.add (k * 5)).off + 4, none⟩ = some (.slice E n c) ∧ NV W B D dn dc E n c x := by
  rcases h with rfl | ⟨a, e, hlt, hc⟩
  · exact absurd hk (by simp)
  · obtain ⟨c0, c1, c3, D, dn, dc, E, n, c, c2, c4, c5⟩ := hc k _ (List.getElem?_eq_getElem hk)
    exact ⟨a, l[k], D, dn, dc, E, n, c, e, hlt, List.getElem?_eq_getElem hk, c0, c1, c2, c3, c4, c5⟩
/-- The first ones of a list, and those behind them. -/
theorem RdN.take (h : RdN W B A l) (k : Nat) : RdN W B A (l.take k) := by
  rcases h with rfl | ⟨a, e, h1, h2⟩
  · exact .inl (by simp)
  · refine .inr ⟨a, e, h1, fun j y hy => h2 j y ?_⟩
    rw [List.getElem?_take] at hy
    split at hy
    · exact hy
    · cases hy
theorem RdN.drop (h : RdN W B A l) (k : Nat) : RdN W B (A.map (·.add (k * 5))) (l.drop k) := by
  rcases h with rfl | ⟨a, rfl, h1, h2⟩
  · exact .inl (by simp)
  · refine .inr ⟨_, rfl, by rw [add_block]; exact h1, fun j y hy => ?_⟩
    rw [List.getElem?_drop] at hy
    have := h2 (k + j) y hy
    have ea : (a.add (k * 5)).add (j * 5) = a.add ((k + j) * 5) := by rw [add_add]; congr 1; omega
    obtain ⟨c0, c1, c3, c2⟩ := this
    exact ⟨by rw [ea]; exact c0, by rw [ea]; exact c1, by rw [ea]; exact c3, by rw [ea]; exact c2⟩
end

/-- The cells of patches, as far as they go; what they hold lies below block B. -/
def NCells (W : World) (B : Nat) (l : List Nm) (xs : List Value) : Prop :=
  ∀ (k : Nat) x, l[k]? = some x → ∃ D dn dc A n c, xs[k * 5]? = some (.int .i64 x.id.1) ∧ xs[k * 5 + 1]? = some (.int .i64 x.id.2) ∧ xs[k * 5 + 2]? = some (.slice D dn dc) ∧ xs[k * 5 + 3]? = some (strV x.txt) ∧ xs[k * 5 + 4]? = some (.slice A n c) ∧ NV W B D dn dc A n c x
section
variable {W W' : World} {B B' : Nat} {l u : List Nm} {xs ys : List Value}
theorem NCells.below (h : NCells W B l xs) (hb : Below B W W') : NCells W' B l xs := fun k x hx => by
  obtain ⟨D, dn, dc, A, n, c, h0, h1, h2, h3, h4, h5⟩ := h k x hx
  exact ⟨D, dn, dc, A, n, c, h0, h1, h2, h3, h4, h5.below hb⟩
theorem NCells.up (h : NCells W B l xs) (hB : B ≤ B') : NCells W B' l xs := fun k x hx => by
  obtain ⟨D, dn, dc, A, n, c, h0, h1, h2, h3, h4, h5⟩ := h k x hx
  exact ⟨D, dn, dc, A, n, c, h0, h1, h2, h3, h4, h5.up hB⟩
theorem NCells.nil (W : World) (B : Nat) (xs : List Value) : NCells W B [] xs := fun k x hx => by simp at hx
theorem NCells.one {D A : Option Addr} {dn dc n c : Nat} {x : Nm} (h : NV W B D dn dc A n c x) : NCells W B [x] [.int .i64 x.id.1, .int .i64 x.id.2, .slice D dn dc, strV x.txt, .slice A n c] := fun k y hy => by
  cases k with
  | zero => cases hy; exact ⟨D, dn, dc, A, n, c, rfl, rfl, rfl, rfl, rfl, h⟩
  | succ k => simp at hy
theorem NCells.append (h : NCells W B l xs) (hl : xs.length = l.length * 5) (h' : NCells W B u ys) : NCells W B (l ++ u) (xs ++ ys) := fun k x hx => by
  by_cases hk : k < l.length
  · rw [List.getElem?_append_left hk] at hx
    obtain ⟨D, dn, dc, A, n, c, h0, h1, h2, h3, h4, h5⟩ := h k x hx
    exact ⟨D, dn, dc, A, n, c, by rw [List.getElem?_append_left (by omega)]; exact h0, by rw [List.getElem?_append_left (by omega)]; exact h1, by rw [List.getElem?_append_left (by omega)]; exact h2, by rw [List.getElem?_append_left (by omega)]; exact h3, by rw [List.getElem?_append_left (by omega)]; exact h4, h5⟩
  · rw [List.getElem?_append_right (by omega)] at hx
    obtain ⟨D, dn, dc, A, n, c, h0, h1, h2, h3, h4, h5⟩ := h' _ x hx
    have e : ∀ j, k * 5 + j - xs.length = (k - l.length) * 5 + j := fun j => by omega
    refine ⟨D, dn, dc, A, n, c, ?_, ?_, ?_, ?_, ?_, h5⟩
    · rw [List.getElem?_append_right (by omega), show k * 5 - xs.length = (k - l.length) * 5 by omega]; exact h0
    · rw [List.getElem?_append_right (by omega), e]; exact h1
    · rw [List.getElem?_append_right (by omega), e]; exact h2
    · rw [List.getElem?_append_right (by omega), e]; exact h3
    · rw [List.getElem?_append_right (by omega), e]; exact h4
theorem one5 : ∀ {u : List Nm} {ys : List Value}, NCells W B u ys → ys.length = u.length * 5 → ∀ y ∈ ys, Value.oneCell' y = true := fun {u ys} h hl y hy => by
  obtain ⟨j, hj, rfl⟩ := List.mem_iff_getElem.1 hy
  have hk : j / 5 < u.length := by omega
  obtain ⟨D, dn, dc, A, n, c, h0, h1, h2, h3, h4, h5⟩ := h (j / 5) _ (List.getElem?_eq_getElem hk)
  obtain ⟨v, hv⟩ : ∃ v, ys[j] = v := ⟨_, rfl⟩
  have hj' : ys[j]? = some v := by rw [← hv]; exact List.getElem?_eq_getElem hj
  rw [hv]
  have hm : j % 5 < 5 := Nat.mod_lt _ (by decide)
  have hd : j / 5 * 5 + j % 5 = j := by omega
  rw [← hd] at hj'
  generalize j % 5 = r at *
  match r, hm with
  | 0, _ => rw [Nat.add_zero] at hj'; rw [h0] at hj'; injection hj' with e; rw [← e]; rfl
  | 1, _ => rw [h1] at hj'; injection hj' with e; rw [← e]; rfl
  | 2, _ => rw [h2] at hj'; injection hj' with e; rw [← e]; rfl
  | 3, _ => rw [h3] at hj'; injection hj' with e; rw [← e]; rfl
  | 4, _ => rw [h4] at hj'; injection hj' with e; rw [← e]; rfl
end

/-- The cells of a list of patches that is read. -/
theorem flatN {w : World} {B : Nat} {A : Option Addr} {l : List Nm} (h : RdN w B A l) :
    ∃ xs : List Value, xs.length = l.length * 5 ∧ NCells w B l xs ∧ (xs = [] ∨ ∃ a, A = some a ∧ ∀ (j : Nat) u, xs[j]? = some u → w.cell? (a.add j) = some u) := by
  rcases h with rfl | ⟨a, rfl, hlt, hc⟩
  · exact ⟨[], rfl, NCells.nil _ _ _, .inl rfl⟩
  · have key : ∀ (u : List Nm) (p : Nat), (∀ (k : Nat) x, u[k]? = some x → NAt w B a (p + k) x) → ∃ xs : List Value, xs.length = u.length * 5 ∧ NCells w B u xs ∧ ∀ (j : Nat) v, xs[j]? = some v → w.cell? (a.add (p * 5 + j)) = some v := by
      intro u
      induction u with
      | nil => intro p _; exact ⟨[], rfl, NCells.nil _ _ _, fun j v hv => by simp at hv⟩
      | cons x u ih =>
        intro p hu
        obtain ⟨xs, h1, h2, h3⟩ := ih (p + 1) fun k y hy => by
          have := hu (k + 1) y (by simpa using hy)
          rw [show p + 1 + k = p + (k + 1) by omega]; exact this
        obtain ⟨c0, c1, c3, D, dn, dc, E, n, c, c2, c4, c5⟩ := hu 0 x rfl
        rw [Nat.add_zero] at c0 c1 c2 c3 c4
        rw [add_off _ _ _ (by decide)] at c1 c2 c3 c4
        refine ⟨[.int .i64 x.id.1, .int .i64 x.id.2, .slice D dn dc, strV x.txt, .slice E n c] ++ xs, by simp [h1]; omega, NCells.append (l := [x]) (NCells.one c5) rfl h2, fun j v hv => ?_⟩
        rcases j with _ | _ | _ | _ | _ | j
        · cases hv; exact c0
        · cases hv; exact c1
        · cases hv; exact c2
        · cases hv; exact c3
        · cases hv; exact c4
        · have := h3 j v (by simpa using hv)
          rw [show p * 5 + (j + 5) = (p + 1) * 5 + j by omega]; exact this
    obtain ⟨xs, h1, h2, h3⟩ := key l 0 fun k x hx => by rw [Nat.zero_add]; exact hc k x hx
    exact ⟨xs, h1, h2, .inr ⟨a, rfl, fun j u hu => by have := h3 j u hu; rw [Nat.zero_mul, Nat.zero_add] at this; exact this⟩⟩

theorem info_named : (Try.prog.info? 28).map (fun i => (i.zero, i.size, i.bytes)) = some (some (.agg #[.int .i64 0, .int .i64 0, .slice none 0 0, .string ⟨#[]⟩, .slice none 0 0]), 5, 80) := by kernel_rfl
theorem info_id : (Try.prog.info? 24).map (fun i => (i.zero, i.size, i.bytes)) = some (some (.agg #[.int .i64 0, .int .i64 0]), 2, 16) := by kernel_rfl

/-- Patches in a row of one's own; what they hold lies below block N. -/
def OwnM (W : World) (N base : Nat) (v : Value) (l : List Nm) : Prop := ∃ xs, W.ownsRow base 28 5 v l.length xs ∧ NCells W N l xs
section
variable {W W' : World} {N base : Nat} {v : Value} {l u : List Nm}
theorem ownM_nil (W : World) (N base : Nat) : OwnM W N base (.slice none 0 0) [] := ⟨[], World.ownsRow_nil _ _ _ _, NCells.nil _ _ _⟩
theorem ownM_ge (h : OwnM W N base v l) : ∀ k, v.ownBlock = some k → base ≤ k := fun k hk => (h.elim fun xs h => own_ge h.1 k hk)
theorem OwnM.below (h : OwnM W N base v l) (hN : N ≤ W.heap.size) (hb : Below W.heap.size W W') : OwnM W' N base v l := by
  obtain ⟨xs, h1, h2⟩ := h
  exact ⟨xs, own_gr h1 (below_gr_row hb), h2.below (hb.mono hN)⟩
/-- A row of patches of one's own is read as patches. -/
theorem rdN_own (h : OwnM W N base v l) (hN : N ≤ W.heap.size) : ∃ A c, v = .slice A l.length c ∧ l.length ≤ c ∧ RdN W W.heap.size A l := by
  obtain ⟨xs, hr, hF⟩ := h
  have hr0 := hr
  rcases hr.2 with ⟨rfl, h0⟩ | ⟨g, cap, cur, rfl, hbg, hg, hc, _⟩
  · have : l = [] := List.eq_nil_of_length_eq_zero h0
    subst this
    exact ⟨none, 0, rfl, Nat.le_refl _, .inl rfl⟩
  · refine ⟨_, cap, rfl, hc, .inr ⟨_, rfl, (Array.getElem?_eq_some_iff.1 hg).1, fun k x hx => ?_⟩⟩
    obtain ⟨D, dn, dc, A, n, c, h0, h1, h2, h3, h4, h5⟩ := hF k x hx
    have hk : k < l.length := (List.getElem?_eq_some_iff.1 hx).1
    have ea : (⟨g, 0, none⟩ : Addr).add (k * 5) = ⟨g, k * 5, none⟩ := by unfold Addr.add; split <;> simp_all
    refine ⟨?_, ?_, ?_, D, dn, dc, A, n, c, ?_, ?_, h5.up hN⟩
    · rw [ea, hr0.cellAt (k * 5) (by omega)]; exact h0
    · rw [ea]; show W.cell? ⟨g, k * 5 + 1, none⟩ = _; rw [hr0.cellAt (k * 5 + 1) (by omega)]; exact h1
    · rw [ea]; show W.cell? ⟨g, k * 5 + 3, none⟩ = _; rw [hr0.cellAt (k * 5 + 3) (by omega)]; exact h3
    · rw [ea]; show W.cell? ⟨g, k * 5 + 2, none⟩ = _; rw [hr0.cellAt (k * 5 + 2) (by omega)]; exact h2
    · rw [ea]; show W.cell? ⟨g, k * 5 + 4, none⟩ = _; rw [hr0.cellAt (k * 5 + 4) (by omega)]; exact h4
/-- Patches appended onto a row of one's own. -/
theorem run_ownM {ty : TypeId} {m c : Nat} {A : Option Addr} (h : OwnM W N base v l) (hu : RdN W N A u) (hm : u.length = m) (hn : l.length + m ≤ 100000) (hN : N ≤ base) (hbase : base ≤ W.heap.size) :
    ∃ v' W', (Builtin.append_ #[22, 22] ty #[v, .slice A m c]).run Try.prog W = .ok v' W' ∧ OwnM W' N base v' (l ++ u) ∧ W.grownBy W' v.ownBlock := by
  obtain ⟨i0, hi0, hz0, hz1, hz2⟩ := info_parts info_named
  obtain ⟨ys, hyl, hU, hsrc⟩ := flatN hu
  have h0 := h
  obtain ⟨xs, hrow, hF⟩ := h
  have h1 := one5 hU hyl
  by_cases hm0 : m = 0
  · have hu0 : u = [] := List.eq_nil_of_length_eq_zero (by omega)
    subst hu0
    obtain ⟨A0, c0, rfl, hc0, _⟩ := rdN_own h0 (Nat.le_trans hN hbase)
    subst hm0
    exact ⟨_, W, run_append_none Try.underlying22 hi0 hc0, by rw [List.append_nil]; exact ⟨xs, hrow, hF⟩, ⟨rfl, rfl, rfl, Nat.le_refl _, fun _ _ _ => rfl⟩⟩
  · obtain ⟨a, rfl, hcell⟩ : ∃ a, A = some a ∧ ∀ (j : Nat) x, ys[j]? = some x → W.cell? (a.add j) = some x := by
      rcases hsrc with hy | h
      · rw [hy] at hyl; simp at hyl; omega
      · exact h
    obtain ⟨g, cap, W', hr, r1, r2, r3, r4⟩ := run_append_lies (P := Try.prog) (w := W) 22 ty base 28 i0 _ 5 80 Try.underlying22 hi0 hz0 hz1 hz2 rfl (by decide) v l.length xs hrow a m c ys (by rw [hyl, hm]) hcell h1 (by omega) (by unfold maxLen; omega) (by omega) hbase W.heap.size rfl
    refine ⟨_, W', hr, ⟨xs ++ ys, by rw [List.length_append, hm]; exact r1, ?_⟩, r2⟩
    have hb : Below N W W' := (Below.refl N W).grown r2 (Nat.le_trans hN hbase) (fun k e => Nat.le_trans hN (own_ge hrow k e))
    exact (hF.append hrow.1 hU).below hb
theorem wpList_ownM {ops : Array Oper} {rest : List Oper} {o : Oper} {a : Act} {Q : Exit → Act → World → Prop} (hgd : o.guard = none) (s x : Operand)
    (ho : o.op = .call { callee := .builtin .append, args := #[s, x], argTypes := #[22, 22] })
    (N base m c : Nat) (v : Value) (A : Option Addr) (l u : List Nm) (hs : a.eval s = v) (hx : a.eval x = .slice A m c) (h : OwnM W N base v l) (hu : RdN W N A u)
    (hm : u.length = m) (hn : l.length + m ≤ 100000) (hN : N ≤ base) (hbase : base ≤ W.heap.size)
    (hK : ∀ v' W', OwnM W' N base v' (l ++ u) → W.grownBy W' v.ownBlock → wpList Try.prog ops Q rest (a.put o.dst v') W') : wpList Try.prog ops Q (o :: rest) a W := by
  refine wpList_plain hgd fun K hK' => ?_
  obtain ⟨v', W', hrun, h2, h3⟩ := run_ownM (ty := o.type) (c := c) h hu hm hn hN hbase
  unfold Oper.wp execOp
  simp only [ho, resolve, invoke, builtin, Sem.run_bind, Sem.run_pure, Result.andThen_ok, List.map_toArray, List.map_cons, List.map_nil, hs, hx, hrun]
  exact hK' _ _ (hK v' W' h2 h3)
end

/-- Ids in a row of one's own. -/
abbrev OwnI (W : World) (base : Nat) (v : Value) (l : List Id_) : Prop := W.ownsRow base 24 2 v l.length (idsV l)
section
variable {W W' : World} {base : Nat} {v : Value} {l u : List Id_}
theorem ownI_nil (W : World) (base : Nat) : OwnI W base (.slice none 0 0) [] := World.ownsRow_nil _ _ _ _
theorem rdI_own (h : OwnI W base v l) : ∃ A c, v = .slice A l.length c ∧ l.length ≤ c ∧ RdI W W.heap.size A l := by
  rcases h.2 with ⟨rfl, h0⟩ | ⟨g, cap, cur, rfl, hbg, hg, hc, _⟩
  · have : l = [] := List.eq_nil_of_length_eq_zero h0
    subst this
    exact ⟨none, 0, rfl, Nat.le_refl _, .inl rfl⟩
  · refine ⟨_, cap, rfl, hc, .inr ⟨_, rfl, (Array.getElem?_eq_some_iff.1 hg).1, fun j u hu => ?_⟩⟩
    have ea : (⟨g, 0, none⟩ : Addr).add j = ⟨g, j, none⟩ := by unfold Addr.add; split <;> simp_all
    have hj : j < (idsV l).length := (List.getElem?_eq_some_iff.1 hu).1
    rw [idsV_len] at hj
    rw [ea, h.cellAt j (by omega)]
    exact hu
theorem run_ownI {ty : TypeId} {m c : Nat} {A : Option Addr} (h : OwnI W base v l) (hu : RdI W W.heap.size A u) (hm : u.length = m) (hn : l.length + m ≤ 100000) (hbase : base ≤ W.heap.size) :
    ∃ v' W', (Builtin.append_ #[25, 25] ty #[v, .slice A m c]).run Try.prog W = .ok v' W' ∧ OwnI W' base v' (l ++ u) ∧ W.grownBy W' v.ownBlock := by
  obtain ⟨i0, hi0, hz0, hz1, hz2⟩ := info_parts info_id
  by_cases hm0 : m = 0
  · have hu0 : u = [] := List.eq_nil_of_length_eq_zero (by omega)
    subst hu0
    obtain ⟨A0, c0, rfl, hc0, _⟩ := rdI_own h
    subst hm0
    exact ⟨_, W, run_append_none Try.underlying25 hi0 hc0, by rw [List.append_nil]; exact h, ⟨rfl, rfl, rfl, Nat.le_refl _, fun _ _ _ => rfl⟩⟩
  · have hy := idsV_len u
    obtain ⟨a, rfl, hcell⟩ : ∃ a, A = some a ∧ ∀ (j : Nat) x, (idsV u)[j]? = some x → W.cell? (a.add j) = some x := by
      rcases hu with hy' | ⟨a, e, _, h⟩
      · rw [hy'] at hy; simp at hy; omega
      · exact ⟨a, e, h⟩
    obtain ⟨g, cap, W', hr, r1, r2, r3, r4⟩ := run_append_lies (P := Try.prog) (w := W) 25 ty base 24 i0 _ 2 16 Try.underlying25 hi0 hz0 hz1 hz2 rfl (by decide) v l.length (idsV l) h a m c (idsV u) (by rw [hy, hm]) hcell (idsV_one u) (by omega) (by unfold maxLen; omega) (by omega) hbase W.heap.size rfl
    refine ⟨_, W', hr, ?_, r2⟩
    show W'.ownsRow _ _ _ _ (l ++ u).length (idsV (l ++ u))
    rw [List.length_append, hm, idsV_app]
    exact r1
theorem wpList_ownI {ops : Array Oper} {rest : List Oper} {o : Oper} {a : Act} {Q : Exit → Act → World → Prop} (hgd : o.guard = none) (s x : Operand)
    (ho : o.op = .call { callee := .builtin .append, args := #[s, x], argTypes := #[25, 25] })
    (base m c : Nat) (v : Value) (A : Option Addr) (l u : List Id_) (hs : a.eval s = v) (hx : a.eval x = .slice A m c) (h : OwnI W base v l) (hu : RdI W W.heap.size A u)
    (hm : u.length = m) (hn : l.length + m ≤ 100000) (hbase : base ≤ W.heap.size)
    (hK : ∀ v' W', OwnI W' base v' (l ++ u) → W.grownBy W' v.ownBlock → wpList Try.prog ops Q rest (a.put o.dst v') W') : wpList Try.prog ops Q (o :: rest) a W := by
  refine wpList_plain hgd fun K hK' => ?_
  obtain ⟨v', W', hrun, h2, h3⟩ := run_ownI (ty := o.type) (c := c) h hu hm hn hbase
  unfold Oper.wp execOp
  simp only [ho, resolve, invoke, builtin, Sem.run_bind, Sem.run_pure, Result.andThen_ok, List.map_toArray, List.map_cons, List.map_nil, hs, hx, hrun]
  exact hK' _ _ (hK v' W' h2 h3)
/-- The same as a step of a drawn region. -/
theorem step_ownI {m c : Nat} {A : Option Addr} {ops : Array Oper} {o : Oper} {a : Act} {K : Act → World → Prop} {Q : Exit → Act → World → Prop} {E : Prop} (hgd : o.guard = none) (s x : Operand)
    (ho : o.op = .call { callee := .builtin .append, args := #[s, x], argTypes := #[25, 25] }) (hs : a.eval s = v) (hx : a.eval x = .slice A m c)
    (h : OwnI W base v l) (hu : RdI W W.heap.size A u) (hm : u.length = m) (hn : l.length + m ≤ 100000) (hbase : base ≤ W.heap.size)
    (hK : ∀ v' W', OwnI W' base v' (l ++ u) → W.grownBy W' v.ownBlock → K (a.put o.dst v') W') : if Region.wanted o (yielded ops a.tmps) = true then Oper.wp Try.prog o a W K Q else E := by
  have hw : Region.wanted o (yielded ops a.tmps) = true := by simp [Region.wanted, hgd]
  rw [if_pos hw]
  obtain ⟨v', W', hrun, h4, h5⟩ := run_ownI (ty := o.type) (c := c) h hu hm hn hbase
  unfold Oper.wp execOp
  simp only [ho, resolve, invoke, builtin, Sem.run_bind, Sem.run_pure, Result.andThen_ok, List.map_toArray, List.map_cons, List.map_nil, hs, hx, hrun]
  exact hK v' W' h4 h5
theorem ownI_ge (h : OwnI W base v l) : ∀ k, v.ownBlock = some k → base ≤ k := fun k hk => own_ge h k hk
/-- One id in a block of its own is read as a list. -/
theorem rdI_lone {b N : Nat} {x : Id_} (h : Blk W b 24 #[.int .i64 x.1, .int .i64 x.2]) (hb : b < N) : RdI W N (some ⟨b, 0, none⟩) [x] :=
  .inr ⟨_, rfl, hb, fun j u hu => by
    rcases j with _ | _ | j
    · rw [add_zero']; exact h.cell 0 hu
    · exact h.cell 1 hu
    · simp [idsV] at hu⟩
end
/-- The first ones of a list of changes. -/
theorem rdP_pre {W : World} {S : Nat → Prop} {A : Option Addr} {l : List Ch} (h : RdP W S A l) (k : Nat) : RdP W S A (l.take k) := by
  rcases h with rfl | ⟨a, e, h1, h2⟩
  · exact .inl (by simp)
  · refine .inr ⟨a, e, h1, fun j y hy => h2 j y ?_⟩
    rw [List.getElem?_take] at hy
    split at hy
    · exact hy
    · cases hy

end Pn
end Go.Proofs.Ytbiiabfhngdeiaa

namespace Go.Proofs.Ytbiiabfhngdeiaa
open Go.ChangeShapes Go.WideShapes Go.ChangeAt Go.RowKit Go.Deep
set_option linter.unusedVariables false
namespace Pn
open Tx Df Sq Hk Tr Pr Fl

/-- Patches that are handed in. -/
structure NmsArg (w : World) (A : Option Addr) (n c : Nat) (l : List Nm) : Prop where
  len : l.length = n
  cap : n ≤ c
  le : n ≤ maxLen
  rd : RdN w w.heap.size A l

section
variable {H : Type} {enc : TypeId × Value → H} {W : World} {base : Nat} {spare : Nat → Bool} {held : Bool}

theorem id_cells {fuel : Nat} {v0 v1 : Value} {x : DataW H × List MemPlace} (h : DataW.trod enc Try.prog W base spare held fuel 24 [v0, v1] = some x) : ∃ p : Id_, v0 = .int .i64 p.1 ∧ v1 = .int .i64 p.2 := by
  have s0 : Try.prog.cellsOf 3 = 1 := by kernel_rfl
  obtain ⟨xs, n, _, _, _, hlen, hf⟩ := DataW.trod_struct Try.underlying24 h
  match xs, hlen with
  | [y0, y1], _ =>
    have h0 : DataW.trod enc Try.prog W base spare held n 3 (([v0, v1].drop 0).take (Try.prog.cellsOf 3)) = some y0 := by simpa using hf 0 _ rfl
    have h1 : DataW.trod enc Try.prog W base spare held n 3 (([v0, v1].drop 1).take (Try.prog.cellsOf 3)) = some y1 := by simpa using hf 1 _ rfl
    simp only [s0, List.drop_zero, List.take_succ_cons, List.take_zero, List.drop_succ_cons] at h0 h1
    obtain ⟨k, e0, _, w0⟩ := DataW.trod_int Try.underlying3 h0
    injection e0 with e0
    subst e0
    obtain ⟨m, e1, _, w1⟩ := DataW.trod_int Try.underlying3 h1
    injection e1 with e1
    subst e1
    exact ⟨(k, m), rfl, rfl⟩

theorem array2' {α : Type} {a : Array α} (h : a.size = 2) : ∃ x0 x1, a = #[x0, x1] := by
  obtain ⟨l⟩ := a
  match l, h with
  | [x0, x1], _ => exact ⟨x0, x1, rfl⟩
theorem array5 {α : Type} {a : Array α} (h : a.size = 5) : ∃ x0 x1 x2 x3 x4, a = #[x0, x1, x2, x3, x4] := by
  obtain ⟨l⟩ := a
  match l, h with
  | [x0, x1, x2, x3, x4], _ => exact ⟨x0, x1, x2, x3, x4, rfl⟩

/-- An id that is handed in. -/
theorem id_in {r : Reach} {b0 : Nat} {v : Value} {d : DataW H} {p : List MemPlace} (hv : Value.okWide Try.prog W r b0 24 v) (h : DataW.Trod enc Try.prog W base spare held 24 v d p) : ∃ x : Id_, v = .agg #[.int .i64 x.1, .int .i64 x.2] := by
  have s2 : Try.prog.cellsOf 24 = 2 := by kernel_rfl
  obtain ⟨cs, rfl, hsz⟩ := okWide_struct Try.underlying24 hv
  obtain ⟨v0, v1, rfl⟩ := array2' (hsz.trans s2)
  obtain ⟨fuel, hf⟩ := h
  obtain ⟨x, rfl, rfl⟩ := id_cells (v0 := v0) (v1 := v1) (by simpa [Value.cells] using hf)
  exact ⟨x, rfl⟩

theorem ids_any {fuel : Nat} {v : Value} {x : DataW H × List MemPlace} (h : DataW.trod enc Try.prog W base spare held fuel 25 [v] = some x) : ∃ A n c l, v = .slice A n c ∧ l.length = n ∧ n ≤ c ∧ n ≤ maxLen ∧ RdI W W.heap.size A l := by
  have s2 : Try.prog.cellsOf 24 = 2 := by kernel_rfl
  rcases open_slice Try.underlying25 h with ⟨hcs', _⟩ | ⟨a, len, cap, m, n, D, Pl, hcs', _, hl, hm, hmm, _, hi⟩
  · injection hcs' with hcs'
    subst hcs'
    exact ⟨none, 0, 0, [], rfl, rfl, Nat.le_refl _, Nat.zero_le _, .inl rfl⟩
  · injection hcs' with hcs'
    subst hcs'
    have hlm : len ≤ m := by rw [hmm]; split <;> omega
    rw [s2] at hi
    obtain ⟨t, h1, h2⟩ := list_of (P := fun i (x : Id_) => W.cell? (a.add (i * 2)) = some (.int .i64 x.1) ∧ W.cell? (a.add (i * 2 + 1)) = some (.int .i64 x.2)) len (fun i hil => by
      obtain ⟨cs', hc, ht⟩ := hi i (by omega)
      obtain ⟨_, hl2, hcell⟩ := World.cells?_some hc
      match cs', hl2 with
      | [v0, v1], _ =>
        obtain ⟨x, rfl, rfl⟩ := id_cells ht
        have k0 := hcell 0 (by decide); have k1 := hcell 1 (by decide)
        rw [add_zero'] at k0
        refine ⟨x, k0, ?_⟩
        rw [← Tx.add_add]
        have e : (⟨(a.add (i * 2)).block, (a.add (i * 2)).off + 1, none⟩ : Addr) = (a.add (i * 2)).add 1 := rfl
        exact k1)
    refine ⟨some a, len, cap, t, rfl, h1, hl, by omega, ?_⟩
    cases t with
    | nil => exact .inl rfl
    | cons e es =>
      have hb := lt_of_cell (h2 0 e rfl).1
      rw [add_block] at hb
      refine .inr ⟨a, rfl, hb, fun j u hu => ?_⟩
      have hj := (List.getElem?_eq_some_iff.1 hu).1
      rw [idsV_len] at hj
      have hk : j / 2 < (e :: es).length := by omega
      obtain ⟨g1, g2⟩ := idsV_at (List.getElem?_eq_getElem hk)
      obtain ⟨q1, q2⟩ := h2 (j / 2) _ (List.getElem?_eq_getElem hk)
      by_cases hp : j % 2 = 0
      · have ej : j = j / 2 * 2 := by omega
        rw [← ej] at g1 q1
        rw [hu] at g1
        injection g1 with g1
        rw [g1]
        exact q1
      · have ej : j = j / 2 * 2 + 1 := by omega
        rw [← ej] at g2 q2
        rw [hu] at g2
        injection g2 with g2
        rw [g2]
        exact q2
theorem prs_any {fuel : Nat} {v : Value} {x : DataW H × List MemPlace} (h : DataW.trod enc Try.prog W base spare held fuel 26 [v] = some x) : ∃ A n c l, v = .slice A n c ∧ PrsArg W A n c l := by
  obtain ⟨A, n, c, rfl⟩ : ∃ A n c, v = .slice A n c := by
    rcases open_slice Try.underlying26 h with ⟨hcs', _⟩ | ⟨a, len, cap, m, n, D, Pl, hcs', _⟩
    · injection hcs' with hcs'; exact ⟨_, _, _, hcs'⟩
    · injection hcs' with hcs'; exact ⟨_, _, _, hcs'⟩
  obtain ⟨l, hl⟩ := prs_in h rfl
  exact ⟨A, n, c, l, rfl, hl⟩

theorem nm_cells {fuel : Nat} {v0 v1 v2 v3 v4 : Value} {x : DataW H × List MemPlace} (h : DataW.trod enc Try.prog W base spare held fuel 28 [v0, v1, v2, v3, v4] = some x) :
    ∃ D dn dc A n c p, v0 = .int .i64 p.id.1 ∧ v1 = .int .i64 p.id.2 ∧ v2 = .slice D dn dc ∧ v3 = strV p.txt ∧ v4 = .slice A n c ∧ NV W W.heap.size D dn dc A n c p := by
  have s2 : Try.prog.cellsOf 24 = 2 := by kernel_rfl
  have s1 : Try.prog.cellsOf 9 = 1 := by kernel_rfl
  have s3 : Try.prog.cellsOf 25 = 1 := by kernel_rfl
  have s4 : Try.prog.cellsOf 26 = 1 := by kernel_rfl
  obtain ⟨xs, n, _, _, _, hlen, hf⟩ := DataW.trod_struct Try.underlying28 h
  match xs, hlen with
  | [y0, y1, y2, y3], _ =>
    have h0 : DataW.trod enc Try.prog W base spare held n 24 (([v0, v1, v2, v3, v4].drop 0).take (Try.prog.cellsOf 24)) = some y0 := by simpa using hf 0 _ rfl
    have h1 : DataW.trod enc Try.prog W base spare held n 25 (([v0, v1, v2, v3, v4].drop 2).take (Try.prog.cellsOf 25)) = some y1 := by simpa using hf 1 _ rfl
    have h2 : DataW.trod enc Try.prog W base spare held n 9 (([v0, v1, v2, v3, v4].drop 3).take (Try.prog.cellsOf 9)) = some y2 := by simpa using hf 2 _ rfl
    have h3 : DataW.trod enc Try.prog W base spare held n 26 (([v0, v1, v2, v3, v4].drop 4).take (Try.prog.cellsOf 26)) = some y3 := by simpa using hf 3 _ rfl
    simp only [s1, s2, s3, s4, List.drop_zero, List.take_succ_cons, List.take_zero, List.drop_succ_cons] at h0 h1 h2 h3
    obtain ⟨i, rfl, rfl⟩ := id_cells h0
    obtain ⟨D, dn, dc, ds, rfl, d1, d2, d3, d4⟩ := ids_any h1
    obtain ⟨s, e1, _, w1⟩ := DataW.trod_string Try.underlying9 h2
    injection e1 with e1
    subst e1
    obtain ⟨A, m, c, l, rfl, hl⟩ := prs_any h3
    refine ⟨D, dn, dc, A, m, c, ⟨i, ds, s.data.toList, l⟩, rfl, rfl, rfl, rfl, rfl, d1, d2, d3, d4, ?_, hl.len, hl.cap, hl.le, hl.rd⟩
    show s.data.toList.length ≤ _; rw [Array.length_toList]; exact w1

/-- A patch that is handed in. -/
theorem nm_in {r : Reach} {b0 : Nat} {v : Value} {d : DataW H} {p : List MemPlace} (hv : Value.okWide Try.prog W r b0 28 v) (h : DataW.Trod enc Try.prog W base spare held 28 v d p) :
    ∃ D dn dc A n c x, v = nmV x.id D dn dc x.txt A n c ∧ NV W W.heap.size D dn dc A n c x := by
  have s5 : Try.prog.cellsOf 28 = 5 := by kernel_rfl
  obtain ⟨cs, rfl, hsz⟩ := okWide_struct Try.underlying28 hv
  obtain ⟨v0, v1, v2, v3, v4, rfl⟩ := array5 (hsz.trans s5)
  obtain ⟨fuel, hf⟩ := h
  obtain ⟨D, dn, dc, A, n, c, x, rfl, rfl, rfl, rfl, rfl, hx⟩ := nm_cells (v0 := v0) (v1 := v1) (v2 := v2) (v3 := v3) (v4 := v4) (by simpa [Value.cells] using hf)
  exact ⟨D, dn, dc, A, n, c, x, rfl, hx⟩

/-- Patches that are handed in. -/
theorem nms_in {fuel : Nat} {cs : List Value} {x : DataW H × List MemPlace} {A : Option Addr} {l c : Nat} (h : DataW.trod enc Try.prog W base spare held fuel 22 cs = some x) (hcs : cs = [.slice A l c]) : ∃ t : List Nm, NmsArg W A l c t := by
  have s5 : Try.prog.cellsOf 28 = 5 := by kernel_rfl
  rcases open_slice Try.underlying22 h with ⟨hcs', _⟩ | ⟨a, len, cap, m, n, D, Pl, hcs', _, hl, hm, hmm, _, hi⟩
  · rw [hcs] at hcs'
    simp at hcs'
    obtain ⟨rfl, rfl, rfl⟩ := hcs'
    exact ⟨[], rfl, Nat.le_refl _, Nat.zero_le _, .inl rfl⟩
  · rw [hcs] at hcs'
    simp at hcs'
    obtain ⟨rfl, rfl, rfl⟩ := hcs'
    have hlm : l ≤ m := by rw [hmm]; split <;> omega
    rw [s5] at hi
    obtain ⟨t, h1, h2⟩ := list_of (P := fun i x => NAt W W.heap.size a i x) l (fun i hil => by
      obtain ⟨cs', hc, ht⟩ := hi i (by omega)
      obtain ⟨_, hl5, hcell⟩ := World.cells?_some hc
      match cs', hl5 with
      | [v0, v1, v2, v3, v4], _ =>
        obtain ⟨D, dn, dc, A, n, c, x, rfl, rfl, rfl, rfl, rfl, hx⟩ := nm_cells ht
        have k0 := hcell 0 (by decide); have k1 := hcell 1 (by decide); have k2 := hcell 2 (by decide); have k3 := hcell 3 (by decide); have k4 := hcell 4 (by decide)
        rw [add_zero'] at k0
        exact ⟨x, k0, k1, k3, D, dn, dc, A, n, c, k2, k4, hx⟩)
    refine ⟨t, h1, hl, by omega, ?_⟩
    cases t with
    | nil => exact .inl rfl
    | cons e es =>
      have hb := lt_of_cell (h2 0 e rfl).c0
      rw [add_block] at hb
      exact .inr ⟨a, rfl, hb, fun k x hx => h2 k x hx⟩
end

end Pn
end Go.Proofs.Ytbiiabfhngdeiaa
