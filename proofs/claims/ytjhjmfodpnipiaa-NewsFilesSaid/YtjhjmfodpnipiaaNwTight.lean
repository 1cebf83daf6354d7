/-
  Plain laws for layer 13: what changes one tree into another one is tight, costs as much as the other way round, and names files alone that differ. No program is walked.
-/
import Derived.Test.YtjhjmfodpnipiaaNwPlain
import Derived.Test.YtjhjmfodpnipiaaGF
set_option maxRecDepth 100000
namespace Go.Proofs.Ytjhjmfodpnipiaa
namespace Nw
open Tx Df Sq Hk Tr Pr Fl
set_option linter.unusedVariables false

/-- What stands side by side. -/
def Chn {α : Type} (R : α → α → Prop) : List α → Prop
  | [] => True
  | [_] => True
  | p :: q :: l => R p q ∧ Chn R (q :: l)
theorem chn_cons {α : Type} {R : α → α → Prop} {p : α} {l : List α} : Chn R (p :: l) ↔ (∀ q ∈ l.head?, R p q) ∧ Chn R l := by
  cases l with
  | nil => simp [Chn]
  | cons q l => simp [Chn]
theorem chn_app {α : Type} {R : α → α → Prop} : ∀ {a b : List α}, Chn R a → Chn R b → (∀ p ∈ a, ∀ q ∈ b.head?, R p q) → Chn R (a ++ b)
  | [], b, _, hb, _ => hb
  | p :: a, b, ha, hb, h => by
    rw [chn_cons] at ha
    rw [List.cons_append, chn_cons]
    refine ⟨fun q hq => ?_, chn_app ha.2 hb (fun x hx => h x (.tail _ hx))⟩
    cases a with
    | nil => exact h p (.head _) q hq
    | cons x a => exact ha.1 q hq
theorem chn_map {α β : Type} {R : β → β → Prop} {S : α → α → Prop} {f : α → β} (hf : ∀ x y, S x y → R (f x) (f y)) : ∀ {l : List α}, Chn S l → Chn R (l.map f)
  | [], _ => trivial
  | [x], _ => trivial
  | x :: y :: l, h => ⟨hf x y h.1, chn_map hf (l := y :: l) h.2⟩
theorem tightP_iff : ∀ {l : List Ch}, Td.tightP l = true ↔ (∀ p ∈ l, idleP p = false) ∧ Chn (fun p q => q ≠ turnP p) l
  | [] => by simp [Td.tight, Chn]
  | [p] => by simp [Td.tight, Chn]
  | p :: q :: l => by
    show (!idleP p && (decide (q ≠ turnP p) && Td.tightP (q :: l))) = true ↔ _
    rw [Bool.and_eq_true, Bool.and_eq_true, tightP_iff (l := q :: l), decide_eq_true_eq, Bool.not_eq_true']
    constructor
    · rintro ⟨h1, h2, h3, h4⟩
      refine ⟨fun x hx => ?_, h2, h4⟩
      rcases List.mem_cons.1 hx with rfl | hx
      · exact h1
      · exact h3 x hx
    · rintro ⟨h1, h2, h3⟩
      exact ⟨h1 p (.head _), h2, fun x hx => h1 x (.tail _ hx), h3⟩

section
variable {α : Type} [DecidableEq α]
omit [DecidableEq α] in
/-- From further ahead. -/
theorem apl_from {a : List α} {k k' : Nat} (f : Bool) {r : List α} {l : List (Ed α)} (hk : k ≤ k') (hk' : k' ≤ a.length) (h : apl a k' false l = some r) : apl a k f l = some (mid a k k' ++ r) := by
  cases l with
  | nil =>
    rw [apl_nil] at h ⊢
    injection h with h
    subst h
    rw [mid_drop hk]
  | cons x l =>
    obtain ⟨hf, r1, h1, rfl⟩ := apl_some h
    obtain ⟨f1, f2, f3, f4, f5⟩ := hf
    have f2 := f2 rfl
    rw [apl_yes l ⟨by omega, fun _ => by omega, f3, f4, f5⟩, h1]
    show some _ = some _
    rw [← List.append_assoc, ← List.append_assoc, mid_mid hk (by omega)]
omit [DecidableEq α] in
/-- Without an edit that changes nothing. -/
theorem apl_without {a : List α} {x : Ed α} {l2 : List (Ed α)} (hx : mid a x.pos.toNat (x.pos + x.old).toNat = x.new) : ∀ {l1 : List (Ed α)} {k : Nat} {f : Bool} {c : List α}, k ≤ a.length → apl a k f (l1 ++ x :: l2) = some c → apl a k f (l1 ++ l2) = some c
  | [], k, f, c, hk, h => by
    rw [List.nil_append] at h ⊢
    obtain ⟨⟨f1, f2, f3, f4, f5⟩, r, h1, rfl⟩ := apl_some h
    rw [apl_from f (by omega) (by omega) h1, ← hx, mid_mid (by omega) (by omega)]
  | y :: l1, k, f, c, hk, h => by
    rw [List.cons_append] at h ⊢
    obtain ⟨hf, r, h1, rfl⟩ := apl_some h
    obtain ⟨f1, f2, f3, f4, f5⟩ := id hf
    rw [apl_yes _ hf, apl_without hx (by omega) h1]
    rfl
/-- Each edit changes something. -/
theorem edits_change (a b : List α) : ∀ x ∈ edits a b, mid a x.pos.toNat (x.pos + x.old).toNat ≠ x.new := fun x hm hx => by
  obtain ⟨l1, l2, e⟩ := List.append_of_mem hm
  have h0 := edits_appl a b
  have hc := edits_cost a b
  have hs := edits_some a b x hm
  rw [e] at h0 hc
  have h1 := appl_least (apl_without hx (Nat.zero_le _) h0)
  rw [cost_append] at hc h1
  have : cost (x :: l2) = x.old + x.new.length + cost l2 := rfl
  omega
omit [DecidableEq α] in
theorem hks_of {a : List α} : ∀ {l : List (Ed α)} {m : Int} {h : Hu α}, h ∈ hks a m l → ∃ x ∈ l, h.old = mid a x.pos.toNat (x.pos + x.old).toNat ∧ h.new = x.new
  | [], m, h, hh => by cases hh
  | x :: l, m, h, hh => by
    rw [hks] at hh
    rcases List.mem_cons.1 hh with rfl | hh
    · exact ⟨x, .head _, rfl, rfl⟩
    · obtain ⟨y, hy, h1⟩ := hks_of hh
      exact ⟨y, .tail _ hy, h1⟩
omit [DecidableEq α] in
/-- Each hunk stands behind the one ahead. -/
theorem hks_rise {a : List α} : ∀ {l : List (Ed α)} {k : Nat} {f : Bool} {r : List α} (m : Int), apl a k f l = some r → Chn (fun h g => h.pos < g.pos) (hks a m l) ∧ ∀ h ∈ (hks a m l).head?, (k : Int) + m ≤ h.pos ∧ (f = false → (k : Int) + m < h.pos)
  | [], k, f, r, m, h => ⟨trivial, fun h hh => by cases hh⟩
  | x :: l, k, f, r, m, h => by
    obtain ⟨⟨f1, f2, f3, f4, f5⟩, r1, h1, _⟩ := apl_some h
    obtain ⟨c1, c2⟩ := hks_rise (m + x.new.length - x.old) h1
    rw [hks]
    refine ⟨chn_cons.2 ⟨fun g hg => ?_, c1⟩, fun g hg => ?_⟩
    · have := (c2 g hg).2 rfl
      show x.pos + m < g.pos
      omega
    · rw [List.head?_cons] at hg
      injection hg with hg
      subst hg
      exact ⟨by show (k : Int) + m ≤ x.pos + m; omega, fun e => by have := f2 e; show (k : Int) + m < x.pos + m; omega⟩
omit [DecidableEq α] in
/-- What hunks cost. -/
def costH : List (Hu α) → Int
  | [] => 0
  | h :: l => h.old.length + h.new.length + costH l
omit [DecidableEq α] in
theorem hks_cost {a : List α} : ∀ {l : List (Ed α)} {k : Nat} {f : Bool} {r : List α} (m : Int), apl a k f l = some r → costH (hks a m l) = cost l
  | [], k, f, r, m, h => rfl
  | x :: l, k, f, r, m, h => by
    obtain ⟨⟨f1, f2, f3, f4, f5⟩, r1, h1, _⟩ := apl_some h
    rw [hks]
    have e := hks_cost (m + x.new.length - x.old) h1
    have ml := mid_len (a := a) (i := x.pos.toNat) (j := (x.pos + x.old).toNat) (by omega)
    show ((mid a x.pos.toNat (x.pos + x.old).toNat).length : Int) + x.new.length + costH (hks a (m + x.new.length - x.old) l) = x.old + x.new.length + cost l
    rw [e, ml]
    omega
end

/-- Of one name: none is idle, none undoes the one ahead. -/
theorem oneN_chn (nm : List UInt8) (x y : Option (List (List UInt8))) (hxy : x.isSome || y.isSome) : (∀ p ∈ oneN nm x y, idleP p = false ∧ p.nm = nm ∧ (p.k = 0 ∨ p.k = 1 ∨ p.k = 3)) ∧ Chn (fun p q => q ≠ turnP p) (oneN nm x y) := by
  have key : ∀ h ∈ hunks (x.getD []) (y.getD []), h.old ≠ h.new := fun h hh e => by
    obtain ⟨z, hz, h1, h2⟩ := hks_of hh
    exact edits_change _ _ z hz (by rw [← h1, ← h2, e])
  have kind : ∀ p ∈ oneN nm x y, (p.k = 3 → ∃ h ∈ hunks (x.getD []) (y.getD []), p = patchP nm h) ∧ p.nm = nm ∧ (p.k = 0 ∨ p.k = 1 ∨ p.k = 3) := fun p hp => by
    unfold oneN at hp
    rcases List.mem_append.1 hp with hp | hp
    · split at hp
      · cases hp
      · rw [List.mem_singleton.1 hp]; exact ⟨fun e => (by cases e), rfl, .inl rfl⟩
    rcases List.mem_append.1 hp with hp | hp
    · obtain ⟨h, hh, rfl⟩ := List.mem_map.1 hp
      exact ⟨fun _ => ⟨h, hh, rfl⟩, rfl, .inr (.inr rfl)⟩
    · split at hp
      · cases hp
      · rw [List.mem_singleton.1 hp]; exact ⟨fun e => (by cases e), rfl, .inr (.inl rfl)⟩
  refine ⟨fun p hp => ⟨?_, (kind p hp).2⟩, ?_⟩
  · obtain ⟨k1, _, k3⟩ := kind p hp
    unfold idleP
    rcases k3 with e | e | e
    · simp [e]
    · simp [e]
    · obtain ⟨h, hh, rfl⟩ := k1 e
      have := key h hh
      simp [patchP, this]
  · have hc : Chn (fun p q => q ≠ turnP p) ((hunks (x.getD []) (y.getD [])).map (patchP nm)) := by
      refine chn_map (S := fun h g => h.pos < g.pos) (fun h g hp e => ?_) (hks_rise 0 (edits_appl (x.getD []) (y.getD []))).1
      have e2 : (patchP nm g).h.pos = (turnP (patchP nm h)).h.pos := by rw [e]
      rw [turnP_h (show (3 : Int) ≠ 0 by decide) (show (3 : Int) ≠ 1 by decide) (show (3 : Int) ≠ 2 by decide)] at e2
      have e3 : g.pos = h.pos := e2
      omega
    have hr : Chn (fun p q => q ≠ turnP p) ((hunks (x.getD []) (y.getD [])).map (patchP nm) ++ (if y.isSome then [] else [rmP nm])) := by
      refine chn_app hc (by split <;> trivial) (fun p hp q hq e => ?_)
      obtain ⟨h, _, rfl⟩ := List.mem_map.1 hp
      rw [turnP_h (show (3 : Int) ≠ 0 by decide) (show (3 : Int) ≠ 1 by decide) (show (3 : Int) ≠ 2 by decide)] at e
      split at hq
      · cases hq
      · injection hq with hq
        subst hq
        have := congrArg Ch.k e
        cases this
    unfold oneN
    refine chn_app (by split <;> trivial) hr (fun p hp q hq e => ?_)
    split at hp
    · cases hp
    · rename_i hx
      rw [List.mem_singleton.1 hp] at e
      rw [turnP_0 rfl] at e
      cases hh : (hunks (x.getD []) (y.getD [])).map (patchP nm) with
      | nil =>
        rw [hh, List.nil_append] at hq
        split at hq
        · cases hq
        · rename_i hy
          simp only [Bool.or_eq_true] at hxy
          rcases hxy with h | h
          · exact hx h
          · exact hy h
      | cons z zs =>
        rw [hh] at hq
        injection hq with hq
        subst hq
        have hz : z ∈ (hunks (x.getD []) (y.getD [])).map (patchP nm) := by rw [hh]; exact .head _
        obtain ⟨h, _, rfl⟩ := List.mem_map.1 hz
        have := congrArg Ch.k e
        cases this
theorem turn_nm {p : Ch} (h : p.k = 0 ∨ p.k = 1 ∨ p.k = 3) : (turnP p).nm = p.nm := by
  rcases h with e | e | e
  · rw [turnP_0 e]
  · rw [turnP_1 e]
  · rw [turnP_h (by omega) (by omega) (by omega)]
theorem newsNs_chn {f : List UInt8 → List Ch} (hf : ∀ n p, p ∈ f n → p.nm = n ∧ (p.k = 0 ∨ p.k = 1 ∨ p.k = 3)) : ∀ {ns : List (List UInt8)}, ns.Nodup → (∀ n ∈ ns, Chn (fun p q => q ≠ turnP p) (f n)) → Chn (fun p q => q ≠ turnP p) (ns.flatMap f)
  | [], _, _ => trivial
  | n :: ns, hd, h => by
    rw [List.nodup_cons] at hd
    rw [List.flatMap_cons]
    refine chn_app (h n (.head _)) (newsNs_chn hf hd.2 (fun m hm => h m (.tail _ hm))) (fun p hp q hq e => ?_)
    have hq' := List.mem_of_mem_head? hq
    obtain ⟨m, hm, hq'⟩ := List.mem_flatMap.1 hq'
    have e1 := (hf n p hp).1
    have e2 := (hf m q hq').1
    rw [e, turn_nm (hf n p hp).2, e1] at e2
    exact hd.1 (by rw [e2]; exact hm)
theorem in_names {a b : TR} {n : List UInt8} (hn : n ∈ namesN a b) (ha : Up lt a) (hb : Up lt b) : ((get a n).isSome || (get b n).isSome) = true := by
  unfold namesN at hn
  rw [names_mem, List.mem_append] at hn
  rcases hn with hn | hn
  · obtain ⟨f, hf, rfl⟩ := List.mem_map.1 hn
    rw [get_of_mem lin ha hf]; rfl
  · obtain ⟨f, hf, rfl⟩ := List.mem_map.1 hn
    rw [get_of_mem lin hb hf]; simp
/-- None of them undoes the one ahead, or changes nothing. -/
theorem news_tight {a b : TR} (ha : Up lt a) (hb : Up lt b) : Td.tightP (newsL a b) = true := by
  rw [tightP_iff]
  constructor
  · intro p hp
    unfold newsL at hp
    obtain ⟨n, hn, hp⟩ := List.mem_flatMap.1 hp
    exact ((oneN_chn n _ _ (in_names hn ha hb)).1 p hp).1
  · have key : ∀ {ns : List (List UInt8)}, (∀ n ∈ ns, n ∈ namesN a b) → ns.flatMap (fun n => oneN n (get a n) (get b n)) = ns.flatMap (fun n => if n ∈ namesN a b then oneN n (get a n) (get b n) else []) := by
      intro ns
      induction ns with
      | nil => intro _; rfl
      | cons n ns ih =>
        intro h
        rw [List.flatMap_cons, List.flatMap_cons, if_pos (h n (.head _)), ih (fun m hm => h m (.tail _ hm))]
    unfold newsL
    rw [key (fun n hn => hn)]
    refine newsNs_chn (fun n p hp => ?_) (namesN_nodup a b) (fun n hn => ?_)
    · split at hp
      · rename_i hn
        exact ((oneN_chn n _ _ (in_names hn ha hb)).1 p hp).2
      · cases hp
    · rw [if_pos hn]
      exact (oneN_chn n _ _ (in_names hn ha hb)).2
/-- What changes cost. -/
def costP : List Ch → Int
  | [] => 0
  | p :: l => p.h.old.length + p.h.new.length + costP l
theorem costP_app : ∀ (l m : List Ch), costP (l ++ m) = costP l + costP m
  | [], m => by show costP m = 0 + costP m; omega
  | p :: l, m => by
    rw [List.cons_append]
    show (p.h.old.length : Int) + p.h.new.length + costP (l ++ m) = p.h.old.length + p.h.new.length + costP l + costP m
    rw [costP_app l m]; omega
theorem costP_map (nm : List UInt8) : ∀ (l : List HU), costP (l.map (patchP nm)) = costH l
  | [] => rfl
  | h :: l => by
    rw [List.map_cons]
    show (h.old.length : Int) + h.new.length + costP (l.map (patchP nm)) = h.old.length + h.new.length + costH l
    rw [costP_map nm l]
theorem oneN_cost (nm : List UInt8) (x y : Option (List (List UInt8))) : costP (oneN nm x y) = cost (edits (x.getD []) (y.getD [])) := by
  unfold oneN
  rw [costP_app, costP_app, costP_map]
  have h1 : costP (if x.isSome then [] else [addP nm]) = 0 := by split <;> rfl
  have h2 : costP (if y.isSome then [] else [rmP nm]) = 0 := by split <;> rfl
  have h3 : costH (hunks (x.getD []) (y.getD [])) = cost (edits (x.getD []) (y.getD [])) := hks_cost 0 (edits_appl _ _)
  omega
theorem names_comm (a b : TR) : namesN a b = namesN b a := by
  unfold namesN
  exact names_uniq lin (names_rise lin _) (fun x => by rw [names_mem]; simp [or_comm])
/-- The other way round as much. -/
theorem news_cost (a b : TR) : costP (newsL a b) = costP (newsL b a) := by
  unfold newsL
  rw [names_comm b a]
  generalize namesN a b = ns
  induction ns with
  | nil => rfl
  | cons n ns ih => rw [List.flatMap_cons, List.flatMap_cons, costP_app, costP_app, ih, oneN_cost, oneN_cost, edits_turn]
/-- They name files alone that are not the same in both; their names rise. -/
theorem news_files {a b : TR} (ha : Up lt a) (hb : Up lt b) : ∀ p ∈ newsL a b, get a p.nm ≠ get b p.nm ∧ (p.k = 0 ∨ p.k = 1 ∨ p.k = 3) := fun p hp => by
  unfold newsL at hp
  obtain ⟨n, hn, hp⟩ := List.mem_flatMap.1 hp
  obtain ⟨_, h2, h3⟩ := (oneN_chn n _ _ (in_names hn ha hb)).1 p hp
  refine ⟨fun e => ?_, h3⟩
  rw [h2] at e
  have hs := in_names hn ha hb
  rw [e] at hp hs
  cases hg : get b n with
  | none => rw [hg] at hs; cases hs
  | some l =>
    rw [hg] at hp
    unfold oneN at hp
    simp [hunks_self] at hp
theorem newsNs_rise {f : List UInt8 → List Ch} (hf : ∀ n p, p ∈ f n → p.nm = n) : ∀ {ns : List (List UInt8)}, (ns.Pairwise fun x y => lt x y = true) → Chn (fun p q => lt q.nm p.nm = false) (ns.flatMap f)
  | [], _ => trivial
  | n :: ns, h => by
    rw [List.pairwise_cons] at h
    rw [List.flatMap_cons]
    have one : ∀ {l : List Ch}, (∀ p ∈ l, p.nm = n) → Chn (fun p q => lt q.nm p.nm = false) l := by
      intro l
      induction l with
      | nil => exact fun _ => trivial
      | cons p l ih =>
        intro hl
        refine chn_cons.2 ⟨fun q hq => ?_, ih (fun x hx => hl x (.tail _ hx))⟩
        rw [hl q (.tail _ (List.mem_of_mem_head? hq)), hl p (.head _)]
        exact bl_irr n
    refine chn_app (one (hf n)) (newsNs_rise hf h.2) (fun p hp q hq => ?_)
    obtain ⟨m, hm, hq'⟩ := List.mem_flatMap.1 (List.mem_of_mem_head? hq)
    rw [hf n p hp, hf m q hq']
    exact lin.asym (h.1 m hm)
theorem oneN_nm {n : List UInt8} {x y : Option (List (List UInt8))} : ∀ p ∈ oneN n x y, p.nm = n := fun p hp => by
  unfold oneN at hp
  rcases List.mem_append.1 hp with hp | hp
  · split at hp
    · cases hp
    · rw [List.mem_singleton.1 hp]; rfl
  rcases List.mem_append.1 hp with hp | hp
  · obtain ⟨h, hh, rfl⟩ := List.mem_map.1 hp
    rfl
  · split at hp
    · cases hp
    · rw [List.mem_singleton.1 hp]; rfl
theorem news_rise (a b : TR) : Chn (fun p q => lt q.nm p.nm = false) (newsL a b) := newsNs_rise (fun n p hp => oneN_nm p hp) (names_rise lin _)

end Nw
end Go.Proofs.Ytjhjmfodpnipiaa
