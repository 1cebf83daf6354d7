/-
  Plain functions for layer 7 (files by names), and their laws. No program is imported.
-/
namespace Go.Proofs.Ytcmpbglbmikkoaa
namespace Tr

/-- An order of names: of two that are not the same just one is less; of three that go on so the first one is. -/
structure Lin {κ : Type} (lt : κ → κ → Bool) : Prop where
  irr : ∀ a, lt a a = false
  tr : ∀ {a b c}, lt a b = true → lt b c = true → lt a c = true
  tri : ∀ {a b}, a ≠ b → lt a b = true ∨ lt b a = true
theorem Lin.asym {κ : Type} {lt : κ → κ → Bool} (h : Lin lt) {a b : κ} (hab : lt a b = true) : lt b a = false := by
  cases hb : lt b a with
  | false => rfl
  | true => have := h.tr hab hb; rw [h.irr] at this; cases this
theorem Lin.ne {κ : Type} {lt : κ → κ → Bool} (h : Lin lt) {a b : κ} (hab : lt a b = true) : a ≠ b := fun e => by subst e; rw [h.irr] at hab; cases hab

section
variable {κ β : Type}

/-- The names rise. -/
def Up (lt : κ → κ → Bool) (t : List (κ × β)) : Prop := t.Pairwise fun f g => lt f.1 g.1 = true

theorem up_keys {lt : κ → κ → Bool} {t : List (κ × β)} : Up lt t ↔ (t.map (·.1)).Pairwise fun a b => lt a b = true := by
  unfold Up; rw [List.pairwise_map]
/-- A file ahead of the first one of a greater name. -/
def ins (lt : κ → κ → Bool) : List (κ × β) → κ → β → List (κ × β)
  | [], n, l => [(n, l)]
  | f :: t, n, l => if lt n f.1 then (n, l) :: f :: t else f :: ins lt t n l

theorem ins_mem (lt : κ → κ → Bool) : ∀ (t : List (κ × β)) (n : κ) (l : β) (g : κ × β), g ∈ ins lt t n l ↔ g = (n, l) ∨ g ∈ t
  | [], n, l, g => by simp [ins]
  | f :: t, n, l, g => by
    unfold ins
    split
    · simp
    · rw [List.mem_cons, ins_mem lt t, List.mem_cons]
      constructor
      · rintro (h | h | h)
        · exact .inr (.inl h)
        · exact .inl h
        · exact .inr (.inr h)
      · rintro (h | h | h)
        · exact .inr (.inl h)
        · exact .inl h
        · exact .inr (.inr h)
theorem ins_len (lt : κ → κ → Bool) : ∀ (t : List (κ × β)) (n : κ) (l : β), (ins lt t n l).length = t.length + 1
  | [], n, l => rfl
  | f :: t, n, l => by
    unfold ins
    split
    · rfl
    · rw [List.length_cons, ins_len lt t, List.length_cons]

variable [DecidableEq κ]

/-- The lines of the first file of a name. -/
def get : List (κ × β) → κ → Option β
  | [], _ => none
  | f :: t, n => if f.1 = n then some f.2 else get t n
/-- The first file of a name has other lines. -/
def upd : List (κ × β) → κ → β → List (κ × β)
  | [], _, _ => []
  | f :: t, n, l => if f.1 = n then (n, l) :: t else f :: upd t n l
def put (lt : κ → κ → Bool) (t : List (κ × β)) (n : κ) (l : β) : List (κ × β) := if (get t n).isSome then upd t n l else ins lt t n l
/-- Without the first file of a name. -/
def del : List (κ × β) → κ → List (κ × β)
  | [], _ => []
  | f :: t, n => if f.1 = n then t else f :: del t n

theorem get_cons (f : κ × β) (t : List (κ × β)) (n : κ) : get (f :: t) n = if f.1 = n then some f.2 else get t n := rfl
theorem get_none : ∀ {t : List (κ × β)} {n : κ}, get t n = none ↔ ∀ f ∈ t, f.1 ≠ n
  | [], n => by simp [get]
  | f :: t, n => by
    rw [get_cons]
    split
    · rename_i h; simp [h]
    · rename_i h; rw [get_none]; simp [h]
theorem get_mem : ∀ {t : List (κ × β)} {n : κ} {l : β}, get t n = some l → (n, l) ∈ t
  | [], n, l, h => by cases h
  | f :: t, n, l, h => by
    rw [get_cons] at h
    split at h
    · rename_i e; injection h with h; subst e; subst h; exact List.mem_cons_self
    · exact List.mem_cons_of_mem _ (get_mem h)
theorem get_of_mem {lt : κ → κ → Bool} (hl : Lin lt) : ∀ {t : List (κ × β)} {f : κ × β}, Up lt t → f ∈ t → get t f.1 = some f.2
  | g :: t, f, hu, hf => by
    obtain ⟨h1, h2⟩ := List.pairwise_cons.1 hu
    rw [get_cons]
    rcases List.mem_cons.1 hf with rfl | hf
    · rw [if_pos rfl]
    · rw [if_neg (hl.ne (h1 f hf)), get_of_mem hl h2 hf]

/-- What a rising tree is its files tell. -/
theorem up_ext {lt : κ → κ → Bool} (hl : Lin lt) : ∀ {t u : List (κ × β)}, Up lt t → Up lt u → (∀ n, get t n = get u n) → t = u
  | [], [], _, _, _ => rfl
  | [], g :: u, _, _, h => by have := h g.1; rw [get_cons, if_pos rfl] at this; cases this
  | f :: t, [], _, _, h => by have := h f.1; rw [get_cons, if_pos rfl] at this; cases this
  | f :: t, g :: u, ht, hu, h => by
    obtain ⟨t1, t2⟩ := List.pairwise_cons.1 ht
    obtain ⟨u1, u2⟩ := List.pairwise_cons.1 hu
    have e : f.1 = g.1 := by
      refine Classical.byContradiction fun hne => ?_
      rcases hl.tri hne with hlt | hlt
      · have hf := h f.1
        rw [get_cons, if_pos rfl, get_cons, if_neg (Ne.symm hne)] at hf
        have := get_mem hf.symm
        have := hl.asym (u1 _ this)
        rw [hlt] at this; cases this
      · have hg := h g.1
        rw [get_cons, if_neg hne, get_cons, if_pos rfl] at hg
        have := get_mem hg
        have := hl.asym (t1 _ this)
        rw [hlt] at this; cases this
    have e2 : f = g := by
      have := h f.1
      rw [get_cons, if_pos rfl, get_cons, if_pos e.symm] at this
      injection this with this
      exact Prod.ext e this
    subst e2
    refine congrArg (f :: ·) (up_ext hl t2 u2 fun n => ?_)
    by_cases hn : f.1 = n
    · subst hn
      have ht0 : get t f.1 = none := get_none.2 fun x hx => Ne.symm (hl.ne (t1 x hx))
      have hu0 : get u f.1 = none := get_none.2 fun x hx => Ne.symm (hl.ne (u1 x hx))
      rw [ht0, hu0]
    · have := h n
      rwa [get_cons, if_neg hn, get_cons, if_neg hn] at this

theorem get_upd : ∀ (t : List (κ × β)) (n o : κ) (l : β), get (upd t n l) o = if n = o then (get t n).map (fun _ => l) else get t o
  | [], n, o, l => by simp [upd, get]
  | f :: t, n, o, l => by
    unfold upd
    by_cases h : f.1 = n
    · rw [if_pos h, get_cons, get_cons, get_cons, h]
      by_cases ho : n = o
      · rw [if_pos ho, if_pos ho, if_pos rfl]; rfl
      · rw [if_neg ho, if_neg ho, if_neg ho]
    · rw [if_neg h, get_cons, get_cons, get_cons, get_upd t, if_neg h]
      by_cases ho : n = o
      · rw [if_pos ho, if_pos ho, if_neg (by rw [← ho]; exact h)]
      · rw [if_neg ho, if_neg ho]
theorem get_ins (lt : κ → κ → Bool) : ∀ (t : List (κ × β)) (n o : κ) (l : β), get t n = none → get (ins lt t n l) o = if n = o then some l else get t o
  | [], n, o, l, _ => by simp [ins, get]
  | f :: t, n, o, l, h => by
    rw [get_cons] at h
    split at h
    · cases h
    · rename_i hf
      unfold ins
      split
      · rw [get_cons]
      · rw [get_cons, get_ins lt t n o l h, get_cons]
        by_cases ho : n = o
        · subst ho; rw [if_neg hf, if_pos rfl, if_pos rfl]
        · rw [if_neg ho, if_neg ho]
/-- What is put is got, and changes no other file. -/
theorem get_put (lt : κ → κ → Bool) (t : List (κ × β)) (n o : κ) (l : β) : get (put lt t n l) o = if n = o then some l else get t o := by
  unfold put
  cases h : get t n with
  | none => exact get_ins lt t n o l h
  | some x =>
    rw [Option.isSome_some, if_pos rfl, get_upd, h]
    rfl
theorem get_del {lt : κ → κ → Bool} (hl : Lin lt) : ∀ {t : List (κ × β)}, Up lt t → ∀ (n o : κ), get (del t n) o = if n = o then none else get t o
  | [], _, n, o => by simp [del, get]
  | f :: t, hu, n, o => by
    obtain ⟨h1, h2⟩ := List.pairwise_cons.1 hu
    unfold del
    by_cases h : f.1 = n
    · subst h
      rw [if_pos rfl]
      by_cases ho : f.1 = o
      · subst ho
        rw [if_pos rfl]
        exact get_none.2 fun x hx => Ne.symm (hl.ne (h1 x hx))
      · rw [if_neg ho, get_cons, if_neg ho]
    · rw [if_neg h, get_cons, get_del hl h2, get_cons]
      by_cases ho : n = o
      · rw [if_pos ho, if_neg (by rw [← ho]; exact h), if_pos ho]
      · rw [if_neg ho, if_neg ho]

theorem upd_keys : ∀ (t : List (κ × β)) (n : κ) (l : β), (upd t n l).map (·.1) = t.map (·.1)
  | [], _, _ => rfl
  | f :: t, n, l => by
    unfold upd
    split
    · rename_i h; rw [List.map_cons, List.map_cons, h]
    · rw [List.map_cons, List.map_cons, upd_keys t]
theorem upd_len (t : List (κ × β)) (n : κ) (l : β) : (upd t n l).length = t.length := by
  have := congrArg List.length (upd_keys t n l)
  simpa using this
theorem up_ins {lt : κ → κ → Bool} (hl : Lin lt) : ∀ {t : List (κ × β)} {n : κ} {l : β}, Up lt t → get t n = none → Up lt (ins lt t n l)
  | [], n, l, _, _ => List.pairwise_singleton _ _
  | f :: t, n, l, hu, h => by
    obtain ⟨h1, h2⟩ := List.pairwise_cons.1 hu
    have hf : f.1 ≠ n := fun e => by rw [get_cons, if_pos e] at h; cases h
    rw [get_cons, if_neg hf] at h
    unfold ins
    split
    · rename_i hn
      refine List.pairwise_cons.2 ⟨fun g hg => ?_, hu⟩
      rcases List.mem_cons.1 hg with rfl | hg
      · exact hn
      · exact hl.tr hn (h1 g hg)
    · rename_i hn
      refine List.pairwise_cons.2 ⟨fun g hg => ?_, up_ins hl h2 h⟩
      rcases (ins_mem lt t n l g).1 hg with rfl | hg
      · rcases hl.tri hf with h' | h'
        · exact h'
        · exact absurd h' hn
      · exact h1 g hg
/-- A tree that rises does so with a file, and without one. -/
theorem up_put {lt : κ → κ → Bool} (hl : Lin lt) {t : List (κ × β)} (hu : Up lt t) (n : κ) (l : β) : Up lt (put lt t n l) := by
  unfold put
  cases h : get t n with
  | none => exact up_ins hl hu h
  | some x =>
    rw [Option.isSome_some, if_pos rfl]
    rw [up_keys, upd_keys, ← up_keys]
    exact hu
theorem del_sub : ∀ (t : List (κ × β)) (n : κ), (del t n).Sublist t
  | [], _ => .slnil
  | f :: t, n => by
    unfold del
    split
    · exact List.sublist_cons_self f t
    · exact (del_sub t n).cons_cons f
theorem up_del {lt : κ → κ → Bool} {t : List (κ × β)} (hu : Up lt t) (n : κ) : Up lt (del t n) := List.Pairwise.sublist (del_sub t n) hu
theorem put_len (lt : κ → κ → Bool) (t : List (κ × β)) (n : κ) (l : β) : (put lt t n l).length = if (get t n).isSome then t.length else t.length + 1 := by
  unfold put
  split
  · exact upd_len t n l
  · exact ins_len lt t n l
/-- Put, and taken away, it is as it was. -/
theorem del_put (lt : κ → κ → Bool) {t : List (κ × β)} {n : κ} (h : get t n = none) (l : β) : del (put lt t n l) n = t := by
  unfold put
  rw [h, Option.isSome_none, if_neg (by decide)]
  induction t with
  | nil => simp [ins, del]
  | cons f t ih =>
    have hf : f.1 ≠ n := fun e => by rw [get_cons, if_pos e] at h; cases h
    rw [get_cons, if_neg hf] at h
    unfold ins
    split
    · unfold del; rw [if_pos rfl]
    · unfold del; rw [if_neg hf, ih h]
/-- Two files that are put in either order are the same tree; so without them. -/
theorem put_put {lt : κ → κ → Bool} (hl : Lin lt) {t : List (κ × β)} (hu : Up lt t) {a b : κ} (hab : a ≠ b) (l m : β) : put lt (put lt t a l) b m = put lt (put lt t b m) a l := by
  refine up_ext hl (up_put hl (up_put hl hu _ _) _ _) (up_put hl (up_put hl hu _ _) _ _) fun n => ?_
  rw [get_put, get_put, get_put, get_put]
  by_cases h1 : a = n
  · subst h1; rw [if_neg (Ne.symm hab), if_pos rfl, if_pos rfl]
  · by_cases h2 : b = n
    · rw [if_pos h2, if_neg h1, if_pos h2]
    · rw [if_neg h2, if_neg h1, if_neg h1, if_neg h2]
theorem put_del {lt : κ → κ → Bool} (hl : Lin lt) {t : List (κ × β)} (hu : Up lt t) (a b : κ) (l m : β) : del (del (put lt (put lt t a l) b m) a) b = del (del t a) b := by
  have hp := up_put hl (up_put hl hu a l) b m
  refine up_ext hl (up_del (up_del hp _) _) (up_del (up_del hu _) _) fun n => ?_
  rw [get_del hl (up_del hp _), get_del hl hp, get_del hl (up_del hu _), get_del hl hu, get_put, get_put]
  by_cases h2 : b = n
  · rw [if_pos h2, if_pos h2]
  · by_cases h1 : a = n
    · rw [if_neg h2, if_pos h1, if_neg h2, if_pos h1]
    · rw [if_neg h2, if_neg h1, if_neg h2, if_neg h1, if_neg h2, if_neg h1]
end

section
variable {κ : Type} [DecidableEq κ]
/-- A rising list of names is told by what is in it. -/
theorem rise_ext {lt : κ → κ → Bool} (hl : Lin lt) : ∀ {a b : List κ}, (a.Pairwise fun x y => lt x y = true) → (b.Pairwise fun x y => lt x y = true) → (∀ x, x ∈ a ↔ x ∈ b) → a = b := fun {a b} ha hb h => by
  have e : ∀ {l : List κ}, (l.Pairwise fun x y => lt x y = true) → Up lt (l.map fun x => (x, ())) := fun {l} h => by
    rw [up_keys, List.map_map]
    exact (List.map_id l).symm ▸ h
  have g : ∀ {l : List κ} {n : κ}, get (l.map fun x => (x, ())) n = if n ∈ l then some () else none := fun {l n} => by
    induction l with
    | nil => simp [get]
    | cons x l ih =>
      rw [List.map_cons, get_cons, ih]
      by_cases hx : x = n
      · subst hx; simp
      · rw [if_neg hx]
        have : (n ∈ x :: l) ↔ n ∈ l := by simp [Ne.symm hx]
        simp only [this]
  have := up_ext hl (e ha) (e hb) fun n => by rw [g, g]; simp only [h n]
  have h2 := congrArg (List.map (·.1)) this
  rw [List.map_map, List.map_map] at h2
  exact (List.map_id a).symm.trans (h2.trans (List.map_id b))
end

end Tr
end Go.Proofs.Ytcmpbglbmikkoaa
