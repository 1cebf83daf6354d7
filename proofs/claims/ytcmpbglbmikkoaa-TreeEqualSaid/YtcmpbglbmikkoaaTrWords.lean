/-
  Words for layer 7: names of bytes are in an order; a tree that may be; the names of trees; what the loops know of a tree gone through in part. No program is walked.
-/
import Derived.Test.YtcmpbglbmikkoaaTrPlain
import Derived.Test.YtcmpbglbmikkoaaTxPlain
namespace Go.Proofs.Ytcmpbglbmikkoaa
namespace Tr
open Tx

theorem bl_irr : ∀ a : List UInt8, Op.bytesLess a a = false
  | [] => rfl
  | a :: x => by rw [Op.bytesLess, bl_irr x]; simp
theorem bl_tr : ∀ {a b c : List UInt8}, Op.bytesLess a b = true → Op.bytesLess b c = true → Op.bytesLess a c = true
  | _, [], _, h, _ => by simp [Op.bytesLess] at h
  | [], _ :: _, [], _, h => by simp [Op.bytesLess] at h
  | [], _ :: _, _ :: _, _, _ => rfl
  | _ :: _, _ :: _, [], _, h => by simp [Op.bytesLess] at h
  | a :: x, b :: y, c :: z, h, h' => by
    simp only [Op.bytesLess, Bool.or_eq_true, Bool.and_eq_true, decide_eq_true_eq, beq_iff_eq] at h h' ⊢
    rcases h with h | ⟨rfl, h⟩ <;> rcases h' with h' | ⟨rfl, h'⟩
    · exact .inl (UInt8.lt_trans h h')
    · exact .inl h
    · exact .inl h'
    · exact .inr ⟨rfl, bl_tr h h'⟩
theorem bl_tri : ∀ {a b : List UInt8}, a ≠ b → Op.bytesLess a b = true ∨ Op.bytesLess b a = true
  | [], [], h => absurd rfl h
  | [], _ :: _, _ => .inl rfl
  | _ :: _, [], _ => .inr rfl
  | a :: x, b :: y, h => by
    simp only [Op.bytesLess, Bool.or_eq_true, Bool.and_eq_true, decide_eq_true_eq, beq_iff_eq]
    by_cases e : a = b
    · subst e
      rcases bl_tri (a := x) (b := y) (fun e => h (by rw [e])) with h1 | h1
      · exact .inl (.inr ⟨rfl, h1⟩)
      · exact .inr (.inr ⟨rfl, h1⟩)
    · have : a < b ∨ b < a := by
        have h1 : a.toNat ≠ b.toNat := fun h1 => e (UInt8.toNat_inj.1 h1)
        rcases Nat.lt_or_gt_of_ne h1 with h2 | h2
        · exact .inl (UInt8.lt_iff_toNat_lt.2 h2)
        · exact .inr (UInt8.lt_iff_toNat_lt.2 h2)
      rcases this with h1 | h1
      · exact .inl (.inl h1)
      · exact .inr (.inl h1)
/-- Names, byte by byte. -/
theorem lin : Lin Op.bytesLess := ⟨bl_irr, bl_tr, bl_tri⟩

theorem gt_eq (s n : List UInt8) : (!Op.bytesLess s n && !(s == n)) = Op.bytesLess n s := by
  by_cases e : s = n
  · subst e; rw [lin.irr]; simp
  · rcases lin.tri e with h | h
    · rw [h, lin.asym h]; rfl
    · rw [h, lin.asym h]; simp [e]

abbrev FL : Type := List UInt8 × List (List UInt8)
abbrev TR : Type := List FL

section
variable {κ β : Type} {lt : κ → κ → Bool}

/-- Names rise, each against the one ahead of it. -/
def upB (lt : κ → κ → Bool) : List κ → Bool
  | [] => true
  | [_] => true
  | a :: b :: t => lt a b && upB lt (b :: t)
theorem upB_iff (hl : Lin lt) : ∀ {l : List κ}, upB lt l = true ↔ l.Pairwise fun a b => lt a b = true
  | [] => by simp [upB]
  | [a] => by simp [upB]
  | a :: b :: t => by
    rw [upB, Bool.and_eq_true, upB_iff hl, List.pairwise_cons (a := a)]
    constructor
    · rintro ⟨h1, h2⟩
      refine ⟨fun c hc => ?_, h2⟩
      rcases List.mem_cons.1 hc with rfl | hc
      · exact h1
      · exact hl.tr h1 ((List.pairwise_cons.1 h2).1 c hc)
    · rintro ⟨h1, h2⟩
      exact ⟨h1 b (by simp), h2⟩
/-- Names rise as far as they have been gone through. -/
theorem upB_take {l : List κ} : ∀ {k : Nat} (hk : k + 1 < l.length), upB lt (l.take (k + 2)) = (upB lt (l.take (k + 1)) && lt (l[k]'(by omega)) l[k + 1]) := by
  induction l with
  | nil => intro k hk; simp at hk
  | cons a l ih =>
    intro k hk
    cases l with
    | nil => simp at hk
    | cons b t =>
      cases k with
      | zero => simp [upB]
      | succ k =>
        have := ih (k := k) (by simpa using hk)
        simp only [List.take_succ_cons, upB, List.getElem_cons_succ] at this ⊢
        rw [this, Bool.and_assoc]
end

/-- A tree may be. -/
def mayT (t : TR) : Bool := decide (t.length ≤ 30) && ((t.all fun f => name f.1 && allMay f.2) && upB Op.bytesLess (t.map (·.1)))
theorem mayT_iff {t : TR} : mayT t = true ↔ t.length ≤ 30 ∧ (∀ f ∈ t, name f.1 = true ∧ allMay f.2 = true) ∧ Up Op.bytesLess t := by
  unfold mayT
  rw [Bool.and_eq_true, Bool.and_eq_true, upB_iff lin, ← up_keys, decide_eq_true_eq, List.all_eq_true]
  simp only [Bool.and_eq_true]
theorem mayT_up {t : TR} (h : mayT t = true) : Up Op.bytesLess t := (mayT_iff.1 h).2.2
theorem mayT_del {t : TR} (h : mayT t = true) (n : List UInt8) : mayT (del t n) = true := by
  obtain ⟨h1, h2, h3⟩ := mayT_iff.1 h
  have hs := del_sub t n
  exact mayT_iff.2 ⟨Nat.le_trans hs.length_le h1, fun f hf => h2 f (hs.subset hf), up_del h3 n⟩
section
variable {κ β : Type} [DecidableEq κ] {lt : κ → κ → Bool}
theorem upd_mem : ∀ {t : List (κ × β)} {n : κ} {l : β} {g : κ × β}, g ∈ upd t n l → g = (n, l) ∨ g ∈ t
  | [], _, _, _, h => by cases h
  | f :: t, n, l, g, h => by
    unfold upd at h
    split at h
    · rcases List.mem_cons.1 h with h | h
      · exact .inl h
      · exact .inr (List.mem_cons_of_mem _ h)
    · rcases List.mem_cons.1 h with h | h
      · exact .inr (by rw [h]; exact List.mem_cons_self ..)
      · rcases upd_mem h with h | h
        · exact .inl h
        · exact .inr (List.mem_cons_of_mem _ h)
theorem put_mem {t : List (κ × β)} {n : κ} {l : β} {g : κ × β} (h : g ∈ put lt t n l) : g = (n, l) ∨ g ∈ t := by
  unfold put at h
  split at h
  · exact upd_mem h
  · exact (ins_mem lt t n l g).1 h
end
theorem mayT_put {t : TR} (h : mayT t = true) {n : List UInt8} {l : List (List UInt8)} (hn : name n = true) (hl : allMay l = true) : mayT (put Op.bytesLess t n l) = ((get t n).isSome || decide (t.length < 30)) := by
  obtain ⟨h1, h2, h3⟩ := mayT_iff.1 h
  have hlen := put_len Op.bytesLess t n l
  have key : mayT (put Op.bytesLess t n l) = true ↔ (put Op.bytesLess t n l).length ≤ 30 := by
    rw [mayT_iff]
    refine ⟨fun h => h.1, fun h => ⟨h, fun f hf => ?_, up_put lin h3 n l⟩⟩
    rcases put_mem hf with rfl | hf
    · exact ⟨hn, hl⟩
    · exact h2 f hf
  rw [Bool.eq_iff_iff, key, hlen, Bool.or_eq_true, decide_eq_true_eq]
  cases hg : (get t n).isSome with
  | true => simp; exact h1
  | false => simp; omega

section
variable {κ : Type} {lt : κ → κ → Bool}
/-- A name ahead of the first greater one. -/
def insN (lt : κ → κ → Bool) : List κ → κ → List κ
  | [], n => [n]
  | a :: t, n => if lt n a then n :: a :: t else a :: insN lt t n
theorem insN_mem : ∀ {o : List κ} {n x : κ}, x ∈ insN lt o n ↔ x = n ∨ x ∈ o
  | [], n, x => by simp [insN]
  | a :: t, n, x => by
    unfold insN
    split
    · simp
    · rw [List.mem_cons, insN_mem, List.mem_cons]
      constructor
      · rintro (h | h | h)
        · exact .inr (.inl h)
        · exact .inl h
        · exact .inr (.inr h)
      · rintro (h | h | h)
        · exact .inr (.inl h)
        · exact .inl h
        · exact .inr (.inr h)
theorem insN_rise (hl : Lin lt) : ∀ {o : List κ} {n : κ}, (o.Pairwise fun a b => lt a b = true) → n ∉ o → (insN lt o n).Pairwise fun a b => lt a b = true
  | [], n, _, _ => by simp [insN]
  | a :: t, n, h, hn => by
    unfold insN
    rw [List.pairwise_cons] at h
    split
    · rename_i hlt
      rw [List.pairwise_cons, List.pairwise_cons]
      refine ⟨fun c hc => ?_, h⟩
      rcases List.mem_cons.1 hc with rfl | hc
      · exact hlt
      · exact hl.tr hlt (h.1 c hc)
    · rename_i hlt
      rw [List.pairwise_cons]
      refine ⟨fun c hc => ?_, insN_rise hl h.2 (fun hc => hn (List.mem_cons_of_mem _ hc))⟩
      rcases insN_mem.1 hc with rfl | hc
      · rcases hl.tri (a := c) (b := a) (fun e => hn (by rw [e]; exact List.mem_cons_self ..)) with h1 | h1
        · exact absurd h1 hlt
        · exact h1
      · exact h.1 c hc
/-- Where it goes: the first greater one's number. -/
def nat (lt : κ → κ → Bool) : List κ → κ → Nat
  | [], _ => 0
  | a :: t, n => if lt n a then 0 else nat lt t n + 1
theorem nat_le : ∀ (o : List κ) (n : κ), nat lt o n ≤ o.length
  | [], _ => Nat.le_refl _
  | a :: t, n => by
    unfold nat
    have := nat_le t n
    split <;> simp <;> omega
theorem insN_at : ∀ (o : List κ) (n : κ), insN lt o n = o.take (nat lt o n) ++ n :: o.drop (nat lt o n)
  | [], n => rfl
  | a :: t, n => by
    unfold insN nat
    split
    · rfl
    · rw [insN_at t n]; rfl
/-- Gone through from the end on. -/
theorem nat_drop {o : List κ} {n : κ} {k : Nat} (hk : k < o.length) : nat lt (o.drop k) n = if lt n o[k] then 0 else nat lt (o.drop (k + 1)) n + 1 := by
  rw [List.drop_eq_getElem_cons hk, nat]

theorem insN_len : ∀ {o : List κ} {n : κ}, (insN lt o n).length = o.length + 1
  | [], _ => rfl
  | a :: t, n => by
    unfold insN
    split
    · rfl
    · rw [List.length_cons, insN_len, List.length_cons]

variable [DecidableEq κ]
def nin (lt : κ → κ → Bool) (o : List κ) (n : κ) : List κ := if n ∈ o then o else insN lt o n
/-- Names, each once, rising. -/
def names (lt : κ → κ → Bool) (l : List κ) : List κ := l.foldl (nin lt) []
theorem nin_mem {o : List κ} {n x : κ} : x ∈ nin lt o n ↔ x ∈ o ∨ x = n := by
  unfold nin
  split
  · rename_i h
    constructor
    · exact .inl
    · rintro (h1 | rfl)
      · exact h1
      · exact h
  · rw [insN_mem]; exact or_comm
theorem nin_rise (hl : Lin lt) {o : List κ} {n : κ} (h : o.Pairwise fun a b => lt a b = true) : (nin lt o n).Pairwise fun a b => lt a b = true := by
  unfold nin
  split
  · exact h
  · rename_i hn; exact insN_rise hl h hn
theorem fold_mem : ∀ {l o : List κ} {x : κ}, x ∈ l.foldl (nin lt) o ↔ x ∈ o ∨ x ∈ l
  | [], o, x => by simp
  | a :: l, o, x => by
    rw [List.foldl_cons, fold_mem, nin_mem, List.mem_cons, or_assoc]
theorem fold_rise (hl : Lin lt) : ∀ {l o : List κ}, (o.Pairwise fun a b => lt a b = true) → (l.foldl (nin lt) o).Pairwise fun a b => lt a b = true
  | [], o, h => h
  | a :: l, o, h => by rw [List.foldl_cons]; exact fold_rise hl (nin_rise hl h)
theorem names_mem {l : List κ} {x : κ} : x ∈ names lt l ↔ x ∈ l := by unfold names; rw [fold_mem]; simp
theorem names_rise (hl : Lin lt) (l : List κ) : (names lt l).Pairwise fun a b => lt a b = true := fold_rise hl List.Pairwise.nil
/-- Just one rising list has just these names. -/
theorem names_uniq (hl : Lin lt) {l r : List κ} (hr : r.Pairwise fun a b => lt a b = true) (hm : ∀ x, x ∈ r ↔ x ∈ l) : r = names lt l :=
  rise_ext hl hr (names_rise hl l) fun x => (hm x).trans names_mem.symm
theorem names_snoc (l : List κ) (n : κ) : names lt (l ++ [n]) = nin lt (names lt l) n := by unfold names; rw [List.foldl_append]; rfl
theorem nin_len {o : List κ} {n : κ} : (nin lt o n).length ≤ o.length + 1 := by
  unfold nin
  split
  · omega
  · rw [insN_len]; exact Nat.le_refl _
theorem fold_len : ∀ {l o : List κ}, (l.foldl (nin lt) o).length ≤ o.length + l.length
  | [], o => by simp
  | a :: l, o => by
    rw [List.foldl_cons]
    have h1 := fold_len (l := l) (o := nin lt o a)
    have h2 := nin_len (lt := lt) (o := o) (n := a)
    simp only [List.length_cons]
    omega
theorem names_len (l : List κ) : (names lt l).length ≤ l.length := by
  have := fold_len (lt := lt) (l := l) (o := [])
  unfold names
  simpa using this
end

section
variable {κ β : Type} [DecidableEq κ]

/-! What is known of a tree that is gone through for a name. -/
theorem get_at : ∀ {t : List (κ × β)} {n : κ} {i : Nat} (hi : i < t.length), t[i].1 = n → (∀ j (hj : j < i), (t[j]'(by omega)).1 ≠ n) → get t n = some t[i].2
  | [], _, _, hi, _, _ => by simp at hi
  | f :: t, n, 0, _, h, _ => by rw [get_cons, if_pos (show f.1 = n from h)]; rfl
  | f :: t, n, i + 1, hi, h, hb => by
    rw [get_cons, if_neg (show ¬ f.1 = n from hb 0 (by omega))]
    exact get_at (by simpa using hi) h fun j hj => hb (j + 1) (by omega)
theorem upd_at : ∀ {t : List (κ × β)} {n : κ} {l : β} {i : Nat} (hi : i < t.length), t[i].1 = n → (∀ j (hj : j < i), (t[j]'(by omega)).1 ≠ n) → upd t n l = t.take i ++ (n, l) :: t.drop (i + 1)
  | [], _, _, _, hi, _, _ => by simp at hi
  | f :: t, n, l, 0, _, h, _ => by unfold upd; rw [if_pos (show f.1 = n from h)]; rfl
  | f :: t, n, l, i + 1, hi, h, hb => by
    unfold upd
    rw [if_neg (show ¬ f.1 = n from hb 0 (by omega)), upd_at (t := t) (n := n) (l := l) (i := i) (by simpa using hi) h fun j hj => hb (j + 1) (by omega)]
    rfl
theorem del_at : ∀ {t : List (κ × β)} {n : κ} {i : Nat} (hi : i < t.length), t[i].1 = n → (∀ j (hj : j < i), (t[j]'(by omega)).1 ≠ n) → del t n = t.take i ++ t.drop (i + 1)
  | [], _, _, hi, _, _ => by simp at hi
  | f :: t, n, 0, _, h, _ => by unfold del; rw [if_pos (show f.1 = n from h)]; rfl
  | f :: t, n, i + 1, hi, h, hb => by
    unfold del
    rw [if_neg (show ¬ f.1 = n from hb 0 (by omega)), del_at (t := t) (n := n) (i := i) (by simpa using hi) h fun j hj => hb (j + 1) (by omega)]
    rfl
theorem get_no {t : List (κ × β)} {n : κ} (hb : ∀ j (hj : j < t.length), t[j].1 ≠ n) : get t n = none := by
  rw [get_none]
  intro f hf
  obtain ⟨j, hj, rfl⟩ := List.mem_iff_getElem.1 hf
  exact hb j hj
theorem del_no : ∀ {t : List (κ × β)} {n : κ}, get t n = none → del t n = t
  | [], _, _ => rfl
  | f :: t, n, h => by
    rw [get_cons] at h
    unfold del
    split at h
    · cases h
    · rename_i hf; rw [if_neg hf, del_no h]

end

section
variable {κ β : Type}

/-! A file among files, gone through from the first one on. -/
theorem ins_none {lt : κ → κ → Bool} : ∀ {p : List (κ × β)} {n : κ} {l : β}, (∀ f ∈ p, lt n f.1 = false) → ins lt p n l = p ++ [(n, l)]
  | [], _, _, _ => rfl
  | f :: p, n, l, h => by
    unfold ins
    rw [if_neg (by rw [h f (List.mem_cons_self ..)]; simp), ins_none fun g hg => h g (List.mem_cons_of_mem _ hg)]
    rfl
theorem ins_here {lt : κ → κ → Bool} : ∀ {p : List (κ × β)} {n : κ} {l : β} {f : κ × β}, (∀ f ∈ p, lt n f.1 = false) → lt n f.1 = true → ins lt (p ++ [f]) n l = p ++ [(n, l), f]
  | [], n, l, f, _, hf => by show ins lt [f] n l = _; unfold ins; rw [if_pos hf]; rfl
  | g :: p, n, l, f, h, hf => by
    rw [List.cons_append]
    unfold ins
    rw [if_neg (by rw [h g (List.mem_cons_self ..)]; simp), ins_here (fun g hg => h g (List.mem_cons_of_mem _ hg)) hf]
    rfl
theorem ins_past {lt : κ → κ → Bool} : ∀ {p : List (κ × β)} {n : κ} {l : β} {f : κ × β}, (∃ g ∈ p, lt n g.1 = true) → ins lt (p ++ [f]) n l = ins lt p n l ++ [f]
  | [], _, _, _, h => by obtain ⟨g, hg, _⟩ := h; cases hg
  | g :: p, n, l, f, h => by
    rw [List.cons_append]
    unfold ins
    split
    · rfl
    · rename_i hg
      rw [ins_past (p := p)]
      · rfl
      · obtain ⟨x, hx, hlt⟩ := h
        rcases List.mem_cons.1 hx with rfl | hx
        · exact absurd hlt hg
        · exact ⟨x, hx, hlt⟩
end

end Tr
end Go.Proofs.Ytcmpbglbmikkoaa
