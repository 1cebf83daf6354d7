/-
  Plain functions for layer 12, the other way: what the program reads of bytes, line by line, and that it is the list whose bytes they are. No program is walked.
-/
import Derived.Test.YtjhjmfodpnipiaaGreatDoorCdPlain
set_option maxRecDepth 100000
namespace Go.Proofs.YtjhjmfodpnipiaaGreatDoor
namespace Cd
open Tx Sq Hk Tr Pr
set_option linter.unusedVariables false
set_option linter.unusedSimpArgs false

/-- The change of a line, and what stands behind its hunk's lines. -/
def oneC (s r : List UInt8) : Option (Ch × List UInt8) :=
  match words s with
  | [k, nm] => if kindB k = 0 ∨ kindB k = 1 then some (⟨kindB k, nm, [], noneH⟩, r) else none
  | [k, nm, to] => if kindB k = 2 then some (⟨2, nm, to, noneH⟩, r) else none
  | [k, nm, a, x, y] => if kindB k = 3 ∨ kindB k = 4 then
      (dig a).bind fun i => (dig x).bind fun n => (dig y).bind fun m => (some_ 45 n r).bind fun z => (some_ 43 m z.2).bind fun u => some (⟨kindB k, nm, [], ⟨i, z.1, u.1⟩⟩, u.2)
    else none
  | _ => none
theorem some_len : ∀ {c : UInt8} {n : Nat} {b r : List UInt8} {l : List (List UInt8)}, some_ c n b = some (l, r) → r.length ≤ b.length
  | c, 0, b, r, l, h => by injection h with h; injection h with _ h; rw [h]; exact Nat.le_refl _
  | c, n + 1, b, r, l, h => by
    rw [some_] at h
    cases hb : cutLine b with
    | none => rw [hb] at h; cases h
    | some z =>
      obtain ⟨s, r1⟩ := z
      rw [hb] at h
      have hl := congrArg List.length (cutLine_inv hb).1
      rw [List.length_append, List.length_cons] at hl
      cases s with
      | nil => cases h
      | cons d s =>
        simp only at h
        by_cases hd : d = c
        · rw [if_pos hd] at h
          cases hs : some_ c n r1 with
          | none => rw [hs] at h; cases h
          | some z =>
            obtain ⟨l', r'⟩ := z
            rw [hs] at h
            injection h with h
            injection h with _ h
            subst h
            have q : r'.length ≤ r1.length := some_len hs
            show r'.length ≤ b.length
            omega
        · rw [if_neg hd] at h; cases h
/-- What so many lines are: they stand there, behind their sign. -/
theorem some_inv : ∀ {c : UInt8} {n : Nat} {b r : List UInt8} {l : List (List UInt8)}, some_ c n b = some (l, r) → b = sg c l ++ r ∧ l.length = n
  | c, 0, b, r, l, h => by injection h with h; injection h with h1 h2; subst h1 h2; exact ⟨rfl, rfl⟩
  | c, n + 1, b, r, l, h => by
    rw [some_] at h
    cases hb : cutLine b with
    | none => rw [hb] at h; cases h
    | some z =>
      obtain ⟨s, r1⟩ := z
      rw [hb] at h
      cases s with
      | nil => cases h
      | cons d s =>
        simp only at h
        by_cases hd : d = c
        · rw [if_pos hd] at h
          cases hs : some_ c n r1 with
          | none => rw [hs] at h; cases h
          | some z =>
            obtain ⟨l', r'⟩ := z
            rw [hs] at h
            injection h with h
            injection h with h1 h2
            subst h1 h2
            obtain ⟨e, hl⟩ := some_inv hs
            refine ⟨?_, by rw [List.length_cons, hl]⟩
            rw [(cutLine_inv hb).1, e, hd]
            unfold sg
            rw [List.flatMap_cons]
            simp
        · rw [if_neg hd] at h; cases h
theorem oneC_len {s r r' : List UInt8} {p : Ch} (h : oneC s r = some (p, r')) : r'.length ≤ r.length := by
  unfold oneC at h
  split at h
  · split at h
    · injection h with h; injection h with _ h; rw [h]; exact Nat.le_refl _
    · cases h
  · split at h
    · injection h with h; injection h with _ h; rw [h]; exact Nat.le_refl _
    · cases h
  · split at h
    · simp only [Option.bind_eq_some_iff] at h
      obtain ⟨i, _, n, _, m, _, ⟨l, r1⟩, h1, ⟨l2, r2⟩, h2, h⟩ := h
      injection h with h
      injection h with _ h
      subst h
      have q1 := some_len h1
      have q2 := some_len h2
      simp only at q1 q2 ⊢
      omega
    · cases h
  · cases h
/-- All changes of bytes, so many ahead of them. -/
def listC (k : Nat) (b : List UInt8) : Option (List Ch) :=
  if b = [] then some [] else
  match h : cutLine b with
  | none => none
  | some (s, r) => match h' : oneC s r with
    | none => none
    | some (p, r') => if mayP p = true ∧ k < 200 then (listC (k + 1) r').map (p :: ·) else none
termination_by b.length
decreasing_by
  have h1 := congrArg List.length (cutLine_inv h).1
  rw [List.length_append, List.length_cons] at h1
  have h2 := oneC_len h'
  omega
theorem listC_nil (k : Nat) : listC k [] = some [] := by rw [listC, if_pos rfl]
theorem listC_none {k : Nat} {b : List UInt8} (hb : b ≠ []) (h : cutLine b = none) : listC k b = none := by
  rw [listC, if_neg hb]
  split
  · rfl
  · rename_i h1; rw [h] at h1; cases h1
theorem listC_no {k : Nat} {b s r : List UInt8} (hb : b ≠ []) (h : cutLine b = some (s, r)) (h' : oneC s r = none) : listC k b = none := by
  rw [listC, if_neg hb]
  split
  · rfl
  · rename_i s' r' h1
    rw [h] at h1
    injection h1 with h1
    injection h1 with h1 h2
    subst h1 h2
    split
    · rfl
    · rename_i h1; rw [h'] at h1; cases h1
theorem listC_cons {k : Nat} {b s r r' : List UInt8} {p : Ch} (hb : b ≠ []) (h : cutLine b = some (s, r)) (h' : oneC s r = some (p, r')) :
    listC k b = if mayP p = true ∧ k < 200 then (listC (k + 1) r').map (p :: ·) else none := by
  rw [listC, if_neg hb]
  split
  · rename_i h1; rw [h] at h1; cases h1
  · rename_i s' r1 h1
    rw [h] at h1
    injection h1 with h1
    injection h1 with h1 h2
    subst h1 h2
    split
    · rename_i h1; rw [h'] at h1; cases h1
    · rename_i p1 r1 h1
      rw [h'] at h1
      injection h1 with h1
      injection h1 with h1 h2
      subst h1 h2
      rfl
/-- What the program gets. -/
def getC (b : List UInt8) : Option (List Ch) := if b.length ≤ 200000 then listC 0 b else none

theorem words_length : ∀ (s : List UInt8), (words s).length ≤ s.length + 1
  | [] => by simp [words]
  | c :: s => by
    have ih := words_length s
    rw [words]
    by_cases hc : c = 32
    · rw [if_pos hc, List.length_cons, List.length_cons]; omega
    · rw [if_neg hc]
      cases hw : words s with
      | nil => simp
      | cons w ws => rw [hw] at ih; simp only [List.length_cons] at ih ⊢; omega
/-! What stands between blanks, with blanks between, is all. -/
def unwords : List (List UInt8) → List UInt8
  | [] => []
  | [w] => w
  | w :: v :: ws => w ++ 32 :: unwords (v :: ws)
theorem unwords_cons (c : UInt8) (w : List UInt8) (ws : List (List UInt8)) : unwords ((c :: w) :: ws) = c :: unwords (w :: ws) := by
  cases ws <;> rfl
theorem unwords_words : ∀ (s : List UInt8), unwords (words s) = s
  | [] => rfl
  | c :: s => by
    rw [words]
    have ih := unwords_words s
    by_cases hc : c = 32
    · rw [if_pos hc]
      cases hw : words s with
      | nil => exact absurd hw (words_ne s)
      | cons w ws =>
        rw [hw] at ih
        show [] ++ 32 :: unwords (w :: ws) = c :: s
        rw [ih, hc]; rfl
    · rw [if_neg hc]
      cases hw : words s with
      | nil => exact absurd hw (words_ne s)
      | cons w ws =>
        rw [hw] at ih
        simp only
        rw [unwords_cons, ih]
theorem kindB_sign {s : List UInt8} {k : Int} (h : kindB s = k) (hk : 0 ≤ k) : s = [sign k] := by
  unfold kindB at h
  split at h
  · subst h; assumption
  split at h
  · subst h; assumption
  split at h
  · subst h; assumption
  split at h
  · subst h; assumption
  split at h
  · subst h; assumption
  · omega
/-- A change that is read, and may be: its bytes are what was read. -/
theorem oneC_inv {s r r' : List UInt8} {p : Ch} (h : oneC s r = some (p, r')) (hm : mayP p = true) : s ++ 10 :: r = bytesP p ++ r' := by
  have hs := unwords_words s
  unfold oneC at h
  split at h
  · rename_i k nm hw
    split at h
    · rename_i hk
      injection h with h
      injection h with h1 h2
      subst h1 h2
      rw [hw] at hs
      have ek := kindB_sign (s := k) rfl (by omega)
      rw [← hs]
      unfold bytesP headP tailP
      simp only [noneH, sg, List.flatMap_nil, List.append_nil, List.nil_append]
      rw [if_neg (by omega), if_neg (by omega), ek]
      simp [unwords, kind_sign (k := kindB k) (by omega)]
    · cases h
  · rename_i k nm to hw
    split at h
    · rename_i hk
      injection h with h
      injection h with h1 h2
      subst h1 h2
      rw [hw] at hs
      have ek := kindB_sign hk (by omega)
      rw [← hs, ek]
      unfold bytesP headP tailP
      simp only [noneH, sg, List.flatMap_nil, List.append_nil, List.nil_append]
      simp [unwords]
    · cases h
  · rename_i k nm a x y hw
    split at h
    · rename_i hk
      simp only [Option.bind_eq_some_iff] at h
      obtain ⟨i, hi, n, hn, m, hm', ⟨l, r1⟩, h1, ⟨l2, r2⟩, h2, h⟩ := h
      injection h with h
      injection h with e1 e2
      subst e1 e2
      rw [hw] at hs
      have ek := kindB_sign (s := k) rfl (by omega)
      obtain ⟨q1, q2⟩ := some_inv h1
      obtain ⟨q3, q4⟩ := some_inv h2
      simp only at q1 q2 q3 q4
      have ei := numI_dig hi
      have en := numI_dig hn
      have em := numI_dig hm'
      rw [← q2] at en
      rw [← q4] at em
      rw [← hs, q1, q3]
      unfold bytesP headP tailP
      simp only
      rw [if_neg (by omega), if_pos (by omega), ei, en, em]
      simp only [unwords]
      have e5 : k = sign (kindB k) :: [] := ek
      generalize sign (kindB k) = c at e5 ⊢
      subst e5
      simp
    · cases h
  · cases h
theorem listC_inv : ∀ (n : Nat) {k : Nat} {b : List UInt8} {l : List Ch}, b.length ≤ n → k ≤ 200 → listC k b = some l → l.all mayP = true ∧ bytesL l = b ∧ k + l.length ≤ 200
  | n, k, [], l, _, hk, h => by
    rw [listC_nil] at h
    injection h with h
    subst h
    exact ⟨rfl, rfl, hk⟩
  | 0, k, c :: b, l, hn, hk, h => by simp at hn
  | n + 1, k, c :: b, l, hn, hk, h => by
    have hb : c :: b ≠ [] := by simp
    generalize c :: b = b at hb hn h
    cases hc : cutLine b with
    | none => rw [listC_none hb hc] at h; cases h
    | some z =>
      obtain ⟨s, r⟩ := z
      cases ho : oneC s r with
      | none => rw [listC_no hb hc ho] at h; cases h
      | some z =>
        obtain ⟨p, r'⟩ := z
        rw [listC_cons hb hc ho] at h
        split at h
        · rename_i hm
          cases hl : listC (k + 1) r' with
          | none => rw [hl] at h; cases h
          | some u =>
            rw [hl] at h
            injection h with h
            subst h
            have q := oneC_len ho
            have q1 := (cutLine_inv hc).1
            have q2 := congrArg List.length q1
            rw [List.length_append, List.length_cons] at q2
            obtain ⟨i1, i2, i3⟩ := listC_inv n (by omega) (by omega) hl
            refine ⟨by rw [List.all_cons, hm.1, i1]; rfl, ?_, by rw [List.length_cons]; omega⟩
            rw [bytesL_cons, i2, q1, oneC_inv ho hm.1]
        · cases h
/-- What is put is read. -/
theorem oneC_bytes {p : Ch} (h : mayP p = true) (r : List UInt8) : cutLine (bytesP p ++ r) = some (headP p, sg 45 p.h.old ++ (sg 43 p.h.new ++ r)) ∧ oneC (headP p) (sg 45 p.h.old ++ (sg 43 p.h.new ++ r)) = some (p, r) := by
  have e0 : bytesP p ++ r = headP p ++ 10 :: (sg 45 p.h.old ++ (sg 43 p.h.new ++ r)) := by unfold bytesP; simp
  refine ⟨by rw [e0, cutLine_some _ (headP_ok h)], ?_⟩
  obtain ⟨hn, hc⟩ := mayP_cases.1 h
  obtain ⟨n1, n2⟩ := name_ok hn
  have hs32 : 32 ∉ [sign p.k] := fun e => sign_ok.2 (List.mem_singleton.1 e).symm
  have ew : words (headP p) = [sign p.k] :: words (p.nm ++ tailP p) := by
    show words ([sign p.k] ++ 32 :: (p.nm ++ tailP p)) = _
    rw [words_app _ hs32]
  unfold oneC
  rcases hc with ⟨hk, hto, hh⟩ | ⟨hk, hto, hne, hh⟩ | hc
  · have ht : tailP p = [] := by unfold tailP; rw [if_neg (by omega), if_neg (by omega)]
    simp only [ew, ht, List.append_nil, words_one n2]
    rw [kind_sign (by omega), if_pos hk]
    rw [hh]
    refine congrArg some (Prod.ext (ch_ext rfl rfl hto.symm hh.symm) ?_)
    rfl
  · have ht : tailP p = 32 :: p.to := by unfold tailP; rw [if_pos hk]
    obtain ⟨t1, t2⟩ := name_ok hto
    simp only [ew, ht, words_app _ n2, words_one t2]
    rw [kind_sign (by omega), if_pos hk, hh]
    refine congrArg some (Prod.ext (ch_ext hk.symm rfl rfl hh.symm) ?_)
    rfl
  · obtain ⟨hk, hto, hm⟩ : (p.k = 3 ∨ p.k = 4) ∧ p.to = [] ∧ mayH p.h = true := by
      rcases hc with ⟨h1, h2, h3⟩ | ⟨h1, h2, h3, _⟩
      · exact ⟨.inl h1, h2, h3⟩
      · exact ⟨.inr h1, h2, h3⟩
    unfold mayH at hm
    simp only [Bool.and_eq_true, decide_eq_true_eq] at hm
    obtain ⟨⟨p0, p1⟩, ho, hw⟩ := hm
    obtain ⟨o1, o2⟩ := allMay_ok ho
    obtain ⟨w1, w2⟩ := allMay_ok hw
    obtain ⟨i, hi⟩ : ∃ i : Nat, p.h.pos = i := ⟨p.h.pos.toNat, by omega⟩
    have e1 : numI p.h.pos = num i := by rw [hi]; exact numI_nat (by omega)
    have e2 : numI (p.h.old.length : Int) = num p.h.old.length := numI_nat (by omega)
    have e3 : numI (p.h.new.length : Int) = num p.h.new.length := numI_nat (by omega)
    have ht : tailP p = 32 :: (num i ++ 32 :: (num p.h.old.length ++ 32 :: num p.h.new.length)) := by
      unfold tailP; rw [if_neg (by omega), if_pos (by omega), e1, e2, e3]
    simp only [ew, ht, words_app _ n2, words_app _ (num_ok i).2, words_app _ (num_ok p.h.old.length).2, words_one (num_ok p.h.new.length).2]
    rw [kind_sign (by omega), if_pos hk]
    simp only [dig_num (show i ≤ 1048576 by omega), dig_num (show p.h.old.length ≤ 1048576 by omega), dig_num (show p.h.new.length ≤ 1048576 by omega), Option.bind_some]
    rw [some_sg (by decide) _ o2]
    simp only [Option.bind_some]
    rw [some_sg (by decide) _ w2]
    simp only [Option.bind_some]
    refine congrArg some (Prod.ext (ch_ext rfl rfl hto.symm ?_) rfl)
    have key : ∀ g : HU, g.pos = (i : Int) → (⟨(i : Int), g.old, g.new⟩ : HU) = g := fun g hg => by cases g; simp only at hg; subst hg; rfl
    exact key p.h hi
theorem listC_bytes : ∀ {l : List Ch} {k : Nat}, l.all mayP = true → k + l.length ≤ 200 → listC k (bytesL l) = some l
  | [], k, _, _ => listC_nil k
  | p :: l, k, h, hk => by
    rw [List.all_cons, Bool.and_eq_true] at h
    rw [List.length_cons] at hk
    have hne : bytesL (p :: l) ≠ [] := by rw [bytesL_cons]; simp [bytesP_ne]
    obtain ⟨h1, h2⟩ := oneC_bytes h.1 (bytesL l)
    rw [listC_cons hne (by rw [bytesL_cons]; exact h1) h2, if_pos ⟨h.1, by omega⟩, listC_bytes h.2 (by omega)]
    rfl
/-- What the program gets is the list whose bytes these are. -/
theorem getC_eq (b : List UInt8) : getC b = getP b := by
  have key : ∀ l, getC b = some l ↔ getP b = some l := fun l => by
    rw [getP_iff, putP_ok]
    unfold getC
    constructor
    · intro h
      split at h
      · rename_i hb
        obtain ⟨h1, h2, h3⟩ := listC_inv b.length (Nat.le_refl _) (by omega) h
        exact ⟨by omega, h1, hb, h2⟩
      · cases h
    · rintro ⟨h1, h2, h3, rfl⟩
      rw [if_pos h3]
      exact listC_bytes h2 (by omega)
  cases hg : getP b with
  | some l => exact (key l).2 hg
  | none =>
    cases hc : getC b with
    | none => rfl
    | some l => rw [(key l).1 hc] at hg; cases hg

end Cd
end Go.Proofs.YtjhjmfodpnipiaaGreatDoor
