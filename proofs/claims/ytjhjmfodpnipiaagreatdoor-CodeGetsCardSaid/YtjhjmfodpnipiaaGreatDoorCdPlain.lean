/-
  Plain functions for layer 12 (changes in bytes), and their laws: numbers in digits, lines behind signs, what is put, and what is read of it. No program is walked.
-/
import Derived.Test.YtjhjmfodpnipiaaGreatDoorGR
set_option maxRecDepth 100000
namespace Go.Proofs.YtjhjmfodpnipiaaGreatDoor
namespace Cd
open Tx Sq Hk Tr Pr
set_option linter.unusedVariables false

/-! Numbers. -/
/-- A number's digits to the base ten. -/
def num (n : Nat) : List UInt8 := if h : n < 10 then [UInt8.ofNat (48 + n)] else num (n / 10) ++ [UInt8.ofNat (48 + n % 10)]
termination_by n
decreasing_by omega
theorem num_lt {n : Nat} (h : n < 10) : num n = [UInt8.ofNat (48 + n)] := by rw [num, dif_pos h]
theorem num_ge {n : Nat} (h : ¬ n < 10) : num n = num (n / 10) ++ [UInt8.ofNat (48 + n % 10)] := by rw [num, dif_neg h]
theorem dig_nat {d : Nat} (h : d < 10) : (UInt8.ofNat (48 + d)).toNat = 48 + d := by
  rw [UInt8.toNat_ofNat']; omega
theorem num_ind {P : Nat → Prop} (h0 : ∀ n, n < 10 → P n) (h1 : ∀ n, ¬ n < 10 → P (n / 10) → P n) (n : Nat) : P n := by
  induction n using Nat.strongRecOn with
  | ind n ih =>
    by_cases h : n < 10
    · exact h0 n h
    · exact h1 n h (ih _ (by omega))
theorem num_ne (n : Nat) : num n ≠ [] := by
  by_cases h : n < 10
  · rw [num_lt h]; simp
  · rw [num_ge h]; simp
theorem num_digit (n : Nat) : ∀ c ∈ num n, 48 ≤ c.toNat ∧ c.toNat ≤ 57 := by
  refine num_ind (P := fun n => ∀ c ∈ num n, 48 ≤ c.toNat ∧ c.toNat ≤ 57) (fun n h c hc => ?_) (fun n h ih c hc => ?_) n
  · rw [num_lt h] at hc
    rw [List.mem_singleton.1 hc, dig_nat h]
    omega
  · rw [num_ge h] at hc
    rcases List.mem_append.1 hc with hc | hc
    · exact ih c hc
    · rw [List.mem_singleton.1 hc, dig_nat (Nat.mod_lt _ (by decide))]
      have := Nat.mod_lt n (show 0 < 10 by decide)
      omega
theorem num_len : ∀ (k : Nat) (n : Nat), n < 10 ^ (k + 1) → (num n).length ≤ k + 1
  | 0, n, h => by rw [num_lt (by omega)]; simp
  | k + 1, n, h => by
    by_cases h0 : n < 10
    · rw [num_lt h0]; simp
    · rw [num_ge h0, List.length_append]
      have := num_len k (n / 10) (by rw [Nat.pow_succ] at h; omega)
      simp; omega
/-- The number that digits tell. -/
def val (l : List UInt8) : Nat := l.foldl (fun a c => 10 * a + (c.toNat - 48)) 0
theorem val_snoc (l : List UInt8) (c : UInt8) : val (l ++ [c]) = 10 * val l + (c.toNat - 48) := by unfold val; rw [List.foldl_append]; rfl
theorem val_num (n : Nat) : val (num n) = n := by
  refine num_ind (P := fun n => val (num n) = n) (fun n h => ?_) (fun n h ih => ?_) n
  · rw [num_lt h]
    show 10 * 0 + ((UInt8.ofNat (48 + n)).toNat - 48) = n
    rw [dig_nat h]; omega
  · rw [num_ge h, val_snoc, ih, dig_nat (Nat.mod_lt _ (by decide))]
    omega
theorem num_inj {m n : Nat} (h : num m = num n) : m = n := by rw [← val_num m, h, val_num]
/-- Number, of any integer. -/
def numI (n : Int) : List UInt8 := if 0 ≤ n ∧ n ≤ 1048576 then num n.toNat else []
theorem numI_nat {n : Nat} (h : n ≤ 1048576) : numI (n : Int) = num n := by unfold numI; rw [if_pos (by omega)]; rfl
theorem numI_no {n : Int} (h : ¬ (0 ≤ n ∧ n ≤ 1048576)) : numI n = [] := if_neg h
/-- The number, up to 2^20, whose digits these are. -/
def dig (s : List UInt8) : Option Nat := if num (val s) = s ∧ val s ≤ 1048576 then some (val s) else none
theorem dig_iff {s : List UInt8} {n : Nat} : dig s = some n ↔ n ≤ 1048576 ∧ num n = s := by
  unfold dig
  constructor
  · intro h
    by_cases hc : num (val s) = s ∧ val s ≤ 1048576
    · rw [if_pos hc] at h
      injection h with h
      subst h
      exact ⟨hc.2, hc.1⟩
    · rw [if_neg hc] at h; cases h
  · rintro ⟨h1, rfl⟩
    rw [val_num, if_pos ⟨rfl, h1⟩]
theorem dig_num {n : Nat} (h : n ≤ 1048576) : dig (num n) = some n := dig_iff.2 ⟨h, rfl⟩
theorem dig_numI (s : List UInt8) : (dig s).isSome = true ↔ s ≠ [] ∧ numI (val s) = s := by
  unfold dig
  by_cases hc : num (val s) = s ∧ val s ≤ 1048576
  · rw [if_pos hc, numI_nat hc.2]
    exact ⟨fun _ => ⟨by rw [← hc.1]; exact num_ne _, hc.1⟩, fun _ => rfl⟩
  · rw [if_neg hc]
    refine ⟨fun h => (by cases h), fun ⟨h1, h2⟩ => ?_⟩
    by_cases hv : val s ≤ 1048576
    · rw [numI_nat hv] at h2
      exact absurd ⟨h2, hv⟩ hc
    · rw [numI_no (by omega)] at h2
      exact absurd h2.symm h1
theorem num_len7 {n : Nat} (h : n ≤ 1048576) : (num n).length ≤ 7 := num_len 6 n (by omega)

/-! What is put. -/
/-- Lines, each behind a sign, each with a 10 behind it. -/
def sg (c : UInt8) (ls : List (List UInt8)) : List UInt8 := ls.flatMap fun l => c :: l ++ [10]
def sign (k : Int) : UInt8 := if k = 0 then 43 else if k = 1 then 45 else if k = 2 then 62 else if k = 3 then 64 else 61
def tailP (p : Ch) : List UInt8 := if p.k = 2 then 32 :: p.to else if 3 ≤ p.k then 32 :: (numI p.h.pos ++ 32 :: (numI p.h.old.length ++ 32 :: numI p.h.new.length)) else []
def headP (p : Ch) : List UInt8 := sign p.k :: 32 :: (p.nm ++ tailP p)
def bytesP (p : Ch) : List UInt8 := headP p ++ 10 :: (sg 45 p.h.old ++ sg 43 p.h.new)
def bytesL (l : List Ch) : List UInt8 := l.flatMap bytesP
theorem bytesL_cons (p : Ch) (l : List Ch) : bytesL (p :: l) = bytesP p ++ bytesL l := List.flatMap_cons
theorem bytesL_app (l u : List Ch) : bytesL (l ++ u) = bytesL l ++ bytesL u := List.flatMap_append
/-- Put: the error, and the bytes. -/
def putP (l : List Ch) : Int × List UInt8 := if 200 < l.length then (8, []) else if l.all mayP then (if 200000 < (bytesL l).length then (8, []) else (0, bytesL l)) else (1, [])
theorem putP_ok {l : List Ch} {b : List UInt8} : putP l = (0, b) ↔ l.length ≤ 200 ∧ l.all mayP = true ∧ b.length ≤ 200000 ∧ bytesL l = b := by
  unfold putP
  by_cases h0 : 200 < l.length
  · rw [if_pos h0]
    exact ⟨fun h => (by injection h with h; cases h), fun h => by omega⟩
  · rw [if_neg h0]
    cases ha : l.all mayP with
    | false => exact ⟨fun h => (by injection h with h; cases h), fun h => (by cases h.2.1)⟩
    | true =>
      rw [if_pos rfl]
      by_cases h1 : 200000 < (bytesL l).length
      · rw [if_pos h1]
        refine ⟨fun h => (by injection h with h; cases h), fun h => ?_⟩
        rw [h.2.2.2] at h1
        omega
      · rw [if_neg h1]
        refine ⟨fun h => ?_, fun h => by rw [h.2.2.2]⟩
        injection h with _ h
        subst h
        exact ⟨by omega, rfl, by omega, rfl⟩
theorem putP_no {l : List Ch} (h : (putP l).1 ≠ 0) : (putP l).2 = [] := by
  unfold putP at h ⊢
  by_cases h0 : 200 < l.length
  · rw [if_pos h0]
  · rw [if_neg h0] at h ⊢
    cases ha : l.all mayP with
    | false => rfl
    | true =>
      rw [ha, if_pos rfl] at h
      rw [if_pos rfl]
      by_cases h1 : 200000 < (bytesL l).length
      · rw [if_pos h1]
      · rw [if_neg h1] at h; exact absurd rfl h

/-! What is read. -/
/-- The line that bytes begin with, and those behind it. -/
def cutLine : List UInt8 → Option (List UInt8 × List UInt8)
  | [] => none
  | c :: b => if c = 10 then some ([], b) else (cutLine b).map fun z => (c :: z.1, z.2)
theorem cutLine_some : ∀ {s : List UInt8} (r : List UInt8), 10 ∉ s → cutLine (s ++ 10 :: r) = some (s, r)
  | [], r, _ => by rw [List.nil_append, cutLine, if_pos rfl]
  | c :: s, r, h => by
    have hc : ¬ c = 10 := fun e => h (by rw [e]; exact .head _)
    rw [List.cons_append, cutLine, if_neg hc, cutLine_some r (fun e => h (.tail _ e))]
    rfl
theorem cutLine_inv : ∀ {b s r : List UInt8}, cutLine b = some (s, r) → b = s ++ 10 :: r ∧ 10 ∉ s
  | [], s, r, h => by cases h
  | c :: b, s, r, h => by
    rw [cutLine] at h
    by_cases hc : c = 10
    · rw [if_pos hc] at h
      injection h with h
      injection h with h1 h2
      subst h1 h2 hc
      exact ⟨rfl, by simp⟩
    · rw [if_neg hc] at h
      cases hb : cutLine b with
      | none => rw [hb] at h; cases h
      | some z =>
        obtain ⟨s', r'⟩ := z
        rw [hb] at h
        injection h with h
        injection h with h1 h2
        subst h1 h2
        obtain ⟨h1, h2⟩ := cutLine_inv hb
        subst h1
        refine ⟨rfl, fun hm => ?_⟩
        rcases List.mem_cons.1 hm with e | hm
        · exact hc e.symm
        · exact h2 hm
theorem cutLine_none : ∀ {b : List UInt8}, cutLine b = none ↔ 10 ∉ b
  | [] => by simp [cutLine]
  | c :: b => by
    rw [cutLine]
    by_cases hc : c = 10
    · rw [if_pos hc]; simp [hc]
    · rw [if_neg hc, Option.map_eq_none_iff, cutLine_none]
      simp only [List.mem_cons, not_or]
      exact ⟨fun h => ⟨fun e => hc e.symm, h⟩, fun h => h.2⟩
/-- What stands between blanks. -/
def words : List UInt8 → List (List UInt8)
  | [] => [[]]
  | c :: s => if c = 32 then [] :: words s else match words s with
    | [] => [[c]]
    | w :: ws => (c :: w) :: ws
theorem words_ne : ∀ (s : List UInt8), words s ≠ []
  | [] => by simp [words]
  | c :: s => by
    rw [words]
    by_cases hc : c = 32
    · rw [if_pos hc]; simp
    · rw [if_neg hc]; split <;> simp
theorem words_app : ∀ {a : List UInt8} (r : List UInt8), 32 ∉ a → words (a ++ 32 :: r) = a :: words r
  | [], r, _ => by rw [List.nil_append, words, if_pos rfl]
  | c :: a, r, h => by
    have hc : ¬ c = 32 := fun e => h (by rw [e]; exact .head _)
    rw [List.cons_append, words, if_neg hc, words_app r (fun e => h (.tail _ e))]
theorem words_one : ∀ {a : List UInt8}, 32 ∉ a → words a = [a]
  | [], _ => rfl
  | c :: a, h => by
    have hc : ¬ c = 32 := fun e => h (by rw [e]; exact .head _)
    rw [words, if_neg hc, words_one (fun e => h (.tail _ e))]
/-- So many lines behind a sign, and what stands behind them. -/
def some_ (c : UInt8) : Nat → List UInt8 → Option (List (List UInt8) × List UInt8)
  | 0, b => some ([], b)
  | n + 1, b => match cutLine b with
    | some (d :: s, r) => if d = c then (some_ c n r).map fun z => (s :: z.1, z.2) else none
    | _ => none
theorem some_sg {c : UInt8} (hc : c ≠ 10) : ∀ {ls : List (List UInt8)} (r : List UInt8), (∀ l ∈ ls, 10 ∉ l) → some_ c ls.length (sg c ls ++ r) = some (ls, r)
  | [], r, _ => rfl
  | l :: ls, r, h => by
    have h1 : 10 ∉ c :: l := fun e => by
      rcases List.mem_cons.1 e with e | e
      · exact hc e.symm
      · exact h l (.head _) e
    have e : sg c (l :: ls) ++ r = (c :: l) ++ 10 :: (sg c ls ++ r) := by
      unfold sg
      rw [List.flatMap_cons]
      simp
    rw [e, List.length_cons, some_, cutLine_some _ h1]
    simp only [if_true]
    rw [some_sg hc r (fun l hl => h l (.tail _ hl))]
    rfl
/-- The kind of a sign. -/
def kindB (s : List UInt8) : Int := if s = [43] then 0 else if s = [45] then 1 else if s = [62] then 2 else if s = [64] then 3 else if s = [61] then 4 else -1
/-- The change that bytes begin with, and what stands behind it. -/
def oneB (b : List UInt8) : Option (Ch × List UInt8) :=
  match cutLine b with
  | none => none
  | some (s, r) => match words s with
    | k :: nm :: ws =>
      if kindB k = 2 ∧ ws.length = 1 then some (⟨2, nm, ws.headD [], noneH⟩, r)
      else if 3 ≤ kindB k ∧ ws.length = 3 then
        match ws.map dig with
        | [some i, some x, some y] => if 200 < x ∨ 200 < y then none else
          match some_ 45 x r with
          | some (l, r1) => match some_ 43 y r1 with
            | some (m, r2) => some (⟨kindB k, nm, [], ⟨i, l, m⟩⟩, r2)
            | none => none
          | none => none
        | _ => none
      else some (⟨kindB k, nm, [], noneH⟩, r)
    | _ => none

theorem inName_ok {c : UInt8} (h : inName c = true) : c ≠ 10 ∧ c ≠ 32 := by
  unfold inName at h
  simp only [Bool.or_eq_true, Bool.and_eq_true, decide_eq_true_eq] at h
  constructor
  · rintro rfl
    have e : (10 : UInt8).toNat = 10 := rfl
    omega
  · rintro rfl
    have e : (32 : UInt8).toNat = 32 := rfl
    omega
theorem name_ok {s : List UInt8} (h : name s = true) : 10 ∉ s ∧ 32 ∉ s := by
  unfold name at h
  simp only [Bool.and_eq_true, List.all_eq_true] at h
  exact ⟨fun hm => (inName_ok (h.2 10 hm)).1 rfl, fun hm => (inName_ok (h.2 32 hm)).2 rfl⟩
theorem num_ok (n : Nat) : 10 ∉ num n ∧ 32 ∉ num n := by
  constructor
  · intro hm
    have := num_digit n 10 hm
    have e : (10 : UInt8).toNat = 10 := rfl
    omega
  · intro hm
    have := num_digit n 32 hm
    have e : (32 : UInt8).toNat = 32 := rfl
    omega
theorem allMay_ok {ls : List (List UInt8)} (h : allMay ls = true) : ls.length ≤ 200 ∧ ∀ l ∈ ls, 10 ∉ l := by
  unfold allMay may at h
  simp only [Bool.and_eq_true, decide_eq_true_eq, List.all_eq_true, Bool.not_eq_true'] at h
  refine ⟨h.1, fun l hl hm => ?_⟩
  have := (h.2 l hl).2
  rw [List.contains_eq_mem, decide_eq_false_iff_not] at this
  exact this hm
theorem kind_sign {k : Int} (h : 0 ≤ k ∧ k ≤ 4) : kindB [sign k] = k := by
  obtain ⟨n, rfl⟩ : ∃ n : Nat, k = n := ⟨k.toNat, by omega⟩
  have hn : n ≤ 4 := by omega
  match n, hn with
  | 0, _ => rfl
  | 1, _ => rfl
  | 2, _ => rfl
  | 3, _ => rfl
  | 4, _ => rfl
theorem sign_ok {k : Int} : sign k ≠ 10 ∧ sign k ≠ 32 := by
  unfold sign
  split <;> try decide
  split <;> try decide
  split <;> try decide
  split <;> decide
/-- What is put of a change is read as it. -/
theorem oneB_bytes {p : Ch} (h : mayP p = true) (r : List UInt8) : oneB (bytesP p ++ r) = some (p, r) := by
  obtain ⟨hn, hc⟩ := mayP_cases.1 h
  obtain ⟨n1, n2⟩ := name_ok hn
  have hs32 : 32 ∉ [sign p.k] := fun e => sign_ok.2 (List.mem_singleton.1 e).symm
  have e0 : bytesP p ++ r = headP p ++ 10 :: (sg 45 p.h.old ++ (sg 43 p.h.new ++ r)) := by unfold bytesP; simp
  have ew : words (headP p) = [sign p.k] :: words (p.nm ++ tailP p) := by
    show words ([sign p.k] ++ 32 :: (p.nm ++ tailP p)) = _
    rw [words_app _ hs32]
  have hhead : 10 ∉ tailP p → 10 ∉ headP p := fun ht hm => by
    rcases List.mem_cons.1 hm with e | hm
    · exact sign_ok.1 e.symm
    rcases List.mem_cons.1 hm with e | hm
    · exact absurd e (by decide)
    rcases List.mem_append.1 hm with e | e
    · exact n1 e
    · exact ht e
  rw [e0]
  unfold oneB
  rcases hc with ⟨hk, hto, hh⟩ | ⟨hk, hto, hne, hh⟩ | hc
  · have ht : tailP p = [] := by unfold tailP; rw [if_neg (by omega), if_neg (by omega)]
    rw [cutLine_some _ (hhead (by rw [ht]; simp)), ]
    simp only [ew, ht, List.append_nil, words_one n2, List.length_nil]
    rw [kind_sign (by omega), if_neg (by omega), if_neg (by omega)]
    rw [hh]
    refine congrArg some (Prod.ext (ch_ext rfl rfl hto.symm hh.symm) ?_)
    rfl
  · have ht : tailP p = 32 :: p.to := by unfold tailP; rw [if_pos hk]
    obtain ⟨t1, t2⟩ := name_ok hto
    rw [cutLine_some _ (hhead (by rw [ht]; intro hm; rcases List.mem_cons.1 hm with e | e; exact absurd e (by decide); exact t1 e))]
    simp only [ew, ht, words_app _ n2, words_one t2, List.length_cons, List.length_nil]
    rw [kind_sign (by omega), if_pos ⟨hk, trivial⟩, hh]
    refine congrArg some (Prod.ext (ch_ext hk.symm rfl rfl hh.symm) ?_)
    rfl
  · obtain ⟨hk, hto, hm⟩ : (p.k = 3 ∨ p.k = 4) ∧ p.to = [] ∧ mayH p.h = true := by
      rcases hc with ⟨h1, h2, h3⟩ | ⟨h1, h2, h3, _⟩
      · exact ⟨.inl h1, h2, h3⟩
      · exact ⟨.inr h1, h2, h3⟩
    unfold mayH at hm
    simp only [Bool.and_eq_true, decide_eq_true_eq] at hm
    obtain ⟨⟨p0, p1⟩, ho, hw⟩ := hm
    obtain ⟨o1, o2⟩ := allMay_ok ho
    obtain ⟨w1, w2⟩ := allMay_ok hw
    obtain ⟨i, hi⟩ : ∃ i : Nat, p.h.pos = i := ⟨p.h.pos.toNat, by omega⟩
    have e1 : numI p.h.pos = num i := by rw [hi]; exact numI_nat (by omega)
    have e2 : numI (p.h.old.length : Int) = num p.h.old.length := numI_nat (by omega)
    have e3 : numI (p.h.new.length : Int) = num p.h.new.length := numI_nat (by omega)
    have ht : tailP p = 32 :: (num i ++ 32 :: (num p.h.old.length ++ 32 :: num p.h.new.length)) := by
      unfold tailP; rw [if_neg (by omega), if_pos (by omega), e1, e2, e3]
    have h10 : 10 ∉ tailP p := by
      rw [ht]
      intro hm
      rcases List.mem_cons.1 hm with e | hm
      · exact absurd e (by decide)
      rcases List.mem_append.1 hm with e | hm
      · exact (num_ok i).1 e
      rcases List.mem_cons.1 hm with e | hm
      · exact absurd e (by decide)
      rcases List.mem_append.1 hm with e | hm
      · exact (num_ok _).1 e
      rcases List.mem_cons.1 hm with e | hm
      · exact absurd e (by decide)
      · exact (num_ok _).1 hm
    rw [cutLine_some _ (hhead h10)]
    simp only [ew, ht, words_app _ n2, words_app _ (num_ok i).2, words_app _ (num_ok p.h.old.length).2, words_one (num_ok p.h.new.length).2, List.length_cons, List.length_nil]
    rw [kind_sign (by omega), if_neg (by omega), if_pos ⟨by omega, trivial⟩]
    simp only [List.map_cons, List.map_nil, dig_num (show i ≤ 1048576 by omega), dig_num (show p.h.old.length ≤ 1048576 by omega), dig_num (show p.h.new.length ≤ 1048576 by omega)]
    rw [if_neg (by omega), some_sg (by decide) _ o2]
    simp only
    rw [some_sg (by decide) _ w2]
    refine congrArg some (Prod.ext (ch_ext rfl rfl hto.symm ?_) rfl)
    have key : ∀ g : HU, g.pos = (i : Int) → (⟨(i : Int), g.old, g.new⟩ : HU) = g := fun g hg => by cases g; simp only at hg; subst hg; rfl
    exact key p.h hi
theorem oneB_short {b r : List UInt8} {p : Ch} (h : oneB b = some (p, r)) : r.length < b.length := by
  have some_len : ∀ (c : UInt8) (n : Nat) (b r : List UInt8) (l : List (List UInt8)), some_ c n b = some (l, r) → r.length ≤ b.length := by
    intro c n
    induction n with
    | zero => intro b r l h; injection h with h; injection h with _ h; rw [h]; exact Nat.le_refl _
    | succ n ih =>
      intro b r l h
      rw [some_] at h
      cases hb : cutLine b with
      | none => rw [hb] at h; cases h
      | some z =>
        obtain ⟨s, r1⟩ := z
        rw [hb] at h
        have hl := congrArg List.length (cutLine_inv hb).1
        rw [List.length_append, List.length_cons] at hl
        cases s with
        | nil => cases h
        | cons d s =>
          simp only at h
          by_cases hd : d = c
          · rw [if_pos hd] at h
            cases hs : some_ c n r1 with
            | none => rw [hs] at h; cases h
            | some z =>
              obtain ⟨l', r'⟩ := z
              rw [hs] at h
              injection h with h
              injection h with _ h
              subst h
              have q : r'.length ≤ r1.length := ih r1 r' l' hs
              show r'.length ≤ b.length
              omega
          · rw [if_neg hd] at h; cases h
  unfold oneB at h
  cases hb : cutLine b with
  | none => rw [hb] at h; cases h
  | some z =>
    obtain ⟨s, r1⟩ := z
    rw [hb] at h
    have hl := congrArg List.length (cutLine_inv hb).1
    rw [List.length_append, List.length_cons] at hl
    simp only at h
    split at h
    · split at h
      · injection h with h; injection h with _ h; subst h; omega
      · split at h
        · split at h
          · split at h
            · cases h
            · split at h
              · rename_i l r2 h1
                have q1 := some_len _ _ _ _ _ h1
                split at h
                · rename_i m r3 h2
                  have q2 := some_len _ _ _ _ _ h2
                  injection h with h; injection h with _ h; subst h; omega
                · cases h
              · cases h
          · cases h
        · injection h with h; injection h with _ h; subst h; omega
    · cases h
/-- All changes that bytes tell. -/
def readL (b : List UInt8) : Option (List Ch) := if b = [] then some [] else match h : oneB b with
  | none => none
  | some (p, r) => (readL r).map (p :: ·)
termination_by b.length
decreasing_by exact oneB_short h
theorem readL_nil : readL [] = some [] := by rw [readL, if_pos rfl]
theorem readL_cons {b r : List UInt8} {p : Ch} (hb : b ≠ []) (h : oneB b = some (p, r)) : readL b = (readL r).map (p :: ·) := by
  rw [readL, if_neg hb]
  split
  · rename_i h1; rw [h] at h1; cases h1
  · rename_i p' r' h1
    rw [h] at h1
    injection h1 with h1
    injection h1 with h1 h2
    subst h1 h2
    rfl
theorem bytesP_ne (p : Ch) : bytesP p ≠ [] := by unfold bytesP headP; simp
/-- What is put is read. -/
theorem readL_bytes : ∀ {l : List Ch}, l.all mayP = true → readL (bytesL l) = some l
  | [], _ => readL_nil
  | p :: l, h => by
    rw [List.all_cons, Bool.and_eq_true] at h
    have hne : bytesL (p :: l) ≠ [] := by rw [bytesL_cons]; simp [bytesP_ne]
    rw [readL_cons hne (by rw [bytesL_cons]; exact oneB_bytes h.1 _), readL_bytes h.2]
    rfl
theorem putP_inj {l m : List Ch} {b : List UInt8} (h : putP l = (0, b)) (h' : putP m = (0, b)) : l = m := by
  obtain ⟨_, a1, _, e1⟩ := putP_ok.1 h
  obtain ⟨_, a2, _, e2⟩ := putP_ok.1 h'
  have := readL_bytes a1
  rw [e1, ← e2, readL_bytes a2] at this
  injection this with this
  exact this.symm
/-- Get: the list whose Put is b. -/
def getP (b : List UInt8) : Option (List Ch) := match readL b with
  | none => none
  | some l => if putP l = (0, b) then some l else none
theorem getP_iff {b : List UInt8} {l : List Ch} : getP b = some l ↔ putP l = (0, b) := by
  unfold getP
  constructor
  · intro h
    cases hr : readL b with
    | none => rw [hr] at h; cases h
    | some m =>
      rw [hr] at h
      simp only at h
      by_cases hp : putP m = (0, b)
      · rw [if_pos hp] at h; injection h with h; rw [← h]; exact hp
      · rw [if_neg hp] at h; cases h
  · intro h
    obtain ⟨_, a1, _, e1⟩ := putP_ok.1 h
    have := readL_bytes a1
    rw [e1] at this
    rw [this]
    simp only
    rw [if_pos h]
theorem getP_put {l : List Ch} {b : List UInt8} (h : putP l = (0, b)) : getP b = some l := getP_iff.2 h
theorem putP_get {l : List Ch} {b : List UInt8} (h : getP b = some l) : putP l = (0, b) ∧ l.all mayP = true := ⟨getP_iff.1 h, (putP_ok.1 (getP_iff.1 h)).2.1⟩
/-- The bytes of two lists, one behind the other. -/
theorem getP_join {a b : List Ch} {x y z : List UInt8} (h1 : putP a = (0, x)) (h2 : putP b = (0, y)) (h3 : putP (a ++ b) = (0, z)) : z = x ++ y ∧ getP (x ++ y) = some (a ++ b) := by
  obtain ⟨_, _, _, e1⟩ := putP_ok.1 h1
  obtain ⟨_, _, _, e2⟩ := putP_ok.1 h2
  obtain ⟨_, _, _, e3⟩ := putP_ok.1 h3
  have e : z = x ++ y := by rw [← e1, ← e2, ← e3, bytesL_app]
  exact ⟨e, getP_iff.2 (by rw [← e]; exact h3)⟩
/-- There is a line for each change, and for each line of its hunk. -/
theorem sg_count {c : UInt8} (hc : c ≠ 10) : ∀ {ls : List (List UInt8)}, (∀ l ∈ ls, 10 ∉ l) → (sg c ls).count 10 = ls.length
  | [], _ => rfl
  | l :: ls, h => by
    have e : sg c (l :: ls) = (c :: l) ++ 10 :: sg c ls := by unfold sg; rw [List.flatMap_cons]; simp
    have h0 : (c :: l).count 10 = 0 := List.count_eq_zero.2 fun hm => by
      rcases List.mem_cons.1 hm with e | e
      · exact hc e.symm
      · exact h l (.head _) e
    rw [e, List.count_append, h0, List.count_cons_self, sg_count hc (fun l hl => h l (.tail _ hl)), List.length_cons]
    omega
def linesL (l : List Ch) : Nat := (l.map fun p => 1 + p.h.old.length + p.h.new.length).foldr (· + ·) 0

theorem numI_ok (n : Int) : 10 ∉ numI n := by
  unfold numI
  by_cases h : 0 ≤ n ∧ n ≤ 1048576
  · rw [if_pos h]; exact (num_ok _).1
  · rw [if_neg h]; simp
theorem tailP_ok {p : Ch} (h : mayP p = true) : 10 ∉ tailP p := by
  obtain ⟨hn, hc⟩ := mayP_cases.1 h
  unfold tailP
  by_cases h2 : p.k = 2
  · have hto : name p.to = true := by
      rcases hc with ⟨h1, _⟩ | ⟨_, h1, _⟩ | ⟨h1, _⟩ | ⟨h1, _⟩
      · omega
      · exact h1
      · omega
      · omega
    rw [if_pos h2]
    intro hm
    rcases List.mem_cons.1 hm with e | e
    · exact absurd e (by decide)
    · exact (name_ok hto).1 e
  · rw [if_neg h2]
    by_cases h3 : 3 ≤ p.k
    · rw [if_pos h3]
      intro hm
      rcases List.mem_cons.1 hm with e | hm
      · exact absurd e (by decide)
      rcases List.mem_append.1 hm with e | hm
      · exact numI_ok _ e
      rcases List.mem_cons.1 hm with e | hm
      · exact absurd e (by decide)
      rcases List.mem_append.1 hm with e | hm
      · exact numI_ok _ e
      rcases List.mem_cons.1 hm with e | hm
      · exact absurd e (by decide)
      · exact numI_ok _ hm
    · rw [if_neg h3]; simp
theorem headP_ok {p : Ch} (h : mayP p = true) : 10 ∉ headP p := fun hm => by
  rcases List.mem_cons.1 hm with e | hm
  · exact sign_ok.1 e.symm
  rcases List.mem_cons.1 hm with e | hm
  · exact absurd e (by decide)
  rcases List.mem_append.1 hm with e | e
  · exact (name_ok (mayP_cases.1 h).1).1 e
  · exact tailP_ok h e
theorem mayP_lines {p : Ch} (h : mayP p = true) : (∀ l ∈ p.h.old, 10 ∉ l) ∧ ∀ l ∈ p.h.new, 10 ∉ l := by
  obtain ⟨hn, hc⟩ := mayP_cases.1 h
  have key : mayH p.h = true → (∀ l ∈ p.h.old, 10 ∉ l) ∧ ∀ l ∈ p.h.new, 10 ∉ l := fun hm => by
    unfold mayH at hm
    simp only [Bool.and_eq_true, decide_eq_true_eq] at hm
    exact ⟨(allMay_ok hm.2.1).2, (allMay_ok hm.2.2).2⟩
  rcases hc with ⟨_, _, hh⟩ | ⟨_, _, _, hh⟩ | ⟨_, _, hh⟩ | ⟨_, _, hh, _⟩
  · rw [hh]; exact ⟨fun l hl => (by cases hl), fun l hl => (by cases hl)⟩
  · rw [hh]; exact ⟨fun l hl => (by cases hl), fun l hl => (by cases hl)⟩
  · exact key hh
  · exact key hh
theorem bytesP_count {p : Ch} (h : mayP p = true) : (bytesP p).count 10 = 1 + p.h.old.length + p.h.new.length := by
  obtain ⟨h1, h2⟩ := mayP_lines h
  unfold bytesP
  rw [List.count_append, List.count_eq_zero.2 (headP_ok h), List.count_cons_self, List.count_append, sg_count (by decide) h1, sg_count (by decide) h2]
  omega
theorem bytesL_count : ∀ {l : List Ch}, l.all mayP = true → (bytesL l).count 10 = linesL l
  | [], _ => rfl
  | p :: l, h => by
    rw [List.all_cons, Bool.and_eq_true] at h
    rw [bytesL_cons, List.count_append, bytesP_count h.1, bytesL_count h.2]
    rfl
theorem sg_last {c : UInt8} : ∀ {ls : List (List UInt8)}, ls ≠ [] → (sg c ls).getLast? = some 10
  | [], h => absurd rfl h
  | l :: ls, _ => by
    have e : sg c (l :: ls) = (c :: l ++ [10]) ++ sg c ls := by unfold sg; rw [List.flatMap_cons]
    rw [e]
    by_cases h : ls = []
    · subst h
      show ((c :: l ++ [10]) ++ []).getLast? = some 10
      rw [List.append_nil, List.getLast?_concat]
    · rw [List.getLast?_append, sg_last h]; rfl
theorem bytesP_last (p : Ch) : (bytesP p).getLast? = some 10 := by
  have e : bytesP p = headP p ++ [10] ++ (sg 45 p.h.old ++ sg 43 p.h.new) := by unfold bytesP; simp
  rw [e, List.getLast?_append, List.getLast?_append]
  by_cases h2 : p.h.new = []
  · rw [h2]
    by_cases h1 : p.h.old = []
    · rw [h1]
      show ((none.or none).or (headP p ++ [10]).getLast?) = some 10
      rw [List.getLast?_concat]; rfl
    · rw [sg_last h1]; rfl
  · rw [sg_last h2]; rfl
theorem bytesL_last : ∀ {l : List Ch}, l ≠ [] → (bytesL l).getLast? = some 10
  | [], h => absurd rfl h
  | p :: l, _ => by
    rw [bytesL_cons, List.getLast?_append, bytesP_last]
    by_cases h : l = []
    · subst h; rfl
    · rw [bytesL_last h]; rfl
/-- Numbers there and back. -/
theorem dig_of_numI (n : Int) : dig (numI n) = if 0 ≤ n ∧ n ≤ 1048576 then some n.toNat else none := by
  by_cases h : 0 ≤ n ∧ n ≤ 1048576
  · rw [if_pos h]
    unfold numI
    rw [if_pos h]
    exact dig_num (by omega)
  · rw [if_neg h, numI_no h]
    unfold dig
    rw [if_neg (fun e => num_ne _ e.1)]
theorem numI_dig {s : List UInt8} {n : Nat} (h : dig s = some n) : numI (n : Int) = s := by
  obtain ⟨h1, h2⟩ := dig_iff.1 h
  rw [numI_nat h1, h2]

end Cd
end Go.Proofs.YtjhjmfodpnipiaaGreatDoor
