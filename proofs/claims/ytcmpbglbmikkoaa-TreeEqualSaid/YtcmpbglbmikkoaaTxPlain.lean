/-
  Plain functions on lists of bytes for layer 1 (lines and names), and their laws.
-/
import Derived.Test.YtcmpbglbmikkoaaQMem
import Derived.Lib.Bytealg
import Derived.Lib.Bytes
namespace Go.Proofs.Ytcmpbglbmikkoaa
namespace Tx

def may (l : List UInt8) : Bool := decide (l.length ≤ 80) && !l.contains 10
def inName (c : UInt8) : Bool := (decide (97 ≤ c.toNat) && decide (c.toNat ≤ 122)) || (decide (48 ≤ c.toNat) && decide (c.toNat ≤ 57)) || decide (c.toNat = 46)
def name (l : List UInt8) : Bool := decide (1 ≤ l.length) && decide (l.length ≤ 16) && l.all inName
def allMay (ls : List (List UInt8)) : Bool := decide (ls.length ≤ 200) && ls.all may

theorem indexByte_neg (l : List UInt8) (c : UInt8) : decide (Lib.indexByte l c < 0) = !l.contains c := by
  induction l with
  | nil => simp [Lib.indexByte]
  | cons b l ih =>
    have hg := Lib.indexByte_ge l c
    unfold Lib.indexByte
    by_cases hb : b = c
    · subst hb; simp
    · have hb' : ¬ c = b := fun e => hb e.symm
      by_cases hi : Lib.indexByte l c = -1
      · have : c ∉ l := by simpa [hi] using ih
        simp [hb, hi, hb', this]
      · have h1 : ¬ Lib.indexByte l c < 0 := by omega
        have h2 : c ∈ l := by simpa [h1] using ih
        have h3 : ¬ Lib.indexByte l c + 1 < 0 := by omega
        simp [hb, hi, h2, h3]

/-- The lines of bytes: what stands ahead of each line feed; what has none behind it is no line. -/
def cutL : List UInt8 → List UInt8 → List (List UInt8)
  | _, [] => []
  | acc, c :: r => if c = 10 then acc :: cutL [] r else cutL (acc ++ [c]) r
def cut (l : List UInt8) : List (List UInt8) := cutL [] l

theorem cutL_app : ∀ (p acc r : List UInt8), 10 ∉ p → cutL acc (p ++ r) = cutL (acc ++ p) r
  | [], acc, r, _ => by simp
  | c :: p, acc, r, h => by
    have hc : ¬ c = 10 := fun e => h (by simp [e])
    have hp : 10 ∉ p := fun e => h (by simp [e])
    rw [List.cons_append, cutL, if_neg hc, cutL_app p _ r hp]
    simp
theorem cut_none {l : List UInt8} (h : 10 ∉ l) : cut l = [] := by
  have := cutL_app l [] [] h
  simp only [List.append_nil, List.nil_append] at this
  unfold cut
  rw [this]
  simp [cutL]
theorem cut_some {p : List UInt8} (r : List UInt8) (h : 10 ∉ p) : cut (p ++ 10 :: r) = p :: cut r := by
  unfold cut
  rw [cutL_app p [] _ h]
  simp [cutL]
theorem cutL_length : ∀ (l acc : List UInt8), (cutL acc l).length = l.count 10
  | [], _ => by simp [cutL]
  | c :: r, acc => by
    rw [cutL]
    by_cases hc : c = 10
    · rw [if_pos hc, List.length_cons, cutL_length r, hc]; simp
    · rw [if_neg hc, cutL_length r, List.count_cons_of_ne (by simpa using hc)]
theorem cut_length (l : List UInt8) : (cut l).length = l.count 10 := cutL_length l []

theorem idx_cases (c : UInt8) : ∀ (l : List UInt8), (Lib.indexByte l c = -1 ∧ c ∉ l) ∨ ∃ p r, l = p ++ c :: r ∧ c ∉ p ∧ Lib.indexByte l c = (p.length : Int)
  | [] => .inl ⟨rfl, by simp⟩
  | b :: l => by
    by_cases hb : b = c
    · subst hb
      exact .inr ⟨[], l, rfl, by simp, by simp [Lib.indexByte]⟩
    · have hb' : ¬ c = b := fun e => hb e.symm
      rcases idx_cases c l with ⟨h1, h2⟩ | ⟨p, r, h1, h2, h3⟩
      · exact .inl ⟨by unfold Lib.indexByte; simp [hb, h1], by simp [hb', h2]⟩
      · refine .inr ⟨b :: p, r, by simp [h1], by simp [hb', h2], ?_⟩
        unfold Lib.indexByte
        rw [h3]
        have : ¬ ((p.length : Int) = -1) := by omega
        simp [hb, this]

/-- What Split answers. -/
def splitE (b : List UInt8) : Int :=
  if b.length > 200000 ∨ b.count 10 > 200 then 8
  else if b ≠ [] ∧ b.getLast? ≠ some 10 then 2
  else if (cut b).all may then 0 else 2
def splitL (b : List UInt8) : List (List UInt8) := if splitE b = 0 then cut b else []

theorem all_of {ls : List (List UInt8)} (h : ∀ x ∈ ls, may x = true) : ls.all may = true := by rw [List.all_eq_true]; exact h
theorem not_all_of {ls : List (List UInt8)} {x : List UInt8} (hx : x ∈ ls) (h : may x = false) : ls.all may = false := by rw [List.all_eq_false]; exact ⟨x, hx, by simp [h]⟩

end Tx
end Go.Proofs.Ytcmpbglbmikkoaa
