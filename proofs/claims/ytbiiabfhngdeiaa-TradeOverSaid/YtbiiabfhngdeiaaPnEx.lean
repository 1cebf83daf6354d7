/-
  The chapter's example of layer 14: its patches, and how they are read. No function of the program is walked here.
-/
import Derived.Test.YtbiiabfhngdeiaaGN
import Derived.Test.YtbiiabfhngdeiaaFlSteps
import Derived.Test.YtbiiabfhngdeiaaFlKeep
set_option maxRecDepth 100000
namespace Go.Proofs.Ytbiiabfhngdeiaa
open Go.RowKit
set_option linter.unusedVariables false
namespace Pn
open Tx Df Sq Hk Tr Pr Fl

def exA : Ch := ⟨0, [97], [], ⟨0, [], []⟩⟩
def exN : Nm := ⟨(0, 1), [], [], [exA]⟩
theorem ex_may : mayN exN = true := by decide
theorem ex_do : doN [] [exN] = (0, [([97], [])]) := by decide
theorem ex_find : findN [exN] (0, 1) = 0 := by decide
theorem ex_less : lessI (0, 1) (0, 2) = true := by decide
theorem ex_lt : Lt (allN [exN]) := fun x hx => by
  have : x = exA := by simpa [allN, exN] using hx
  rw [this]
  decide

/-- One change in a block of its own is read as a list. -/
theorem rdP_lone {W : World} {S : Nat → Prop} {b : Nat} {A B : Option Addr} {n c m d : Nat} {x : Ch} (h : Blk W b 51 #[.int .i64 x.k, strV x.nm, strV x.to, .int .i64 x.h.pos, .slice A n c, .slice B m d]) (hp : PG W S A n c B m d x) (hS : S b) : RdP W S (some ⟨b, 0, none⟩) [x] :=
  .inr ⟨_, rfl, hS, fun k y hy => by
    cases k with
    | zero =>
      injection hy with hy
      subst hy
      have e : (⟨b, 0, none⟩ : Addr).add (0 * 6) = ⟨b, 0, none⟩ := rfl
      exact ⟨by rw [e]; exact h.cell 0 rfl, by rw [e]; exact h.cell 1 rfl, by rw [e]; exact h.cell 2 rfl, by rw [e]; exact h.cell 3 rfl, A, n, c, B, m, d, by rw [e]; exact h.cell 4 rfl, by rw [e]; exact h.cell 5 rfl, hp⟩
    | succ k => simp at hy⟩
/-- One patch in a block of its own is read as a list. -/
theorem rdN_lone {W : World} {N b : Nat} {D A : Option Addr} {dn dc n c : Nat} {x : Nm} (h : Blk W b 28 #[.int .i64 x.id.1, .int .i64 x.id.2, .slice D dn dc, strV x.txt, .slice A n c]) (hp : NV W N D dn dc A n c x) (hb : b < N) : RdN W N (some ⟨b, 0, none⟩) [x] :=
  .inr ⟨_, rfl, hb, fun k y hy => by
    cases k with
    | zero =>
      injection hy with hy
      subst hy
      have e : (⟨b, 0, none⟩ : Addr).add (0 * 5) = ⟨b, 0, none⟩ := rfl
      exact ⟨by rw [e]; exact h.cell 0 rfl, by rw [e]; exact h.cell 1 rfl, by rw [e]; exact h.cell 3 rfl, D, dn, dc, A, n, c, by rw [e]; exact h.cell 2 rfl, by rw [e]; exact h.cell 4 rfl, hp⟩
    | succ k => simp at hy⟩
theorem pg_ex (W : World) (S : Nat → Prop) : PG W S none 0 0 none 0 0 exA :=
  ⟨rfl, rfl, Nat.le_refl _, Nat.le_refl _, by decide, by decide, .inl rfl, .inl rfl, by unfold I64; decide, by unfold I64; decide, by decide, by decide, (fun x hx => by cases hx), (fun x hx => by cases hx)⟩
theorem nv_ex {W : World} {N b : Nat} (h : RdP W (· < N) (some ⟨b, 0, none⟩) [exA]) : NV W N none 0 0 (some ⟨b, 0, none⟩) 1 1 exN :=
  ⟨rfl, Nat.le_refl _, by decide, .inl rfl, by decide, rfl, Nat.le_refl _, by decide, h⟩

end Pn
end Go.Proofs.Ytbiiabfhngdeiaa
