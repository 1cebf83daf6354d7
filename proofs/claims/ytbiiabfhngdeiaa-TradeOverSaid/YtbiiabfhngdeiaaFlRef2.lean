/-
  What the document's own Apply and Turn of lists of changes return (walks).
-/
import Derived.Test.YtbiiabfhngdeiaaFlRef
import Derived.Test.YtbiiabfhngdeiaaGR
import Derived.Test.YtbiiabfhngdeiaaGV
set_option maxRecDepth 100000
namespace Go.Proofs.Ytbiiabfhngdeiaa
open Go.RowKit
set_option linter.unusedVariables false
set_option linter.unusedSimpArgs false
namespace Fl
open Tx Df Sq Hk Tr Pr

theorem doF_at {t u : TR} {l : List Ch} {k : Nat} {x : Ch} (hx : l[k]? = some x) (h : doF t l = doF u (l.drop k)) : doF t l = doF u (x :: l.drop (k + 1)) := by rw [h, drop_at hx]

theorem turn_pg {W : World} {S : Nat → Prop} {A B : Option Addr} {n c m d : Nat} {p : Ch} (h : PG W S A n c B m d p) : ((p.k = 0 ∨ p.k = 1 ∨ p.k = 2) → PG W S A n c B m d (turnP p)) ∧ (¬ (p.k = 0 ∨ p.k = 1 ∨ p.k = 2) → PG W S B m d A n c (turnP p)) := by
  constructor
  · rintro (hk | hk | hk)
    · rw [turnP_0 hk]; exact ⟨h.l, h.l', h.k, h.k', h.mm, h.mm', h.r, h.r', h.pp, by unfold I64; dsimp only; omega, h.nm, h.to, h.s, h.s'⟩
    · rw [turnP_1 hk]; exact ⟨h.l, h.l', h.k, h.k', h.mm, h.mm', h.r, h.r', h.pp, by unfold I64; dsimp only; omega, h.nm, h.to, h.s, h.s'⟩
    · rw [turnP_2 hk]; exact ⟨h.l, h.l', h.k, h.k', h.mm, h.mm', h.r, h.r', h.pp, by unfold I64; dsimp only; omega, h.to, h.nm, h.s, h.s'⟩
  · intro hk
    rw [turnP_h (fun h => hk (.inl h)) (fun h => hk (.inr (.inl h))) (fun h => hk (.inr (.inr h)))]
    exact ⟨h.l', h.l, h.k', h.k, h.mm', h.mm, h.r', h.r, h.pp, h.kk, h.nm, h.to, h.s', h.s⟩
/-- What a turned change's call tells: slice values that read as it wherever those of the change do. -/
theorem turn_any {A A' : Option Addr} {n c n' c' : Nat} {p : Ch} {w w' : World} {e : Ending} (h : PTEndE A n c A' n' c' p w e w') :
    ∃ B m d B' m' d', e = .returned (prV (turnP p).k (turnP p).nm (turnP p).to (turnP p).h.pos B m d B' m' d') ∧ (∀ W S, PG W S A n c A' n' c' p → PG W S B m d B' m' d' (turnP p)) ∧ Below w.heap.size w w' := by
  obtain ⟨h, hb⟩ := h
  rcases h with ⟨hk, rfl⟩ | ⟨hk, rfl⟩
  · exact ⟨_, _, _, _, _, _, rfl, fun W S h => (turn_pg h).1 hk, hb⟩
  · exact ⟨_, _, _, _, _, _, rfl, fun W S h => (turn_pg h).2 hk, hb⟩
/-- How a call ends that makes a list of changes. -/
def LPEnd (w : World) (l : List Ch) (e : Ending) (w' : World) : Prop := ∃ A c, e = .returned (.slice A l.length c) ∧ l.length ≤ c ∧ RdP w' (· < w'.heap.size) A l ∧ Below w.heap.size w w'
theorem lpEnd_own {w w' : World} {base : Nat} {v : Value} {l : List Ch} (h : OwnP w' base v l) (hb : Below w.heap.size w w') : LPEnd w l (.returned v) w' := by
  obtain ⟨A, c, rfl, hc, hr, _⟩ := rdP_own h
  exact ⟨A, c, rfl, hc, hr, hb⟩
theorem turnF_drop {l : List Ch} {k : Nat} {x : Ch} (hx : l[k]? = some x) : turnF (l.drop k) = turnF (l.drop (k + 1)) ++ [turnP x] := by
  unfold turnF
  rw [drop_at hx, List.map_cons, List.reverse_cons]
/-- The cells of one change in a block of their own. -/
theorem one_srcP {W : World} {b : Nat} {A B : Option Addr} {n c m d : Nat} {x : Ch} (h : Blk W b 51 #[.int .i64 x.k, strV x.nm, strV x.to, .int .i64 x.h.pos, .slice A n c, .slice B m d]) :
    ∀ (j : Nat) u, [Value.int .i64 x.k, strV x.nm, strV x.to, .int .i64 x.h.pos, .slice A n c, .slice B m d][j]? = some u → W.cell? ((⟨b, 0, none⟩ : Addr).add j) = some u := fun j u hu => by
  rcases j with _ | _ | _ | _ | _ | _ | j
  · rw [add_zero']; exact h.cell 0 hu
  · exact h.cell 1 hu
  · exact h.cell 2 hu
  · exact h.cell 3 hu
  · exact h.cell 4 hu
  · exact h.cell 5 hu
  · simp at hu

end Fl
end Go.Proofs.Ytbiiabfhngdeiaa
