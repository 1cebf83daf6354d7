/-
  What the document's Del of layer 7 returns (walk).
-/
import Derived.Test.YtfjllohhjpiphaaTrRef
import Derived.Test.YtfjllohhjpiphaaTrApp
set_option maxRecDepth 100000
namespace Go.Proofs.Ytfjllohhjpiphaa
open Go.RowKit
set_option linter.unusedVariables false
namespace Tr
open Tx

/-- What is left of the files gone through. -/
def delTo (o : Option Nat) (t : TR) (k : Nat) : TR :=
  match o with
  | none => t.take k
  | some i => if k ≤ i then t.take k else t.take i ++ (t.take k).drop (i + 1)
theorem delTo_here {t : TR} {i : Nat} : delTo (some i) t (i + 1) = delTo (some i) t i := by
  unfold delTo
  simp only
  rw [if_neg (by omega), if_pos (Nat.le_refl _), List.drop_of_length_le (by rw [List.length_take]; omega), List.append_nil]
theorem delTo_next {o : Option Nat} {t : TR} {k : Nat} (hk : k < t.length) (h : o ≠ some k) : delTo o t (k + 1) = delTo o t k ++ [t[k]] := by
  cases o with
  | none => exact take_snoc' hk
  | some i =>
    have hne : i ≠ k := fun e => h (by rw [e])
    unfold delTo
    simp only
    by_cases hki : k ≤ i
    · rw [if_pos (by omega), if_pos hki]; exact take_snoc' hk
    · rw [if_neg (by omega), if_neg hki, take_snoc' hk, List.drop_append_of_le_length (by rw [List.length_take]; omega), List.append_assoc]
theorem delTo_end {t : TR} {s : List UInt8} : delTo (ixF (isN s) t) t t.length = del t s := by
  cases hi : ixF (isN s) t with
  | none => rw [del_no (get_ix_none hi)]; exact List.take_length
  | some i =>
    obtain ⟨hk, h1, _, h3⟩ := get_ix hi
    rw [del_at hk h1 h3]
    unfold delTo
    simp only
    rw [if_neg (by omega), List.take_length]
theorem delTo_len {o : Option Nat} {t : TR} {k : Nat} : (delTo o t k).length ≤ t.length := by
  cases o with
  | none => unfold delTo; rw [List.length_take]; omega
  | some i => unfold delTo; simp only; split <;> simp only [List.length_append, List.length_take, List.length_drop] <;> omega

/-- One file that is read, appended. -/
theorem one_src {wr : World} {g B : Nat} {v : Value} {D : TR} {x : FL} {A : Option Addr} {m c : Nat} {t : TypeId} (hown : OwnT wr g v D) (hm : x.2.length = m) (hc : m ≤ c) (hr : RdS wr B A x.2) (hB : B ≤ g) (hg : g ≤ wr.heap.size) :
    OwnT (wr.alloc (.cells #[strV x.1, .slice A m c] t)) g v D ∧ FCells (wr.alloc (.cells #[strV x.1, .slice A m c] t)) v.ownBlock [x] [strV x.1, .slice A m c] ∧
      (∀ j u, ([strV x.1, .slice A m c] : List Value)[j]? = some u → (wr.alloc (.cells #[strV x.1, .slice A m c] t)).cell? ((⟨wr.heap.size, 0, none⟩ : Addr).add j) = some u) ∧ g ≤ (wr.alloc (.cells #[strV x.1, .slice A m c] t)).heap.size := by
  have hb : Below wr.heap.size wr (wr.alloc (.cells #[strV x.1, .slice A m c] t)) := (Below.refl _ _).alloc (Nat.le_refl _) _
  have hBW : B ≤ wr.heap.size := Nat.le_trans hB hg
  refine ⟨hown.below hb, FCells.one hm hc (RdX.of (Rd.below hr (hb.mono hBW)) (Nat.le_trans hBW hb.size) fun k hk => Nat.le_trans hB (ownT_ge hown k hk)), ?_, Nat.le_trans hg hb.size⟩
  exact World.news_of_block (cs := #[strV x.1, .slice A m c]) (t := t) (fr := (0, 0)) (Blk.new wr t _)

end Tr
end Go.Proofs.Ytfjllohhjpiphaa
