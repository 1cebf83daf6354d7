/-
  What the document's Put of layer 7 returns (walk).
-/
import Derived.Test.YtfjllohhjpiphaaTrRefDel
import Derived.Test.YtfjllohhjpiphaaTrAgain
set_option maxRecDepth 100000
namespace Go.Proofs.Ytfjllohhjpiphaa
open Go.RowKit
set_option linter.unusedVariables false
namespace Tr
open Tx

/-- The files gone through, with the one that is put, if it is ahead of one of them. -/
def insTo (s : List UInt8) (l : List (List UInt8)) (t : TR) (k : Nat) (b : Bool) : TR := if b then ins Op.bytesLess (t.take k) s l else t.take k
theorem any_take {t : TR} {s : List UInt8} {k : Nat} (hk : k < t.length) : (t.take (k + 1)).any (gtN s) = ((t.take k).any (gtN s) || gtN s t[k]) := by
  rw [take_snoc' hk, List.any_append]; simp
theorem any_no {t : TR} {s : List UInt8} (h : t.any (gtN s) = false) : ∀ f ∈ t, Op.bytesLess s f.1 = false := fun f hf => by
  rw [List.any_eq_false] at h
  simpa [gtN] using h f hf
theorem any_yes {t : TR} {s : List UInt8} (h : t.any (gtN s) = true) : ∃ f ∈ t, Op.bytesLess s f.1 = true := by
  rw [List.any_eq_true] at h
  exact h
theorem insTo_past {s : List UInt8} {l : List (List UInt8)} {t : TR} {k : Nat} (hk : k < t.length) (h : (t.take k).any (gtN s) = true) : insTo s l t (k + 1) true = insTo s l t k true ++ [t[k]] := by
  unfold insTo
  rw [if_pos rfl, if_pos rfl, take_snoc' hk]
  exact ins_past (any_yes h)
theorem insTo_none {s : List UInt8} {l : List (List UInt8)} {t : TR} {k : Nat} (hk : k < t.length) : insTo s l t (k + 1) false = insTo s l t k false ++ [t[k]] := take_snoc' hk
theorem insTo_here {s : List UInt8} {l : List (List UInt8)} {t : TR} {k : Nat} (hk : k < t.length) (h : (t.take k).any (gtN s) = false) (hg : gtN s t[k] = true) : insTo s l t (k + 1) true = (insTo s l t k false ++ [(s, l)]) ++ [t[k]] := by
  unfold insTo
  rw [if_pos rfl, if_neg (by decide), take_snoc' hk, ins_here (any_no h) hg, List.append_assoc]
  rfl
theorem insTo_end {s : List UInt8} {l : List (List UInt8)} {t : TR} (h : t.any (gtN s) = false) : ins Op.bytesLess t s l = insTo s l t t.length false ++ [(s, l)] := by
  unfold insTo
  rw [if_neg (by decide), List.take_length]
  exact ins_none (any_no h)
theorem insTo_len {s : List UInt8} {l : List (List UInt8)} {t : TR} {k : Nat} {b : Bool} : (insTo s l t k b).length ≤ t.length + 1 := by
  unfold insTo
  split
  · rw [ins_len, List.length_take]; omega
  · rw [List.length_take]; omega

/-- A file in the place of another one, in a row that may have more room. -/
theorem put_upd2 {w w4 : World} {base g n cap k m c : Nat} {t : TR} {xs : List Value} {s : List UInt8} {l : List (List UInt8)} (hrow : w4.ownsRow base 48 2 (.slice (some ⟨g, 0, none⟩) n cap) n xs) (hF : FCells w4 (some g) t xs) (hn : t.length = n) (hi : ixF (isN s) t = some k)
    {A : Option Addr} (hm : l.length = m) (hc : m ≤ c) (hr : RdX w4 (some g) A l) (hb : Below w.heap.size w w4) (hbase : w.heap.size ≤ base) :
    TreeEnd w (upd t s l) (.returned (.slice (some ⟨g, 0, none⟩) n cap)) ((w4.setCell ⟨g, k * 2, none⟩ (strV s)).setCell ⟨g, k * 2 + 1, none⟩ (.slice A m c)) := by
  subst hm
  obtain ⟨hk, _⟩ := ixF_some hi
  have hu := upd_set (l := l) hi
  obtain ⟨⟨xs', r1, r2⟩, r3⟩ := store_file (k := k) (t2 := upd t s l) (x := (s, l)) (A := A) (c := c) hrow hF (fun j y hne hy => by
      rw [hu, List.getElem?_set_ne (fun e => hne e.symm)] at hy
      exact hy) (fun y hy => by
      rw [hu, List.getElem?_set_self hk] at hy
      injection hy with hy
      exact hy.symm) (by omega) hc hr
  have hlen : (upd t s l).length = n := by rw [upd_len]; exact hn
  refine treeEnd_own (base := base) ⟨xs', by rw [hlen]; exact r1, r2⟩ ?_
  have hg : w.heap.size ≤ g := Nat.le_trans hbase (hrow.lt g rfl).1
  exact (hb.setCell (p := ⟨g, k * 2, none⟩) hg _).setCell (p := ⟨g, k * 2 + 1, none⟩) hg _

end Tr
end Go.Proofs.Ytfjllohhjpiphaa
