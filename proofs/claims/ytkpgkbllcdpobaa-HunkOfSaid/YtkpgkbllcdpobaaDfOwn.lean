/-
  What own of layer 4 returns (walk); edits in memory of one's own.
-/
import Derived.Test.YtkpgkbllcdpobaaDfApply
namespace Go.Proofs.Ytkpgkbllcdpobaa
open Go.RowKit
set_option linter.unusedVariables false
namespace Df
open Tx

section
variable {P : Program} {w : World}
/-- An append of cells that are read, nil let in, onto nothing: a row of one's own. -/
theorem run_nil {B m c bytes : Nat} {t ty e : TypeId} {i : TypeInfo} {z : Value} {news : List Value} {A : Option Addr} (ht : P.underlying t = some (.slice e)) (hi : P.info? e = some i) (hz : i.zero = some z)
    (hsize : i.size = 1) (hby : i.bytes = bytes) (hzs : z.cells.size = 1) (hl : news.length = m) (hr : Rd w B A news) (h1 : ∀ u ∈ news, u.oneCell' = true) (h63 : m ≤ maxLen) (hbytes : m * bytes ≤ 140737488355328) :
    ∃ A' c' w', (Builtin.append_ #[t, t] ty #[.slice none 0 0, .slice A m c]).run P w = .ok (.slice A' m c') w' ∧ w'.ownsRow w.heap.size e 1 (.slice A' m c') m news ∧ w.grownBy w' none := by
  by_cases hm : m = 0
  · have hnil : news = [] := List.eq_nil_of_length_eq_zero (by omega)
    subst hnil; subst hm
    exact ⟨none, 0, w, run_app_empty ht hi hsize (Nat.le_refl _) rfl, World.ownsRow_nil w _ e 1, World.grownBy.refl w none⟩
  · obtain ⟨a, rfl, hcells⟩ : ∃ a, A = some a ∧ ∀ j u, news[j]? = some u → w.cell? (a.add j) = some u := by
      rcases hr with h | ⟨a, h, _, hc⟩
      · subst h; simp at hl; omega
      · exact ⟨a, h, hc⟩
    obtain ⟨v', w', h2, h3, h4, _⟩ := run_append_own (P := P) w w.heap.size t ty e i z 1 bytes ht hi hz hsize hby hzs (by decide) (.slice none 0 0) 0 [] (World.ownsRow_nil w _ e 1) a m c news (by omega) hcells h1 (by omega) (by rw [Nat.zero_add]; exact hbytes) (Nat.le_refl _)
    rw [Nat.zero_add, List.nil_append] at h3
    obtain ⟨A', c', rfl, _⟩ := rd_of_own h3
    exact ⟨A', c', w', h2, h3, h4⟩

theorem wpList_nil' {ops : Array Oper} {rest : List Oper} {o : Oper} {a : Act} {Q : Exit → Act → World → Prop} (hgd : o.guard = none) (s x : Operand) (t : TypeId)
    (ho : o.op = .call { callee := .builtin .append, args := #[s, x], argTypes := #[t, t] })
    (e : TypeId) (i : TypeInfo) (z : Value) (bytes : Nat) (ht : P.underlying t = some (.slice e)) (hi : P.info? e = some i) (hz : i.zero = some z)
    (hsize : i.size = 1) (hby : i.bytes = bytes) (hzs : z.cells.size = 1) (hs : a.eval s = .slice none 0 0)
    (B : Nat) (A : Option Addr) (m c : Nat) (news : List Value) (hx : a.eval x = .slice A m c) (hl : news.length = m) (hr : Rd w B A news) (h1 : ∀ u ∈ news, u.oneCell' = true)
    (h63 : m ≤ maxLen) (hbytes : m * bytes ≤ 140737488355328)
    (h : ∀ A' c' w', w'.ownsRow w.heap.size e 1 (.slice A' m c') m news → w.grownBy w' none → wpList P ops Q rest (a.put o.dst (.slice A' m c')) w') : wpList P ops Q (o :: rest) a w := by
  refine wpList_plain hgd fun K hK => ?_
  obtain ⟨A', c', w', hr, h2, h3⟩ := run_nil (P := P) (c := c) (ty := o.type) ht hi hz hsize hby hzs hl hr h1 h63 hbytes
  unfold Oper.wp execOp
  simp only [ho, resolve, invoke, builtin, Sem.run_bind, Sem.run_pure, Result.andThen_ok, List.map_toArray, List.map_cons, List.map_nil, hs, hx, hr]
  exact hK _ _ (h A' c' w' h2 h3)
end

def OwnEnd (w : World) (n : Nat) (xs : List Value) (e : Ending) (w' : World) : Prop :=
  ∃ A' c', e = .returned (.slice A' n c') ∧ w'.ownsRow w.heap.size 9 1 (.slice A' n c') n xs ∧ w.grownBy w' none

theorem own (A : Option Addr) (c n B : Nat) (ls : List (List UInt8)) (w : World) (hn : ls.length = n) (hln : n ≤ 1000000) (hR : RdS w B A ls) :
    Calls Try.prog 39 #[.slice A n c] w (OwnEnd w n (ls.map strV)) := by
  obtain ⟨j0, hj, hy0, hy1, hy2⟩ := info_parts info_str
  have HN := Lib.hid hn; clear hn
  go_enter Try.func39, Try.ntmps39
  go_wp2_with (at_builtin; refine wpList_nil' rfl (.const (.slice none 0 0)) (.tmp 3) 22 rfl 9 j0 (.string ⟨#[]⟩) 16 Try.underlying22 hj hy0 hy1 hy2 rfl rfl B A n c (ls.map strV) rfl (by rw [List.length_map]; exact HN.out) hR (strs_one _) (by unfold maxLen; omega) (by omega) ?_; intro A' c' w' hA hg)
  go_ret
  exact ⟨A', c', rfl, hA, hg⟩

/-- The cells of edits, their New in rows of one's own. -/
def ECells (W : World) (h : Nat) (es : List E) (xs : List Value) : Prop :=
  xs.length = es.length * 3 ∧ ∀ (k : Nat) x, es[k]? = some x → ∃ A c, xs[k * 3]? = some (.int .i64 x.pos) ∧ xs[k * 3 + 1]? = some (.int .i64 x.old) ∧ xs[k * 3 + 2]? = some (.slice A x.new.length c) ∧
    W.ownsRow h 9 1 (.slice A x.new.length c) x.new.length (x.new.map strV) ∧ I64 x.pos ∧ I64 x.old ∧ x.new.length ≤ maxLen

theorem ecells_nil (W : World) (h : Nat) : ECells W h [] [] := ⟨rfl, fun k x hx => by simp at hx⟩
theorem ecells_snoc {W : World} {h : Nat} {es : List E} {xs : List Value} {x : E} {A : Option Addr} {c : Nat} (he : ECells W h es xs)
    (hr : W.ownsRow h 9 1 (.slice A x.new.length c) x.new.length (x.new.map strV)) (hp : I64 x.pos) (ho : I64 x.old) (hl : x.new.length ≤ maxLen) :
    ECells W h (es ++ [x]) (xs ++ [.int .i64 x.pos, .int .i64 x.old, .slice A x.new.length c]) := by
  obtain ⟨h1, h2⟩ := he
  refine ⟨by simp only [List.length_append, h1, List.length_cons, List.length_nil]; omega, fun k y hy => ?_⟩
  rcases Nat.lt_trichotomy k es.length with hk | rfl | hk
  · rw [List.getElem?_append_left hk] at hy
    obtain ⟨A, c, g1, g2, g3, g⟩ := h2 k y hy
    refine ⟨A, c, ?_, ?_, ?_, g⟩
    · rw [List.getElem?_append_left (by omega)]; exact g1
    · rw [List.getElem?_append_left (by omega)]; exact g2
    · rw [List.getElem?_append_left (by omega)]; exact g3
  · rw [List.getElem?_append_right (Nat.le_refl _), Nat.sub_self] at hy
    cases hy
    refine ⟨A, c, ?_, ?_, ?_, hr, hp, ho, hl⟩
    · rw [← h1, List.getElem?_append_right (Nat.le_refl _), Nat.sub_self]; rfl
    · rw [← h1, List.getElem?_append_right (by omega), Nat.add_sub_cancel_left]; rfl
    · rw [← h1, List.getElem?_append_right (by omega), Nat.add_sub_cancel_left]; rfl
  · rw [List.getElem?_eq_none (by simp; omega)] at hy; cases hy

/-- All blocks are as they were but those of numbers, of edits, and of variables that hold edits. -/
def KpE (W W' : World) : Prop := ∀ (k : Nat) c t f, W.heap[k]? = some (.cells c t f) → t ≠ 3 → t ≠ 47 → t ≠ 50 → W'.heap[k]? = some (.cells c t f)
theorem KpE.refl (W : World) : KpE W W := fun _ _ _ _ h _ _ _ => h
theorem KpE.trans {W W1 W2 : World} (h : KpE W W1) (h' : KpE W1 W2) : KpE W W2 := fun k c t f hk a b d => h' k c t f (h k c t f hk a b d) a b d
theorem kpE_none {W W' : World} (hg : W.grownBy W' none) : KpE W W' := fun k c t f hk _ _ _ => (hg.block k (Array.getElem?_eq_some_iff.1 hk).1 (fun e => by cases e)).trans hk
theorem kpE_grown {base n : Nat} {v : Value} {xs : List Value} {W W' : World} (h : W.ownsRow base 50 3 v n xs) (hg : W.grownBy W' v.ownBlock) : KpE W W' := fun k c t f hk _ _ ht => typ_grown h hg k c t f hk ht
theorem kpE_set {W : World} {b : Nat} {t : TypeId} {u : Value} (v : Value) (hb : Boxed W b t u) (ht : t = 3 ∨ t = 47) : KpE W (W.setCell ⟨b, 0, none⟩ v) := by
  intro k c t' f hk a1 a2 a3
  refine (Below.heap_setCell _ _ _ k (fun e => ?_)).trans hk
  subst e
  rw [show W.heap[k]? = _ from hb] at hk; cases hk
  rcases ht with h | h
  · exact a1 h
  · exact a2 h
theorem kpE_row {W W' : World} {h n : Nat} {v : Value} {xs : List Value} (hr : W.ownsRow h 9 1 v n xs) (hk : KpE W W') : W'.ownsRow h 9 1 v n xs := by
  refine ⟨hr.1, ?_⟩
  rcases hr.2 with h | ⟨g, cap, cur, k1, k2, k3, k4⟩
  · exact .inl h
  · exact .inr ⟨g, cap, cur, k1, k2, hk g _ _ _ k3 (by decide) (by decide) (by decide), k4⟩
theorem ECells.kept {W W' : World} {h : Nat} {es : List E} {xs : List Value} (he : ECells W h es xs) (hk : KpE W W') : ECells W' h es xs := by
  refine ⟨he.1, fun k x hx => ?_⟩
  obtain ⟨A, c, g1, g2, g3, g4, g5⟩ := he.2 k x hx
  exact ⟨A, c, g1, g2, g3, kpE_row g4 hk, g5⟩

/-- A row of edits of one's own is read as edits. -/
theorem rdE_own {W : World} {base h n : Nat} {v : Value} {es : List E} {xs : List Value} (hr : W.ownsRow base 50 3 v n xs) (he : ECells W h es xs) (hn : es.length = n) :
    ∃ A c, v = .slice A n c ∧ n ≤ c ∧ RdE W W.heap.size A es := by
  rcases hr.2 with ⟨rfl, rfl⟩ | ⟨g, cap, cur, rfl, _, hg, hc, _⟩
  · exact ⟨none, 0, rfl, Nat.le_refl _, .inl (List.eq_nil_of_length_eq_zero hn)⟩
  · refine ⟨_, cap, rfl, hc, .inr ⟨_, rfl, (Array.getElem?_eq_some_iff.1 hg).1, fun k x hx => ?_⟩⟩
    obtain ⟨A, c, g1, g2, g3, g4, g5, g6, g7⟩ := he.2 k x hx
    have hk : k < es.length := (List.getElem?_eq_some_iff.1 hx).1
    have ea : (⟨g, 0, none⟩ : Addr).add (k * 3) = ⟨g, k * 3, none⟩ := by unfold Addr.add; split <;> simp_all
    obtain ⟨A0, c0, e0, hc0, hrd⟩ := rd_of_own g4
    cases e0
    refine ⟨?_, ?_, ⟨A, c, ?_, hc0, hrd⟩, g5, g6, g7⟩
    · rw [ea, hr.cellAt (k * 3) (by omega)]; exact g1
    · rw [ea]; show W.cell? ⟨g, k * 3 + 1, none⟩ = _; rw [hr.cellAt (k * 3 + 1) (by omega)]; exact g2
    · rw [ea]; show W.cell? ⟨g, k * 3 + 2, none⟩ = _; rw [hr.cellAt (k * 3 + 2) (by omega)]; exact g3

end Df
end Go.Proofs.Ytkpgkbllcdpobaa
