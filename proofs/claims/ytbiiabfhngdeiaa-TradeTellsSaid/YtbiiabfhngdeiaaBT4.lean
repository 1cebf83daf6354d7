/-
  The statement TradeTells: what any two patches are when the second one is ahead, and any one ahead of any others, or that they can not be, is what the document says.
-/
import Derived.Deep.Cut
import Derived.Deep.RegionHeld3
import Derived.Laws.StructEq
import Derived.BigQuiet
import Derived.OpenShut
import Derived.ShutString
import Derived.Test.YtbiiabfhngdeiaaBT3
set_option maxRecDepth 100000
namespace Go.Proofs.Ytbiiabfhngdeiaa
open Go.RowKit
set_option linter.unusedVariables false
set_option linter.unusedSimpArgs false
namespace Fl
open Tx Df Sq Hk Tr Pr

/-- Changes that are read, wherever their cells are; their lines in blocks that N names. -/
def SrcN (W : World) (N : Nat → Prop) (A : Option Addr) (l : List Ch) : Prop := ∃ ys : List Value, ys.length = l.length * 6 ∧ PCells W N l ys ∧ (ys = [] ∨ ∃ a, A = some a ∧ ∀ (j : Nat) u, ys[j]? = some u → W.cell? (a.add j) = some u)
theorem SrcN.below {W W' : World} {N : Nat → Prop} {A : Option Addr} {l : List Ch} (h : SrcN W N A l) (hb : Below W.heap.size W W') : SrcN W' N A l := by
  obtain ⟨ys, h1, h2, h3⟩ := h
  exact ⟨ys, h1, h2.kc (keepC_below hb), h3.imp id fun ⟨a, e, h⟩ => ⟨a, e, fun j u hu => (keepC_below (S := fun _ => True) hb).cell trivial (h j u hu)⟩⟩
theorem srcN_own {W : World} {N : Nat → Prop} {base n c : Nat} {A : Option Addr} {l : List Ch} (h : OwnS W N base (.slice A n c) l) : SrcN W N A l := by
  obtain ⟨xs, hr, hF⟩ := h
  refine ⟨xs, hr.1, hF, ?_⟩
  rcases hr.2 with ⟨_, h0⟩ | ⟨g, cap, cur, e, _⟩
  · refine .inl (List.eq_nil_of_length_eq_zero ?_)
    rw [hr.1, h0]
  · injection e with e1 e2 e3
    subst e1
    refine .inr ⟨_, rfl, fun j u hu => ?_⟩
    have ea : (⟨g, 0, none⟩ : Addr).add j = ⟨g, j, none⟩ := by unfold Addr.add; split <;> simp_all
    have e2' : n = l.length := e2
    subst e2'
    rw [ea, hr.cellAt j (by have := (List.getElem?_eq_some_iff.1 hu).1; rw [hr.1] at this; exact this)]
    exact hu
theorem OwnS.base {W : World} {S : Nat → Prop} {base base' : Nat} {v : Value} {l : List Ch} (h : OwnS W S base v l) (hb : base' ≤ base) : OwnS W S base' v l := by
  obtain ⟨xs, h1, h2⟩ := h
  exact ⟨xs, own_mono h1 hb, h2⟩

theorem ownS_nil (W : World) (S : Nat → Prop) (base : Nat) : OwnS W S base (.slice none 0 0) [] := ⟨[], World.ownsRow_nil _ _ _ _, PCells.nil _ _ _⟩
/-- Where a row of one's own lies. -/
theorem ownS_addr {W : World} {S : Nat → Prop} {base : Nat} {v : Value} {l : List Ch} (h : OwnS W S base v l) (h0 : 0 < l.length) : ∃ g cap, v = .slice (some ⟨g, 0, none⟩) l.length cap ∧ base ≤ g ∧ g < W.heap.size := by
  obtain ⟨xs, hr, hF⟩ := h
  rcases hr.2 with ⟨rfl, h1⟩ | ⟨g, cap, cur, rfl, hbg, hg, hc, _⟩
  · omega
  · exact ⟨g, cap, rfl, hbg, (Array.getElem?_eq_some_iff.1 hg).1⟩
/-- Changes appended onto a row of one's own; their lines lie in blocks that S names, ahead of the row. -/
theorem run_ownC {W : World} {S : Nat → Prop} {base : Nat} {v : Value} {l u : List Ch} {ty : TypeId} {m c : Nat} {A : Option Addr} {ys : List Value} (h : OwnS W S base v l) (hu : PCells W S u ys) (hyl : ys.length = u.length * 6) (hsrc : ys = [] ∨ ∃ a, A = some a ∧ ∀ (j : Nat) x, ys[j]? = some x → W.cell? (a.add j) = some x)
    (hm : u.length = m) (hn : l.length + m ≤ 100000) (hN : ∀ b, S b → b < base) (hbase : base ≤ W.heap.size) :
    ∃ v' W', (Builtin.append_ #[26, 26] ty #[v, .slice A m c]).run Try.prog W = .ok v' W' ∧ OwnS W' S base v' (l ++ u) ∧ W.grownBy W' v.ownBlock := by
  obtain ⟨i0, hi0, hz0, hz1, hz2⟩ := info_parts info_prim
  obtain ⟨A0, c0, hv0, hc0⟩ := ownS_slice h
  obtain ⟨xs, hrow, hF⟩ := h
  have h1 := one6 hu hyl
  by_cases h0 : m = 0
  · have hu0 : u = [] := List.eq_nil_of_length_eq_zero (by omega)
    subst hu0 hv0
    subst h0
    exact ⟨_, W, run_append_none Try.underlying26 hi0 hc0, by rw [List.append_nil]; exact ⟨xs, hrow, hF⟩, ⟨rfl, rfl, rfl, Nat.le_refl _, fun _ _ _ => rfl⟩⟩
  · obtain ⟨a, rfl, hcell⟩ : ∃ a, A = some a ∧ ∀ (j : Nat) x, ys[j]? = some x → W.cell? (a.add j) = some x := by
      rcases hsrc with hy | h
      · rw [hy] at hyl; simp at hyl; omega
      · exact h
    obtain ⟨g, cap, W', hr, r1, r2, r3, r4⟩ := run_append_lies (P := Try.prog) (w := W) 26 ty base 51 i0 _ 6 96 Try.underlying26 hi0 hz0 hz1 hz2 rfl (by decide) v l.length xs hrow a m c ys (by rw [hyl, hm]) hcell h1 (by omega) (by unfold maxLen; omega) (by omega) hbase W.heap.size rfl
    refine ⟨_, W', hr, ⟨xs ++ ys, by rw [List.length_append, hm]; exact r1, ?_⟩, r2⟩
    exact (hF.append hrow.1 hu).to ((alike_gr r2).mono fun b hb e => by have := own_ge hrow b e.symm; have := hN b hb; omega)
theorem wpList_ownC {W : World} {ops : Array Oper} {rest : List Oper} {o : Oper} {a : Act} {Q : Exit → Act → World → Prop} (hgd : o.guard = none) (s x : Operand)
    (ho : o.op = .call { callee := .builtin .append, args := #[s, x], argTypes := #[26, 26] })
    (S : Nat → Prop) (base m c : Nat) (v : Value) (A : Option Addr) (l u : List Ch) (ys : List Value) (hs : a.eval s = v) (hx : a.eval x = .slice A m c) (h : OwnS W S base v l) (hu : PCells W S u ys) (hyl : ys.length = u.length * 6) (hsrc : ys = [] ∨ ∃ a, A = some a ∧ ∀ (j : Nat) x, ys[j]? = some x → W.cell? (a.add j) = some x)
    (hm : u.length = m) (hn : l.length + m ≤ 100000) (hN : ∀ b, S b → b < base) (hbase : base ≤ W.heap.size)
    (hK : ∀ v' W', OwnS W' S base v' (l ++ u) → W.grownBy W' v.ownBlock → wpList Try.prog ops Q rest (a.put o.dst v') W') : wpList Try.prog ops Q (o :: rest) a W := by
  refine wpList_plain hgd fun K hK' => ?_
  obtain ⟨v', W', hrun, h2, h3⟩ := run_ownC (ty := o.type) (c := c) h hu hyl hsrc hm hn hN hbase
  unfold Oper.wp execOp
  simp only [ho, resolve, invoke, builtin, Sem.run_bind, Sem.run_pure, Result.andThen_ok, List.map_toArray, List.map_cons, List.map_nil, hs, hx, hrun]
  exact hK' _ _ (hK v' W' h2 h3)

/-- How a call of one ends. -/
def OneEnd (w : World) (N : Nat → Prop) (D : Option Addr) (m k : Nat) (D' : Option Addr) (m' k' : Nat) (o : Option (Ch × List Ch)) (e : Ending) (w' : World) : Prop :=
  (∀ z, o = some z → ∃ v, e = .returned (.tuple #[prV z.1.k z.1.nm z.1.to z.1.h.pos D m k D' m' k', v, .bool true]) ∧ OwnS w' N w.heap.size v z.2 ∧ PG w' N D m k D' m' k' z.1) ∧
  (o = none → e = .returned (.tuple #[.agg #[.int .i64 0, strV [], strV [], .int .i64 0, .slice none 0 0, .slice none 0 0], .slice none 0 0, .bool false])) ∧ Below w.heap.size w w'

/-- Between two rounds of one: x is q ahead of those from place j on, which are post. -/
structure OneInv (W : World) (N : Nat → Prop) (gq : Nat) (A1 : Option Addr) (n c1 : Nat) (D : Option Addr) (m k : Nat) (D' : Option Addr) (m' k' : Nat) (a : List Ch) (q : Ch) (j : Nat) (x : Ch) (post : List Ch) : Prop where
  on : one passP (a.drop j) q = some (x, post)
  row : OwnS W N (gq + 2) (.slice A1 n c1) (a.take j ++ post)
  bq : Blk W gq 51 #[.int .i64 x.k, strV x.nm, strV x.to, .int .i64 x.h.pos, .slice D m k, .slice D' m' k']
  br : Blk W (gq + 1) 51 #[.int .i64 0, strV [], strV [], .int .i64 0, .slice none 0 0, .slice none 0 0]
  pg : PG W N D m k D' m' k' x
  lt : lightP x = true
theorem oneInv_start {W : World} {N : Nat → Prop} {gq : Nat} {A1 : Option Addr} {n c1 : Nat} {D : Option Addr} {m k : Nat} {D' : Option Addr} {m' k' : Nat} {a : List Ch} {q : Ch} (hn : a.length = n) (ho : OwnS W N (gq + 2) (.slice A1 n c1) a)
    (h1 : Blk W gq 51 #[.int .i64 q.k, strV q.nm, strV q.to, .int .i64 q.h.pos, .slice D m k, .slice D' m' k']) (h2 : Blk W (gq + 1) 51 #[.int .i64 0, strV [], strV [], .int .i64 0, .slice none 0 0, .slice none 0 0]) (hp : PG W N D m k D' m' k' q) (hq : lightP q = true) :
    OneInv W N gq A1 n c1 D m k D' m' k' a q n q [] :=
  ⟨by rw [List.drop_of_length_le (by omega)]; rfl, by rw [List.take_of_length_le (by omega), List.append_nil]; exact ho, h1, h2, hp, hq⟩

theorem OneInv.len {W : World} {N : Nat → Prop} {gq : Nat} {A1 : Option Addr} {n c1 : Nat} {D : Option Addr} {m k : Nat} {D' : Option Addr} {m' k' : Nat} {a : List Ch} {q : Ch} {j : Nat} {x : Ch} {post : List Ch} (h : OneInv W N gq A1 n c1 D m k D' m' k' a q j x post) (hn : a.length = n) (hj : j ≤ n) : (a.take j ++ post).length = n :=
  len_mid (by rw [one_len passP h.on, List.length_drop]; omega) hn
theorem oneEnd_none {w W : World} {N : Nat → Prop} {D : Option Addr} {m k : Nat} {D' : Option Addr} {m' k' : Nat} {o : Option (Ch × List Ch)} (ho : o = none) (hb : Below w.heap.size w W) :
    OneEnd w N D m k D' m' k' o (.returned (.tuple #[.agg #[.int .i64 0, strV [], strV [], .int .i64 0, .slice none 0 0, .slice none 0 0], .slice none 0 0, .bool false])) W :=
  ⟨fun z h => (by rw [ho] at h; cases h), fun _ => rfl, hb⟩
theorem oneEnd_some {w wr : World} {N : Nat → Prop} {gq : Nat} {A1 : Option Addr} {n c1 : Nat} {D : Option Addr} {m k : Nat} {D' : Option Addr} {m' k' : Nat} {a : List Ch} {q x : Ch} {post : List Ch} (hI : OneInv wr N gq A1 n c1 D m k D' m' k' a q 0 x post) (hg : gq = w.heap.size) (hN : ∀ b, N b → b < gq) (hb : Below gq w wr) (v0 v1 v2 v3 v4 v5 : Value) :
    OneEnd w N D m k D' m' k' (one passP a q) (.returned (.tuple #[.agg #[.int .i64 x.k, strV x.nm, strV x.to, .int .i64 x.h.pos, .slice D m k, .slice D' m' k'], .slice A1 n c1, .bool true]))
      ((((((wr.setCell ⟨gq + 1, 0, none⟩ v0).setCell ⟨gq + 1, 1, none⟩ v1).setCell ⟨gq + 1, 2, none⟩ v2).setCell ⟨gq + 1, 3, none⟩ v3).setCell ⟨gq + 1, 4, none⟩ v4).setCell ⟨gq + 1, 5, none⟩ v5) := by
  have hon := hI.on
  have hrow := hI.row
  rw [List.drop_zero] at hon
  rw [List.take_zero, List.nil_append] at hrow
  have hne : some (gq + 1) ≠ (Value.slice A1 n c1).ownBlock := fun e => by have := ownS_ge hrow _ e.symm; omega
  subst hg
  refine ⟨fun z h => ?_, fun h => (by rw [hon] at h; cases h), below_set6 hb (Nat.le_succ _) v0 v1 v2 v3 v4 v5⟩
  rw [hon] at h
  injection h with h
  subst h
  exact ⟨_, rfl, (hrow.set6 hne (fun h => by have := hN _ h; omega) v0 v1 v2 v3 v4 v5).base (Nat.le_add_right _ 2), hI.pg.to_ ((alike_set6 wr _ v0 v1 v2 v3 v4 v5).mono fun b hb e => by subst e; have := hN _ hb; omega)⟩
theorem oneInv_step {wr wc : World} {N : Nat → Prop} {gq g i : Nat} {n c1 : Nat} {D : Option Addr} {m k : Nat} {D' : Option Addr} {m' k' : Nat} {a : List Ch} {q x p x' y' : Ch} {post : List Ch} {B : Option Addr} {r s : Nat} {B' : Option Addr} {r' s' : Nat}
    (hI : OneInv wr N gq (some ⟨g, 0, none⟩) n c1 D m k D' m' k' a q (i + 1) x post) (hn : a.length = n) (hx : a[i]? = some p) (hp : passP p x = some (x', y')) (hlp : lightP p = true) (hN : ∀ b, N b → b < gq) (hb : Below wr.heap.size wr wc) (hv : PG wr N B r s B' r' s' p) :
    OneInv ((((((((((((wc.setCell ⟨gq, 0, none⟩ (.int .i64 x'.k)).setCell ⟨gq, 1, none⟩ (strV x'.nm)).setCell ⟨gq, 2, none⟩ (strV x'.to)).setCell ⟨gq, 3, none⟩ (.int .i64 x'.h.pos)).setCell ⟨gq, 4, none⟩ (.slice D m k)).setCell ⟨gq, 5, none⟩ (.slice D' m' k')).setCell ⟨g, i * 6, none⟩ (.int .i64 y'.k)).setCell ⟨g, i * 6 + 1, none⟩ (strV y'.nm)).setCell ⟨g, i * 6 + 2, none⟩ (strV y'.to)).setCell ⟨g, i * 6 + 3, none⟩ (.int .i64 y'.h.pos)).setCell ⟨g, i * 6 + 4, none⟩ (.slice B r s)).setCell ⟨g, i * 6 + 5, none⟩ (.slice B' r' s'))
      N gq (some ⟨g, 0, none⟩) n c1 D m k D' m' k' a q i x' (y' :: post) := by
  have hi : i < n := by have := (List.getElem?_eq_some_iff.1 hx).1; omega
  have hlen := hI.len hn (by omega)
  have hgg : gq + 2 ≤ g := ownS_ge hI.row g rfl
  have way := (passP_way hp).2.2
  have hl2 := passP_lt hp hlp hI.lt
  have hrow := (hI.row.below hb).set6 (b := gq) (fun e => by injection e with e; have e : gq = g := e; omega) (fun h => by have := hN _ h; omega) (.int .i64 x'.k) (strV x'.nm) (strV x'.to) (.int .i64 x'.h.pos) (.slice D m k) (.slice D' m' k')
  have al6 := alike_set6 wc gq (.int .i64 x'.k) (strV x'.nm) (strV x'.to) (.int .i64 x'.h.pos) (.slice D m k) (.slice D' m' k')
  have hNs : ∀ b, N b → b < wr.heap.size := fun b h => Nat.lt_trans (hN b h) hI.bq.lt
  have pv := (way_pg2 way (hv.to_ ((alike_below hb).mono hNs)) hI.pg.to).to_ (al6.mono fun b (hb : N b) e => by subst e; have := hN _ hb; omega)
  have px := (way_pg1 way (hI.pg.to_ ((alike_below hb).mono hNs)) hv.nm).to_ (al6.mono fun b (hb : N b) e => by subst e; have := hN _ hb; omega)
  have b1 := blk6 (hI.bq.below hb hI.bq.lt) (.int .i64 x'.k) (strV x'.nm) (strV x'.to) (.int .i64 x'.h.pos) (.slice D m k) (.slice D' m' k')
  have b2 := blk_set6 (hI.br.below hb hI.br.lt) (show gq + 1 ≠ gq by omega) (.int .i64 x'.k) (strV x'.nm) (strV x'.to) (.int .i64 x'.h.pos) (.slice D m k) (.slice D' m' k')
  have hst := hrow.store (k := i) hlen (fun h => by have := hN _ h; omega) pv
  rw [set_mid hx] at hst
  exact ⟨one_step passP hx hI.on hp, hst, blk_row6 b1 (by omega) i _ _ _ _ _ _, blk_row6 b2 (by omega) i _ _ _ _ _ _, px.to_ ((alike_row6 _ g i _ _ _ _ _ _).mono fun b (hb : N b) e => by subst e; have := hN _ hb; omega), hl2.1⟩

set_option maxRecDepth 100000 in
set_option maxHeartbeats 16000000 in
theorem refOne (N : Nat → Prop) (A : Option Addr) (n c : Nat) (D : Option Addr) (m k : Nat) (D' : Option Addr) (m' k' : Nat) (a : List Ch) (q : Ch) (w : World) (hn : a.length = n) (hle : n ≤ 1000) (hN : ∀ b, N b → b < w.heap.size) (ha : Lt a) (hq : lightP q = true)
    (hS : SrcN w N A a) (hv : PG w N D m k D' m' k' q) :
    Calls Try.prog 41 #[.slice A n c, prV q.k q.nm q.to q.h.pos D m k D' m' k'] w (OneEnd w N D m k D' m' k' (one passP a q)) := by
  have HN := Lib.hid hn; have HA := Lib.hid ha; have HQ := Lib.hid hq
  have hbw := two_box w (.cells #[.int .i64 q.k, strV q.nm, strV q.to, .int .i64 q.h.pos, .slice D m k, .slice D' m' k'] 51) (.cells #[.int .i64 0, strV [], strV [], .int .i64 0, .slice none 0 0, .slice none 0 0] 51)
  have b1 := (Blk.new w 51 #[.int .i64 q.k, strV q.nm, strV q.to, .int .i64 q.h.pos, .slice D m k, .slice D' m' k']).alloc (.cells #[.int .i64 0, strV [], strV [], .int .i64 0, .slice none 0 0, .slice none 0 0] 51)
  have b2 := Blk.new (w.alloc (.cells #[.int .i64 q.k, strV q.nm, strV q.to, .int .i64 q.h.pos, .slice D m k, .slice D' m' k'] 51)) 51 #[.int .i64 0, strV [], strV [], .int .i64 0, .slice none 0 0, .slice none 0 0]
  simp only [World.size_alloc] at b2
  obtain ⟨ys, hy1, hy2, hy3⟩ := hS.below hbw
  have Y1 := Lib.hid hy1; have Y2 := Lib.hid hy2; have Y3 := Lib.hid hy3
  have HV := Lib.hid (hv.to_ ((alike_below hbw).mono hN))
  have hsz : ((w.alloc (.cells #[.int .i64 q.k, strV q.nm, strV q.to, .int .i64 q.h.pos, .slice D m k, .slice D' m' k'] 51)).alloc (.cells #[.int .i64 0, strV [], strV [], .int .i64 0, .slice none 0 0, .slice none 0 0] 51)).heap.size = w.heap.size + 2 := by simp
  have HBW := Lib.hid hbw; have HB1 := Lib.hid b1; have HB2 := Lib.hid b2; have HSZ := Lib.hid hsz
  clear hn ha hq hS hv hy1 hy2 hy3 hbw b1 b2 hsz
  go_enter Try.func41, Try.ntmps41
  go_upto_region 1 with fail
  generalize ((w.alloc (.cells #[.int .i64 q.k, strV q.nm, strV q.to, .int .i64 q.h.pos, .slice D m k, .slice D' m' k'] 51)).alloc (.cells #[.int .i64 0, strV [], strV [], .int .i64 0, .slice none 0 0, .slice none 0 0] 51)) = w0 at *
  obtain ⟨gq, hgq⟩ : ∃ g, w.heap.size = g := ⟨_, rfl⟩
  rw [hgq] at HB1 HB2 HSZ HBW ⊢
  have HGQ := Lib.hid hgq
  have hN' : ∀ b, N b → b < gq := by rw [← hgq]; exact hN
  have HNN := Lib.hid hN'
  clear hgq hN hN'
  go_wp2_with (at_builtin; refine wpList_ownC rfl (.const (.slice none 0 0)) (.tmp 12) rfl N w0.heap.size n c (.slice none 0 0) A [] a ys rfl rfl (ownS_nil _ _ _) Y2.out Y1.out Y3.out HN.out (by simp; omega) (fun b h => by have := HNN.out b h; rw [HSZ.out]; omega) (Nat.le_refl _) ?_; intro v w1 ho hg; replace HB1 := Lib.hid (HB1.out.gr hg (nn _)); replace HB2 := Lib.hid (HB2.out.gr hg (nn _)); replace HBW := Lib.hid (HBW.out.trans ((below_gr hg).mono (by rw [HSZ.out]; omega))); replace HV := Lib.hid (HV.out.to_ ((alike_gr hg).mono (fun b _ => nn b))); have HO := Lib.hid (show OwnS w1 N w0.heap.size v a from ho); clear ho hg; obtain ⟨A1, c1, hv1, hc1⟩ : ∃ A1 c1, v = .slice A1 n c1 ∧ n ≤ c1 := (ownS_slice HO.out).elim fun A1 h => h.elim fun c1 h => ⟨A1, c1, by rw [← HN.out]; exact h.1, by rw [← HN.out]; exact h.2⟩; subst hv1)
  clear Y1 Y2 Y3
  have hrow : gq + 2 = w0.heap.size := HSZ.out.symm
  rw [← hrow] at HO
  clear hrow HSZ
  go_loopw [8] (fun i wr => ∃ (j : Nat) (x : Ch) (post : List Ch), j ≤ n ∧ i = .int .i64 ((j : Int) - 1) ∧ OneInv wr N gq A1 n c1 D m k D' m' k' a q j x post ∧ Below gq w wr) (fun i _ => (intOf i + 1).toNat)
  case atStart => exact ⟨n, q, [], Nat.le_refl _, rfl, oneInv_start HN.out HO.out HB1.out HB2.out HV.out HQ.out, HBW.out⟩
  case round =>
    clear HO HB1 HB2 HV HBW
    obtain ⟨j, x, post, hj, rfl, hI, hbw⟩ := hrel
    have HBW := Lib.hid hbw; have HI := Lib.hid hI
    clear hbw hI
    have HE : Hid (gq = w.heap.size) := Lib.hid HGQ.out.symm
    by_cases h0 : j = 0
    · subst h0
      have ez : (((0 : Nat) : Int) - 1) = -1 := rfl
      rw [ez]; clear ez
      have hB1 := HI.out.bq; have hB2 := HI.out.br
      have x0 := hB1.cell 0 rfl; have x1 := hB1.cell 1 rfl; have x2 := hB1.cell 2 rfl; have x3 := hB1.cell 3 rfl; have x4 := hB1.cell 4 rfl; have x5 := hB1.cell 5 rfl
      have z0 := hB2.cell 0 rfl; have z1 := hB2.cell 1 rfl; have z2 := hB2.cell 2 rfl; have z3 := hB2.cell 3 rfl; have z4 := hB2.cell 4 rfl; have z5 := hB2.cell 5 rfl
      have f0 := hB2.frozen 0; have f1 := hB2.frozen 1; have f2 := hB2.frozen 2; have f3 := hB2.frozen 3; have f4 := hB2.frozen 4; have f5 := hB2.frozen 5
      have hlt := hB2.lt
      have HB3 := Lib.hid (blk6 hB2 (.int .i64 x.k) (strV x.nm) (strV x.to) (.int .i64 x.h.pos) (.slice D m k) (.slice D' m' k'))
      clear hB1 hB2
      go_wp2_with fail
      have hoe := oneEnd_some HI.out HE.out HNN.out HBW.out (.int .i64 x.k) (strV x.nm) (strV x.to) (.int .i64 x.h.pos) (.slice D m k) (.slice D' m' k')
      have b6 := HB3.out
      generalize (World.setCell (World.setCell (World.setCell (World.setCell (World.setCell (World.setCell wr ⟨gq + 1, 0, none⟩ (.int .i64 x.k)) ⟨gq + 1, 1, none⟩ (strV x.nm)) ⟨gq + 1, 2, none⟩ (strV x.to)) ⟨gq + 1, 3, none⟩ (.int .i64 x.h.pos)) ⟨gq + 1, 4, none⟩ (.slice D m k)) ⟨gq + 1, 5, none⟩ (.slice D' m' k')) = W9 at *
      have HOE := Lib.hid hoe
      clear hoe x0 x1 x2 x3 x4 x5 z0 z1 z2 z3 z4 z5 f0 f1 f2 f3 f4 f5 hlt
      have u0 := b6.cell 0 rfl; have u1 := b6.cell 1 rfl; have u2 := b6.cell 2 rfl; have u3 := b6.cell 3 rfl; have u4 := b6.cell 4 rfl; have u5 := b6.cell 5 rfl
      refine bodyPost_ret (v := .tuple #[.agg #[.int .i64 x.k, strV x.nm, strV x.to, .int .i64 x.h.pos, .slice D m k, .slice D' m' k'], .slice A1 n c1, .bool true]) (by simp [results, Try.results41, go_sem, u0, u1, u2, u3, u4, u5]) rfl ?_
      exact HOE.out
    · obtain ⟨i, rfl⟩ : ∃ i, j = i + 1 := ⟨j - 1, by omega⟩
      have ei : ((i + 1 : Nat) : Int) - 1 = (i : Int) := by omega
      rw [ei]; clear ei h0
      have hin : i < n := by omega
      have hki : (i : Int) < (n : Int) := by omega
      obtain ⟨p, hx⟩ : ∃ p, a[i]? = some p := ⟨_, List.getElem?_eq_getElem (by rw [HN.out]; exact hin)⟩
      obtain ⟨g, cap, hv, hgg, hg2⟩ := ownS_addr HI.out.row (by rw [HI.out.len HN.out hj]; omega)
      injection hv with hv1 hv2 hv3
      subst hv1
      clear hv2 hv3
      obtain ⟨B, r, s, B', r', s', c0, c1', c2, c3, c4, c5, hf, hpv⟩ := HI.out.row.elem (HI.out.len HN.out hj) (at_mid hx)
      have HX := Lib.hid hx; have HPV := Lib.hid hpv; have HLP := Lib.hid (HA.out p (List.mem_of_getElem? hx)); have HGG := Lib.hid hgg
      have hNs : ∀ b, N b → b < wr.heap.size := fun b h => Nat.lt_trans (HNN.out b h) HI.out.bq.lt
      have HVP := Lib.hid (hpv.mono hNs : PG wr (· < wr.heap.size) B r s B' r' s' p).pv
      have HVX := Lib.hid (HI.out.pg.mono hNs : PG wr (· < wr.heap.size) D m k D' m' k' x).pv
      have hbq := HI.out.bq
      have HC : Hid (∀ W, Below wr.heap.size wr W → W.cell? ⟨g, i * 6, none⟩ = some (.int .i64 p.k) ∧ W.cell? ⟨g, i * 6 + 1, none⟩ = some (strV p.nm) ∧ W.cell? ⟨g, i * 6 + 2, none⟩ = some (strV p.to) ∧ W.cell? ⟨g, i * 6 + 3, none⟩ = some (.int .i64 p.h.pos) ∧ W.cell? ⟨g, i * 6 + 4, none⟩ = some (.slice B r s) ∧ W.cell? ⟨g, i * 6 + 5, none⟩ = some (.slice B' r' s') ∧ W.cell? ⟨gq, 0, none⟩ = some (.int .i64 x.k) ∧ W.cell? ⟨gq, 1, none⟩ = some (strV x.nm) ∧ W.cell? ⟨gq, 2, none⟩ = some (strV x.to) ∧ W.cell? ⟨gq, 3, none⟩ = some (.int .i64 x.h.pos) ∧ W.cell? ⟨gq, 4, none⟩ = some (.slice D m k) ∧ W.cell? ⟨gq, 5, none⟩ = some (.slice D' m' k')) := Lib.hid (fun W hb => by
        have z := hbq.below hb hbq.lt
        exact ⟨cell_b hb c0 hg2, cell_b hb c1' hg2, cell_b hb c2 hg2, cell_b hb c3 hg2, cell_b hb c4 hg2, cell_b hb c5 hg2, z.cell 0 rfl, z.cell 1 rfl, z.cell 2 rfl, z.cell 3 rfl, z.cell 4 rfl, z.cell 5 rfl⟩)
      have HG2 := Lib.hid hg2
      clear hx hpv hgg hbq c0 c1' c2 c3 c4 c5 hf hNs
      cases ho : passP p x with
      | none =>
        have HOO := Lib.hid ho
        have H1 : Hid (∀ W, Below wr.heap.size wr W → Calls Try.prog 56 #[prV p.k p.nm p.to p.h.pos B r s B' r' s', prV x.k x.nm x.to x.h.pos D m k D' m' k'] W (fun e u => e = .returned (.tuple #[.agg #[.int .i64 0, strV [], strV [], .int .i64 0, .slice none 0 0, .slice none 0 0], .agg #[.int .i64 0, strV [], strV [], .int .i64 0, .slice none 0 0, .slice none 0 0], .bool false]) ∧ Below W.heap.size W u)) := Lib.hid (fun W h =>
          (refPassE B r s B' r' s' D m k D' m' k' p x W (lt_len HPV.out HLP.out) (lt_len HI.out.pg HI.out.lt) (HVP.out.mv h) (HVX.out.mv h)).mono fun e u h => ⟨h.2.1 HOO.out, h.2.2⟩)
        clear ho
        go_upto_region 5 with fail
        have hss : ∀ W, Below wr.heap.size wr W → Below wr.heap.size wr W ∧ W.cell? ⟨g, i * 6, none⟩ = some (.int .i64 p.k) ∧ W.cell? ⟨g, i * 6 + 1, none⟩ = some (strV p.nm) ∧ W.cell? ⟨g, i * 6 + 2, none⟩ = some (strV p.to) ∧ W.cell? ⟨g, i * 6 + 3, none⟩ = some (.int .i64 p.h.pos) ∧ W.cell? ⟨g, i * 6 + 4, none⟩ = some (.slice B r s) ∧ W.cell? ⟨g, i * 6 + 5, none⟩ = some (.slice B' r' s') ∧ W.cell? ⟨gq, 0, none⟩ = some (.int .i64 x.k) ∧ W.cell? ⟨gq, 1, none⟩ = some (strV x.nm) ∧ W.cell? ⟨gq, 2, none⟩ = some (strV x.to) ∧ W.cell? ⟨gq, 3, none⟩ = some (.int .i64 x.h.pos) ∧ W.cell? ⟨gq, 4, none⟩ = some (.slice D m k) ∧ W.cell? ⟨gq, 5, none⟩ = some (.slice D' m' k') := fun W hb => ⟨hb, HC.out W hb⟩
        have HSS := Lib.hid hss
        have HKD := Lib.hid (hss wr.drew (Cut2.belD0 wr))
        have HKA : Hid (∀ W o, (Below wr.heap.size wr W ∧ W.cell? ⟨g, i * 6, none⟩ = some (.int .i64 p.k) ∧ W.cell? ⟨g, i * 6 + 1, none⟩ = some (strV p.nm) ∧ W.cell? ⟨g, i * 6 + 2, none⟩ = some (strV p.to) ∧ W.cell? ⟨g, i * 6 + 3, none⟩ = some (.int .i64 p.h.pos) ∧ W.cell? ⟨g, i * 6 + 4, none⟩ = some (.slice B r s) ∧ W.cell? ⟨g, i * 6 + 5, none⟩ = some (.slice B' r' s') ∧ W.cell? ⟨gq, 0, none⟩ = some (.int .i64 x.k) ∧ W.cell? ⟨gq, 1, none⟩ = some (strV x.nm) ∧ W.cell? ⟨gq, 2, none⟩ = some (strV x.to) ∧ W.cell? ⟨gq, 3, none⟩ = some (.int .i64 x.h.pos) ∧ W.cell? ⟨gq, 4, none⟩ = some (.slice D m k) ∧ W.cell? ⟨gq, 5, none⟩ = some (.slice D' m' k')) → Below wr.heap.size wr (W.alloc o) ∧ (W.alloc o).cell? ⟨g, i * 6, none⟩ = some (.int .i64 p.k) ∧ (W.alloc o).cell? ⟨g, i * 6 + 1, none⟩ = some (strV p.nm) ∧ (W.alloc o).cell? ⟨g, i * 6 + 2, none⟩ = some (strV p.to) ∧ (W.alloc o).cell? ⟨g, i * 6 + 3, none⟩ = some (.int .i64 p.h.pos) ∧ (W.alloc o).cell? ⟨g, i * 6 + 4, none⟩ = some (.slice B r s) ∧ (W.alloc o).cell? ⟨g, i * 6 + 5, none⟩ = some (.slice B' r' s') ∧ (W.alloc o).cell? ⟨gq, 0, none⟩ = some (.int .i64 x.k) ∧ (W.alloc o).cell? ⟨gq, 1, none⟩ = some (strV x.nm) ∧ (W.alloc o).cell? ⟨gq, 2, none⟩ = some (strV x.to) ∧ (W.alloc o).cell? ⟨gq, 3, none⟩ = some (.int .i64 x.h.pos) ∧ (W.alloc o).cell? ⟨gq, 4, none⟩ = some (.slice D m k) ∧ (W.alloc o).cell? ⟨gq, 5, none⟩ = some (.slice D' m' k')) := Lib.hid (fun W o h => hss _ (h.1.alloc h.1.size o))
        have HKS : Hid (∀ W T v0 v1 v2 v3 v4 v5, (Below wr.heap.size wr W ∧ W.cell? ⟨g, i * 6, none⟩ = some (.int .i64 p.k) ∧ W.cell? ⟨g, i * 6 + 1, none⟩ = some (strV p.nm) ∧ W.cell? ⟨g, i * 6 + 2, none⟩ = some (strV p.to) ∧ W.cell? ⟨g, i * 6 + 3, none⟩ = some (.int .i64 p.h.pos) ∧ W.cell? ⟨g, i * 6 + 4, none⟩ = some (.slice B r s) ∧ W.cell? ⟨g, i * 6 + 5, none⟩ = some (.slice B' r' s') ∧ W.cell? ⟨gq, 0, none⟩ = some (.int .i64 x.k) ∧ W.cell? ⟨gq, 1, none⟩ = some (strV x.nm) ∧ W.cell? ⟨gq, 2, none⟩ = some (strV x.to) ∧ W.cell? ⟨gq, 3, none⟩ = some (.int .i64 x.h.pos) ∧ W.cell? ⟨gq, 4, none⟩ = some (.slice D m k) ∧ W.cell? ⟨gq, 5, none⟩ = some (.slice D' m' k')) → wr.heap.size ≤ T → Below wr.heap.size wr ((((((W.setCell ⟨T, 0, none⟩ v0).setCell ⟨T, 1, none⟩ v1).setCell ⟨T, 2, none⟩ v2).setCell ⟨T, 3, none⟩ v3).setCell ⟨T, 4, none⟩ v4).setCell ⟨T, 5, none⟩ v5) ∧ ((((((W.setCell ⟨T, 0, none⟩ v0).setCell ⟨T, 1, none⟩ v1).setCell ⟨T, 2, none⟩ v2).setCell ⟨T, 3, none⟩ v3).setCell ⟨T, 4, none⟩ v4).setCell ⟨T, 5, none⟩ v5).cell? ⟨g, i * 6, none⟩ = some (.int .i64 p.k) ∧ ((((((W.setCell ⟨T, 0, none⟩ v0).setCell ⟨T, 1, none⟩ v1).setCell ⟨T, 2, none⟩ v2).setCell ⟨T, 3, none⟩ v3).setCell ⟨T, 4, none⟩ v4).setCell ⟨T, 5, none⟩ v5).cell? ⟨g, i * 6 + 1, none⟩ = some (strV p.nm) ∧ ((((((W.setCell ⟨T, 0, none⟩ v0).setCell ⟨T, 1, none⟩ v1).setCell ⟨T, 2, none⟩ v2).setCell ⟨T, 3, none⟩ v3).setCell ⟨T, 4, none⟩ v4).setCell ⟨T, 5, none⟩ v5).cell? ⟨g, i * 6 + 2, none⟩ = some (strV p.to) ∧ ((((((W.setCell ⟨T, 0, none⟩ v0).setCell ⟨T, 1, none⟩ v1).setCell ⟨T, 2, none⟩ v2).setCell ⟨T, 3, none⟩ v3).setCell ⟨T, 4, none⟩ v4).setCell ⟨T, 5, none⟩ v5).cell? ⟨g, i * 6 + 3, none⟩ = some (.int .i64 p.h.pos) ∧ ((((((W.setCell ⟨T, 0, none⟩ v0).setCell ⟨T, 1, none⟩ v1).setCell ⟨T, 2, none⟩ v2).setCell ⟨T, 3, none⟩ v3).setCell ⟨T, 4, none⟩ v4).setCell ⟨T, 5, none⟩ v5).cell? ⟨g, i * 6 + 4, none⟩ = some (.slice B r s) ∧ ((((((W.setCell ⟨T, 0, none⟩ v0).setCell ⟨T, 1, none⟩ v1).setCell ⟨T, 2, none⟩ v2).setCell ⟨T, 3, none⟩ v3).setCell ⟨T, 4, none⟩ v4).setCell ⟨T, 5, none⟩ v5).cell? ⟨g, i * 6 + 5, none⟩ = some (.slice B' r' s') ∧ ((((((W.setCell ⟨T, 0, none⟩ v0).setCell ⟨T, 1, none⟩ v1).setCell ⟨T, 2, none⟩ v2).setCell ⟨T, 3, none⟩ v3).setCell ⟨T, 4, none⟩ v4).setCell ⟨T, 5, none⟩ v5).cell? ⟨gq, 0, none⟩ = some (.int .i64 x.k) ∧ ((((((W.setCell ⟨T, 0, none⟩ v0).setCell ⟨T, 1, none⟩ v1).setCell ⟨T, 2, none⟩ v2).setCell ⟨T, 3, none⟩ v3).setCell ⟨T, 4, none⟩ v4).setCell ⟨T, 5, none⟩ v5).cell? ⟨gq, 1, none⟩ = some (strV x.nm) ∧ ((((((W.setCell ⟨T, 0, none⟩ v0).setCell ⟨T, 1, none⟩ v1).setCell ⟨T, 2, none⟩ v2).setCell ⟨T, 3, none⟩ v3).setCell ⟨T, 4, none⟩ v4).setCell ⟨T, 5, none⟩ v5).cell? ⟨gq, 2, none⟩ = some (strV x.to) ∧ ((((((W.setCell ⟨T, 0, none⟩ v0).setCell ⟨T, 1, none⟩ v1).setCell ⟨T, 2, none⟩ v2).setCell ⟨T, 3, none⟩ v3).setCell ⟨T, 4, none⟩ v4).setCell ⟨T, 5, none⟩ v5).cell? ⟨gq, 3, none⟩ = some (.int .i64 x.h.pos) ∧ ((((((W.setCell ⟨T, 0, none⟩ v0).setCell ⟨T, 1, none⟩ v1).setCell ⟨T, 2, none⟩ v2).setCell ⟨T, 3, none⟩ v3).setCell ⟨T, 4, none⟩ v4).setCell ⟨T, 5, none⟩ v5).cell? ⟨gq, 4, none⟩ = some (.slice D m k) ∧ ((((((W.setCell ⟨T, 0, none⟩ v0).setCell ⟨T, 1, none⟩ v1).setCell ⟨T, 2, none⟩ v2).setCell ⟨T, 3, none⟩ v3).setCell ⟨T, 4, none⟩ v4).setCell ⟨T, 5, none⟩ v5).cell? ⟨gq, 5, none⟩ = some (.slice D' m' k')) := Lib.hid (fun W T v0 v1 v2 v3 v4 v5 h hT => hss _ (Cut2.bel_set6 h.1 hT v0 v1 v2 v3 v4 v5))
        clear hss
        go_cut [9, 10, 11, 39, 40] from 17 (fun s9 s10 s11 s39 s40 wx => ∃ (T U : Nat), s9 = .pointer (some ⟨T, 0, none⟩) ∧ s10 = .pointer (some ⟨U, 0, none⟩) ∧ s11 = .bool false ∧ Cut2.Lay wr wx T U #[.int .i64 0, .string ⟨#[]⟩, .string ⟨#[]⟩, .int .i64 0, .slice none 0 0, .slice none 0 0] #[.int .i64 0, .string ⟨#[]⟩, .string ⟨#[]⟩, .int .i64 0, .slice none 0 0, .slice none 0 0] ∧ s39 = undef ∧ s40 = undef)
        case first =>
          obtain ⟨_, y0, y1, y2, y3, y4, y5, x0, x1, x2, x3, x4, x5⟩ := HSS.out wr (Below.refl _ _)
          go_region_held3 (fun W => Below wr.heap.size wr W ∧ W.cell? ⟨g, i * 6, none⟩ = some (.int .i64 p.k) ∧ W.cell? ⟨g, i * 6 + 1, none⟩ = some (strV p.nm) ∧ W.cell? ⟨g, i * 6 + 2, none⟩ = some (strV p.to) ∧ W.cell? ⟨g, i * 6 + 3, none⟩ = some (.int .i64 p.h.pos) ∧ W.cell? ⟨g, i * 6 + 4, none⟩ = some (.slice B r s) ∧ W.cell? ⟨g, i * 6 + 5, none⟩ = some (.slice B' r' s') ∧ W.cell? ⟨gq, 0, none⟩ = some (.int .i64 x.k) ∧ W.cell? ⟨gq, 1, none⟩ = some (strV x.nm) ∧ W.cell? ⟨gq, 2, none⟩ = some (strV x.to) ∧ W.cell? ⟨gq, 3, none⟩ = some (.int .i64 x.h.pos) ∧ W.cell? ⟨gq, 4, none⟩ = some (.slice D m k) ∧ W.cell? ⟨gq, 5, none⟩ = some (.slice D' m' k'))
            (first
              | (with_reducible exact HKD.out)
              | (with_reducible exact HSS.out _ (Cut2.belD1 wr _))
              | (with_reducible exact HSS.out _ (Cut2.belD2 wr _ _))
              | (with_reducible exact hS1)
              | (with_reducible exact HKA.out _ _ hS1)
              | (with_reducible exact HKA.out _ _ (HKA.out _ _ hS1))
              | (with_reducible exact HKS.out _ _ _ _ _ _ _ _ hS1 tlp)
              | (with_reducible exact HKS.out _ _ _ _ _ _ _ _ hS1 tlq)
              | (with_reducible exact HKA.out _ _ (HKS.out _ _ _ _ _ _ _ _ hS1 tlp))
              | (with_reducible exact HKS.out _ _ _ _ _ _ _ _ (HKS.out _ _ _ _ _ _ _ _ hS1 tlp) tlq)
              | (with_reducible exact HKS.out _ _ _ _ _ _ _ _ (HKS.out _ _ _ _ _ _ _ _ hS1 tlq) tlp))
            (first
              | (go_at_call 56; (with_reducible refine (H1.out (wr.drew) (Cut2.belD0 wr )).mono ?_); rintro e u1 ⟨rfl, hb⟩; have hbc := Cut2.thrD0 hb; have hS1 := HSS.out u1 hbc; have HU1 := Lib.hid hbc; have tl1 := HU1.out.size; clear hb hbc)
              | (go_at_call 56; (with_reducible refine (H1.out ((wr.alloc (.cells #[.int .i64 0, strV [], strV [], .int .i64 0, .slice none 0 0, .slice none 0 0] 51)).drew) (Cut2.belD1 wr (.cells #[.int .i64 0, strV [], strV [], .int .i64 0, .slice none 0 0, .slice none 0 0] 51))).mono ?_); rintro e u1 ⟨rfl, hb⟩; have hbc := Cut2.thrD1 hb; have zp := Cut2.newD1 hb; have tlp := Nat.le_refl wr.heap.size; have hS1 := HSS.out u1 hbc; have HU1 := Lib.hid hbc; have tl1 := HU1.out.size; have pp0 := zp.cell 0 (u := .int .i64 0) rfl; have ppf0 := zp.frozen 0; have pp1 := zp.cell 1 (u := strV []) rfl; have ppf1 := zp.frozen 1; have pp2 := zp.cell 2 (u := strV []) rfl; have ppf2 := zp.frozen 2; have pp3 := zp.cell 3 (u := .int .i64 0) rfl; have ppf3 := zp.frozen 3; have pp4 := zp.cell 4 (u := .slice none 0 0) rfl; have ppf4 := zp.frozen 4; have pp5 := zp.cell 5 (u := .slice none 0 0) rfl; have ppf5 := zp.frozen 5; have ppl := zp.lt; clear hb hbc)
              | (go_at_call 56; (with_reducible refine (H1.out (((wr.alloc (.cells #[.int .i64 0, strV [], strV [], .int .i64 0, .slice none 0 0, .slice none 0 0] 51)).alloc (.cells #[.int .i64 0, strV [], strV [], .int .i64 0, .slice none 0 0, .slice none 0 0] 51)).drew) (Cut2.belD2 wr (.cells #[.int .i64 0, strV [], strV [], .int .i64 0, .slice none 0 0, .slice none 0 0] 51) (.cells #[.int .i64 0, strV [], strV [], .int .i64 0, .slice none 0 0, .slice none 0 0] 51))).mono ?_); rintro e u1 ⟨rfl, hb⟩; have hbc := Cut2.thrD2 hb; obtain ⟨zp, zq⟩ := Cut2.newD2 hb; have tlp := Nat.le_refl wr.heap.size; have zpq := Nat.lt_succ_self wr.heap.size; have tlq := Nat.le_succ wr.heap.size; have hS1 := HSS.out u1 hbc; have HU1 := Lib.hid hbc; have tl1 := HU1.out.size; have pp0 := zp.cell 0 (u := .int .i64 0) rfl; have ppf0 := zp.frozen 0; have pp1 := zp.cell 1 (u := strV []) rfl; have ppf1 := zp.frozen 1; have pp2 := zp.cell 2 (u := strV []) rfl; have ppf2 := zp.frozen 2; have pp3 := zp.cell 3 (u := .int .i64 0) rfl; have ppf3 := zp.frozen 3; have pp4 := zp.cell 4 (u := .slice none 0 0) rfl; have ppf4 := zp.frozen 4; have pp5 := zp.cell 5 (u := .slice none 0 0) rfl; have ppf5 := zp.frozen 5; have ppl := zp.lt; have rr0 := zq.cell 0 (u := .int .i64 0) rfl; have rrf0 := zq.frozen 0; have rr1 := zq.cell 1 (u := strV []) rfl; have rrf1 := zq.frozen 1; have rr2 := zq.cell 2 (u := strV []) rfl; have rrf2 := zq.frozen 2; have rr3 := zq.cell 3 (u := .int .i64 0) rfl; have rrf3 := zq.frozen 3; have rr4 := zq.cell 4 (u := .slice none 0 0) rfl; have rrf4 := zq.frozen 4; have rr5 := zq.cell 5 (u := .slice none 0 0) rfl; have rrf5 := zq.frozen 5; have rrl := zq.lt; clear hb hbc))
          all_goals (try go_wp2_with fail)
          all_goals go_meet
          (with_reducible exact ⟨_, _, rfl, rfl, rfl, Cut2.lay_aa HU1.out, rfl, rfl⟩)
          (with_reducible exact ⟨_, _, rfl, rfl, rfl, (Cut2.lay_aa HU1.out).swap, rfl, rfl⟩)
          (with_reducible exact ⟨_, _, rfl, rfl, rfl, Cut2.lay_sa HU1.out zp tlp, rfl, rfl⟩)
          (with_reducible exact ⟨_, _, rfl, rfl, rfl, Cut2.lay_ss HU1.out zp zq (Nat.ne_of_lt zpq) tlp tlq, rfl, rfl⟩)
          (with_reducible exact ⟨_, _, rfl, rfl, rfl, (Cut2.lay_sa HU1.out zp tlp).swap, rfl, rfl⟩)
          (with_reducible exact ⟨_, _, rfl, rfl, rfl, Cut2.lay_ss HU1.out zq zp (Nat.ne_of_gt zpq) tlq tlp, rfl, rfl⟩)
        case rest =>
          obtain ⟨T, U, rfl, rfl, rfl, ⟨b_x, b_y, hlT, hlU, hb⟩, rfl, rfl⟩ := hcut
          clear HSS HKD HKA HKS H1
          have hB2 := HI.out.br.below hb HI.out.br.lt
          have hlt := hB2.lt
          have z0 := hB2.cell 0 rfl; have z1 := hB2.cell 1 rfl; have z2 := hB2.cell 2 rfl; have z3 := hB2.cell 3 rfl; have z4 := hB2.cell 4 rfl; have z5 := hB2.cell 5 rfl
          have f0 := hB2.frozen 0; have f1 := hB2.frozen 1; have f2 := hB2.frozen 2; have f3 := hB2.frozen 3; have f4 := hB2.frozen 4; have f5 := hB2.frozen 5
          have b6 := blk6 hB2 (.int .i64 0) (strV []) (strV []) (.int .i64 0) (.slice none 0 0) (.slice none 0 0)
          have hw9 := below_set6 (HBW.out.trans (hb.mono (Nat.le_of_lt HI.out.bq.lt))) (Nat.le_succ gq) (.int .i64 0) (strV []) (strV []) (.int .i64 0) (.slice none 0 0) (.slice none 0 0)
          clear hB2 b_x b_y hlT hlU HC HVP HVX HPV
          go_wp2_with fail
          generalize (World.setCell (World.setCell (World.setCell (World.setCell (World.setCell (World.setCell wc ⟨gq + 1, 0, none⟩ (.int .i64 0)) ⟨gq + 1, 1, none⟩ (strV [])) ⟨gq + 1, 2, none⟩ (strV [])) ⟨gq + 1, 3, none⟩ (.int .i64 0)) ⟨gq + 1, 4, none⟩ (.slice none 0 0)) ⟨gq + 1, 5, none⟩ (.slice none 0 0)) = W9 at *
          clear z0 z1 z2 z3 z4 z5 f0 f1 f2 f3 f4 f5 hlt
          have u0 := b6.cell 0 rfl; have u1 := b6.cell 1 rfl; have u2 := b6.cell 2 rfl; have u3 := b6.cell 3 rfl; have u4 := b6.cell 4 rfl; have u5 := b6.cell 5 rfl
          refine bodyPost_ret (v := .tuple #[.agg #[.int .i64 0, strV [], strV [], .int .i64 0, .slice none 0 0, .slice none 0 0], .slice none 0 0, .bool false]) (by simp [results, Try.results41, go_sem, u0, u1, u2, u3, u4, u5]) rfl ?_
          exact oneEnd_none (one_step_none passP HX.out HI.out.on HOO.out) (by rw [← HE.out]; exact hw9)
      | some z =>
        obtain ⟨x', y'⟩ := z
        have HOO := Lib.hid ho
        have H1 : Hid (∀ W, Below wr.heap.size wr W → Calls Try.prog 56 #[prV p.k p.nm p.to p.h.pos B r s B' r' s', prV x.k x.nm x.to x.h.pos D m k D' m' k'] W (fun e u => e = .returned (.tuple #[prV x'.k x'.nm x'.to x'.h.pos D m k D' m' k', prV y'.k y'.nm y'.to y'.h.pos B r s B' r' s', .bool true]) ∧ Below W.heap.size W u)) := Lib.hid (fun W h =>
          (refPassE B r s B' r' s' D m k D' m' k' p x W (lt_len HPV.out HLP.out) (lt_len HI.out.pg HI.out.lt) (HVP.out.mv h) (HVX.out.mv h)).mono fun e u h => ⟨h.1 (x', y') HOO.out, h.2.2⟩)
        clear ho
        go_upto_region 5 with fail
        have hss : ∀ W, Below wr.heap.size wr W → Below wr.heap.size wr W ∧ W.cell? ⟨g, i * 6, none⟩ = some (.int .i64 p.k) ∧ W.cell? ⟨g, i * 6 + 1, none⟩ = some (strV p.nm) ∧ W.cell? ⟨g, i * 6 + 2, none⟩ = some (strV p.to) ∧ W.cell? ⟨g, i * 6 + 3, none⟩ = some (.int .i64 p.h.pos) ∧ W.cell? ⟨g, i * 6 + 4, none⟩ = some (.slice B r s) ∧ W.cell? ⟨g, i * 6 + 5, none⟩ = some (.slice B' r' s') ∧ W.cell? ⟨gq, 0, none⟩ = some (.int .i64 x.k) ∧ W.cell? ⟨gq, 1, none⟩ = some (strV x.nm) ∧ W.cell? ⟨gq, 2, none⟩ = some (strV x.to) ∧ W.cell? ⟨gq, 3, none⟩ = some (.int .i64 x.h.pos) ∧ W.cell? ⟨gq, 4, none⟩ = some (.slice D m k) ∧ W.cell? ⟨gq, 5, none⟩ = some (.slice D' m' k') := fun W hb => ⟨hb, HC.out W hb⟩
        have HSS := Lib.hid hss
        have HKD := Lib.hid (hss wr.drew (Cut2.belD0 wr))
        have HKA : Hid (∀ W o, (Below wr.heap.size wr W ∧ W.cell? ⟨g, i * 6, none⟩ = some (.int .i64 p.k) ∧ W.cell? ⟨g, i * 6 + 1, none⟩ = some (strV p.nm) ∧ W.cell? ⟨g, i * 6 + 2, none⟩ = some (strV p.to) ∧ W.cell? ⟨g, i * 6 + 3, none⟩ = some (.int .i64 p.h.pos) ∧ W.cell? ⟨g, i * 6 + 4, none⟩ = some (.slice B r s) ∧ W.cell? ⟨g, i * 6 + 5, none⟩ = some (.slice B' r' s') ∧ W.cell? ⟨gq, 0, none⟩ = some (.int .i64 x.k) ∧ W.cell? ⟨gq, 1, none⟩ = some (strV x.nm) ∧ W.cell? ⟨gq, 2, none⟩ = some (strV x.to) ∧ W.cell? ⟨gq, 3, none⟩ = some (.int .i64 x.h.pos) ∧ W.cell? ⟨gq, 4, none⟩ = some (.slice D m k) ∧ W.cell? ⟨gq, 5, none⟩ = some (.slice D' m' k')) → Below wr.heap.size wr (W.alloc o) ∧ (W.alloc o).cell? ⟨g, i * 6, none⟩ = some (.int .i64 p.k) ∧ (W.alloc o).cell? ⟨g, i * 6 + 1, none⟩ = some (strV p.nm) ∧ (W.alloc o).cell? ⟨g, i * 6 + 2, none⟩ = some (strV p.to) ∧ (W.alloc o).cell? ⟨g, i * 6 + 3, none⟩ = some (.int .i64 p.h.pos) ∧ (W.alloc o).cell? ⟨g, i * 6 + 4, none⟩ = some (.slice B r s) ∧ (W.alloc o).cell? ⟨g, i * 6 + 5, none⟩ = some (.slice B' r' s') ∧ (W.alloc o).cell? ⟨gq, 0, none⟩ = some (.int .i64 x.k) ∧ (W.alloc o).cell? ⟨gq, 1, none⟩ = some (strV x.nm) ∧ (W.alloc o).cell? ⟨gq, 2, none⟩ = some (strV x.to) ∧ (W.alloc o).cell? ⟨gq, 3, none⟩ = some (.int .i64 x.h.pos) ∧ (W.alloc o).cell? ⟨gq, 4, none⟩ = some (.slice D m k) ∧ (W.alloc o).cell? ⟨gq, 5, none⟩ = some (.slice D' m' k')) := Lib.hid (fun W o h => hss _ (h.1.alloc h.1.size o))
        have HKS : Hid (∀ W T v0 v1 v2 v3 v4 v5, (Below wr.heap.size wr W ∧ W.cell? ⟨g, i * 6, none⟩ = some (.int .i64 p.k) ∧ W.cell? ⟨g, i * 6 + 1, none⟩ = some (strV p.nm) ∧ W.cell? ⟨g, i * 6 + 2, none⟩ = some (strV p.to) ∧ W.cell? ⟨g, i * 6 + 3, none⟩ = some (.int .i64 p.h.pos) ∧ W.cell? ⟨g, i * 6 + 4, none⟩ = some (.slice B r s) ∧ W.cell? ⟨g, i * 6 + 5, none⟩ = some (.slice B' r' s') ∧ W.cell? ⟨gq, 0, none⟩ = some (.int .i64 x.k) ∧ W.cell? ⟨gq, 1, none⟩ = some (strV x.nm) ∧ W.cell? ⟨gq, 2, none⟩ = some (strV x.to) ∧ W.cell? ⟨gq, 3, none⟩ = some (.int .i64 x.h.pos) ∧ W.cell? ⟨gq, 4, none⟩ = some (.slice D m k) ∧ W.cell? ⟨gq, 5, none⟩ = some (.slice D' m' k')) → wr.heap.size ≤ T → Below wr.heap.size wr ((((((W.setCell ⟨T, 0, none⟩ v0).setCell ⟨T, 1, none⟩ v1).setCell ⟨T, 2, none⟩ v2).setCell ⟨T, 3, none⟩ v3).setCell ⟨T, 4, none⟩ v4).setCell ⟨T, 5, none⟩ v5) ∧ ((((((W.setCell ⟨T, 0, none⟩ v0).setCell ⟨T, 1, none⟩ v1).setCell ⟨T, 2, none⟩ v2).setCell ⟨T, 3, none⟩ v3).setCell ⟨T, 4, none⟩ v4).setCell ⟨T, 5, none⟩ v5).cell? ⟨g, i * 6, none⟩ = some (.int .i64 p.k) ∧ ((((((W.setCell ⟨T, 0, none⟩ v0).setCell ⟨T, 1, none⟩ v1).setCell ⟨T, 2, none⟩ v2).setCell ⟨T, 3, none⟩ v3).setCell ⟨T, 4, none⟩ v4).setCell ⟨T, 5, none⟩ v5).cell? ⟨g, i * 6 + 1, none⟩ = some (strV p.nm) ∧ ((((((W.setCell ⟨T, 0, none⟩ v0).setCell ⟨T, 1, none⟩ v1).setCell ⟨T, 2, none⟩ v2).setCell ⟨T, 3, none⟩ v3).setCell ⟨T, 4, none⟩ v4).setCell ⟨T, 5, none⟩ v5).cell? ⟨g, i * 6 + 2, none⟩ = some (strV p.to) ∧ ((((((W.setCell ⟨T, 0, none⟩ v0).setCell ⟨T, 1, none⟩ v1).setCell ⟨T, 2, none⟩ v2).setCell ⟨T, 3, none⟩ v3).setCell ⟨T, 4, none⟩ v4).setCell ⟨T, 5, none⟩ v5).cell? ⟨g, i * 6 + 3, none⟩ = some (.int .i64 p.h.pos) ∧ ((((((W.setCell ⟨T, 0, none⟩ v0).setCell ⟨T, 1, none⟩ v1).setCell ⟨T, 2, none⟩ v2).setCell ⟨T, 3, none⟩ v3).setCell ⟨T, 4, none⟩ v4).setCell ⟨T, 5, none⟩ v5).cell? ⟨g, i * 6 + 4, none⟩ = some (.slice B r s) ∧ ((((((W.setCell ⟨T, 0, none⟩ v0).setCell ⟨T, 1, none⟩ v1).setCell ⟨T, 2, none⟩ v2).setCell ⟨T, 3, none⟩ v3).setCell ⟨T, 4, none⟩ v4).setCell ⟨T, 5, none⟩ v5).cell? ⟨g, i * 6 + 5, none⟩ = some (.slice B' r' s') ∧ ((((((W.setCell ⟨T, 0, none⟩ v0).setCell ⟨T, 1, none⟩ v1).setCell ⟨T, 2, none⟩ v2).setCell ⟨T, 3, none⟩ v3).setCell ⟨T, 4, none⟩ v4).setCell ⟨T, 5, none⟩ v5).cell? ⟨gq, 0, none⟩ = some (.int .i64 x.k) ∧ ((((((W.setCell ⟨T, 0, none⟩ v0).setCell ⟨T, 1, none⟩ v1).setCell ⟨T, 2, none⟩ v2).setCell ⟨T, 3, none⟩ v3).setCell ⟨T, 4, none⟩ v4).setCell ⟨T, 5, none⟩ v5).cell? ⟨gq, 1, none⟩ = some (strV x.nm) ∧ ((((((W.setCell ⟨T, 0, none⟩ v0).setCell ⟨T, 1, none⟩ v1).setCell ⟨T, 2, none⟩ v2).setCell ⟨T, 3, none⟩ v3).setCell ⟨T, 4, none⟩ v4).setCell ⟨T, 5, none⟩ v5).cell? ⟨gq, 2, none⟩ = some (strV x.to) ∧ ((((((W.setCell ⟨T, 0, none⟩ v0).setCell ⟨T, 1, none⟩ v1).setCell ⟨T, 2, none⟩ v2).setCell ⟨T, 3, none⟩ v3).setCell ⟨T, 4, none⟩ v4).setCell ⟨T, 5, none⟩ v5).cell? ⟨gq, 3, none⟩ = some (.int .i64 x.h.pos) ∧ ((((((W.setCell ⟨T, 0, none⟩ v0).setCell ⟨T, 1, none⟩ v1).setCell ⟨T, 2, none⟩ v2).setCell ⟨T, 3, none⟩ v3).setCell ⟨T, 4, none⟩ v4).setCell ⟨T, 5, none⟩ v5).cell? ⟨gq, 4, none⟩ = some (.slice D m k) ∧ ((((((W.setCell ⟨T, 0, none⟩ v0).setCell ⟨T, 1, none⟩ v1).setCell ⟨T, 2, none⟩ v2).setCell ⟨T, 3, none⟩ v3).setCell ⟨T, 4, none⟩ v4).setCell ⟨T, 5, none⟩ v5).cell? ⟨gq, 5, none⟩ = some (.slice D' m' k')) := Lib.hid (fun W T v0 v1 v2 v3 v4 v5 h hT => hss _ (Cut2.bel_set6 h.1 hT v0 v1 v2 v3 v4 v5))
        clear hss
        go_cut [9, 10, 11, 39, 40] from 17 (fun s9 s10 s11 s39 s40 wx => ∃ (T U : Nat), s9 = .pointer (some ⟨T, 0, none⟩) ∧ s10 = .pointer (some ⟨U, 0, none⟩) ∧ s11 = .bool true ∧ Cut2.Lay wr wx T U #[.int .i64 x'.k, strV x'.nm, strV x'.to, .int .i64 x'.h.pos, .slice D m k, .slice D' m' k'] #[.int .i64 y'.k, strV y'.nm, strV y'.to, .int .i64 y'.h.pos, .slice B r s, .slice B' r' s'] ∧ s39 = undef ∧ s40 = undef)
        case first =>
          obtain ⟨_, y0, y1, y2, y3, y4, y5, x0, x1, x2, x3, x4, x5⟩ := HSS.out wr (Below.refl _ _)
          go_region_held3 (fun W => Below wr.heap.size wr W ∧ W.cell? ⟨g, i * 6, none⟩ = some (.int .i64 p.k) ∧ W.cell? ⟨g, i * 6 + 1, none⟩ = some (strV p.nm) ∧ W.cell? ⟨g, i * 6 + 2, none⟩ = some (strV p.to) ∧ W.cell? ⟨g, i * 6 + 3, none⟩ = some (.int .i64 p.h.pos) ∧ W.cell? ⟨g, i * 6 + 4, none⟩ = some (.slice B r s) ∧ W.cell? ⟨g, i * 6 + 5, none⟩ = some (.slice B' r' s') ∧ W.cell? ⟨gq, 0, none⟩ = some (.int .i64 x.k) ∧ W.cell? ⟨gq, 1, none⟩ = some (strV x.nm) ∧ W.cell? ⟨gq, 2, none⟩ = some (strV x.to) ∧ W.cell? ⟨gq, 3, none⟩ = some (.int .i64 x.h.pos) ∧ W.cell? ⟨gq, 4, none⟩ = some (.slice D m k) ∧ W.cell? ⟨gq, 5, none⟩ = some (.slice D' m' k'))
            (first
              | (with_reducible exact HKD.out)
              | (with_reducible exact HSS.out _ (Cut2.belD1 wr _))
              | (with_reducible exact HSS.out _ (Cut2.belD2 wr _ _))
              | (with_reducible exact hS1)
              | (with_reducible exact HKA.out _ _ hS1)
              | (with_reducible exact HKA.out _ _ (HKA.out _ _ hS1))
              | (with_reducible exact HKS.out _ _ _ _ _ _ _ _ hS1 tlp)
              | (with_reducible exact HKS.out _ _ _ _ _ _ _ _ hS1 tlq)
              | (with_reducible exact HKA.out _ _ (HKS.out _ _ _ _ _ _ _ _ hS1 tlp))
              | (with_reducible exact HKS.out _ _ _ _ _ _ _ _ (HKS.out _ _ _ _ _ _ _ _ hS1 tlp) tlq)
              | (with_reducible exact HKS.out _ _ _ _ _ _ _ _ (HKS.out _ _ _ _ _ _ _ _ hS1 tlq) tlp))
            (first
              | (go_at_call 56; (with_reducible refine (H1.out (wr.drew) (Cut2.belD0 wr )).mono ?_); rintro e u1 ⟨rfl, hb⟩; have hbc := Cut2.thrD0 hb; have hS1 := HSS.out u1 hbc; have HU1 := Lib.hid hbc; have tl1 := HU1.out.size; clear hb hbc)
              | (go_at_call 56; (with_reducible refine (H1.out ((wr.alloc (.cells #[.int .i64 0, strV [], strV [], .int .i64 0, .slice none 0 0, .slice none 0 0] 51)).drew) (Cut2.belD1 wr (.cells #[.int .i64 0, strV [], strV [], .int .i64 0, .slice none 0 0, .slice none 0 0] 51))).mono ?_); rintro e u1 ⟨rfl, hb⟩; have hbc := Cut2.thrD1 hb; have zp := Cut2.newD1 hb; have tlp := Nat.le_refl wr.heap.size; have hS1 := HSS.out u1 hbc; have HU1 := Lib.hid hbc; have tl1 := HU1.out.size; have pp0 := zp.cell 0 (u := .int .i64 0) rfl; have ppf0 := zp.frozen 0; have pp1 := zp.cell 1 (u := strV []) rfl; have ppf1 := zp.frozen 1; have pp2 := zp.cell 2 (u := strV []) rfl; have ppf2 := zp.frozen 2; have pp3 := zp.cell 3 (u := .int .i64 0) rfl; have ppf3 := zp.frozen 3; have pp4 := zp.cell 4 (u := .slice none 0 0) rfl; have ppf4 := zp.frozen 4; have pp5 := zp.cell 5 (u := .slice none 0 0) rfl; have ppf5 := zp.frozen 5; have ppl := zp.lt; clear hb hbc)
              | (go_at_call 56; (with_reducible refine (H1.out (((wr.alloc (.cells #[.int .i64 0, strV [], strV [], .int .i64 0, .slice none 0 0, .slice none 0 0] 51)).alloc (.cells #[.int .i64 0, strV [], strV [], .int .i64 0, .slice none 0 0, .slice none 0 0] 51)).drew) (Cut2.belD2 wr (.cells #[.int .i64 0, strV [], strV [], .int .i64 0, .slice none 0 0, .slice none 0 0] 51) (.cells #[.int .i64 0, strV [], strV [], .int .i64 0, .slice none 0 0, .slice none 0 0] 51))).mono ?_); rintro e u1 ⟨rfl, hb⟩; have hbc := Cut2.thrD2 hb; obtain ⟨zp, zq⟩ := Cut2.newD2 hb; have tlp := Nat.le_refl wr.heap.size; have zpq := Nat.lt_succ_self wr.heap.size; have tlq := Nat.le_succ wr.heap.size; have hS1 := HSS.out u1 hbc; have HU1 := Lib.hid hbc; have tl1 := HU1.out.size; have pp0 := zp.cell 0 (u := .int .i64 0) rfl; have ppf0 := zp.frozen 0; have pp1 := zp.cell 1 (u := strV []) rfl; have ppf1 := zp.frozen 1; have pp2 := zp.cell 2 (u := strV []) rfl; have ppf2 := zp.frozen 2; have pp3 := zp.cell 3 (u := .int .i64 0) rfl; have ppf3 := zp.frozen 3; have pp4 := zp.cell 4 (u := .slice none 0 0) rfl; have ppf4 := zp.frozen 4; have pp5 := zp.cell 5 (u := .slice none 0 0) rfl; have ppf5 := zp.frozen 5; have ppl := zp.lt; have rr0 := zq.cell 0 (u := .int .i64 0) rfl; have rrf0 := zq.frozen 0; have rr1 := zq.cell 1 (u := strV []) rfl; have rrf1 := zq.frozen 1; have rr2 := zq.cell 2 (u := strV []) rfl; have rrf2 := zq.frozen 2; have rr3 := zq.cell 3 (u := .int .i64 0) rfl; have rrf3 := zq.frozen 3; have rr4 := zq.cell 4 (u := .slice none 0 0) rfl; have rrf4 := zq.frozen 4; have rr5 := zq.cell 5 (u := .slice none 0 0) rfl; have rrf5 := zq.frozen 5; have rrl := zq.lt; clear hb hbc))
          all_goals (try go_wp2_with fail)
          all_goals go_meet
          (with_reducible exact ⟨_, _, rfl, rfl, rfl, Cut2.lay_aa HU1.out, rfl, rfl⟩)
          (with_reducible exact ⟨_, _, rfl, rfl, rfl, (Cut2.lay_aa HU1.out).swap, rfl, rfl⟩)
          (with_reducible exact ⟨_, _, rfl, rfl, rfl, Cut2.lay_sa HU1.out zp tlp, rfl, rfl⟩)
          (with_reducible exact ⟨_, _, rfl, rfl, rfl, Cut2.lay_ss HU1.out zp zq (Nat.ne_of_lt zpq) tlp tlq, rfl, rfl⟩)
          (with_reducible exact ⟨_, _, rfl, rfl, rfl, (Cut2.lay_sa HU1.out zp tlp).swap, rfl, rfl⟩)
          (with_reducible exact ⟨_, _, rfl, rfl, rfl, Cut2.lay_ss HU1.out zq zp (Nat.ne_of_gt zpq) tlq tlp, rfl, rfl⟩)
        case rest =>
          obtain ⟨T, U, rfl, rfl, rfl, ⟨b_x, b_y, hlT, hlU, hb⟩, rfl, rfl⟩ := hcut
          clear HSS HKD HKA HKS H1
          have hB1 := HI.out.bq.below hb HI.out.bq.lt
          have hst := oneInv_step HI.out HN.out HX.out HOO.out HLP.out HNN.out hb HPV.out
          have hbs := below_row6 (below_set6 (HBW.out.trans (hb.mono (Nat.le_of_lt HI.out.bq.lt))) (Nat.le_refl gq) (.int .i64 x'.k) (strV x'.nm) (strV x'.to) (.int .i64 x'.h.pos) (.slice D m k) (.slice D' m' k')) (Nat.le_of_succ_le (Nat.le_of_succ_le HGG.out)) i (.int .i64 y'.k) (strV y'.nm) (strV y'.to) (.int .i64 y'.h.pos) (.slice B r s) (.slice B' r' s')
          have hrow := (HI.out.row.below hb).set6 (b := gq) (fun e => by injection e with e; have e : gq = g := e; have := HGG.out; omega) (fun h => by have := HNN.out _ h; omega) (.int .i64 x'.k) (strV x'.nm) (strV x'.to) (.int .i64 x'.h.pos) (.slice D m k) (.slice D' m' k')
          have hby := blk_set6 b_y (show U ≠ gq by have := HI.out.bq.lt; omega) (.int .i64 x'.k) (strV x'.nm) (strV x'.to) (.int .i64 x'.h.pos) (.slice D m k) (.slice D' m' k')
          have HST := Lib.hid hst; have HBS := Lib.hid hbs; have HROW := Lib.hid hrow; have HBY := Lib.hid hby
          have z0 := hB1.cell 0 rfl; have z1 := hB1.cell 1 rfl; have z2 := hB1.cell 2 rfl; have z3 := hB1.cell 3 rfl; have z4 := hB1.cell 4 rfl; have z5 := hB1.cell 5 rfl
          have f0 := hB1.frozen 0; have f1 := hB1.frozen 1; have f2 := hB1.frozen 2; have f3 := hB1.frozen 3; have f4 := hB1.frozen 4; have f5 := hB1.frozen 5
          have v0 := b_x.cell 0 rfl; have v1 := b_x.cell 1 rfl; have v2 := b_x.cell 2 rfl; have v3 := b_x.cell 3 rfl; have v4 := b_x.cell 4 rfl; have v5 := b_x.cell 5 rfl
          have hlt := hB1.lt
          have hT1 := b_x.lt
          clear hst hbs hrow hby hB1 b_x b_y HC HVP HVX HPV
          go_upto_region 9 with fail
          generalize (World.setCell (World.setCell (World.setCell (World.setCell (World.setCell (World.setCell wc ⟨gq, 0, none⟩ (.int .i64 x'.k)) ⟨gq, 1, none⟩ (strV x'.nm)) ⟨gq, 2, none⟩ (strV x'.to)) ⟨gq, 3, none⟩ (.int .i64 x'.h.pos)) ⟨gq, 4, none⟩ (.slice D m k)) ⟨gq, 5, none⟩ (.slice D' m' k')) = W9 at *
          clear z0 z1 z2 z3 z4 z5 f0 f1 f2 f3 f4 f5 v0 v1 v2 v3 v4 v5 hlt hT1
          obtain ⟨B9, r9, s9, D9, m9, d9, q0, q1, q2, q3, q4, q5, hf9, _⟩ := HROW.out.elem (HI.out.len HN.out hj) (at_mid HX.out)
          have hby := HBY.out
          have v0 := hby.cell 0 rfl; have v1 := hby.cell 1 rfl; have v2 := hby.cell 2 rfl; have v3 := hby.cell 3 rfl; have v4 := hby.cell 4 rfl; have v5 := hby.cell 5 rfl
          have f0 := hf9 (i * 6); have f1 := hf9 (i * 6 + 1); have f2 := hf9 (i * 6 + 2); have f3 := hf9 (i * 6 + 3); have f4 := hf9 (i * 6 + 4); have f5 := hf9 (i * 6 + 5)
          clear hf9 hby
          go_wp2_with fail
          go_roundw
          case rel => exact ⟨i, x', y' :: post, by omega, rfl, HST.out, HBS.out⟩
          case measure => simp [intOf]

theorem rdP_srcT {W : World} {N T : Nat → Prop} {A : Option Addr} {l : List Ch} (h : SrcN W N A l) (hN : ∀ b, N b → T b) (hA : l = [] ∨ ∀ a, A = some a → T a.block) : RdP W T A l := by
  obtain ⟨ys, h1, h2, h3⟩ := h
  by_cases h0 : l = []
  · exact .inl h0
  rcases h3 with rfl | ⟨a, rfl, hc⟩
  · exact .inl (List.eq_nil_of_length_eq_zero (by simp at h1; omega))
  · have hT := hA.resolve_left h0 a rfl
    refine .inr ⟨a, rfl, hT, fun k x hx => ?_⟩
    obtain ⟨B, r, s, D, m, d, g0, g1, g2, g3, g4, g5, g6⟩ := h2 k x hx
    refine ⟨hc _ _ g0, ?_, ?_, ?_, B, r, s, D, m, d, ?_, ?_, g6.mono hN⟩
    · rw [add_off _ _ _ (by decide)]; exact hc _ _ g1
    · rw [add_off _ _ _ (by decide)]; exact hc _ _ g2
    · rw [add_off _ _ _ (by decide)]; exact hc _ _ g3
    · rw [add_off _ _ _ (by decide)]; exact hc _ _ g4
    · rw [add_off _ _ _ (by decide)]; exact hc _ _ g5

/-- What S names, and what was made behind w. -/
def Also (S : Nat → Prop) (w W : World) : Nat → Prop := fun b => S b ∨ (w.heap.size ≤ b ∧ b < W.heap.size)
theorem also_lt {S : Nat → Prop} {w W : World} (hS : ∀ b, S b → b < w.heap.size) (hw : w.heap.size ≤ W.heap.size) : ∀ b, Also S w W b → b < W.heap.size := fun b h => h.elim (fun h => Nat.lt_of_lt_of_le (hS b h) hw) fun h => h.2
/-- How a call of Pass ends that tells x, y and bo: in blocks that S names, or in memory that is new. -/
def LPassEndS (w : World) (S : Nat → Prop) (x y : List Ch) (bo : Bool) (e : Ending) (w' : World) : Prop :=
  ∃ A c B d, e = .returned (.tuple #[.slice A x.length c, .slice B y.length d, .bool bo]) ∧ x.length ≤ c ∧ y.length ≤ d ∧ RdP w' (Also S w w') A x ∧ RdP w' (Also S w w') B y ∧ Below w.heap.size w w'
theorem lpassS_none {w w' : World} {S : Nat → Prop} {x y : List Ch} {bo : Bool} {o : Option (List Ch × List Ch)} (h : o = none) (ho : outF o = (x, y)) (hb : o.isSome = bo) (hw : Below w.heap.size w w') : LPassEndS w S x y bo (.returned (.tuple #[.slice none 0 0, .slice none 0 0, .bool false])) w' := by
  subst h
  injection ho with h1 h2
  subst h1 h2 hb
  exact ⟨none, 0, none, 0, rfl, Nat.le_refl _, Nat.le_refl _, .inl rfl, .inl rfl, hw⟩

/-- Between two rounds of Pass. -/
structure RefPInv (w W : World) (N : Nat → Prop) (A1 A3 : Option Addr) (n c1 k c3 : Nat) (a b x cur : List Ch) : Prop where
  eq : passF a (b.take k) = some (x, cur)
  src : SrcN W N A1 cur
  row : OwnS W N w.heap.size (.slice A3 k c3) x
  adr : cur = [] ∨ ∀ a, A1 = some a → Also N w W a.block
  cap : n ≤ c1
  lt : Lt cur
  len : cur.length = n
  lenx : x.length = k

set_option maxRecDepth 100000 in
set_option maxHeartbeats 8000000 in
theorem refPassS (S : Nat → Prop) (A : Option Addr) (n c : Nat) (A' : Option Addr) (n' c' : Nat) (a b x y : List Ch) (w : World) (bo : Bool) (hn : a.length = n) (hn' : b.length = n') (hle : n ≤ 1000) (hle' : n' ≤ 1000) (ha : Lt a) (hb : Lt b)
    (hS : ∀ b, S b → b < w.heap.size) (hcap : n ≤ c) (hR : RdP w S A a) (hR' : RdP w S A' b) (ho : outF (passF a b) = (x, y)) (hs : (passF a b).isSome = bo) :
    Calls Try.prog 25 #[.slice A n c, .slice A' n' c'] w (LPassEndS w S x y bo) := by
  have HR' := Lib.hid hR'; have HN := Lib.hid hn; have HN' := Lib.hid hn'; have HB := Lib.hid hb; have HO := Lib.hid ho; have HS := Lib.hid hs; have HSS := Lib.hid hS
  have HST : Hid (RefPInv w w S A none n c 0 0 a b [] a) := Lib.hid ⟨by rw [List.take_zero]; exact passL_nil _ _, flatP hR, ownS_nil _ _ _, (hR.imp id fun ⟨a', e, h, _⟩ a1 e1 => .inl (by rw [e] at e1; injection e1 with e1; rw [← e1]; exact h)), hcap, ha, hn, rfl⟩
  clear hR hR' hn hn' ha hb ho hs hS
  go_enter Try.func25, Try.ntmps25
  go_wp2
  go_loopw [0, 7, 8] (fun v0 v7 i wr => ∃ (k : Nat) (x1 cur : List Ch) (A1 A3 : Option Addr) (c1 c3 : Nat), k ≤ n' ∧ i = .int .i64 (k : Int) ∧ v0 = .slice A1 n c1 ∧ v7 = .slice A3 k c3 ∧ RefPInv w wr S A1 A3 n c1 k c3 a b x1 cur ∧ Below w.heap.size w wr) (fun _ _ i _ => n' - (intOf i).toNat)
  case atStart => exact ⟨0, [], a, A, none, c, 0, Nat.zero_le _, rfl, rfl, rfl, HST.out, Below.refl _ _⟩
  case round =>
    clear HST
    obtain ⟨k, x1, cur, A1, A3, c1, c3, hk, rfl, rfl, rfl, hI, hbw⟩ := hrel
    have HBW := Lib.hid hbw; have HI := Lib.hid hI
    clear hbw hI
    by_cases hlt : k < n'
    · have hki : (k : Int) < (n' : Int) := by omega
      obtain ⟨aa, q, D, m, f, D', m', f', rfl, hS, hx, g0, g1, g2, g3, g4, g5, g6⟩ := ((HR'.out.to ((alike_below HBW.out).mono HSS.out)).elem (k := k) (by rw [HN'.out]; exact hlt))
      have HX := Lib.hid hx; have HPG := Lib.hid g6; have HLQ := Lib.hid (HB.out q (List.mem_of_getElem? hx))
      clear hx g6 hS
      go_wp2_with fail
      refine (refOne S A1 n c1 D m f D' m' f' cur q wr HI.out.len hle (fun b h => Nat.lt_of_lt_of_le (HSS.out b h) HBW.out.size) HI.out.lt HLQ.out HI.out.src HPG.out).mono ?_
      rintro e w2 ⟨h1, h2, hb2⟩
      clear g0 g1 g2 g3 g4 g5
      cases hon : one passP cur q with
      | none =>
        obtain rfl := h2 hon
        have HE := Lib.hid (passL_step_none passP HI.out.eq HX.out hon)
        have HBW2 := Lib.hid (below_mv HBW.out hb2)
        clear h1 h2 hon hb2
        go_wp2
        go_ret3
        exact lpassS_none HE.out HO.out HS.out (HBW2.out.alloc HBW2.out.size _)
      | some z =>
        obtain ⟨q1, a1⟩ := z
        obtain ⟨v, rfl, hrow, hpg⟩ := h1 _ hon
        obtain ⟨A4, c4, hv, hcap4⟩ := ownS_slice hrow
        have hl1 : a1.length = n := by rw [one_len passP hon]; exact HI.out.len
        dsimp only at hrow hpg hv hcap4
        rw [hl1] at hv hcap4
        subst hv
        have hbA := two_box w2 (.cells #[.int .i64 q1.k, strV q1.nm, strV q1.to, .int .i64 q1.h.pos, .slice D m f, .slice D' m' f'] 51) (.cells #[.int .i64 q1.k, strV q1.nm, strV q1.to, .int .i64 q1.h.pos, .slice D m f, .slice D' m' f'] 51)
        have b3 := Blk.new (w2.alloc (.cells #[.int .i64 q1.k, strV q1.nm, strV q1.to, .int .i64 q1.h.pos, .slice D m f, .slice D' m' f'] 51)) 51 #[.int .i64 q1.k, strV q1.nm, strV q1.to, .int .i64 q1.h.pos, .slice D m f, .slice D' m' f']
        rw [World.size_alloc] at b3
        have hN2 : w.heap.size ≤ w2.heap.size := (below_mv HBW.out hb2).size
        have HRW := Lib.hid (hrow.below hbA)
        have HPC := Lib.hid (PCells.one (hpg.to_ ((alike_below (hbA.mono hN2)).mono HSS.out)))
        have HOX := Lib.hid ((HI.out.row.below hb2).below hbA)
        have hb3 := below_mv hb2 hbA
        have HB3 := Lib.hid b3; have HBW3 := Lib.hid (below_mv HBW.out hb3)
        have HEQ := Lib.hid (passL_step passP HI.out.eq HX.out hon)
        have HL1 := Lib.hid hl1; have HC4 := Lib.hid hcap4
        have HLT := Lib.hid (one_lt hon HI.out.lt HLQ.out).2
        have HRLT := Lib.hid (fun g (hg : (Value.slice A3 k c3).ownBlock = some g) => ownS_lt HI.out.row g hg)
        have hkl : x1.length ≤ 1000 := by rw [HI.out.lenx]; omega
        have HXL := Lib.hid HI.out.lenx
        clear h1 h2 hon hb2 hb3 hrow hpg hl1 hbA b3 hN2 hcap4
        go_wp2_with (at_builtin; refine wpList_ownC rfl (.tmp 30) (.tmp 32) rfl S w.heap.size 1 1 (.slice A3 k c3) (some ⟨w2.heap.size + 1, 0, none⟩) x1 [q1] _ rfl rfl HOX.out HPC.out rfl (.inr ⟨_, rfl, one_srcP HB3.out⟩) rfl (by omega) HSS.out HBW3.out.size ?_; intro v' W' ho' hg')
        obtain ⟨A5, c5, hv5, _⟩ := ownS_slice ho'
        rw [List.length_append, HXL.out] at hv5
        subst hv5
        have hrow' := HRW.out.gr hg' (fun g hg e => by have h1 := HRLT.out g e; have h2 := ownS_ge HRW.out g hg; omega) (fun b hb e => by have h2 := ownS_ge HOX.out b e; have := HSS.out b hb; omega)
        have hadr : a1 = [] ∨ ∀ a, A4 = some a → Also S w W' a.block := .inr fun a ea => by
          rcases hrow' with ⟨xs, hr, _⟩
          rcases hr.2 with ⟨e, _⟩ | ⟨g, cap, cur, e, hbg, hgb, _⟩
          · injection e with e; rw [e] at ea; cases ea
          · injection e with e
            rw [e] at ea
            injection ea with ea
            subst ea
            exact .inr ⟨Nat.le_trans HBW.out.size hbg, (Array.getElem?_eq_some_iff.1 hgb).1⟩
        refine ⟨⟨k + 1, x1 ++ [q1], a1, A4, A5, c4, c5, by omega, by go_num, rfl, rfl, ⟨HEQ.out, srcN_own hrow', ho', hadr, HC4.out, HLT.out, HL1.out, by rw [List.length_append, HXL.out]; rfl⟩, HBW3.out.grown hg' HBW3.out.size (fun g e => ownS_ge HOX.out g e)⟩, by simp [intOf]; omega⟩
    · have hkn : k = n' := by omega
      subst hkn
      have HE : Hid (passF a b = some (x1, cur)) := Lib.hid (by have := HI.out.eq; rw [List.take_of_length_le (by rw [HN'.out]; exact Nat.le_refl _)] at this; exact this)
      go_wp2
      go_ret3
      have ho := HO.out
      have hs := HS.out
      rw [HE.out] at ho hs
      injection ho with e1 e2
      subst e1 e2 hs
      obtain ⟨_, _, e1, k1⟩ := ownS_slice HI.out.row
      injection e1 with _ e0 e1
      rw [← e1, ← e0] at k1
      refine ⟨A3, c3, A1, c1, by rw [HI.out.lenx, HI.out.len]; rfl, by rw [HI.out.lenx]; exact k1, by rw [HI.out.len]; exact HI.out.cap, ?_, rdP_srcT HI.out.src (fun b h => .inl h) HI.out.adr, HBW.out⟩
      refine rdP_srcT (srcN_own HI.out.row) (fun b h => .inl h) (.inr fun a ea => ?_)
      obtain ⟨xs, hr, _⟩ := HI.out.row
      rcases hr.2 with ⟨e, _⟩ | ⟨g, cap, cur, e, hbg, hgb, _⟩
      · injection e with e; rw [e] at ea; cases ea
      · injection e with e
        rw [e] at ea
        injection ea with ea
        subst ea
        exact .inr ⟨hbg, (Array.getElem?_eq_some_iff.1 hgb).1⟩

end Fl
end Go.Proofs.Ytbiiabfhngdeiaa

set_option maxRecDepth 100000
namespace Go.Proofs.Ytbiiabfhngdeiaa
open Go.RowKit
set_option linter.unusedVariables false
set_option linter.unusedSimpArgs false
namespace Tg
open Tx Df Sq Hk Tr Pr Fl Pn
attribute [local go_sem] eq_id

/-- How the document's own Pass ends that tells x, y and bo: in blocks that S names, or in memory that is new. -/
def NPassEndS (w : World) (S : Nat → Prop) (x y : Nm) (bo : Bool) (e : Ending) (w' : World) : Prop :=
  ∃ D1 d1 e1 A1 n1 c1 D2 d2 e2 A2 n2 c2, e = .returned (.tuple #[nmV x.id D1 d1 e1 x.txt A1 n1 c1, nmV y.id D2 d2 e2 y.txt A2 n2 c2, .bool bo]) ∧ NG w' (Also S w w') D1 d1 e1 A1 n1 c1 x ∧ NG w' (Also S w w') D2 d2 e2 A2 n2 c2 y ∧ Below w.heap.size w w'
theorem npassS_none {w w' : World} {S : Nat → Prop} {x y : Nm} {bo : Bool} {o : Option (Nm × Nm)} (h : o = none) (ho : outN o = (x, y)) (hb : o.isSome = bo) (hw : Below w.heap.size w w') : NPassEndS w S x y bo (.returned (.tuple #[.agg #[.int .i64 0, .int .i64 0, .slice none 0 0, .string ⟨#[]⟩, .slice none 0 0], .agg #[.int .i64 0, .int .i64 0, .slice none 0 0, .string ⟨#[]⟩, .slice none 0 0], .bool false])) w' := by
  subst h
  injection ho with h1 h2
  subst h1 h2 hb
  exact ⟨none, 0, 0, none, 0, 0, none, 0, 0, none, 0, 0, rfl, ng_no _ _, ng_no _ _, hw⟩

theorem five_blk (w : World) (t0 t1 t2 t3 t4 : TypeId) (c0 c1 c2 c3 c4 : Array Value) : let W := ((((w.alloc (.cells c0 t0)).alloc (.cells c1 t1)).alloc (.cells c2 t2)).alloc (.cells c3 t3)).alloc (.cells c4 t4)
    Blk W w.heap.size t0 c0 ∧ Blk W (w.heap.size + 1) t1 c1 ∧ Blk W (w.heap.size + 1 + 1) t2 c2 ∧ Blk W (w.heap.size + 1 + 1 + 1) t3 c3 ∧ Blk W (w.heap.size + 1 + 1 + 1 + 1) t4 c4 ∧ Below w.heap.size w W := by
  intro W
  obtain ⟨b0, b1, b2, b3, hb⟩ := four_blk w t0 t1 t2 t3 c0 c1 c2 c3
  have b4 := Blk.new ((((w.alloc (.cells c0 t0)).alloc (.cells c1 t1)).alloc (.cells c2 t2)).alloc (.cells c3 t3)) t4 c4
  simp only [World.size_alloc] at b4
  exact ⟨b0.alloc _, b1.alloc _, b2.alloc _, b3.alloc _, b4, hb.alloc hb.size _⟩

set_option maxRecDepth 100000 in
set_option maxHeartbeats 2000000 in
theorem refPassN (S : Nat → Prop) (D : Option Addr) (dn dc : Nat) (A : Option Addr) (n c : Nat) (D' : Option Addr) (dn' dc' : Nat) (A' : Option Addr) (n' c' : Nat) (p q x y : Nm) (w : World) (bo : Bool) (hle : n ≤ 1000) (hle' : n' ≤ 1000) (hd' : dn' ≤ 100000) (hl : Lt p.l) (hl' : Lt q.l)
    (hS : ∀ b, S b → b < w.heap.size) (hv : NG w S D dn dc A n c p) (hv' : NG w S D' dn' dc' A' n' c' q) (ho : outN (passN p q) = (x, y)) (hs : (passN p q).isSome = bo) :
    Calls Try.prog 11 #[nmV p.id D dn dc p.txt A n c, nmV q.id D' dn' dc' q.txt A' n' c'] w (NPassEndS w S x y bo) := by
  have HV := Lib.hid hv; have HV' := Lib.hid hv'; have HO := Lib.hid ho; have HS := Lib.hid hs; have HL := Lib.hid hl; have HL' := Lib.hid hl'; have HSS := Lib.hid hS
  clear hv hv' ho hs hl hl' hS
  go_enter Try.func11, Try.ntmps11
  go_wp2_with fail
  obtain ⟨b0, b1, b2, b3, b4, hba⟩ := five_blk w 28 28 28 28 28 #[.int .i64 p.id.1, .int .i64 p.id.2, .slice D dn dc, strV p.txt, .slice A n c] #[.int .i64 q.id.1, .int .i64 q.id.2, .slice D' dn' dc', strV q.txt, .slice A' n' c'] #[.int .i64 0, .int .i64 0, .slice none 0 0, .string ⟨#[]⟩, .slice none 0 0] #[.int .i64 0, .int .i64 0, .slice none 0 0, .string ⟨#[]⟩, .slice none 0 0] #[.int .i64 0, .int .i64 0, .slice none 0 0, .string ⟨#[]⟩, .slice none 0 0]
  generalize (((((w.alloc (.cells #[.int .i64 p.id.1, .int .i64 p.id.2, .slice D dn dc, strV p.txt, .slice A n c] 28)).alloc (.cells #[.int .i64 q.id.1, .int .i64 q.id.2, .slice D' dn' dc', strV q.txt, .slice A' n' c'] 28)).alloc (.cells #[.int .i64 0, .int .i64 0, .slice none 0 0, .string ⟨#[]⟩, .slice none 0 0] 28)).alloc (.cells #[.int .i64 0, .int .i64 0, .slice none 0 0, .string ⟨#[]⟩, .slice none 0 0] 28)).alloc (.cells #[.int .i64 0, .int .i64 0, .slice none 0 0, .string ⟨#[]⟩, .slice none 0 0] 28)) = w1 at b0 b1 b2 b3 b4 hba ⊢
  obtain ⟨z, hz⟩ : ∃ z, w.heap.size = z := ⟨_, rfl⟩
  rw [hz] at b0 b1 b2 b3 b4 ⊢
  have HZ := Lib.hid hz
  have HB0 := Lib.hid b0; have HB1 := Lib.hid b1; have HB2 := Lib.hid b2; have HB3 := Lib.hid b3; have HB4 := Lib.hid b4; have HBW := Lib.hid hba
  replace HV := Lib.hid (HV.out.to_ ((alike_below hba).mono HSS.out)); replace HV' := Lib.hid (HV'.out.to_ ((alike_below hba).mono HSS.out))
  clear b0 b1 b2 b3 b4 hba hz
  go_loopw [8] (fun i wr => ∃ k : Nat, k ≤ dn' ∧ i = .int .i64 (k : Int) ∧ (∀ (j : Nat) (y : Id_), q.deps[j]? = some y → j < k → y ≠ p.id) ∧ Below w1.heap.size w1 wr) (fun i _ => dn' - (intOf i).toNat)
  case atStart => exact ⟨0, Nat.zero_le _, rfl, fun j _ _ hj => by omega, Below.refl _ _⟩
  case round =>
    obtain ⟨k, hk, rfl, hall, hb⟩ := hrel
    have HA := Lib.hid hall
    replace HB0 := Lib.hid (HB0.out.below hb HB0.out.lt); replace HB1 := Lib.hid (HB1.out.below hb HB1.out.lt); replace HB2 := Lib.hid (HB2.out.below hb HB2.out.lt); replace HB3 := Lib.hid (HB3.out.below hb HB3.out.lt); replace HB4 := Lib.hid (HB4.out.below hb HB4.out.lt)
    have hs1 : w.heap.size ≤ w1.heap.size := HBW.out.size
    replace HV := Lib.hid (HV.out.to_ ((alike_below hb).mono fun b h => Nat.lt_of_lt_of_le (HSS.out b h) hs1)); replace HV' := Lib.hid (HV'.out.to_ ((alike_below hb).mono fun b h => Nat.lt_of_lt_of_le (HSS.out b h) hs1))
    have HBR := Lib.hid hb
    replace HBW := Lib.hid (below_mv HBW.out hb)
    clear hall hb hs1
    have hdl := HV'.out.dl
    by_cases hlt : k < dn'
    · have hki : (k : Int) < (dn' : Int) := by omega
      have hrd : RdI wr wr.heap.size D' q.deps := (HV'.out.dr.mono fun b h => Nat.lt_of_lt_of_le (HSS.out b h) HBW.out.size)
      obtain ⟨a, y, rfl, _, hy, c0, c1⟩ := hrd.elem (k := k) (by rw [hdl]; exact hlt)
      have HY := Lib.hid hy
      clear hy hrd
      have x0 := HB0.out.cell 0 rfl; have x1 := HB0.out.cell 1 rfl; have y2 := HB1.out.cell 2 rfl
      have l0 := HB0.out.lt; have l1 := HB1.out.lt
      obtain ⟨i1, i2⟩ := y
      obtain ⟨P1, hP1⟩ : ∃ v, p.id.1 = v := ⟨_, rfl⟩
      obtain ⟨P2, hP2⟩ : ∃ v, p.id.2 = v := ⟨_, rfl⟩
      have HP : Hid (p.id = (P1, P2)) := Lib.hid (Prod.ext hP1 hP2)
      rw [hP1] at x0
      rw [hP2] at x1
      dsimp only at c0 c1
      by_cases e1 : i1 = P1
      · by_cases e2 : i2 = P2
        · subst e1 e2
          have HE : Hid (passN p q = none) := Lib.hid (by
            unfold passN
            rw [if_pos]
            rw [HP.out]
            exact List.mem_of_getElem? HY.out)
          go_wp2
          go_quiet (fail)
          go_wp2
          have hq : Below wr.heap.size wr (wr.drewN nq) := below_drewN (Below.refl _ _) nq
          replace HB2 := Lib.hid (HB2.out.below hq HB2.out.lt); replace HB3 := Lib.hid (HB3.out.below hq HB3.out.lt); replace HB4 := Lib.hid (HB4.out.below hq HB4.out.lt); replace HBW := Lib.hid (below_mv HBW.out hq)
          clear hq x0 x1 y2 l0 l1 c0 c1 HV HV' HB0 HB1 HBR
          generalize (wr.drewN nq) = wq at HB2 HB3 HB4 HBW ⊢
          have HSB : Hid (∀ Y : World, Blk Y (z + 1 + 1 + 1 + 1) 28 #[.int .i64 0, .int .i64 0, .slice none 0 0, .string ⟨#[]⟩, .slice none 0 0] → Y.cell? ⟨z + 1 + 1 + 1 + 1, 0, none⟩ = some (.int .i64 0) ∧ Y.cell? ⟨z + 1 + 1 + 1 + 1, 1, none⟩ = some (.int .i64 0) ∧ Y.cell? ⟨z + 1 + 1 + 1 + 1, 2, none⟩ = some (.slice none 0 0) ∧ Y.cell? ⟨z + 1 + 1 + 1 + 1, 3, none⟩ = some (.string ⟨#[]⟩) ∧ Y.cell? ⟨z + 1 + 1 + 1 + 1, 4, none⟩ = some (.slice none 0 0)) := Lib.hid (fun Y h0 => ⟨h0.cell 0 rfl, h0.cell 1 rfl, h0.cell 2 rfl, h0.cell 3 rfl, h0.cell 4 rfl⟩)
          have HKD := Lib.hid (HSB.out wq.drew (HB4.out.drewN 1))
          have HKA := Lib.hid (HSB.out (World.setCell (World.setCell (World.setCell (World.setCell (World.setCell wq ⟨z + 1 + 1, 0, none⟩ (.int .i64 0)) ⟨z + 1 + 1, 1, none⟩ (.int .i64 0)) ⟨z + 1 + 1, 2, none⟩ (.slice none 0 0)) ⟨z + 1 + 1, 3, none⟩ (.string ⟨#[]⟩)) ⟨z + 1 + 1, 4, none⟩ (.slice none 0 0)).drew ((blk_set5 HB4.out (show z + 1 + 1 + 1 + 1 ≠ z + 1 + 1 by omega) (.int .i64 0) (.int .i64 0) (.slice none 0 0) (.string ⟨#[]⟩) (.slice none 0 0)).drewN 1))
          have HKB := Lib.hid (HSB.out (World.setCell (World.setCell (World.setCell (World.setCell (World.setCell (World.setCell (World.setCell (World.setCell (World.setCell (World.setCell wq ⟨z + 1 + 1, 0, none⟩ (.int .i64 0)) ⟨z + 1 + 1, 1, none⟩ (.int .i64 0)) ⟨z + 1 + 1, 2, none⟩ (.slice none 0 0)) ⟨z + 1 + 1, 3, none⟩ (.string ⟨#[]⟩)) ⟨z + 1 + 1, 4, none⟩ (.slice none 0 0)) ⟨z + 1 + 1 + 1, 0, none⟩ (.int .i64 0)) ⟨z + 1 + 1 + 1, 1, none⟩ (.int .i64 0)) ⟨z + 1 + 1 + 1, 2, none⟩ (.slice none 0 0)) ⟨z + 1 + 1 + 1, 3, none⟩ (.string ⟨#[]⟩)) ⟨z + 1 + 1 + 1, 4, none⟩ (.slice none 0 0)).drew ((blk_set5 (blk_set5 HB4.out (show z + 1 + 1 + 1 + 1 ≠ z + 1 + 1 by omega) (.int .i64 0) (.int .i64 0) (.slice none 0 0) (.string ⟨#[]⟩) (.slice none 0 0)) (show z + 1 + 1 + 1 + 1 ≠ z + 1 + 1 + 1 by omega) (.int .i64 0) (.int .i64 0) (.slice none 0 0) (.string ⟨#[]⟩) (.slice none 0 0)).drewN 1))
          have r0 := HB2.out.cell 0 rfl; have r1 := HB2.out.cell 1 rfl; have r2 := HB2.out.cell 2 rfl; have r3 := HB2.out.cell 3 rfl; have r4 := HB2.out.cell 4 rfl
          have t0 := HB3.out.cell 0 rfl; have t1 := HB3.out.cell 1 rfl; have t2 := HB3.out.cell 2 rfl; have t3 := HB3.out.cell 3 rfl; have t4 := HB3.out.cell 4 rfl
          have f0 := HB2.out.frozen 0; have f1 := HB2.out.frozen 1; have f2 := HB2.out.frozen 2; have f3 := HB2.out.frozen 3; have f4 := HB2.out.frozen 4
          have g0 := HB3.out.frozen 0; have g1 := HB3.out.frozen 1; have g2 := HB3.out.frozen 2; have g3 := HB3.out.frozen 3; have g4 := HB3.out.frozen 4
          have l2 := HB2.out.lt; have l3 := HB3.out.lt
          have hT := two5 HB2.out HB3.out HBW.out (show w.heap.size ≤ z + 1 + 1 by have := HZ.out; omega) (.int .i64 0) (.int .i64 0) (.slice none 0 0) (.string ⟨#[]⟩) (.slice none 0 0) (.int .i64 0) (.int .i64 0) (.slice none 0 0) (.string ⟨#[]⟩) (.slice none 0 0)
          go_region_held3 (fun Y => Y.cell? ⟨z + 1 + 1 + 1 + 1, 0, none⟩ = some (.int .i64 0) ∧ Y.cell? ⟨z + 1 + 1 + 1 + 1, 1, none⟩ = some (.int .i64 0) ∧ Y.cell? ⟨z + 1 + 1 + 1 + 1, 2, none⟩ = some (.slice none 0 0) ∧ Y.cell? ⟨z + 1 + 1 + 1 + 1, 3, none⟩ = some (.string ⟨#[]⟩) ∧ Y.cell? ⟨z + 1 + 1 + 1 + 1, 4, none⟩ = some (.slice none 0 0))
            (first | (with_reducible exact HKD.out) | (with_reducible exact HKA.out) | (with_reducible exact HKB.out))
            (fail)
          clear HSB HKD HKA HKB r0 r1 r2 r3 r4 t0 t1 t2 t3 t4 f0 f1 f2 f3 f4 g0 g1 g2 g3 g4 l2 l3
          go_wp2_with fail
          have hdr : ∀ W9 : World, Below W9.heap.size W9 W9.drew := fun W9 => below_drewN (Below.refl _ _) 1
          generalize (World.setCell (World.setCell (World.setCell (World.setCell (World.setCell (World.setCell (World.setCell (World.setCell (World.setCell (World.setCell wq ⟨z + 1 + 1, 0, none⟩ (.int .i64 0)) ⟨z + 1 + 1, 1, none⟩ (.int .i64 0)) ⟨z + 1 + 1, 2, none⟩ (.slice none 0 0)) ⟨z + 1 + 1, 3, none⟩ (.string ⟨#[]⟩)) ⟨z + 1 + 1, 4, none⟩ (.slice none 0 0)) ⟨z + 1 + 1 + 1, 0, none⟩ (.int .i64 0)) ⟨z + 1 + 1 + 1, 1, none⟩ (.int .i64 0)) ⟨z + 1 + 1 + 1, 2, none⟩ (.slice none 0 0)) ⟨z + 1 + 1 + 1, 3, none⟩ (.string ⟨#[]⟩)) ⟨z + 1 + 1 + 1, 4, none⟩ (.slice none 0 0)) = w9 at *
          obtain ⟨t1, t2, t3, t4, t5⟩ := hT
          have b3 := below_mv t3 (hdr w9)
          have u0 := t1.cell 0 rfl; have u1 := t1.cell 1 rfl; have u2 := t1.cell 2 rfl; have u3 := t1.cell 3 rfl; have u4 := t1.cell 4 rfl
          have v0 := t2.cell 0 rfl; have v1 := t2.cell 1 rfl; have v2 := t2.cell 2 rfl; have v3 := t2.cell 3 rfl; have v4 := t2.cell 4 rfl
          refine bodyPost_ret (v := .tuple #[.agg #[.int .i64 0, .int .i64 0, .slice none 0 0, .string ⟨#[]⟩, .slice none 0 0], .agg #[.int .i64 0, .int .i64 0, .slice none 0 0, .string ⟨#[]⟩, .slice none 0 0], .bool false]) (by simp [results, Try.results11, go_sem, u0, u1, u2, u3, u4, v0, v1, v2, v3, v4]) rfl ?_
          exact npassS_none HE.out HO.out HS.out b3
        · subst e1
          have e3 : (i2 == P2) = false := by rw [beq_eq_false_iff_ne]; exact e2
          go_wp2
          go_quiet (fail)
          go_wp2
          refine ⟨⟨k + 1, by omega, by go_num, fun j y hy hj => ?_, below_drewN HBR.out _⟩, by simp [intOf]; omega⟩
          by_cases e : j = k
          · subst e
            have h1 := HY.out
            rw [h1] at hy
            injection hy with hy
            subst hy
            rw [HP.out]
            intro e
            injection e with _ e; exact e2 e
          · exact HA.out j y hy (by omega)
      · have e3 : (i1 == P1) = false := by rw [beq_eq_false_iff_ne]; exact e1
        go_wp2
        go_quiet (fail)
        go_wp2
        refine ⟨⟨k + 1, by omega, by go_num, fun j y hy hj => ?_, below_drewN HBR.out _⟩, by simp [intOf]; omega⟩
        by_cases e : j = k
        · subst e
          have h1 := HY.out
          rw [h1] at hy
          injection hy with hy
          subst hy
          rw [HP.out]
          intro e
          injection e with e _; exact e1 e
        · exact HA.out j y hy (by omega)
    · have HNM : Hid (p.id ∉ q.deps) := Lib.hid (fun h => by
        obtain ⟨j, hj⟩ := List.getElem?_of_mem h
        exact HA.out j _ hj (by have := (List.getElem?_eq_some_iff.1 hj).1; omega) rfl)
      have hkn : k = dn' := by omega
      subst hkn
      have x4 := HB0.out.cell 4 rfl; have y2 := HB1.out.cell 2 rfl; have y4 := HB1.out.cell 4 rfl
      have l0 := HB0.out.lt; have l1 := HB1.out.lt
      go_wp2_with fail
      obtain ⟨⟨lx, ly⟩, hol⟩ : ∃ z, outF (passF p.l q.l) = z := ⟨_, rfl⟩
      obtain ⟨bl, hbl⟩ : ∃ b, (passF p.l q.l).isSome = b := ⟨_, rfl⟩
      refine (refPassS S A n c A' n' c' p.l q.l lx ly wr bl HV.out.l HV'.out.l hle hle' HL.out HL'.out (fun b h => Nat.lt_of_lt_of_le (HSS.out b h) HBW.out.size) HV.out.k HV.out.r HV'.out.r hol hbl).mono ?_
      rintro e w3 ⟨E1, k1, E2, k2, rfl, hk1, hk2, hr1, hr2, hb⟩
      have HOL := Lib.hid hol; have HBL := Lib.hid hbl
      clear hol hbl x4 y2 y4 l0 l1
      have hz5 : z + 5 ≤ wr.heap.size := HB4.out.lt
      have HR1 := Lib.hid (hr1.mono fun b hb => (hb.imp id fun h => ⟨Nat.le_trans hz5 h.1, h.2⟩ : S b ∨ (z + 5 ≤ b ∧ b < w3.heap.size))); have HR2 := Lib.hid (hr2.mono fun b hb => (hb.imp id fun h => ⟨Nat.le_trans hz5 h.1, h.2⟩ : S b ∨ (z + 5 ≤ b ∧ b < w3.heap.size))); have HK1 := Lib.hid hk1; have HK2 := Lib.hid hk2
      replace HB0 := Lib.hid (HB0.out.below hb HB0.out.lt); replace HB1 := Lib.hid (HB1.out.below hb HB1.out.lt); replace HB2 := Lib.hid (HB2.out.below hb HB2.out.lt); replace HB3 := Lib.hid (HB3.out.below hb HB3.out.lt); replace HB4 := Lib.hid (HB4.out.below hb HB4.out.lt)
      have hsw : w.heap.size ≤ wr.heap.size := HBW.out.size
      replace HV := Lib.hid (HV.out.to_ ((alike_below hb).mono fun b h => Nat.lt_of_lt_of_le (HSS.out b h) hsw)); replace HV' := Lib.hid (HV'.out.to_ ((alike_below hb).mono fun b h => Nat.lt_of_lt_of_le (HSS.out b h) hsw))
      have HS3 := Lib.hid hb.size; have HS5 := Lib.hid hz5
      replace HBW := Lib.hid (below_mv HBW.out hb)
      clear hb hr1 hr2 hk1 hk2 hsw hz5
      cases bl with
      | false =>
        have HE : Hid (passN p q = none) := Lib.hid (by
          unfold passN
          rw [if_neg HNM.out]
          have h := HBL.out
          cases hp : passF p.l q.l with
          | none => rfl
          | some z => rw [hp] at h; cases h)
        go_wp2_with fail
        have HSB : Hid (∀ Y : World, Blk Y (z + 1 + 1 + 1 + 1) 28 #[.int .i64 0, .int .i64 0, .slice none 0 0, .string ⟨#[]⟩, .slice none 0 0] → Y.cell? ⟨z + 1 + 1 + 1 + 1, 0, none⟩ = some (.int .i64 0) ∧ Y.cell? ⟨z + 1 + 1 + 1 + 1, 1, none⟩ = some (.int .i64 0) ∧ Y.cell? ⟨z + 1 + 1 + 1 + 1, 2, none⟩ = some (.slice none 0 0) ∧ Y.cell? ⟨z + 1 + 1 + 1 + 1, 3, none⟩ = some (.string ⟨#[]⟩) ∧ Y.cell? ⟨z + 1 + 1 + 1 + 1, 4, none⟩ = some (.slice none 0 0)) := Lib.hid (fun Y h0 => ⟨h0.cell 0 rfl, h0.cell 1 rfl, h0.cell 2 rfl, h0.cell 3 rfl, h0.cell 4 rfl⟩)
        have HKD := Lib.hid (HSB.out w3.drew (HB4.out.drewN 1))
        have HKA := Lib.hid (HSB.out (World.setCell (World.setCell (World.setCell (World.setCell (World.setCell w3 ⟨z + 1 + 1, 0, none⟩ (.int .i64 0)) ⟨z + 1 + 1, 1, none⟩ (.int .i64 0)) ⟨z + 1 + 1, 2, none⟩ (.slice none 0 0)) ⟨z + 1 + 1, 3, none⟩ (.string ⟨#[]⟩)) ⟨z + 1 + 1, 4, none⟩ (.slice none 0 0)).drew ((blk_set5 HB4.out (show z + 1 + 1 + 1 + 1 ≠ z + 1 + 1 by omega) (.int .i64 0) (.int .i64 0) (.slice none 0 0) (.string ⟨#[]⟩) (.slice none 0 0)).drewN 1))
        have HKB := Lib.hid (HSB.out (World.setCell (World.setCell (World.setCell (World.setCell (World.setCell (World.setCell (World.setCell (World.setCell (World.setCell (World.setCell w3 ⟨z + 1 + 1, 0, none⟩ (.int .i64 0)) ⟨z + 1 + 1, 1, none⟩ (.int .i64 0)) ⟨z + 1 + 1, 2, none⟩ (.slice none 0 0)) ⟨z + 1 + 1, 3, none⟩ (.string ⟨#[]⟩)) ⟨z + 1 + 1, 4, none⟩ (.slice none 0 0)) ⟨z + 1 + 1 + 1, 0, none⟩ (.int .i64 0)) ⟨z + 1 + 1 + 1, 1, none⟩ (.int .i64 0)) ⟨z + 1 + 1 + 1, 2, none⟩ (.slice none 0 0)) ⟨z + 1 + 1 + 1, 3, none⟩ (.string ⟨#[]⟩)) ⟨z + 1 + 1 + 1, 4, none⟩ (.slice none 0 0)).drew ((blk_set5 (blk_set5 HB4.out (show z + 1 + 1 + 1 + 1 ≠ z + 1 + 1 by omega) (.int .i64 0) (.int .i64 0) (.slice none 0 0) (.string ⟨#[]⟩) (.slice none 0 0)) (show z + 1 + 1 + 1 + 1 ≠ z + 1 + 1 + 1 by omega) (.int .i64 0) (.int .i64 0) (.slice none 0 0) (.string ⟨#[]⟩) (.slice none 0 0)).drewN 1))
        have r0 := HB2.out.cell 0 rfl; have r1 := HB2.out.cell 1 rfl; have r2 := HB2.out.cell 2 rfl; have r3 := HB2.out.cell 3 rfl; have r4 := HB2.out.cell 4 rfl
        have t0 := HB3.out.cell 0 rfl; have t1 := HB3.out.cell 1 rfl; have t2 := HB3.out.cell 2 rfl; have t3 := HB3.out.cell 3 rfl; have t4 := HB3.out.cell 4 rfl
        have f0 := HB2.out.frozen 0; have f1 := HB2.out.frozen 1; have f2 := HB2.out.frozen 2; have f3 := HB2.out.frozen 3; have f4 := HB2.out.frozen 4
        have g0 := HB3.out.frozen 0; have g1 := HB3.out.frozen 1; have g2 := HB3.out.frozen 2; have g3 := HB3.out.frozen 3; have g4 := HB3.out.frozen 4
        have l2 := HB2.out.lt; have l3 := HB3.out.lt
        have hT := two5 HB2.out HB3.out HBW.out (show w.heap.size ≤ z + 1 + 1 by have := HZ.out; omega) (.int .i64 0) (.int .i64 0) (.slice none 0 0) (.string ⟨#[]⟩) (.slice none 0 0) (.int .i64 0) (.int .i64 0) (.slice none 0 0) (.string ⟨#[]⟩) (.slice none 0 0)
        go_region_held3 (fun Y => Y.cell? ⟨z + 1 + 1 + 1 + 1, 0, none⟩ = some (.int .i64 0) ∧ Y.cell? ⟨z + 1 + 1 + 1 + 1, 1, none⟩ = some (.int .i64 0) ∧ Y.cell? ⟨z + 1 + 1 + 1 + 1, 2, none⟩ = some (.slice none 0 0) ∧ Y.cell? ⟨z + 1 + 1 + 1 + 1, 3, none⟩ = some (.string ⟨#[]⟩) ∧ Y.cell? ⟨z + 1 + 1 + 1 + 1, 4, none⟩ = some (.slice none 0 0))
          (first | (with_reducible exact HKD.out) | (with_reducible exact HKA.out) | (with_reducible exact HKB.out))
          (fail)
        clear HSB HKD HKA HKB r0 r1 r2 r3 r4 t0 t1 t2 t3 t4 f0 f1 f2 f3 f4 g0 g1 g2 g3 g4 l2 l3
        go_wp2_with fail
        have hdr : ∀ W9 : World, Below W9.heap.size W9 W9.drew := fun W9 => below_drewN (Below.refl _ _) 1
        generalize (World.setCell (World.setCell (World.setCell (World.setCell (World.setCell (World.setCell (World.setCell (World.setCell (World.setCell (World.setCell w3 ⟨z + 1 + 1, 0, none⟩ (.int .i64 0)) ⟨z + 1 + 1, 1, none⟩ (.int .i64 0)) ⟨z + 1 + 1, 2, none⟩ (.slice none 0 0)) ⟨z + 1 + 1, 3, none⟩ (.string ⟨#[]⟩)) ⟨z + 1 + 1, 4, none⟩ (.slice none 0 0)) ⟨z + 1 + 1 + 1, 0, none⟩ (.int .i64 0)) ⟨z + 1 + 1 + 1, 1, none⟩ (.int .i64 0)) ⟨z + 1 + 1 + 1, 2, none⟩ (.slice none 0 0)) ⟨z + 1 + 1 + 1, 3, none⟩ (.string ⟨#[]⟩)) ⟨z + 1 + 1 + 1, 4, none⟩ (.slice none 0 0)) = w9 at *
        obtain ⟨t1, t2, t3, t4, t5⟩ := hT
        have b3 := below_mv t3 (hdr w9)
        have u0 := t1.cell 0 rfl; have u1 := t1.cell 1 rfl; have u2 := t1.cell 2 rfl; have u3 := t1.cell 3 rfl; have u4 := t1.cell 4 rfl
        have v0 := t2.cell 0 rfl; have v1 := t2.cell 1 rfl; have v2 := t2.cell 2 rfl; have v3 := t2.cell 3 rfl; have v4 := t2.cell 4 rfl
        refine bodyPost_ret (v := .tuple #[.agg #[.int .i64 0, .int .i64 0, .slice none 0 0, .string ⟨#[]⟩, .slice none 0 0], .agg #[.int .i64 0, .int .i64 0, .slice none 0 0, .string ⟨#[]⟩, .slice none 0 0], .bool false]) (by simp [results, Try.results11, go_sem, u0, u1, u2, u3, u4, v0, v1, v2, v3, v4]) rfl ?_
        exact npassS_none HE.out HO.out HS.out b3
      | true =>
        have HE : Hid (passN p q = some (⟨q.id, q.deps, q.txt, lx⟩, ⟨p.id, p.deps, p.txt, ly⟩)) := Lib.hid (by
          unfold passN
          rw [if_neg HNM.out, outF_of HOL.out HBL.out]
          rfl)
        have x4 := HB0.out.cell 4 rfl; have y4 := HB1.out.cell 4 rfl
        have f0 := HB0.out.frozen 4; have f1 := HB1.out.frozen 4
        have l0 := HB0.out.lt; have l1 := HB1.out.lt
        go_wp2_with fail
        have hzw : w.heap.size = z := HZ.out
        have hzs : z + 5 ≤ w3.heap.size := Nat.le_trans HS5.out HS3.out
        have b0 : Blk ((w3.setCell ⟨z, 4, none⟩ (.slice E2 ly.length k2)).setCell ⟨z + 1, 4, none⟩ (.slice E1 lx.length k1)) z 28 #[.int .i64 p.id.1, .int .i64 p.id.2, .slice D dn dc, strV p.txt, .slice E2 ly.length k2] := (HB0.out.set 4 (.slice E2 ly.length k2)).set_ne (by omega) 4 _
        have b1 : Blk ((w3.setCell ⟨z, 4, none⟩ (.slice E2 ly.length k2)).setCell ⟨z + 1, 4, none⟩ (.slice E1 lx.length k1)) (z + 1) 28 #[.int .i64 q.id.1, .int .i64 q.id.2, .slice D' k dc', strV q.txt, .slice E1 lx.length k1] := (HB1.out.set_ne (by omega) 4 (.slice E2 ly.length k2)).set 4 _
        have b2 := (HB2.out.set_ne (show z + 1 + 1 ≠ z by omega) 4 (.slice E2 ly.length k2)).set_ne (show z + 1 + 1 ≠ z + 1 by omega) 4 (.slice E1 lx.length k1)
        have b3 := (HB3.out.set_ne (show z + 1 + 1 + 1 ≠ z by omega) 4 (.slice E2 ly.length k2)).set_ne (show z + 1 + 1 + 1 ≠ z + 1 by omega) 4 (.slice E1 lx.length k1)
        have al : Fl.Alike (fun b => b ≠ z ∧ b ≠ z + 1) w3 ((w3.setCell ⟨z, 4, none⟩ (.slice E2 ly.length k2)).setCell ⟨z + 1, 4, none⟩ (.slice E1 lx.length k1)) := ((alike_set w3 z 4 _).mono fun b hb => hb.1).trans_ ((alike_set _ (z + 1) 4 _).mono fun b hb => hb.2) (by simp)
        have key : ∀ b, (S b ∨ (z + 5 ≤ b ∧ b < w3.heap.size)) → b ≠ z ∧ b ≠ z + 1 := fun b hb => by rcases hb with h | h; (have := HSS.out b h; omega); omega
        have r1 := HR1.out.to (al.mono key); have r2 := HR2.out.to (al.mono key)
        have e1 := HV.out.to_ (al.mono fun b h => key b (.inl h)); have e2 := HV'.out.to_ (al.mono fun b h => key b (.inl h))
        have hw4 : Below w.heap.size w ((w3.setCell ⟨z, 4, none⟩ (.slice E2 ly.length k2)).setCell ⟨z + 1, 4, none⟩ (.slice E1 lx.length k1)) := (HBW.out.setCell (p := ⟨z, 4, none⟩) (Nat.le_of_eq hzw) _).setCell (p := ⟨z + 1, 4, none⟩) (show w.heap.size ≤ z + 1 by omega) _
        have hsz : ((w3.setCell ⟨z, 4, none⟩ (.slice E2 ly.length k2)).setCell ⟨z + 1, 4, none⟩ (.slice E1 lx.length k1)).heap.size = w3.heap.size := by simp
        clear x4 y4 f0 f1 l0 l1 al HB4 HB0 HB1 HV HV' HBR
        generalize ((w3.setCell ⟨z, 4, none⟩ (.slice E2 ly.length k2)).setCell ⟨z + 1, 4, none⟩ (.slice E1 lx.length k1)) = wq at *
        replace HB2 := Lib.hid b2; replace HB3 := Lib.hid b3; have HB0 := Lib.hid b0; have HB1 := Lib.hid b1; replace HBW := Lib.hid hw4; replace HR1 := Lib.hid r1; replace HR2 := Lib.hid r2; have HV := Lib.hid e1; have HV' := Lib.hid e2; have HSZ := Lib.hid hsz
        clear b0 b1 b2 b3 hw4 r1 r2 e1 e2 hsz
        have HSB : Hid (∀ Y : World, Blk Y z 28 #[.int .i64 p.id.1, .int .i64 p.id.2, .slice D dn dc, strV p.txt, .slice E2 ly.length k2] → Blk Y (z + 1) 28 #[.int .i64 q.id.1, .int .i64 q.id.2, .slice D' k dc', strV q.txt, .slice E1 lx.length k1] → Y.cell? ⟨z, 0, none⟩ = some (.int .i64 p.id.1) ∧ Y.cell? ⟨z, 1, none⟩ = some (.int .i64 p.id.2) ∧ Y.cell? ⟨z, 2, none⟩ = some (.slice D dn dc) ∧ Y.cell? ⟨z, 3, none⟩ = some (strV p.txt) ∧ Y.cell? ⟨z, 4, none⟩ = some (.slice E2 ly.length k2) ∧ Y.cell? ⟨z + 1, 0, none⟩ = some (.int .i64 q.id.1) ∧ Y.cell? ⟨z + 1, 1, none⟩ = some (.int .i64 q.id.2) ∧ Y.cell? ⟨z + 1, 2, none⟩ = some (.slice D' k dc') ∧ Y.cell? ⟨z + 1, 3, none⟩ = some (strV q.txt) ∧ Y.cell? ⟨z + 1, 4, none⟩ = some (.slice E1 lx.length k1)) := Lib.hid (fun Y h0 h1 => ⟨h0.cell 0 rfl, h0.cell 1 rfl, h0.cell 2 rfl, h0.cell 3 rfl, h0.cell 4 rfl, h1.cell 0 rfl, h1.cell 1 rfl, h1.cell 2 rfl, h1.cell 3 rfl, h1.cell 4 rfl⟩)
        have HKD := Lib.hid (HSB.out wq.drew (HB0.out.drewN 1) (HB1.out.drewN 1))
        have HKA := Lib.hid (HSB.out (World.setCell (World.setCell (World.setCell (World.setCell (World.setCell wq ⟨z + 1 + 1, 0, none⟩ (.int .i64 q.id.1)) ⟨z + 1 + 1, 1, none⟩ (.int .i64 q.id.2)) ⟨z + 1 + 1, 2, none⟩ (.slice D' k dc')) ⟨z + 1 + 1, 3, none⟩ (strV q.txt)) ⟨z + 1 + 1, 4, none⟩ (.slice E1 lx.length k1)).drew ((blk_set5 HB0.out (show z ≠ z + 1 + 1 by omega) (.int .i64 q.id.1) (.int .i64 q.id.2) (.slice D' k dc') (strV q.txt) (.slice E1 lx.length k1)).drewN 1) ((blk_set5 HB1.out (show z + 1 ≠ z + 1 + 1 by omega) (.int .i64 q.id.1) (.int .i64 q.id.2) (.slice D' k dc') (strV q.txt) (.slice E1 lx.length k1)).drewN 1))
        have HKB := Lib.hid (HSB.out (World.setCell (World.setCell (World.setCell (World.setCell (World.setCell (World.setCell (World.setCell (World.setCell (World.setCell (World.setCell wq ⟨z + 1 + 1, 0, none⟩ (.int .i64 q.id.1)) ⟨z + 1 + 1, 1, none⟩ (.int .i64 q.id.2)) ⟨z + 1 + 1, 2, none⟩ (.slice D' k dc')) ⟨z + 1 + 1, 3, none⟩ (strV q.txt)) ⟨z + 1 + 1, 4, none⟩ (.slice E1 lx.length k1)) ⟨z + 1 + 1 + 1, 0, none⟩ (.int .i64 p.id.1)) ⟨z + 1 + 1 + 1, 1, none⟩ (.int .i64 p.id.2)) ⟨z + 1 + 1 + 1, 2, none⟩ (.slice D dn dc)) ⟨z + 1 + 1 + 1, 3, none⟩ (strV p.txt)) ⟨z + 1 + 1 + 1, 4, none⟩ (.slice E2 ly.length k2)).drew ((blk_set5 (blk_set5 HB0.out (show z ≠ z + 1 + 1 by omega) (.int .i64 q.id.1) (.int .i64 q.id.2) (.slice D' k dc') (strV q.txt) (.slice E1 lx.length k1)) (show z ≠ z + 1 + 1 + 1 by omega) (.int .i64 p.id.1) (.int .i64 p.id.2) (.slice D dn dc) (strV p.txt) (.slice E2 ly.length k2)).drewN 1) ((blk_set5 (blk_set5 HB1.out (show z + 1 ≠ z + 1 + 1 by omega) (.int .i64 q.id.1) (.int .i64 q.id.2) (.slice D' k dc') (strV q.txt) (.slice E1 lx.length k1)) (show z + 1 ≠ z + 1 + 1 + 1 by omega) (.int .i64 p.id.1) (.int .i64 p.id.2) (.slice D dn dc) (strV p.txt) (.slice E2 ly.length k2)).drewN 1))
        have r0 := HB2.out.cell 0 rfl; have r1 := HB2.out.cell 1 rfl; have r2 := HB2.out.cell 2 rfl; have r3 := HB2.out.cell 3 rfl; have r4 := HB2.out.cell 4 rfl
        have t0 := HB3.out.cell 0 rfl; have t1 := HB3.out.cell 1 rfl; have t2 := HB3.out.cell 2 rfl; have t3 := HB3.out.cell 3 rfl; have t4 := HB3.out.cell 4 rfl
        have f0 := HB2.out.frozen 0; have f1 := HB2.out.frozen 1; have f2 := HB2.out.frozen 2; have f3 := HB2.out.frozen 3; have f4 := HB2.out.frozen 4
        have g0 := HB3.out.frozen 0; have g1 := HB3.out.frozen 1; have g2 := HB3.out.frozen 2; have g3 := HB3.out.frozen 3; have g4 := HB3.out.frozen 4
        have l2 := HB2.out.lt; have l3 := HB3.out.lt
        have hT := two5 HB2.out HB3.out HBW.out (show w.heap.size ≤ z + 1 + 1 by have := HZ.out; omega) (.int .i64 q.id.1) (.int .i64 q.id.2) (.slice D' k dc') (strV q.txt) (.slice E1 lx.length k1) (.int .i64 p.id.1) (.int .i64 p.id.2) (.slice D dn dc) (strV p.txt) (.slice E2 ly.length k2)
        go_region_held3 (fun Y => Y.cell? ⟨z, 0, none⟩ = some (.int .i64 p.id.1) ∧ Y.cell? ⟨z, 1, none⟩ = some (.int .i64 p.id.2) ∧ Y.cell? ⟨z, 2, none⟩ = some (.slice D dn dc) ∧ Y.cell? ⟨z, 3, none⟩ = some (strV p.txt) ∧ Y.cell? ⟨z, 4, none⟩ = some (.slice E2 ly.length k2) ∧ Y.cell? ⟨z + 1, 0, none⟩ = some (.int .i64 q.id.1) ∧ Y.cell? ⟨z + 1, 1, none⟩ = some (.int .i64 q.id.2) ∧ Y.cell? ⟨z + 1, 2, none⟩ = some (.slice D' k dc') ∧ Y.cell? ⟨z + 1, 3, none⟩ = some (strV q.txt) ∧ Y.cell? ⟨z + 1, 4, none⟩ = some (.slice E1 lx.length k1))
          (first | (with_reducible exact HKD.out) | (with_reducible exact HKA.out) | (with_reducible exact HKB.out))
          (fail)
        clear HSB HKD HKA HKB r0 r1 r2 r3 r4 t0 t1 t2 t3 t4 f0 f1 f2 f3 f4 g0 g1 g2 g3 g4 l2 l3
        go_wp2_with fail
        have hdr : ∀ W9 : World, Below W9.heap.size W9 W9.drew := fun W9 => below_drewN (Below.refl _ _) 1
        generalize (World.setCell (World.setCell (World.setCell (World.setCell (World.setCell (World.setCell (World.setCell (World.setCell (World.setCell (World.setCell wq ⟨z + 1 + 1, 0, none⟩ (.int .i64 q.id.1)) ⟨z + 1 + 1, 1, none⟩ (.int .i64 q.id.2)) ⟨z + 1 + 1, 2, none⟩ (.slice D' k dc')) ⟨z + 1 + 1, 3, none⟩ (strV q.txt)) ⟨z + 1 + 1, 4, none⟩ (.slice E1 lx.length k1)) ⟨z + 1 + 1 + 1, 0, none⟩ (.int .i64 p.id.1)) ⟨z + 1 + 1 + 1, 1, none⟩ (.int .i64 p.id.2)) ⟨z + 1 + 1 + 1, 2, none⟩ (.slice D dn dc)) ⟨z + 1 + 1 + 1, 3, none⟩ (strV p.txt)) ⟨z + 1 + 1 + 1, 4, none⟩ (.slice E2 ly.length k2)) = w9 at *
        obtain ⟨t1, t2, t3, t4, t5⟩ := hT
        have b3 := below_mv t3 (hdr w9)
        have u0 := t1.cell 0 rfl; have u1 := t1.cell 1 rfl; have u2 := t1.cell 2 rfl; have u3 := t1.cell 3 rfl; have u4 := t1.cell 4 rfl
        have v0 := t2.cell 0 rfl; have v1 := t2.cell 1 rfl; have v2 := t2.cell 2 rfl; have v3 := t2.cell 3 rfl; have v4 := t2.cell 4 rfl
        obtain ⟨k4, k5⟩ := passL_len passP (outF_of HOL.out HBL.out)
        have hv := HV.out; have hv' := HV'.out
        have hl0 := hv.l; have hl1 := hv'.l; have hsz := HSZ.out
        have key2 : ∀ b, (S b ∨ (z + 5 ≤ b ∧ b < w3.heap.size)) → b ≠ z + 1 + 1 ∧ b ≠ z + 1 + 1 + 1 := fun b hb => by rcases hb with h | h; (have := HSS.out b h; omega); omega
        have up : ∀ b, (S b ∨ (z + 5 ≤ b ∧ b < w3.heap.size)) → Also S w w9.drew b := fun b hb => hb.imp id fun h => ⟨by omega, by show _ < w9.heap.size; omega⟩
        have l1 := (((HR1.out.to (t5.mono key2)).mono up).to (Fl.alike_drewN _ w9 1)); have l2 := (((HR2.out.to (t5.mono key2)).mono up).to (Fl.alike_drewN _ w9 1))
        have d1 := ((hv'.dr.to (t5.mono fun b h => key2 b (.inl h))).to (Fl.alike_drewN _ w9 1)).mono fun b h => up b (.inl h); have d2 := ((hv.dr.to (t5.mono fun b h => key2 b (.inl h))).to (Fl.alike_drewN _ w9 1)).mono fun b h => up b (.inl h)
        refine bodyPost_ret (v := .tuple #[.agg #[.int .i64 q.id.1, .int .i64 q.id.2, .slice D' k dc', strV q.txt, .slice E1 lx.length k1], .agg #[.int .i64 p.id.1, .int .i64 p.id.2, .slice D dn dc, strV p.txt, .slice E2 ly.length k2], .bool true]) (by simp [results, Try.results11, go_sem, u0, u1, u2, u3, u4, v0, v1, v2, v3, v4]) rfl ?_
        have ho := HO.out
        have hs := HS.out
        rw [HE.out] at ho hs
        injection ho with e1 e2
        subst e1 e2 hs
        exact ⟨D', k, dc', E1, lx.length, k1, D, dn, dc, E2, ly.length, k2, rfl, ⟨hv'.dl, hv'.dk, hv'.dm, d1, hv'.tm, rfl, HK1.out, by unfold maxLen; omega, l1⟩, ⟨hv.dl, hv.dk, hv.dm, d2, hv.tm, rfl, HK2.out, by unfold maxLen; omega, l2⟩, b3⟩

end Tg
end Go.Proofs.Ytbiiabfhngdeiaa

namespace Go.Proofs.Ytbiiabfhngdeiaa
open Go.RowKit
set_option linter.unusedVariables false
namespace Tg
open Tx Df Sq Hk Tr Pr Fl Pn

/-- Where two patches lie, made since w; what there was in u is as it was, but for their blocks. -/
def Lay5 (w u W : World) (T U : Nat) (x y : Array Value) : Prop := Blk W T 28 x ∧ Blk W U 28 y ∧ w.heap.size ≤ T ∧ w.heap.size ≤ U ∧ Below w.heap.size w W ∧ u.heap.size ≤ W.heap.size ∧ Fl.Alike (fun b => b < u.heap.size ∧ b ≠ T ∧ b ≠ U) u W
section
variable {w u : World} {T U X Y : Nat} {x0 x1 x2 x3 x4 y0 y1 y2 y3 y4 : Value}
theorem Lay5.swap {W : World} {x y : Array Value} (h : Lay5 w u W T U x y) : Lay5 w u W U T y x := ⟨h.2.1, h.1, h.2.2.2.1, h.2.2.1, h.2.2.2.2.1, h.2.2.2.2.2.1, h.2.2.2.2.2.2.mono fun b hb => ⟨hb.1, hb.2.2, hb.2.1⟩⟩
theorem size_set5 (W : World) (b : Nat) (v0 v1 v2 v3 v4 : Value) : (((((W.setCell ⟨b, 0, none⟩ v0).setCell ⟨b, 1, none⟩ v1).setCell ⟨b, 2, none⟩ v2).setCell ⟨b, 3, none⟩ v3).setCell ⟨b, 4, none⟩ v4).heap.size = W.heap.size := by simp
theorem lay5_aa (hw : Below w.heap.size w u) : Lay5 w u ((u.alloc (.cells #[x0, x1, x2, x3, x4] 28)).alloc (.cells #[y0, y1, y2, y3, y4] 28)) u.heap.size (u.heap.size + 1) #[x0, x1, x2, x3, x4] #[y0, y1, y2, y3, y4] := by
  have h2 := Blk.new (u.alloc (.cells #[x0, x1, x2, x3, x4] 28)) 28 #[y0, y1, y2, y3, y4]
  simp only [World.size_alloc] at h2
  have hb := Cut2.bel2 u (.cells #[x0, x1, x2, x3, x4] 28) (.cells #[y0, y1, y2, y3, y4] 28)
  exact ⟨(Blk.new u _ _).alloc _, h2, hw.size, Nat.le_succ_of_le hw.size, hw.trans (hb.mono hw.size), hb.size, (alike_below hb).mono fun b h => h.1⟩
theorem lay5_sa (hw : Below w.heap.size w u) (hX : Blk u X 28 noC) (hle : w.heap.size ≤ X) :
    Lay5 w u ((((((u.setCell ⟨X, 0, none⟩ x0).setCell ⟨X, 1, none⟩ x1).setCell ⟨X, 2, none⟩ x2).setCell ⟨X, 3, none⟩ x3).setCell ⟨X, 4, none⟩ x4).alloc (.cells #[y0, y1, y2, y3, y4] 28)) X u.heap.size #[x0, x1, x2, x3, x4] #[y0, y1, y2, y3, y4] := by
  have h2 := Blk.new (((((u.setCell ⟨X, 0, none⟩ x0).setCell ⟨X, 1, none⟩ x1).setCell ⟨X, 2, none⟩ x2).setCell ⟨X, 3, none⟩ x3).setCell ⟨X, 4, none⟩ x4) 28 #[y0, y1, y2, y3, y4]
  rw [size_set5] at h2
  have hb := below_set5 hw hle x0 x1 x2 x3 x4
  refine ⟨(blk5 hX _ _ _ _ _).alloc _, h2, hle, hw.size, hb.alloc hb.size _, by simp, ?_⟩
  refine ((alike_set5 u X x0 x1 x2 x3 x4).mono fun b h => h.2.1).trans_ ((alike_below (Cut2.bel1 _ _)).mono fun b h => ?_) (by simp)
  rw [size_set5]
  exact h.1
theorem lay5_ss (hw : Below w.heap.size w u) (hX : Blk u X 28 noC) (hY : Blk u Y 28 noC) (hne : X ≠ Y) (hle : w.heap.size ≤ X) (hle' : w.heap.size ≤ Y) :
    Lay5 w u ((((((((((u.setCell ⟨X, 0, none⟩ x0).setCell ⟨X, 1, none⟩ x1).setCell ⟨X, 2, none⟩ x2).setCell ⟨X, 3, none⟩ x3).setCell ⟨X, 4, none⟩ x4).setCell ⟨Y, 0, none⟩ y0).setCell ⟨Y, 1, none⟩ y1).setCell ⟨Y, 2, none⟩ y2).setCell ⟨Y, 3, none⟩ y3).setCell ⟨Y, 4, none⟩ y4) X Y #[x0, x1, x2, x3, x4] #[y0, y1, y2, y3, y4] := by
  refine ⟨blk_set5 (blk5 hX _ _ _ _ _) hne _ _ _ _ _, blk5 (blk_set5 hY (fun e => hne e.symm) _ _ _ _ _) _ _ _ _ _, hle, hle', below_set5 (below_set5 hw hle _ _ _ _ _) hle' _ _ _ _ _, by simp, ?_⟩
  exact ((alike_set5 u X x0 x1 x2 x3 x4).mono fun b h => h.2.1).trans_ ((alike_set5 _ Y y0 y1 y2 y3 y4).mono fun b h => h.2.2) (by simp)
end

/-- The blocks ahead of z, and those behind g. -/
def QS (z g : Nat) (W : World) : Nat → Prop := fun b => b < z ∨ (g < b ∧ b < W.heap.size)
theorem qs_up {z g : Nat} {W W' : World} (h : W.heap.size ≤ W'.heap.size) : ∀ b, QS z g W b → QS z g W' b := fun b hb => hb.imp id fun h1 => ⟨h1.1, Nat.lt_of_lt_of_le h1.2 h⟩
theorem qs_lt {z g : Nat} {W : World} (h : z ≤ W.heap.size) : ∀ b, QS z g W b → b < W.heap.size := fun b hb => hb.elim (fun h1 => Nat.lt_of_lt_of_le h1 h) fun h1 => h1.2
/-- What was told in u lies so still where the two were laid. -/
theorem lay5_ng {w X u W : World} {z g T U : Nat} {a b : Array Value} {D : Option Addr} {dn dc : Nat} {A : Option Addr} {n c : Nat} {p : Nm} (h : Lay5 w u W T U a b) (hn : NG u (Also (QS z g w) X u) D dn dc A n c p) (hz : z ≤ w.heap.size) (hg : g < w.heap.size) (hX : w.heap.size ≤ X.heap.size) (hu : w.heap.size ≤ u.heap.size)
    (hT : T < X.heap.size ∨ u.heap.size ≤ T) (hU : U < X.heap.size ∨ u.heap.size ≤ U) : NG W (QS z g W) D dn dc A n c p := by
  obtain ⟨_, _, h1, h2, _, h3, h4⟩ := h
  have key : ∀ b, Also (QS z g w) X u b → b < u.heap.size ∧ b ≠ T ∧ b ≠ U := fun b hb => by
    rcases hb with (h | h) | h <;> omega
  refine (hn.to_ (h4.mono key)).mono fun b hb => ?_
  rcases hb with (h | h) | h
  · exact .inl h
  · exact .inr ⟨h.1, by omega⟩
  · exact .inr ⟨by omega, by omega⟩

/-- Between two rounds of the document's own Over: x is q ahead of those from place j on, which are post. -/
structure RO (W : World) (z g : Nat) (A1 : Option Addr) (n c1 : Nat) (l : List Nm) (q : Nm) (dn m j : Nat) (x : Nm) (post : List Nm) (D : Option Addr) (dc : Nat) (E : Option Addr) (k : Nat) : Prop where
  pos : z + 2 ≤ g ∧ (0 < n → g < W.heap.size ∧ A1 = some ⟨g, 0, none⟩)
  eq : overN (l.drop j) q = some (x, post)
  row : OwnT W (QS z g W) (z + 2) (.slice A1 n c1) (l.take j ++ post)
  bq : Blk W z 28 (nmC x D dn dc E m k)
  br : Blk W (z + 1) 28 noC
  ng : NG W (QS z g W) D dn dc E m k x
  lx : Lt x.l

theorem midN_len {l post : List Nm} {q x : Nm} {j n : Nat} (h : overN (l.drop j) q = some (x, post)) (hl : l.length = n) (hj : j ≤ n) : (l.take j ++ post).length = n := by
  rw [List.length_append, List.length_take, overN_len h, List.length_drop]; omega

theorem below_mvz {w W W' : World} {z : Nat} (h : Below z w W) (hb : Below W.heap.size W W') (hz : z ≤ W.heap.size) : Below z w W' := h.trans (hb.mono hz)
theorem ro_start {w0 w1 : World} {z n c1 dn m dc k : Nat} {A1 D E : Option Addr} {l : List Nm} {q : Nm} (hle : n ≤ 1000) (hsz : w0.heap.size = z + 2) (ho : OwnM w1 z w0.heap.size (.slice A1 n c1) l) (hl : l.length = n) (hbq : Blk w1 z 28 (nmC q D dn dc E m k)) (hbr : Blk w1 (z + 1) 28 noC) (hv : NV w1 z D dn dc E m k q) (hlq : Lt q.l) :
    ∃ g, RO w1 z g A1 n c1 l q dn m n q [] D dc E k := by
  have hot := ownT_of ho
  have key : ∀ g, (z + 2 ≤ g ∧ (0 < n → g < w1.heap.size ∧ A1 = some ⟨g, 0, none⟩)) → RO w1 z g A1 n c1 l q dn m n q [] D dc E k := fun g hg =>
    ⟨hg, by rw [List.drop_of_length_le (by omega)]; rfl, by rw [List.take_of_length_le (by omega), List.append_nil, ← hsz]; exact hot.mono fun b hb => .inl hb, hbq, hbr, (ng_of hv).mono fun b hb => .inl hb, hlq⟩
  by_cases h0 : 0 < n
  · obtain ⟨g, cap, e, h1, h2⟩ := ownT_addr hot (by omega)
    injection e with e1 e2 e3
    exact ⟨g, key g ⟨by omega, fun _ => ⟨h2, e1⟩⟩⟩
  · exact ⟨z + 2, key _ ⟨Nat.le_refl _, fun h => absurd h h0⟩⟩

/-- How the document's own Over ends that tells x, ys and bo. -/
def ROEnd (w : World) (x : Nm) (ys : List Nm) (bo : Bool) (e : Ending) (w' : World) : Prop :=
  ∃ D d c E m k A n ca, e = .returned (.tuple #[nmV x.id D d c x.txt E m k, .slice A n ca, .bool bo]) ∧ NV w' w'.heap.size D d c E m k x ∧ ys.length = n ∧ n ≤ ca ∧ RdN w' w'.heap.size A ys ∧ Below w.heap.size w w'

/-- The end: what is told lies so still where the answer's box is set. -/
theorem ro_fin {w W : World} {z g n c1 dn m dc k : Nat} {A1 D E : Option Addr} {l : List Nm} {q x : Nm} {post : List Nm} (hI : RO W z g A1 n c1 l q dn m 0 x post D dc E k) (hn : l.length = n) (hb : Below z w W) (hz : w.heap.size = z) (v0 v1 v2 v3 v4 : Value) :
    let W' := ((((W.setCell ⟨z + 1, 0, none⟩ v0).setCell ⟨z + 1, 1, none⟩ v1).setCell ⟨z + 1, 2, none⟩ v2).setCell ⟨z + 1, 3, none⟩ v3).setCell ⟨z + 1, 4, none⟩ v4
    overN l q = some (x, post) ∧ NV W' W'.heap.size D dn dc E m k x ∧ post.length = n ∧ n ≤ c1 ∧ RdN W' W'.heap.size A1 post ∧ Below w.heap.size w W' := by
  intro W'
  obtain ⟨p1, p2⟩ := hI.pos
  have hs : W.heap.size = W'.heap.size := by simp [W']
  have hl := hI.br.lt
  have he := hI.eq
  rw [List.drop_zero] at he
  have hrow := hI.row
  rw [List.take_zero, List.nil_append] at hrow
  have kz : ∀ b, QS z g W b → b ≠ z + 1 := fun b h => by rcases h with h | h <;> omega
  have al := alike_set5 W (z + 1) v0 v1 v2 v3 v4
  have up : ∀ b, QS z g W b → b < W'.heap.size := fun b h => by rcases h with h | h <;> omega
  have hpl : post.length = n := by rw [overN_len he, hn]
  have hne : some (z + 1) ≠ (Value.slice A1 n c1).ownBlock := fun e => by have := ownT_ge hrow _ e.symm; omega
  have hr2 : OwnT W' (QS z g W) (z + 2) (.slice A1 n c1) post := hrow.set5 hne (fun h => kz _ h rfl) v0 v1 v2 v3 v4
  obtain ⟨A', c', e, h1, h2⟩ := rdN_ownT hr2 up
  injection e with e1 e2 e3
  subst e1 e3
  exact ⟨he, ((hI.ng.to_ (al.mono kz)).mono up).nv, hpl, by omega, h2, by rw [hz]; exact below_set5 hb (Nat.le_succ z) _ _ _ _ _⟩

/-- A round. -/
theorem ro_step {wc : World} {z g n c1 i : Nat} {l : List Nm} {q x p x1 y1 : Nm} {dn m : Nat} {post : List Nm} {D : Option Addr} {dc : Nat} {E : Option Addr} {k : Nat} {D1 E1 D2 E2 : Option Addr} {e1 k1 d2 e2 n2 k2 : Nat} {W : World}
    (hI : RO W z g (some ⟨g, 0, none⟩) n c1 l q dn m (i + 1) x post D dc E k) (hn : l.length = n) (hi : i < n) (hx : l[i]? = some p) (hlp : Lt p.l) (hp : passN p x = some (x1, y1)) (hb : Below W.heap.size W wc)
    (n1 : NG wc (QS z g wc) D1 dn e1 E1 m k1 x1) (n2' : NG wc (QS z g wc) D2 d2 e2 E2 n2 k2 y1) :
    let w1 := ((((wc.setCell ⟨z, 0, none⟩ (.int .i64 x1.id.1)).setCell ⟨z, 1, none⟩ (.int .i64 x1.id.2)).setCell ⟨z, 2, none⟩ (.slice D1 dn e1)).setCell ⟨z, 3, none⟩ (strV x1.txt)).setCell ⟨z, 4, none⟩ (.slice E1 m k1)
    OwnT w1 (QS z g w1) (z + 2) (.slice (some ⟨g, 0, none⟩) n c1) (l.take (i + 1) ++ post) ∧
    RO (((((w1.setCell ⟨g, i * 5, none⟩ (.int .i64 y1.id.1)).setCell ⟨g, i * 5 + 1, none⟩ (.int .i64 y1.id.2)).setCell ⟨g, i * 5 + 2, none⟩ (.slice D2 d2 e2)).setCell ⟨g, i * 5 + 3, none⟩ (strV y1.txt)).setCell ⟨g, i * 5 + 4, none⟩ (.slice E2 n2 k2)) z g (some ⟨g, 0, none⟩) n c1 l q dn m i x1 (y1 :: post) D1 e1 E1 k1 := by
  intro w1
  obtain ⟨p1, p2'⟩ := hI.pos
  obtain ⟨p2, p3⟩ := p2' (by omega)
  have hs : W.heap.size ≤ wc.heap.size := hb.size
  have s1 : wc.heap.size = w1.heap.size := by simp [w1]
  have l0 := hI.bq.lt; have l1 := hI.br.lt
  have al1 := alike_set5 wc z (.int .i64 x1.id.1) (.int .i64 x1.id.2) (.slice D1 dn e1) (strV x1.txt) (.slice E1 m k1)
  have kz : ∀ (X : World) b, QS z g X b → b ≠ z := fun X b h => by rcases h with h | h <;> omega
  have kg : ∀ (X : World) b, QS z g X b → b ≠ g := fun X b h => by rcases h with h | h <;> omega
  have up1 := qs_up (z := z) (g := g) (Nat.le_of_eq s1)
  have hrow : OwnT w1 (QS z g w1) (z + 2) (.slice (some ⟨g, 0, none⟩) n c1) (l.take (i + 1) ++ post) :=
    (((hI.row.below hb).mono (qs_up hs)).set5 (b := z) (fun e => by injection e with e; have e : z = g := e; omega) (fun h => kz _ _ h rfl) _ _ _ _ _).mono up1
  have m1 := (n1.to_ (al1.mono (kz _))).mono up1
  have m2 := (n2'.to_ (al1.mono (kz _))).mono up1
  have b0 := blk5 (hI.bq.below hb l0) (.int .i64 x1.id.1) (.int .i64 x1.id.2) (.slice D1 dn e1) (strV x1.txt) (.slice E1 m k1)
  have b1 := blk_set5 (hI.br.below hb l1) (show z + 1 ≠ z by omega) (.int .i64 x1.id.1) (.int .i64 x1.id.2) (.slice D1 dn e1) (strV x1.txt) (.slice E1 m k1)
  refine ⟨hrow, ⟨p1, fun _ => ⟨by simp [w1]; omega, rfl⟩⟩, one_step passN hx hI.eq hp, ?_, blk_row5 b0 (by omega) i _ _ _ _ _, blk_row5 b1 (by omega) i _ _ _ _ _, ?_, (passN_lt hp hlp hI.lx).1⟩
  · have := (hrow.store (k := i) (midN_len hI.eq hn (by omega)) (fun h => kg _ _ h rfl) m2).mono (qs_up (W' := ((((w1.setCell ⟨g, i * 5, none⟩ (.int .i64 y1.id.1)).setCell ⟨g, i * 5 + 1, none⟩ (.int .i64 y1.id.2)).setCell ⟨g, i * 5 + 2, none⟩ (.slice D2 d2 e2)).setCell ⟨g, i * 5 + 3, none⟩ (strV y1.txt)).setCell ⟨g, i * 5 + 4, none⟩ (.slice E2 n2 k2)) (by simp))
    rw [set_mid hx] at this
    exact this
  · exact (m1.to_ ((alike_row5 w1 g i (.int .i64 y1.id.1) (.int .i64 y1.id.2) (.slice D2 d2 e2) (strV y1.txt) (.slice E2 n2 k2)).mono (kg _))).mono (qs_up (by simp))

end Tg
end Go.Proofs.Ytbiiabfhngdeiaa

namespace Go.Proofs.Ytbiiabfhngdeiaa
open Go.RowKit
set_option linter.unusedVariables false
set_option linter.unusedSimpArgs false
namespace Tg
open Tx Df Sq Hk Tr Pr Fl Pn

/-- Where two patches lie that a round tells. -/
def LayN (w W : World) (z g T U : Nat) (x : Nm) (D2 : Option Addr) (d2 e2 : Nat) (E2 : Option Addr) (n2 k2 : Nat) (y : Nm) (D3 : Option Addr) (d3 e3 : Nat) (E3 : Option Addr) (n3 k3 : Nat) : Prop :=
  Blk W T 28 (nmC x D2 d2 e2 E2 n2 k2) ∧ Blk W U 28 (nmC y D3 d3 e3 E3 n3 k3) ∧ w.heap.size ≤ T ∧ w.heap.size ≤ U ∧ Below w.heap.size w W ∧ NG W (QS z g W) D2 d2 e2 E2 n2 k2 x ∧ NG W (QS z g W) D3 d3 e3 E3 n3 k3 y
theorem layN {w X u W : World} {z g T U : Nat} {x y : Nm} {D2 E2 D3 E3 : Option Addr} {d2 e2 n2 k2 d3 e3 n3 k3 : Nat} (h : Lay5 w u W T U (nmC x D2 d2 e2 E2 n2 k2) (nmC y D3 d3 e3 E3 n3 k3)) (h1 : NG u (Also (QS z g w) X u) D2 d2 e2 E2 n2 k2 x) (h2 : NG u (Also (QS z g w) X u) D3 d3 e3 E3 n3 k3 y)
    (hp : g < w.heap.size) (hz : z ≤ w.heap.size) (hu : Below w.heap.size w u) (hX : w.heap.size ≤ X.heap.size) (hT : T < X.heap.size ∨ u.heap.size ≤ T) (hU : U < X.heap.size ∨ u.heap.size ≤ U) : LayN w W z g T U x D2 d2 e2 E2 n2 k2 y D3 d3 e3 E3 n3 k3 :=
  ⟨h.1, h.2.1, h.2.2.1, h.2.2.2.1, h.2.2.2.2.1, lay5_ng h h1 hz hp hX hu.size hT hU, lay5_ng h h2 hz hp hX hu.size hT hU⟩

set_option maxRecDepth 100000 in
set_option maxHeartbeats 16000000 in
theorem refOverN (A : Option Addr) (n c : Nat) (l : List Nm) (D : Option Addr) (dn dc : Nat) (E : Option Addr) (m k : Nat) (q : Nm) (w : World) (hle : n ≤ 1000) (hm : m ≤ 1000) (hd : dn ≤ 100000) (hl : Lt q.l) (hls : RdN w w.heap.size A l) (hln : l.length = n) (hall : ∀ p ∈ l, Lt p.l ∧ p.l.length ≤ 1000 ∧ p.deps.length ≤ 100000) (hv : NV w w.heap.size D dn dc E m k q) (xo : Nm) (ys : List Nm) (bo : Bool) (ho : outO (overN l q) = (xo, ys)) (hs : (overN l q).isSome = bo) :
    Calls Try.prog 14 #[.slice A n c, nmV q.id D dn dc q.txt E m k] w (ROEnd w xo ys bo) := by
  have HO := Lib.hid ho; have HS := Lib.hid hs; have HLN := Lib.hid hln; have HALL := Lib.hid hall; have HLQ := Lib.hid hl
  have hbw := two_box w (.cells #[.int .i64 q.id.1, .int .i64 q.id.2, .slice D dn dc, strV q.txt, .slice E m k] 28) (.cells #[.int .i64 0, .int .i64 0, .slice none 0 0, .string ⟨#[]⟩, .slice none 0 0] 28)
  have b1 := (Blk.new w 28 #[.int .i64 q.id.1, .int .i64 q.id.2, .slice D dn dc, strV q.txt, .slice E m k]).alloc (.cells #[.int .i64 0, .int .i64 0, .slice none 0 0, .string ⟨#[]⟩, .slice none 0 0] 28)
  have b2 := Blk.new (w.alloc (.cells #[.int .i64 q.id.1, .int .i64 q.id.2, .slice D dn dc, strV q.txt, .slice E m k] 28)) 28 #[.int .i64 0, .int .i64 0, .slice none 0 0, .string ⟨#[]⟩, .slice none 0 0]
  simp only [World.size_alloc] at b2
  have hsz : ((w.alloc (.cells #[.int .i64 q.id.1, .int .i64 q.id.2, .slice D dn dc, strV q.txt, .slice E m k] 28)).alloc (.cells #[.int .i64 0, .int .i64 0, .slice none 0 0, .string ⟨#[]⟩, .slice none 0 0] 28)).heap.size = w.heap.size + 2 := by simp
  have HLS := Lib.hid (hls.below hbw); have HV := Lib.hid (hv.below hbw)
  clear ho hs hln hall hl hls hv
  go_enter Try.func14, Try.ntmps14
  go_upto_region 1 with fail
  generalize ((w.alloc (.cells #[.int .i64 q.id.1, .int .i64 q.id.2, .slice D dn dc, strV q.txt, .slice E m k] 28)).alloc (.cells #[.int .i64 0, .int .i64 0, .slice none 0 0, .string ⟨#[]⟩, .slice none 0 0] 28)) = w0 at *
  obtain ⟨z, hz⟩ : ∃ z, w.heap.size = z := ⟨_, rfl⟩
  rw [hz] at b1 b2 hsz hbw HLS HV ⊢
  have HZ := Lib.hid hz; have HB1 := Lib.hid b1; have HB2 := Lib.hid b2; have HSZ := Lib.hid hsz; have HBW := Lib.hid hbw
  clear hz b1 b2 hsz hbw
  go_wp2_with (at_builtin; refine wpList_ownM rfl (.const (.slice none 0 0)) (.tmp 12) rfl z w0.heap.size n c (.slice none 0 0) A [] l rfl rfl (ownM_nil _ _ _) HLS.out HLN.out (by simp; omega) (by have := HSZ.out; omega) (Nat.le_refl _) ?_; intro v w1 ho hg; have hb1 : Below w0.heap.size w0 w1 := (Below.refl _ _).grown hg (Nat.le_refl _) (fun k e => by cases e); have HO1 := Lib.hid (show OwnM w1 z w0.heap.size v l from ho); have HBB := Lib.hid hb1; clear ho hg hb1; obtain ⟨A1, c1, hv1, hc1⟩ : ∃ A1 c1, v = .slice A1 n c1 ∧ n ≤ c1 := (ownT_slice (ownT_of HO1.out)).elim fun A1 h => h.elim fun c1 h => ⟨A1, c1, by rw [← HLN.out]; exact h.1, by rw [← HLN.out]; exact h.2⟩; subst hv1)
  obtain ⟨g, hgg⟩ : ∃ g, RO w1 z g A1 n c1 l q dn m n q [] D dc E k := ro_start hle HSZ.out HO1.out HLN.out (HB1.out.below HBB.out HB1.out.lt) (HB2.out.below HBB.out HB2.out.lt) (HV.out.below (HBB.out.mono (by have := HSZ.out; omega))) HLQ.out
  have HST := Lib.hid hgg
  replace HBW := Lib.hid (below_mvz HBW.out HBB.out (by have := HSZ.out; omega))
  clear hgg HO1 HBB HB1 HB2 HLS HV HSZ
  go_loopw [8] (fun i wr => ∃ (j : Nat) (x : Nm) (post : List Nm) (D1 : Option Addr) (e1 : Nat) (E1 : Option Addr) (k1 : Nat), j ≤ n ∧ i = .int .i64 ((j : Int) - 1) ∧ RO wr z g A1 n c1 l q dn m j x post D1 e1 E1 k1 ∧ Below z w wr) (fun i _ => (intOf i + 1).toNat)
  case atStart => exact ⟨n, q, [], D, dc, E, k, Nat.le_refl _, rfl, HST.out, HBW.out⟩
  case round =>
    clear HST HBW
    obtain ⟨j, x, post, D1, e1, E1, k1, hj, rfl, hI, hbw⟩ := hrel
    have HBW := Lib.hid hbw; have HI := Lib.hid hI
    clear hbw hI
    have HZ2 : Hid (z ≤ wr.heap.size) := Lib.hid (Nat.le_of_lt HI.out.bq.lt)
    by_cases h0 : j = 0
    · subst h0
      have ez : (((0 : Nat) : Int) - 1) = -1 := rfl
      rw [ez]; clear ez
      have hB1 := HI.out.bq; have hB2 := HI.out.br
      have x0 := hB1.cell 0 rfl; have x1 := hB1.cell 1 rfl; have x2 := hB1.cell 2 rfl; have x3 := hB1.cell 3 rfl; have x4 := hB1.cell 4 rfl
      have z0 := hB2.cell 0 rfl; have z1 := hB2.cell 1 rfl; have z2 := hB2.cell 2 rfl; have z3 := hB2.cell 3 rfl; have z4 := hB2.cell 4 rfl
      have f0 := hB2.frozen 0; have f1 := hB2.frozen 1; have f2 := hB2.frozen 2; have f3 := hB2.frozen 3; have f4 := hB2.frozen 4
      have hlt0 := hB1.lt; have hlt := hB2.lt
      have HB3 := Lib.hid (blk5 hB2 (.int .i64 x.id.1) (.int .i64 x.id.2) (.slice D1 dn e1) (strV x.txt) (.slice E1 m k1))
      have HFN := Lib.hid (ro_fin HI.out HLN.out HBW.out HZ.out (.int .i64 x.id.1) (.int .i64 x.id.2) (.slice D1 dn e1) (strV x.txt) (.slice E1 m k1))
      clear hB1 hB2
      go_wp2_with fail
      have b6 := HB3.out
      have hfn := HFN.out
      generalize (World.setCell (World.setCell (World.setCell (World.setCell (World.setCell wr ⟨z + 1, 0, none⟩ (.int .i64 x.id.1)) ⟨z + 1, 1, none⟩ (.int .i64 x.id.2)) ⟨z + 1, 2, none⟩ (.slice D1 dn e1)) ⟨z + 1, 3, none⟩ (strV x.txt)) ⟨z + 1, 4, none⟩ (.slice E1 m k1)) = W9 at *
      clear x0 x1 x2 x3 x4 z0 z1 z2 z3 z4 f0 f1 f2 f3 f4 hlt0 hlt
      have u0 := b6.cell 0 rfl; have u1 := b6.cell 1 rfl; have u2 := b6.cell 2 rfl; have u3 := b6.cell 3 rfl; have u4 := b6.cell 4 rfl
      refine bodyPost_ret (v := .tuple #[.agg #[.int .i64 x.id.1, .int .i64 x.id.2, .slice D1 dn e1, strV x.txt, .slice E1 m k1], .slice A1 n c1, .bool true]) (by simp [results, Try.results14, go_sem, u0, u1, u2, u3, u4]) rfl ?_
      obtain ⟨he, r1, r2, r3, r4, r5⟩ := hfn
      have ho := HO.out; have hs := HS.out
      rw [he] at ho hs
      injection ho with e1' e2'
      subst e1' e2' hs
      exact ⟨D1, dn, e1, E1, m, k1, A1, n, c1, rfl, r1, r2, r3, r4, r5⟩
    · obtain ⟨i, rfl⟩ : ∃ i, j = i + 1 := ⟨j - 1, by omega⟩
      have ei : ((i + 1 : Nat) : Int) - 1 = (i : Int) := by omega
      rw [ei]; clear ei h0
      have hin : i < n := by omega
      have hki : (i : Int) < (n : Int) := by omega
      obtain ⟨p, hx⟩ : ∃ p, l[i]? = some p := ⟨_, List.getElem?_eq_getElem (by rw [HLN.out]; exact hin)⟩
      obtain ⟨hg2, rfl⟩ := HI.out.pos.2 (by omega)
      obtain ⟨Dp, dp, ep, Ep, np, kp, c0, c1', c2, c3, c4, hf, hpv⟩ := HI.out.row.elem (midN_len HI.out.eq HLN.out hj) (at_mid hx)
      have HX := Lib.hid hx; have HPV := Lib.hid hpv; have HLP := Lib.hid (HALL.out p (List.mem_of_getElem? hx))
      have hbq := HI.out.bq
      have HC : Hid (∀ W, Below wr.heap.size wr W → W.cell? ⟨g, i * 5, none⟩ = some (.int .i64 p.id.1) ∧ W.cell? ⟨g, i * 5 + 1, none⟩ = some (.int .i64 p.id.2) ∧ W.cell? ⟨g, i * 5 + 2, none⟩ = some (.slice Dp dp ep) ∧ W.cell? ⟨g, i * 5 + 3, none⟩ = some (strV p.txt) ∧ W.cell? ⟨g, i * 5 + 4, none⟩ = some (.slice Ep np kp) ∧ W.cell? ⟨z, 0, none⟩ = some (.int .i64 x.id.1) ∧ W.cell? ⟨z, 1, none⟩ = some (.int .i64 x.id.2) ∧ W.cell? ⟨z, 2, none⟩ = some (.slice D1 dn e1) ∧ W.cell? ⟨z, 3, none⟩ = some (strV x.txt) ∧ W.cell? ⟨z, 4, none⟩ = some (.slice E1 m k1)) := Lib.hid (fun W hb => by
        have z := hbq.below hb hbq.lt
        exact ⟨cell_b hb c0 hg2, cell_b hb c1' hg2, cell_b hb c2 hg2, cell_b hb c3 hg2, cell_b hb c4 hg2, z.cell 0 rfl, z.cell 1 rfl, z.cell 2 rfl, z.cell 3 rfl, z.cell 4 rfl⟩)
      have HG2 := Lib.hid hg2
      clear hx hpv hbq c0 c1' c2 c3 c4 hf
      obtain ⟨x1, y1, ho⟩ : ∃ x1 y1, outN (passN p x) = (x1, y1) := ⟨_, _, rfl⟩
      obtain ⟨bq, hbo⟩ : ∃ bo, (passN p x).isSome = bo := ⟨_, rfl⟩
      have HOO := Lib.hid ho; have HBO := Lib.hid hbo
      have H1 : Hid (∀ W, Below wr.heap.size wr W → Calls Try.prog 11 #[nmV p.id Dp dp ep p.txt Ep np kp, nmV x.id D1 dn e1 x.txt E1 m k1] W (NPassEndS W (QS z g wr) x1 y1 bq)) := Lib.hid (fun W h =>
        refPassN (QS z g wr) Dp dp ep Ep np kp D1 dn e1 E1 m k1 p x x1 y1 W bq (by rw [← HPV.out.l]; exact HLP.out.2.1) hm hd HLP.out.1 HI.out.lx (fun b hb => Nat.lt_of_lt_of_le (qs_lt HZ2.out b hb) h.size) (HPV.out.to_ ((alike_below h).mono (qs_lt HZ2.out))) (HI.out.ng.to_ ((alike_below h).mono (qs_lt HZ2.out))) HOO.out HBO.out)
      clear ho hbo
      go_upto_region 5 with fail
      have hss : ∀ W, Below wr.heap.size wr W → Below wr.heap.size wr W ∧ W.cell? ⟨g, i * 5, none⟩ = some (.int .i64 p.id.1) ∧ W.cell? ⟨g, i * 5 + 1, none⟩ = some (.int .i64 p.id.2) ∧ W.cell? ⟨g, i * 5 + 2, none⟩ = some (.slice Dp dp ep) ∧ W.cell? ⟨g, i * 5 + 3, none⟩ = some (strV p.txt) ∧ W.cell? ⟨g, i * 5 + 4, none⟩ = some (.slice Ep np kp) ∧ W.cell? ⟨z, 0, none⟩ = some (.int .i64 x.id.1) ∧ W.cell? ⟨z, 1, none⟩ = some (.int .i64 x.id.2) ∧ W.cell? ⟨z, 2, none⟩ = some (.slice D1 dn e1) ∧ W.cell? ⟨z, 3, none⟩ = some (strV x.txt) ∧ W.cell? ⟨z, 4, none⟩ = some (.slice E1 m k1) := fun W hb => ⟨hb, HC.out W hb⟩
      have HSS := Lib.hid hss
      have HKD := Lib.hid (hss wr.drew (Cut2.belD0 wr))
      have HKA : Hid (∀ W o, (Below wr.heap.size wr W ∧ W.cell? ⟨g, i * 5, none⟩ = some (.int .i64 p.id.1) ∧ W.cell? ⟨g, i * 5 + 1, none⟩ = some (.int .i64 p.id.2) ∧ W.cell? ⟨g, i * 5 + 2, none⟩ = some (.slice Dp dp ep) ∧ W.cell? ⟨g, i * 5 + 3, none⟩ = some (strV p.txt) ∧ W.cell? ⟨g, i * 5 + 4, none⟩ = some (.slice Ep np kp) ∧ W.cell? ⟨z, 0, none⟩ = some (.int .i64 x.id.1) ∧ W.cell? ⟨z, 1, none⟩ = some (.int .i64 x.id.2) ∧ W.cell? ⟨z, 2, none⟩ = some (.slice D1 dn e1) ∧ W.cell? ⟨z, 3, none⟩ = some (strV x.txt) ∧ W.cell? ⟨z, 4, none⟩ = some (.slice E1 m k1)) → Below wr.heap.size wr (W.alloc o) ∧ (W.alloc o).cell? ⟨g, i * 5, none⟩ = some (.int .i64 p.id.1) ∧ (W.alloc o).cell? ⟨g, i * 5 + 1, none⟩ = some (.int .i64 p.id.2) ∧ (W.alloc o).cell? ⟨g, i * 5 + 2, none⟩ = some (.slice Dp dp ep) ∧ (W.alloc o).cell? ⟨g, i * 5 + 3, none⟩ = some (strV p.txt) ∧ (W.alloc o).cell? ⟨g, i * 5 + 4, none⟩ = some (.slice Ep np kp) ∧ (W.alloc o).cell? ⟨z, 0, none⟩ = some (.int .i64 x.id.1) ∧ (W.alloc o).cell? ⟨z, 1, none⟩ = some (.int .i64 x.id.2) ∧ (W.alloc o).cell? ⟨z, 2, none⟩ = some (.slice D1 dn e1) ∧ (W.alloc o).cell? ⟨z, 3, none⟩ = some (strV x.txt) ∧ (W.alloc o).cell? ⟨z, 4, none⟩ = some (.slice E1 m k1)) := Lib.hid (fun W o h => hss _ (h.1.alloc h.1.size o))
      have HKS : Hid (∀ W T v0 v1 v2 v3 v4, (Below wr.heap.size wr W ∧ W.cell? ⟨g, i * 5, none⟩ = some (.int .i64 p.id.1) ∧ W.cell? ⟨g, i * 5 + 1, none⟩ = some (.int .i64 p.id.2) ∧ W.cell? ⟨g, i * 5 + 2, none⟩ = some (.slice Dp dp ep) ∧ W.cell? ⟨g, i * 5 + 3, none⟩ = some (strV p.txt) ∧ W.cell? ⟨g, i * 5 + 4, none⟩ = some (.slice Ep np kp) ∧ W.cell? ⟨z, 0, none⟩ = some (.int .i64 x.id.1) ∧ W.cell? ⟨z, 1, none⟩ = some (.int .i64 x.id.2) ∧ W.cell? ⟨z, 2, none⟩ = some (.slice D1 dn e1) ∧ W.cell? ⟨z, 3, none⟩ = some (strV x.txt) ∧ W.cell? ⟨z, 4, none⟩ = some (.slice E1 m k1)) → wr.heap.size ≤ T → Below wr.heap.size wr (((((W.setCell ⟨T, 0, none⟩ v0).setCell ⟨T, 1, none⟩ v1).setCell ⟨T, 2, none⟩ v2).setCell ⟨T, 3, none⟩ v3).setCell ⟨T, 4, none⟩ v4) ∧ (((((W.setCell ⟨T, 0, none⟩ v0).setCell ⟨T, 1, none⟩ v1).setCell ⟨T, 2, none⟩ v2).setCell ⟨T, 3, none⟩ v3).setCell ⟨T, 4, none⟩ v4).cell? ⟨g, i * 5, none⟩ = some (.int .i64 p.id.1) ∧ (((((W.setCell ⟨T, 0, none⟩ v0).setCell ⟨T, 1, none⟩ v1).setCell ⟨T, 2, none⟩ v2).setCell ⟨T, 3, none⟩ v3).setCell ⟨T, 4, none⟩ v4).cell? ⟨g, i * 5 + 1, none⟩ = some (.int .i64 p.id.2) ∧ (((((W.setCell ⟨T, 0, none⟩ v0).setCell ⟨T, 1, none⟩ v1).setCell ⟨T, 2, none⟩ v2).setCell ⟨T, 3, none⟩ v3).setCell ⟨T, 4, none⟩ v4).cell? ⟨g, i * 5 + 2, none⟩ = some (.slice Dp dp ep) ∧ (((((W.setCell ⟨T, 0, none⟩ v0).setCell ⟨T, 1, none⟩ v1).setCell ⟨T, 2, none⟩ v2).setCell ⟨T, 3, none⟩ v3).setCell ⟨T, 4, none⟩ v4).cell? ⟨g, i * 5 + 3, none⟩ = some (strV p.txt) ∧ (((((W.setCell ⟨T, 0, none⟩ v0).setCell ⟨T, 1, none⟩ v1).setCell ⟨T, 2, none⟩ v2).setCell ⟨T, 3, none⟩ v3).setCell ⟨T, 4, none⟩ v4).cell? ⟨g, i * 5 + 4, none⟩ = some (.slice Ep np kp) ∧ (((((W.setCell ⟨T, 0, none⟩ v0).setCell ⟨T, 1, none⟩ v1).setCell ⟨T, 2, none⟩ v2).setCell ⟨T, 3, none⟩ v3).setCell ⟨T, 4, none⟩ v4).cell? ⟨z, 0, none⟩ = some (.int .i64 x.id.1) ∧ (((((W.setCell ⟨T, 0, none⟩ v0).setCell ⟨T, 1, none⟩ v1).setCell ⟨T, 2, none⟩ v2).setCell ⟨T, 3, none⟩ v3).setCell ⟨T, 4, none⟩ v4).cell? ⟨z, 1, none⟩ = some (.int .i64 x.id.2) ∧ (((((W.setCell ⟨T, 0, none⟩ v0).setCell ⟨T, 1, none⟩ v1).setCell ⟨T, 2, none⟩ v2).setCell ⟨T, 3, none⟩ v3).setCell ⟨T, 4, none⟩ v4).cell? ⟨z, 2, none⟩ = some (.slice D1 dn e1) ∧ (((((W.setCell ⟨T, 0, none⟩ v0).setCell ⟨T, 1, none⟩ v1).setCell ⟨T, 2, none⟩ v2).setCell ⟨T, 3, none⟩ v3).setCell ⟨T, 4, none⟩ v4).cell? ⟨z, 3, none⟩ = some (strV x.txt) ∧ (((((W.setCell ⟨T, 0, none⟩ v0).setCell ⟨T, 1, none⟩ v1).setCell ⟨T, 2, none⟩ v2).setCell ⟨T, 3, none⟩ v3).setCell ⟨T, 4, none⟩ v4).cell? ⟨z, 4, none⟩ = some (.slice E1 m k1)) := Lib.hid (fun W T v0 v1 v2 v3 v4 h hT => hss _ (below_set5 h.1 hT v0 v1 v2 v3 v4))
      clear hss
      go_cut [9, 10, 11, 39, 40] from 21 (fun s9 s10 s11 s39 s40 wx => ∃ (T U : Nat) (D2 : Option Addr) (d2 e2 : Nat) (E2 : Option Addr) (n2 k2 : Nat) (D3 : Option Addr) (d3 e3 : Nat) (E3 : Option Addr) (n3 k3 : Nat), s9 = .pointer (some ⟨T, 0, none⟩) ∧ s10 = .pointer (some ⟨U, 0, none⟩) ∧ s11 = .bool bq ∧ LayN wr wx z g T U x1 D2 d2 e2 E2 n2 k2 y1 D3 d3 e3 E3 n3 k3 ∧ s39 = undef ∧ s40 = undef)
      case first =>
        obtain ⟨_, y0, y1, y2, y3, y4, x0, x1, x2, x3, x4⟩ := HSS.out wr (Below.refl _ _)
        go_region_held3 (fun W => Below wr.heap.size wr W ∧ W.cell? ⟨g, i * 5, none⟩ = some (.int .i64 p.id.1) ∧ W.cell? ⟨g, i * 5 + 1, none⟩ = some (.int .i64 p.id.2) ∧ W.cell? ⟨g, i * 5 + 2, none⟩ = some (.slice Dp dp ep) ∧ W.cell? ⟨g, i * 5 + 3, none⟩ = some (strV p.txt) ∧ W.cell? ⟨g, i * 5 + 4, none⟩ = some (.slice Ep np kp) ∧ W.cell? ⟨z, 0, none⟩ = some (.int .i64 x.id.1) ∧ W.cell? ⟨z, 1, none⟩ = some (.int .i64 x.id.2) ∧ W.cell? ⟨z, 2, none⟩ = some (.slice D1 dn e1) ∧ W.cell? ⟨z, 3, none⟩ = some (strV x.txt) ∧ W.cell? ⟨z, 4, none⟩ = some (.slice E1 m k1))
          (first
          | (with_reducible exact HKD.out)
          | (with_reducible exact HSS.out _ (Cut2.belD1 wr _))
          | (with_reducible exact HSS.out _ (Cut2.belD2 wr _ _))
          | (with_reducible exact hS1)
          | (with_reducible exact HKA.out _ _ hS1)
          | (with_reducible exact HKA.out _ _ (HKA.out _ _ hS1))
          | (with_reducible exact HKS.out _ _ _ _ _ _ _ hS1 tlp)
          | (with_reducible exact HKS.out _ _ _ _ _ _ _ hS1 tlq)
          | (with_reducible exact HKA.out _ _ (HKS.out _ _ _ _ _ _ _ hS1 tlp))
          | (with_reducible exact HKS.out _ _ _ _ _ _ _ (HKS.out _ _ _ _ _ _ _ hS1 tlp) tlq)
          | (with_reducible exact HKS.out _ _ _ _ _ _ _ (HKS.out _ _ _ _ _ _ _ hS1 tlq) tlp))
          (first
          | (go_at_call 11; (with_reducible refine (H1.out (wr.drew) (Cut2.belD0 wr )).mono ?_); rintro e u1 ⟨D2, d2, e2, E2, n2, k2, D3, d3, e3, E3, n3, k3, rfl, hn1, hn2, hb⟩; have hbc := Cut2.thrD0 hb; have HN1 := Lib.hid hn1; have HN2 := Lib.hid hn2; have hS1 := HSS.out u1 hbc; have HU1 := Lib.hid hbc; have tl1 := HU1.out.size; clear hb hbc hn1 hn2)
          | (go_at_call 11; (with_reducible refine (H1.out ((wr.alloc (.cells #[.int .i64 0, .int .i64 0, .slice none 0 0, .string ⟨#[]⟩, .slice none 0 0] 28)).drew) (Cut2.belD1 wr (.cells #[.int .i64 0, .int .i64 0, .slice none 0 0, .string ⟨#[]⟩, .slice none 0 0] 28))).mono ?_); rintro e u1 ⟨D2, d2, e2, E2, n2, k2, D3, d3, e3, E3, n3, k3, rfl, hn1, hn2, hb⟩; have hbc := Cut2.thrD1 hb; have HN1 := Lib.hid hn1; have HN2 := Lib.hid hn2; have zp := Cut2.newD1 hb; have tlp := Nat.le_refl wr.heap.size; have hS1 := HSS.out u1 hbc; have HU1 := Lib.hid hbc; have tl1 := HU1.out.size; have pp0 := zp.cell 0 (u := .int .i64 0) rfl; have ppf0 := zp.frozen 0; have pp1 := zp.cell 1 (u := .int .i64 0) rfl; have ppf1 := zp.frozen 1; have pp2 := zp.cell 2 (u := .slice none 0 0) rfl; have ppf2 := zp.frozen 2; have pp3 := zp.cell 3 (u := .string ⟨#[]⟩) rfl; have ppf3 := zp.frozen 3; have pp4 := zp.cell 4 (u := .slice none 0 0) rfl; have ppf4 := zp.frozen 4; have ppl := zp.lt; clear hb hbc hn1 hn2)
          | (go_at_call 11; (with_reducible refine (H1.out (((wr.alloc (.cells #[.int .i64 0, .int .i64 0, .slice none 0 0, .string ⟨#[]⟩, .slice none 0 0] 28)).alloc (.cells #[.int .i64 0, .int .i64 0, .slice none 0 0, .string ⟨#[]⟩, .slice none 0 0] 28)).drew) (Cut2.belD2 wr (.cells #[.int .i64 0, .int .i64 0, .slice none 0 0, .string ⟨#[]⟩, .slice none 0 0] 28) (.cells #[.int .i64 0, .int .i64 0, .slice none 0 0, .string ⟨#[]⟩, .slice none 0 0] 28))).mono ?_); rintro e u1 ⟨D2, d2, e2, E2, n2, k2, D3, d3, e3, E3, n3, k3, rfl, hn1, hn2, hb⟩; have hbc := Cut2.thrD2 hb; have HN1 := Lib.hid hn1; have HN2 := Lib.hid hn2; obtain ⟨zp, zq⟩ := Cut2.newD2 hb; have tlp := Nat.le_refl wr.heap.size; have zpq := Nat.lt_succ_self wr.heap.size; have tlq := Nat.le_succ wr.heap.size; have hS1 := HSS.out u1 hbc; have HU1 := Lib.hid hbc; have tl1 := HU1.out.size; have pp0 := zp.cell 0 (u := .int .i64 0) rfl; have ppf0 := zp.frozen 0; have pp1 := zp.cell 1 (u := .int .i64 0) rfl; have ppf1 := zp.frozen 1; have pp2 := zp.cell 2 (u := .slice none 0 0) rfl; have ppf2 := zp.frozen 2; have pp3 := zp.cell 3 (u := .string ⟨#[]⟩) rfl; have ppf3 := zp.frozen 3; have pp4 := zp.cell 4 (u := .slice none 0 0) rfl; have ppf4 := zp.frozen 4; have ppl := zp.lt; have rr0 := zq.cell 0 (u := .int .i64 0) rfl; have rrf0 := zq.frozen 0; have rr1 := zq.cell 1 (u := .int .i64 0) rfl; have rrf1 := zq.frozen 1; have rr2 := zq.cell 2 (u := .slice none 0 0) rfl; have rrf2 := zq.frozen 2; have rr3 := zq.cell 3 (u := .string ⟨#[]⟩) rfl; have rrf3 := zq.frozen 3; have rr4 := zq.cell 4 (u := .slice none 0 0) rfl; have rrf4 := zq.frozen 4; have rrl := zq.lt; clear hb hbc hn1 hn2))
        all_goals (try go_wp2_with fail)
        all_goals go_meet
        (with_reducible exact ⟨_, _, _, _, _, _, _, _, _, _, _, _, _, _, rfl, rfl, rfl, layN (lay5_aa HU1.out) HN1.out HN2.out HG2.out HZ2.out HU1.out (Nat.le_refl _) (.inr (Nat.le_refl _)) (.inr (Nat.le_succ _)), rfl, rfl⟩)
        (with_reducible exact ⟨_, _, _, _, _, _, _, _, _, _, _, _, _, _, rfl, rfl, rfl, layN (lay5_aa HU1.out).swap HN1.out HN2.out HG2.out HZ2.out HU1.out (Nat.le_refl _) (.inr (Nat.le_succ _)) (.inr (Nat.le_refl _)), rfl, rfl⟩)
        (with_reducible exact ⟨_, _, _, _, _, _, _, _, _, _, _, _, _, _, rfl, rfl, rfl, layN (lay5_sa HU1.out zp tlp) HN1.out HN2.out HG2.out HZ2.out HU1.out (Nat.le_of_lt (size_lt1 wr _)) (.inl (size_lt1 wr _)) (.inr (Nat.le_refl _)), rfl, rfl⟩)
        (with_reducible exact ⟨_, _, _, _, _, _, _, _, _, _, _, _, _, _, rfl, rfl, rfl, layN (lay5_ss HU1.out zp zq (Nat.ne_of_lt zpq) tlp tlq) HN1.out HN2.out HG2.out HZ2.out HU1.out (Nat.le_of_lt (size_lt2 wr _ _)) (.inl (size_lt2 wr _ _)) (.inl (size_lt2' wr _ _)), rfl, rfl⟩)
        (with_reducible exact ⟨_, _, _, _, _, _, _, _, _, _, _, _, _, _, rfl, rfl, rfl, layN (lay5_sa HU1.out zp tlp).swap HN1.out HN2.out HG2.out HZ2.out HU1.out (Nat.le_of_lt (size_lt1 wr _)) (.inr (Nat.le_refl _)) (.inl (size_lt1 wr _)), rfl, rfl⟩)
        (with_reducible exact ⟨_, _, _, _, _, _, _, _, _, _, _, _, _, _, rfl, rfl, rfl, layN (lay5_ss HU1.out zq zp (Nat.ne_of_gt zpq) tlq tlp) HN1.out HN2.out HG2.out HZ2.out HU1.out (Nat.le_of_lt (size_lt2 wr _ _)) (.inl (size_lt2' wr _ _)) (.inl (size_lt2 wr _ _)), rfl, rfl⟩)
      case rest =>
        obtain ⟨T, U, D2, d2, e2, E2, n2, k2, D3, d3, e3, E3, n3, k3, rfl, rfl, rfl, ⟨b_x, b_y, hlT, hlU, hb, hg1, hg2⟩, rfl, rfl⟩ := hcut
        clear HSS HKD HKA HKS H1 HC
        cases bq with
        | false =>
          have HNN : Hid (passN p x = none) := Lib.hid (by
            have h := HBO.out
            cases hp : passN p x with
            | none => rfl
            | some z => rw [hp] at h; cases h)
          have hB2 := HI.out.br.below hb HI.out.br.lt
          have hlt := hB2.lt
          have z0 := hB2.cell 0 rfl; have z1 := hB2.cell 1 rfl; have z2 := hB2.cell 2 rfl; have z3 := hB2.cell 3 rfl; have z4 := hB2.cell 4 rfl
          have f0 := hB2.frozen 0; have f1 := hB2.frozen 1; have f2 := hB2.frozen 2; have f3 := hB2.frozen 3; have f4 := hB2.frozen 4
          have b6 := blk5 hB2 (.int .i64 0) (.int .i64 0) (.slice none 0 0) (.string ⟨#[]⟩) (.slice none 0 0)
          have hw9 := below_set5 (below_mvz HBW.out hb HZ2.out) (Nat.le_succ z) (.int .i64 0) (.int .i64 0) (.slice none 0 0) (.string ⟨#[]⟩) (.slice none 0 0)
          clear hB2 b_x b_y hlT hlU HPV hg1 hg2
          go_wp2_with fail
          generalize (World.setCell (World.setCell (World.setCell (World.setCell (World.setCell wc ⟨z + 1, 0, none⟩ (.int .i64 0)) ⟨z + 1, 1, none⟩ (.int .i64 0)) ⟨z + 1, 2, none⟩ (.slice none 0 0)) ⟨z + 1, 3, none⟩ (.string ⟨#[]⟩)) ⟨z + 1, 4, none⟩ (.slice none 0 0)) = W9 at *
          clear z0 z1 z2 z3 z4 f0 f1 f2 f3 f4 hlt
          have u0 := b6.cell 0 rfl; have u1 := b6.cell 1 rfl; have u2 := b6.cell 2 rfl; have u3 := b6.cell 3 rfl; have u4 := b6.cell 4 rfl
          refine bodyPost_ret (v := .tuple #[.agg #[.int .i64 0, .int .i64 0, .slice none 0 0, .string ⟨#[]⟩, .slice none 0 0], .slice none 0 0, .bool false]) (by simp [results, Try.results14, go_sem, u0, u1, u2, u3, u4]) rfl ?_
          have he := one_step_none passN HX.out HI.out.eq HNN.out
          have ho := HO.out; have hs := HS.out
          rw [show overN l q = none from he] at ho hs
          injection ho with e1' e2'
          subst e1' e2' hs
          exact ⟨none, 0, 0, none, 0, 0, none, 0, 0, rfl, (ng_no _ _).nv, rfl, Nat.le_refl _, .inl rfl, by rw [HZ.out]; exact hw9⟩
        | true =>
          have HSM : Hid (passN p x = some (x1, y1)) := Lib.hid (by
            have h := HBO.out; have ho := HOO.out
            cases hp : passN p x with
            | none => rw [hp] at h; cases h
            | some z => rw [hp] at ho; exact congrArg some ho)
          obtain ⟨hid, hdp, htx, hll⟩ := (passN_keeps HSM.out).1
          obtain rfl : dn = d2 := by rw [← hg1.dl, hdp, HI.out.ng.dl]
          obtain rfl : m = n2 := by rw [← hg1.l, hll, HI.out.ng.l]
          clear hid hdp htx hll
          have hB1 := HI.out.bq.below hb HI.out.bq.lt
          have hst := ro_step HI.out HLN.out hin HX.out HLP.out.1 HSM.out hb hg1 hg2
          have hpos := HI.out.pos.1
          have hbs := below_row5 (below_set5 (below_mvz HBW.out hb HZ2.out) (Nat.le_refl z) (.int .i64 x1.id.1) (.int .i64 x1.id.2) (.slice D2 dn e2) (strV x1.txt) (.slice E2 m k2)) (show z ≤ g by omega) i (.int .i64 y1.id.1) (.int .i64 y1.id.2) (.slice D3 d3 e3) (strV y1.txt) (.slice E3 n3 k3)
          have hby := blk_set5 b_y (show U ≠ z by have := HI.out.bq.lt; omega) (.int .i64 x1.id.1) (.int .i64 x1.id.2) (.slice D2 dn e2) (strV x1.txt) (.slice E2 m k2)
          have HST := Lib.hid hst.2; have HROW := Lib.hid hst.1; have HBS := Lib.hid hbs; have HBY := Lib.hid hby
          have z0 := hB1.cell 0 rfl; have z1 := hB1.cell 1 rfl; have z2 := hB1.cell 2 rfl; have z3 := hB1.cell 3 rfl; have z4 := hB1.cell 4 rfl
          have f0 := hB1.frozen 0; have f1 := hB1.frozen 1; have f2 := hB1.frozen 2; have f3 := hB1.frozen 3; have f4 := hB1.frozen 4
          have v0 := b_x.cell 0 rfl; have v1 := b_x.cell 1 rfl; have v2 := b_x.cell 2 rfl; have v3 := b_x.cell 3 rfl; have v4 := b_x.cell 4 rfl
          have hlt := hB1.lt
          have hT1 := b_x.lt
          clear hst hbs hby hB1 b_x b_y HPV
          go_upto_region 9 with fail
          generalize (World.setCell (World.setCell (World.setCell (World.setCell (World.setCell wc ⟨z, 0, none⟩ (.int .i64 x1.id.1)) ⟨z, 1, none⟩ (.int .i64 x1.id.2)) ⟨z, 2, none⟩ (.slice D2 dn e2)) ⟨z, 3, none⟩ (strV x1.txt)) ⟨z, 4, none⟩ (.slice E2 m k2)) = W9 at *
          clear z0 z1 z2 z3 z4 f0 f1 f2 f3 f4 v0 v1 v2 v3 v4 hlt hT1
          obtain ⟨D9, d9, e9, E9, n9, k9, q0, q1, q2, q3, q4, hf9, _⟩ := HROW.out.elem (midN_len HI.out.eq HLN.out hj) (at_mid HX.out)
          have hby := HBY.out
          have v0 := hby.cell 0 rfl; have v1 := hby.cell 1 rfl; have v2 := hby.cell 2 rfl; have v3 := hby.cell 3 rfl; have v4 := hby.cell 4 rfl
          have f0 := hf9 (i * 5); have f1 := hf9 (i * 5 + 1); have f2 := hf9 (i * 5 + 2); have f3 := hf9 (i * 5 + 3); have f4 := hf9 (i * 5 + 4)
          clear hf9 hby
          go_wp2_with fail
          go_roundw
          case rel => exact ⟨i, x1, y1 :: post, D2, e2, E2, k2, by omega, rfl, HST.out, HBS.out⟩
          case measure => simp [intOf]

end Tg
end Go.Proofs.Ytbiiabfhngdeiaa

set_option maxRecDepth 100000
namespace Go.Proofs.Ytbiiabfhngdeiaa
open Go.RowKit
set_option linter.unusedVariables false
set_option linter.unusedSimpArgs false
open Tr Tx Hk Pr Fl Pn Tg
namespace TgL
attribute [local go_sem] eq_id

set_option maxRecDepth 100000 in
set_option maxHeartbeats 8000000 in
theorem tradeTells_walk (A_l : Option Addr) (n_l c_l : Nat) (l : List Nm) (D_p : Option Addr) (d_p e_p : Nat) (A_p : Option Addr) (n_p c_p : Nat) (p : Nm) (D_q : Option Addr) (d_q e_q : Nat) (A_q : Option Addr) (n_q c_q : Nat) (q : Nm) (w : World) (h_l : NmsArg w A_l n_l c_l l) (h_p : NV w w.heap.size D_p d_p e_p A_p n_p c_p p) (h_q : NV w w.heap.size D_q d_q e_q A_q n_q c_q q) :
    Calls Try.prog 3 #[.slice A_l n_l c_l, nmV p.id D_p d_p e_p p.txt A_p n_p c_p, nmV q.id D_q d_q e_q q.txt A_q n_q c_q] w (LawEnd w) := by
  have b0 := ((Blk.new w 28 #[.int .i64 p.id.1, .int .i64 p.id.2, .slice D_p d_p e_p, strV p.txt, .slice A_p n_p c_p]).alloc (.cells #[.int .i64 q.id.1, .int .i64 q.id.2, .slice D_q d_q e_q, strV q.txt, .slice A_q n_q c_q] 28))
  have b1 := (Blk.new (w.alloc (.cells #[.int .i64 p.id.1, .int .i64 p.id.2, .slice D_p d_p e_p, strV p.txt, .slice A_p n_p c_p] 28)) 28 #[.int .i64 q.id.1, .int .i64 q.id.2, .slice D_q d_q e_q, strV q.txt, .slice A_q n_q c_q])
  have hb : Below w.heap.size w ((w.alloc (.cells #[.int .i64 p.id.1, .int .i64 p.id.2, .slice D_p d_p e_p, strV p.txt, .slice A_p n_p c_p] 28)).alloc (.cells #[.int .i64 q.id.1, .int .i64 q.id.2, .slice D_q d_q e_q, strV q.txt, .slice A_q n_q c_q] 28)) := (((Below.refl w.heap.size w).alloc (by simp; try omega) (.cells #[.int .i64 p.id.1, .int .i64 p.id.2, .slice D_p d_p e_p, strV p.txt, .slice A_p n_p c_p] 28)).alloc (by simp; try omega) (.cells #[.int .i64 q.id.1, .int .i64 q.id.2, .slice D_q d_q e_q, strV q.txt, .slice A_q n_q c_q] 28))
  simp only [World.size_alloc] at b1
  have HV_p := Lib.hid (h_p.mv hb); have HV_q := Lib.hid (h_q.mv hb)
  clear h_p h_q
  have HR_l := Lib.hid h_l.rd; have HN_l := Lib.hid h_l.len; have HC_l := Lib.hid h_l.cap; have HM_l := Lib.hid h_l.le
  clear h_l
  replace HR_l := Lib.hid (RdN.mv HR_l.out hb)
  go_enter Try.func3, Try.ntmps3
  go_upto_region 1 with fail
  generalize ((w.alloc (.cells #[.int .i64 p.id.1, .int .i64 p.id.2, .slice D_p d_p e_p, strV p.txt, .slice A_p n_p c_p] 28)).alloc (.cells #[.int .i64 q.id.1, .int .i64 q.id.2, .slice D_q d_q e_q, strV q.txt, .slice A_q n_q c_q] 28)) = w_1 at b0 b1 HV_p HV_q HR_l hb ⊢
  obtain ⟨z, hz⟩ : ∃ z, w.heap.size = z := ⟨_, rfl⟩
  rw [hz] at b0 b1 ⊢
  have BP := Lib.hid b0
  have BQ := Lib.hid b1
  have HZ := Lib.hid hz
  clear b0 b1 hz
  have HB := Lib.hid hb; clear hb
  go_wp2_with fail
  refine (Tg.awake w_1).mono ?_
  rintro e w_2 ⟨rfl, hb⟩
  replace HR_l := Lib.hid (RdN.mv HR_l.out hb)
  replace BP := Lib.hid (BP.out.below hb BP.out.lt)
  replace BQ := Lib.hid (BQ.out.below hb BQ.out.lt)
  replace HV_p := Lib.hid (HV_p.out.mv hb)
  replace HV_q := Lib.hid (HV_q.out.mv hb)
  replace HB := Lib.hid (below_mv HB.out hb)
  clear hb
  obtain ⟨bl_l, hbl⟩ : ∃ bb, fewN l 8 = bb := ⟨_, rfl⟩
  have HBL_l := Lib.hid hbl; clear hbl
  go_wp2_with fail
  refine (FewN A_l n_l c_l 8 l w_2 bl_l (by decide) ⟨HN_l.out, HC_l.out, HM_l.out, HR_l.out⟩ HBL_l.out).mono ?_
  rintro e w_3 ⟨rfl, hb⟩
  replace HR_l := Lib.hid (RdN.mv HR_l.out hb)
  replace BP := Lib.hid (BP.out.below hb BP.out.lt)
  replace BQ := Lib.hid (BQ.out.below hb BQ.out.lt)
  replace HV_p := Lib.hid (HV_p.out.mv hb)
  replace HV_q := Lib.hid (HV_q.out.mv hb)
  replace HB := Lib.hid (below_mv HB.out hb)
  clear hb
  have bp_0 := BP.out.cell 0 rfl
  have bp_1 := BP.out.cell 1 rfl
  have bp_2 := BP.out.cell 2 rfl
  have bp_3 := BP.out.cell 3 rfl
  have bp_4 := BP.out.cell 4 rfl
  have bq_0 := BQ.out.cell 0 rfl
  have bq_1 := BQ.out.cell 1 rfl
  have bq_2 := BQ.out.cell 2 rfl
  have bq_3 := BQ.out.cell 3 rfl
  have bq_4 := BQ.out.cell 4 rfl
  have bp_l := BP.out.lt; have bq_l := BQ.out.lt
  go_wp2_with fail
  clear bp_0 bp_1 bp_2 bp_3 bp_4 bq_0 bq_1 bq_2 bq_3 bq_4 bp_l bq_l
  have b0 := Blk.new w_3 28 #[.int .i64 p.id.1, .int .i64 p.id.2, .slice D_p d_p e_p, strV p.txt, .slice A_p n_p c_p, .int .i64 q.id.1, .int .i64 q.id.2, .slice D_q d_q e_q, strV q.txt, .slice A_q n_q c_q]
  have hb : Below w_3.heap.size w_3 (w_3.alloc (.cells #[.int .i64 p.id.1, .int .i64 p.id.2, .slice D_p d_p e_p, strV p.txt, .slice A_p n_p c_p, .int .i64 q.id.1, .int .i64 q.id.2, .slice D_q d_q e_q, strV q.txt, .slice A_q n_q c_q] 28)) := (Below.refl _ _).alloc (Nat.le_refl _) _
  generalize (w_3.alloc (.cells #[.int .i64 p.id.1, .int .i64 p.id.2, .slice D_p d_p e_p, strV p.txt, .slice A_p n_p c_p, .int .i64 q.id.1, .int .i64 q.id.2, .slice D_q d_q e_q, strV q.txt, .slice A_q n_q c_q] 28)) = w_4 at b0 hb ⊢
  obtain ⟨z_w_4, hz⟩ : ∃ z, w_3.heap.size = z := ⟨_, rfl⟩
  rw [hz] at b0 ⊢
  clear hz
  replace HR_l := Lib.hid (RdN.mv HR_l.out hb)
  replace BP := Lib.hid (BP.out.below hb BP.out.lt)
  replace BQ := Lib.hid (BQ.out.below hb BQ.out.lt)
  replace HV_p := Lib.hid (HV_p.out.mv hb)
  replace HV_q := Lib.hid (HV_q.out.mv hb)
  replace HB := Lib.hid (below_mv HB.out hb)
  clear hb
  have B_2 := Lib.hid b0
  clear b0
  obtain ⟨bl, hbl⟩ : ∃ bb, fewN [p, q] 2 = bb := ⟨_, rfl⟩
  have HBL := Lib.hid hbl; clear hbl
  refine (FewN (some ⟨z_w_4, 0, none⟩) 2 2 2 [p, q] w_4 bl (by decide) ⟨rfl, Nat.le_refl _, by unfold maxLen; decide, rdN_two B_2.out HV_p.out HV_q.out B_2.out.lt⟩ HBL.out).mono ?_
  rintro e w_5 ⟨rfl, hb⟩
  replace HR_l := Lib.hid (RdN.mv HR_l.out hb)
  replace BP := Lib.hid (BP.out.below hb BP.out.lt)
  replace BQ := Lib.hid (BQ.out.below hb BQ.out.lt)
  replace HV_p := Lib.hid (HV_p.out.mv hb)
  replace HV_q := Lib.hid (HV_q.out.mv hb)
  replace B_2 := Lib.hid (B_2.out.below hb B_2.out.lt)
  replace HB := Lib.hid (below_mv HB.out hb)
  clear hb
  clear B_2
  cases bl_l with
  | false =>
    go_wp2
    go_ret
    exact ⟨rfl, HB.out⟩
  | true =>
  have HQ_l : Hid (n_l ≤ 8) := Lib.hid (by have h1 := fewN_len HBL_l.out; rw [HN_l.out] at h1; exact h1)
  have HL_l := Lib.hid (few_all HBL_l.out)
  cases bl with
  | false =>
    go_wp2
    go_ret
    exact ⟨rfl, HB.out⟩
  | true =>
  have HL_p := Lib.hid ((few_two HBL.out).1)
  have HN_p : Hid (n_p ≤ 10 ∧ d_p ≤ 100) := Lib.hid (by
    have h1 := HL_p.out.2
    rw [HV_p.out.l, HV_p.out.dl] at h1
    exact h1)
  have HL_q := Lib.hid ((few_two HBL.out).2)
  have HN_q : Hid (n_q ≤ 10 ∧ d_q ≤ 100) := Lib.hid (by
    have h1 := HL_q.out.2
    rw [HV_q.out.l, HV_q.out.dl] at h1
    exact h1)
  obtain ⟨x, y, ho⟩ : ∃ x y, outN (passN p q) = (x, y) := ⟨_, _, rfl⟩
  obtain ⟨bo, hbo⟩ : ∃ b, (passN p q).isSome = b := ⟨_, rfl⟩
  have HO := Lib.hid ho; have HBO := Lib.hid hbo; clear ho hbo
  have bp_0 := BP.out.cell 0 rfl
  have bp_1 := BP.out.cell 1 rfl
  have bp_2 := BP.out.cell 2 rfl
  have bp_3 := BP.out.cell 3 rfl
  have bp_4 := BP.out.cell 4 rfl
  have bq_0 := BQ.out.cell 0 rfl
  have bq_1 := BQ.out.cell 1 rfl
  have bq_2 := BQ.out.cell 2 rfl
  have bq_3 := BQ.out.cell 3 rfl
  have bq_4 := BQ.out.cell 4 rfl
  go_wp2_with fail
  refine (PassN D_p d_p e_p A_p n_p c_p D_q d_q e_q A_q n_q c_q p q x y w_5 bo (by have := HN_p.out; omega) (by have := HN_q.out; omega) (by have := HN_p.out; omega) (by have := HN_q.out; omega) HL_p.out.1 HL_q.out.1 HV_p.out HV_q.out HO.out HBO.out).mono ?_
  clear bp_0 bp_1 bp_2 bp_3 bp_4 bq_0 bq_1 bq_2 bq_3 bq_4
  rintro e w_6 ⟨D_x, d_x, e_x, A_x, n_x, c_x, D_y, d_y, e_y, A_y, n_y, c_y, rfl, h1, h2, hb⟩
  have HV_x := Lib.hid (h1.mono since_lt).nv; have HV_y := Lib.hid (h2.mono since_lt).nv
  clear h1 h2
  replace HR_l := Lib.hid (RdN.mv HR_l.out hb)
  replace BP := Lib.hid (BP.out.below hb BP.out.lt)
  replace BQ := Lib.hid (BQ.out.below hb BQ.out.lt)
  replace HV_p := Lib.hid (HV_p.out.mv hb)
  replace HV_q := Lib.hid (HV_q.out.mv hb)
  replace HB := Lib.hid (below_mv HB.out hb)
  clear hb
  have HFX := Lib.hid (out_few HO.out HBO.out HL_p.out HL_q.out)
  have HL_x := Lib.hid (HFX.out.1)
  have HN_x : Hid (n_x ≤ 10 ∧ d_x ≤ 100) := Lib.hid (by
    have h1 := HL_x.out.2
    rw [HV_x.out.l, HV_x.out.dl] at h1
    exact h1)
  have HL_y := Lib.hid (HFX.out.2)
  have HN_y : Hid (n_y ≤ 10 ∧ d_y ≤ 100) := Lib.hid (by
    have h1 := HL_y.out.2
    rw [HV_y.out.l, HV_y.out.dl] at h1
    exact h1)
  go_upto_region 7 with fail
  have b0 := (Blk.new w_6 28 #[.int .i64 x.id.1, .int .i64 x.id.2, .slice D_x d_x e_x, strV x.txt, .slice A_x n_x c_x]).alloc (.cells #[.int .i64 y.id.1, .int .i64 y.id.2, .slice D_y d_y e_y, strV y.txt, .slice A_y n_y c_y] 28)
  have b1 := Blk.new (w_6.alloc (.cells #[.int .i64 x.id.1, .int .i64 x.id.2, .slice D_x d_x e_x, strV x.txt, .slice A_x n_x c_x] 28)) 28 #[.int .i64 y.id.1, .int .i64 y.id.2, .slice D_y d_y e_y, strV y.txt, .slice A_y n_y c_y]
  have hb := two_box w_6 (.cells #[.int .i64 x.id.1, .int .i64 x.id.2, .slice D_x d_x e_x, strV x.txt, .slice A_x n_x c_x] 28) (.cells #[.int .i64 y.id.1, .int .i64 y.id.2, .slice D_y d_y e_y, strV y.txt, .slice A_y n_y c_y] 28)
  simp only [World.size_alloc] at b1
  generalize ((w_6.alloc (.cells #[.int .i64 x.id.1, .int .i64 x.id.2, .slice D_x d_x e_x, strV x.txt, .slice A_x n_x c_x] 28)).alloc (.cells #[.int .i64 y.id.1, .int .i64 y.id.2, .slice D_y d_y e_y, strV y.txt, .slice A_y n_y c_y] 28)) = w_7 at b0 b1 hb ⊢
  obtain ⟨z_w_7, hz⟩ : ∃ z, w_6.heap.size = z := ⟨_, rfl⟩
  rw [hz] at b0 b1 ⊢
  clear hz
  replace HR_l := Lib.hid (RdN.mv HR_l.out hb)
  replace BP := Lib.hid (BP.out.below hb BP.out.lt)
  replace BQ := Lib.hid (BQ.out.below hb BQ.out.lt)
  replace HV_p := Lib.hid (HV_p.out.mv hb)
  replace HV_q := Lib.hid (HV_q.out.mv hb)
  replace HV_x := Lib.hid (HV_x.out.mv hb)
  replace HV_y := Lib.hid (HV_y.out.mv hb)
  replace HB := Lib.hid (below_mv HB.out hb)
  clear hb
  have BX := Lib.hid b0
  have BY := Lib.hid b1
  clear b0 b1
  have bp_0 := BP.out.cell 0 rfl
  have bp_1 := BP.out.cell 1 rfl
  have bp_2 := BP.out.cell 2 rfl
  have bp_3 := BP.out.cell 3 rfl
  have bp_4 := BP.out.cell 4 rfl
  have bq_0 := BQ.out.cell 0 rfl
  have bq_1 := BQ.out.cell 1 rfl
  have bq_2 := BQ.out.cell 2 rfl
  have bq_3 := BQ.out.cell 3 rfl
  have bq_4 := BQ.out.cell 4 rfl
  go_wp2_with fail
  refine (refPassN (· < w_7.heap.size) D_p d_p e_p A_p n_p c_p D_q d_q e_q A_q n_q c_q p q x y w_7 bo (by have := HN_p.out; omega) (by have := HN_q.out; omega) (by have := HN_q.out; omega) HL_p.out.1 HL_q.out.1 (fun _ h => h) (ng_of HV_p.out) (ng_of HV_q.out) HO.out HBO.out).mono ?_
  clear bp_0 bp_1 bp_2 bp_3 bp_4 bq_0 bq_1 bq_2 bq_3 bq_4
  rintro e w_8 ⟨D_z, d_z, e_z, A_z, n_z, c_z, D_v, d_v, e_v, A_v, n_v, c_v, rfl, h1, h2, hb⟩
  have HV_z := Lib.hid (h1.mono (also_lt (fun _ h => h) hb.size)).nv; have HV_v := Lib.hid (h2.mono (also_lt (fun _ h => h) hb.size)).nv
  clear h1 h2
  replace HR_l := Lib.hid (RdN.mv HR_l.out hb)
  replace BP := Lib.hid (BP.out.below hb BP.out.lt)
  replace BQ := Lib.hid (BQ.out.below hb BQ.out.lt)
  replace HV_p := Lib.hid (HV_p.out.mv hb)
  replace HV_q := Lib.hid (HV_q.out.mv hb)
  replace HV_x := Lib.hid (HV_x.out.mv hb)
  replace HV_y := Lib.hid (HV_y.out.mv hb)
  replace BX := Lib.hid (BX.out.below hb BX.out.lt)
  replace BY := Lib.hid (BY.out.below hb BY.out.lt)
  replace HB := Lib.hid (below_mv HB.out hb)
  clear hb
  go_upto_region 8 with fail
  have b0 := (Blk.new w_8 28 #[.int .i64 x.id.1, .int .i64 x.id.2, .slice D_z d_z e_z, strV x.txt, .slice A_z n_z c_z]).alloc (.cells #[.int .i64 y.id.1, .int .i64 y.id.2, .slice D_v d_v e_v, strV y.txt, .slice A_v n_v c_v] 28)
  have b1 := Blk.new (w_8.alloc (.cells #[.int .i64 x.id.1, .int .i64 x.id.2, .slice D_z d_z e_z, strV x.txt, .slice A_z n_z c_z] 28)) 28 #[.int .i64 y.id.1, .int .i64 y.id.2, .slice D_v d_v e_v, strV y.txt, .slice A_v n_v c_v]
  have hb := two_box w_8 (.cells #[.int .i64 x.id.1, .int .i64 x.id.2, .slice D_z d_z e_z, strV x.txt, .slice A_z n_z c_z] 28) (.cells #[.int .i64 y.id.1, .int .i64 y.id.2, .slice D_v d_v e_v, strV y.txt, .slice A_v n_v c_v] 28)
  simp only [World.size_alloc] at b1
  generalize ((w_8.alloc (.cells #[.int .i64 x.id.1, .int .i64 x.id.2, .slice D_z d_z e_z, strV x.txt, .slice A_z n_z c_z] 28)).alloc (.cells #[.int .i64 y.id.1, .int .i64 y.id.2, .slice D_v d_v e_v, strV y.txt, .slice A_v n_v c_v] 28)) = w_9 at b0 b1 hb ⊢
  obtain ⟨z_w_9, hz⟩ : ∃ z, w_8.heap.size = z := ⟨_, rfl⟩
  rw [hz] at b0 b1 ⊢
  clear hz
  replace HR_l := Lib.hid (RdN.mv HR_l.out hb)
  replace BP := Lib.hid (BP.out.below hb BP.out.lt)
  replace BQ := Lib.hid (BQ.out.below hb BQ.out.lt)
  replace HV_p := Lib.hid (HV_p.out.mv hb)
  replace HV_q := Lib.hid (HV_q.out.mv hb)
  replace HV_x := Lib.hid (HV_x.out.mv hb)
  replace HV_y := Lib.hid (HV_y.out.mv hb)
  replace BX := Lib.hid (BX.out.below hb BX.out.lt)
  replace BY := Lib.hid (BY.out.below hb BY.out.lt)
  replace HV_z := Lib.hid (HV_z.out.mv hb)
  replace HV_v := Lib.hid (HV_v.out.mv hb)
  replace HB := Lib.hid (below_mv HB.out hb)
  clear hb
  have BZ := Lib.hid b0
  have BV := Lib.hid b1
  clear b0 b1
  have bx_0 := BX.out.cell 0 rfl
  have bx_1 := BX.out.cell 1 rfl
  have bx_2 := BX.out.cell 2 rfl
  have bx_3 := BX.out.cell 3 rfl
  have bx_4 := BX.out.cell 4 rfl
  have bz_0 := BZ.out.cell 0 rfl
  have bz_1 := BZ.out.cell 1 rfl
  have bz_2 := BZ.out.cell 2 rfl
  have bz_3 := BZ.out.cell 3 rfl
  have bz_4 := BZ.out.cell 4 rfl
  have l_1 := BX.out.lt; have l_2 := BZ.out.lt
  go_wp2_with fail
  refine (refSameN D_x d_x e_x A_x n_x c_x D_z d_z e_z A_z n_z c_z x x w_9 true HV_x.out HV_z.out (by have h1 := HV_x.out.l; have := HL_x.out.2.1; omega) (by have h1 := HV_x.out.dl; have := HL_x.out.2.2; omega) (sameN_self _)).mono ?_
  rintro e w_10 ⟨rfl, hb⟩
  replace HR_l := Lib.hid (RdN.mv HR_l.out hb)
  replace BP := Lib.hid (BP.out.below hb BP.out.lt)
  replace BQ := Lib.hid (BQ.out.below hb BQ.out.lt)
  replace HV_p := Lib.hid (HV_p.out.mv hb)
  replace HV_q := Lib.hid (HV_q.out.mv hb)
  replace HV_x := Lib.hid (HV_x.out.mv hb)
  replace HV_y := Lib.hid (HV_y.out.mv hb)
  replace BX := Lib.hid (BX.out.below hb BX.out.lt)
  replace BY := Lib.hid (BY.out.below hb BY.out.lt)
  replace HV_z := Lib.hid (HV_z.out.mv hb)
  replace HV_v := Lib.hid (HV_v.out.mv hb)
  replace BZ := Lib.hid (BZ.out.below hb BZ.out.lt)
  replace BV := Lib.hid (BV.out.below hb BV.out.lt)
  replace HB := Lib.hid (below_mv HB.out hb)
  clear hb
  clear bx_0 bx_1 bx_2 bx_3 bx_4 bz_0 bz_1 bz_2 bz_3 bz_4 l_1 l_2
  have by_0 := BY.out.cell 0 rfl
  have by_1 := BY.out.cell 1 rfl
  have by_2 := BY.out.cell 2 rfl
  have by_3 := BY.out.cell 3 rfl
  have by_4 := BY.out.cell 4 rfl
  have bv_0 := BV.out.cell 0 rfl
  have bv_1 := BV.out.cell 1 rfl
  have bv_2 := BV.out.cell 2 rfl
  have bv_3 := BV.out.cell 3 rfl
  have bv_4 := BV.out.cell 4 rfl
  have l_1 := BY.out.lt; have l_2 := BV.out.lt
  go_wp2_with fail
  refine (refSameN D_y d_y e_y A_y n_y c_y D_v d_v e_v A_v n_v c_v y y w_10 true HV_y.out HV_v.out (by have h1 := HV_y.out.l; have := HL_y.out.2.1; omega) (by have h1 := HV_y.out.dl; have := HL_y.out.2.2; omega) (sameN_self _)).mono ?_
  rintro e w_11 ⟨rfl, hb⟩
  replace HR_l := Lib.hid (RdN.mv HR_l.out hb)
  replace BP := Lib.hid (BP.out.below hb BP.out.lt)
  replace BQ := Lib.hid (BQ.out.below hb BQ.out.lt)
  replace HV_p := Lib.hid (HV_p.out.mv hb)
  replace HV_q := Lib.hid (HV_q.out.mv hb)
  replace HV_x := Lib.hid (HV_x.out.mv hb)
  replace HV_y := Lib.hid (HV_y.out.mv hb)
  replace BX := Lib.hid (BX.out.below hb BX.out.lt)
  replace BY := Lib.hid (BY.out.below hb BY.out.lt)
  replace HV_z := Lib.hid (HV_z.out.mv hb)
  replace HV_v := Lib.hid (HV_v.out.mv hb)
  replace BZ := Lib.hid (BZ.out.below hb BZ.out.lt)
  replace BV := Lib.hid (BV.out.below hb BV.out.lt)
  replace HB := Lib.hid (below_mv HB.out hb)
  clear hb
  clear by_0 by_1 by_2 by_3 by_4 bv_0 bv_1 bv_2 bv_3 bv_4 l_1 l_2
  clear BX BY BZ BV HV_x HV_y HV_z HV_v
  obtain ⟨xo, ys, hoo⟩ : ∃ x y, outO (overN l q) = (x, y) := ⟨_, _, rfl⟩
  obtain ⟨bv, hbv⟩ : ∃ b, (overN l q).isSome = b := ⟨_, rfl⟩
  have HLO := Lib.hid (over_lit hoo hbv HL_l.out HL_q.out)
  have HOO := Lib.hid hoo; have HBV := Lib.hid hbv; clear hoo hbv
  have bq_0 := BQ.out.cell 0 rfl
  have bq_1 := BQ.out.cell 1 rfl
  have bq_2 := BQ.out.cell 2 rfl
  have bq_3 := BQ.out.cell 3 rfl
  have bq_4 := BQ.out.cell 4 rfl
  have l_2 := BQ.out.lt
  go_wp2_with fail
  clear bq_0 bq_1 bq_2 bq_3 bq_4 l_2
  refine (OverN A_l n_l c_l l D_q d_q e_q A_q n_q c_q q w_11 (by have := HQ_l.out; omega) (by have := HN_q.out; omega) (by have := HN_q.out; omega) HL_q.out.1 HR_l.out HN_l.out (over_all HL_l.out) HV_q.out xo ys bv HOO.out HBV.out).mono ?_
  rintro e w_12 ⟨D_r, d_r, e_r, A_r, n_r, c_r, vr, rfl, h1, h2, hb⟩
  obtain ⟨A_m, c_m, rfl, hcm, hrm⟩ := rdN_ownT h2 (fun b hb => hb.1.2)
  obtain ⟨n_m, hnm⟩ : ∃ n, ys.length = n := ⟨_, rfl⟩
  rw [hnm] at hcm h1 h2 ⊢
  have HNM := Lib.hid hnm
  have HV_r := Lib.hid (h1.mono fun b hb => since_lt b hb.1).nv; have HR_m := Lib.hid hrm
  clear h1 h2 hcm hrm hnm
  replace HR_l := Lib.hid (RdN.mv HR_l.out hb)
  replace BP := Lib.hid (BP.out.below hb BP.out.lt)
  replace BQ := Lib.hid (BQ.out.below hb BQ.out.lt)
  replace HV_p := Lib.hid (HV_p.out.mv hb)
  replace HV_q := Lib.hid (HV_q.out.mv hb)
  replace HB := Lib.hid (below_mv HB.out hb)
  clear hb
  go_upto_region 11 with fail
  have b0 := Blk.new w_12 28 #[.int .i64 xo.id.1, .int .i64 xo.id.2, .slice D_r d_r e_r, strV xo.txt, .slice A_r n_r c_r]
  have hb : Below w_12.heap.size w_12 (w_12.alloc (.cells #[.int .i64 xo.id.1, .int .i64 xo.id.2, .slice D_r d_r e_r, strV xo.txt, .slice A_r n_r c_r] 28)) := (Below.refl _ _).alloc (Nat.le_refl _) _
  generalize (w_12.alloc (.cells #[.int .i64 xo.id.1, .int .i64 xo.id.2, .slice D_r d_r e_r, strV xo.txt, .slice A_r n_r c_r] 28)) = w_13 at b0 hb ⊢
  obtain ⟨z_w_13, hz⟩ : ∃ z, w_12.heap.size = z := ⟨_, rfl⟩
  rw [hz] at b0 ⊢
  clear hz
  replace HR_l := Lib.hid (RdN.mv HR_l.out hb)
  replace BP := Lib.hid (BP.out.below hb BP.out.lt)
  replace BQ := Lib.hid (BQ.out.below hb BQ.out.lt)
  replace HV_p := Lib.hid (HV_p.out.mv hb)
  replace HV_q := Lib.hid (HV_q.out.mv hb)
  replace HV_r := Lib.hid (HV_r.out.mv hb)
  replace HR_m := Lib.hid (RdN.mv HR_m.out hb)
  replace HB := Lib.hid (below_mv HB.out hb)
  clear hb
  have BR := Lib.hid b0
  clear b0
  have bq_0 := BQ.out.cell 0 rfl
  have bq_1 := BQ.out.cell 1 rfl
  have bq_2 := BQ.out.cell 2 rfl
  have bq_3 := BQ.out.cell 3 rfl
  have bq_4 := BQ.out.cell 4 rfl
  have l_2 := BQ.out.lt
  go_wp2_with fail
  clear bq_0 bq_1 bq_2 bq_3 bq_4 l_2
  refine (refOverN A_l n_l c_l l D_q d_q e_q A_q n_q c_q q w_13 (by have := HQ_l.out; omega) (by have := HN_q.out; omega) (by have := HN_q.out; omega) HL_q.out.1 HR_l.out HN_l.out (over_all HL_l.out) HV_q.out xo ys bv HOO.out HBV.out).mono ?_
  rintro e w_14 ⟨D_s, d_s, e_s, A_s, n_s, c_s, A_n, n_n, c_n, rfl, h1, hnn, _, h2, hb⟩
  obtain rfl : n_m = n_n := HNM.out.symm.trans hnn
  clear hnn
  have HV_s := Lib.hid h1; have HR_n := Lib.hid h2
  clear h1 h2
  replace HR_l := Lib.hid (RdN.mv HR_l.out hb)
  replace BP := Lib.hid (BP.out.below hb BP.out.lt)
  replace BQ := Lib.hid (BQ.out.below hb BQ.out.lt)
  replace HV_p := Lib.hid (HV_p.out.mv hb)
  replace HV_q := Lib.hid (HV_q.out.mv hb)
  replace HV_r := Lib.hid (HV_r.out.mv hb)
  replace HR_m := Lib.hid (RdN.mv HR_m.out hb)
  replace BR := Lib.hid (BR.out.below hb BR.out.lt)
  replace HB := Lib.hid (below_mv HB.out hb)
  clear hb
  go_upto_region 12 with fail
  have b0 := Blk.new w_14 28 #[.int .i64 xo.id.1, .int .i64 xo.id.2, .slice D_s d_s e_s, strV xo.txt, .slice A_s n_s c_s]
  have hb : Below w_14.heap.size w_14 (w_14.alloc (.cells #[.int .i64 xo.id.1, .int .i64 xo.id.2, .slice D_s d_s e_s, strV xo.txt, .slice A_s n_s c_s] 28)) := (Below.refl _ _).alloc (Nat.le_refl _) _
  generalize (w_14.alloc (.cells #[.int .i64 xo.id.1, .int .i64 xo.id.2, .slice D_s d_s e_s, strV xo.txt, .slice A_s n_s c_s] 28)) = w_15 at b0 hb ⊢
  obtain ⟨z_w_15, hz⟩ : ∃ z, w_14.heap.size = z := ⟨_, rfl⟩
  rw [hz] at b0 ⊢
  clear hz
  replace HR_l := Lib.hid (RdN.mv HR_l.out hb)
  replace BP := Lib.hid (BP.out.below hb BP.out.lt)
  replace BQ := Lib.hid (BQ.out.below hb BQ.out.lt)
  replace HV_p := Lib.hid (HV_p.out.mv hb)
  replace HV_q := Lib.hid (HV_q.out.mv hb)
  replace HV_r := Lib.hid (HV_r.out.mv hb)
  replace HR_m := Lib.hid (RdN.mv HR_m.out hb)
  replace BR := Lib.hid (BR.out.below hb BR.out.lt)
  replace HV_s := Lib.hid (HV_s.out.mv hb)
  replace HR_n := Lib.hid (RdN.mv HR_n.out hb)
  replace HB := Lib.hid (below_mv HB.out hb)
  clear hb
  have BS := Lib.hid b0
  clear b0
  have br_0 := BR.out.cell 0 rfl
  have br_1 := BR.out.cell 1 rfl
  have br_2 := BR.out.cell 2 rfl
  have br_3 := BR.out.cell 3 rfl
  have br_4 := BR.out.cell 4 rfl
  have bs_0 := BS.out.cell 0 rfl
  have bs_1 := BS.out.cell 1 rfl
  have bs_2 := BS.out.cell 2 rfl
  have bs_3 := BS.out.cell 3 rfl
  have bs_4 := BS.out.cell 4 rfl
  have l_1 := BR.out.lt; have l_2 := BS.out.lt
  go_wp2_with fail
  refine (refSameN D_r d_r e_r A_r n_r c_r D_s d_s e_s A_s n_s c_s xo xo w_15 true HV_r.out HV_s.out (by have h1 := HV_r.out.l; have := HLO.out.1.2.1; omega) (by have h1 := HV_r.out.dl; have := HLO.out.1.2.2; omega) (sameN_self _)).mono ?_
  rintro e w_16 ⟨rfl, hb⟩
  replace HR_l := Lib.hid (RdN.mv HR_l.out hb)
  replace BP := Lib.hid (BP.out.below hb BP.out.lt)
  replace BQ := Lib.hid (BQ.out.below hb BQ.out.lt)
  replace HV_p := Lib.hid (HV_p.out.mv hb)
  replace HV_q := Lib.hid (HV_q.out.mv hb)
  replace HV_r := Lib.hid (HV_r.out.mv hb)
  replace HR_m := Lib.hid (RdN.mv HR_m.out hb)
  replace BR := Lib.hid (BR.out.below hb BR.out.lt)
  replace HV_s := Lib.hid (HV_s.out.mv hb)
  replace HR_n := Lib.hid (RdN.mv HR_n.out hb)
  replace BS := Lib.hid (BS.out.below hb BS.out.lt)
  replace HB := Lib.hid (below_mv HB.out hb)
  clear hb
  clear br_0 br_1 br_2 br_3 br_4 bs_0 bs_1 bs_2 bs_3 bs_4 l_1 l_2
  go_wp2_with fail
  refine (refListN A_m n_m c_m A_n c_n ys w_16 HNM.out (by have h1 := HNM.out; have h2 := over_short HOO.out; have h3 := HN_l.out; have h4 := HQ_l.out; omega) HLO.out.2 HR_m.out HR_n.out).mono ?_
  rintro e w_17 ⟨rfl, hb⟩
  replace HR_l := Lib.hid (RdN.mv HR_l.out hb)
  replace BP := Lib.hid (BP.out.below hb BP.out.lt)
  replace BQ := Lib.hid (BQ.out.below hb BQ.out.lt)
  replace HV_p := Lib.hid (HV_p.out.mv hb)
  replace HV_q := Lib.hid (HV_q.out.mv hb)
  replace HV_r := Lib.hid (HV_r.out.mv hb)
  replace HR_m := Lib.hid (RdN.mv HR_m.out hb)
  replace BR := Lib.hid (BR.out.below hb BR.out.lt)
  replace HV_s := Lib.hid (HV_s.out.mv hb)
  replace HR_n := Lib.hid (RdN.mv HR_n.out hb)
  replace BS := Lib.hid (BS.out.below hb BS.out.lt)
  replace HB := Lib.hid (below_mv HB.out hb)
  clear hb
  have q1 : (bo == bo) = true := beq_self_eq_true _; have q2 : (bv == bv) = true := beq_self_eq_true _
  go_wp2
  go_ret
  exact ⟨rfl, HB.out⟩

end TgL
open TgL
open Tx
open Go.ChangeShapes Go.WideShapes Go.ChangeAt

theorem tradeTells_own : ownKnob Try.prog.godebug = none := by kernel_rfl
theorem tradeTells_laidOut : laidOutB Try.prog = true := by kernel_rfl

set_option maxRecDepth 100000 in
theorem tradeTells_lifted (os : Os) (started : os.Started) (H : Type) (enc : TypeId × Value → H) :
    ReturnsInHanded {} Try.checked os 3 .any (Rows.tradeTellsSpec.pre6 enc Try.prog Try.f3 Rows.tradeTellsRow.domain false) (Rows.tradeTellsSpec.post enc Try.prog Try.f3 false true false false) := by
  refine returnsInHanded_of_change (C := Try.checked) tradeTells_own started (by kernel_rfl) Try.func3
    (ChangeSpec.witness6 (enc := enc) (C := Try.checked) false ⟨#[], #[.slice none 0 0, .agg #[.int .i64 0, .int .i64 0, .slice none 0 0, .string ByteArray.empty, .slice none 0 0], .agg #[.int .i64 0, .int .i64 0, .slice none 0 0, .string ByteArray.empty, .slice none 0 0]], []⟩ 8 (by kernel_rfl) (by kernel_rfl) (by kernel_rfl) (by kernel_rfl)) ?_
  intro W base args ds gs before hval0 hW hcnd _
  have hval : ∀ (j : Nat) t v, Try.f3.params[j]? = some t → args[j]? = some v → Value.okWide Try.prog W .any base t v := hval0
  have hW' := hW
  obtain ⟨p, q, hA0, hV, rfl, hfz, hnd⟩ := hW
  have hA : DataW.TrodAll enc Try.prog W 0 (fun _ => true) true Try.f3.params.toList args.toList ds p := hA0
  rw [Try.params3] at hA hval
  obtain ⟨v0, vs0, d0, ds0, p0, q0, hargs, rfl, rfl, h0, r0⟩ := trodAll_cons hA
  obtain ⟨v1, vs1, d1, ds1, p1, q1, rfl, rfl, rfl, h1, r1⟩ := trodAll_cons r0
  obtain ⟨v2, vs2, d2, ds2, p2, q2, rfl, rfl, rfl, h2, r2⟩ := trodAll_cons r1
  obtain ⟨rfl, rfl, rfl⟩ := trodAll_nil r2
  obtain rfl : args = #[v0, v1, v2] := by cases args; simp_all
  obtain ⟨rfl, rfl⟩ := trodVars_none hV
  obtain ⟨a0, n0, c0, rfl⟩ := okWide_slice Try.underlying22 (hval 0 22 v0 rfl rfl)
  have k0 := h0
  have lt0 : ∀ x ∈ p0, x.block < W.heap.size := by obtain ⟨m, hm⟩ := k0; exact DataW.trod_lt m _ _ _ hm
  obtain ⟨l0, s0⟩ : ∃ l, NmsArg W a0 n0 c0 l := by
    obtain ⟨fuel, hf⟩ := h0
    exact nms_in hf (by simp [Value.cells])
  have k1 := h1
  have lt1 : ∀ x ∈ p1, x.block < W.heap.size := by obtain ⟨m, hm⟩ := k1; exact DataW.trod_lt m _ _ _ hm
  obtain ⟨a1, n1, c1, b1, m1, e1, l1, rfl, s1⟩ := nm_in (hval 1 28 v1 rfl rfl) h1
  have k2 := h2
  have lt2 : ∀ x ∈ p2, x.block < W.heap.size := by obtain ⟨m, hm⟩ := k2; exact DataW.trod_lt m _ _ _ hm
  obtain ⟨a2, n2, c2, b2, m2, e2, l2, rfl, s2⟩ := nm_in (hval 2 28 v2 rfl rfl) h2
  clear hA0 hval0
  refine (tradeTells_walk a0 n0 c0 l0 a1 n1 c1 b1 m1 e1 l1 a2 n2 c2 b2 m2 e2 l2 W s0 s1 s2).mono fun e W' ⟨he, bel⟩ => ?_
  subst he
  exact ⟨_, rfl, _, _, _, [], _, [], hW', trodAll_mk1 (shut_bool Try.underlying4 _), (trodAll_cons_mk (Below.trod tradeTells_laidOut (by kernel_rfl) (of_decide_eq_true (by kernel_rfl)) k0 bel lt0) (trodAll_cons_mk (Below.trod tradeTells_laidOut (by kernel_rfl) (of_decide_eq_true (by kernel_rfl)) k1 bel lt1) (trodAll_cons_mk (Below.trod tradeTells_laidOut (by kernel_rfl) (of_decide_eq_true (by kernel_rfl)) k2 bel lt2) trodAll_mk0))), rfl, bel.frame _, fun h => by cases h⟩

/-- The statement. -/
theorem tradeTells_proved : Rows.TradeTellsSaid :=
  OpenClaim.holds_of_wide 3 Try.f3 rfl rfl rfl rfl rfl rfl rfl ⟨rfl, rfl, rfl, rfl, rfl⟩ rfl rfl rfl rfl rfl (by kernel_rfl) Try.func3 (by kernel_rfl)
    (of_decide_eq_true (by kernel_rfl)) (by unfold Func.isWrapper; first | (rw [if_pos (by decide +kernel)]; kernel_rfl) | (rw [if_neg (by decide +kernel)]; exact ⟨rfl, rfl⟩))
    (fun os started H enc _ => tradeTells_lifted os started H enc)

#print axioms tradeTells_proved
end Go.Proofs.Ytbiiabfhngdeiaa
