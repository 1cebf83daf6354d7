/-
  What the document's own 'one' and Pass of layer 10 return (walks).
-/
import Derived.Test.YteiidklmlelabaaFlKeep
import Derived.Test.YteiidklmlelabaaFlSteps
import Derived.Test.YteiidklmlelabaaFlWords
import Derived.Test.YteiidklmlelabaaFlCut
import Derived.Test.YteiidklmlelabaaFlRef2
import Derived.Deep.Cut
set_option maxRecDepth 100000
namespace Go.Proofs.Yteiidklmlelabaa
open Go.RowKit
set_option linter.unusedVariables false
set_option linter.unusedSimpArgs false
namespace Fl
open Tx Df Sq Hk Tr Pr

/-- Changes that are read, wherever their cells are; their lines below block N. -/
def SrcN (W : World) (N : Nat) (A : Option Addr) (l : List Ch) : Prop := ∃ ys : List Value, ys.length = l.length * 6 ∧ PCells W (· < N) l ys ∧ (ys = [] ∨ ∃ a, A = some a ∧ ∀ (j : Nat) u, ys[j]? = some u → W.cell? (a.add j) = some u)
theorem srcN_rd {W : World} {N : Nat} {A : Option Addr} {l : List Ch} (h : RdP W (· < N) A l) : SrcN W N A l := flatP h
theorem SrcN.below {W W' : World} {N : Nat} {A : Option Addr} {l : List Ch} (h : SrcN W N A l) (hb : Below W.heap.size W W') : SrcN W' N A l := by
  obtain ⟨ys, h1, h2, h3⟩ := h
  exact ⟨ys, h1, h2.kc (keepC_below hb), h3.imp id fun ⟨a, e, h⟩ => ⟨a, e, fun j u hu => (keepC_below (S := fun _ => True) hb).cell trivial (h j u hu)⟩⟩
theorem srcN_own {W : World} {N base n c : Nat} {A : Option Addr} {l : List Ch} (h : OwnN W N base (.slice A n c) l) : SrcN W N A l := by
  obtain ⟨xs, hr, hF⟩ := h
  refine ⟨xs, hr.1, hF, ?_⟩
  rcases hr.2 with ⟨_, h0⟩ | ⟨g, cap, cur, e, _⟩
  · refine .inl (List.eq_nil_of_length_eq_zero ?_)
    rw [hr.1, h0]
  · injection e with e1 e2 e3
    subst e1
    refine .inr ⟨_, rfl, fun j u hu => ?_⟩
    have ea : (⟨g, 0, none⟩ : Addr).add j = ⟨g, j, none⟩ := by unfold Addr.add; split <;> simp_all
    have e2' : n = l.length := e2
    subst e2'
    rw [ea, hr.cellAt j (by have := (List.getElem?_eq_some_iff.1 hu).1; rw [hr.1] at this; exact this)]
    exact hu
theorem OwnS.base {W : World} {S : Nat → Prop} {base base' : Nat} {v : Value} {l : List Ch} (h : OwnS W S base v l) (hb : base' ≤ base) : OwnS W S base' v l := by
  obtain ⟨xs, h1, h2⟩ := h
  exact ⟨xs, own_mono h1 hb, h2⟩

/-- How a call of one ends. -/
def OneEnd (w : World) (N : Nat) (D : Option Addr) (m k : Nat) (D' : Option Addr) (m' k' : Nat) (o : Option (Ch × List Ch)) (e : Ending) (w' : World) : Prop :=
  (∀ z, o = some z → ∃ v, e = .returned (.tuple #[prV z.1.k z.1.nm z.1.to z.1.h.pos D m k D' m' k', v, .bool true]) ∧ OwnN w' N w.heap.size v z.2 ∧ PG w' (· < N) D m k D' m' k' z.1) ∧
  (o = none → e = .returned (.tuple #[.agg #[.int .i64 0, strV [], strV [], .int .i64 0, .slice none 0 0, .slice none 0 0], .slice none 0 0, .bool false])) ∧ Below w.heap.size w w'

/-- Between two rounds of one: x is q ahead of those from place j on, which are post. -/
structure OneInv (W : World) (N gq : Nat) (A1 : Option Addr) (n c1 : Nat) (D : Option Addr) (m k : Nat) (D' : Option Addr) (m' k' : Nat) (a : List Ch) (q : Ch) (j : Nat) (x : Ch) (post : List Ch) : Prop where
  on : one passP (a.drop j) q = some (x, post)
  row : OwnN W N (gq + 2) (.slice A1 n c1) (a.take j ++ post)
  bq : Blk W gq 43 #[.int .i64 x.k, strV x.nm, strV x.to, .int .i64 x.h.pos, .slice D m k, .slice D' m' k']
  br : Blk W (gq + 1) 43 #[.int .i64 0, strV [], strV [], .int .i64 0, .slice none 0 0, .slice none 0 0]
  pg : PG W (· < N) D m k D' m' k' x
  lt : lightP x = true
theorem oneInv_start {W : World} {N gq : Nat} {A1 : Option Addr} {n c1 : Nat} {D : Option Addr} {m k : Nat} {D' : Option Addr} {m' k' : Nat} {a : List Ch} {q : Ch} (hn : a.length = n) (ho : OwnN W N (gq + 2) (.slice A1 n c1) a)
    (h1 : Blk W gq 43 #[.int .i64 q.k, strV q.nm, strV q.to, .int .i64 q.h.pos, .slice D m k, .slice D' m' k']) (h2 : Blk W (gq + 1) 43 #[.int .i64 0, strV [], strV [], .int .i64 0, .slice none 0 0, .slice none 0 0]) (hp : PG W (· < N) D m k D' m' k' q) (hq : lightP q = true) :
    OneInv W N gq A1 n c1 D m k D' m' k' a q n q [] :=
  ⟨by rw [List.drop_of_length_le (by omega)]; rfl, by rw [List.take_of_length_le (by omega), List.append_nil]; exact ho, h1, h2, hp, hq⟩

theorem OneInv.len {W : World} {N gq : Nat} {A1 : Option Addr} {n c1 : Nat} {D : Option Addr} {m k : Nat} {D' : Option Addr} {m' k' : Nat} {a : List Ch} {q : Ch} {j : Nat} {x : Ch} {post : List Ch} (h : OneInv W N gq A1 n c1 D m k D' m' k' a q j x post) (hn : a.length = n) (hj : j ≤ n) : (a.take j ++ post).length = n :=
  len_mid (by rw [one_len passP h.on, List.length_drop]; omega) hn
theorem oneEnd_none {w W : World} {N : Nat} {D : Option Addr} {m k : Nat} {D' : Option Addr} {m' k' : Nat} {o : Option (Ch × List Ch)} (ho : o = none) (hb : Below w.heap.size w W) :
    OneEnd w N D m k D' m' k' o (.returned (.tuple #[.agg #[.int .i64 0, strV [], strV [], .int .i64 0, .slice none 0 0, .slice none 0 0], .slice none 0 0, .bool false])) W :=
  ⟨fun z h => (by rw [ho] at h; cases h), fun _ => rfl, hb⟩
theorem oneEnd_some {w wr : World} {N gq : Nat} {A1 : Option Addr} {n c1 : Nat} {D : Option Addr} {m k : Nat} {D' : Option Addr} {m' k' : Nat} {a : List Ch} {q x : Ch} {post : List Ch} (hI : OneInv wr N gq A1 n c1 D m k D' m' k' a q 0 x post) (hg : gq = w.heap.size) (hN : N ≤ gq) (hb : Below gq w wr) (v0 v1 v2 v3 v4 v5 : Value) :
    OneEnd w N D m k D' m' k' (one passP a q) (.returned (.tuple #[.agg #[.int .i64 x.k, strV x.nm, strV x.to, .int .i64 x.h.pos, .slice D m k, .slice D' m' k'], .slice A1 n c1, .bool true]))
      ((((((wr.setCell ⟨gq + 1, 0, none⟩ v0).setCell ⟨gq + 1, 1, none⟩ v1).setCell ⟨gq + 1, 2, none⟩ v2).setCell ⟨gq + 1, 3, none⟩ v3).setCell ⟨gq + 1, 4, none⟩ v4).setCell ⟨gq + 1, 5, none⟩ v5) := by
  have hon := hI.on
  have hrow := hI.row
  rw [List.drop_zero] at hon
  rw [List.take_zero, List.nil_append] at hrow
  have hne : some (gq + 1) ≠ (Value.slice A1 n c1).ownBlock := fun e => by have := ownN_ge hrow _ e.symm; omega
  subst hg
  refine ⟨fun z h => ?_, fun h => (by rw [hon] at h; cases h), below_set6 hb (Nat.le_succ _) v0 v1 v2 v3 v4 v5⟩
  rw [hon] at h
  injection h with h
  subst h
  exact ⟨_, rfl, (hrow.set6 hne (by omega) v0 v1 v2 v3 v4 v5).base (Nat.le_add_right _ 2), hI.pg.to_ ((alike_set6 wr _ v0 v1 v2 v3 v4 v5).mono fun b hb e => by subst e; omega)⟩
theorem oneInv_step {wr wc : World} {N gq g i : Nat} {n c1 : Nat} {D : Option Addr} {m k : Nat} {D' : Option Addr} {m' k' : Nat} {a : List Ch} {q x p x' y' : Ch} {post : List Ch} {B : Option Addr} {r s : Nat} {B' : Option Addr} {r' s' : Nat}
    (hI : OneInv wr N gq (some ⟨g, 0, none⟩) n c1 D m k D' m' k' a q (i + 1) x post) (hn : a.length = n) (hx : a[i]? = some p) (hp : passP p x = some (x', y')) (hlp : lightP p = true) (hN : N ≤ gq) (hb : Below wr.heap.size wr wc) (hv : PG wr (· < N) B r s B' r' s' p) :
    OneInv ((((((((((((wc.setCell ⟨gq, 0, none⟩ (.int .i64 x'.k)).setCell ⟨gq, 1, none⟩ (strV x'.nm)).setCell ⟨gq, 2, none⟩ (strV x'.to)).setCell ⟨gq, 3, none⟩ (.int .i64 x'.h.pos)).setCell ⟨gq, 4, none⟩ (.slice D m k)).setCell ⟨gq, 5, none⟩ (.slice D' m' k')).setCell ⟨g, i * 6, none⟩ (.int .i64 y'.k)).setCell ⟨g, i * 6 + 1, none⟩ (strV y'.nm)).setCell ⟨g, i * 6 + 2, none⟩ (strV y'.to)).setCell ⟨g, i * 6 + 3, none⟩ (.int .i64 y'.h.pos)).setCell ⟨g, i * 6 + 4, none⟩ (.slice B r s)).setCell ⟨g, i * 6 + 5, none⟩ (.slice B' r' s'))
      N gq (some ⟨g, 0, none⟩) n c1 D m k D' m' k' a q i x' (y' :: post) := by
  have hi : i < n := by have := (List.getElem?_eq_some_iff.1 hx).1; omega
  have hlen := hI.len hn (by omega)
  have hgg : gq + 2 ≤ g := ownN_ge hI.row g rfl
  have way := (passP_way hp).2.2
  have hl2 := passP_lt hp hlp hI.lt
  have hrow := (hI.row.below hb).set6 (b := gq) (fun e => by injection e with e; have e : gq = g := e; omega) (by omega) (.int .i64 x'.k) (strV x'.nm) (strV x'.to) (.int .i64 x'.h.pos) (.slice D m k) (.slice D' m' k')
  have al6 := alike_set6 wc gq (.int .i64 x'.k) (strV x'.nm) (strV x'.to) (.int .i64 x'.h.pos) (.slice D m k) (.slice D' m' k')
  have hNs : N ≤ wr.heap.size := Nat.le_trans hN (Nat.le_of_lt hI.bq.lt)
  have pv := (way_pg2 way (hv.to_ (alike_below (hb.mono hNs))) hI.pg.to).to_ (al6.mono fun b (hb : b < N) e => by subst e; omega)
  have px := (way_pg1 way (hI.pg.to_ (alike_below (hb.mono hNs))) hv.nm).to_ (al6.mono fun b (hb : b < N) e => by subst e; omega)
  have b1 := blk6 (hI.bq.below hb hI.bq.lt) (.int .i64 x'.k) (strV x'.nm) (strV x'.to) (.int .i64 x'.h.pos) (.slice D m k) (.slice D' m' k')
  have b2 := blk_set6 (hI.br.below hb hI.br.lt) (show gq + 1 ≠ gq by omega) (.int .i64 x'.k) (strV x'.nm) (strV x'.to) (.int .i64 x'.h.pos) (.slice D m k) (.slice D' m' k')
  have hst := hrow.store (k := i) hlen (by omega) pv
  rw [set_mid hx] at hst
  exact ⟨one_step passP hx hI.on hp, hst, blk_row6 b1 (by omega) i _ _ _ _ _ _, blk_row6 b2 (by omega) i _ _ _ _ _ _, px.to_ ((alike_row6 _ g i _ _ _ _ _ _).mono fun b (hb : b < N) e => by subst e; omega), hl2.1⟩


set_option maxRecDepth 100000 in
set_option maxHeartbeats 16000000 in
theorem refOne (N : Nat) (A : Option Addr) (n c : Nat) (D : Option Addr) (m k : Nat) (D' : Option Addr) (m' k' : Nat) (a : List Ch) (q : Ch) (w : World) (hn : a.length = n) (hle : n ≤ 1000) (hN : N ≤ w.heap.size) (ha : Lt a) (hq : lightP q = true)
    (hS : SrcN w N A a) (hv : PG w (· < N) D m k D' m' k' q) :
    Calls Try.prog 32 #[.slice A n c, prV q.k q.nm q.to q.h.pos D m k D' m' k'] w (OneEnd w N D m k D' m' k' (one passP a q)) := by
  have HN := Lib.hid hn; have HA := Lib.hid ha; have HQ := Lib.hid hq
  have hbw := two_box w (.cells #[.int .i64 q.k, strV q.nm, strV q.to, .int .i64 q.h.pos, .slice D m k, .slice D' m' k'] 43) (.cells #[.int .i64 0, strV [], strV [], .int .i64 0, .slice none 0 0, .slice none 0 0] 43)
  have b1 := (Blk.new w 43 #[.int .i64 q.k, strV q.nm, strV q.to, .int .i64 q.h.pos, .slice D m k, .slice D' m' k']).alloc (.cells #[.int .i64 0, strV [], strV [], .int .i64 0, .slice none 0 0, .slice none 0 0] 43)
  have b2 := Blk.new (w.alloc (.cells #[.int .i64 q.k, strV q.nm, strV q.to, .int .i64 q.h.pos, .slice D m k, .slice D' m' k'] 43)) 43 #[.int .i64 0, strV [], strV [], .int .i64 0, .slice none 0 0, .slice none 0 0]
  simp only [World.size_alloc] at b2
  obtain ⟨ys, hy1, hy2, hy3⟩ := hS.below hbw
  have Y1 := Lib.hid hy1; have Y2 := Lib.hid hy2; have Y3 := Lib.hid hy3
  have HV := Lib.hid (hv.to_ (alike_below (hbw.mono hN)))
  have hsz : ((w.alloc (.cells #[.int .i64 q.k, strV q.nm, strV q.to, .int .i64 q.h.pos, .slice D m k, .slice D' m' k'] 43)).alloc (.cells #[.int .i64 0, strV [], strV [], .int .i64 0, .slice none 0 0, .slice none 0 0] 43)).heap.size = w.heap.size + 2 := by simp
  have HBW := Lib.hid hbw; have HB1 := Lib.hid b1; have HB2 := Lib.hid b2; have HSZ := Lib.hid hsz
  clear hn ha hq hS hv hy1 hy2 hy3 hbw b1 b2 hsz
  go_enter Try.func32, Try.ntmps32
  go_upto_region 1 with fail
  generalize ((w.alloc (.cells #[.int .i64 q.k, strV q.nm, strV q.to, .int .i64 q.h.pos, .slice D m k, .slice D' m' k'] 43)).alloc (.cells #[.int .i64 0, strV [], strV [], .int .i64 0, .slice none 0 0, .slice none 0 0] 43)) = w0 at *
  obtain ⟨gq, hgq⟩ : ∃ g, w.heap.size = g := ⟨_, rfl⟩
  rw [hgq] at HB1 HB2 HSZ HBW ⊢
  have HGQ := Lib.hid hgq
  have hN' : N ≤ gq := by rw [← hgq]; exact hN
  have HNN := Lib.hid hN'
  clear hgq hN hN'
  go_wp2_with (at_builtin; refine wpList_ownN rfl (.const (.slice none 0 0)) (.tmp 12) rfl N w0.heap.size n c (.slice none 0 0) A [] a ys rfl rfl (ownN_nil _ _ _) Y2.out Y1.out Y3.out HN.out (by simp; omega) (by rw [HSZ.out]; have := HNN.out; omega) (Nat.le_refl _) ?_; intro v w1 ho hg; replace HB1 := Lib.hid (HB1.out.gr hg (nn _)); replace HB2 := Lib.hid (HB2.out.gr hg (nn _)); replace HBW := Lib.hid (HBW.out.trans ((below_gr hg).mono (by rw [HSZ.out]; omega))); replace HV := Lib.hid (HV.out.to_ ((alike_gr hg).mono (fun b _ => nn b))); have HO := Lib.hid (show OwnN w1 N w0.heap.size v a from ho); clear ho hg; obtain ⟨A1, c1, hv1, hc1⟩ : ∃ A1 c1, v = .slice A1 n c1 ∧ n ≤ c1 := (ownN_slice HO.out).elim fun A1 h => h.elim fun c1 h => ⟨A1, c1, by rw [← HN.out]; exact h.1, by rw [← HN.out]; exact h.2⟩; subst hv1)
  clear Y1 Y2 Y3
  have hrow : gq + 2 = w0.heap.size := HSZ.out.symm
  rw [← hrow] at HO
  clear hrow HSZ
  go_loopw [8] (fun i wr => ∃ (j : Nat) (x : Ch) (post : List Ch), j ≤ n ∧ i = .int .i64 ((j : Int) - 1) ∧ OneInv wr N gq A1 n c1 D m k D' m' k' a q j x post ∧ Below gq w wr) (fun i _ => (intOf i + 1).toNat)
  case atStart => exact ⟨n, q, [], Nat.le_refl _, rfl, oneInv_start HN.out HO.out HB1.out HB2.out HV.out HQ.out, HBW.out⟩
  case round =>
    clear HO HB1 HB2 HV HBW
    obtain ⟨j, x, post, hj, rfl, hI, hbw⟩ := hrel
    have HBW := Lib.hid hbw; have HI := Lib.hid hI
    clear hbw hI
    have HE : Hid (gq = w.heap.size) := Lib.hid HGQ.out.symm
    by_cases h0 : j = 0
    · subst h0
      have ez : (((0 : Nat) : Int) - 1) = -1 := rfl
      rw [ez]; clear ez
      have hB1 := HI.out.bq; have hB2 := HI.out.br
      have x0 := hB1.cell 0 rfl; have x1 := hB1.cell 1 rfl; have x2 := hB1.cell 2 rfl; have x3 := hB1.cell 3 rfl; have x4 := hB1.cell 4 rfl; have x5 := hB1.cell 5 rfl
      have z0 := hB2.cell 0 rfl; have z1 := hB2.cell 1 rfl; have z2 := hB2.cell 2 rfl; have z3 := hB2.cell 3 rfl; have z4 := hB2.cell 4 rfl; have z5 := hB2.cell 5 rfl
      have f0 := hB2.frozen 0; have f1 := hB2.frozen 1; have f2 := hB2.frozen 2; have f3 := hB2.frozen 3; have f4 := hB2.frozen 4; have f5 := hB2.frozen 5
      have hlt := hB2.lt
      have HB3 := Lib.hid (blk6 hB2 (.int .i64 x.k) (strV x.nm) (strV x.to) (.int .i64 x.h.pos) (.slice D m k) (.slice D' m' k'))
      clear hB1 hB2
      go_wp2_with fail
      have hoe := oneEnd_some HI.out HE.out HNN.out HBW.out (.int .i64 x.k) (strV x.nm) (strV x.to) (.int .i64 x.h.pos) (.slice D m k) (.slice D' m' k')
      have b6 := HB3.out
      generalize (World.setCell (World.setCell (World.setCell (World.setCell (World.setCell (World.setCell wr ⟨gq + 1, 0, none⟩ (.int .i64 x.k)) ⟨gq + 1, 1, none⟩ (strV x.nm)) ⟨gq + 1, 2, none⟩ (strV x.to)) ⟨gq + 1, 3, none⟩ (.int .i64 x.h.pos)) ⟨gq + 1, 4, none⟩ (.slice D m k)) ⟨gq + 1, 5, none⟩ (.slice D' m' k')) = W9 at *
      have HOE := Lib.hid hoe
      clear hoe x0 x1 x2 x3 x4 x5 z0 z1 z2 z3 z4 z5 f0 f1 f2 f3 f4 f5 hlt
      have u0 := b6.cell 0 rfl; have u1 := b6.cell 1 rfl; have u2 := b6.cell 2 rfl; have u3 := b6.cell 3 rfl; have u4 := b6.cell 4 rfl; have u5 := b6.cell 5 rfl
      refine bodyPost_ret (v := .tuple #[.agg #[.int .i64 x.k, strV x.nm, strV x.to, .int .i64 x.h.pos, .slice D m k, .slice D' m' k'], .slice A1 n c1, .bool true]) (by simp [results, Try.results32, go_sem, u0, u1, u2, u3, u4, u5]) rfl ?_
      exact HOE.out
    · obtain ⟨i, rfl⟩ : ∃ i, j = i + 1 := ⟨j - 1, by omega⟩
      have ei : ((i + 1 : Nat) : Int) - 1 = (i : Int) := by omega
      rw [ei]; clear ei h0
      have hin : i < n := by omega
      have hki : (i : Int) < (n : Int) := by omega
      obtain ⟨p, hx⟩ : ∃ p, a[i]? = some p := ⟨_, List.getElem?_eq_getElem (by rw [HN.out]; exact hin)⟩
      obtain ⟨g, cap, hv, hgg, hg2⟩ := ownN_addr HI.out.row (by rw [HI.out.len HN.out hj]; omega)
      injection hv with hv1 hv2 hv3
      subst hv1
      clear hv2 hv3
      obtain ⟨B, r, s, B', r', s', c0, c1', c2, c3, c4, c5, hf, hpv⟩ := HI.out.row.elem (HI.out.len HN.out hj) (at_mid hx)
      have HX := Lib.hid hx; have HPV := Lib.hid hpv; have HLP := Lib.hid (HA.out p (List.mem_of_getElem? hx)); have HGG := Lib.hid hgg
      have hNs : N ≤ wr.heap.size := Nat.le_trans HNN.out (Nat.le_of_lt HI.out.bq.lt)
      have HVP := Lib.hid (hpv.mono (fun b (hb : b < N) => Nat.lt_of_lt_of_le hb hNs) : PG wr (· < wr.heap.size) B r s B' r' s' p).pv
      have HVX := Lib.hid (HI.out.pg.mono (fun b (hb : b < N) => Nat.lt_of_lt_of_le hb hNs) : PG wr (· < wr.heap.size) D m k D' m' k' x).pv
      have hbq := HI.out.bq
      have HC : Hid (∀ W, Below wr.heap.size wr W → W.cell? ⟨g, i * 6, none⟩ = some (.int .i64 p.k) ∧ W.cell? ⟨g, i * 6 + 1, none⟩ = some (strV p.nm) ∧ W.cell? ⟨g, i * 6 + 2, none⟩ = some (strV p.to) ∧ W.cell? ⟨g, i * 6 + 3, none⟩ = some (.int .i64 p.h.pos) ∧ W.cell? ⟨g, i * 6 + 4, none⟩ = some (.slice B r s) ∧ W.cell? ⟨g, i * 6 + 5, none⟩ = some (.slice B' r' s') ∧ W.cell? ⟨gq, 0, none⟩ = some (.int .i64 x.k) ∧ W.cell? ⟨gq, 1, none⟩ = some (strV x.nm) ∧ W.cell? ⟨gq, 2, none⟩ = some (strV x.to) ∧ W.cell? ⟨gq, 3, none⟩ = some (.int .i64 x.h.pos) ∧ W.cell? ⟨gq, 4, none⟩ = some (.slice D m k) ∧ W.cell? ⟨gq, 5, none⟩ = some (.slice D' m' k')) := Lib.hid (fun W hb => by
        have z := hbq.below hb hbq.lt
        exact ⟨cell_b hb c0 hg2, cell_b hb c1' hg2, cell_b hb c2 hg2, cell_b hb c3 hg2, cell_b hb c4 hg2, cell_b hb c5 hg2, z.cell 0 rfl, z.cell 1 rfl, z.cell 2 rfl, z.cell 3 rfl, z.cell 4 rfl, z.cell 5 rfl⟩)
      have HG2 := Lib.hid hg2
      clear hx hpv hgg hbq c0 c1' c2 c3 c4 c5 hf hNs
      cases ho : passP p x with
      | none =>
        have HOO := Lib.hid ho
        have H1 : Hid (∀ W, Below wr.heap.size wr W → Calls Try.prog 57 #[prV p.k p.nm p.to p.h.pos B r s B' r' s', prV x.k x.nm x.to x.h.pos D m k D' m' k'] W (fun e u => e = .returned (.tuple #[.agg #[.int .i64 0, strV [], strV [], .int .i64 0, .slice none 0 0, .slice none 0 0], .agg #[.int .i64 0, strV [], strV [], .int .i64 0, .slice none 0 0, .slice none 0 0], .bool false]) ∧ Below W.heap.size W u)) := Lib.hid (fun W h =>
          (refPassE B r s B' r' s' D m k D' m' k' p x W (lt_len HPV.out HLP.out) (lt_len HI.out.pg HI.out.lt) (HVP.out.mv h) (HVX.out.mv h)).mono fun e u h => ⟨h.2.1 HOO.out, h.2.2⟩)
        clear ho
        go_upto_region 5 with fail
        have hss : ∀ W, Below wr.heap.size wr W → Below wr.heap.size wr W ∧ W.cell? ⟨g, i * 6, none⟩ = some (.int .i64 p.k) ∧ W.cell? ⟨g, i * 6 + 1, none⟩ = some (strV p.nm) ∧ W.cell? ⟨g, i * 6 + 2, none⟩ = some (strV p.to) ∧ W.cell? ⟨g, i * 6 + 3, none⟩ = some (.int .i64 p.h.pos) ∧ W.cell? ⟨g, i * 6 + 4, none⟩ = some (.slice B r s) ∧ W.cell? ⟨g, i * 6 + 5, none⟩ = some (.slice B' r' s') ∧ W.cell? ⟨gq, 0, none⟩ = some (.int .i64 x.k) ∧ W.cell? ⟨gq, 1, none⟩ = some (strV x.nm) ∧ W.cell? ⟨gq, 2, none⟩ = some (strV x.to) ∧ W.cell? ⟨gq, 3, none⟩ = some (.int .i64 x.h.pos) ∧ W.cell? ⟨gq, 4, none⟩ = some (.slice D m k) ∧ W.cell? ⟨gq, 5, none⟩ = some (.slice D' m' k') := fun W hb => ⟨hb, HC.out W hb⟩
        have HSS := Lib.hid hss
        have HKD := Lib.hid (hss wr.drew (Cut2.belD0 wr))
        have HKA : Hid (∀ W o, (Below wr.heap.size wr W ∧ W.cell? ⟨g, i * 6, none⟩ = some (.int .i64 p.k) ∧ W.cell? ⟨g, i * 6 + 1, none⟩ = some (strV p.nm) ∧ W.cell? ⟨g, i * 6 + 2, none⟩ = some (strV p.to) ∧ W.cell? ⟨g, i * 6 + 3, none⟩ = some (.int .i64 p.h.pos) ∧ W.cell? ⟨g, i * 6 + 4, none⟩ = some (.slice B r s) ∧ W.cell? ⟨g, i * 6 + 5, none⟩ = some (.slice B' r' s') ∧ W.cell? ⟨gq, 0, none⟩ = some (.int .i64 x.k) ∧ W.cell? ⟨gq, 1, none⟩ = some (strV x.nm) ∧ W.cell? ⟨gq, 2, none⟩ = some (strV x.to) ∧ W.cell? ⟨gq, 3, none⟩ = some (.int .i64 x.h.pos) ∧ W.cell? ⟨gq, 4, none⟩ = some (.slice D m k) ∧ W.cell? ⟨gq, 5, none⟩ = some (.slice D' m' k')) → Below wr.heap.size wr (W.alloc o) ∧ (W.alloc o).cell? ⟨g, i * 6, none⟩ = some (.int .i64 p.k) ∧ (W.alloc o).cell? ⟨g, i * 6 + 1, none⟩ = some (strV p.nm) ∧ (W.alloc o).cell? ⟨g, i * 6 + 2, none⟩ = some (strV p.to) ∧ (W.alloc o).cell? ⟨g, i * 6 + 3, none⟩ = some (.int .i64 p.h.pos) ∧ (W.alloc o).cell? ⟨g, i * 6 + 4, none⟩ = some (.slice B r s) ∧ (W.alloc o).cell? ⟨g, i * 6 + 5, none⟩ = some (.slice B' r' s') ∧ (W.alloc o).cell? ⟨gq, 0, none⟩ = some (.int .i64 x.k) ∧ (W.alloc o).cell? ⟨gq, 1, none⟩ = some (strV x.nm) ∧ (W.alloc o).cell? ⟨gq, 2, none⟩ = some (strV x.to) ∧ (W.alloc o).cell? ⟨gq, 3, none⟩ = some (.int .i64 x.h.pos) ∧ (W.alloc o).cell? ⟨gq, 4, none⟩ = some (.slice D m k) ∧ (W.alloc o).cell? ⟨gq, 5, none⟩ = some (.slice D' m' k')) := Lib.hid (fun W o h => hss _ (h.1.alloc h.1.size o))
        have HKS : Hid (∀ W T v0 v1 v2 v3 v4 v5, (Below wr.heap.size wr W ∧ W.cell? ⟨g, i * 6, none⟩ = some (.int .i64 p.k) ∧ W.cell? ⟨g, i * 6 + 1, none⟩ = some (strV p.nm) ∧ W.cell? ⟨g, i * 6 + 2, none⟩ = some (strV p.to) ∧ W.cell? ⟨g, i * 6 + 3, none⟩ = some (.int .i64 p.h.pos) ∧ W.cell? ⟨g, i * 6 + 4, none⟩ = some (.slice B r s) ∧ W.cell? ⟨g, i * 6 + 5, none⟩ = some (.slice B' r' s') ∧ W.cell? ⟨gq, 0, none⟩ = some (.int .i64 x.k) ∧ W.cell? ⟨gq, 1, none⟩ = some (strV x.nm) ∧ W.cell? ⟨gq, 2, none⟩ = some (strV x.to) ∧ W.cell? ⟨gq, 3, none⟩ = some (.int .i64 x.h.pos) ∧ W.cell? ⟨gq, 4, none⟩ = some (.slice D m k) ∧ W.cell? ⟨gq, 5, none⟩ = some (.slice D' m' k')) → wr.heap.size ≤ T → Below wr.heap.size wr ((((((W.setCell ⟨T, 0, none⟩ v0).setCell ⟨T, 1, none⟩ v1).setCell ⟨T, 2, none⟩ v2).setCell ⟨T, 3, none⟩ v3).setCell ⟨T, 4, none⟩ v4).setCell ⟨T, 5, none⟩ v5) ∧ ((((((W.setCell ⟨T, 0, none⟩ v0).setCell ⟨T, 1, none⟩ v1).setCell ⟨T, 2, none⟩ v2).setCell ⟨T, 3, none⟩ v3).setCell ⟨T, 4, none⟩ v4).setCell ⟨T, 5, none⟩ v5).cell? ⟨g, i * 6, none⟩ = some (.int .i64 p.k) ∧ ((((((W.setCell ⟨T, 0, none⟩ v0).setCell ⟨T, 1, none⟩ v1).setCell ⟨T, 2, none⟩ v2).setCell ⟨T, 3, none⟩ v3).setCell ⟨T, 4, none⟩ v4).setCell ⟨T, 5, none⟩ v5).cell? ⟨g, i * 6 + 1, none⟩ = some (strV p.nm) ∧ ((((((W.setCell ⟨T, 0, none⟩ v0).setCell ⟨T, 1, none⟩ v1).setCell ⟨T, 2, none⟩ v2).setCell ⟨T, 3, none⟩ v3).setCell ⟨T, 4, none⟩ v4).setCell ⟨T, 5, none⟩ v5).cell? ⟨g, i * 6 + 2, none⟩ = some (strV p.to) ∧ ((((((W.setCell ⟨T, 0, none⟩ v0).setCell ⟨T, 1, none⟩ v1).setCell ⟨T, 2, none⟩ v2).setCell ⟨T, 3, none⟩ v3).setCell ⟨T, 4, none⟩ v4).setCell ⟨T, 5, none⟩ v5).cell? ⟨g, i * 6 + 3, none⟩ = some (.int .i64 p.h.pos) ∧ ((((((W.setCell ⟨T, 0, none⟩ v0).setCell ⟨T, 1, none⟩ v1).setCell ⟨T, 2, none⟩ v2).setCell ⟨T, 3, none⟩ v3).setCell ⟨T, 4, none⟩ v4).setCell ⟨T, 5, none⟩ v5).cell? ⟨g, i * 6 + 4, none⟩ = some (.slice B r s) ∧ ((((((W.setCell ⟨T, 0, none⟩ v0).setCell ⟨T, 1, none⟩ v1).setCell ⟨T, 2, none⟩ v2).setCell ⟨T, 3, none⟩ v3).setCell ⟨T, 4, none⟩ v4).setCell ⟨T, 5, none⟩ v5).cell? ⟨g, i * 6 + 5, none⟩ = some (.slice B' r' s') ∧ ((((((W.setCell ⟨T, 0, none⟩ v0).setCell ⟨T, 1, none⟩ v1).setCell ⟨T, 2, none⟩ v2).setCell ⟨T, 3, none⟩ v3).setCell ⟨T, 4, none⟩ v4).setCell ⟨T, 5, none⟩ v5).cell? ⟨gq, 0, none⟩ = some (.int .i64 x.k) ∧ ((((((W.setCell ⟨T, 0, none⟩ v0).setCell ⟨T, 1, none⟩ v1).setCell ⟨T, 2, none⟩ v2).setCell ⟨T, 3, none⟩ v3).setCell ⟨T, 4, none⟩ v4).setCell ⟨T, 5, none⟩ v5).cell? ⟨gq, 1, none⟩ = some (strV x.nm) ∧ ((((((W.setCell ⟨T, 0, none⟩ v0).setCell ⟨T, 1, none⟩ v1).setCell ⟨T, 2, none⟩ v2).setCell ⟨T, 3, none⟩ v3).setCell ⟨T, 4, none⟩ v4).setCell ⟨T, 5, none⟩ v5).cell? ⟨gq, 2, none⟩ = some (strV x.to) ∧ ((((((W.setCell ⟨T, 0, none⟩ v0).setCell ⟨T, 1, none⟩ v1).setCell ⟨T, 2, none⟩ v2).setCell ⟨T, 3, none⟩ v3).setCell ⟨T, 4, none⟩ v4).setCell ⟨T, 5, none⟩ v5).cell? ⟨gq, 3, none⟩ = some (.int .i64 x.h.pos) ∧ ((((((W.setCell ⟨T, 0, none⟩ v0).setCell ⟨T, 1, none⟩ v1).setCell ⟨T, 2, none⟩ v2).setCell ⟨T, 3, none⟩ v3).setCell ⟨T, 4, none⟩ v4).setCell ⟨T, 5, none⟩ v5).cell? ⟨gq, 4, none⟩ = some (.slice D m k) ∧ ((((((W.setCell ⟨T, 0, none⟩ v0).setCell ⟨T, 1, none⟩ v1).setCell ⟨T, 2, none⟩ v2).setCell ⟨T, 3, none⟩ v3).setCell ⟨T, 4, none⟩ v4).setCell ⟨T, 5, none⟩ v5).cell? ⟨gq, 5, none⟩ = some (.slice D' m' k')) := Lib.hid (fun W T v0 v1 v2 v3 v4 v5 h hT => hss _ (Cut2.bel_set6 h.1 hT v0 v1 v2 v3 v4 v5))
        clear hss
        go_cut [9, 10, 11, 39, 40] from 17 (fun s9 s10 s11 s39 s40 wx => ∃ (T U : Nat), s9 = .pointer (some ⟨T, 0, none⟩) ∧ s10 = .pointer (some ⟨U, 0, none⟩) ∧ s11 = .bool false ∧ Cut2.Lay wr wx T U #[.int .i64 0, .string ⟨#[]⟩, .string ⟨#[]⟩, .int .i64 0, .slice none 0 0, .slice none 0 0] #[.int .i64 0, .string ⟨#[]⟩, .string ⟨#[]⟩, .int .i64 0, .slice none 0 0, .slice none 0 0] ∧ s39 = undef ∧ s40 = undef)
        case first =>
          obtain ⟨_, y0, y1, y2, y3, y4, y5, x0, x1, x2, x3, x4, x5⟩ := HSS.out wr (Below.refl _ _)
          go_region_held3 (fun W => Below wr.heap.size wr W ∧ W.cell? ⟨g, i * 6, none⟩ = some (.int .i64 p.k) ∧ W.cell? ⟨g, i * 6 + 1, none⟩ = some (strV p.nm) ∧ W.cell? ⟨g, i * 6 + 2, none⟩ = some (strV p.to) ∧ W.cell? ⟨g, i * 6 + 3, none⟩ = some (.int .i64 p.h.pos) ∧ W.cell? ⟨g, i * 6 + 4, none⟩ = some (.slice B r s) ∧ W.cell? ⟨g, i * 6 + 5, none⟩ = some (.slice B' r' s') ∧ W.cell? ⟨gq, 0, none⟩ = some (.int .i64 x.k) ∧ W.cell? ⟨gq, 1, none⟩ = some (strV x.nm) ∧ W.cell? ⟨gq, 2, none⟩ = some (strV x.to) ∧ W.cell? ⟨gq, 3, none⟩ = some (.int .i64 x.h.pos) ∧ W.cell? ⟨gq, 4, none⟩ = some (.slice D m k) ∧ W.cell? ⟨gq, 5, none⟩ = some (.slice D' m' k'))
            (first
              | (with_reducible exact HKD.out)
              | (with_reducible exact HSS.out _ (Cut2.belD1 wr _))
              | (with_reducible exact HSS.out _ (Cut2.belD2 wr _ _))
              | (with_reducible exact hS1)
              | (with_reducible exact HKA.out _ _ hS1)
              | (with_reducible exact HKA.out _ _ (HKA.out _ _ hS1))
              | (with_reducible exact HKS.out _ _ _ _ _ _ _ _ hS1 tlp)
              | (with_reducible exact HKS.out _ _ _ _ _ _ _ _ hS1 tlq)
              | (with_reducible exact HKA.out _ _ (HKS.out _ _ _ _ _ _ _ _ hS1 tlp))
              | (with_reducible exact HKS.out _ _ _ _ _ _ _ _ (HKS.out _ _ _ _ _ _ _ _ hS1 tlp) tlq)
              | (with_reducible exact HKS.out _ _ _ _ _ _ _ _ (HKS.out _ _ _ _ _ _ _ _ hS1 tlq) tlp))
            (first
              | (go_at_call 57; (with_reducible refine (H1.out (wr.drew) (Cut2.belD0 wr )).mono ?_); rintro e u1 ⟨rfl, hb⟩; have hbc := Cut2.thrD0 hb; have hS1 := HSS.out u1 hbc; have HU1 := Lib.hid hbc; have tl1 := HU1.out.size; clear hb hbc)
              | (go_at_call 57; (with_reducible refine (H1.out ((wr.alloc (.cells #[.int .i64 0, strV [], strV [], .int .i64 0, .slice none 0 0, .slice none 0 0] 43)).drew) (Cut2.belD1 wr (.cells #[.int .i64 0, strV [], strV [], .int .i64 0, .slice none 0 0, .slice none 0 0] 43))).mono ?_); rintro e u1 ⟨rfl, hb⟩; have hbc := Cut2.thrD1 hb; have zp := Cut2.newD1 hb; have tlp := Nat.le_refl wr.heap.size; have hS1 := HSS.out u1 hbc; have HU1 := Lib.hid hbc; have tl1 := HU1.out.size; have pp0 := zp.cell 0 (u := .int .i64 0) rfl; have ppf0 := zp.frozen 0; have pp1 := zp.cell 1 (u := strV []) rfl; have ppf1 := zp.frozen 1; have pp2 := zp.cell 2 (u := strV []) rfl; have ppf2 := zp.frozen 2; have pp3 := zp.cell 3 (u := .int .i64 0) rfl; have ppf3 := zp.frozen 3; have pp4 := zp.cell 4 (u := .slice none 0 0) rfl; have ppf4 := zp.frozen 4; have pp5 := zp.cell 5 (u := .slice none 0 0) rfl; have ppf5 := zp.frozen 5; have ppl := zp.lt; clear hb hbc)
              | (go_at_call 57; (with_reducible refine (H1.out (((wr.alloc (.cells #[.int .i64 0, strV [], strV [], .int .i64 0, .slice none 0 0, .slice none 0 0] 43)).alloc (.cells #[.int .i64 0, strV [], strV [], .int .i64 0, .slice none 0 0, .slice none 0 0] 43)).drew) (Cut2.belD2 wr (.cells #[.int .i64 0, strV [], strV [], .int .i64 0, .slice none 0 0, .slice none 0 0] 43) (.cells #[.int .i64 0, strV [], strV [], .int .i64 0, .slice none 0 0, .slice none 0 0] 43))).mono ?_); rintro e u1 ⟨rfl, hb⟩; have hbc := Cut2.thrD2 hb; obtain ⟨zp, zq⟩ := Cut2.newD2 hb; have tlp := Nat.le_refl wr.heap.size; have zpq := Nat.lt_succ_self wr.heap.size; have tlq := Nat.le_succ wr.heap.size; have hS1 := HSS.out u1 hbc; have HU1 := Lib.hid hbc; have tl1 := HU1.out.size; have pp0 := zp.cell 0 (u := .int .i64 0) rfl; have ppf0 := zp.frozen 0; have pp1 := zp.cell 1 (u := strV []) rfl; have ppf1 := zp.frozen 1; have pp2 := zp.cell 2 (u := strV []) rfl; have ppf2 := zp.frozen 2; have pp3 := zp.cell 3 (u := .int .i64 0) rfl; have ppf3 := zp.frozen 3; have pp4 := zp.cell 4 (u := .slice none 0 0) rfl; have ppf4 := zp.frozen 4; have pp5 := zp.cell 5 (u := .slice none 0 0) rfl; have ppf5 := zp.frozen 5; have ppl := zp.lt; have rr0 := zq.cell 0 (u := .int .i64 0) rfl; have rrf0 := zq.frozen 0; have rr1 := zq.cell 1 (u := strV []) rfl; have rrf1 := zq.frozen 1; have rr2 := zq.cell 2 (u := strV []) rfl; have rrf2 := zq.frozen 2; have rr3 := zq.cell 3 (u := .int .i64 0) rfl; have rrf3 := zq.frozen 3; have rr4 := zq.cell 4 (u := .slice none 0 0) rfl; have rrf4 := zq.frozen 4; have rr5 := zq.cell 5 (u := .slice none 0 0) rfl; have rrf5 := zq.frozen 5; have rrl := zq.lt; clear hb hbc))
          all_goals (try go_wp2_with fail)
          all_goals go_meet
          (with_reducible exact ⟨_, _, rfl, rfl, rfl, Cut2.lay_aa HU1.out, rfl, rfl⟩)
          (with_reducible exact ⟨_, _, rfl, rfl, rfl, (Cut2.lay_aa HU1.out).swap, rfl, rfl⟩)
          (with_reducible exact ⟨_, _, rfl, rfl, rfl, Cut2.lay_sa HU1.out zp tlp, rfl, rfl⟩)
          (with_reducible exact ⟨_, _, rfl, rfl, rfl, Cut2.lay_ss HU1.out zp zq (Nat.ne_of_lt zpq) tlp tlq, rfl, rfl⟩)
          (with_reducible exact ⟨_, _, rfl, rfl, rfl, (Cut2.lay_sa HU1.out zp tlp).swap, rfl, rfl⟩)
          (with_reducible exact ⟨_, _, rfl, rfl, rfl, Cut2.lay_ss HU1.out zq zp (Nat.ne_of_gt zpq) tlq tlp, rfl, rfl⟩)
        case rest =>
          obtain ⟨T, U, rfl, rfl, rfl, ⟨b_x, b_y, hlT, hlU, hb⟩, rfl, rfl⟩ := hcut
          clear HSS HKD HKA HKS H1
          have hB2 := HI.out.br.below hb HI.out.br.lt
          have hlt := hB2.lt
          have z0 := hB2.cell 0 rfl; have z1 := hB2.cell 1 rfl; have z2 := hB2.cell 2 rfl; have z3 := hB2.cell 3 rfl; have z4 := hB2.cell 4 rfl; have z5 := hB2.cell 5 rfl
          have f0 := hB2.frozen 0; have f1 := hB2.frozen 1; have f2 := hB2.frozen 2; have f3 := hB2.frozen 3; have f4 := hB2.frozen 4; have f5 := hB2.frozen 5
          have b6 := blk6 hB2 (.int .i64 0) (strV []) (strV []) (.int .i64 0) (.slice none 0 0) (.slice none 0 0)
          have hw9 := below_set6 (HBW.out.trans (hb.mono (Nat.le_of_lt HI.out.bq.lt))) (Nat.le_succ gq) (.int .i64 0) (strV []) (strV []) (.int .i64 0) (.slice none 0 0) (.slice none 0 0)
          clear hB2 b_x b_y hlT hlU HC HVP HVX HPV
          go_wp2_with fail
          generalize (World.setCell (World.setCell (World.setCell (World.setCell (World.setCell (World.setCell wc ⟨gq + 1, 0, none⟩ (.int .i64 0)) ⟨gq + 1, 1, none⟩ (strV [])) ⟨gq + 1, 2, none⟩ (strV [])) ⟨gq + 1, 3, none⟩ (.int .i64 0)) ⟨gq + 1, 4, none⟩ (.slice none 0 0)) ⟨gq + 1, 5, none⟩ (.slice none 0 0)) = W9 at *
          clear z0 z1 z2 z3 z4 z5 f0 f1 f2 f3 f4 f5 hlt
          have u0 := b6.cell 0 rfl; have u1 := b6.cell 1 rfl; have u2 := b6.cell 2 rfl; have u3 := b6.cell 3 rfl; have u4 := b6.cell 4 rfl; have u5 := b6.cell 5 rfl
          refine bodyPost_ret (v := .tuple #[.agg #[.int .i64 0, strV [], strV [], .int .i64 0, .slice none 0 0, .slice none 0 0], .slice none 0 0, .bool false]) (by simp [results, Try.results32, go_sem, u0, u1, u2, u3, u4, u5]) rfl ?_
          exact oneEnd_none (one_step_none passP HX.out HI.out.on HOO.out) (by rw [← HE.out]; exact hw9)
      | some z =>
        obtain ⟨x', y'⟩ := z
        have HOO := Lib.hid ho
        have H1 : Hid (∀ W, Below wr.heap.size wr W → Calls Try.prog 57 #[prV p.k p.nm p.to p.h.pos B r s B' r' s', prV x.k x.nm x.to x.h.pos D m k D' m' k'] W (fun e u => e = .returned (.tuple #[prV x'.k x'.nm x'.to x'.h.pos D m k D' m' k', prV y'.k y'.nm y'.to y'.h.pos B r s B' r' s', .bool true]) ∧ Below W.heap.size W u)) := Lib.hid (fun W h =>
          (refPassE B r s B' r' s' D m k D' m' k' p x W (lt_len HPV.out HLP.out) (lt_len HI.out.pg HI.out.lt) (HVP.out.mv h) (HVX.out.mv h)).mono fun e u h => ⟨h.1 (x', y') HOO.out, h.2.2⟩)
        clear ho
        go_upto_region 5 with fail
        have hss : ∀ W, Below wr.heap.size wr W → Below wr.heap.size wr W ∧ W.cell? ⟨g, i * 6, none⟩ = some (.int .i64 p.k) ∧ W.cell? ⟨g, i * 6 + 1, none⟩ = some (strV p.nm) ∧ W.cell? ⟨g, i * 6 + 2, none⟩ = some (strV p.to) ∧ W.cell? ⟨g, i * 6 + 3, none⟩ = some (.int .i64 p.h.pos) ∧ W.cell? ⟨g, i * 6 + 4, none⟩ = some (.slice B r s) ∧ W.cell? ⟨g, i * 6 + 5, none⟩ = some (.slice B' r' s') ∧ W.cell? ⟨gq, 0, none⟩ = some (.int .i64 x.k) ∧ W.cell? ⟨gq, 1, none⟩ = some (strV x.nm) ∧ W.cell? ⟨gq, 2, none⟩ = some (strV x.to) ∧ W.cell? ⟨gq, 3, none⟩ = some (.int .i64 x.h.pos) ∧ W.cell? ⟨gq, 4, none⟩ = some (.slice D m k) ∧ W.cell? ⟨gq, 5, none⟩ = some (.slice D' m' k') := fun W hb => ⟨hb, HC.out W hb⟩
        have HSS := Lib.hid hss
        have HKD := Lib.hid (hss wr.drew (Cut2.belD0 wr))
        have HKA : Hid (∀ W o, (Below wr.heap.size wr W ∧ W.cell? ⟨g, i * 6, none⟩ = some (.int .i64 p.k) ∧ W.cell? ⟨g, i * 6 + 1, none⟩ = some (strV p.nm) ∧ W.cell? ⟨g, i * 6 + 2, none⟩ = some (strV p.to) ∧ W.cell? ⟨g, i * 6 + 3, none⟩ = some (.int .i64 p.h.pos) ∧ W.cell? ⟨g, i * 6 + 4, none⟩ = some (.slice B r s) ∧ W.cell? ⟨g, i * 6 + 5, none⟩ = some (.slice B' r' s') ∧ W.cell? ⟨gq, 0, none⟩ = some (.int .i64 x.k) ∧ W.cell? ⟨gq, 1, none⟩ = some (strV x.nm) ∧ W.cell? ⟨gq, 2, none⟩ = some (strV x.to) ∧ W.cell? ⟨gq, 3, none⟩ = some (.int .i64 x.h.pos) ∧ W.cell? ⟨gq, 4, none⟩ = some (.slice D m k) ∧ W.cell? ⟨gq, 5, none⟩ = some (.slice D' m' k')) → Below wr.heap.size wr (W.alloc o) ∧ (W.alloc o).cell? ⟨g, i * 6, none⟩ = some (.int .i64 p.k) ∧ (W.alloc o).cell? ⟨g, i * 6 + 1, none⟩ = some (strV p.nm) ∧ (W.alloc o).cell? ⟨g, i * 6 + 2, none⟩ = some (strV p.to) ∧ (W.alloc o).cell? ⟨g, i * 6 + 3, none⟩ = some (.int .i64 p.h.pos) ∧ (W.alloc o).cell? ⟨g, i * 6 + 4, none⟩ = some (.slice B r s) ∧ (W.alloc o).cell? ⟨g, i * 6 + 5, none⟩ = some (.slice B' r' s') ∧ (W.alloc o).cell? ⟨gq, 0, none⟩ = some (.int .i64 x.k) ∧ (W.alloc o).cell? ⟨gq, 1, none⟩ = some (strV x.nm) ∧ (W.alloc o).cell? ⟨gq, 2, none⟩ = some (strV x.to) ∧ (W.alloc o).cell? ⟨gq, 3, none⟩ = some (.int .i64 x.h.pos) ∧ (W.alloc o).cell? ⟨gq, 4, none⟩ = some (.slice D m k) ∧ (W.alloc o).cell? ⟨gq, 5, none⟩ = some (.slice D' m' k')) := Lib.hid (fun W o h => hss _ (h.1.alloc h.1.size o))
        have HKS : Hid (∀ W T v0 v1 v2 v3 v4 v5, (Below wr.heap.size wr W ∧ W.cell? ⟨g, i * 6, none⟩ = some (.int .i64 p.k) ∧ W.cell? ⟨g, i * 6 + 1, none⟩ = some (strV p.nm) ∧ W.cell? ⟨g, i * 6 + 2, none⟩ = some (strV p.to) ∧ W.cell? ⟨g, i * 6 + 3, none⟩ = some (.int .i64 p.h.pos) ∧ W.cell? ⟨g, i * 6 + 4, none⟩ = some (.slice B r s) ∧ W.cell? ⟨g, i * 6 + 5, none⟩ = some (.slice B' r' s') ∧ W.cell? ⟨gq, 0, none⟩ = some (.int .i64 x.k) ∧ W.cell? ⟨gq, 1, none⟩ = some (strV x.nm) ∧ W.cell? ⟨gq, 2, none⟩ = some (strV x.to) ∧ W.cell? ⟨gq, 3, none⟩ = some (.int .i64 x.h.pos) ∧ W.cell? ⟨gq, 4, none⟩ = some (.slice D m k) ∧ W.cell? ⟨gq, 5, none⟩ = some (.slice D' m' k')) → wr.heap.size ≤ T → Below wr.heap.size wr ((((((W.setCell ⟨T, 0, none⟩ v0).setCell ⟨T, 1, none⟩ v1).setCell ⟨T, 2, none⟩ v2).setCell ⟨T, 3, none⟩ v3).setCell ⟨T, 4, none⟩ v4).setCell ⟨T, 5, none⟩ v5) ∧ ((((((W.setCell ⟨T, 0, none⟩ v0).setCell ⟨T, 1, none⟩ v1).setCell ⟨T, 2, none⟩ v2).setCell ⟨T, 3, none⟩ v3).setCell ⟨T, 4, none⟩ v4).setCell ⟨T, 5, none⟩ v5).cell? ⟨g, i * 6, none⟩ = some (.int .i64 p.k) ∧ ((((((W.setCell ⟨T, 0, none⟩ v0).setCell ⟨T, 1, none⟩ v1).setCell ⟨T, 2, none⟩ v2).setCell ⟨T, 3, none⟩ v3).setCell ⟨T, 4, none⟩ v4).setCell ⟨T, 5, none⟩ v5).cell? ⟨g, i * 6 + 1, none⟩ = some (strV p.nm) ∧ ((((((W.setCell ⟨T, 0, none⟩ v0).setCell ⟨T, 1, none⟩ v1).setCell ⟨T, 2, none⟩ v2).setCell ⟨T, 3, none⟩ v3).setCell ⟨T, 4, none⟩ v4).setCell ⟨T, 5, none⟩ v5).cell? ⟨g, i * 6 + 2, none⟩ = some (strV p.to) ∧ ((((((W.setCell ⟨T, 0, none⟩ v0).setCell ⟨T, 1, none⟩ v1).setCell ⟨T, 2, none⟩ v2).setCell ⟨T, 3, none⟩ v3).setCell ⟨T, 4, none⟩ v4).setCell ⟨T, 5, none⟩ v5).cell? ⟨g, i * 6 + 3, none⟩ = some (.int .i64 p.h.pos) ∧ ((((((W.setCell ⟨T, 0, none⟩ v0).setCell ⟨T, 1, none⟩ v1).setCell ⟨T, 2, none⟩ v2).setCell ⟨T, 3, none⟩ v3).setCell ⟨T, 4, none⟩ v4).setCell ⟨T, 5, none⟩ v5).cell? ⟨g, i * 6 + 4, none⟩ = some (.slice B r s) ∧ ((((((W.setCell ⟨T, 0, none⟩ v0).setCell ⟨T, 1, none⟩ v1).setCell ⟨T, 2, none⟩ v2).setCell ⟨T, 3, none⟩ v3).setCell ⟨T, 4, none⟩ v4).setCell ⟨T, 5, none⟩ v5).cell? ⟨g, i * 6 + 5, none⟩ = some (.slice B' r' s') ∧ ((((((W.setCell ⟨T, 0, none⟩ v0).setCell ⟨T, 1, none⟩ v1).setCell ⟨T, 2, none⟩ v2).setCell ⟨T, 3, none⟩ v3).setCell ⟨T, 4, none⟩ v4).setCell ⟨T, 5, none⟩ v5).cell? ⟨gq, 0, none⟩ = some (.int .i64 x.k) ∧ ((((((W.setCell ⟨T, 0, none⟩ v0).setCell ⟨T, 1, none⟩ v1).setCell ⟨T, 2, none⟩ v2).setCell ⟨T, 3, none⟩ v3).setCell ⟨T, 4, none⟩ v4).setCell ⟨T, 5, none⟩ v5).cell? ⟨gq, 1, none⟩ = some (strV x.nm) ∧ ((((((W.setCell ⟨T, 0, none⟩ v0).setCell ⟨T, 1, none⟩ v1).setCell ⟨T, 2, none⟩ v2).setCell ⟨T, 3, none⟩ v3).setCell ⟨T, 4, none⟩ v4).setCell ⟨T, 5, none⟩ v5).cell? ⟨gq, 2, none⟩ = some (strV x.to) ∧ ((((((W.setCell ⟨T, 0, none⟩ v0).setCell ⟨T, 1, none⟩ v1).setCell ⟨T, 2, none⟩ v2).setCell ⟨T, 3, none⟩ v3).setCell ⟨T, 4, none⟩ v4).setCell ⟨T, 5, none⟩ v5).cell? ⟨gq, 3, none⟩ = some (.int .i64 x.h.pos) ∧ ((((((W.setCell ⟨T, 0, none⟩ v0).setCell ⟨T, 1, none⟩ v1).setCell ⟨T, 2, none⟩ v2).setCell ⟨T, 3, none⟩ v3).setCell ⟨T, 4, none⟩ v4).setCell ⟨T, 5, none⟩ v5).cell? ⟨gq, 4, none⟩ = some (.slice D m k) ∧ ((((((W.setCell ⟨T, 0, none⟩ v0).setCell ⟨T, 1, none⟩ v1).setCell ⟨T, 2, none⟩ v2).setCell ⟨T, 3, none⟩ v3).setCell ⟨T, 4, none⟩ v4).setCell ⟨T, 5, none⟩ v5).cell? ⟨gq, 5, none⟩ = some (.slice D' m' k')) := Lib.hid (fun W T v0 v1 v2 v3 v4 v5 h hT => hss _ (Cut2.bel_set6 h.1 hT v0 v1 v2 v3 v4 v5))
        clear hss
        go_cut [9, 10, 11, 39, 40] from 17 (fun s9 s10 s11 s39 s40 wx => ∃ (T U : Nat), s9 = .pointer (some ⟨T, 0, none⟩) ∧ s10 = .pointer (some ⟨U, 0, none⟩) ∧ s11 = .bool true ∧ Cut2.Lay wr wx T U #[.int .i64 x'.k, strV x'.nm, strV x'.to, .int .i64 x'.h.pos, .slice D m k, .slice D' m' k'] #[.int .i64 y'.k, strV y'.nm, strV y'.to, .int .i64 y'.h.pos, .slice B r s, .slice B' r' s'] ∧ s39 = undef ∧ s40 = undef)
        case first =>
          obtain ⟨_, y0, y1, y2, y3, y4, y5, x0, x1, x2, x3, x4, x5⟩ := HSS.out wr (Below.refl _ _)
          go_region_held3 (fun W => Below wr.heap.size wr W ∧ W.cell? ⟨g, i * 6, none⟩ = some (.int .i64 p.k) ∧ W.cell? ⟨g, i * 6 + 1, none⟩ = some (strV p.nm) ∧ W.cell? ⟨g, i * 6 + 2, none⟩ = some (strV p.to) ∧ W.cell? ⟨g, i * 6 + 3, none⟩ = some (.int .i64 p.h.pos) ∧ W.cell? ⟨g, i * 6 + 4, none⟩ = some (.slice B r s) ∧ W.cell? ⟨g, i * 6 + 5, none⟩ = some (.slice B' r' s') ∧ W.cell? ⟨gq, 0, none⟩ = some (.int .i64 x.k) ∧ W.cell? ⟨gq, 1, none⟩ = some (strV x.nm) ∧ W.cell? ⟨gq, 2, none⟩ = some (strV x.to) ∧ W.cell? ⟨gq, 3, none⟩ = some (.int .i64 x.h.pos) ∧ W.cell? ⟨gq, 4, none⟩ = some (.slice D m k) ∧ W.cell? ⟨gq, 5, none⟩ = some (.slice D' m' k'))
            (first
              | (with_reducible exact HKD.out)
              | (with_reducible exact HSS.out _ (Cut2.belD1 wr _))
              | (with_reducible exact HSS.out _ (Cut2.belD2 wr _ _))
              | (with_reducible exact hS1)
              | (with_reducible exact HKA.out _ _ hS1)
              | (with_reducible exact HKA.out _ _ (HKA.out _ _ hS1))
              | (with_reducible exact HKS.out _ _ _ _ _ _ _ _ hS1 tlp)
              | (with_reducible exact HKS.out _ _ _ _ _ _ _ _ hS1 tlq)
              | (with_reducible exact HKA.out _ _ (HKS.out _ _ _ _ _ _ _ _ hS1 tlp))
              | (with_reducible exact HKS.out _ _ _ _ _ _ _ _ (HKS.out _ _ _ _ _ _ _ _ hS1 tlp) tlq)
              | (with_reducible exact HKS.out _ _ _ _ _ _ _ _ (HKS.out _ _ _ _ _ _ _ _ hS1 tlq) tlp))
            (first
              | (go_at_call 57; (with_reducible refine (H1.out (wr.drew) (Cut2.belD0 wr )).mono ?_); rintro e u1 ⟨rfl, hb⟩; have hbc := Cut2.thrD0 hb; have hS1 := HSS.out u1 hbc; have HU1 := Lib.hid hbc; have tl1 := HU1.out.size; clear hb hbc)
              | (go_at_call 57; (with_reducible refine (H1.out ((wr.alloc (.cells #[.int .i64 0, strV [], strV [], .int .i64 0, .slice none 0 0, .slice none 0 0] 43)).drew) (Cut2.belD1 wr (.cells #[.int .i64 0, strV [], strV [], .int .i64 0, .slice none 0 0, .slice none 0 0] 43))).mono ?_); rintro e u1 ⟨rfl, hb⟩; have hbc := Cut2.thrD1 hb; have zp := Cut2.newD1 hb; have tlp := Nat.le_refl wr.heap.size; have hS1 := HSS.out u1 hbc; have HU1 := Lib.hid hbc; have tl1 := HU1.out.size; have pp0 := zp.cell 0 (u := .int .i64 0) rfl; have ppf0 := zp.frozen 0; have pp1 := zp.cell 1 (u := strV []) rfl; have ppf1 := zp.frozen 1; have pp2 := zp.cell 2 (u := strV []) rfl; have ppf2 := zp.frozen 2; have pp3 := zp.cell 3 (u := .int .i64 0) rfl; have ppf3 := zp.frozen 3; have pp4 := zp.cell 4 (u := .slice none 0 0) rfl; have ppf4 := zp.frozen 4; have pp5 := zp.cell 5 (u := .slice none 0 0) rfl; have ppf5 := zp.frozen 5; have ppl := zp.lt; clear hb hbc)
              | (go_at_call 57; (with_reducible refine (H1.out (((wr.alloc (.cells #[.int .i64 0, strV [], strV [], .int .i64 0, .slice none 0 0, .slice none 0 0] 43)).alloc (.cells #[.int .i64 0, strV [], strV [], .int .i64 0, .slice none 0 0, .slice none 0 0] 43)).drew) (Cut2.belD2 wr (.cells #[.int .i64 0, strV [], strV [], .int .i64 0, .slice none 0 0, .slice none 0 0] 43) (.cells #[.int .i64 0, strV [], strV [], .int .i64 0, .slice none 0 0, .slice none 0 0] 43))).mono ?_); rintro e u1 ⟨rfl, hb⟩; have hbc := Cut2.thrD2 hb; obtain ⟨zp, zq⟩ := Cut2.newD2 hb; have tlp := Nat.le_refl wr.heap.size; have zpq := Nat.lt_succ_self wr.heap.size; have tlq := Nat.le_succ wr.heap.size; have hS1 := HSS.out u1 hbc; have HU1 := Lib.hid hbc; have tl1 := HU1.out.size; have pp0 := zp.cell 0 (u := .int .i64 0) rfl; have ppf0 := zp.frozen 0; have pp1 := zp.cell 1 (u := strV []) rfl; have ppf1 := zp.frozen 1; have pp2 := zp.cell 2 (u := strV []) rfl; have ppf2 := zp.frozen 2; have pp3 := zp.cell 3 (u := .int .i64 0) rfl; have ppf3 := zp.frozen 3; have pp4 := zp.cell 4 (u := .slice none 0 0) rfl; have ppf4 := zp.frozen 4; have pp5 := zp.cell 5 (u := .slice none 0 0) rfl; have ppf5 := zp.frozen 5; have ppl := zp.lt; have rr0 := zq.cell 0 (u := .int .i64 0) rfl; have rrf0 := zq.frozen 0; have rr1 := zq.cell 1 (u := strV []) rfl; have rrf1 := zq.frozen 1; have rr2 := zq.cell 2 (u := strV []) rfl; have rrf2 := zq.frozen 2; have rr3 := zq.cell 3 (u := .int .i64 0) rfl; have rrf3 := zq.frozen 3; have rr4 := zq.cell 4 (u := .slice none 0 0) rfl; have rrf4 := zq.frozen 4; have rr5 := zq.cell 5 (u := .slice none 0 0) rfl; have rrf5 := zq.frozen 5; have rrl := zq.lt; clear hb hbc))
          all_goals (try go_wp2_with fail)
          all_goals go_meet
          (with_reducible exact ⟨_, _, rfl, rfl, rfl, Cut2.lay_aa HU1.out, rfl, rfl⟩)
          (with_reducible exact ⟨_, _, rfl, rfl, rfl, (Cut2.lay_aa HU1.out).swap, rfl, rfl⟩)
          (with_reducible exact ⟨_, _, rfl, rfl, rfl, Cut2.lay_sa HU1.out zp tlp, rfl, rfl⟩)
          (with_reducible exact ⟨_, _, rfl, rfl, rfl, Cut2.lay_ss HU1.out zp zq (Nat.ne_of_lt zpq) tlp tlq, rfl, rfl⟩)
          (with_reducible exact ⟨_, _, rfl, rfl, rfl, (Cut2.lay_sa HU1.out zp tlp).swap, rfl, rfl⟩)
          (with_reducible exact ⟨_, _, rfl, rfl, rfl, Cut2.lay_ss HU1.out zq zp (Nat.ne_of_gt zpq) tlq tlp, rfl, rfl⟩)
        case rest =>
          obtain ⟨T, U, rfl, rfl, rfl, ⟨b_x, b_y, hlT, hlU, hb⟩, rfl, rfl⟩ := hcut
          clear HSS HKD HKA HKS H1
          have hB1 := HI.out.bq.below hb HI.out.bq.lt
          have hst := oneInv_step HI.out HN.out HX.out HOO.out HLP.out HNN.out hb HPV.out
          have hbs := below_row6 (below_set6 (HBW.out.trans (hb.mono (Nat.le_of_lt HI.out.bq.lt))) (Nat.le_refl gq) (.int .i64 x'.k) (strV x'.nm) (strV x'.to) (.int .i64 x'.h.pos) (.slice D m k) (.slice D' m' k')) (Nat.le_of_succ_le (Nat.le_of_succ_le HGG.out)) i (.int .i64 y'.k) (strV y'.nm) (strV y'.to) (.int .i64 y'.h.pos) (.slice B r s) (.slice B' r' s')
          have hrow := (HI.out.row.below hb).set6 (b := gq) (fun e => by injection e with e; have e : gq = g := e; have := HGG.out; omega) (by have := HNN.out; omega) (.int .i64 x'.k) (strV x'.nm) (strV x'.to) (.int .i64 x'.h.pos) (.slice D m k) (.slice D' m' k')
          have hby := blk_set6 b_y (show U ≠ gq by have := HI.out.bq.lt; omega) (.int .i64 x'.k) (strV x'.nm) (strV x'.to) (.int .i64 x'.h.pos) (.slice D m k) (.slice D' m' k')
          have HST := Lib.hid hst; have HBS := Lib.hid hbs; have HROW := Lib.hid hrow; have HBY := Lib.hid hby
          have z0 := hB1.cell 0 rfl; have z1 := hB1.cell 1 rfl; have z2 := hB1.cell 2 rfl; have z3 := hB1.cell 3 rfl; have z4 := hB1.cell 4 rfl; have z5 := hB1.cell 5 rfl
          have f0 := hB1.frozen 0; have f1 := hB1.frozen 1; have f2 := hB1.frozen 2; have f3 := hB1.frozen 3; have f4 := hB1.frozen 4; have f5 := hB1.frozen 5
          have v0 := b_x.cell 0 rfl; have v1 := b_x.cell 1 rfl; have v2 := b_x.cell 2 rfl; have v3 := b_x.cell 3 rfl; have v4 := b_x.cell 4 rfl; have v5 := b_x.cell 5 rfl
          have hlt := hB1.lt
          have hT1 := b_x.lt
          clear hst hbs hrow hby hB1 b_x b_y HC HVP HVX HPV
          go_upto_region 9 with fail
          generalize (World.setCell (World.setCell (World.setCell (World.setCell (World.setCell (World.setCell wc ⟨gq, 0, none⟩ (.int .i64 x'.k)) ⟨gq, 1, none⟩ (strV x'.nm)) ⟨gq, 2, none⟩ (strV x'.to)) ⟨gq, 3, none⟩ (.int .i64 x'.h.pos)) ⟨gq, 4, none⟩ (.slice D m k)) ⟨gq, 5, none⟩ (.slice D' m' k')) = W9 at *
          clear z0 z1 z2 z3 z4 z5 f0 f1 f2 f3 f4 f5 v0 v1 v2 v3 v4 v5 hlt hT1
          obtain ⟨B9, r9, s9, D9, m9, d9, q0, q1, q2, q3, q4, q5, hf9, _⟩ := HROW.out.elem (HI.out.len HN.out hj) (at_mid HX.out)
          have hby := HBY.out
          have v0 := hby.cell 0 rfl; have v1 := hby.cell 1 rfl; have v2 := hby.cell 2 rfl; have v3 := hby.cell 3 rfl; have v4 := hby.cell 4 rfl; have v5 := hby.cell 5 rfl
          have f0 := hf9 (i * 6); have f1 := hf9 (i * 6 + 1); have f2 := hf9 (i * 6 + 2); have f3 := hf9 (i * 6 + 3); have f4 := hf9 (i * 6 + 4); have f5 := hf9 (i * 6 + 5)
          clear hf9 hby
          go_wp2_with fail
          go_roundw
          case rel => exact ⟨i, x', y' :: post, by omega, rfl, HST.out, HBS.out⟩
          case measure => simp [intOf]

theorem rdP_src {W : World} {N n : Nat} {A : Option Addr} {l : List Ch} (h : SrcN W N A l) (hN : N ≤ W.heap.size) : RdP W (· < W.heap.size) A l := by
  obtain ⟨ys, h1, h2, h3⟩ := h
  rcases h3 with rfl | ⟨a, rfl, hc⟩
  · exact .inl (List.eq_nil_of_length_eq_zero (by simp at h1; omega))
  · by_cases h0 : l = []
    · exact .inl h0
    have hl : 0 < l.length := List.length_pos_iff.2 h0
    have hy0 : ∃ u, ys[0]? = some u := ⟨_, List.getElem?_eq_getElem (by omega)⟩
    obtain ⟨u, hu⟩ := hy0
    have hb := World.block_lt_of_cell? W _ (hc 0 u hu)
    rw [add_block] at hb
    refine .inr ⟨a, rfl, hb, fun k x hx => ?_⟩
    obtain ⟨B, r, s, D, m, d, g0, g1, g2, g3, g4, g5, g6⟩ := h2 k x hx
    refine ⟨hc _ _ g0, ?_, ?_, ?_, B, r, s, D, m, d, ?_, ?_, g6.mono fun b hb => Nat.lt_of_lt_of_le hb hN⟩
    · rw [add_off _ _ _ (by decide)]; exact hc _ _ g1
    · rw [add_off _ _ _ (by decide)]; exact hc _ _ g2
    · rw [add_off _ _ _ (by decide)]; exact hc _ _ g3
    · rw [add_off _ _ _ (by decide)]; exact hc _ _ g4
    · rw [add_off _ _ _ (by decide)]; exact hc _ _ g5

/-- Between two rounds of Pass. -/
structure RefPInv (W : World) (N : Nat) (A1 A3 : Option Addr) (n c1 k c3 : Nat) (a b x cur : List Ch) : Prop where
  eq : passF a (b.take k) = some (x, cur)
  src : SrcN W N A1 cur
  row : OwnN W N N (.slice A3 k c3) x
  lt : Lt cur
  len : cur.length = n
  lenx : x.length = k

set_option maxRecDepth 100000 in
set_option maxHeartbeats 8000000 in
theorem refPassL (A : Option Addr) (n c : Nat) (A' : Option Addr) (n' c' : Nat) (a b x y : List Ch) (w : World) (bo : Bool) (hn : a.length = n) (hn' : b.length = n') (hle : n ≤ 1000) (hle' : n' ≤ 1000) (ha : Lt a) (hb : Lt b)
    (hR : RdP w (· < w.heap.size) A a) (hR' : RdP w (· < w.heap.size) A' b) (ho : outF (passF a b) = (x, y)) (hs : (passF a b).isSome = bo) :
    Calls Try.prog 14 #[.slice A n c, .slice A' n' c'] w (LPassEnd w x y bo) := by
  have HR' := Lib.hid hR'; have HN := Lib.hid hn; have HN' := Lib.hid hn'; have HB := Lib.hid hb; have HO := Lib.hid ho; have HS := Lib.hid hs
  have HST : Hid (RefPInv w w.heap.size A none n c 0 0 a b [] a) := Lib.hid ⟨by rw [List.take_zero]; exact passL_nil _ _, srcN_rd hR, ownN_nil _ _ _, ha, hn, rfl⟩
  clear hR hR' hn hn' ha hb ho hs
  go_enter Try.func14, Try.ntmps14
  go_wp2
  go_loopw [0, 7, 8] (fun v0 v7 i wr => ∃ (k : Nat) (x1 cur : List Ch) (A1 A3 : Option Addr) (c1 c3 : Nat), k ≤ n' ∧ i = .int .i64 (k : Int) ∧ v0 = .slice A1 n c1 ∧ v7 = .slice A3 k c3 ∧ RefPInv wr w.heap.size A1 A3 n c1 k c3 a b x1 cur ∧ Below w.heap.size w wr) (fun _ _ i _ => n' - (intOf i).toNat)
  case atStart => exact ⟨0, [], a, A, none, c, 0, Nat.zero_le _, rfl, rfl, rfl, HST.out, Below.refl _ _⟩
  case round =>
    clear HST
    obtain ⟨k, x1, cur, A1, A3, c1, c3, hk, rfl, rfl, rfl, hI, hbw⟩ := hrel
    have HBW := Lib.hid hbw; have HI := Lib.hid hI
    clear hbw hI
    by_cases hlt : k < n'
    · have hki : (k : Int) < (n' : Int) := by omega
      obtain ⟨aa, q, D, m, f, D', m', f', rfl, hS, hx, g0, g1, g2, g3, g4, g5, g6⟩ := ((HR'.out.below HBW.out).elem (k := k) (by rw [HN'.out]; exact hlt))
      have HX := Lib.hid hx; have HPG := Lib.hid g6; have HLQ := Lib.hid (HB.out q (List.mem_of_getElem? hx))
      clear hx g6 hS
      go_wp2_with fail
      refine (refOne w.heap.size A1 n c1 D m f D' m' f' cur q wr HI.out.len hle HBW.out.size HI.out.lt HLQ.out HI.out.src HPG.out).mono ?_
      rintro e w2 ⟨h1, h2, hb2⟩
      clear g0 g1 g2 g3 g4 g5
      cases hon : one passP cur q with
      | none =>
        obtain rfl := h2 hon
        have HE := Lib.hid (passL_step_none passP HI.out.eq HX.out hon)
        have HBW2 := Lib.hid (below_mv HBW.out hb2)
        clear h1 h2 hon hb2
        go_wp2
        go_ret3
        exact lpass_none HE.out HO.out HS.out (HBW2.out.alloc HBW2.out.size _)
      | some z =>
        obtain ⟨q1, a1⟩ := z
        obtain ⟨v, rfl, hrow, hpg⟩ := h1 _ hon
        obtain ⟨A4, c4, hv, _⟩ := ownS_slice hrow
        have hl1 : a1.length = n := by rw [one_len passP hon]; exact HI.out.len
        dsimp only at hrow hpg hv
        rw [hl1] at hv
        subst hv
        have hbA := two_box w2 (.cells #[.int .i64 q1.k, strV q1.nm, strV q1.to, .int .i64 q1.h.pos, .slice D m f, .slice D' m' f'] 43) (.cells #[.int .i64 q1.k, strV q1.nm, strV q1.to, .int .i64 q1.h.pos, .slice D m f, .slice D' m' f'] 43)
        have b3 := Blk.new (w2.alloc (.cells #[.int .i64 q1.k, strV q1.nm, strV q1.to, .int .i64 q1.h.pos, .slice D m f, .slice D' m' f'] 43)) 43 #[.int .i64 q1.k, strV q1.nm, strV q1.to, .int .i64 q1.h.pos, .slice D m f, .slice D' m' f']
        rw [World.size_alloc] at b3
        have hN2 : w.heap.size ≤ w2.heap.size := (below_mv HBW.out hb2).size
        have HRW := Lib.hid (hrow.below hbA)
        have HPC := Lib.hid (PCells.one (hpg.to_ (alike_below (hbA.mono hN2))))
        have HOX := Lib.hid ((HI.out.row.below hb2).below hbA)
        have hb3 := below_mv hb2 hbA
        have HB3 := Lib.hid b3; have HBW3 := Lib.hid (below_mv HBW.out hb3)
        have HEQ := Lib.hid (passL_step passP HI.out.eq HX.out hon)
        have HL1 := Lib.hid hl1
        have HLT := Lib.hid (one_lt hon HI.out.lt HLQ.out).2
        have HRLT := Lib.hid (fun g (hg : (Value.slice A3 k c3).ownBlock = some g) => ownS_lt HI.out.row g hg)
        have hkl : x1.length ≤ 1000 := by rw [HI.out.lenx]; omega
        have HXL := Lib.hid HI.out.lenx
        clear h1 h2 hon hb2 hb3 hrow hpg hl1 hbA b3 hN2
        go_wp2_with (at_builtin; refine wpList_ownN rfl (.tmp 30) (.tmp 32) rfl w.heap.size w.heap.size 1 1 (.slice A3 k c3) (some ⟨w2.heap.size + 1, 0, none⟩) x1 [q1] _ rfl rfl HOX.out HPC.out rfl (.inr ⟨_, rfl, one_srcP HB3.out⟩) rfl (by omega) (Nat.le_refl _) HBW3.out.size ?_; intro v' W' ho' hg')
        obtain ⟨A5, c5, hv5, _⟩ := ownS_slice ho'
        rw [List.length_append, HXL.out] at hv5
        subst hv5
        have hrow' := HRW.out.gr hg' (fun g hg e => by have h1 := HRLT.out g e; have h2 := ownS_ge HRW.out g hg; omega) (fun b hb e => by have h2 := ownS_ge HOX.out b e; omega)
        refine ⟨⟨k + 1, x1 ++ [q1], a1, A4, A5, c4, c5, by omega, by go_num, rfl, rfl, ⟨HEQ.out, srcN_own hrow', ho', HLT.out, HL1.out, by rw [List.length_append, HXL.out]; rfl⟩, HBW3.out.grown hg' HBW3.out.size (fun g e => ownS_ge HOX.out g e)⟩, by simp [intOf]; omega⟩
    · have hkn : k = n' := by omega
      subst hkn
      have HE : Hid (passF a b = some (x1, cur)) := Lib.hid (by have := HI.out.eq; rw [List.take_of_length_le (by rw [HN'.out]; exact Nat.le_refl _)] at this; exact this)
      go_wp2
      go_ret3
      exact lpass_some HE.out HO.out HS.out HI.out.lenx HI.out.len (rdP_of_own HI.out.row (fun b hb => Nat.lt_of_lt_of_le hb HBW.out.size) HI.out.lenx) (rdP_src (n := n) HI.out.src HBW.out.size) HBW.out


end Fl
end Go.Proofs.Yteiidklmlelabaa
