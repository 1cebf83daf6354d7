/-
  What package tidy's own returns (walk): the same changes, in a row of one's own, with lines of their own.
-/
import Derived.Test.YteiidklmlelabaaTdWords
import Derived.Test.YteiidklmlelabaaFlMine
set_option maxRecDepth 100000
namespace Go.Proofs.Yteiidklmlelabaa
open Go.RowKit
set_option linter.unusedVariables false
set_option linter.unusedSimpArgs false
namespace Td
open Tx Df Sq Hk Tr Pr Fl

/-- A row of changes, the first k of them with lines of their own, and of the next one those that are gone. -/
def OwnK4 (w W : World) (v : Value) (l : List Ch) (k : Nat) (u : Value) : Prop := ∃ xs, W.ownsRow w.heap.size 43 6 v l.length xs ∧ PCells W (Fresh w W v.ownBlock) (l.take k) xs ∧ PCells W (Out W v.ownBlock) l xs ∧ xs[k * 6 + 4]? = some u
section
variable {w W W' : World} {v u : Value} {l : List Ch} {k : Nat}
theorem OwnK4.below (h : OwnK4 w W v l k u) (hb : Below W.heap.size W W') : OwnK4 w W' v l k u := by
  obtain ⟨xs, h1, h2, h3, h4⟩ := h
  exact ⟨xs, own_gr h1 (below_gr_row hb), (h2.to (fun b _ hl => hb.block b hl)).mono (fresh_up hb.size), (h3.to (fun b _ hl => hb.block b hl)).mono (out_up hb.size), h4⟩
theorem OwnK4.own (h : OwnK4 w W v l k u) : OwnP W w.heap.size v l := by
  obtain ⟨xs, h1, h2, h3, _⟩ := h
  exact ⟨xs, h1, h3⟩
theorem cellsAt_ne {S : Nat → Prop} {xs : List Value} {p i : Nat} {y : Ch} {z : Value} (h : CellsAt W S xs p y) (hi : ∀ b, b < 6 → p * 6 + b ≠ i) : CellsAt W S (xs.set i z) p y := by
  obtain ⟨A, n, c, B, m, d, h0, h1, h2, h3, h4, h5, h6⟩ := h
  have key : ∀ b, b < 6 → (xs.set i z)[p * 6 + b]? = xs[p * 6 + b]? := fun b hb => List.getElem?_set_ne (fun e => hi b hb e.symm)
  exact ⟨A, n, c, B, m, d, (key 0 (by decide)).trans h0, (key 1 (by decide)).trans h1, (key 2 (by decide)).trans h2, (key 3 (by decide)).trans h3, (key 4 (by decide)).trans h4, (key 5 (by decide)).trans h5, h6⟩
theorem OwnK.step4 {g n cap : Nat} {x : Ch} {D : Option Addr} {m d : Nat} (h : OwnK w W (.slice (some ⟨g, 0, none⟩) n cap) l k) (hx : l[k]? = some x) (hm : x.h.old.length = m) (hd : m ≤ d) (hr : RdG W (Fresh w W (some g)) D (x.h.old.map strV)) :
    OwnK4 w (W.setCell ⟨g, k * 6 + 4, none⟩ (.slice D m d)) (.slice (some ⟨g, 0, none⟩) n cap) l k (.slice D m d) := by
  obtain ⟨xs, hr0, h2, h3⟩ := h
  have hn : l.length = n := by
    rcases hr0.2 with ⟨h0, _⟩ | ⟨g', cap', cur, h0, _⟩
    · cases h0
    · injection h0 with _ h0; exact h0.symm
  subst hn
  have hk : k < l.length := (List.getElem?_eq_some_iff.1 hx).1
  have hxl := hr0.1
  obtain ⟨r1, g1⟩ := hr0.stored (k * 6 + 4) (.slice D m d)
  have al : ∀ (S : Nat → Prop), (∀ b, S b → b ≠ g) → Fl.Alike S W (W.setCell ⟨g, k * 6 + 4, none⟩ (.slice D m d)) := fun S hS => (alike_set W g _ _).mono hS
  have sz : W.heap.size ≤ (W.setCell ⟨g, k * 6 + 4, none⟩ (.slice D m d)).heap.size := by simp
  refine ⟨_, r1, ?_, ?_, by rw [List.getElem?_set_self (by omega)]⟩
  · refine (PCells.to (W := W) (S := Fresh w W (some g)) (fun p y hy' => ?_) (al _ fun b hb e => hb.2.2 (by rw [e]))).mono (fresh_up sz)
    have hp : p < k := by
      have := (List.getElem?_eq_some_iff.1 hy').1
      rw [List.length_take] at this
      omega
    exact cellsAt_ne (h2 p y hy') (fun b hb => by omega)
  · refine (PCells.to (W := W) (S := Out W (some g)) (fun p y hy' => ?_) (al _ fun b hb e => hb.2 (by rw [e]))).mono (out_up sz)
    by_cases e : p = k
    · subst e
      rw [hx] at hy'
      injection hy' with hy'
      subst hy'
      obtain ⟨A, n, c, B, m', d', q0, q1, q2, q3, q4, q5, q6⟩ := h3 p x hx
      refine ⟨D, m, d, B, m', d', ?_, ?_, ?_, ?_, ?_, ?_, ⟨hm, q6.l', hd, q6.k', by have h1 := q6.mm; have h2 := q6.l; omega, q6.mm', hr.mono fresh_out, q6.r', q6.pp, q6.kk, q6.nm, q6.to, q6.s, q6.s'⟩⟩
      · rw [List.getElem?_set_ne (by omega)]; exact q0
      · rw [List.getElem?_set_ne (by omega)]; exact q1
      · rw [List.getElem?_set_ne (by omega)]; exact q2
      · rw [List.getElem?_set_ne (by omega)]; exact q3
      · rw [List.getElem?_set_self (by omega)]
      · rw [List.getElem?_set_ne (by omega)]; exact q5
    · exact cellsAt_ne (h3 p y hy') (fun b hb => by omega)
theorem OwnK4.step5 {g n cap : Nat} {x : Ch} {D D' : Option Addr} {m d m' d' : Nat} (h : OwnK4 w W (.slice (some ⟨g, 0, none⟩) n cap) l k (.slice D m d)) (hx : l[k]? = some x) (hy : PG W (Fresh w W (some g)) D m d D' m' d' x) :
    OwnK w (W.setCell ⟨g, k * 6 + 5, none⟩ (.slice D' m' d')) (.slice (some ⟨g, 0, none⟩) n cap) l (k + 1) := by
  obtain ⟨xs, hr0, h2, h3, h4⟩ := h
  have hn : l.length = n := by
    rcases hr0.2 with ⟨h0, _⟩ | ⟨g', cap', cur, h0, _⟩
    · cases h0
    · injection h0 with _ h0; exact h0.symm
  subst hn
  have hk : k < l.length := (List.getElem?_eq_some_iff.1 hx).1
  have hxl := hr0.1
  obtain ⟨r1, g1⟩ := hr0.stored (k * 6 + 5) (.slice D' m' d')
  have al : ∀ (S : Nat → Prop), (∀ b, S b → b ≠ g) → Fl.Alike S W (W.setCell ⟨g, k * 6 + 5, none⟩ (.slice D' m' d')) := fun S hS => (alike_set W g _ _).mono hS
  have sz : W.heap.size ≤ (W.setCell ⟨g, k * 6 + 5, none⟩ (.slice D' m' d')).heap.size := by simp
  have new : ∀ S : Nat → Prop, PG W S D m d D' m' d' x → CellsAt W S (xs.set (k * 6 + 5) (.slice D' m' d')) k x := fun S hS => by
    obtain ⟨A, n, c, B, m1, d1, q0, q1, q2, q3, q4, q5, q6⟩ := h3 k x hx
    refine ⟨D, m, d, D', m', d', ?_, ?_, ?_, ?_, ?_, ?_, hS⟩
    · rw [List.getElem?_set_ne (by omega)]; exact q0
    · rw [List.getElem?_set_ne (by omega)]; exact q1
    · rw [List.getElem?_set_ne (by omega)]; exact q2
    · rw [List.getElem?_set_ne (by omega)]; exact q3
    · rw [List.getElem?_set_ne (by omega)]; exact h4
    · rw [List.getElem?_set_self (by omega)]
  refine ⟨_, r1, ?_, ?_⟩
  · refine (PCells.to (W := W) (S := Fresh w W (some g)) (fun p y hy' => ?_) (al _ fun b hb e => hb.2.2 (by rw [e]))).mono (fresh_up sz)
    have hp : p < k + 1 := by
      have := (List.getElem?_eq_some_iff.1 hy').1
      rw [List.length_take] at this
      omega
    rw [List.getElem?_take, if_pos hp] at hy'
    by_cases e : p = k
    · subst e
      rw [hx] at hy'
      injection hy' with hy'
      subst hy'
      exact new _ hy
    · exact cellsAt_ne (h2 p y (by rw [List.getElem?_take, if_pos (by omega)]; exact hy')) (fun b hb => by omega)
  · refine (PCells.to (W := W) (S := Out W (some g)) (fun p y hy' => ?_) (al _ fun b hb e => hb.2 (by rw [e]))).mono (out_up sz)
    by_cases e : p = k
    · subst e
      rw [hx] at hy'
      injection hy' with hy'
      subst hy'
      exact new _ (hy.mono fresh_out)
    · exact cellsAt_ne (h3 p y hy') (fun b hb => by omega)
end

set_option maxRecDepth 100000 in
set_option maxHeartbeats 4000000 in
theorem own (A : Option Addr) (n c : Nat) (l : List Ch) (w : World) (hn : l.length = n) (hle : n ≤ 1000) (hl : Lt l) (hR : RdP w (· < w.heap.size) A l) :
    Calls Try.prog 40 #[.slice A n c] w (MineEnd w n l) := by
  obtain ⟨j0, hj, hy0, hy1, hy2⟩ := info_parts info_str
  have HR := Lib.hid hR; have HN := Lib.hid hn; have HL := Lib.hid hl
  clear hR hn hl
  go_enter Try.func40, Try.ntmps40
  go_wp2_with (at_builtin; refine wpList_ownPL rfl (.const (.slice none 0 0)) (.tmp 6) rfl w.heap.size w.heap.size n c (.slice none 0 0) A [] l rfl rfl (ownP_nil _ _) HR.out (Nat.le_refl _) HN.out (by simp; omega) (Nat.le_refl _) ?_; intro v w1 ho hg; have HO := Lib.hid (show OwnP w1 w.heap.size v l from ho); have HB := Lib.hid ((Below.refl w.heap.size w).grown hg (Nat.le_refl _) (fun k e => by cases e)); clear ho hg; obtain ⟨A1, c1, hv1, hc1⟩ : ∃ A1 c1, v = .slice A1 n c1 ∧ n ≤ c1 := (rdP_own HO.out).elim fun A1 h => h.elim fun c1 h => ⟨A1, c1, by rw [← HN.out]; exact h.1, by rw [← HN.out]; exact h.2.1⟩; subst hv1)
  clear HR
  go_loopw [10] (fun i wr => ∃ k : Nat, k ≤ n ∧ i = .int .i64 (k : Int) ∧ OwnK w wr (.slice A1 n c1) l k ∧ Below w.heap.size w wr) (fun i _ => n - (intOf i).toNat)
  case atStart => exact ⟨0, Nat.zero_le _, rfl, ownK_start HO.out, HB.out⟩
  case round =>
    clear HO HB
    obtain ⟨k, hk, rfl, ho, hb⟩ := hrel
    have HB := Lib.hid hb; have HO := Lib.hid ho
    clear hb ho
    by_cases hlt : k < n
    · obtain ⟨g, cap, e, hg1, hg2⟩ : ∃ g cap, Value.slice A1 n c1 = .slice (some ⟨g, 0, none⟩) n cap ∧ w.heap.size ≤ g ∧ g < wr.heap.size := by
        obtain ⟨xs, hr, _⟩ := HO.out
        rcases hr.2 with ⟨_, h1⟩ | ⟨g, cap, cur, e, hbg, hgb, hc, _⟩
        · have := HN.out; omega
        · injection e with e1 e2 e3
          subst e1 e3
          exact ⟨g, c1, rfl, hbg, (Array.getElem?_eq_some_iff.1 hgb).1⟩
      injection e with e1 e2 e3
      subst e1 e3
      clear e2
      have hki : (k : Int) < (n : Int) := by omega
      obtain ⟨x, hx⟩ : ∃ x, l[k]? = some x := ⟨_, List.getElem?_eq_getElem (by rw [HN.out]; exact hlt)⟩
      obtain ⟨B, i, j, D, m, d, c0, c1', c2, c3, c4, c5, hf, hp⟩ := OwnS.elem HO.out.own HN.out hx
      have HX := Lib.hid hx
      have HLX := Lib.hid (lt_len hp (HL.out x (List.mem_of_getElem? hx)))
      have HBX := Lib.hid (Blk.new wr 43 #[.int .i64 x.k, strV x.nm, strV x.to, .int .i64 x.h.pos, .slice B i j, .slice D m d])
      have hba : Below wr.heap.size wr (wr.alloc (.cells #[.int .i64 x.k, strV x.nm, strV x.to, .int .i64 x.h.pos, .slice B i j, .slice D m d] 43)) := (Below.refl _ _).alloc (Nat.le_refl _) _
      have HPG : Hid (PG (wr.alloc (.cells #[.int .i64 x.k, strV x.nm, strV x.to, .int .i64 x.h.pos, .slice B i j, .slice D m d] 43)) (Out (wr.alloc (.cells #[.int .i64 x.k, strV x.nm, strV x.to, .int .i64 x.h.pos, .slice B i j, .slice D m d] 43)) (some g)) B i j D m d x) := Lib.hid ((hp.to_ (fun b _ hl => hba.block b hl)).mono (out_up hba.size))
      have HOW := Lib.hid (HO.out.below hba); have HBW := Lib.hid (HB.out.trans (hba.mono HB.out.size))
      have hsz : (wr.alloc (.cells #[.int .i64 x.k, strV x.nm, strV x.to, .int .i64 x.h.pos, .slice B i j, .slice D m d] 43)).heap.size = wr.heap.size + 1 := by simp
      have HSZ := Lib.hid hsz
      clear hba hsz HO HB hx hf hp
      go_upto_region 5 with fail
      clear c0 c1' c2 c3 c4 c5
      generalize (wr.alloc (.cells #[.int .i64 x.k, strV x.nm, strV x.to, .int .i64 x.h.pos, .slice B i j, .slice D m d] 43)) = W at *
      obtain ⟨z, hz⟩ : ∃ z, wr.heap.size = z := ⟨_, rfl⟩
      rw [hz] at HBX HSZ hg2 ⊢
      clear hz
      have hi1 := HLX.out.1
      have hm1 := HLX.out.2
      have HGZ := Lib.hid (show z ≠ g by omega)
      have HGL := Lib.hid (And.intro hg1 hg2)
      clear hg1 hg2
      have z4 : W.cell? ⟨z, 4, none⟩ = some (.slice B i j) := HBX.out.cell 4 rfl
      go_upto_region 6 with (at_builtin; refine wpList_nil' rfl (.const (.slice none 0 0)) (.tmp 19) 39 rfl 9 j0 (.string ⟨#[]⟩) 16 Try.underlying39 hj hy0 hy1 hy2 rfl rfl W.heap.size B i j (x.h.old.map strV) rfl (by rw [List.length_map]; exact HPG.out.l) (HPG.out.r.mono fun b hb => hb.1) (strs_one _) (by unfold maxLen; omega) (by omega) ?_; intro D5 d5 w5 hA5 hg5; have HA5 := Lib.hid hA5; have HG5 := Lib.hid hg5; have HO5 := Lib.hid (HOW.out.below (below_gr hg5)); clear hA5 hg5; obtain ⟨_, _, _, _, _, _, _, _, _, _, q4, _, qf, _⟩ := OwnS.elem HO5.out.own HN.out HX.out; have f4 := qf (k * 6 + 4); clear qf)
      clear z4 q4 f4
      obtain ⟨A5, p5, e5, hc5, hr5⟩ := rd_of_own HA5.out
      injection e5 with e51 e52 e53
      subst e51 e53
      have hb5 := below_gr HG5.out
      have hgl := HGL.out
      have hw5 := hb5.size
      have pg5 := (HPG.out.to_ (fun b _ hl => hb5.block b hl)).mono (out_up hb5.size)
      have r5 : RdG w5 (Fresh w w5 (some g)) D5 (x.h.old.map strV) := (rdG_hi hr5 (hi_own HA5.out)).mono fun b hb => by
        have h1 : W.heap.size ≤ b := hb.1
        have h2 : b < w5.heap.size := hb.2
        have h3 := HSZ.out
        exact ⟨by omega, by omega, fun e => by injection e with e; omega⟩
      have HO6 := Lib.hid (OwnK.step4 HO5.out HX.out HPG.out.l hc5 r5)
      have al6 := alike_set w5 g (k * 6 + 4) (.slice D5 i d5)
      have HPG6 : Hid (PG (w5.setCell ⟨g, k * 6 + 4, none⟩ (.slice D5 i d5)) (Out (w5.setCell ⟨g, k * 6 + 4, none⟩ (.slice D5 i d5)) (some g)) B i j D m d x) := Lib.hid ((pg5.to_ (al6.mono fun b hb e => hb.2 (by rw [e]))).mono (out_up (by simp)))
      have HR6 : Hid (RdG (w5.setCell ⟨g, k * 6 + 4, none⟩ (.slice D5 i d5)) (Fresh w (w5.setCell ⟨g, k * 6 + 4, none⟩ (.slice D5 i d5)) (some g)) D5 (x.h.old.map strV)) := Lib.hid ((r5.to (al6.mono fun b hb e => hb.2.2 (by rw [e]))).mono (fresh_up (by simp)))
      have HBZ6 := Lib.hid ((HBX.out.below hb5 HBX.out.lt).set_ne HGZ.out (k * 6 + 4) (.slice D5 i d5))
      have HBW6 := Lib.hid ((HBW.out.trans (hb5.mono (by have := HBW.out.size; omega))).setCell (p := ⟨g, k * 6 + 4, none⟩) hgl.1 (.slice D5 i d5))
      have HC5 := Lib.hid hc5
      have hs6 : (w5.setCell ⟨g, k * 6 + 4, none⟩ (.slice D5 i d5)).heap.size = w5.heap.size := by simp
      have HS6 := Lib.hid hs6
      clear hr5 hc5 hb5 pg5 r5 al6 hs6 HO5 HA5 HG5 HBX HBW HOW
      generalize (w5.setCell ⟨g, k * 6 + 4, none⟩ (.slice D5 i d5)) = w6 at *
      have z5 : w6.cell? ⟨z, 5, none⟩ = some (.slice D m d) := HBZ6.out.cell 5 rfl
      clear hgl hw5
      go_wp2_with (at_builtin; refine wpList_nil' rfl (.const (.slice none 0 0)) (.tmp 28) 39 rfl 9 j0 (.string ⟨#[]⟩) 16 Try.underlying39 hj hy0 hy1 hy2 rfl rfl w6.heap.size D m d (x.h.new.map strV) rfl (by rw [List.length_map]; exact HPG6.out.l') (HPG6.out.r'.mono fun b hb => hb.1) (strs_one _) (by unfold maxLen; omega) (by omega) ?_; intro D7 d7 w7 hA7 hg7; have HA7 := Lib.hid hA7; have HG7 := Lib.hid hg7; have HO7 := Lib.hid (HO6.out.below (below_gr hg7)); clear hA7 hg7; obtain ⟨_, _, _, _, _, _, _, _, _, _, _, q5, qf, _⟩ := OwnS.elem HO7.out.own HN.out HX.out; have f5 := qf (k * 6 + 5); clear qf)
      clear z5 q5 f5
      go_roundw
      case rel =>
        obtain ⟨A7, p7, e7, hc7, hr7⟩ := rd_of_own HA7.out
        injection e7 with e71 e72 e73
        subst e71 e73
        have hb7 := below_gr HG7.out
        have hgl := HGL.out
        have v := HPG6.out
        have r7 : RdG w7 (Fresh w w7 (some g)) D7 (x.h.new.map strV) := (rdG_hi hr7 (hi_own HA7.out)).mono fun b hb => by
          have h1 : w6.heap.size ≤ b := hb.1
          have h2 : b < w7.heap.size := hb.2
          have h3 := HBZ6.out.lt
          have h4 := HBW6.out.size
          exact ⟨by omega, by omega, fun e => by injection e with e; omega⟩
        have r6 : RdG w7 (Fresh w w7 (some g)) D5 (x.h.old.map strV) := (HR6.out.to (fun b _ hl => hb7.block b hl)).mono (fresh_up hb7.size)
        refine ⟨k + 1, by omega, by go_num, OwnK4.step5 HO7.out HX.out ⟨v.l, v.l', HC5.out, hc7, v.mm, v.mm', r6, r7, v.pp, v.kk, v.nm, v.to, v.s, v.s'⟩, ?_⟩
        exact (HBW6.out.trans (hb7.mono HBW6.out.size)).setCell (p := ⟨g, k * 6 + 5, none⟩) hgl.1 _
      case measure => simp [intOf]; omega
    · have HE : Hid (l.length ≤ k) := Lib.hid (by rw [HN.out]; omega)
      go_wp2
      go_ret
      exact ⟨A1, c1, rfl, hc1, HO.out.done HE.out, HB.out⟩

end Td
end Go.Proofs.Yteiidklmlelabaa
