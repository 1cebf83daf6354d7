/-
  The statement DiffTurns: for every two lists of lines the law returns true, and both read as they did. No conditions.
-/
import Derived.Test.YtnhhbenddjkjaaaDfLaw
import Derived.Test.YtnhhbenddjkjaaaDfOpen
import Derived.Deep.RegionHeld3
namespace Go.Proofs.Ytnhhbenddjkjaaa
open Go.RowKit
set_option linter.unusedVariables false
namespace Df
open Tx Lc

/-- The cells of edits, their New below block h. -/
def BCells (W : World) (h : Nat) (es : List E) (xs : List Value) : Prop :=
  xs.length = es.length * 3 ∧ ∀ (k : Nat) x, es[k]? = some x → ∃ A c, xs[k * 3]? = some (.int .i64 x.pos) ∧ xs[k * 3 + 1]? = some (.int .i64 x.old) ∧ xs[k * 3 + 2]? = some (.slice A x.new.length c) ∧
    x.new.length ≤ c ∧ RdS W h A x.new ∧ I64 x.pos ∧ I64 x.old ∧ x.new.length ≤ maxLen
theorem bcells_nil (W : World) (h : Nat) : BCells W h [] [] := ⟨rfl, fun k x hx => by simp at hx⟩
theorem BCells.below {W W' : World} {h : Nat} {es : List E} {xs : List Value} (he : BCells W h es xs) (hb : Below h W W') : BCells W' h es xs :=
  ⟨he.1, fun k x hx => by obtain ⟨A, c, g1, g2, g3, g4, g5, g6⟩ := he.2 k x hx; exact ⟨A, c, g1, g2, g3, g4, Rd.below g5 hb, g6⟩⟩
theorem bcells_snoc {W : World} {h : Nat} {es : List E} {xs : List Value} {x : E} {A : Option Addr} {c : Nat} (he : BCells W h es xs)
    (hc : x.new.length ≤ c) (hr : RdS W h A x.new) (hp : I64 x.pos) (ho : I64 x.old) (hl : x.new.length ≤ maxLen) :
    BCells W h (es ++ [x]) (xs ++ [.int .i64 x.pos, .int .i64 x.old, .slice A x.new.length c]) := by
  obtain ⟨h1, h2⟩ := he
  refine ⟨by simp only [List.length_append, h1, List.length_cons, List.length_nil]; omega, fun k y hy => ?_⟩
  rcases Nat.lt_trichotomy k es.length with hk | rfl | hk
  · rw [List.getElem?_append_left hk] at hy
    obtain ⟨A, c, g1, g2, g3, g⟩ := h2 k y hy
    refine ⟨A, c, ?_, ?_, ?_, g⟩
    · rw [List.getElem?_append_left (by omega)]; exact g1
    · rw [List.getElem?_append_left (by omega)]; exact g2
    · rw [List.getElem?_append_left (by omega)]; exact g3
  · rw [List.getElem?_append_right (Nat.le_refl _), Nat.sub_self] at hy
    cases hy
    refine ⟨A, c, ?_, ?_, ?_, hc, hr, hp, ho, hl⟩
    · rw [← h1, List.getElem?_append_right (Nat.le_refl _), Nat.sub_self]; rfl
    · rw [← h1, List.getElem?_append_right (by omega), Nat.add_sub_cancel_left]; rfl
    · rw [← h1, List.getElem?_append_right (by omega), Nat.add_sub_cancel_left]; rfl
  · rw [List.getElem?_eq_none (by simp; omega)] at hy; cases hy
theorem rdE_row {W : World} {base h n : Nat} {v : Value} {es : List E} {xs : List Value} (hr : W.ownsRow base 37 3 v n xs) (he : BCells W h es xs) (hh : h ≤ W.heap.size) (hn : es.length = n) :
    ∃ A c, v = .slice A n c ∧ n ≤ c ∧ RdE W W.heap.size A es := by
  rcases hr.2 with ⟨rfl, rfl⟩ | ⟨g, cap, cur, rfl, _, hg, hc, _⟩
  · exact ⟨none, 0, rfl, Nat.le_refl _, .inl (List.eq_nil_of_length_eq_zero hn)⟩
  · refine ⟨_, cap, rfl, hc, .inr ⟨_, rfl, (Array.getElem?_eq_some_iff.1 hg).1, fun k x hx => ?_⟩⟩
    obtain ⟨A, c, g1, g2, g3, g4, g5, g6, g7, g8⟩ := he.2 k x hx
    have hk : k < es.length := (List.getElem?_eq_some_iff.1 hx).1
    have ea : (⟨g, 0, none⟩ : Addr).add (k * 3) = ⟨g, k * 3, none⟩ := by unfold Addr.add; split <;> simp_all
    refine ⟨?_, ?_, ⟨A, c, ?_, g4, Rd.up g5 hh⟩, g6, g7, g8⟩
    · rw [ea, hr.cellAt (k * 3) (by omega)]; exact g1
    · rw [ea]; show W.cell? ⟨g, k * 3 + 1, none⟩ = _; rw [hr.cellAt (k * 3 + 1) (by omega)]; exact g2
    · rw [ea]; show W.cell? ⟨g, k * 3 + 2, none⟩ = _; rw [hr.cellAt (k * 3 + 2) (by omega)]; exact g3

theorem appended {W W4 : World} {H n : Nat} {v : Value} {xs : List Value} {o : Obj} (hr : W.ownsRow H 37 3 v n xs) (hH : H ≤ W.heap.size) (hg : (W.drew.alloc o).grownBy W4 v.ownBlock) : Below H W W4 := by
  have hr' := (hr.drew).alloc o
  exact ((below_drewN (Below.refl H W) 1).alloc hH o).grown hg (Nat.le_trans hH (by simp)) (own_ge hr')

set_option maxRecDepth 100000 in
set_option maxHeartbeats 4000000 in
theorem diffTurns_walk (A : Option Addr) (n c : Nat) (a : List (List UInt8)) (A1 : Option Addr) (n1 c1 : Nat) (b : List (List UInt8)) (w : World) (h : StrArg w A n c a) (h1 : StrArg w A1 n1 c1 b) :
    Calls Try.prog 8 #[.slice A n c, .slice A1 n1 c1] w (LawEnd w) := by
  go_enter Try.func8, Try.ntmps8
  go_wp2_with fail
  refine (awake w).mono ?_
  rintro e w1 ⟨rfl, hB1⟩
  go_wp2_with fail
  refine (Light _ _ _ _ 60 a _ h.len h.le (h.rd.below hB1) (by decide)).mono ?_
  rintro e w' ⟨rfl, rfl⟩
  go_wp2_with fail
  refine (Light _ _ _ _ 60 b _ h1.len h1.le (h1.rd.below hB1) (by decide)).mono ?_
  rintro e w' ⟨rfl, rfl⟩
  cases hl : light a 60 with
  | false =>
    clear hl
    go_wp2
    go_ret
    exact ⟨rfl, hB1⟩
  | true =>
  have hn := light_len hl h.len
  clear hl
  cases hl : light b 60 with
  | false =>
    clear hl
    go_wp2
    go_ret
    exact ⟨rfl, hB1⟩
  | true =>
  have hn1 := light_len hl h1.len
  clear hl
  obtain ⟨k, hkc, hkw, hk1, hk2⟩ := costL h h1 hn hn1
  have hturn := edits_turn a b
  have happ := edits_appl a b
  have hback := appl_back happ
  have hbc := bks_cost a _ 0 0 true b happ
  have hbl := bks_len a (edits a b) 0
  have HAP := Lib.hid (apl_apart a _ 0 true b happ)
  have HBP := Lib.hid (apl_apart b _ 0 true a hback)
  have HNW := Lib.hid (edits_new a b)
  rw [hkc] at HNW hturn hbc
  rw [h.len] at HAP
  rw [h1.len] at HBP
  have HTU : Hid (wrap64 (cost (edits b a)) = k) := Lib.hid (by rw [hturn, IntWalk.wrap64_in _ (by omega)])
  have HKW := Lib.hid hkw; have HBK := Lib.hid hback
  have HBC : Hid (wrap64 (cost (bks a 0 (edits a b))) = k) := Lib.hid (by rw [hbc, IntWalk.wrap64_in _ (by omega)])
  have HBL := Lib.hid hbl
  clear hkc hkw hturn happ hback hbc hbl
  obtain ⟨i0, hi0, hz0, hz1, hz2⟩ := info_parts info_edit
  go_wp2_with fail
  refine (EditsL h h1 hB1 hn hn1).mono ?_
  generalize edits a b = es at *
  rintro e w2 ⟨Al, cl, rfl, hcl, hE, hb2⟩
  have hB2 := hB1.trans (hb2.mono hB1.size)
  obtain ⟨ne, hne⟩ : ∃ ne, es.length = ne := ⟨_, rfl⟩
  rw [hne] at hk2 hcl ⊢
  have HNE := Lib.hid hne; clear hne
  have hne2 : ne ≤ 120 := by omega
  go_wp2
  go_loopw [9, 10, 11] (fun v9 v10 v11 wr => ∃ (i : Nat) (m : Int) (bk : List E), i ≤ ne ∧ v11 = .int .i64 (i : Int) ∧ v10 = .int .i64 m ∧ -(120 * i : Int) ≤ m ∧ m ≤ 120 * i ∧ (∃ xs, wr.ownsRow w2.heap.size 37 3 v9 i xs ∧ BCells wr w.heap.size bk xs) ∧ bk.length = i ∧ bk ++ bks a m (es.drop i) = bks a 0 es ∧ Below w2.heap.size w2 wr) (fun _ _ v11 _ => ne - (intOf v11).toNat)
  case atStart => exact ⟨0, 0, [], Nat.zero_le _, rfl, rfl, by omega, by omega, ⟨[], World.ownsRow_nil _ _ _ _, bcells_nil _ _⟩, rfl, rfl, Below.refl _ _⟩
  case round =>
    obtain ⟨i, m, bk, hi, rfl, rfl, hm1, hm2, ⟨xs, hrow, hBC⟩, hbk, heq, hbr⟩ := hrel
    have hBr := hB2.trans (hbr.mono hB2.size)
    by_cases hlt : i < ne
    · have hil : i < es.length := by rw [HNE.out]; exact hlt
      have hnw := HNW.out _ (List.getElem_mem hil)
      have hy := HAP.out i _ (List.getElem?_eq_getElem hil)
      rw [drop_at hil, bks] at heq
      have hz := HBP.out i _ (by rw [← heq, List.getElem?_append_right (by omega), hbk, Nat.sub_self]; rfl)
      obtain ⟨Ar, cr, rfl, hcr, _⟩ := rdE_row hrow hBC hBr.size hbk
      have HEQ := Lib.hid heq; have HBKL := Lib.hid hbk; have HROW := Lib.hid hrow; have HBCE := Lib.hid hBC
      clear heq hbk hrow hBC
      obtain ⟨pa, rfl, hpa, hat⟩ := hE.at_ hil
      obtain ⟨c0, c1, ⟨A3, c3, k3, _, _⟩, _, _, _⟩ := hat
      generalize es[i] = x at *
      obtain ⟨p, o, l⟩ := x
      obtain ⟨y1, y2, y3, _, _⟩ := hy
      obtain ⟨z1, z2, z3, _, _⟩ := hz
      simp only at hnw y1 y2 y3 z1 z2 z3 c0 c1 k3
      obtain ⟨p, rfl⟩ : ∃ q : Nat, p = q := ⟨p.toNat, by omega⟩
      obtain ⟨o, rfl⟩ : ∃ q : Nat, o = q := ⟨o.toNat, by omega⟩
      obtain ⟨r, hr⟩ : ∃ r : Nat, (p : Int) + m = r := ⟨((p : Int) + m).toNat, by omega⟩
      obtain ⟨q, hq⟩ : ∃ q : Nat, (p : Int) + (o : Int) = (q : Int) := ⟨p + o, by omega⟩
      obtain ⟨ll, hll⟩ : ∃ ll, l.length = ll := ⟨_, rfl⟩
      rw [hll] at hnw z2 k3
      have hqn : q ≤ n := by omega
      have hpq : p ≤ q := by omega
      have hr2 : r ≤ 60 := by omega
      have hqe : p + o = q := by omega
      have HLL := Lib.hid hll; have HQE := Lib.hid hqe; have HR := Lib.hid hr; clear hll hqe
      have f2 : i + 1 ≤ maxLen := by unfold maxLen; omega
      have f3 : (i + 1) * 40 ≤ 140737488355328 := by omega
      have HC : Hid (∀ w', Below w2.heap.size w2 w' → w'.cell? (pa.add (i * 3)) = some (.int .i64 (p : Int)) ∧ w'.cell? ⟨(pa.add (i * 3)).block, (pa.add (i * 3)).off + 1, none⟩ = some (.int .i64 (o : Int)) ∧ w'.cell? ⟨(pa.add (i * 3)).block, (pa.add (i * 3)).off + 2, none⟩ = some (.slice A3 ll c3)) := Lib.hid (fun w' hb' => by
        have hpb : (pa.add (i * 3)).block < w2.heap.size := by rw [add_block]; exact hpa
        exact ⟨(hb'.cell hpb).trans c0, (hb'.cell (p := ⟨(pa.add (i * 3)).block, (pa.add (i * 3)).off + 1, none⟩) hpb).trans c1, (hb'.cell (p := ⟨(pa.add (i * 3)).block, (pa.add (i * 3)).off + 2, none⟩) hpb).trans k3⟩)
      clear c0 c1 k3
      obtain ⟨c0, c1, k3⟩ := HC.out wr hbr
      have hlen : (mid a p q).length = q - p := mid_len (by rw [h.len]; omega)
      have HLN := Lib.hid hlen; clear hlen
      have HPA := Lib.hid hpa
      have t1 : (i : Int) < (ne : Int) := by omega
      have t2 : (0 : Int) ≤ (i : Int) := by omega
      have t5 : (p : Int) ≤ (q : Int) := by omega
      have t6 : (0 : Int) ≤ (p : Int) := by omega
      have g1 : decide ((p : Int) < 0) = false := decide_eq_false (by omega)
      have g2 : decide ((o : Int) < 0) = false := decide_eq_false (by omega)
      have g3 : decide ((n : Int) < (q : Int)) = false := decide_eq_false (by omega)
      have g4 : decide (n < q) = false := decide_eq_false (by omega)
      have hwq : IntKind.i64.wrap ((q : Nat) : Int) = (q : Int) := IntWalk.i64_in _ (by omega)
      go_wp2
      go_quiet (fail)
      clear hwq g1 g2 g3 g4
      clear c0 c1 k3
      have hbq : Below w2.heap.size w2 (wr.drewN nq) := below_drewN hbr nq
      have hrowq : (wr.drewN nq).ownsRow w2.heap.size 37 3 (.slice Ar i cr) i xs := HROW.out
      have hbcq : BCells (wr.drewN nq) w.heap.size bk xs := HBCE.out.below (below_drewN (Below.refl _ _) nq)
      have HEQ2 : Hid ((bk ++ [⟨r, ll, mid a p q⟩]) ++ bks a (m + (ll : Int) - (o : Int)) (es.drop (i + 1)) = bks a 0 es) := Lib.hid (by
        have := HEQ.out
        rw [HR.out, HLL.out, show ((p : Int) + (o : Int)).toNat = q by omega, Int.toNat_natCast] at this
        rw [← this, List.append_assoc]; rfl)
      clear HBCE HROW
      go_wp2_with fail
      generalize wr.drewN nq = wq at *
      obtain ⟨c0, c1, k3⟩ := HC.out wq hbq
      have hBq := hB2.trans (hbq.mono hB2.size)
      have HSZ := Lib.hid hbq.size
      have HBQ := Lib.hid hbq; have HROWQ := Lib.hid hrowq; have HBCQ := Lib.hid hbcq; have HB2S := Lib.hid hB2.size
      clear hbq hrowq hbcq
      have hD := Rd.drop (h.rd.below hBq) (k := p) (cap := c) (by rw [List.length_map, h.len]; exact h.cap)
      have hmm : ((a.map strV).drop p).take (q - p) = (mid a p q).map strV := mid_map.symm
      rcases Classical.em (p = c) with hcp | hcp
      · subst hcp
        rw [if_pos rfl] at hD
        have hDT := hD.take (q - p)
        rw [hmm] at hDT
        have HDT := Lib.hid hDT
        clear hD hDT hmm
        have t3 : (q : Int) ≤ (p : Int) := by have := h.cap; omega
        have HNEW : Hid (BCells wq w.heap.size bk xs → ∀ w4, Below w.heap.size wq w4 → BCells w4 w.heap.size (bk ++ [⟨r, ll, mid a p q⟩]) (xs ++ [.int .i64 (r : Int), .int .i64 (ll : Int), .slice A (q - p) 0])) := Lib.hid (fun hbc w4 hb4 => by
          have hs := bcells_snoc (x := ⟨r, ll, mid a p q⟩) (c := 0) (hbc.below hb4) (by simp only; rw [HLN.out]; omega) (Rd.below HDT.out hb4) (by unfold I64; simp only; omega) (by unfold I64; simp only; omega) (by simp only; rw [HLN.out]; unfold maxLen; omega)
          simp only [HLN.out] at hs
          exact hs)
        have hwr : IntKind.i64.wrap ((r : Nat) : Int) = (r : Int) := IntWalk.i64_in _ (by omega)
        have hwq : IntKind.i64.wrap ((q : Nat) : Int) = (q : Int) := IntWalk.i64_in _ (by omega)
        go_region_held3 (fun w' => w'.cell? (pa.add (i * 3)) = some (.int .i64 (p : Int)) ∧ w'.cell? ⟨(pa.add (i * 3)).block, (pa.add (i * 3)).off + 1, none⟩ = some (.int .i64 (o : Int)) ∧ w'.cell? ⟨(pa.add (i * 3)).block, (pa.add (i * 3)).off + 2, none⟩ = some (.slice A3 ll c3))
          (first | go_keep | (exact ⟨cell_al _ c0, cell_al _ c1, cell_al _ k3⟩) | (exact ⟨x0, x1, x2⟩))
          (first
            | ((refine step_append_lies _ (by rfl) _ _ _ (by rfl) w2.heap.size 37 i0 _ 3 40 Try.underlying26 hi0 hz0 hz1 hz2 rfl (by decide) (.slice Ar i cr) i xs (by rfl) ((HROWQ.out.drew).alloc _) ⟨wq.heap.size, 0, none⟩ 1 1 [.int .i64 (r : Int), .int .i64 (ll : Int), .slice A (q - p) 0] (by rfl) (by rfl) (World.news_of_block (cs := #[.int .i64 (r : Int), .int .i64 (ll : Int), .slice A (q - p) 0]) (t := 37) (fr := (0, 0)) (heap_alloc_new wq _)) (by simp [Value.oneCell']) (by decide) f2 f3 (Nat.le_trans HSZ.out (by simp)) (wq.heap.size + 1) (by simp) ?_; intro gg cap w4 hown2 hgrow hat4 hlt4;
                have hb4 := appended HROWQ.out HSZ.out hgrow; have HB4 := Lib.hid hb4; obtain ⟨x0, x1, x2⟩ := HC.out w4 (HBQ.out.trans hb4); have HOWN := Lib.hid hown2; clear hgrow hown2 hat4 hlt4 hb4)))
        clear hwr hwq hr hq
        have s1 : IntKind.i64.wrap (m + (ll : Int)) = m + (ll : Int) := IntWalk.i64_in _ (by omega)
        have s2 : IntKind.i64.wrap (m + (ll : Int) - (o : Int)) = m + (ll : Int) - (o : Int) := IntWalk.i64_in _ (by omega)
        go_wp2
        go_quiet (fail)
        clear s1 s2
        go_wp2
        go_roundw
        case rel =>
          refine ⟨i + 1, m + (ll : Int) - (o : Int), bk ++ [⟨r, ll, mid a p q⟩], by omega, by go_num, rfl, by omega, by omega, ⟨_, HOWN.out, HNEW.out HBCQ.out _ (below_drewN (HB4.out.mono HB2S.out) _)⟩, by simp [HBKL.out], HEQ2.out, below_drewN (HBQ.out.trans HB4.out) _⟩
        case measure => simp [intOf]; omega
      · have hcp' : ¬ c = p := Ne.symm hcp
        clear hcp
        rw [if_neg hcp'] at hD
        have hDT := hD.take (q - p)
        rw [hmm] at hDT
        have HDT := Lib.hid hDT
        clear hD hDT hmm
        have t3 : (q : Int) ≤ (c : Int) := by have := h.cap; omega
        have HNEW : Hid (BCells wq w.heap.size bk xs → ∀ w4, Below w.heap.size wq w4 → BCells w4 w.heap.size (bk ++ [⟨r, ll, mid a p q⟩]) (xs ++ [.int .i64 (r : Int), .int .i64 (ll : Int), .slice (A.map (fun x => x.add p)) (q - p) (c - p)])) := Lib.hid (fun hbc w4 hb4 => by
          have hs := bcells_snoc (x := ⟨r, ll, mid a p q⟩) (c := (c - p)) (hbc.below hb4) (by simp only; rw [HLN.out]; omega) (Rd.below HDT.out hb4) (by unfold I64; simp only; omega) (by unfold I64; simp only; omega) (by simp only; rw [HLN.out]; unfold maxLen; omega)
          simp only [HLN.out] at hs
          exact hs)
        have hwr : IntKind.i64.wrap ((r : Nat) : Int) = (r : Int) := IntWalk.i64_in _ (by omega)
        have hwq : IntKind.i64.wrap ((q : Nat) : Int) = (q : Int) := IntWalk.i64_in _ (by omega)
        go_region_held3 (fun w' => w'.cell? (pa.add (i * 3)) = some (.int .i64 (p : Int)) ∧ w'.cell? ⟨(pa.add (i * 3)).block, (pa.add (i * 3)).off + 1, none⟩ = some (.int .i64 (o : Int)) ∧ w'.cell? ⟨(pa.add (i * 3)).block, (pa.add (i * 3)).off + 2, none⟩ = some (.slice A3 ll c3))
          (first | go_keep | (exact ⟨cell_al _ c0, cell_al _ c1, cell_al _ k3⟩) | (exact ⟨x0, x1, x2⟩))
          (first
            | ((refine step_append_lies _ (by rfl) _ _ _ (by rfl) w2.heap.size 37 i0 _ 3 40 Try.underlying26 hi0 hz0 hz1 hz2 rfl (by decide) (.slice Ar i cr) i xs (by rfl) ((HROWQ.out.drew).alloc _) ⟨wq.heap.size, 0, none⟩ 1 1 [.int .i64 (r : Int), .int .i64 (ll : Int), .slice (A.map (fun x => x.add p)) (q - p) (c - p)] (by rfl) (by rfl) (World.news_of_block (cs := #[.int .i64 (r : Int), .int .i64 (ll : Int), .slice (A.map (fun x => x.add p)) (q - p) (c - p)]) (t := 37) (fr := (0, 0)) (heap_alloc_new wq _)) (by simp [Value.oneCell']) (by decide) f2 f3 (Nat.le_trans HSZ.out (by simp)) (wq.heap.size + 1) (by simp) ?_; intro gg cap w4 hown2 hgrow hat4 hlt4;
                have hb4 := appended HROWQ.out HSZ.out hgrow; have HB4 := Lib.hid hb4; obtain ⟨x0, x1, x2⟩ := HC.out w4 (HBQ.out.trans hb4); have HOWN := Lib.hid hown2; clear hgrow hown2 hat4 hlt4 hb4)))
        clear hwr hwq hr hq
        have s1 : IntKind.i64.wrap (m + (ll : Int)) = m + (ll : Int) := IntWalk.i64_in _ (by omega)
        have s2 : IntKind.i64.wrap (m + (ll : Int) - (o : Int)) = m + (ll : Int) - (o : Int) := IntWalk.i64_in _ (by omega)
        go_wp2
        go_quiet (fail)
        clear s1 s2
        go_wp2
        go_roundw
        case rel =>
          refine ⟨i + 1, m + (ll : Int) - (o : Int), bk ++ [⟨r, ll, mid a p q⟩], by omega, by go_num, rfl, by omega, by omega, ⟨_, HOWN.out, HNEW.out HBCQ.out _ (below_drewN (HB4.out.mono HB2S.out) _)⟩, by simp [HBKL.out], HEQ2.out, below_drewN (HBQ.out.trans HB4.out) _⟩
        case measure => simp [intOf]; omega
    · obtain rfl : i = ne := by omega
      rw [List.drop_of_length_le (by rw [HNE.out]; omega), bks, List.append_nil] at heq
      obtain ⟨Ar, cr, rfl, hcr, hrd⟩ := rdE_row hrow hBC hBr.size hbk
      rw [← heq] at HBK HBC
      have HBKL := Lib.hid hbk
      clear heq hrow hBC hbk HBL HBP HAP HNW hm1 hm2
      go_wp2_with fail
      refine (Apply A1 Ar c1 cr n1 i wr.heap.size b bk wr h1.len HBKL.out h1.cap (by omega) (by unfold maxLen; omega) (Nat.le_refl _) (Rd.up (h1.rd.below hBr) hBr.size) hrd (fun r hr => by rw [HBK.out] at hr; injection hr with hr; rw [← hr, h.len]; omega)).mono ?_
      rw [HBK.out]
      rintro e w5 ⟨v, rfl, hA, hb5⟩
      rw [Option.getD_some, h.len] at hA
      obtain ⟨A6, c6, rfl, hc6, _, hrd6, _⟩ := hA
      have hB5 := hBr.trans (hb5.mono hBr.size)
      have hL5 : Below w2.heap.size w2 w5 := hbr.trans (hb5.mono hbr.size)
      have hrd5 := hrd.below hb5
      go_wp2_with fail
      refine (Same A A6 c c6 n n w5.heap.size a a w5 h.len h.len h.le (Rd.up (h.rd.below hB5) hB5.size) hrd6).mono ?_
      rw [decide_eq_true (rfl : a = a)]
      rintro e w6 ⟨rfl, d, rfl⟩
      have hB6 : Below w.heap.size w (w5.drewN d) := below_drewN hB5 d
      have hL6 : Below w2.heap.size w2 (w5.drewN d) := below_drewN hL5 d
      have hr6 : RdE (w5.drewN d) wr.heap.size Ar bk := hrd5.below (below_drewN (Below.refl _ _) d)
      have hs6 : wr.heap.size ≤ (w5.drewN d).heap.size := hb5.size
      clear hrd5 hrd6 hb5 hrd
      generalize w5.drewN d = w6 at *
      go_wp2_with fail
      refine (Cost Ar cr i wr.heap.size bk w6 HBKL.out (by unfold maxLen; omega) hs6 hr6).mono ?_
      rw [HBC.out]
      rintro e w7 ⟨rfl, hb7⟩
      have hB7 := hB6.trans (hb7.mono hB6.size)
      have hL7 := hL6.trans (hb7.mono hL6.size)
      clear hr6 hs6
      go_wp2_with fail
      refine (Cost Al cl i w2.heap.size es w7 HNE.out (by unfold maxLen; omega) hL7.size (hE.below hL7)).mono ?_
      rw [HKW.out]
      rintro e w8 ⟨rfl, hb8⟩
      have hB8 := hB7.trans (hb8.mono hB7.size)
      have hL8 := hL7.trans (hb8.mono hL7.size)
      go_wp2_with fail
      refine (EditsL h1 h hB8 hn1 hn).mono ?_
      rintro e w9 ⟨Al2, cl2, rfl, hcl2, hE2, hb9⟩
      have hB9 := hB8.trans (hb9.mono hB8.size)
      have hL9 := hL8.trans (hb9.mono hL8.size)
      have hlen2 : (edits b a).length ≤ 1000 := by have := edits_len_le b a; rw [h.len, h1.len] at this; omega
      go_wp2_with fail
      refine (Cost _ _ _ w9.heap.size _ w9 rfl (by unfold maxLen; omega) (Nat.le_refl _) hE2).mono ?_
      rw [HTU.out]
      rintro e w10 ⟨rfl, hb10⟩
      have hB10 := hB9.trans (hb10.mono hB9.size)
      have hL10 := hL9.trans (hb10.mono hL9.size)
      clear hE2
      go_wp2_with fail
      refine (Cost Al cl i w2.heap.size es w10 HNE.out (by unfold maxLen; omega) hL10.size (hE.below hL10)).mono ?_
      rw [HKW.out]
      rintro e w11 ⟨rfl, hb11⟩
      have hB11 := hB10.trans (hb11.mono hB10.size)
      go_wp2
      go_ret
      exact ⟨rfl, hB11⟩

end Df
open Tx Df
open Go.ChangeShapes Go.WideShapes Go.ChangeAt

theorem diffTurns_own : ownKnob Try.prog.godebug = none := by kernel_rfl
theorem diffTurns_laidOut : laidOutB Try.prog = true := by kernel_rfl

set_option maxRecDepth 100000 in
theorem diffTurns_lifted (os : Os) (started : os.Started) (H : Type) (enc : TypeId × Value → H) :
    ReturnsInHanded {} Try.checked os 8 .any (Rows.diffTurnsSpec.pre6 enc Try.prog Try.f8 Rows.diffTurnsRow.domain false) (Rows.diffTurnsSpec.post enc Try.prog Try.f8 false true false false) := by
  refine returnsInHanded_of_change (C := Try.checked) diffTurns_own started (by kernel_rfl) Try.func8
    (ChangeSpec.witness6 (enc := enc) (C := Try.checked) false ⟨#[], #[.slice none 0 0, .slice none 0 0], []⟩ 8 (by kernel_rfl) (by kernel_rfl) (by kernel_rfl) (by kernel_rfl)) ?_
  intro W base args ds gs before hval0 hW hcnd _
  have hval : ∀ (j : Nat) t v, Try.f8.params[j]? = some t → args[j]? = some v → Value.okWide Try.prog W .any base t v := hval0
  have hW' := hW
  obtain ⟨p, q, hA0, hV, rfl, hfz, hnd⟩ := hW
  have hA : DataW.TrodAll enc Try.prog W 0 (fun _ => true) true Try.f8.params.toList args.toList ds p := hA0
  rw [Try.params8] at hA hval
  obtain ⟨v0, vs0, d0, ds0, p0, q0, hargs, rfl, rfl, h0, r0⟩ := trodAll_cons hA
  obtain ⟨v1, vs1, d1, ds1, p1, q1, rfl, rfl, rfl, h1, r1⟩ := trodAll_cons r0
  obtain ⟨rfl, rfl, rfl⟩ := trodAll_nil r1
  obtain rfl : args = #[v0, v1] := by cases args; simp_all
  obtain ⟨rfl, rfl⟩ := trodVars_none hV
  obtain ⟨a0, n0, c0, rfl⟩ := okWide_slice Try.underlying22 (hval 0 22 v0 rfl rfl)
  have k0 := h0
  have lt0 : ∀ x ∈ p0, x.block < W.heap.size := by obtain ⟨m, hm⟩ := k0; exact DataW.trod_lt m _ _ _ hm
  obtain ⟨l0, s0⟩ : ∃ l, StrArg W a0 n0 c0 l := by
    obtain ⟨fuel, hf⟩ := h0
    exact strs_in hf (by simp [Value.cells])
  obtain ⟨a1, n1, c1, rfl⟩ := okWide_slice Try.underlying22 (hval 1 22 v1 rfl rfl)
  have k1 := h1
  have lt1 : ∀ x ∈ p1, x.block < W.heap.size := by obtain ⟨m, hm⟩ := k1; exact DataW.trod_lt m _ _ _ hm
  obtain ⟨l1, s1⟩ : ∃ l, StrArg W a1 n1 c1 l := by
    obtain ⟨fuel, hf⟩ := h1
    exact strs_in hf (by simp [Value.cells])
  clear hA0 hval0
  refine (diffTurns_walk a0 n0 c0 l0 a1 n1 c1 l1 W s0 s1).mono fun e W' ⟨he, bel⟩ => ?_
  subst he
  exact ⟨_, rfl, _, _, _, [], _, [], hW', trodAll_mk1 (shut_bool Try.underlying4 _), (trodAll_cons_mk (Below.trod diffTurns_laidOut (by kernel_rfl) (of_decide_eq_true (by kernel_rfl)) k0 bel lt0) (trodAll_cons_mk (Below.trod diffTurns_laidOut (by kernel_rfl) (of_decide_eq_true (by kernel_rfl)) k1 bel lt1) trodAll_mk0)), rfl, bel.frame _, fun h => by cases h⟩

/-- The statement. -/
theorem diffTurns_proved : Rows.DiffTurnsSaid :=
  OpenClaim.holds_of_wide 8 Try.f8 rfl rfl rfl rfl rfl rfl rfl ⟨rfl, rfl, rfl, rfl, rfl⟩ rfl rfl rfl rfl rfl (by kernel_rfl) Try.func8 (by kernel_rfl)
    (of_decide_eq_true (by kernel_rfl)) (by unfold Func.isWrapper; first | (rw [if_pos (by decide +kernel)]; kernel_rfl) | (rw [if_neg (by decide +kernel)]; exact ⟨rfl, rfl⟩))
    (fun os started H enc _ => diffTurns_lifted os started H enc)

#print axioms diffTurns_proved
end Go.Proofs.Ytnhhbenddjkjaaa
