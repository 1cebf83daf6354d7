/-
  What the document's own Of of layer 5 returns (walk): the same hunks, in memory of its own.
-/
import Derived.Test.YtjhjmfodpnipiaaHkCells
import Derived.Test.YtjhjmfodpnipiaaHkOf
import Derived.Test.YtjhjmfodpnipiaaDfRefs
set_option maxRecDepth 100000
namespace Go.Proofs.Ytjhjmfodpnipiaa
open Go.RowKit
set_option linter.unusedVariables false
namespace Hk
open Tx Df Lc

/-- What holds between the edits, in the document's own Of. -/
structure TInv (w1 : World) (lo : Nat) (a b : List (List UInt8)) (es : List E) (k : Nat) (mv : Int) (pre : List HU) (v : Value) (wr : World) : Prop where
  row : ∃ xs, wr.ownsRow w1.heap.size 37 3 v k xs ∧ HCells wr w1.heap.size w1.heap.size pre xs ∧ HHi lo pre xs
  len : pre.length = k
  bl : Below w1.heap.size w1 wr
  eq : pre ++ hks a mv (es.drop k) = hks a 0 es
  at_ : ∃ k0 f u r, apl a k0 f (es.drop k) = some r ∧ u ++ r = b ∧ (u.length : Int) = k0 + mv ∧ k0 ≤ a.length

theorem tstep {w1 wr w2 w4 : World} {a b : List (List UInt8)} {es : List E} {k : Nat} {mv : Int} {pre : List HU} {v v' : Value} {xs : List Value} {p o q n ll lo : Nat} {l : List (List UInt8)} {ob : Obj}
    {D1 : Option Addr} {k1 : Nat} {A3 : Option Addr} {c3 k0 : Nat} {u r r0 : List (List UInt8)}
    (I : TInv w1 lo a b es k mv pre v wr) (hrow : wr.ownsRow w1.heap.size 37 3 v k xs) (hH : HCells wr w1.heap.size w1.heap.size pre xs) (hX : HHi lo pre xs) (hA3 : Hi lo A3) (hlo : lo ≤ w1.heap.size)
    (heq : pre ++ hks a mv (⟨(p : Int), (o : Int), l⟩ :: es.drop (k + 1)) = hks a 0 es) (hap : apl a ((p : Int) + (o : Int)).toNat false (es.drop (k + 1)) = some r) (hr0 : r0 = mid a k0 (p : Int).toNat ++ l ++ r) (hur : u ++ r0 = b) (hul : (u.length : Int) = k0 + mv)
    (hkp : k0 ≤ p) (hn : a.length = n) (hq : p + o = q) (hqn : q ≤ n) (hln : n ≤ 1000) (hll : l.length = ll) (hll2 : ll ≤ 1000) (hmv : -1000000 ≤ mv) (hmv' : mv ≤ 1000000) (hc3 : ll ≤ c3) (hR3 : RdS wr w1.heap.size A3 l)
    (hr2 : w2.ownsRow wr.drew.heap.size 9 1 (.slice D1 (q - p) k1) (q - p) ((mid a p q).map strV)) (hg2 : wr.drew.grownBy w2 none)
    (hown : w4.ownsRow w1.heap.size 37 3 v' (k + 1) (xs ++ [.int .i64 (p + mv), .slice D1 (q - p) k1, .slice A3 ll c3])) (hgrow : (w2.drew.alloc ob).grownBy w4 v.ownBlock) (d : Nat) :
    TInv w1 lo a b es (k + 1) (mv + ll - o) (pre ++ [⟨p + mv, mid a p q, l⟩]) v' (w4.drewN d) := by
  have hge := own_ge hrow
  have hs1 := I.bl.size
  have gd : wr.grownBy w2 none := gr_of_drewN (d := 1) hg2
  have g2 : w2.grownBy (w2.drew.alloc ob) none := gr_of_drewN (d := 1) (World.grownBy_alloc w2.drew ob none)
  have hsz2 : w1.heap.size ≤ w2.heap.size := Nat.le_trans hs1 gd.size
  have hsz3 : w1.heap.size ≤ (w2.drew.alloc ob).heap.size := Nat.le_trans hsz2 g2.size
  have hrow2 := own_gr hrow gd
  have hrow3 := own_gr hrow2 g2
  have hS2 : KpS w2 w4 := (kpS_none g2).trans (kpS_row hrow3 (by decide) hgrow)
  have hS : KpS wr w4 := (kpS_none gd).trans hS2
  have hB : Below w1.heap.size wr w4 := ((below_gr gd).mono hs1).trans (((below_gr g2).mono hsz2).trans ((Below.refl _ _).grown hgrow hsz3 hge))
  have hRd : ∀ A ls, RdS wr w1.heap.size A ls → RdS w4 w1.heap.size A ls := fun A ls h => Rd.below h hB
  have hlen : (mid a p q).length = q - p := mid_len (by omega)
  have hhx := hhi_snoc (v := .int .i64 (p + mv)) (x := ⟨p + mv, mid a p q, l⟩) (A := D1) (c := k1) (A' := A3) (c' := c3) hX hH.1 hlen hll ((hi_own hr2).mono (Nat.le_trans hlo hs1)) hA3
  refine ⟨⟨_, hown, ?_, hhx⟩, by rw [List.length_append, I.len]; rfl, below_drewN (I.bl.trans hB) d, ?_, ?_⟩
  · have hh := hcells_snoc (x := ⟨p + mv, mid a p q, l⟩) (A := D1) (c := k1) (A' := A3) (c' := c3) (hH.kept hS hRd) (by simp only [hlen]; exact own_mono (own_kpS hr2 hS2) hs1) (by simp only [hll]; exact hc3) (hRd _ _ hR3) (by unfold I64; simp only; omega) (by simp only [hlen]; unfold maxLen; omega) (by simp only [hll]; unfold maxLen; omega)
    simp only [hlen, hll] at hh
    exact hh
  · rw [← heq, hks, List.append_assoc]
    simp only [hll, Int.toNat_natCast, show ((p : Int) + (o : Int)).toNat = q by omega]
    rfl
  · refine ⟨((p : Int) + (o : Int)).toNat, false, u ++ (mid a k0 p ++ l), r, hap, ?_, ?_, by omega⟩
    · rw [← hur, hr0, Int.toNat_natCast]; simp only [List.append_assoc]
    · rw [List.length_append, List.length_append, mid_len (by omega), hll]; omega

set_option maxRecDepth 100000 in
set_option maxHeartbeats 4000000 in
theorem refOfH (A A' : Option Addr) (c c' n m B : Nat) (a b : List (List UInt8)) (w : World) (hn : a.length = n) (hm : b.length = m) (hnc : n ≤ c) (hmc : m ≤ c') (hln : n ≤ 1000) (hlm : m ≤ 1000) (hB : B ≤ w.heap.size)
    (hR : RdS w B A a) (hR' : RdS w B A' b) :
    Calls Try.prog 47 #[.slice A n c, .slice A' m c'] w (OfEndH w (hks a 0 (edits a b))) := by
  obtain ⟨i0, hi0, hz0, hz1, hz2⟩ := info_parts info_hunk
  obtain ⟨j0, hj0, hx0, hx1, hx2⟩ := info_parts info_str
  have HN := Lib.hid hn; clear hn
  have HM := Lib.hid hm; clear hm
  go_enter Try.func47, Try.ntmps47
  go_wp2_with fail
  refine (refEditsH A A' c c' n m B a b w HN.out HM.out hmc hln hlm hB hR hR').mono ?_
  have hap := edits_appl a b
  obtain ⟨es, hes⟩ : ∃ es, edits a b = es := ⟨_, rfl⟩
  rw [hes] at hap ⊢
  obtain ⟨N, hN⟩ : ∃ N, es.length = N := ⟨_, rfl⟩
  have hNle := edits_len_le a b
  rw [hes, hN, HN.out, HM.out] at hNle
  have HES := Lib.hid hes; clear hes
  rintro e w1 ⟨A1, c1, rfl, hc1, hE, hnh, hb1⟩
  have HLO := Lib.hid hb1.size
  rw [hN] at hc1 ⊢
  have HW1 := Lib.hid hb1
  have I0 : TInv w1 w.heap.size a b es 0 0 [] (.slice none 0 0) w1 := ⟨⟨[], World.ownsRow_nil _ _ _ _, hcells_nil _ _ _, hhi_nil _⟩, rfl, Below.refl _ _, rfl, 0, true, [], b, hap, rfl, rfl, Nat.zero_le _⟩
  have HE := Lib.hid hE; have HI0 := Lib.hid I0; have HNN := Lib.hid hN
  have HR1 := Lib.hid (Rd.up (Rd.below hR (HW1.out.mono hB)) (Nat.le_trans hB HW1.out.size))
  have HC : Hid (∀ (k : Nat) (p o : Nat) (l : List (List UInt8)) (pa : Addr), A1 = some pa → es[k]? = some ⟨(p : Int), (o : Int), l⟩ → ∃ A3 c3, l.length ≤ c3 ∧ Hi w.heap.size A3 ∧ RdS w1 w1.heap.size A3 l ∧ ∀ w', Below w1.heap.size w1 w' → w'.cell? (pa.add (k * 3)) = some (.int .i64 (p : Int)) ∧ w'.cell? ⟨(pa.add (k * 3)).block, (pa.add (k * 3)).off + 1, none⟩ = some (.int .i64 (o : Int)) ∧ w'.cell? ⟨(pa.add (k * 3)).block, (pa.add (k * 3)).off + 2, none⟩ = some (.slice A3 l.length c3)) := Lib.hid (fun k p o l pa hA hx => by
    rcases hE with h | ⟨a', e, hlt, hc⟩
    · rw [h] at hx; simp at hx
    · rw [hA] at e; injection e with e; subst e
      have h0 := hc k _ hx
      obtain ⟨c0, c1, ⟨A3, c3, k3, hc3, hR3⟩, _⟩ := h0
      have hA3 : Hi w.heap.size A3 := by
        obtain ⟨a2, A', c', e', h2, h3⟩ := hnh k _ hx
        rw [hA] at e'
        injection e' with e'
        subst e'
        rw [k3] at h2
        injection h2 with h2
        injection h2 with h2
        subst h2
        exact h3
      refine ⟨A3, c3, hc3, hA3, hR3, fun w' hb => ?_⟩
      have hpb : (pa.add (k * 3)).block < w1.heap.size := by rw [add_block]; exact hlt
      exact ⟨(hb.cell hpb).trans c0, (hb.cell (p := ⟨(pa.add (k * 3)).block, (pa.add (k * 3)).off + 1, none⟩) hpb).trans c1, (hb.cell (p := ⟨(pa.add (k * 3)).block, (pa.add (k * 3)).off + 2, none⟩) hpb).trans k3⟩)
  clear hap hN hE hb1 I0 hR hR' hnh
  go_wp2_with fail
  go_loopw [6, 7, 8] (fun v6 v7 v8 wr => ∃ (k : Nat) (mv : Int) (pre : List HU), k ≤ N ∧ v8 = .int .i64 (k : Int) ∧ v7 = .int .i64 mv ∧ TInv w1 w.heap.size a b es k mv pre v6 wr) (fun _ _ v8 _ => N - (intOf v8).toNat)
  case atStart => exact ⟨0, 0, [], Nat.zero_le _, rfl, rfl, HI0.out⟩
  case round =>
    obtain ⟨k, mv, pre, hk, rfl, rfl, I⟩ := hrel
    by_cases hlt : k < N
    · have hkl : k < es.length := by rw [HNN.out]; exact hlt
      have heq := I.eq
      obtain ⟨k0, f, u, r0, hap, hur, hul, hk0⟩ := I.at_
      rw [hunk_drop hkl] at heq hap
      have HD := Lib.hid hur
      obtain ⟨pa, rfl, _, _⟩ := HE.out.at_ hkl
      have hcx := HC.out k
      have hget := List.getElem?_eq_getElem hkl
      generalize es[k] = x at *
      obtain ⟨p, o, l⟩ := x
      obtain ⟨⟨z1, z2, z3, z4, z5⟩, r, hap2, hr0⟩ := apl_some hap
      simp only at z1 z3 z4 z5 hap2 hr0
      obtain ⟨p, rfl⟩ : ∃ q : Nat, p = q := ⟨p.toNat, by omega⟩
      obtain ⟨o, rfl⟩ : ∃ q : Nat, o = q := ⟨o.toNat, by omega⟩
      obtain ⟨A3, c3, hc3, hA3, hR3, hcx⟩ := hcx p o l pa rfl hget
      have HA3 := Lib.hid hA3; clear hA3
      obtain ⟨ll, hll⟩ : ∃ ll, l.length = ll := ⟨_, rfl⟩
      rw [HN.out] at z3 z5
      have hblen := congrArg List.length hur
      rw [hr0, HM.out] at hblen
      simp only [List.length_append, hll] at hblen
      rw [hll] at hc3 hcx
      obtain ⟨q, hpq⟩ : ∃ q, p + o = q := ⟨_, rfl⟩
      have hqn : q ≤ n := by omega
      have hll2 : ll ≤ 1000 := by omega
      have hmv1 : -1000000 ≤ mv := by rw [HN.out] at hk0; omega
      have hmv2 : mv ≤ 1000000 := by omega
      have hle : p ≤ q := by omega
      have ho1 : o ≤ 1000 := by omega
      have HCX := Lib.hid hcx
      have HI := Lib.hid I; have HEQ := Lib.hid heq; have HAP2 := Lib.hid hap2; have HR0 := Lib.hid hr0; have HLL := Lib.hid hll; have HUL := Lib.hid hul; have HKP : Hid (k0 ≤ p) := Lib.hid (by omega)
      have HR3 := Lib.hid (Rd.below hR3 I.bl); have HPQ := Lib.hid hpq
      obtain ⟨x0, x1, x2⟩ := hcx wr I.bl
      have t1 : (k : Int) < (N : Int) := by omega
      have t2 : (0 : Int) ≤ (k : Int) := by omega
      have t3 : (0 : Int) ≤ (p : Int) := by omega
      have t4 : (p : Int) ≤ (q : Int) := by omega
      have s1 : IntKind.i64.wrap ((p : Int) + (o : Int)) = (q : Int) := by rw [IntWalk.i64_in _ (by omega)]; omega
      have t5 : (q : Int) ≤ (c : Int) := by omega
      have hL : (mid a p q).length = q - p := mid_len (by rw [HN.out]; omega)
      have HL := Lib.hid hL
      have hD := Rd.take (Rd.drop (Rd.below HR1.out I.bl) (k := p) (cap := c) (by rw [List.length_map, HN.out]; exact hnc)) (q - p)
      have hmm : (((a.map strV).drop p).take (q - p)) = (mid a p q).map strV := mid_map.symm
      rw [hmm] at hD
      have f1 : q - p ≤ maxLen := by unfold maxLen; omega
      have f1' : (q - p) * 16 ≤ 140737488355328 := by omega
      have f2 : k + 1 ≤ maxLen := by unfold maxLen; omega
      have f3 : (k + 1) * 56 ≤ 140737488355328 := by omega
      obtain ⟨xs, hrow, hH, hX⟩ := I.row
      have HROW := Lib.hid hrow; have HH := Lib.hid hH; have HX := Lib.hid hX; clear hX
      clear I heq hap hap2 hr0 hll hur hblen hul hR3 hcx hget z1 z2 z3 z4 z5 hL hmm hpq hrow hH
      obtain hcp | hcp' := Classical.em (p = c)
      · subst hcp
        rw [if_pos rfl] at hD
        have HDT := Lib.hid hD
        clear hD
        go_wp2_with fail
        go_region_held3 (fun w' => w'.cell? (pa.add (k * 3)) = some (.int .i64 (p : Int)) ∧ w'.cell? ⟨(pa.add (k * 3)).block, (pa.add (k * 3)).off + 1, none⟩ = some (.int .i64 (o : Int)) ∧ w'.cell? ⟨(pa.add (k * 3)).block, (pa.add (k * 3)).off + 2, none⟩ = some (.slice A3 ll c3))
          (first
            | go_keep
            | (exact ⟨y0, y1, y2⟩))
          (first
            | ((refine step_nil (o := ⟨some 37, _, _, _, _, _⟩) (by rfl) (.const (.slice none 0 0)) (.tmp 36) 33 (by rfl) 9 j0 (.string ⟨#[]⟩) 16 Try.underlying33 hj0 hx0 hx1 hx2 rfl (by rfl) w1.heap.size A (q - p) 0 ((mid a p q).map strV) (by rfl) ((List.length_map _).trans HL.out) (Rd.drewN HDT.out 1) (strs_one _) f1 f1' ?_; intro D1 k1 w2 hr2 hg2; have HR2 := Lib.hid hr2; have HG2 := Lib.hid hg2;
                have y0 := cell_gr hg2 (nn _) x0; have y1 := cell_gr hg2 (nn _) x1; have y2 := cell_gr hg2 (nn _) x2; clear hr2 hg2)))
        clear s1 x0 x1 x2
        have HROW2 := Lib.hid (own_gr HROW.out (gr_of_drewN (d := 1) HG2.out))
        have HSZ2 := Lib.hid (Nat.le_trans HI.out.bl.size (gr_of_drewN (d := 1) HG2.out).size)
        have s2 : IntKind.i64.wrap ((p : Int) + mv) = (p : Int) + mv := IntWalk.i64_in _ (by omega)
        have hst := fun (w4 : World) (v' : Value) => tstep (w4 := w4) (v' := v') (ob := .cells #[.int .i64 ((p : Int) + mv), .slice D1 (q - p) k1, .slice A3 ll c3] 37) HI.out HROW.out HH.out HX.out HA3.out HLO.out HEQ.out HAP2.out HR0.out HD.out HUL.out HKP.out HN.out HPQ.out hqn hln HLL.out hll2 hmv1 hmv2 hc3 HR3.out HR2.out HG2.out
        have HST := Lib.hid hst; clear hst
        go_wp2_with fail
        go_region_held3 (fun w' => w'.cell? (pa.add (k * 3)) = some (.int .i64 (p : Int)) ∧ w'.cell? ⟨(pa.add (k * 3)).block, (pa.add (k * 3)).off + 1, none⟩ = some (.int .i64 (o : Int)) ∧ w'.cell? ⟨(pa.add (k * 3)).block, (pa.add (k * 3)).off + 2, none⟩ = some (.slice A3 ll c3))
          (first
            | go_keep
            | (exact ⟨cell_alc _ y0, cell_alc _ y1, cell_alc _ y2⟩)
            | (exact hS4))
          (first
            | ((refine step_append_lies (o := ⟨some 54, _, _, _, _, _⟩) _ (by rfl) _ _ _ (by rfl) w1.heap.size 37 i0 _ 3 56 Try.underlying73 hi0 hz0 hz1 hz2 rfl (by decide) u6 k xs (by rfl) ((HROW2.out.drew).alloc _) ⟨w2.heap.size, 0, none⟩ 1 1 [.int .i64 ((p : Int) + mv), .slice D1 (q - p) k1, .slice A3 ll c3] (by rfl) (by rfl) (World.news_of_block (cs := #[.int .i64 ((p : Int) + mv), .slice D1 (q - p) k1, .slice A3 ll c3]) (t := 37) (fr := (0, 0)) (heap_alloc_new w2 _)) (by simp [Value.oneCell']) (by decide) f2 f3 (Nat.le_trans HSZ2.out (by simp)) (w2.heap.size + 1) (by simp) ?_; intro gg cap w4 hown2 hgrow hat4 hlt4;
                have HT := Lib.hid (HST.out w4 _ hown2 hgrow); have hS4 := HCX.out w4 (HT.out 0).bl; clear hown2 hgrow hat4 hlt4)))
        clear s2 y0 y1 y2
        obtain ⟨x0, x1, x2⟩ := HCX.out w4 (HT.out 0).bl
        have s3 : IntKind.i64.wrap (mv + (ll : Int)) = mv + (ll : Int) := IntWalk.i64_in _ (by omega)
        have s4 : IntKind.i64.wrap (mv + (ll : Int) - (o : Int)) = mv + (ll : Int) - (o : Int) := IntWalk.i64_in _ (by omega)
        go_wp2
        go_quiet (fail)
        clear s3 s4
        go_wp2
        go_roundw
        case rel => exact ⟨k + 1, _, _, by omega, by go_num, rfl, HT.out _⟩
        case measure => simp [intOf]; omega
      · have hcp : ¬ c = p := fun h => hcp' h.symm
        clear hcp'
        rw [if_neg hcp] at hD
        have HDT := Lib.hid hD
        clear hD
        go_wp2_with fail
        go_region_held3 (fun w' => w'.cell? (pa.add (k * 3)) = some (.int .i64 (p : Int)) ∧ w'.cell? ⟨(pa.add (k * 3)).block, (pa.add (k * 3)).off + 1, none⟩ = some (.int .i64 (o : Int)) ∧ w'.cell? ⟨(pa.add (k * 3)).block, (pa.add (k * 3)).off + 2, none⟩ = some (.slice A3 ll c3))
          (first
            | go_keep
            | (exact ⟨y0, y1, y2⟩))
          (first
            | ((refine step_nil (o := ⟨some 37, _, _, _, _, _⟩) (by rfl) (.const (.slice none 0 0)) (.tmp 36) 33 (by rfl) 9 j0 (.string ⟨#[]⟩) 16 Try.underlying33 hj0 hx0 hx1 hx2 rfl (by rfl) w1.heap.size (A.map (fun x => x.add p)) (q - p) (c - p) ((mid a p q).map strV) (by rfl) ((List.length_map _).trans HL.out) (Rd.drewN HDT.out 1) (strs_one _) f1 f1' ?_; intro D1 k1 w2 hr2 hg2; have HR2 := Lib.hid hr2; have HG2 := Lib.hid hg2;
                have y0 := cell_gr hg2 (nn _) x0; have y1 := cell_gr hg2 (nn _) x1; have y2 := cell_gr hg2 (nn _) x2; clear hr2 hg2)))
        clear s1 x0 x1 x2
        have HROW2 := Lib.hid (own_gr HROW.out (gr_of_drewN (d := 1) HG2.out))
        have HSZ2 := Lib.hid (Nat.le_trans HI.out.bl.size (gr_of_drewN (d := 1) HG2.out).size)
        have s2 : IntKind.i64.wrap ((p : Int) + mv) = (p : Int) + mv := IntWalk.i64_in _ (by omega)
        have hst := fun (w4 : World) (v' : Value) => tstep (w4 := w4) (v' := v') (ob := .cells #[.int .i64 ((p : Int) + mv), .slice D1 (q - p) k1, .slice A3 ll c3] 37) HI.out HROW.out HH.out HX.out HA3.out HLO.out HEQ.out HAP2.out HR0.out HD.out HUL.out HKP.out HN.out HPQ.out hqn hln HLL.out hll2 hmv1 hmv2 hc3 HR3.out HR2.out HG2.out
        have HST := Lib.hid hst; clear hst
        go_wp2_with fail
        go_region_held3 (fun w' => w'.cell? (pa.add (k * 3)) = some (.int .i64 (p : Int)) ∧ w'.cell? ⟨(pa.add (k * 3)).block, (pa.add (k * 3)).off + 1, none⟩ = some (.int .i64 (o : Int)) ∧ w'.cell? ⟨(pa.add (k * 3)).block, (pa.add (k * 3)).off + 2, none⟩ = some (.slice A3 ll c3))
          (first
            | go_keep
            | (exact ⟨cell_alc _ y0, cell_alc _ y1, cell_alc _ y2⟩)
            | (exact hS4))
          (first
            | ((refine step_append_lies (o := ⟨some 54, _, _, _, _, _⟩) _ (by rfl) _ _ _ (by rfl) w1.heap.size 37 i0 _ 3 56 Try.underlying73 hi0 hz0 hz1 hz2 rfl (by decide) u6 k xs (by rfl) ((HROW2.out.drew).alloc _) ⟨w2.heap.size, 0, none⟩ 1 1 [.int .i64 ((p : Int) + mv), .slice D1 (q - p) k1, .slice A3 ll c3] (by rfl) (by rfl) (World.news_of_block (cs := #[.int .i64 ((p : Int) + mv), .slice D1 (q - p) k1, .slice A3 ll c3]) (t := 37) (fr := (0, 0)) (heap_alloc_new w2 _)) (by simp [Value.oneCell']) (by decide) f2 f3 (Nat.le_trans HSZ2.out (by simp)) (w2.heap.size + 1) (by simp) ?_; intro gg cap w4 hown2 hgrow hat4 hlt4;
                have HT := Lib.hid (HST.out w4 _ hown2 hgrow); have hS4 := HCX.out w4 (HT.out 0).bl; clear hown2 hgrow hat4 hlt4)))
        clear s2 y0 y1 y2
        obtain ⟨x0, x1, x2⟩ := HCX.out w4 (HT.out 0).bl
        have s3 : IntKind.i64.wrap (mv + (ll : Int)) = mv + (ll : Int) := IntWalk.i64_in _ (by omega)
        have s4 : IntKind.i64.wrap (mv + (ll : Int) - (o : Int)) = mv + (ll : Int) - (o : Int) := IntWalk.i64_in _ (by omega)
        go_wp2
        go_quiet (fail)
        clear s3 s4
        go_wp2
        go_roundw
        case rel => exact ⟨k + 1, _, _, by omega, by go_num, rfl, HT.out _⟩
        case measure => simp [intOf]; omega
    · obtain rfl : k = N := by omega
      have heq := I.eq
      rw [List.drop_of_length_le (by rw [HNN.out]; exact Nat.le_refl _), hks, List.append_nil] at heq
      obtain ⟨xs, hrow, hH, hX⟩ := I.row
      obtain ⟨Ar, cr, rfl, hcr, hrd⟩ := rdH_own hrow hH I.len I.bl.size
      have hkh := hkHi_own hrow hX I.len HLO.out
      have hlen := I.len
      rw [heq] at hrd hlen hkh
      have HKH := Lib.hid hkh; clear hkh hX
      have HF := Lib.hid (HW1.out.trans (I.bl.mono HW1.out.size))
      clear I hrow hH heq hlt
      have HLEN := Lib.hid hlen; have HRD := Lib.hid hrd
      clear hlen hrd
      go_wp2
      go_ret
      exact ⟨Ar, cr, by rw [HES.out, HLEN.out]; rfl, by rw [HES.out, HLEN.out]; exact hcr, by rw [HES.out]; exact HRD.out, by rw [HES.out]; exact HKH.out, HF.out⟩

theorem refOf (A A' : Option Addr) (c c' n m B : Nat) (a b : List (List UInt8)) (w : World) (hn : a.length = n) (hm : b.length = m) (hnc : n ≤ c) (hmc : m ≤ c') (hln : n ≤ 1000) (hlm : m ≤ 1000) (hB : B ≤ w.heap.size)
    (hR : RdS w B A a) (hR' : RdS w B A' b) :
    Calls Try.prog 47 #[.slice A n c, .slice A' m c'] w (OfEnd w (hks a 0 (edits a b))) :=
  (refOfH A A' c c' n m B a b w hn hm hnc hmc hln hlm hB hR hR').mono fun e w' h => h.end_

end Hk
end Go.Proofs.Ytjhjmfodpnipiaa
