/-
  What the document's own Tidy and Tight of layer 11 return (walks).
-/
import Derived.Test.YteiidklmlelabaaTdWords
import Derived.Test.YteiidklmlelabaaTdUndo
import Derived.Test.YteiidklmlelabaaFlWords
import Derived.Test.YteiidklmlelabaaFlRef2
set_option maxRecDepth 100000
namespace Go.Proofs.Yteiidklmlelabaa
open Go.RowKit
set_option linter.unusedVariables false
set_option linter.unusedSimpArgs false
namespace Td
open Tx Df Sq Hk Tr Pr Fl

set_option maxRecDepth 100000 in
set_option maxHeartbeats 8000000 in
theorem refTidyL (A : Option Addr) (n c : Nat) (l : List Ch) (w : World) (hn : l.length = n) (hle : n ≤ 1000) (hR : RdP w (· < w.heap.size) A l) :
    Calls Try.prog 19 #[.slice A n c] w (LPEnd w (tidyP l)) := by
  have HR := Lib.hid hR; have HN := Lib.hid hn
  clear hR hn
  go_enter Try.func19, Try.ntmps19
  go_wp2
  go_loopw [3, 4] (fun v3 i wr => ∃ (k : Nat) (A3 : Option Addr) (m3 f3 : Nat), k ≤ n ∧ i = .int .i64 (k : Int) ∧ v3 = .slice A3 m3 f3 ∧ OwnN wr w.heap.size w.heap.size (.slice A3 m3 f3) (tidyP (l.take k)) ∧ Below w.heap.size w wr) (fun _ i _ => n - (intOf i).toNat)
  case atStart => exact ⟨0, none, 0, 0, Nat.zero_le _, rfl, rfl, ownN_nil _ _ _, Below.refl _ _⟩
  case round =>
    obtain ⟨k, A3, m3, f3, hk, rfl, rfl, hO, hbw⟩ := hrel
    have HBW := Lib.hid hbw; have HO := Lib.hid hO; clear hbw hO
    by_cases hlt : k < n
    · have hki : (k : Int) < (n : Int) := by omega
      obtain ⟨a, x, B1, i1, j1, D, m1, d1, rfl, hS, hx, c0, c1, c2, c3, c4, c5, c6⟩ := ((HR.out.below HBW.out).elem (k := k) (by rw [HN.out]; exact hlt))
      have HX := Lib.hid hx; have HSA := Lib.hid hS
      have HPV := Lib.hid (c6.mono (fun b hb => Nat.lt_of_lt_of_le hb HBW.out.size) : PG wr (· < wr.heap.size) B1 i1 j1 D m1 d1 x).pv
      have HPG := Lib.hid c6
      obtain ⟨hm3, hf3⟩ := own_len HO.out
      have HM3 : Hid ((tidyP (l.take k)).length ≤ 1000) := Lib.hid (by have := tidyP_len (l.take k); rw [List.length_take] at this; omega)
      have HL3 := Lib.hid hm3
      obtain ⟨bi, hbi⟩ : ∃ b, idleP x = b := ⟨_, rfl⟩
      have HBI := Lib.hid hbi
      clear hx hS c6 hbi hm3
      go_wp2_with fail
      refine (refIdleP B1 i1 j1 D m1 d1 _ x _ bi (Nat.le_refl _) HPV.out HBI.out).mono ?_
      rintro e w2 ⟨rfl, hb2⟩
      have HO2 := Lib.hid (HO.out.below hb2); have HBW2 := Lib.hid (below_mv HBW.out hb2); have HPG2 := Lib.hid (HPG.out.to_ (alike_below (hb2.mono HBW.out.size))); have HPV2 := Lib.hid (HPV.out.mv hb2)
      have l0 : (a.add (k * 6)).block < wr.heap.size := by rw [add_block]; exact Nat.lt_of_lt_of_le HSA.out HBW.out.size
      replace c0 := cell_b hb2 c0 l0; replace c1 := cell_b hb2 c1 l0; replace c2 := cell_b hb2 c2 l0; replace c3 := cell_b hb2 c3 l0; replace c4 := cell_b hb2 c4 l0; replace c5 := cell_b hb2 c5 l0
      have HL0 := Lib.hid (Nat.lt_of_lt_of_le l0 hb2.size)
      clear HO HBW HPG HPV hb2 l0
      cases bi with
      | true =>
        clear c0 c1 c2 c3 c4 c5
        go_wp2_with fail
        exact ⟨⟨k + 1, A3, m3, f3, by omega, by go_num, rfl, by rw [told_idle HX.out HBI.out]; exact HO2.out, HBW2.out⟩, by simp [intOf]; omega⟩
      | false =>
        by_cases h0 : m3 = 0
        · subst h0
          have HNIL : Hid (tidyP (l.take k) = []) := Lib.hid (List.eq_nil_of_length_eq_zero HL3.out)
          have hba : Below w2.heap.size w2 (w2.alloc (.cells #[.int .i64 x.k, strV x.nm, strV x.to, .int .i64 x.h.pos, .slice B1 i1 j1, .slice D m1 d1] 43)) := (Below.refl _ _).alloc (Nat.le_refl _) _
          have b3 := Blk.new w2 43 #[.int .i64 x.k, strV x.nm, strV x.to, .int .i64 x.h.pos, .slice B1 i1 j1, .slice D m1 d1]
          have HB3 := Lib.hid b3; have HO3 := Lib.hid (HO2.out.below hba); have HBW3 := Lib.hid (HBW2.out.alloc HBW2.out.size (.cells #[.int .i64 x.k, strV x.nm, strV x.to, .int .i64 x.h.pos, .slice B1 i1 j1, .slice D m1 d1] 43))
          have HC3 := Lib.hid (cells_one (HPG2.out.to_ (alike_below (hba.mono HBW2.out.size))))
          clear hba b3
          go_wp2_with (at_builtin; refine wpList_ownN rfl (.tmp 40) (.tmp 45) rfl w.heap.size w.heap.size 1 1 (.slice A3 0 f3) (some ⟨w2.heap.size, 0, none⟩) (tidyP (l.take k)) [x] _ rfl rfl HO3.out HC3.out rfl (.inr ⟨_, rfl, one_srcP HB3.out⟩) rfl (by have := HM3.out; omega) (Nat.le_refl _) HBW3.out.size ?_; intro v' W' ho hg)
          obtain ⟨A4, c4, rfl, _⟩ := ownN_slice ho
          refine ⟨⟨k + 1, A4, _, c4, by omega, by go_num, rfl, ?_, HBW3.out.grown hg HBW3.out.size (fun g e => ownN_ge HO3.out g e)⟩, by simp [intOf]; omega⟩
          rw [told_first HX.out HBI.out HNIL.out]
          exact ho
        · obtain ⟨s, o, hso, hsl⟩ := last_form HL3.out h0
          obtain ⟨g, cap, hv, hgg, hg2⟩ := ownN_addr HO2.out (by rw [HL3.out]; omega)
          injection hv with hv1 hv2 hv3
          subst hv1
          clear hv2 hv3
          obtain ⟨j, hj⟩ : ∃ j, s.length = j := ⟨_, rfl⟩
          have hjm : (m3 : Int) - 1 = (j : Int) := by omega
          have hjl : (j : Int) < (m3 : Int) := by omega
          have hjp : (0 : Int) ≤ (j : Int) := by omega
          have hjf : j ≤ f3 := by omega
          have hj1 : j ≤ 1000 := by have := HM3.out; have := HL3.out; omega
          have hjw : IntKind.i64.wrap (j : Int) = (j : Int) := IntWalk.i64_in _ (by omega)
          have hm0 : (0 : Int) < (m3 : Int) := by omega
          have hoj : (tidyP (l.take k))[j]? = some o := by rw [hso, ← hj]; simp
          obtain ⟨E1, r1, s1, E2, r2, s2, q0, q1, q2, q3, q4, q5, _, q6⟩ := HO2.out.elem HL3.out hoj
          have HSO := Lib.hid hso; have HJ := Lib.hid hj; have HJM := Lib.hid (show j + 1 = m3 by omega)
          have hs2 := HBW2.out.size
          have hpo : PV w2 w2.heap.size E1 r1 s1 E2 r2 s2 o := (q6.mono (fun b hb => Nat.lt_of_lt_of_le hb hs2) : PG w2 (· < w2.heap.size) E1 r1 s1 E2 r2 s2 o).pv
          obtain ⟨bu, hbu⟩ : ∃ b, decide (x = turnP o) = b := ⟨_, rfl⟩
          have HBU := Lib.hid hbu
          have HK : Hid (∀ W, Below w2.heap.size w2 W → W.cell? ⟨g, j * 6, none⟩ = some (.int .i64 o.k) ∧ W.cell? ⟨g, j * 6 + 1, none⟩ = some (strV o.nm) ∧ W.cell? ⟨g, j * 6 + 2, none⟩ = some (strV o.to) ∧ W.cell? ⟨g, j * 6 + 3, none⟩ = some (.int .i64 o.h.pos) ∧ W.cell? ⟨g, j * 6 + 4, none⟩ = some (.slice E1 r1 s1) ∧ W.cell? ⟨g, j * 6 + 5, none⟩ = some (.slice E2 r2 s2) ∧ W.cell? (a.add (k * 6)) = some (.int .i64 x.k) ∧ W.cell? ⟨(a.add (k * 6)).block, (a.add (k * 6)).off + 1, none⟩ = some (strV x.nm) ∧ W.cell? ⟨(a.add (k * 6)).block, (a.add (k * 6)).off + 2, none⟩ = some (strV x.to) ∧ W.cell? ⟨(a.add (k * 6)).block, (a.add (k * 6)).off + 3, none⟩ = some (.int .i64 x.h.pos) ∧ W.cell? ⟨(a.add (k * 6)).block, (a.add (k * 6)).off + 4, none⟩ = some (.slice B1 i1 j1) ∧ W.cell? ⟨(a.add (k * 6)).block, (a.add (k * 6)).off + 5, none⟩ = some (.slice D m1 d1)) := Lib.hid (fun W hb =>
            ⟨cell_b hb q0 hg2, cell_b hb q1 hg2, cell_b hb q2 hg2, cell_b hb q3 hg2, cell_b hb q4 hg2, cell_b hb q5 hg2, cell_b hb c0 HL0.out, cell_b hb c1 HL0.out, cell_b hb c2 HL0.out, cell_b hb c3 HL0.out, cell_b hb c4 HL0.out, cell_b hb c5 HL0.out⟩)
          have C1 := Lib.hid (refUndoes E1 r1 s1 E2 r2 s2 B1 i1 j1 D m1 d1 o x w2.drew bu (hpo.drewN 1) (HPV2.out.drewN 1) hbu)
          have HD := Lib.hid (below_drewN (Below.refl w2.heap.size w2) 1)
          clear hso hsl hgg hg2 hj hoj q6 hpo hs2 hbu
          go_upto_region 9 with fail
          go_region_held3 (fun W => W.cell? ⟨g, j * 6, none⟩ = some (.int .i64 o.k) ∧ W.cell? ⟨g, j * 6 + 1, none⟩ = some (strV o.nm) ∧ W.cell? ⟨g, j * 6 + 2, none⟩ = some (strV o.to) ∧ W.cell? ⟨g, j * 6 + 3, none⟩ = some (.int .i64 o.h.pos) ∧ W.cell? ⟨g, j * 6 + 4, none⟩ = some (.slice E1 r1 s1) ∧ W.cell? ⟨g, j * 6 + 5, none⟩ = some (.slice E2 r2 s2) ∧ W.cell? (a.add (k * 6)) = some (.int .i64 x.k) ∧ W.cell? ⟨(a.add (k * 6)).block, (a.add (k * 6)).off + 1, none⟩ = some (strV x.nm) ∧ W.cell? ⟨(a.add (k * 6)).block, (a.add (k * 6)).off + 2, none⟩ = some (strV x.to) ∧ W.cell? ⟨(a.add (k * 6)).block, (a.add (k * 6)).off + 3, none⟩ = some (.int .i64 x.h.pos) ∧ W.cell? ⟨(a.add (k * 6)).block, (a.add (k * 6)).off + 4, none⟩ = some (.slice B1 i1 j1) ∧ W.cell? ⟨(a.add (k * 6)).block, (a.add (k * 6)).off + 5, none⟩ = some (.slice D m1 d1))
            (first | go_keep | (exact hz))
            (first | (go_at_call 42; (with_reducible refine C1.out.mono ?_); rintro e w3 ⟨rfl, hb⟩; have hb3 := below_mv HD.out hb; have hz := HK.out w3 hb3; clear hb))
          have HO4 := Lib.hid (HO2.out.below hb3); have HBW4 := Lib.hid (below_mv HBW2.out hb3); have HPG4 := Lib.hid (HPG2.out.to_ (alike_below (hb3.mono HBW2.out.size)))
          have l0 := HL0.out
          replace c0 := cell_b hb3 c0 l0; replace c1 := cell_b hb3 c1 l0; replace c2 := cell_b hb3 c2 l0; replace c3 := cell_b hb3 c3 l0; replace c4 := cell_b hb3 c4 l0; replace c5 := cell_b hb3 c5 l0
          clear q0 q1 q2 q3 q4 q5 HO2 HBW2 HPG2 hb3 l0 hz HK C1 HD
          cases bu with
          | true =>
            clear c0 c1 c2 c3 c4 c5
            have hless := HO4.out
            rw [HSO.out] at hless
            have hless := OwnS.less hless (by rw [HJ.out, HJM.out]) HJ.out
            obtain ⟨ys, y1, y2, y3⟩ := srcN_own hless
            have Y1 := Lib.hid y1; have Y2 := Lib.hid y2; have Y3 := Lib.hid y3
            clear y1 y2 y3 hless
            go_wp2_with (at_builtin; refine wpList_ownN rfl (.const (.slice none 0 0)) (.tmp 38) rfl w.heap.size w.heap.size j f3 (.slice none 0 0) (some ⟨g, 0, none⟩) [] s ys rfl rfl (ownN_nil _ _ _) Y2.out Y1.out Y3.out HJ.out (by have := HM3.out; have := HL3.out; simp; omega) (Nat.le_refl _) HBW4.out.size ?_; intro v' W' ho hg)
            obtain ⟨A4, c4, rfl, _⟩ := ownN_slice ho
            refine ⟨⟨k + 1, A4, _, c4, by omega, by go_num, rfl, ?_, HBW4.out.grown hg HBW4.out.size (fun g e => by cases e)⟩, by simp [intOf]; omega⟩
            rw [told_pop HX.out HBI.out HSO.out HBU.out]
            exact ho
          | false =>
            have hba : Below w3.heap.size w3 (w3.alloc (.cells #[.int .i64 x.k, strV x.nm, strV x.to, .int .i64 x.h.pos, .slice B1 i1 j1, .slice D m1 d1] 43)) := (Below.refl _ _).alloc (Nat.le_refl _) _
            have b3 := Blk.new w3 43 #[.int .i64 x.k, strV x.nm, strV x.to, .int .i64 x.h.pos, .slice B1 i1 j1, .slice D m1 d1]
            have HB3 := Lib.hid b3; have HO3 := Lib.hid (HO4.out.below hba); have HBW3 := Lib.hid (HBW4.out.alloc HBW4.out.size (.cells #[.int .i64 x.k, strV x.nm, strV x.to, .int .i64 x.h.pos, .slice B1 i1 j1, .slice D m1 d1] 43))
            have HC3 := Lib.hid (cells_one (HPG4.out.to_ (alike_below (hba.mono HBW4.out.size))))
            clear hba b3
            go_wp2_with (at_builtin; refine wpList_ownN rfl (.tmp 40) (.tmp 45) rfl w.heap.size w.heap.size 1 1 (.slice (some ⟨g, 0, none⟩) m3 f3) (some ⟨w3.heap.size, 0, none⟩) (tidyP (l.take k)) [x] _ rfl rfl HO3.out HC3.out rfl (.inr ⟨_, rfl, one_srcP HB3.out⟩) rfl (by have := HM3.out; omega) (Nat.le_refl _) HBW3.out.size ?_; intro v' W' ho hg)
            obtain ⟨A4, c4, rfl, _⟩ := ownN_slice ho
            refine ⟨⟨k + 1, A4, _, c4, by omega, by go_num, rfl, ?_, HBW3.out.grown hg HBW3.out.size (fun g e => ownN_ge HO3.out g e)⟩, by simp [intOf]; omega⟩
            rw [told_push HX.out HBI.out HSO.out HBU.out]
            exact ho
    · have HE : Hid (l.take k = l) := Lib.hid (List.take_of_length_le (by rw [HN.out]; omega))
      have ho := HO.out
      rw [HE.out] at ho
      have HO' := Lib.hid (OwnS.own ho (Nat.le_refl _) HBW.out.size)
      clear ho
      go_wp2
      go_ret
      exact lpEnd_own HO'.out HBW.out

set_option maxRecDepth 100000 in
set_option maxHeartbeats 8000000 in
theorem refTightL (A : Option Addr) (n c : Nat) (l : List Ch) (w : World) (b : Bool) (hn : l.length = n) (hle : n ≤ 1000) (hR : RdP w (· < w.heap.size) A l) (hb : tightP l = b) :
    Calls Try.prog 20 #[.slice A n c] w (BoolEnd w b) := by
  have HR := Lib.hid hR; have HN := Lib.hid hn
  have HB := Lib.hid hb.symm
  clear hR hn hb
  go_enter Try.func20, Try.ntmps20
  go_wp2
  go_loopw [3] (fun i wr => ∃ k : Nat, k ≤ n ∧ i = .int .i64 (k : Int) ∧ TightTo l k ∧ Below w.heap.size w wr) (fun i _ => n - (intOf i).toNat)
  case atStart => exact ⟨0, Nat.zero_le _, rfl, tightTo_0 l, Below.refl _ _⟩
  case round =>
    obtain ⟨k, hk, rfl, hall, hbw⟩ := hrel
    have HBW := Lib.hid hbw; have HAL := Lib.hid hall; clear hbw hall
    by_cases hlt : k < n
    · have hki : (k : Int) < (n : Int) := by omega
      obtain ⟨a, x, B1, i1, j1, D, m1, d1, rfl, hS, hx, c0, c1, c2, c3, c4, c5, c6⟩ := ((HR.out.mv HBW.out).elem (k := k) (by rw [HN.out]; exact hlt))
      have HX := Lib.hid hx; have HPV := Lib.hid c6.pv; have HSA := Lib.hid hS
      obtain ⟨bi, hbi⟩ : ∃ b, idleP x = b := ⟨_, rfl⟩
      have HBI := Lib.hid hbi
      clear hx c6 hS hbi
      go_wp2_with fail
      refine (refIdleP B1 i1 j1 D m1 d1 _ x _ bi (Nat.le_refl _) HPV.out HBI.out).mono ?_
      rintro e w2 ⟨rfl, hb2⟩
      have HBW2 := Lib.hid (below_mv HBW.out hb2); have HPV2 := Lib.hid (HPV.out.mv hb2)
      have HSA2 := Lib.hid (Nat.lt_of_lt_of_le HSA.out hb2.size)
      have l0 : (a.add (k * 6)).block < wr.heap.size := by rw [add_block]; exact HSA.out
      replace c0 := cell_b hb2 c0 l0; replace c1 := cell_b hb2 c1 l0; replace c2 := cell_b hb2 c2 l0; replace c3 := cell_b hb2 c3 l0; replace c4 := cell_b hb2 c4 l0; replace c5 := cell_b hb2 c5 l0
      clear HBW HPV HSA hb2 l0
      cases bi with
      | true =>
        clear c0 c1 c2 c3 c4 c5
        go_wp2
        go_ret
        exact ⟨ret_bool (by rw [HB.out, tightP_false HX.out HBI.out]), HBW2.out⟩
      | false =>
        by_cases h0 : k = 0
        · subst h0
          clear c0 c1 c2 c3 c4 c5
          go_wp2_with fail
          exact ⟨⟨0 + 1, by omega, by go_num, tightTo_1 HX.out HBI.out, HBW2.out⟩, by simp [intOf]; omega⟩
        · obtain ⟨j, hjk⟩ : ∃ j, k = j + 1 := ⟨k - 1, by omega⟩
          have hjm : (k : Int) - 1 = (j : Int) := by omega
          have hjl : (j : Int) < (n : Int) := by omega
          have hjp : (0 : Int) ≤ (j : Int) := by omega
          have hj0 : (0 : Int) < (k : Int) := by omega
          have hj1 : j ≤ 1000 := by omega
          have hjw : IntKind.i64.wrap (j : Int) = (j : Int) := IntWalk.i64_in _ (by omega)
          have HJN : Hid (j < n) := Lib.hid (by omega)
          have HKJ := Lib.hid hjk
          clear hjk
          obtain ⟨a', o, E1, r1, s1, E2, r2, s2, ea, _, hoj, q0, q1, q2, q3, q4, q5, q6⟩ := ((HR.out.mv HBW2.out).elem (k := j) (by rw [HN.out]; exact HJN.out))
          injection ea with ea
          subst ea
          have HOJ := Lib.hid hoj
          have hpo : PV w2 w2.heap.size E1 r1 s1 E2 r2 s2 o := q6.pv
          obtain ⟨bu, hbu⟩ : ∃ b, decide (x = turnP o) = b := ⟨_, rfl⟩
          have HBU := Lib.hid hbu
          have HK : Hid (∀ W, Below w2.heap.size w2 W → W.cell? (a.add (j * 6)) = some (.int .i64 o.k) ∧ W.cell? ⟨(a.add (j * 6)).block, (a.add (j * 6)).off + 1, none⟩ = some (strV o.nm) ∧ W.cell? ⟨(a.add (j * 6)).block, (a.add (j * 6)).off + 2, none⟩ = some (strV o.to) ∧ W.cell? ⟨(a.add (j * 6)).block, (a.add (j * 6)).off + 3, none⟩ = some (.int .i64 o.h.pos) ∧ W.cell? ⟨(a.add (j * 6)).block, (a.add (j * 6)).off + 4, none⟩ = some (.slice E1 r1 s1) ∧ W.cell? ⟨(a.add (j * 6)).block, (a.add (j * 6)).off + 5, none⟩ = some (.slice E2 r2 s2) ∧ W.cell? (a.add (k * 6)) = some (.int .i64 x.k) ∧ W.cell? ⟨(a.add (k * 6)).block, (a.add (k * 6)).off + 1, none⟩ = some (strV x.nm) ∧ W.cell? ⟨(a.add (k * 6)).block, (a.add (k * 6)).off + 2, none⟩ = some (strV x.to) ∧ W.cell? ⟨(a.add (k * 6)).block, (a.add (k * 6)).off + 3, none⟩ = some (.int .i64 x.h.pos) ∧ W.cell? ⟨(a.add (k * 6)).block, (a.add (k * 6)).off + 4, none⟩ = some (.slice B1 i1 j1) ∧ W.cell? ⟨(a.add (k * 6)).block, (a.add (k * 6)).off + 5, none⟩ = some (.slice D m1 d1)) := Lib.hid (fun W hb => by
            have hg2 : (a.add (j * 6)).block < w2.heap.size := by rw [add_block]; exact HSA2.out
            have l0 : (a.add (k * 6)).block < w2.heap.size := by rw [add_block]; exact HSA2.out
            exact ⟨cell_b hb q0 hg2, cell_b hb q1 hg2, cell_b hb q2 hg2, cell_b hb q3 hg2, cell_b hb q4 hg2, cell_b hb q5 hg2, cell_b hb c0 l0, cell_b hb c1 l0, cell_b hb c2 l0, cell_b hb c3 l0, cell_b hb c4 l0, cell_b hb c5 l0⟩)
          have C1 := Lib.hid (refUndoes E1 r1 s1 E2 r2 s2 B1 i1 j1 D m1 d1 o x w2.drew bu (hpo.drewN 1) (HPV2.out.drewN 1) hbu)
          have HD := Lib.hid (below_drewN (Below.refl w2.heap.size w2) 1)
          clear hoj q6 hpo hbu
          go_upto_region 8 with fail
          go_region_held3 (fun W => W.cell? (a.add (j * 6)) = some (.int .i64 o.k) ∧ W.cell? ⟨(a.add (j * 6)).block, (a.add (j * 6)).off + 1, none⟩ = some (strV o.nm) ∧ W.cell? ⟨(a.add (j * 6)).block, (a.add (j * 6)).off + 2, none⟩ = some (strV o.to) ∧ W.cell? ⟨(a.add (j * 6)).block, (a.add (j * 6)).off + 3, none⟩ = some (.int .i64 o.h.pos) ∧ W.cell? ⟨(a.add (j * 6)).block, (a.add (j * 6)).off + 4, none⟩ = some (.slice E1 r1 s1) ∧ W.cell? ⟨(a.add (j * 6)).block, (a.add (j * 6)).off + 5, none⟩ = some (.slice E2 r2 s2) ∧ W.cell? (a.add (k * 6)) = some (.int .i64 x.k) ∧ W.cell? ⟨(a.add (k * 6)).block, (a.add (k * 6)).off + 1, none⟩ = some (strV x.nm) ∧ W.cell? ⟨(a.add (k * 6)).block, (a.add (k * 6)).off + 2, none⟩ = some (strV x.to) ∧ W.cell? ⟨(a.add (k * 6)).block, (a.add (k * 6)).off + 3, none⟩ = some (.int .i64 x.h.pos) ∧ W.cell? ⟨(a.add (k * 6)).block, (a.add (k * 6)).off + 4, none⟩ = some (.slice B1 i1 j1) ∧ W.cell? ⟨(a.add (k * 6)).block, (a.add (k * 6)).off + 5, none⟩ = some (.slice D m1 d1))
            (first | go_keep | (exact hz))
            (first | (go_at_call 42; (with_reducible refine C1.out.mono ?_); rintro e w3 ⟨rfl, hb⟩; have hb3 := below_mv HD.out hb; have hz := HK.out w3 hb3; clear hb))
          have HBW4 := Lib.hid (below_mv HBW2.out hb3)
          clear c0 c1 c2 c3 c4 c5 q0 q1 q2 q3 q4 q5 HBW2 hb3 hz HK C1 HD
          cases bu with
          | true =>
            go_wp2
            go_ret
            exact ⟨ret_bool (by rw [HB.out, tightP_undone (HKJ.out ▸ HX.out) HOJ.out HBU.out]), HBW4.out⟩
          | false =>
            go_wp2_with fail
            exact ⟨⟨k + 1, by omega, by go_num, by have h1 := HAL.out; have h2 := HX.out; rw [HKJ.out] at h1 h2 ⊢; exact tightTo_step h1 h2 HOJ.out HBI.out HBU.out, HBW4.out⟩, by simp [intOf]; omega⟩
    · go_wp2
      go_ret
      exact ⟨ret_bool (by rw [HB.out, tightTo_all HAL.out (by rw [HN.out]; omega)]), HBW.out⟩

end Td
end Go.Proofs.Yteiidklmlelabaa
