/-
  What package tidy's Tidy returns (walk).
-/
import Derived.Test.YteiidklmlelabaaTdOwn
import Derived.Test.YteiidklmlelabaaTdStack
import Derived.Test.YteiidklmlelabaaTdUndo
import Derived.Test.YteiidklmlelabaaFlHi
set_option maxRecDepth 100000
namespace Go.Proofs.Yteiidklmlelabaa
open Go.RowKit
set_option linter.unusedVariables false
set_option linter.unusedSimpArgs false
namespace Td
open Tx Df Sq Hk Tr Pr Fl

theorem mine_end {w w' : World} {n : Nat} {l : List Ch} {e : Ending} (hn : l.length = n) (h : MineEnd w n l e w') : LPHi w l e w' := by
  obtain ⟨A, c, rfl, hc, ho, hb⟩ := h
  subst hn
  exact ⟨A, c, rfl, hc, rdP_of_own_hi ho (fun b h => ⟨h.1, h.2.1⟩) (Nat.le_refl _) rfl, hb⟩

set_option maxRecDepth 100000 in
set_option maxHeartbeats 8000000 in
theorem TidyLH (A : Option Addr) (n c : Nat) (l : List Ch) (w : World) (hn : l.length = n) (hle : n ≤ 1000) (hl : Lt l) (hR : RdP w (· < w.heap.size) A l) :
    Calls Try.prog 18 #[.slice A n c] w (LPHi w (tidyP l)) := by
  have HR := Lib.hid hR; have HN := Lib.hid hn; have HL := Lib.hid hl
  clear hR hn hl
  have hS0 : Stk (w.alloc (.cells #[.slice none 0 0] 52)) w.heap.size w.heap.size (tidyP (l.take 0)) := ⟨_, Blk.new w _ _, ownN_nil _ _ _⟩
  have hB0 : Below w.heap.size w (w.alloc (.cells #[.slice none 0 0] 52)) := (Below.refl _ _).alloc (Nat.le_refl _) _
  have HS0 := Lib.hid hS0; have HB0 := Lib.hid hB0
  clear hS0 hB0
  go_enter Try.func18, Try.ntmps18
  go_upto_region 2 with fail
  generalize (w.alloc (.cells #[.slice none 0 0] 52)) = w0 at *
  obtain ⟨b, hb⟩ : ∃ b, w.heap.size = b := ⟨_, rfl⟩
  have HBE := Lib.hid hb
  rw [hb] at HS0 HB0 ⊢
  clear hb
  go_wp2_with fail
  go_loopw [10] (fun i wr => ∃ k : Nat, k ≤ n ∧ i = .int .i64 (k : Int) ∧ Stk wr b b (tidyP (l.take k)) ∧ Below b w wr) (fun i _ => n - (intOf i).toNat)
  case atStart => exact ⟨0, Nat.zero_le _, rfl, HS0.out, HB0.out⟩
  case round =>
    clear HS0 HB0
    obtain ⟨k, hk, rfl, hst, hbw⟩ := hrel
    have HBW := Lib.hid hbw; have HST := Lib.hid hst; clear hbw hst
    have HTL : Hid ((tidyP (l.take k)).length ≤ 1000) := Lib.hid (by have := tidyP_len (l.take k); rw [List.length_take] at this; omega)
    have HBL : Hid (b < wr.heap.size) := Lib.hid (by obtain ⟨v, h, _⟩ := HST.out; exact h.lt)
    by_cases hlt : k < n
    · have hki : (k : Int) < (n : Int) := by omega
      obtain ⟨a, x, B1, i1, j1, D, m1, d1, rfl, hS, hx, c0, c1, c2, c3, c4, c5, c6⟩ := ((HR.out.below (HBE.out ▸ HBW.out)).elem (k := k) (by rw [HN.out]; exact hlt))
      rw [HBE.out] at c6
      have HX := Lib.hid hx
      have HLX := Lib.hid (lt_len c6 (HL.out x (List.mem_of_getElem? hx)))
      have hba : Below wr.heap.size wr (wr.alloc (.cells #[.int .i64 x.k, strV x.nm, strV x.to, .int .i64 x.h.pos, .slice B1 i1 j1, .slice D m1 d1] 43)) := (Below.refl _ _).alloc (Nat.le_refl _) _
      have HPG := Lib.hid (c6.to_ (alike_below (hba.mono (Nat.le_of_lt HBL.out))))
      have HBX := Lib.hid (Blk.new wr 43 #[.int .i64 x.k, strV x.nm, strV x.to, .int .i64 x.h.pos, .slice B1 i1 j1, .slice D m1 d1])
      have HST1 := Lib.hid (HST.out.below hba); have HBW1 := Lib.hid (HBW.out.trans (hba.mono (Nat.le_of_lt HBL.out)))
      have HBL1 := Lib.hid (Nat.lt_of_lt_of_le HBL.out hba.size)
      obtain ⟨bi, hbi⟩ : ∃ b, idleP x = b := ⟨_, rfl⟩
      have HBI := Lib.hid hbi
      clear hx hS c6 hbi hba HST HBW
      go_upto_region 5 with fail
      clear c0 c1 c2 c3 c4 c5
      generalize (wr.alloc (.cells #[.int .i64 x.k, strV x.nm, strV x.to, .int .i64 x.h.pos, .slice B1 i1 j1, .slice D m1 d1] 43)) = w1 at *
      obtain ⟨y, hy⟩ : ∃ y, wr.heap.size = y := ⟨_, rfl⟩
      have HYB := HBL.out
      rw [hy] at HBX HBL HYB ⊢
      clear hy
      have hbx := HBX.out
      have y0 := hbx.cell 0 rfl; have y1 := hbx.cell 1 rfl; have y2 := hbx.cell 2 rfl; have y3 := hbx.cell 3 rfl; have y4 := hbx.cell 4 rfl; have y5 := hbx.cell 5 rfl
      have HPV := Lib.hid (HPG.out.mono (fun k hk => Nat.lt_trans hk HBL1.out) : PG w1 (· < w1.heap.size) B1 i1 j1 D m1 d1 x).pv
      clear hbx HYB
      go_wp2_with fail
      refine (IdleP B1 i1 j1 D m1 d1 x _ bi HPV.out HBI.out).mono ?_
      rintro e w2 ⟨rfl, hb2⟩
      have HST2 := Lib.hid (HST1.out.below hb2); have HBW2 := Lib.hid (HBW1.out.trans (hb2.mono (Nat.le_of_lt HBL1.out))); have HPG2 := Lib.hid (HPG.out.to_ (alike_below (hb2.mono (Nat.le_of_lt HBL1.out)))); have HBX2 := Lib.hid (HBX.out.below hb2 HBX.out.lt)
      have HBL2 := Lib.hid (Nat.lt_of_lt_of_le HBL1.out hb2.size)
      clear y0 y1 y2 y3 y4 y5 HST1 HBW1 HPG HBX HPV HBL1 hb2
      cases bi with
      | true =>
        go_wp2_with fail
        exact ⟨⟨k + 1, by omega, by go_num, by rw [told_idle HX.out HBI.out]; exact HST2.out, HBW2.out⟩, by simp [intOf]; omega⟩
      | false =>
        obtain ⟨v, hv, ho⟩ := HST2.out
        obtain ⟨Av, cv, rfl, hcv⟩ := ownN_slice ho
        obtain ⟨nv, hnv⟩ : ∃ nv, (tidyP (l.take k)).length = nv := ⟨_, rfl⟩
        rw [hnv] at hv ho hcv
        have HV := Lib.hid hv; have HO := Lib.hid ho; have HNV := Lib.hid hnv
        have v0 := hv.cell 0 rfl
        clear hv ho hnv hcv
        by_cases h0 : nv = 0
        · subst h0
          have HNIL : Hid (tidyP (l.take k) = []) := Lib.hid (List.eq_nil_of_length_eq_zero HNV.out)
          go_wp2_with fail
          refine (top_no Av cv w2).mono ?_
          rintro e w3 ⟨rfl, hb3⟩
          have HST3 := Lib.hid (HST2.out.below hb3); have HBW3 := Lib.hid (HBW2.out.trans (hb3.mono (Nat.le_of_lt HBL2.out))); have HPG3 := Lib.hid (HPG2.out.to_ (alike_below (hb3.mono (Nat.le_of_lt HBL2.out)))); have HBX3 := Lib.hid (HBX2.out.below hb3 HBX2.out.lt)
          have HBL3 := Lib.hid (Nat.lt_of_lt_of_le HBL2.out hb3.size)
          clear v0 HST2 HBW2 HPG2 HBX2 HBL2 hb3 HV HO
          have hba : Below w3.heap.size w3 (w3.alloc (.cells #[.int .i64 0, strV [], strV [], .int .i64 0, .slice none 0 0, .slice none 0 0] 43)) := (Below.refl _ _).alloc (Nat.le_refl _) _
          have HST4 := Lib.hid (HST3.out.below hba); have HBW4 := Lib.hid (HBW3.out.trans (hba.mono (Nat.le_of_lt HBL3.out))); have HPG4 := Lib.hid (HPG3.out.to_ (alike_below (hba.mono (Nat.le_of_lt HBL3.out)))); have HBX4 := Lib.hid (HBX3.out.below hba HBX3.out.lt)
          have HBL4 := Lib.hid (Nat.lt_of_lt_of_le HBL3.out hba.size)
          clear hba HST3 HBW3 HPG3 HBX3
          go_upto_region 7 with fail
          generalize (w3.alloc (.cells #[.int .i64 0, strV [], strV [], .int .i64 0, .slice none 0 0, .slice none 0 0] 43)) = w4 at *
          have hbx := HBX4.out
          have y0 := hbx.cell 0 rfl; have y1 := hbx.cell 1 rfl; have y2 := hbx.cell 2 rfl; have y3 := hbx.cell 3 rfl; have y4 := hbx.cell 4 rfl; have y5 := hbx.cell 5 rfl
          clear hbx
          go_wp2_with fail
          refine (push b b (tidyP (l.take k)) B1 i1 j1 D m1 d1 x w4 HST4.out (Nat.le_refl _) HTL.out HPG4.out).mono ?_
          rintro e w6 ⟨rfl, hst, hb6⟩
          have HST6 := Lib.hid hst; have HBW6 := Lib.hid (HBW4.out.trans hb6)
          clear y0 y1 y2 y3 y4 y5 hst hb6 HST4 HBW4
          go_wp2_with fail
          exact ⟨⟨k + 1, by omega, by go_num, by rw [told_first HX.out HBI.out HNIL.out]; exact HST6.out, HBW6.out⟩, by simp [intOf]; omega⟩
        · obtain ⟨s0, o, hso, hsl⟩ := last_form HNV.out h0
          have HSO := Lib.hid hso
          have hoo := HO.out
          rw [hso] at hoo
          have HOO := Lib.hid hoo
          have HSL : Hid (s0.length ≤ 1000) := Lib.hid (by have := HTL.out; have := HNV.out; omega)
          have hlo : lightP o = true := tidyP_lt (fun z hz => HL.out z (List.mem_of_mem_take hz)) o (by rw [hso]; simp)
          have HLO := Lib.hid hlo
          clear hso hsl h0 hoo hlo
          go_wp2_with fail
          refine (top_last b (b + 1) Av nv cv s0 o w2 HOO.out (Nat.le_of_lt HBL2.out) HSL.out).mono ?_
          rintro e w3 ⟨E, r, s, E', r', s', rfl, hpo, hb3⟩
          have HLOO := Lib.hid (lt_len hpo HLO.out)
          have HST3 := Lib.hid (HST2.out.below hb3); have HBW3 := Lib.hid (HBW2.out.trans (hb3.mono (Nat.le_of_lt HBL2.out))); have HPG3 := Lib.hid (HPG2.out.to_ (alike_below (hb3.mono (Nat.le_of_lt HBL2.out)))); have HBX3 := Lib.hid (HBX2.out.below hb3 HBX2.out.lt)
          have HBL3 := Lib.hid (Nat.lt_of_lt_of_le HBL2.out hb3.size)
          clear v0 HST2 HBW2 HPG2 HBX2 HBL2 hb3 HV HO HOO
          have hba : Below w3.heap.size w3 (w3.alloc (.cells #[.int .i64 o.k, strV o.nm, strV o.to, .int .i64 o.h.pos, .slice E r s, .slice E' r' s'] 43)) := (Below.refl _ _).alloc (Nat.le_refl _) _
          have HST4 := Lib.hid (HST3.out.below hba); have HBW4 := Lib.hid (HBW3.out.trans (hba.mono (Nat.le_of_lt HBL3.out))); have HPG4 := Lib.hid (HPG3.out.to_ (alike_below (hba.mono (Nat.le_of_lt HBL3.out)))); have HBX4 := Lib.hid (HBX3.out.below hba HBX3.out.lt)
          have HPO4 := Lib.hid (hpo.to_ (alike_below (hba.mono (Nat.le_of_lt HBL3.out))))
          have HBO4 := Lib.hid (Blk.new w3 43 #[.int .i64 o.k, strV o.nm, strV o.to, .int .i64 o.h.pos, .slice E r s, .slice E' r' s'])
          have HBL4 := Lib.hid (Nat.lt_of_lt_of_le HBL3.out hba.size)
          clear hba hpo HST3 HBW3 HPG3 HBX3
          go_upto_region 7 with fail
          generalize (w3.alloc (.cells #[.int .i64 o.k, strV o.nm, strV o.to, .int .i64 o.h.pos, .slice E r s, .slice E' r' s'] 43)) = w4 at *
          obtain ⟨z, hz⟩ : ∃ z, w3.heap.size = z := ⟨_, rfl⟩
          rw [hz] at HBO4 HBL3 ⊢
          clear hz
          have hbx := HBX4.out
          have y0 := hbx.cell 0 rfl; have y1 := hbx.cell 1 rfl; have y2 := hbx.cell 2 rfl; have y3 := hbx.cell 3 rfl; have y4 := hbx.cell 4 rfl; have y5 := hbx.cell 5 rfl
          have hbo := HBO4.out
          have z0 := hbo.cell 0 rfl; have z1 := hbo.cell 1 rfl; have z2 := hbo.cell 2 rfl; have z3 := hbo.cell 3 rfl; have z4 := hbo.cell 4 rfl; have z5 := hbo.cell 5 rfl
          clear hbx hbo
          obtain ⟨bu, hbu⟩ : ∃ b, decide (x = turnP o) = b := ⟨_, rfl⟩
          have HBU := Lib.hid hbu; clear hbu
          have HPX := Lib.hid (HPG4.out.mono (fun k hk => Nat.lt_trans hk HBL4.out) : PG w4 (· < w4.heap.size) B1 i1 j1 D m1 d1 x).pv
          have HPO := Lib.hid (HPO4.out.mono (fun k hk => Nat.lt_trans hk HBL4.out) : PG w4 (· < w4.heap.size) E r s E' r' s' o).pv
          go_wp2_with fail
          refine (undoes B1 i1 j1 D m1 d1 E r s E' r' s' x o w4 bu HPX.out HPO.out HLOO.out HBU.out).mono ?_
          rintro e w5 ⟨rfl, hb5⟩
          have HST5 := Lib.hid (HST4.out.below hb5); have HBW5 := Lib.hid (HBW4.out.trans (hb5.mono (Nat.le_of_lt HBL4.out))); have HPG5 := Lib.hid (HPG4.out.to_ (alike_below (hb5.mono (Nat.le_of_lt HBL4.out)))); have HBX5 := Lib.hid (HBX4.out.below hb5 HBX4.out.lt)
          have HBL5 := Lib.hid (Nat.lt_of_lt_of_le HBL4.out hb5.size)
          clear y0 y1 y2 y3 y4 y5 z0 z1 z2 z3 z4 z5 HST4 HBW4 HPG4 HBX4 HBO4 HPO4 HPX HPO HBL4 hb5
          cases bu with
          | true =>
            go_wp2_with fail
            refine (pop b b s0 o w5 (HSO.out ▸ HST5.out) (Nat.le_refl _) HSL.out).mono ?_
            rintro e w6 ⟨rfl, hst, hb6⟩
            have HST6 := Lib.hid hst; have HBW6 := Lib.hid (HBW5.out.trans hb6)
            clear hst hb6 HST5 HBW5
            go_wp2_with fail
            exact ⟨⟨k + 1, by omega, by go_num, by rw [told_pop HX.out HBI.out HSO.out HBU.out]; exact HST6.out, HBW6.out⟩, by simp [intOf]; omega⟩
          | false =>
            have hbx := HBX5.out
            have y0 := hbx.cell 0 rfl; have y1 := hbx.cell 1 rfl; have y2 := hbx.cell 2 rfl; have y3 := hbx.cell 3 rfl; have y4 := hbx.cell 4 rfl; have y5 := hbx.cell 5 rfl
            clear hbx
            go_wp2_with fail
            refine (push b b (tidyP (l.take k)) B1 i1 j1 D m1 d1 x w5 HST5.out (Nat.le_refl _) HTL.out HPG5.out).mono ?_
            rintro e w6 ⟨rfl, hst, hb6⟩
            have HST6 := Lib.hid hst; have HBW6 := Lib.hid (HBW5.out.trans hb6)
            clear y0 y1 y2 y3 y4 y5 hst hb6 HST5 HBW5
            go_wp2_with fail
            exact ⟨⟨k + 1, by omega, by go_num, by rw [told_push HX.out HBI.out HSO.out HBU.out]; exact HST6.out, HBW6.out⟩, by simp [intOf]; omega⟩
    · have HE : Hid (l.take k = l) := Lib.hid (List.take_of_length_le (by rw [HN.out]; omega))
      have hst := HST.out
      rw [HE.out] at hst
      obtain ⟨v, hv, ho⟩ := hst
      obtain ⟨Av, cv, rfl, hcv⟩ := ownN_slice ho
      obtain ⟨nv, hnv⟩ : ∃ nv, (tidyP l).length = nv := ⟨_, rfl⟩
      rw [hnv] at hv ho hcv
      have HNV := Lib.hid hnv
      have v0 := hv.cell 0 rfl
      have hlt' : ∀ k, k < b → k < wr.heap.size := fun k hk => Nat.lt_trans hk HBL.out
      have HRD := Lib.hid (rdP_of_own ho hlt' hnv)
      have HLE : Hid (nv ≤ 1000) := Lib.hid (by have := tidyP_len l; have := HN.out; omega)
      clear hv ho hnv hcv hlt' HE
      go_wp2_with fail
      refine (own Av nv cv (tidyP l) wr HNV.out HLE.out (tidyP_lt HL.out) HRD.out).mono ?_
      intro e w2 hm
      obtain ⟨A2, c2, rfl, hc2, hr2, hb2⟩ := mine_end HNV.out hm
      have HR2 := Lib.hid hr2; have HC2 := Lib.hid hc2; have HB2 := Lib.hid hb2
      clear hm hr2 hc2 hb2 v0
      go_wp2
      go_ret
      exact ⟨A2, c2, rfl, HC2.out, HR2.out.mono fun k hk => ⟨by have h1 : wr.heap.size ≤ k := hk.1; have h2 := HBL.out; have h3 := HBE.out; omega, hk.2⟩, by rw [HBE.out]; exact HBW.out.trans (HB2.out.mono (Nat.le_of_lt HBL.out))⟩
theorem TidyL (A : Option Addr) (n c : Nat) (l : List Ch) (w : World) (hn : l.length = n) (hle : n ≤ 1000) (hl : Lt l) (hR : RdP w (· < w.heap.size) A l) :
    Calls Try.prog 18 #[.slice A n c] w (LPEnd w (tidyP l)) := (TidyLH A n c l w hn hle hl hR).mono fun e w' h => h.end_

end Td
end Go.Proofs.Yteiidklmlelabaa
