/-
  The statement TidyIdle: changes that change nothing, put in anywhere, do not matter.
-/
import Derived.Test.YteiidklmlelabaaTdPart
import Derived.Test.YteiidklmlelabaaGR
import Derived.Test.YteiidklmlelabaaFlAwake
import Derived.Test.YteiidklmlelabaaTdAwake
import Derived.Test.YteiidklmlelabaaFlOpen
import Derived.Test.YteiidklmlelabaaFlLaw
import Derived.OpenShut
import Derived.ShutString
import Derived.BigQuiet
set_option maxRecDepth 100000
namespace Go.Proofs.Yteiidklmlelabaa
open Go.RowKit
set_option linter.unusedVariables false
open Tr Tx Hk Pr Fl
namespace TdLIdle

theorem idle_in {l : List Ch} {p : Ch} (h : idleP p = true) (k : Nat) : Td.tidyP ([] ++ l.take k ++ [p] ++ l.drop k) = Td.tidyP l := by
  have e : ([] ++ l.take k ++ [p] ++ l.drop k) = l.take k ++ p :: l.drop k := by simp
  rw [e]
  exact (Td.tidy_idle idleP turnP h (l.take k) (l.drop k)).trans (by rw [List.take_append_drop])
theorem rdP_t {W : World} {S : Nat → Prop} {A : Option Addr} {l : List Ch} (k : Nat) (h : RdP W S A l) : RdP W S A (l.take k) := Td.rdP_take h k

set_option maxRecDepth 100000 in
set_option maxHeartbeats 8000000 in
theorem tidyIdle_walk (A_l : Option Addr) (n_l c_l : Nat) (l : List Ch) (A_p : Option Addr) (n_p c_p : Nat) (B_p : Option Addr) (m_p d_p : Nat) (p : Ch) (at_ : Int) (w : World) (h_l : PrsArg w A_l n_l c_l l) (h_p : PV w w.heap.size A_p n_p c_p B_p m_p d_p p) :
    Calls Try.prog 10 #[.slice A_l n_l c_l, prV p.k p.nm p.to p.h.pos A_p n_p c_p B_p m_p d_p, .int .i64 at_] w (LawEnd w) := by
  have HR_l := Lib.hid h_l.rd; have HN_l := Lib.hid h_l.len; have HC_l := Lib.hid h_l.cap; have HM_l := Lib.hid h_l.le
  have HPP := Lib.hid h_p
  have HY := Lib.hid (Blk.new w 43 #[.int .i64 p.k, strV p.nm, strV p.to, .int .i64 p.h.pos, .slice A_p n_p c_p, .slice B_p m_p d_p])
  have HB := Lib.hid (Below.refl w.heap.size w)
  clear h_l h_p
  have hb : Below w.heap.size w (w.alloc (.cells #[.int .i64 p.k, strV p.nm, strV p.to, .int .i64 p.h.pos, .slice A_p n_p c_p, .slice B_p m_p d_p] 43)) := (Below.refl _ _).alloc (Nat.le_refl _) _
  replace HPP := Lib.hid (HPP.out.mv hb)
  replace HR_l := Lib.hid (HR_l.out.mv hb)
  replace HB := Lib.hid (below_mv HB.out hb)
  clear hb
  go_enter Try.func10, Try.ntmps10
  go_upto_region 1 with fail
  generalize (w.alloc (.cells #[.int .i64 p.k, strV p.nm, strV p.to, .int .i64 p.h.pos, .slice A_p n_p c_p, .slice B_p m_p d_p] 43)) = w0 at *
  obtain ⟨y, hy⟩ : ∃ y, w.heap.size = y := ⟨_, rfl⟩
  rw [hy] at HY ⊢
  clear hy
  go_wp2_with fail
  refine (Td.awake w0).mono ?_
  rintro e w1 ⟨rfl, hb⟩
  replace HPP := Lib.hid (HPP.out.mv hb); replace HY := Lib.hid (HY.out.below hb HY.out.lt)
  replace HR_l := Lib.hid (HR_l.out.mv hb)
  replace HB := Lib.hid (below_mv HB.out hb)
  clear hb
  obtain ⟨bl_l, hbl⟩ : ∃ bb, fewP l 30 = bb := ⟨_, rfl⟩
  have HBL_l := Lib.hid hbl; clear hbl
  go_wp2_with fail
  refine (Few A_l n_l c_l 30 l _ bl_l (by decide) ⟨HN_l.out, HC_l.out, HM_l.out, HR_l.out⟩ HBL_l.out).mono ?_
  rintro e w2 ⟨rfl, hb⟩
  replace HPP := Lib.hid (HPP.out.mv hb); replace HY := Lib.hid (HY.out.below hb HY.out.lt)
  replace HR_l := Lib.hid (HR_l.out.mv hb)
  replace HB := Lib.hid (below_mv HB.out hb)
  clear hb
  have hy := HY.out
  have y0 := hy.cell 0 rfl; have y1 := hy.cell 1 rfl; have y2 := hy.cell 2 rfl; have y3 := hy.cell 3 rfl; have y4 := hy.cell 4 rfl; have y5 := hy.cell 5 rfl
  clear hy
  have hb : Below w2.heap.size w2 (w2.alloc (.cells #[.int .i64 p.k, strV p.nm, strV p.to, .int .i64 p.h.pos, .slice A_p n_p c_p, .slice B_p m_p d_p] 43)) := (Below.refl _ _).alloc (Nat.le_refl _) _
  have HZ := Lib.hid (Blk.new w2 43 #[.int .i64 p.k, strV p.nm, strV p.to, .int .i64 p.h.pos, .slice A_p n_p c_p, .slice B_p m_p d_p])
  replace HPP := Lib.hid (HPP.out.mv hb); replace HY := Lib.hid (HY.out.below hb HY.out.lt)
  replace HR_l := Lib.hid (HR_l.out.mv hb)
  replace HB := Lib.hid (below_mv HB.out hb)
  clear hb
  go_wp2_with fail
  clear y0 y1 y2 y3 y4 y5
  generalize (w2.alloc (.cells #[.int .i64 p.k, strV p.nm, strV p.to, .int .i64 p.h.pos, .slice A_p n_p c_p, .slice B_p m_p d_p] 43)) = w3 at *
  obtain ⟨z, hz⟩ : ∃ z, w2.heap.size = z := ⟨_, rfl⟩
  rw [hz] at HZ ⊢
  clear hz
  obtain ⟨bp, hbp⟩ : ∃ bb, fewP [p] 1 = bb := ⟨_, rfl⟩
  have HBP := Lib.hid hbp; clear hbp
  refine (Few (some ⟨z, 0, none⟩) 1 1 1 [p] w3 bp (by decide) ⟨rfl, Nat.le_refl _, by unfold maxLen; omega, rdP_one HZ.out (pg_of HPP.out) HZ.out.lt⟩ HBP.out).mono ?_
  rintro e w4 ⟨rfl, hb⟩
  replace HPP := Lib.hid (HPP.out.mv hb); replace HY := Lib.hid (HY.out.below hb HY.out.lt)
  replace HR_l := Lib.hid (HR_l.out.mv hb)
  replace HB := Lib.hid (below_mv HB.out hb)
  clear hb
  clear HZ
  cases bl_l with
  | false =>
    go_wp2
    go_ret
    exact ⟨rfl, HB.out⟩
  | true =>
  have HL_l := Lib.hid (fewP_lt HBL_l.out); have HQ_l : Hid (n_l ≤ 40) := Lib.hid (by have h1 := fewP_len HBL_l.out; have h2 := HN_l.out; omega)
  cases bp with
  | false =>
    go_wp2
    go_ret
    exact ⟨rfl, HB.out⟩
  | true =>
  by_cases h0 : at_ < 0
  case pos =>
    go_wp2
    go_ret
    exact ⟨rfl, HB.out⟩
  obtain ⟨k, rfl⟩ : ∃ k : Nat, at_ = (k : Int) := ⟨at_.toNat, by omega⟩
  by_cases h1 : (n_l : Int) < (k : Int)
  case pos =>
    go_wp2
    go_ret
    exact ⟨rfl, HB.out⟩
  obtain ⟨bi, hbi⟩ : ∃ b, idleP p = b := ⟨_, rfl⟩
  have HBI := Lib.hid hbi; clear hbi
  have hy := HY.out
  have y0 := hy.cell 0 rfl; have y1 := hy.cell 1 rfl; have y2 := hy.cell 2 rfl; have y3 := hy.cell 3 rfl; have y4 := hy.cell 4 rfl; have y5 := hy.cell 5 rfl
  clear hy
  go_wp2_with fail
  refine (IdleP A_p n_p c_p B_p m_p d_p p w4 bi HPP.out HBI.out).mono ?_
  clear y0 y1 y2 y3 y4 y5
  rintro e w5 ⟨rfl, hb⟩
  replace HPP := Lib.hid (HPP.out.mv hb); replace HY := Lib.hid (HY.out.below hb HY.out.lt)
  replace HR_l := Lib.hid (HR_l.out.mv hb)
  replace HB := Lib.hid (below_mv HB.out hb)
  clear hb
  cases bi with
  | false =>
    go_wp2
    go_ret
    exact ⟨rfl, HB.out⟩
  | true =>
  go_upto_region 6 with fail
  have hkn : k ≤ n_l := by omega
  have hkc : k ≤ c_l := by have := HC_l.out; omega
  obtain ⟨N, hN⟩ : ∃ N, w5.heap.size = N := ⟨_, rfl⟩
  have HNW := Lib.hid hN
  have hr := HR_l.out
  have hpg := pg_of HPP.out
  rw [hN] at hr hpg
  have HRN := Lib.hid hr; have HPN := Lib.hid hpg
  clear hr hpg
  have hy := HY.out
  have y0 := hy.cell 0 rfl; have y1 := hy.cell 1 rfl; have y2 := hy.cell 2 rfl; have y3 := hy.cell 3 rfl; have y4 := hy.cell 4 rfl; have y5 := hy.cell 5 rfl
  clear hy
  have hbA : Below N w5 (w5.alloc (.cells #[.int .i64 p.k, strV p.nm, strV p.to, .int .i64 p.h.pos, .slice A_p n_p c_p, .slice B_p m_p d_p] 43)).drew := below_drewN (by rw [← hN]; exact (Below.refl _ _).alloc (Nat.le_refl _) _) 1
  have hbB : Below N w5 w5.drew := below_drewN (by rw [← hN]; exact Below.refl _ _) 1
  have hzA : Blk (w5.alloc (.cells #[.int .i64 p.k, strV p.nm, strV p.to, .int .i64 p.h.pos, .slice A_p n_p c_p, .slice B_p m_p d_p] 43)).drew w5.heap.size 43 #[.int .i64 p.k, strV p.nm, strV p.to, .int .i64 p.h.pos, .slice A_p n_p c_p, .slice B_p m_p d_p] := (Blk.new w5 43 #[.int .i64 p.k, strV p.nm, strV p.to, .int .i64 p.h.pos, .slice A_p n_p c_p, .slice B_p m_p d_p]).drewN 1
  have HBA := Lib.hid hbA; have HBB := Lib.hid hbB; have HZA := Lib.hid hzA
  clear hbA hbB hzA hN
  by_cases hck : c_l = k
  case pos =>
    subst hck
    have HK1 : Hid (List.length (l.take c_l) = c_l) := Lib.hid (by rw [List.length_take, HN_l.out]; omega)
    have HK3 : Hid (List.length (l.drop c_l) = n_l - c_l) := Lib.hid (by rw [List.length_drop, HN_l.out])
    have hn1 : ([] : List Ch).length + c_l ≤ 100000 := by have := HQ_l.out; simp; omega
    have hn2 : (List.length ([] ++ (l.take c_l))) + 1 ≤ 100000 := by have := HQ_l.out; rw [List.nil_append, HK1.out]; omega
    have hn3 : (List.length ([] ++ (l.take c_l) ++ [p])) + (n_l - c_l) ≤ 100000 := by have := HQ_l.out; rw [List.nil_append, List.length_append, HK1.out]; simp; omega
    have HA1 := Lib.hid hn1; have HA2 := Lib.hid hn2; have HA3 := Lib.hid hn3
    clear hn1 hn2 hn3
    have HSA := Lib.hid (Td.srcN_rd (rdP_t c_l (HRN.out.below HBA.out))); have HSB := Lib.hid (Td.srcN_rd (rdP_t c_l (HRN.out.below HBB.out)))
    have HRD : Hid (∀ X, Below N w5 X → Td.SrcN X N A_l (l.drop c_l)) := Lib.hid (fun X hb => Td.srcN_rd (by rw [List.drop_of_length_le (by rw [HN_l.out]; exact HC_l.out)]; exact .inl rfl))
    have HPX : Hid (∀ X, Below N w5 X → PG X (· < N) A_p n_p c_p B_p m_p d_p p) := Lib.hid (fun X hb => HPN.out.to_ (alike_below hb))
    have HZA1 := HBA.out.size; have HZB1 := HBB.out.size; have hNs : N ≤ w5.heap.size := Nat.le_of_eq HNW.out.symm
    have HLA := Lib.hid (Nat.le_trans hNs HZA1); have HLB := Lib.hid (Nat.le_trans hNs HZB1)
    clear HZA1 HZB1 hNs
    go_region_law (first
      | (refine Td.step_ownN (o := ⟨some 46, _, _, _, _, _⟩) rfl (.const (.slice none 0 0)) (.tmp 45) rfl rfl rfl (ownN_nil (w5.alloc (.cells #[.int .i64 p.k, strV p.nm, strV p.to, .int .i64 p.h.pos, .slice A_p n_p c_p, .slice B_p m_p d_p] 43)).drew N N) HSA.out HK1.out HA1.out (Nat.le_refl _) HLA.out ?_; intro v1 u1 ho hg; have hb1 := below_gr hg; have HBL1 := Lib.hid (HBA.out.trans (hb1.mono HLA.out)); have HO1 := Lib.hid ho; have HS1 := Lib.hid (Td.srcN_one (HZA.out.below hb1 HZA.out.lt) (HPX.out u1 HBL1.out)); have HL1 := Lib.hid (Nat.le_trans HLA.out hb1.size); clear hb1 ho hg)
      | (refine Td.step_ownN (o := ⟨some 46, _, _, _, _, _⟩) rfl (.const (.slice none 0 0)) (.tmp 45) rfl rfl rfl (ownN_nil w5.drew N N) HSB.out HK1.out HA1.out (Nat.le_refl _) HLB.out ?_; intro v1 u1 ho hg; have hb0 := below_gr hg; have hbx : Below u1.heap.size u1 (u1.alloc (.cells #[.int .i64 p.k, strV p.nm, strV p.to, .int .i64 p.h.pos, .slice A_p n_p c_p, .slice B_p m_p d_p] 43)) := (Below.refl _ _).alloc (Nat.le_refl _) _; have hb1 := hb0.trans (hbx.mono hb0.size); have HBL1 := Lib.hid (HBB.out.trans (hb1.mono HLB.out)); have HO1 := Lib.hid (OwnS.below ho hbx); have HS1 := Lib.hid (Td.srcN_one (Blk.new u1 43 #[.int .i64 p.k, strV p.nm, strV p.to, .int .i64 p.h.pos, .slice A_p n_p c_p, .slice B_p m_p d_p]) (HPX.out (u1.alloc (.cells #[.int .i64 p.k, strV p.nm, strV p.to, .int .i64 p.h.pos, .slice A_p n_p c_p, .slice B_p m_p d_p] 43)) HBL1.out)); have HL1 := Lib.hid (Nat.le_trans HLB.out hb1.size); have hyu := (HY.out.drewN 1).below hb0 HY.out.lt; have r0 := hyu.cell 0 rfl; have r1 := hyu.cell 1 rfl; have r2 := hyu.cell 2 rfl; have r3 := hyu.cell 3 rfl; have r4 := hyu.cell 4 rfl; have r5 := hyu.cell 5 rfl; clear hyu hb0 hbx hb1 ho hg)
      | (refine Td.step_ownN (o := ⟨some 49, _, _, _, _, _⟩) rfl (.tmp 46) (.tmp 48) rfl rfl rfl HO1.out HS1.out rfl HA2.out (Nat.le_refl _) HL1.out ?_; intro v2 u2 ho hg; have HBL2 := Lib.hid (HBL1.out.grown hg HL1.out (fun k e => ownN_ge HO1.out k e)); have HO2 := Lib.hid ho; have HS2 := Lib.hid (HRD.out u2 HBL2.out); have HL2 := Lib.hid (Nat.le_trans HL1.out hg.size); clear ho hg)
      | (refine Td.step_ownN (o := ⟨some 53, _, _, _, _, _⟩) rfl (.tmp 49) (.tmp 52) rfl rfl rfl HO2.out HS2.out HK3.out HA3.out (Nat.le_refl _) HL2.out ?_; intro v3 u3 ho hg; have HBL3 := Lib.hid (HBL2.out.grown hg HL2.out (fun k e => ownN_ge HO2.out k e)); obtain ⟨A_m, c_m, hv3, hc3⟩ := ownN_slice ho; have HO3 := Lib.hid ho; obtain ⟨n_m, hn⟩ : ∃ n, List.length ([] ++ (l.take c_l) ++ [p] ++ (l.drop c_l)) = n := ⟨_, rfl⟩; rw [hn] at hv3; have HN_m := Lib.hid hn; subst hv3; clear ho hg hn hc3))
    all_goals
      have hnm : n_m ≤ 41 := by have h1 := HN_m.out; have h2 := HQ_l.out; simp only [List.nil_append, List.length_append, HK1.out, HK3.out, List.length_singleton] at h1; omega
      have HQ_m : Hid (n_m ≤ 100) := Lib.hid (by omega)
      have hb : Below w5.heap.size w5 u3 := by rw [HNW.out]; exact HBL3.out
      have HR_m : Hid (RdP u3 (· < u3.heap.size) A_m ([] ++ (l.take c_l) ++ [p] ++ (l.drop c_l))) := Lib.hid (by have h := HO3.out; have hl := HN_m.out; have h2 := HBL3.out.size; have h3 := HNW.out; exact rdP_of_own h (fun b hb => by have hb : b < N := hb; omega) hl)
      have HL_m : Hid (Lt ([] ++ (l.take c_l) ++ [p] ++ (l.drop c_l))) := Lib.hid (Lt.app (Lt.app (Lt.app lt_nil (fun x hx => HL_l.out x (List.mem_of_mem_take hx))) (fewP_lt HBP.out)) (fun x hx => HL_l.out x (List.mem_of_mem_drop hx)))
      clear y0 y1 y2 y3 y4 y5
      replace HR_l := Lib.hid (HR_l.out.mv hb)
      replace HB := Lib.hid (below_mv HB.out hb)
      clear hb
      go_wp2_with fail
      refine (Td.TidyL A_m n_m c_m ([] ++ (l.take c_l) ++ [p] ++ (l.drop c_l)) u3 HN_m.out (by have := HQ_m.out; omega) HL_m.out HR_m.out).mono ?_
      rintro e w6 ⟨A_r, c_r, rfl, _, hx, hb⟩
      replace HR_l := Lib.hid (HR_l.out.mv hb)
      replace HR_m := Lib.hid (HR_m.out.mv hb)
      replace HB := Lib.hid (below_mv HB.out hb)
      clear hb
      have HR_r := Lib.hid hx; clear hx
      have hrw : (Td.tidyP ([] ++ (l.take c_l) ++ [p] ++ (l.drop c_l))) = (Td.tidyP l) := idle_in HBI.out c_l
      rw [hrw] at HR_r ⊢
      clear hrw
      obtain ⟨n_r, hn⟩ : ∃ n, List.length (Td.tidyP l) = n := ⟨_, rfl⟩
      rw [hn]
      have HN_r := Lib.hid hn; clear hn
      have HL_r := Lib.hid (Td.tidyP_lt HL_l.out)
      have HQ_r : Hid (n_r ≤ 1000) := Lib.hid (by have h1 := HN_r.out; have h2 := Td.tidyP_len l; have h3 := HN_l.out; have h4 := HQ_l.out; omega)
      go_wp2_with fail
      refine (Td.TidyL A_l n_l c_l l w6 HN_l.out (by have := HQ_l.out; omega) HL_l.out HR_l.out).mono ?_
      rintro e w7 ⟨A_q, c_q, rfl, _, hx, hb⟩
      replace HR_l := Lib.hid (HR_l.out.mv hb)
      replace HR_m := Lib.hid (HR_m.out.mv hb)
      replace HR_r := Lib.hid (HR_r.out.mv hb)
      replace HB := Lib.hid (below_mv HB.out hb)
      clear hb
      have HR_q := Lib.hid hx; clear hx
      obtain ⟨n_q, hn⟩ : ∃ n, List.length (Td.tidyP l) = n := ⟨_, rfl⟩
      rw [hn]
      have HN_q := Lib.hid hn; clear hn
      have HL_q := Lib.hid (Td.tidyP_lt HL_l.out)
      have HQ_q : Hid (n_q ≤ 1000) := Lib.hid (by have h1 := HN_q.out; have h2 := Td.tidyP_len l; have h3 := HN_l.out; have h4 := HQ_l.out; omega)
      go_wp2_with fail
      refine (SameL A_r n_r c_r A_q n_q c_q (Td.tidyP l) (Td.tidyP l) _ true HN_r.out HN_q.out (by have := HQ_r.out; omega) HR_r.out HR_q.out (listP_self _)).mono ?_
      rintro e w8 ⟨rfl, hb⟩
      replace HR_l := Lib.hid (HR_l.out.mv hb)
      replace HR_m := Lib.hid (HR_m.out.mv hb)
      replace HR_r := Lib.hid (HR_r.out.mv hb)
      replace HR_q := Lib.hid (HR_q.out.mv hb)
      replace HB := Lib.hid (below_mv HB.out hb)
      clear hb
      go_wp2
      go_ret
      exact ⟨rfl, HB.out⟩
  have HK1 : Hid (List.length (l.take k) = k) := Lib.hid (by rw [List.length_take, HN_l.out]; omega)
  have HK3 : Hid (List.length (l.drop k) = n_l - k) := Lib.hid (by rw [List.length_drop, HN_l.out])
  have hn1 : ([] : List Ch).length + k ≤ 100000 := by have := HQ_l.out; simp; omega
  have hn2 : (List.length ([] ++ (l.take k))) + 1 ≤ 100000 := by have := HQ_l.out; rw [List.nil_append, HK1.out]; omega
  have hn3 : (List.length ([] ++ (l.take k) ++ [p])) + (n_l - k) ≤ 100000 := by have := HQ_l.out; rw [List.nil_append, List.length_append, HK1.out]; simp; omega
  have HA1 := Lib.hid hn1; have HA2 := Lib.hid hn2; have HA3 := Lib.hid hn3
  clear hn1 hn2 hn3
  have HSA := Lib.hid (Td.srcN_rd (rdP_t k (HRN.out.below HBA.out))); have HSB := Lib.hid (Td.srcN_rd (rdP_t k (HRN.out.below HBB.out)))
  have HRD : Hid (∀ X, Below N w5 X → Td.SrcN X N (Option.map (fun x => x.add (k * 6)) A_l) (l.drop k)) := Lib.hid (fun X hb => Td.srcN_rd (Td.rdP_drop (HRN.out.below hb) k))
  have HPX : Hid (∀ X, Below N w5 X → PG X (· < N) A_p n_p c_p B_p m_p d_p p) := Lib.hid (fun X hb => HPN.out.to_ (alike_below hb))
  have HZA1 := HBA.out.size; have HZB1 := HBB.out.size; have hNs : N ≤ w5.heap.size := Nat.le_of_eq HNW.out.symm
  have HLA := Lib.hid (Nat.le_trans hNs HZA1); have HLB := Lib.hid (Nat.le_trans hNs HZB1)
  clear HZA1 HZB1 hNs
  go_region_law (first
    | (refine Td.step_ownN (o := ⟨some 46, _, _, _, _, _⟩) rfl (.const (.slice none 0 0)) (.tmp 45) rfl rfl rfl (ownN_nil (w5.alloc (.cells #[.int .i64 p.k, strV p.nm, strV p.to, .int .i64 p.h.pos, .slice A_p n_p c_p, .slice B_p m_p d_p] 43)).drew N N) HSA.out HK1.out HA1.out (Nat.le_refl _) HLA.out ?_; intro v1 u1 ho hg; have hb1 := below_gr hg; have HBL1 := Lib.hid (HBA.out.trans (hb1.mono HLA.out)); have HO1 := Lib.hid ho; have HS1 := Lib.hid (Td.srcN_one (HZA.out.below hb1 HZA.out.lt) (HPX.out u1 HBL1.out)); have HL1 := Lib.hid (Nat.le_trans HLA.out hb1.size); clear hb1 ho hg)
    | (refine Td.step_ownN (o := ⟨some 46, _, _, _, _, _⟩) rfl (.const (.slice none 0 0)) (.tmp 45) rfl rfl rfl (ownN_nil w5.drew N N) HSB.out HK1.out HA1.out (Nat.le_refl _) HLB.out ?_; intro v1 u1 ho hg; have hb0 := below_gr hg; have hbx : Below u1.heap.size u1 (u1.alloc (.cells #[.int .i64 p.k, strV p.nm, strV p.to, .int .i64 p.h.pos, .slice A_p n_p c_p, .slice B_p m_p d_p] 43)) := (Below.refl _ _).alloc (Nat.le_refl _) _; have hb1 := hb0.trans (hbx.mono hb0.size); have HBL1 := Lib.hid (HBB.out.trans (hb1.mono HLB.out)); have HO1 := Lib.hid (OwnS.below ho hbx); have HS1 := Lib.hid (Td.srcN_one (Blk.new u1 43 #[.int .i64 p.k, strV p.nm, strV p.to, .int .i64 p.h.pos, .slice A_p n_p c_p, .slice B_p m_p d_p]) (HPX.out (u1.alloc (.cells #[.int .i64 p.k, strV p.nm, strV p.to, .int .i64 p.h.pos, .slice A_p n_p c_p, .slice B_p m_p d_p] 43)) HBL1.out)); have HL1 := Lib.hid (Nat.le_trans HLB.out hb1.size); have hyu := (HY.out.drewN 1).below hb0 HY.out.lt; have r0 := hyu.cell 0 rfl; have r1 := hyu.cell 1 rfl; have r2 := hyu.cell 2 rfl; have r3 := hyu.cell 3 rfl; have r4 := hyu.cell 4 rfl; have r5 := hyu.cell 5 rfl; clear hyu hb0 hbx hb1 ho hg)
    | (refine Td.step_ownN (o := ⟨some 49, _, _, _, _, _⟩) rfl (.tmp 46) (.tmp 48) rfl rfl rfl HO1.out HS1.out rfl HA2.out (Nat.le_refl _) HL1.out ?_; intro v2 u2 ho hg; have HBL2 := Lib.hid (HBL1.out.grown hg HL1.out (fun k e => ownN_ge HO1.out k e)); have HO2 := Lib.hid ho; have HS2 := Lib.hid (HRD.out u2 HBL2.out); have HL2 := Lib.hid (Nat.le_trans HL1.out hg.size); clear ho hg)
    | (refine Td.step_ownN (o := ⟨some 53, _, _, _, _, _⟩) rfl (.tmp 49) (.tmp 52) rfl rfl rfl HO2.out HS2.out HK3.out HA3.out (Nat.le_refl _) HL2.out ?_; intro v3 u3 ho hg; have HBL3 := Lib.hid (HBL2.out.grown hg HL2.out (fun k e => ownN_ge HO2.out k e)); obtain ⟨A_m, c_m, hv3, hc3⟩ := ownN_slice ho; have HO3 := Lib.hid ho; obtain ⟨n_m, hn⟩ : ∃ n, List.length ([] ++ (l.take k) ++ [p] ++ (l.drop k)) = n := ⟨_, rfl⟩; rw [hn] at hv3; have HN_m := Lib.hid hn; subst hv3; clear ho hg hn hc3))
  all_goals
    have hnm : n_m ≤ 41 := by have h1 := HN_m.out; have h2 := HQ_l.out; simp only [List.nil_append, List.length_append, HK1.out, HK3.out, List.length_singleton] at h1; omega
    have HQ_m : Hid (n_m ≤ 100) := Lib.hid (by omega)
    have hb : Below w5.heap.size w5 u3 := by rw [HNW.out]; exact HBL3.out
    have HR_m : Hid (RdP u3 (· < u3.heap.size) A_m ([] ++ (l.take k) ++ [p] ++ (l.drop k))) := Lib.hid (by have h := HO3.out; have hl := HN_m.out; have h2 := HBL3.out.size; have h3 := HNW.out; exact rdP_of_own h (fun b hb => by have hb : b < N := hb; omega) hl)
    have HL_m : Hid (Lt ([] ++ (l.take k) ++ [p] ++ (l.drop k))) := Lib.hid (Lt.app (Lt.app (Lt.app lt_nil (fun x hx => HL_l.out x (List.mem_of_mem_take hx))) (fewP_lt HBP.out)) (fun x hx => HL_l.out x (List.mem_of_mem_drop hx)))
    clear y0 y1 y2 y3 y4 y5
    replace HR_l := Lib.hid (HR_l.out.mv hb)
    replace HB := Lib.hid (below_mv HB.out hb)
    clear hb
    go_wp2_with fail
    refine (Td.TidyL A_m n_m c_m ([] ++ (l.take k) ++ [p] ++ (l.drop k)) u3 HN_m.out (by have := HQ_m.out; omega) HL_m.out HR_m.out).mono ?_
    rintro e w6 ⟨A_r, c_r, rfl, _, hx, hb⟩
    replace HR_l := Lib.hid (HR_l.out.mv hb)
    replace HR_m := Lib.hid (HR_m.out.mv hb)
    replace HB := Lib.hid (below_mv HB.out hb)
    clear hb
    have HR_r := Lib.hid hx; clear hx
    have hrw : (Td.tidyP ([] ++ (l.take k) ++ [p] ++ (l.drop k))) = (Td.tidyP l) := idle_in HBI.out k
    rw [hrw] at HR_r ⊢
    clear hrw
    obtain ⟨n_r, hn⟩ : ∃ n, List.length (Td.tidyP l) = n := ⟨_, rfl⟩
    rw [hn]
    have HN_r := Lib.hid hn; clear hn
    have HL_r := Lib.hid (Td.tidyP_lt HL_l.out)
    have HQ_r : Hid (n_r ≤ 1000) := Lib.hid (by have h1 := HN_r.out; have h2 := Td.tidyP_len l; have h3 := HN_l.out; have h4 := HQ_l.out; omega)
    go_wp2_with fail
    refine (Td.TidyL A_l n_l c_l l w6 HN_l.out (by have := HQ_l.out; omega) HL_l.out HR_l.out).mono ?_
    rintro e w7 ⟨A_q, c_q, rfl, _, hx, hb⟩
    replace HR_l := Lib.hid (HR_l.out.mv hb)
    replace HR_m := Lib.hid (HR_m.out.mv hb)
    replace HR_r := Lib.hid (HR_r.out.mv hb)
    replace HB := Lib.hid (below_mv HB.out hb)
    clear hb
    have HR_q := Lib.hid hx; clear hx
    obtain ⟨n_q, hn⟩ : ∃ n, List.length (Td.tidyP l) = n := ⟨_, rfl⟩
    rw [hn]
    have HN_q := Lib.hid hn; clear hn
    have HL_q := Lib.hid (Td.tidyP_lt HL_l.out)
    have HQ_q : Hid (n_q ≤ 1000) := Lib.hid (by have h1 := HN_q.out; have h2 := Td.tidyP_len l; have h3 := HN_l.out; have h4 := HQ_l.out; omega)
    go_wp2_with fail
    refine (SameL A_r n_r c_r A_q n_q c_q (Td.tidyP l) (Td.tidyP l) _ true HN_r.out HN_q.out (by have := HQ_r.out; omega) HR_r.out HR_q.out (listP_self _)).mono ?_
    rintro e w8 ⟨rfl, hb⟩
    replace HR_l := Lib.hid (HR_l.out.mv hb)
    replace HR_m := Lib.hid (HR_m.out.mv hb)
    replace HR_r := Lib.hid (HR_r.out.mv hb)
    replace HR_q := Lib.hid (HR_q.out.mv hb)
    replace HB := Lib.hid (below_mv HB.out hb)
    clear hb
    go_wp2
    go_ret
    exact ⟨rfl, HB.out⟩

end TdLIdle
open TdLIdle
open Tx
open Go.ChangeShapes Go.WideShapes Go.ChangeAt

theorem tidyIdle_own : ownKnob Try.prog.godebug = none := by kernel_rfl
theorem tidyIdle_laidOut : laidOutB Try.prog = true := by kernel_rfl

set_option maxRecDepth 100000 in
theorem tidyIdle_lifted (os : Os) (started : os.Started) (H : Type) (enc : TypeId × Value → H) :
    ReturnsInHanded {} Try.checked os 10 .any (Rows.tidyIdleSpec.pre6 enc Try.prog Try.f10 Rows.tidyIdleRow.domain false) (Rows.tidyIdleSpec.post enc Try.prog Try.f10 false true false false) := by
  refine returnsInHanded_of_change (C := Try.checked) tidyIdle_own started (by kernel_rfl) Try.func10
    (ChangeSpec.witness6 (enc := enc) (C := Try.checked) false ⟨#[], #[.slice none 0 0, .agg #[.int .i64 0, .string ByteArray.empty, .string ByteArray.empty, .int .i64 0, .slice none 0 0, .slice none 0 0], .int .i64 0], []⟩ 8 (by kernel_rfl) (by kernel_rfl) (by kernel_rfl) (by kernel_rfl)) ?_
  intro W base args ds gs before hval0 hW hcnd _
  have hval : ∀ (j : Nat) t v, Try.f10.params[j]? = some t → args[j]? = some v → Value.okWide Try.prog W .any base t v := hval0
  have hW' := hW
  obtain ⟨p, q, hA0, hV, rfl, hfz, hnd⟩ := hW
  have hA : DataW.TrodAll enc Try.prog W 0 (fun _ => true) true Try.f10.params.toList args.toList ds p := hA0
  rw [Try.params10] at hA hval
  obtain ⟨v0, vs0, d0, ds0, p0, q0, hargs, rfl, rfl, h0, r0⟩ := trodAll_cons hA
  obtain ⟨v1, vs1, d1, ds1, p1, q1, rfl, rfl, rfl, h1, r1⟩ := trodAll_cons r0
  obtain ⟨v2, vs2, d2, ds2, p2, q2, rfl, rfl, rfl, h2, r2⟩ := trodAll_cons r1
  obtain ⟨rfl, rfl, rfl⟩ := trodAll_nil r2
  obtain rfl : args = #[v0, v1, v2] := by cases args; simp_all
  obtain ⟨rfl, rfl⟩ := trodVars_none hV
  obtain ⟨a0, n0, c0, rfl⟩ := okWide_slice Try.underlying22 (hval 0 22 v0 rfl rfl)
  have k0 := h0
  have lt0 : ∀ x ∈ p0, x.block < W.heap.size := by obtain ⟨m, hm⟩ := k0; exact DataW.trod_lt m _ _ _ hm
  obtain ⟨l0, s0⟩ : ∃ l, PrsArg W a0 n0 c0 l := by
    obtain ⟨fuel, hf⟩ := h0
    exact prs_in hf (by simp [Value.cells])
  have k1 := h1
  have lt1 : ∀ x ∈ p1, x.block < W.heap.size := by obtain ⟨m, hm⟩ := k1; exact DataW.trod_lt m _ _ _ hm
  obtain ⟨a1, n1, c1, b1, m1, e1, l1, rfl, s1⟩ := prim_in (hval 1 43 v1 rfl rfl) h1
  have k2 := h2
  have lt2 : ∀ x ∈ p2, x.block < W.heap.size := by obtain ⟨m, hm⟩ := k2; exact DataW.trod_lt m _ _ _ hm
  obtain ⟨i2, rfl, rfl, rfl, w2⟩ := open_int Try.underlying3 (hval 2 3 v2 rfl rfl) h2
  clear hA0 hval0
  refine (tidyIdle_walk a0 n0 c0 l0 a1 n1 c1 b1 m1 e1 l1 i2 W s0 s1).mono fun e W' ⟨he, bel⟩ => ?_
  subst he
  exact ⟨_, rfl, _, _, _, [], _, [], hW', trodAll_mk1 (shut_bool Try.underlying4 _), (trodAll_cons_mk (Below.trod tidyIdle_laidOut (by kernel_rfl) (of_decide_eq_true (by kernel_rfl)) k0 bel lt0) (trodAll_cons_mk (Below.trod tidyIdle_laidOut (by kernel_rfl) (of_decide_eq_true (by kernel_rfl)) k1 bel lt1) (trodAll_cons_mk (Below.trod tidyIdle_laidOut (by kernel_rfl) (of_decide_eq_true (by kernel_rfl)) k2 bel lt2) trodAll_mk0))), rfl, bel.frame _, fun h => by cases h⟩

/-- The statement. -/
theorem tidyIdle_proved : Rows.TidyIdleSaid :=
  OpenClaim.holds_of_wide 10 Try.f10 rfl rfl rfl rfl rfl rfl rfl ⟨rfl, rfl, rfl, rfl, rfl⟩ rfl rfl rfl rfl rfl (by kernel_rfl) Try.func10 (by kernel_rfl)
    (of_decide_eq_true (by kernel_rfl)) (by unfold Func.isWrapper; first | (rw [if_pos (by decide +kernel)]; kernel_rfl) | (rw [if_neg (by decide +kernel)]; exact ⟨rfl, rfl⟩))
    (fun os started H enc _ => tidyIdle_lifted os started H enc)

#print axioms tidyIdle_proved
end Go.Proofs.Yteiidklmlelabaa
