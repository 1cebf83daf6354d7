/-
  What the document's me May and Same of patches return (walks).
-/
import Derived.Test.YtcfoodbfapldbaaPnMay
import Derived.Test.YtcfoodbfapldbaaPnSame
import Derived.Test.YtcfoodbfapldbaaGX
import Derived.Deep.RegionHeld3
import Derived.IntWalk
set_option maxRecDepth 100000
namespace Go.Proofs.Ytcfoodbfapldbaa
open Go.RowKit
set_option linter.unusedVariables false
set_option linter.unusedSimpArgs false
namespace Pn
open Tx Df Sq Hk Tr Pr Fl
attribute [local go_sem] eq_id

/-! Plain. -/
theorem riseI_app : ∀ {a : List Id_} {y x : Id_}, riseI (a ++ [y]) = true → lessI y x = true → riseI (a ++ [y] ++ [x]) = true
  | [], y, x, _, h => by
    show (lessI y x && true) = true
    rw [h]; rfl
  | [b], y, x, h0, h => by
    have h1 : (lessI b y && true) = true := h0
    show (lessI b y && (lessI y x && true)) = true
    rw [h]
    simpa using h1
  | b :: c :: a, y, x, h0, h => by
    have h1 : (lessI b c && riseI (c :: a ++ [y])) = true := h0
    rw [Bool.and_eq_true] at h1
    show (lessI b c && riseI (c :: a ++ [y] ++ [x])) = true
    rw [h1.1, riseI_app h1.2 h]
    rfl
theorem riseI_at : ∀ {l : List Id_} {k : Nat} {y x : Id_}, riseI l = true → l[k]? = some y → l[k + 1]? = some x → lessI y x = true
  | [], k, y, x, _, hy, _ => by simp at hy
  | [a], k, y, x, _, _, hx => by simp at hx
  | a :: b :: l, 0, y, x, h, hy, hx => by
    injection hy with hy
    injection hx with hx
    subst hy hx
    rw [riseI, Bool.and_eq_true] at h
    exact h.1
  | a :: b :: l, k + 1, y, x, h, hy, hx => by
    rw [riseI, Bool.and_eq_true] at h
    exact riseI_at (l := b :: l) (k := k) h.2 hy hx
theorem deps_step {me x : Id_} {l : List Id_} {k : Nat} (h : depsOk me (l.take k) = true) (hx : l[k]? = some x) (h1 : okI x = true) (h2 : x ≠ me) (h3 : ∀ j y, k = j + 1 → l[j]? = some y → lessI y x = true) : depsOk me (l.take (k + 1)) = true := by
  unfold depsOk at h ⊢
  rw [Bool.and_eq_true] at h ⊢
  obtain ⟨g1, g2⟩ := h
  refine ⟨?_, ?_⟩
  · rw [take_at hx, List.all_append, g1, List.all_cons, h1, decide_eq_true h2]
    rfl
  · cases k with
    | zero => rw [take_at hx]; rfl
    | succ j =>
      have hj : j < l.length := by have := (List.getElem?_eq_some_iff.1 hx).1; omega
      have hy := List.getElem?_eq_getElem hj
      rw [take_at hy] at g2
      rw [take_at hx, take_at hy]
      exact riseI_app g2 (h3 j _ rfl hy)
theorem deps_no1 {me x : Id_} {l : List Id_} {k : Nat} (hx : l[k]? = some x) (h : okI x = false) : depsOk me l = false := by
  unfold depsOk
  have : (l.all fun x => okI x && decide (x ≠ me)) = false := by
    rw [List.all_eq_false]
    exact ⟨x, List.mem_of_getElem? hx, by rw [h]; simp⟩
  rw [this, Bool.false_and]
theorem deps_no2 {me : Id_} {l : List Id_} {k : Nat} (hx : l[k]? = some me) : depsOk me l = false := by
  unfold depsOk
  have : (l.all fun x => okI x && decide (x ≠ me)) = false := by
    rw [List.all_eq_false]
    exact ⟨me, List.mem_of_getElem? hx, by simp⟩
  rw [this, Bool.false_and]
theorem deps_no3 {me x y : Id_} {l : List Id_} {k : Nat} (hy : l[k]? = some y) (hx : l[k + 1]? = some x) (h : lessI y x = false) : depsOk me l = false := by
  unfold depsOk
  cases hr : riseI l with
  | false => rw [Bool.and_false]
  | true =>
    have := riseI_at hr hy hx
    rw [h] at this
    cases this
theorem mayN_ref (p : Nm) : mayN p = (depsOk p.id p.deps && (okI p.id && (may p.txt && (p.l.all mayP && (decide (p.deps.length ≤ 60) && decide (p.l.length ≤ 200)))))) := by
  unfold mayN
  cases okI p.id <;> cases may p.txt <;> cases p.l.all mayP <;> cases depsOk p.id p.deps <;> cases decide (p.deps.length ≤ 60) <;> cases decide (p.l.length ≤ 200) <;> rfl

set_option maxRecDepth 100000 in
set_option maxHeartbeats 4000000 in
theorem refMayN (D : Option Addr) (dn dc : Nat) (A : Option Addr) (n c : Nat) (p : Nm) (w : World) (b : Bool) (hv : NV w w.heap.size D dn dc A n c p) (hle : n ≤ 1000) (hd : dn ≤ 1000) (hb : mayN p = b) :
    Calls Try.prog 10 #[nmV p.id D dn dc p.txt A n c] w (BoolEnd w b) := by
  have hbe := hb.symm.trans (mayN_ref p)
  clear hb
  obtain ⟨⟨o1, o2⟩, ds, t, l⟩ := p
  dsimp only at hbe hv ⊢
  have HV := Lib.hid hv; have HB := Lib.hid hbe
  have HBX := Lib.hid (Blk.new w 27 #[.int .i64 o1, .int .i64 o2, .slice D dn dc, strV t, .slice A n c])
  have HBW := Lib.hid (show Below w.heap.size w (w.alloc (.cells #[.int .i64 o1, .int .i64 o2, .slice D dn dc, strV t, .slice A n c] 27)) from (Below.refl _ _).alloc (Nat.le_refl _) _)
  have HLN := Lib.hid (show l.length = n from hv.l); have HDL := Lib.hid (show ds.length = dn from hv.dl)
  clear hv hbe
  go_enter Try.func10, Try.ntmps10
  go_upto_region 1 with fail
  obtain ⟨z, hz⟩ : ∃ z, w.heap.size = z := ⟨_, rfl⟩
  generalize (w.alloc (.cells #[.int .i64 o1, .int .i64 o2, .slice D dn dc, strV t, .slice A n c] 27)) = w1 at HBX HBW ⊢
  rw [hz] at HBX ⊢
  clear hz
  have x0 := HBX.out.cell 0 rfl; have x1 := HBX.out.cell 1 rfl
  go_wp2_with fail
  obtain ⟨b1, hb1⟩ : ∃ b, okI (o1, o2) = b := ⟨_, rfl⟩
  refine (refIdC (o1, o2) _ b1 hb1).mono ?_
  rintro e w2 ⟨rfl, hb2⟩
  replace HBX := Lib.hid (HBX.out.below hb2 HBX.out.lt); replace HBW := Lib.hid (below_mv HBW.out hb2)
  have H1 := Lib.hid hb1
  clear hb2 hb1 x0 x1
  have x3 := HBX.out.cell 3 rfl; have x4 := HBX.out.cell 4 rfl
  go_wp2_with fail
  refine (RefMayV t w2 HV.out.tm).mono ?_
  rintro e w' ⟨rfl, rfl⟩
  obtain ⟨b3, hb3⟩ : ∃ b, may t = b := ⟨_, rfl⟩
  rw [hb3]
  have H3 := Lib.hid hb3
  clear hb3
  go_wp2_with fail
  obtain ⟨b4, hb4⟩ : ∃ b, l.all mayP = b := ⟨_, rfl⟩
  refine (refMayL A n c l w2 b4 HLN.out hle (HV.out.mv HBW.out).r hb4).mono ?_
  rintro e w3 ⟨rfl, hb5⟩
  replace HBX := Lib.hid (HBX.out.below hb5 HBX.out.lt); replace HBW := Lib.hid (below_mv HBW.out hb5)
  have H4 := Lib.hid hb4
  clear hb4 hb5 x3 x4
  go_wp2
  go_loopw [6] (fun i wr => ∃ k : Nat, k ≤ dn ∧ i = .int .i64 (k : Int) ∧ depsOk (o1, o2) (ds.take k) = true ∧ Blk wr z 27 #[.int .i64 o1, .int .i64 o2, .slice D dn dc, strV t, .slice A n c] ∧ Below w.heap.size w wr) (fun i _ => dn - (intOf i).toNat)
  case atStart => exact ⟨0, Nat.zero_le _, rfl, rfl, HBX.out, HBW.out⟩
  case round =>
    clear HBX HBW
    obtain ⟨k, hk, rfl, hdk, hbx, hbw⟩ := hrel
    have HBW := Lib.hid hbw; have HDK := Lib.hid hdk; have HBX := Lib.hid hbx; clear hbw hdk hbx
    have z2 := HBX.out.cell 2 rfl
    by_cases hlt : k < dn
    · have hki : (k : Int) < (dn : Int) := by omega
      obtain ⟨ad, x, rfl, hS, hx, g0, g1⟩ := ((RdI.mv HV.out.dr HBW.out).elem (k := k) (by rw [HDL.out]; exact hlt))
      have HX := Lib.hid hx
      obtain ⟨x1, x2⟩ := x
      dsimp only at g0 g1
      have hsb : (ad.add (k * 2)).block < wr.heap.size := by rw [add_block]; exact hS
      go_wp2_with fail
      obtain ⟨bo, hbo⟩ : ∃ b, okI (x1, x2) = b := ⟨_, rfl⟩
      refine (refIdC (x1, x2) _ bo hbo).mono ?_
      rintro e w2 ⟨rfl, hb2⟩
      replace g0 := cellB g0 hb2 hsb; replace g1 := cellB g1 hb2 hsb
      replace HBX := Lib.hid (HBX.out.below hb2 HBX.out.lt); replace HBW := Lib.hid (below_mv HBW.out hb2)
      have HOK := Lib.hid hbo
      clear hx hS hsb hbo z2 hb2
      cases bo with
      | false =>
        have HNO := Lib.hid (deps_no1 (me := (o1, o2)) HX.out HOK.out)
        go_wp2_with fail
        go_quiet (fail)
        go_wp2
        go_ret
        exact ⟨ret_bool (by rw [HB.out, HNO.out]; rfl), below_drewN HBW.out _⟩
      | true =>
        have z0 := HBX.out.cell 0 rfl; have z1 := HBX.out.cell 1 rfl; have z2 := HBX.out.cell 2 rfl
        by_cases h1 : x1 = o1
        · by_cases h2 : x2 = o2
          · subst h1 h2
            have HNO := Lib.hid (deps_no2 HX.out)
            go_wp2_with fail
            go_quiet (fail)
            go_wp2
            go_ret
            exact ⟨ret_bool (by rw [HB.out, HNO.out]; rfl), below_drewN HBW.out _⟩
          · have e2 : (x2 == o2) = false := by rw [beq_eq_false_iff_ne]; exact h2
            have HNE : Hid ((x1, x2) ≠ (o1, o2)) := Lib.hid (fun e => h2 (by injection e))
            subst h1
            clear h2
            go_wp2_with fail
            go_quiet (fail)
            replace HBX := Lib.hid (HBX.out.drewN nq); replace HBW := Lib.hid (below_drewN HBW.out nq)
            replace g0 : (w2.drewN nq).cell? (ad.add (k * 2)) = some (.int .i64 x1) := g0
            replace g1 : (w2.drewN nq).cell? ⟨(ad.add (k * 2)).block, (ad.add (k * 2)).off + 1, none⟩ = some (.int .i64 x2) := g1
            clear z0 z1 z2
            generalize w2.drewN nq = w5 at HBX HBW g0 g1 ⊢
            by_cases h0 : k = 0
            · have HSTEP := Lib.hid (deps_step HDK.out HX.out HOK.out HNE.out (fun j y e _ => by omega))
              have e0 : decide ((0 : Int) < (k : Int)) = false := decide_eq_false (by omega)
              go_wp2_with fail
              exact ⟨⟨k + 1, by omega, by go_num, HSTEP.out, HBX.out, HBW.out⟩, by simp [intOf]; omega⟩
            · obtain ⟨j, hj⟩ : ∃ j, k = j + 1 := ⟨k - 1, by omega⟩
              have HJ := Lib.hid hj
              obtain ⟨ad2, y, e2, hS2, hy, q0, q1⟩ := ((RdI.mv HV.out.dr HBW.out).elem (k := j) (by rw [HDL.out]; omega))
              injection e2 with e2
              subst e2
              have HY := Lib.hid hy
              clear hy
              obtain ⟨y1, y2⟩ := y
              dsimp only at q0 q1
              have i1 : (k : Int) - 1 = (j : Int) := by omega
              have i2 : (0 : Int) ≤ (j : Int) := by omega
              have i3 : (j : Int) < (dn : Int) := by omega
              have i4 : IntKind.i64.wrap (j : Int) = (j : Int) := IntWalk.i64_in _ (by omega)
              have i5 : (0 : Int) < (k : Int) := by omega
              clear hj
              obtain ⟨bq, hbq⟩ : ∃ b, lessI (y1, y2) (x1, x2) = b := ⟨_, rfl⟩
              have HD := Lib.hid (show Below w5.heap.size w5 w5.drew from below_drewN (Below.refl w5.heap.size w5) 1)
              have hs1 : (ad.add (j * 2)).block < w5.heap.size := by rw [add_block]; exact hS2
              have hs2 : (ad.add (k * 2)).block < w5.heap.size := by rw [add_block]; exact hS2
              have HK : Hid (∀ W, Below w5.heap.size w5 W → W.cell? ⟨z, 2, none⟩ = some (.slice (some ad) dn dc) ∧ W.cell? (ad.add (j * 2)) = some (.int .i64 y1) ∧ W.cell? ⟨(ad.add (j * 2)).block, (ad.add (j * 2)).off + 1, none⟩ = some (.int .i64 y2) ∧ W.cell? (ad.add (k * 2)) = some (.int .i64 x1) ∧ W.cell? ⟨(ad.add (k * 2)).block, (ad.add (k * 2)).off + 1, none⟩ = some (.int .i64 x2)) :=
                Lib.hid (fun W hb => ⟨(HBX.out.below hb HBX.out.lt).cell 2 rfl, cellB q0 hb hs1, cellB q1 hb hs1, cellB g0 hb hs2, cellB g1 hb hs2⟩)
              have HC := Lib.hid (refLessC (y1, y2) (x1, x2) w5.drew bq hbq)
              clear hs1 hs2 hS2
              have z2 := HBX.out.cell 2 rfl
              go_wp2_with fail
              go_region_held3 (fun W => W.cell? ⟨z, 2, none⟩ = some (.slice (some ad) dn dc) ∧ W.cell? (ad.add (j * 2)) = some (.int .i64 y1) ∧ W.cell? ⟨(ad.add (j * 2)).block, (ad.add (j * 2)).off + 1, none⟩ = some (.int .i64 y2) ∧ W.cell? (ad.add (k * 2)) = some (.int .i64 x1) ∧ W.cell? ⟨(ad.add (k * 2)).block, (ad.add (k * 2)).off + 1, none⟩ = some (.int .i64 x2))
                (first | go_keep | (exact hz))
                (first | (go_at_call 12; (with_reducible refine HC.out.mono ?_); rintro e w6 ⟨rfl, hb⟩; have hb2 := below_mv HD.out hb; have hz := HK.out w6 hb2; clear hb))
              clear hz
              replace HBX := Lib.hid (HBX.out.below hb2 HBX.out.lt); replace HBW := Lib.hid (below_mv HBW.out hb2)
              have HBQ := Lib.hid hbq
              clear hbq hb2 q0 q1 g0 g1 z2 HK HC HD
              cases bq with
              | false =>
                have HNO := Lib.hid (deps_no3 (me := (x1, o2)) HY.out (by rw [← HJ.out]; exact HX.out) HBQ.out)
                go_wp2
                go_ret
                exact ⟨ret_bool (by rw [HB.out, HNO.out]; rfl), HBW.out⟩
              | true =>
                have HSTEP := Lib.hid (deps_step HDK.out HX.out HOK.out HNE.out (fun j' y' e hy' => by
                  obtain rfl : j = j' := by have := HJ.out; omega
                  have h3 := HY.out
                  rw [hy'] at h3
                  injection h3 with h3
                  rw [h3]
                  exact HBQ.out))
                go_wp2_with fail
                exact ⟨⟨k + 1, by omega, by go_num, HSTEP.out, HBX.out, HBW.out⟩, by simp [intOf]; omega⟩
        · have e2 : (x1 == o1) = false := by rw [beq_eq_false_iff_ne]; exact h1
          have HNE : Hid ((x1, x2) ≠ (o1, o2)) := Lib.hid (fun e => h1 (by injection e))
          clear h1
          go_wp2_with fail
          go_quiet (fail)
          replace HBX := Lib.hid (HBX.out.drewN nq); replace HBW := Lib.hid (below_drewN HBW.out nq)
          replace g0 : (w2.drewN nq).cell? (ad.add (k * 2)) = some (.int .i64 x1) := g0
          replace g1 : (w2.drewN nq).cell? ⟨(ad.add (k * 2)).block, (ad.add (k * 2)).off + 1, none⟩ = some (.int .i64 x2) := g1
          clear z0 z1 z2
          generalize w2.drewN nq = w5 at HBX HBW g0 g1 ⊢
          by_cases h0 : k = 0
          · have HSTEP := Lib.hid (deps_step HDK.out HX.out HOK.out HNE.out (fun j y e _ => by omega))
            have e0 : decide ((0 : Int) < (k : Int)) = false := decide_eq_false (by omega)
            go_wp2_with fail
            exact ⟨⟨k + 1, by omega, by go_num, HSTEP.out, HBX.out, HBW.out⟩, by simp [intOf]; omega⟩
          · obtain ⟨j, hj⟩ : ∃ j, k = j + 1 := ⟨k - 1, by omega⟩
            have HJ := Lib.hid hj
            obtain ⟨ad2, y, e2, hS2, hy, q0, q1⟩ := ((RdI.mv HV.out.dr HBW.out).elem (k := j) (by rw [HDL.out]; omega))
            injection e2 with e2
            subst e2
            have HY := Lib.hid hy
            clear hy
            obtain ⟨y1, y2⟩ := y
            dsimp only at q0 q1
            have i1 : (k : Int) - 1 = (j : Int) := by omega
            have i2 : (0 : Int) ≤ (j : Int) := by omega
            have i3 : (j : Int) < (dn : Int) := by omega
            have i4 : IntKind.i64.wrap (j : Int) = (j : Int) := IntWalk.i64_in _ (by omega)
            have i5 : (0 : Int) < (k : Int) := by omega
            clear hj
            obtain ⟨bq, hbq⟩ : ∃ b, lessI (y1, y2) (x1, x2) = b := ⟨_, rfl⟩
            have HD := Lib.hid (show Below w5.heap.size w5 w5.drew from below_drewN (Below.refl w5.heap.size w5) 1)
            have hs1 : (ad.add (j * 2)).block < w5.heap.size := by rw [add_block]; exact hS2
            have hs2 : (ad.add (k * 2)).block < w5.heap.size := by rw [add_block]; exact hS2
            have HK : Hid (∀ W, Below w5.heap.size w5 W → W.cell? ⟨z, 2, none⟩ = some (.slice (some ad) dn dc) ∧ W.cell? (ad.add (j * 2)) = some (.int .i64 y1) ∧ W.cell? ⟨(ad.add (j * 2)).block, (ad.add (j * 2)).off + 1, none⟩ = some (.int .i64 y2) ∧ W.cell? (ad.add (k * 2)) = some (.int .i64 x1) ∧ W.cell? ⟨(ad.add (k * 2)).block, (ad.add (k * 2)).off + 1, none⟩ = some (.int .i64 x2)) :=
              Lib.hid (fun W hb => ⟨(HBX.out.below hb HBX.out.lt).cell 2 rfl, cellB q0 hb hs1, cellB q1 hb hs1, cellB g0 hb hs2, cellB g1 hb hs2⟩)
            have HC := Lib.hid (refLessC (y1, y2) (x1, x2) w5.drew bq hbq)
            clear hs1 hs2 hS2
            have z2 := HBX.out.cell 2 rfl
            go_wp2_with fail
            go_region_held3 (fun W => W.cell? ⟨z, 2, none⟩ = some (.slice (some ad) dn dc) ∧ W.cell? (ad.add (j * 2)) = some (.int .i64 y1) ∧ W.cell? ⟨(ad.add (j * 2)).block, (ad.add (j * 2)).off + 1, none⟩ = some (.int .i64 y2) ∧ W.cell? (ad.add (k * 2)) = some (.int .i64 x1) ∧ W.cell? ⟨(ad.add (k * 2)).block, (ad.add (k * 2)).off + 1, none⟩ = some (.int .i64 x2))
              (first | go_keep | (exact hz))
              (first | (go_at_call 12; (with_reducible refine HC.out.mono ?_); rintro e w6 ⟨rfl, hb⟩; have hb2 := below_mv HD.out hb; have hz := HK.out w6 hb2; clear hb))
            clear hz
            replace HBX := Lib.hid (HBX.out.below hb2 HBX.out.lt); replace HBW := Lib.hid (below_mv HBW.out hb2)
            have HBQ := Lib.hid hbq
            clear hbq hb2 q0 q1 g0 g1 z2 HK HC HD
            cases bq with
            | false =>
              have HNO := Lib.hid (deps_no3 (me := (o1, o2)) HY.out (by rw [← HJ.out]; exact HX.out) HBQ.out)
              go_wp2
              go_ret
              exact ⟨ret_bool (by rw [HB.out, HNO.out]; rfl), HBW.out⟩
            | true =>
              have HSTEP := Lib.hid (deps_step HDK.out HX.out HOK.out HNE.out (fun j' y' e hy' => by
                obtain rfl : j = j' := by have := HJ.out; omega
                have h3 := HY.out
                rw [hy'] at h3
                injection h3 with h3
                rw [h3]
                exact HBQ.out))
              go_wp2_with fail
              exact ⟨⟨k + 1, by omega, by go_num, HSTEP.out, HBX.out, HBW.out⟩, by simp [intOf]; omega⟩
    · obtain rfl : k = dn := by omega
      have HAL : Hid (depsOk (o1, o2) ds = true) := Lib.hid (by
        have h1 := HDK.out
        rw [List.take_of_length_le (by rw [HDL.out]; exact Nat.le_refl _)] at h1
        exact h1)
      have z4 := HBX.out.cell 4 rfl
      cases b1 with
      | false =>
        go_wp2
        all_goals go_ret
        all_goals exact ⟨ret_bool (by rw [HB.out, H1.out]; simp), HBW.out⟩
      | true =>
        cases b3 with
        | false =>
          go_wp2
          all_goals go_ret
          all_goals exact ⟨ret_bool (by rw [HB.out, H3.out]; simp), HBW.out⟩
        | true =>
          cases b4 with
          | false =>
            go_wp2
            all_goals go_ret
            all_goals exact ⟨ret_bool (by rw [HB.out, H4.out]; simp), HBW.out⟩
          | true =>
            have HFIN := Lib.hid (show b = (decide (k ≤ 60) && decide (n ≤ 200)) by rw [HB.out, HAL.out, H1.out, H3.out, H4.out, HDL.out, HLN.out]; rfl)
            clear HB
            by_cases h60 : k ≤ 60
            · have e0 : decide ((k : Int) ≤ 60) = true := decide_eq_true (by omega)
              by_cases h200 : n ≤ 200
              · have e1 : decide ((n : Int) ≤ 200) = true := decide_eq_true (by omega)
                go_wp2
                all_goals go_ret
                all_goals exact ⟨ret_bool (by rw [HFIN.out, decide_eq_true h60, decide_eq_true h200]; first | rfl | simp [h60, h200]), HBW.out⟩
              · have e1 : decide ((n : Int) ≤ 200) = false := decide_eq_false (by omega)
                go_wp2
                all_goals go_ret
                all_goals exact ⟨ret_bool (by rw [HFIN.out, decide_eq_true h60, decide_eq_false h200]; first | rfl | simp [h60, h200]), HBW.out⟩
            · have e0 : decide ((k : Int) ≤ 60) = false := decide_eq_false (by omega)
              go_wp2
              all_goals go_ret
              all_goals exact ⟨ret_bool (by rw [HFIN.out, decide_eq_false h60]; first | rfl | simp [h60]), HBW.out⟩


end Pn
end Go.Proofs.Ytcfoodbfapldbaa
