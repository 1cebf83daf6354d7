/-
  The statement HunkGives: hunks of two lists, one behind the other, change the first one into the second one; turned, from the last one on, back.
-/
import Derived.Test.YtkpgkbllcdpobaaHkLaw
import Derived.Test.YtkpgkbllcdpobaaHkTurn
import Derived.Test.YtkpgkbllcdpobaaHkOpen
import Derived.Test.YtkpgkbllcdpobaaQSame
import Derived.Test.YtkpgkbllcdpobaaTxRef
namespace Go.Proofs.Ytkpgkbllcdpobaa
open Go.RowKit
set_option linter.unusedVariables false
namespace Hk
open Tx Df Lc Sq

set_option maxRecDepth 100000 in
set_option maxHeartbeats 4000000 in
theorem hunkGives_walk (A : Option Addr) (n c : Nat) (a : List (List UInt8)) (A1 : Option Addr) (n1 c1 : Nat) (a1 : List (List UInt8)) (w : World) (h : StrArg w A n c a) (h1 : StrArg w A1 n1 c1 a1) :
    Calls Try.prog 6 #[.slice A n c, .slice A1 n1 c1] w (LawEnd w) := by
  go_enter Try.func6, Try.ntmps6
  go_wp2_with fail
  refine (awake w).mono ?_
  rintro e w1 ⟨rfl, hB1⟩
  go_wp2_with fail
  refine (Light _ _ _ _ 60 a _ h.len h.le (h.rd.below hB1) (by decide)).mono ?_
  rintro e w' ⟨rfl, rfl⟩
  go_wp2_with fail
  refine (Light _ _ _ _ 60 a1 _ h1.len h1.le (h1.rd.below hB1) (by decide)).mono ?_
  rintro e w' ⟨rfl, rfl⟩
  go_wp2_with fail
  refine (RefAll _ _ _ _ a _ h.len h.le (h.rd.below hB1) h.short).mono ?_
  rintro e w' ⟨rfl, rfl⟩
  go_wp2_with fail
  refine (RefAll _ _ _ _ a1 _ h1.len h1.le (h1.rd.below hB1) h1.short).mono ?_
  rintro e w' ⟨rfl, rfl⟩
  cases hl : light a 60 with
  | false =>
    clear hl
    go_wp2
    go_ret
    exact ⟨rfl, hB1⟩
  | true =>
  have hn := light_len hl h.len
  clear hl
  cases hl : light a1 60 with
  | false =>
    clear hl
    go_wp2
    go_ret
    exact ⟨rfl, hB1⟩
  | true =>
  have hn1 := light_len hl h1.len
  clear hl
  cases hl : allMay a with
  | false =>
    clear hl
    go_wp2
    go_ret
    exact ⟨rfl, hB1⟩
  | true =>
  have HMY := Lib.hid hl; clear hl
  cases hl : allMay a1 with
  | false =>
    clear hl
    go_wp2
    go_ret
    exact ⟨rfl, hB1⟩
  | true =>
  have HMY1 := Lib.hid hl; clear hl
  obtain ⟨L, hL0, hLN, hLl, hLs⟩ := trace_edits a a1
  have hmem := edits_mem a a1
  have HB1 := Lib.hid hB1
  clear hB1
  go_wp2_with fail
  refine (Of A A1 c c1 n n1 w.heap.size a a1 w1 h.len h1.len h.cap h1.cap (by omega) (by omega) HB1.out.size (h.rd.below HB1.out) (h1.rd.below HB1.out)).mono ?_
  have hNle : (hks a 0 (edits a a1)).length ≤ 120 := by
    rw [hks_len]
    have := edits_len_le a a1
    rw [h.len, h1.len] at this
    omega
  generalize hks a 0 (edits a a1) = hs at *
  obtain ⟨N, hN⟩ : ∃ N, hs.length = N := ⟨_, rfl⟩
  rw [hN] at hLN hLl hNle
  rintro e w2 ⟨A5, c5, rfl, hc5, hH, hb2⟩
  rw [hN] at hc5 ⊢
  have HB2 := Lib.hid (HB1.out.trans (hb2.mono HB1.out.size))
  have hLb : ∀ i, i ≤ N → (L i).length ≤ 200 := fun i hi => by
    have := hLl i hi
    rw [h.len, h1.len] at this
    omega
  have HST : Hid (∀ i h, hs[i]? = some h → i < N → done (L i) h = some (L (i + 1)) ∧ mayH h = true ∧ h.old.length ≤ 200 ∧ h.new.length ≤ 200) := Lib.hid (fun i h hi hlt => by
    have hd := hLs i h hi
    have hm := hmem h (List.mem_of_getElem? hi)
    exact ⟨hd, may_hunk HMY.out HMY1.out hd (hLb i (by omega)) (hLb (i + 1) (by omega)) hm.1 hm.2⟩)
  have HLB := Lib.hid hLb; have HH := Lib.hid hH; have HN := Lib.hid hN; have HL0 := Lib.hid hL0; have HLN := Lib.hid hLN
  clear hLb hH hN hL0 hLN hLl hLs hmem hb2
  go_wp2_with fail
  go_loopw [11, 12] (fun v11 v12 wr => ∃ (i : Nat) (Am : Option Addr) (km cm : Nat), i ≤ N ∧ v12 = .int .i64 (i : Int) ∧ v11 = .slice Am km cm ∧ km ≤ cm ∧ (L i).length = km ∧ RdS wr wr.heap.size Am (L i) ∧ Below w2.heap.size w2 wr) (fun _ v12 _ => N - (intOf v12).toNat)
  case atStart => exact ⟨0, A, n, c, Nat.zero_le _, rfl, rfl, h.cap, by rw [HL0.out]; exact h.len, by rw [HL0.out]; exact Rd.up (h.rd.below HB2.out) HB2.out.size, Below.refl _ _⟩
  case round =>
    obtain ⟨i, Am, km, cm, hi, rfl, rfl, hkc, hkm, hrm, hbr⟩ := hrel
    have HKM := Lib.hid hkm; have HRM := Lib.hid hrm; have HBR := Lib.hid hbr
    have hk2 : km ≤ 200 := by rw [← hkm]; exact HLB.out i hi
    clear hkm hrm hbr
    by_cases hlt : i < N
    · have hil : i < hs.length := by rw [HN.out]; exact hlt
      obtain ⟨hd, hmy, ho2, hn2⟩ := HST.out i _ (List.getElem?_eq_getElem hil) hlt
      obtain ⟨pa, rfl, hpa, hat⟩ := (HH.out.below HBR.out).at_ hil
      generalize hs[i] = g at *
      obtain ⟨q0, G1, e1, G2, e2, q1, q2, hv⟩ := hat
      obtain ⟨hE, hL⟩ := done_apply hmy hd
      have HV := Lib.hid hv; have HE := Lib.hid hE; have HL := Lib.hid hL
      have HSZ := Lib.hid HBR.out.size
      have o2 : g.old.length ≤ 1000 := by omega
      have n2 : g.new.length ≤ 1000 := by omega
      have t1 : (i : Int) < (N : Int) := by omega
      have t2 : (0 : Int) ≤ (i : Int) := by omega
      generalize hol : g.old.length = ol at *
      generalize hnl : g.new.length = nl at *
      clear hd hmy hpa hv hE hL hol hnl ho2 hn2
      go_wp2_with fail
      refine (Apply Am km cm G1 ol e1 G2 nl e2 wr.heap.size (L i) g wr (Nat.le_refl _) HKM.out hkc (by omega) o2 n2 HRM.out (HV.out.up HSZ.out)).mono ?_
      rintro e w4 ⟨A7, k7, c7, rfl, hc7, hl7, hr7, hb7⟩
      rw [HE.out]
      rw [HL.out] at hl7 hr7
      have HL7 := Lib.hid hl7; have HR7 := Lib.hid hr7; have HB7 := Lib.hid (HBR.out.trans (hb7.mono HSZ.out))
      clear hl7 hr7 hb7 q0 q1 q2
      go_wp2
      go_roundw
      case rel => exact ⟨i + 1, A7, k7, c7, by omega, by go_num, rfl, hc7, HL7.out, HR7.out, HB7.out⟩
      case measure => simp [intOf]; omega
    · obtain rfl : i = N := by omega
      rw [HLN.out] at HKM HRM
      clear hlt
      go_wp2_with fail
      have hk3 : km ≤ maxLen := by unfold maxLen; omega
      have HB3 := Lib.hid (HB2.out.trans (HBR.out.mono HB2.out.size))
      refine (Same Am A1 cm c1 km n1 wr.heap.size a1 a1 wr HKM.out h1.len hk3 HRM.out (Rd.up (h1.rd.below HB3.out) HB3.out.size)).mono ?_
      rw [decide_eq_true rfl]
      rintro e w5 ⟨rfl, d, rfl⟩
      have hb5 := below_drewN HBR.out d
      have hr5 : RdS (wr.drewN d) (wr.drewN d).heap.size Am a1 := Rd.drewN HRM.out d
      generalize wr.drewN d = w5 at *
      have HB5 := Lib.hid hb5; have HR5 := Lib.hid hr5
      clear hb5 hr5 hk3
      rw [← HLN.out] at HKM HR5
      go_wp2_with fail
      go_loopw [11, 16] (fun v11 v16 wr => ∃ (j : Nat) (Am : Option Addr) (km cm : Nat) (x : Int), j ≤ i ∧ v16 = .int .i64 x ∧ x = (j : Int) - 1 ∧ v11 = .slice Am km cm ∧ km ≤ cm ∧ (L j).length = km ∧ RdS wr wr.heap.size Am (L j) ∧ Below w2.heap.size w2 wr) (fun _ v16 _ => (intOf v16 + 1).toNat)
      case atStart => exact ⟨i, Am, km, cm, _, Nat.le_refl _, rfl, rfl, rfl, hkc, HKM.out, HR5.out, HB5.out⟩
      case round =>
        clear HKM HRM HBR HB3 HB5 HR5 hkc hk2
        obtain ⟨j, Aj, kj, cj, x, hj, rfl, hx, rfl, hkc, hkm, hrm, hbr⟩ := hrel
        have HKM := Lib.hid hkm; have HRM := Lib.hid hrm; have HBR := Lib.hid hbr
        have hk2 : kj ≤ 200 := by rw [← hkm]; exact HLB.out j hj
        clear hkm hrm hbr
        by_cases hlt : 0 < j
        · obtain ⟨t, rfl⟩ : ∃ t, j = t + 1 := ⟨j - 1, by omega⟩
          obtain rfl : x = (t : Int) := by omega
          clear hx hlt
          have hil : t < hs.length := by rw [HN.out]; omega
          obtain ⟨hd, hmy, ho2, hn2⟩ := HST.out t _ (List.getElem?_eq_getElem hil) (by omega)
          obtain ⟨pa, rfl, hpa, hat⟩ := (HH.out.below HBR.out).at_ hil
          generalize hs[t] = g at *
          obtain ⟨q0, G1, e1, G2, e2, q1, q2, hv⟩ := hat
          obtain ⟨hE, hL⟩ := done_apply (h := turn g) (by rw [mayH_turn]; exact hmy) (done_back hd)
          have HE := Lib.hid hE; have HL := Lib.hid hL
          have HSZ := Lib.hid HBR.out.size
          have HV := Lib.hid (hv.up HSZ.out)
          have o2 : g.old.length ≤ 1000 := by omega
          have n2 : g.new.length ≤ 1000 := by omega
          have t1 : (t : Int) < (i : Int) := by omega
          have t2 : (0 : Int) ≤ (t : Int) := by omega
          generalize hol : g.old.length = ol at *
          generalize hnl : g.new.length = nl at *
          clear hd hmy hpa hv hE hL hol hnl ho2 hn2
          go_wp2_with fail
          refine (Turn G1 ol e1 G2 nl e2 wr.heap.size g wr (Nat.le_refl _) o2 n2 HV.out).mono ?_
          rintro e w6 ⟨P, p, Q, q, rfl, hv6, hb6⟩
          have HV6 := Lib.hid hv6
          have HB6 := Lib.hid (HBR.out.trans (hb6.mono HSZ.out))
          have HR6 := Lib.hid (Rd.up (Rd.below HRM.out hb6) hb6.size)
          clear hv6 hb6 q0 q1 q2
          go_wp2_with fail
          refine (Apply Aj kj cj P nl p Q ol q w6.heap.size (L (t + 1)) (turn g) w6 (Nat.le_refl _) HKM.out hkc (by omega) n2 o2 HR6.out HV6.out).mono ?_
          rintro e w7 ⟨A7, k7, c7, rfl, hc7, hl7, hr7, hb7⟩
          rw [HE.out]
          rw [HL.out] at hl7 hr7
          have HL7 := Lib.hid hl7; have HR7 := Lib.hid hr7; have HB7 := Lib.hid (HB6.out.trans (hb7.mono HB6.out.size))
          clear hl7 hr7 hb7
          go_wp2
          go_roundw
          case rel => exact ⟨t, A7, k7, c7, (t : Int) - 1, by omega, by go_num, rfl, rfl, hc7, HL7.out, HR7.out, HB7.out⟩
          case measure => simp [intOf]
        · obtain rfl : j = 0 := by omega
          obtain rfl : x = -1 := by omega
          rw [HL0.out] at HKM HRM
          clear hlt hx
          go_wp2_with fail
          have hk3 : kj ≤ maxLen := by unfold maxLen; omega
          have HB6 := Lib.hid (HB2.out.trans (HBR.out.mono HB2.out.size))
          refine (Same Aj A cj c kj n wr.heap.size a a wr HKM.out h.len hk3 HRM.out (Rd.up (h.rd.below HB6.out) HB6.out.size)).mono ?_
          rw [decide_eq_true rfl]
          rintro e w8 ⟨rfl, d, rfl⟩
          go_wp2
          go_ret
          exact ⟨rfl, below_drewN HB6.out d⟩

end Hk
open Tx Df Hk
open Go.ChangeShapes Go.WideShapes Go.ChangeAt

theorem hunkGives_own : ownKnob Try.prog.godebug = none := by kernel_rfl
theorem hunkGives_laidOut : laidOutB Try.prog = true := by kernel_rfl

set_option maxRecDepth 100000 in
theorem hunkGives_lifted (os : Os) (started : os.Started) (H : Type) (enc : TypeId × Value → H) :
    ReturnsInHanded {} Try.checked os 6 .any (Rows.hunkGivesSpec.pre6 enc Try.prog Try.f6 Rows.hunkGivesRow.domain false) (Rows.hunkGivesSpec.post enc Try.prog Try.f6 false true false false) := by
  refine returnsInHanded_of_change (C := Try.checked) hunkGives_own started (by kernel_rfl) Try.func6
    (ChangeSpec.witness6 (enc := enc) (C := Try.checked) false ⟨#[], #[.slice none 0 0, .slice none 0 0], []⟩ 8 (by kernel_rfl) (by kernel_rfl) (by kernel_rfl) (by kernel_rfl)) ?_
  intro W base args ds gs before hval0 hW hcnd _
  have hval : ∀ (j : Nat) t v, Try.f6.params[j]? = some t → args[j]? = some v → Value.okWide Try.prog W .any base t v := hval0
  have hW' := hW
  obtain ⟨p, q, hA0, hV, rfl, hfz, hnd⟩ := hW
  have hA : DataW.TrodAll enc Try.prog W 0 (fun _ => true) true Try.f6.params.toList args.toList ds p := hA0
  rw [Try.params6] at hA hval
  obtain ⟨v0, vs0, d0, ds0, p0, q0, hargs, rfl, rfl, h0, r0⟩ := trodAll_cons hA
  obtain ⟨v1, vs1, d1, ds1, p1, q1, rfl, rfl, rfl, h1, r1⟩ := trodAll_cons r0
  obtain ⟨rfl, rfl, rfl⟩ := trodAll_nil r1
  obtain rfl : args = #[v0, v1] := by cases args; simp_all
  obtain ⟨rfl, rfl⟩ := trodVars_none hV
  obtain ⟨a0, n0, c0, rfl⟩ := okWide_slice Try.underlying22 (hval 0 22 v0 rfl rfl)
  have k0 := h0
  have lt0 : ∀ x ∈ p0, x.block < W.heap.size := by obtain ⟨m, hm⟩ := k0; exact DataW.trod_lt m _ _ _ hm
  obtain ⟨l0, s0⟩ : ∃ l, StrArg W a0 n0 c0 l := by
    obtain ⟨fuel, hf⟩ := h0
    exact strs_in hf (by simp [Value.cells])
  obtain ⟨a1, n1, c1, rfl⟩ := okWide_slice Try.underlying22 (hval 1 22 v1 rfl rfl)
  have k1 := h1
  have lt1 : ∀ x ∈ p1, x.block < W.heap.size := by obtain ⟨m, hm⟩ := k1; exact DataW.trod_lt m _ _ _ hm
  obtain ⟨l1, s1⟩ : ∃ l, StrArg W a1 n1 c1 l := by
    obtain ⟨fuel, hf⟩ := h1
    exact strs_in hf (by simp [Value.cells])
  clear hA0 hval0
  refine (hunkGives_walk a0 n0 c0 l0 a1 n1 c1 l1 W s0 s1).mono fun e W' ⟨he, bel⟩ => ?_
  subst he
  exact ⟨_, rfl, _, _, _, [], _, [], hW', trodAll_mk1 (shut_bool Try.underlying4 _), (trodAll_cons_mk (Below.trod hunkGives_laidOut (by kernel_rfl) (of_decide_eq_true (by kernel_rfl)) k0 bel lt0) (trodAll_cons_mk (Below.trod hunkGives_laidOut (by kernel_rfl) (of_decide_eq_true (by kernel_rfl)) k1 bel lt1) trodAll_mk0)), rfl, bel.frame _, fun h => by cases h⟩

/-- The statement. -/
theorem hunkGives_proved : Rows.HunkGivesSaid :=
  OpenClaim.holds_of_wide 6 Try.f6 rfl rfl rfl rfl rfl rfl rfl ⟨rfl, rfl, rfl, rfl, rfl⟩ rfl rfl rfl rfl rfl (by kernel_rfl) Try.func6 (by kernel_rfl)
    (of_decide_eq_true (by kernel_rfl)) (by unfold Func.isWrapper; first | (rw [if_pos (by decide +kernel)]; kernel_rfl) | (rw [if_neg (by decide +kernel)]; exact ⟨rfl, rfl⟩))
    (fun os started H enc _ => hunkGives_lifted os started H enc)

#print axioms hunkGives_proved
end Go.Proofs.Ytkpgkbllcdpobaa
