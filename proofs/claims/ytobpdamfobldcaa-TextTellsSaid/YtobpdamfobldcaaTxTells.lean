/-
  The statement TextTells: for every slice of bytes, every list of strings and every string the law returns true, and all three read as they did. No conditions.
-/
import Derived.Test.YtobpdamfobldcaaTxRefs
namespace Go.Proofs.Ytobpdamfobldcaa
open Go.RowKit Go.Shelf
set_option linter.unusedVariables false
namespace Tx

theorem light_len {ls : List (List UInt8)} {most : Nat} (h : light ls most = true) : ∀ x ∈ ls, x.length ≤ 200 := by
  unfold light at h
  simp only [Bool.and_eq_true, List.all_eq_true, decide_eq_true_eq] at h
  exact h.2
theorem splitL_len' (bs : List UInt8) : (splitL bs).length ≤ 200 := by
  by_cases h : splitE bs = 0
  · exact splitL_len h
  · rw [split_none h]; simp

set_option maxRecDepth 100000 in
set_option maxHeartbeats 2000000 in
theorem textTells_walk (A A' : Option Addr) (n cap n' cap' : Nat) (bs : List UInt8) (ls : List (List UInt8)) (s : ByteArray) (w : World) (hn : bs.length = n) (hn' : ls.length = n') (hc : n ≤ cap) (hnm : n ≤ maxLen) (hnm' : n' ≤ maxLen)
    (hR : RdB w w.heap.size A bs) (hR' : RdS w w.heap.size A' ls) (hs : s.size ≤ maxLen) :
    Calls Try.prog 3 #[.slice A n cap, .slice A' n' cap', .string s] w fun e w' => e = .returned (.bool true) ∧ Below w.heap.size w w' := by
  have HN := Lib.hid hn; clear hn
  have HN' := Lib.hid hn'; clear hn'
  have HM := Lib.hid hnm'; clear hnm'
  have HS := Lib.hid hs
  unfold maxLen at hnm hs
  go_enter Try.func3, Try.ntmps3
  go_wp2_with fail
  refine (awake w).mono ?_
  rintro e w1 ⟨rfl, hB1⟩
  have hR1' : RdS w1 w.heap.size A' ls := hR'.below hB1
  go_wp2_with fail
  refine (Light _ _ _ _ 300 ls _ HN'.out HM.out hR1' (by decide)).mono ?_
  rintro e w' ⟨rfl, rfl⟩
  cases hli : light ls 300 with
  | false =>
    go_wp2
    go_ret
    exact ⟨rfl, hB1⟩
  | true =>
    by_cases h3 : 3000 < n
    · go_wp2
      go_ret
      exact ⟨rfl, hB1⟩
    · by_cases h4 : 300 < s.size
      · go_wp2
        go_ret
        exact ⟨rfl, hB1⟩
      · have HL : Hid (∀ x ∈ ls, x.length ≤ maxLen) := Lib.hid (fun x hx => by have := light_len hli x hx; unfold maxLen; omega)
        go_wp2_with fail
        refine (Split A cap n bs w1 HN.out hc (hR.below hB1 |>.up hB1.size)).mono ?_
        rintro e w2 ⟨v2, rfl, hrow2, _, hb2⟩
        obtain ⟨A2, c2, rfl, _, hrd2⟩ := rd_of_own hrow2
        have hB2 : Below w.heap.size w w2 := hB1.trans (hb2.mono hB1.size)
        go_wp2_with fail
        refine (RefSplit A cap n bs w2 HN.out (by omega) hc (hR.below hB2 |>.up hB2.size)).mono ?_
        rintro e w3 ⟨v3, rfl, hrow3, hb3⟩
        obtain ⟨A3, c3, rfl, _, hrd3⟩ := rd_of_own hrow3
        have hB3 : Below w.heap.size w w3 := hB2.trans (hb3.mono hB2.size)
        have hrd23 : RdS w3 w3.heap.size A2 (splitL bs) := Rd.up (hrd2.below hb3) hb3.size
        have HXM := Lib.hid (splitL_len' bs)
        generalize hxl : (splitL bs).length = xl at *
        have HXL := Lib.hid hxl; clear hxl
        generalize splitE bs = E at *
        go_wp2_with fail
        refine (Same A2 A3 c2 c3 xl xl w3.heap.size (splitL bs) (splitL bs) w3 HXL.out HXL.out (by have := HXM.out; unfold maxLen; omega) hrd23 hrd3).mono ?_
        rintro e w' ⟨rfl, d, rfl⟩
        rw [decide_eq_true rfl]
        obtain ⟨wx, hwx⟩ : ∃ wx, wx = w3.drewN d := ⟨_, rfl⟩
        have hBx : Below w.heap.size w wx := by rw [hwx]; exact below_drewN hB3 d
        rw [← hwx]
        clear hwx
        have hRx : RdS wx wx.heap.size A' ls := Rd.up (hR'.below hBx) hBx.size
        go_wp2_with fail
        refine (Join A' cap' n' ls wx HN'.out hRx).mono ?_
        rintro e w4 ⟨v4, rfl, hrow4, hb4⟩
        obtain ⟨A4, c4, rfl, _, hrd4⟩ := rd_of_own hrow4
        have hB4 : Below w.heap.size w w4 := hBx.trans (hb4.mono hBx.size)
        have hR4 : RdS w4 w4.heap.size A' ls := Rd.up (hR'.below hB4) hB4.size
        go_wp2_with fail
        refine (RefJoin A' cap' n' ls w4 HN'.out HM.out hR4 HL.out).mono ?_
        rintro e w5 ⟨v5, rfl, hrow5, hb5⟩
        obtain ⟨A5, c5, rfl, _, hrd5⟩ := rd_of_own hrow5
        have hB5 : Below w.heap.size w w5 := hB4.trans (hb5.mono hB4.size)
        have hrd45 : RdB w5 w4.heap.size A4 (joinB ls) := hrd4.below hb5
        have hR5 : RdS w5 w.heap.size A' ls := hR'.below hB5
        go_wp2_with fail
        refine (RefMay s _ HS.out).mono ?_
        rintro e w' ⟨rfl, rfl⟩
        go_wp2_with fail
        refine (RefAll A' cap' n' _ ls _ HN'.out HM.out hR5 HL.out).mono ?_
        rintro e w' ⟨rfl, rfl⟩
        go_wp2_with fail
        refine (RefName s _ HS.out).mono ?_
        rintro e w' ⟨rfl, rfl⟩
        have hcv1 := run_conv (P := Try.prog) hrd45 22 9 5 c4 Try.underlying22 Try.underlying5 Try.underlying9
        have hcv2 := run_conv (P := Try.prog) hrd5 22 9 5 c5 Try.underlying22 Try.underlying5 Try.underlying9
        generalize joinE ls = E2 at *
        generalize hjb : joinB ls = jb at *
        generalize hmb : may s.data.toList = mb
        generalize hnb : name s.data.toList = nb
        have HMB := Lib.hid hmb; clear hmb
        have HNB := Lib.hid hnb; clear hnb
        clear hjb
        go_wp2_with fail
        refine (May s _).mono ?_
        rintro e w' ⟨rfl, rfl⟩
        rw [HMB.out]
        go_wp2_with fail
        refine (All A' cap' n' _ ls _ HN'.out hR5).mono ?_
        rintro e w' ⟨rfl, rfl⟩
        go_wp2_with fail
        refine (Name s _ HS.out).mono ?_
        rintro e w' ⟨rfl, rfl⟩
        rw [HNB.out]
        go_wp2
        go_ret
        exact ⟨rfl, hB5⟩

end Tx
open Tx
open Go.ChangeShapes Go.WideShapes Go.ChangeAt
open Go.ChangeMaps (open_string shut_string)

theorem textTells_own : ownKnob Try.prog.godebug = none := by kernel_rfl
theorem textTells_laidOut : laidOutB Try.prog = true := by kernel_rfl

set_option maxRecDepth 100000 in
theorem textTells_lifted (os : Os) (started : os.Started) (H : Type) (enc : TypeId × Value → H) :
    ReturnsInHanded {} Try.checked os 3 .any (Rows.textTellsSpec.pre6 enc Try.prog Try.f3 Rows.textTellsRow.domain false) (Rows.textTellsSpec.post enc Try.prog Try.f3 false true false false) := by
  refine returnsInHanded_of_change (C := Try.checked) textTells_own started (by kernel_rfl) Try.func3
    (ChangeSpec.witness6 (enc := enc) (C := Try.checked) false ⟨#[], #[.slice none 0 0, .slice none 0 0, .string ByteArray.empty], []⟩ 8 (by kernel_rfl) (by kernel_rfl) (by kernel_rfl) (by kernel_rfl)) ?_
  intro W base args ds gs before hval0 hW hcnd _
  have hval : ∀ (j : Nat) t v, Try.f3.params[j]? = some t → args[j]? = some v → Value.okWide Try.prog W .any base t v := hval0
  have hW' := hW
  obtain ⟨p, q, hA0, hV, rfl, hfz, hnd⟩ := hW
  have hA : DataW.TrodAll enc Try.prog W 0 (fun _ => true) true Try.f3.params.toList args.toList ds p := hA0
  rw [Try.params3] at hA hval
  obtain ⟨v0, vs0, d0, ds0, p0, q0, hargs, rfl, rfl, h0, r0⟩ := trodAll_cons hA
  obtain ⟨v1, vs1, d1, ds1, p1, q1, rfl, rfl, rfl, h1, r1⟩ := trodAll_cons r0
  obtain ⟨v2, vs2, d2, ds2, p2, q2, rfl, rfl, rfl, h2, r2⟩ := trodAll_cons r1
  obtain ⟨rfl, rfl, rfl⟩ := trodAll_nil r2
  obtain rfl : args = #[v0, v1, v2] := by cases args; simp_all
  obtain ⟨rfl, rfl⟩ := trodVars_none hV
  obtain ⟨a0, len0, cap0, rfl⟩ := okWide_slice Try.underlying22 (hval 0 22 v0 rfl rfl)
  have k0 := h0
  have lt0 : ∀ x ∈ p0, x.block < W.heap.size := by obtain ⟨m, hm⟩ := k0; exact DataW.trod_lt m _ _ _ hm
  obtain ⟨bs, hbl, hbc, hbm, hbr⟩ : ∃ bs : List UInt8, bs.length = len0 ∧ len0 ≤ cap0 ∧ len0 ≤ maxLen ∧ RdB W W.heap.size a0 bs := by
    obtain ⟨fuel, hf⟩ := h0
    exact bytes_in hf (by simp [Value.cells])
  obtain ⟨a1, len1, cap1, rfl⟩ := okWide_slice Try.underlying23 (hval 1 23 v1 rfl rfl)
  have k1 := h1
  have lt1 : ∀ x ∈ p1, x.block < W.heap.size := by obtain ⟨m, hm⟩ := k1; exact DataW.trod_lt m _ _ _ hm
  obtain ⟨ls, hll, hlc, hlm, hlr⟩ : ∃ ls : List (List UInt8), ls.length = len1 ∧ len1 ≤ cap1 ∧ len1 ≤ maxLen ∧ RdS W W.heap.size a1 ls := by
    obtain ⟨fuel, hf⟩ := h1
    exact strs_in hf (by simp [Value.cells])
  obtain ⟨a2, rfl, rfl, rfl, w2⟩ := open_string Try.underlying9 (hval 2 9 v2 rfl rfl) h2
  clear hA0 hval0
  refine (textTells_walk a0 a1 len0 cap0 len1 cap1 bs ls a2 W hbl hll hbc hbm hlm hbr hlr w2).mono fun e W' ⟨he, bel⟩ => ?_
  subst he
  exact ⟨_, rfl, _, _, _, [], _, [], hW', trodAll_mk1 (shut_bool Try.underlying4 _), (trodAll_cons_mk (Below.trod textTells_laidOut (by kernel_rfl) (of_decide_eq_true (by kernel_rfl)) k0 bel lt0) (trodAll_cons_mk (Below.trod textTells_laidOut (by kernel_rfl) (of_decide_eq_true (by kernel_rfl)) k1 bel lt1) (trodAll_cons_mk (shut_string Try.underlying9 w2) trodAll_mk0))), rfl, bel.frame _, fun h => by cases h⟩

/-- The statement. -/
theorem textTells_proved : Rows.TextTellsSaid :=
  OpenClaim.holds_of_wide 3 Try.f3 rfl rfl rfl rfl rfl rfl rfl ⟨rfl, rfl, rfl, rfl, rfl⟩ rfl rfl rfl rfl rfl (by kernel_rfl) Try.func3 (by kernel_rfl)
    (of_decide_eq_true (by kernel_rfl)) (by unfold Func.isWrapper; first | (rw [if_pos (by decide +kernel)]; kernel_rfl) | (rw [if_neg (by decide +kernel)]; exact ⟨rfl, rfl⟩))
    (fun os started H enc _ => textTells_lifted os started H enc)

#print axioms textTells_proved
end Go.Proofs.Ytobpdamfobldcaa
