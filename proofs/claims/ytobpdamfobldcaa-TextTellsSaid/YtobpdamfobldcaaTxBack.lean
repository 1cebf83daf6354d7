/-
  The statement TextBack: for every slice of bytes and every list of strings the law returns true, and both read as they did. No conditions.
-/
import Derived.Test.YtobpdamfobldcaaTxJoin
import Derived.Test.YtobpdamfobldcaaTxOpen
namespace Go.Proofs.Ytobpdamfobldcaa
open Go.RowKit Go.Shelf
set_option linter.unusedVariables false
namespace Tx

theorem may_no10 {x : List UInt8} (h : may x = true) : 10 ∉ x := by
  unfold may at h
  simp only [Bool.and_eq_true] at h
  have := h.2
  simpa using this
theorem joinL_cons (x : List UInt8) (ls : List (List UInt8)) : joinL (x :: ls) = x ++ 10 :: joinL ls := by simp [joinL]
theorem cut_join : ∀ {ls : List (List UInt8)}, (∀ x ∈ ls, 10 ∉ x) → cut (joinL ls) = ls
  | [], _ => rfl
  | x :: ls, h => by
    rw [joinL_cons, cut_some _ (h x (by simp)), cut_join (fun y hy => h y (by simp [hy]))]
theorem last_join : ∀ {ls : List (List UInt8)}, joinL ls ≠ [] → (joinL ls).getLast? = some 10
  | [], h => absurd rfl h
  | x :: ls, h => by
    rw [joinL_cons]
    by_cases h2 : joinL ls = []
    · rw [h2]; simp
    · have := last_join h2
      rw [List.getLast?_append, List.getLast?_cons, this]; simp
theorem join_split {ls : List (List UInt8)} (ha : allMay ls = true) : splitE (joinL ls) = 0 ∧ splitL (joinL ls) = ls := by
  obtain ⟨hl, hall⟩ := allMay_parts ha
  have hc := cut_join (ls := ls) (fun x hx => may_no10 (hall x hx))
  have hlen := joinL_len (ls := ls) (fun x hx => may_len (hall x hx))
  have hcnt : (joinL ls).count 10 = ls.length := by rw [← cut_length, hc]
  have e : splitE (joinL ls) = 0 := by
    unfold splitE
    rw [if_neg (by rw [hcnt]; omega), if_neg (by rintro ⟨h1, h2⟩; exact h2 (last_join h1)), if_pos (by rw [hc]; exact all_of hall)]
  exact ⟨e, by unfold splitL; rw [if_pos e, hc]⟩

theorem join_cutL : ∀ (l acc : List UInt8), l.getLast? = some 10 → joinL (cutL acc l) = acc ++ l
  | [], _, h => by cases h
  | c :: r, acc, h => by
    rw [cutL]
    by_cases hc : c = 10
    · rw [if_pos hc, joinL_cons]
      cases r with
      | nil => simp [cutL, joinL, hc]
      | cons d r =>
        have := join_cutL (d :: r) [] (by simpa using h)
        rw [this, hc]; simp
    · rw [if_neg hc]
      cases r with
      | nil => simp at h; exact absurd h hc
      | cons d r =>
        have := join_cutL (d :: r) (acc ++ [c]) (by simpa using h)
        rw [this]; simp
theorem split_parts {bs : List UInt8} (h : splitE bs = 0) : bs.count 10 ≤ 200 ∧ (bs = [] ∨ bs.getLast? = some 10) ∧ (cut bs).all may = true := by
  unfold splitE at h
  by_cases h1 : bs.length > 200000 ∨ bs.count 10 > 200
  · rw [if_pos h1] at h; cases h
  · rw [if_neg h1] at h
    by_cases h2 : bs ≠ [] ∧ bs.getLast? ≠ some 10
    · rw [if_pos h2] at h; cases h
    · rw [if_neg h2] at h
      by_cases h3 : (cut bs).all may = true
      · refine ⟨by omega, ?_, h3⟩
        by_cases hb : bs = []
        · exact .inl hb
        · right
          rcases Classical.em (bs.getLast? = some 10) with h | h
          · exact h
          · exact absurd ⟨hb, h⟩ h2
      · rw [if_neg h3] at h; cases h
theorem split_join {bs : List UInt8} (h : splitE bs = 0) : splitL bs = cut bs ∧ allMay (cut bs) = true ∧ joinL (cut bs) = bs := by
  obtain ⟨h1, h2, h3⟩ := split_parts h
  refine ⟨by unfold splitL; rw [if_pos h], ?_, ?_⟩
  · unfold allMay; rw [cut_length, h3]; simp [h1]
  · rcases h2 with rfl | h2
    · rfl
    · exact join_cutL bs [] h2
theorem split_none {bs : List UInt8} (h : ¬ splitE bs = 0) : splitL bs = [] := by unfold splitL; rw [if_neg h]

set_option maxRecDepth 100000 in
set_option maxHeartbeats 2000000 in
theorem textBack_walk (A A' : Option Addr) (n cap n' cap' : Nat) (bs : List UInt8) (ls : List (List UInt8)) (w : World) (hn : bs.length = n) (hn' : ls.length = n') (hc : n ≤ cap) (hnm : n ≤ maxLen) (hnm' : n' ≤ maxLen)
    (hR : RdB w w.heap.size A bs) (hR' : RdS w w.heap.size A' ls) :
    Calls Try.prog 4 #[.slice A n cap, .slice A' n' cap'] w fun e w' => e = .returned (.bool true) ∧ Below w.heap.size w w' := by
  have HN := Lib.hid hn; clear hn
  have HN' := Lib.hid hn'; clear hn'
  have HM := Lib.hid hnm'; clear hnm'
  unfold maxLen at hnm
  go_enter Try.func4, Try.ntmps4
  go_wp2_with fail
  refine (awake w).mono ?_
  rintro e w1 ⟨rfl, hB1⟩
  have hR1 : RdB w1 w.heap.size A bs := hR.below hB1
  have hR1' : RdS w1 w.heap.size A' ls := hR'.below hB1
  go_wp2_with fail
  refine (Light _ _ _ _ 300 ls _ HN'.out HM.out hR1' (by decide)).mono ?_
  rintro e w' ⟨rfl, rfl⟩
  cases hli : light ls 300 with
  | false =>
    go_wp2
    go_ret
    exact ⟨rfl, hB1⟩
  | true =>
    by_cases h3 : 3000 < n
    · go_wp2
      go_ret
      exact ⟨rfl, hB1⟩
    · have hRu : RdS w1 w1.heap.size A' ls := hR1'.up hB1.size
      go_wp2_with fail
      cases ha : allMay ls with
      | false =>
        refine (join_no A' cap' n' ls w1 HN'.out hRu ha).mono ?_
        rintro e w2 ⟨v, rfl, hrow, hb⟩
        obtain ⟨Av, cv, rfl⟩ := row_form hrow
        have hB2 : Below w.heap.size w w2 := hB1.trans (hb.mono hB1.size)
        have hR2' : RdS w2 w.heap.size A' ls := hR'.below hB2
        go_wp2_with fail
        refine (All _ _ _ _ ls _ HN'.out hR2').mono ?_
        rintro e w' ⟨rfl, rfl⟩
        rw [ha]
        go_wp2_with fail
        obtain ⟨wx, hwx⟩ : ∃ wx, wx = w2 := ⟨_, rfl⟩
        rw [← hwx] at hB2 ⊢
        have hBx := hB2
        clear hwx hB2
        by_cases hs : splitE bs = 0
        · obtain ⟨hs1, hs2, hs3⟩ := split_join hs
          refine (Split A cap n bs wx HN.out hc (hR.below hBx |>.up hBx.size)).mono ?_
          rw [hs, hs1]
          have HS1 := Lib.hid hs1; clear hs1 hs
          have HS2 := Lib.hid hs2; clear hs2
          have HS3 := Lib.hid hs3; clear hs3
          rintro e w4 ⟨v4, rfl, hrow4, _, hb4⟩
          obtain ⟨A4, c4, rfl, _, hrd4⟩ := rd_of_own hrow4
          have hB4 : Below w.heap.size w w4 := hBx.trans (hb4.mono hBx.size)
          go_wp2_with fail
          refine (join_yes A4 c4 _ (cut bs) w4 rfl hrd4 HS2.out).mono ?_
          rw [HS3.out]
          rintro e w5 ⟨v5, rfl, hrow5, hb5⟩
          obtain ⟨A5, c5, rfl, _, hrd5⟩ := rd_of_own hrow5
          have hB5 : Below w.heap.size w w5 := hB4.trans (hb5.mono hB4.size)
          have hrd45 : RdS w5 w4.heap.size A4 (cut bs) := hrd4.below hb5
          go_wp2_with fail
          refine (All _ _ _ _ (cut bs) _ rfl hrd45).mono ?_
          rintro e w' ⟨rfl, rfl⟩
          rw [HS2.out]
          have hcv1 := run_conv (P := Try.prog) hrd5 22 9 5 c5 Try.underlying22 Try.underlying5 Try.underlying9
          have hcv2 := run_conv (P := Try.prog) (hR.below hB5) 22 9 5 cap Try.underlying22 Try.underlying5 Try.underlying9
          rw [HN.out] at hcv2
          go_wp2
          go_ret
          exact ⟨rfl, hB5⟩
        · have hne : (splitE bs != 0) = true := by rw [bne_iff_ne]; exact hs
          have hs0 := split_none hs
          refine (Split A cap n bs wx HN.out hc (hR.below hBx |>.up hBx.size)).mono ?_
          rw [hs0]
          clear hs hs0
          rintro e w4 ⟨v4, rfl, hrow4, hnil4, hb4⟩
          obtain rfl := hnil4.2 rfl
          have hB4 : Below w.heap.size w w4 := hBx.trans (hb4.mono hBx.size)
          go_wp2
          go_ret
          exact ⟨rfl, hB4⟩
      | true =>
        obtain ⟨hj1, hj2⟩ := join_split ha
        refine (join_yes A' cap' n' ls w1 HN'.out hRu ha).mono ?_
        have HJ1 := Lib.hid hj1; clear hj1
        have HJ2 := Lib.hid hj2; clear hj2
        rintro e w2 ⟨v, rfl, hrow, hb⟩
        obtain ⟨Av, cv, rfl, hcv, hrd⟩ := rd_of_own hrow
        have hB2 : Below w.heap.size w w2 := hB1.trans (hb.mono hB1.size)
        have hR2' : RdS w2 w.heap.size A' ls := hR'.below hB2
        generalize hjl : (joinL ls).length = jl at *
        have HJL := Lib.hid hjl; clear hjl
        go_wp2_with fail
        refine (All _ _ _ _ ls _ HN'.out hR2').mono ?_
        rintro e w' ⟨rfl, rfl⟩
        rw [ha]
        go_wp2_with fail
        refine (Split Av cv jl (joinL ls) w2 HJL.out hcv hrd).mono ?_
        rw [HJ1.out, HJ2.out]
        rintro e w3 ⟨v3, rfl, hrow3, _, hb3⟩
        obtain ⟨A3, c3, rfl, _, hrd3⟩ := rd_of_own hrow3
        have hB3 : Below w.heap.size w w3 := hB2.trans (hb3.mono hB2.size)
        have hR3' : RdS w3 w3.heap.size A' ls := Rd.up (hR'.below hB3) hB3.size
        rw [HN'.out]
        go_wp2_with fail
        refine (Same A' A3 cap' c3 n' n' w3.heap.size ls ls w3 HN'.out HN'.out HM.out hR3' hrd3).mono ?_
        rintro e w' ⟨rfl, d, rfl⟩
        rw [decide_eq_true rfl]
        go_wp2_with fail
        obtain ⟨wx, hwx⟩ : ∃ wx, wx = w3.drewN d := ⟨_, rfl⟩
        have hBx : Below w.heap.size w wx := by rw [hwx]; exact below_drewN hB3 d
        rw [← hwx]
        clear hwx
        by_cases hs : splitE bs = 0
        · obtain ⟨hs1, hs2, hs3⟩ := split_join hs
          refine (Split A cap n bs wx HN.out hc (hR.below hBx |>.up hBx.size)).mono ?_
          rw [hs, hs1]
          have HS1 := Lib.hid hs1; clear hs1 hs
          have HS2 := Lib.hid hs2; clear hs2
          have HS3 := Lib.hid hs3; clear hs3
          rintro e w4 ⟨v4, rfl, hrow4, _, hb4⟩
          obtain ⟨A4, c4, rfl, _, hrd4⟩ := rd_of_own hrow4
          have hB4 : Below w.heap.size w w4 := hBx.trans (hb4.mono hBx.size)
          go_wp2_with fail
          refine (join_yes A4 c4 _ (cut bs) w4 rfl hrd4 HS2.out).mono ?_
          rw [HS3.out]
          rintro e w5 ⟨v5, rfl, hrow5, hb5⟩
          obtain ⟨A5, c5, rfl, _, hrd5⟩ := rd_of_own hrow5
          have hB5 : Below w.heap.size w w5 := hB4.trans (hb5.mono hB4.size)
          have hrd45 : RdS w5 w4.heap.size A4 (cut bs) := hrd4.below hb5
          go_wp2_with fail
          refine (All _ _ _ _ (cut bs) _ rfl hrd45).mono ?_
          rintro e w' ⟨rfl, rfl⟩
          rw [HS2.out]
          have hcv1 := run_conv (P := Try.prog) hrd5 22 9 5 c5 Try.underlying22 Try.underlying5 Try.underlying9
          have hcv2 := run_conv (P := Try.prog) (hR.below hB5) 22 9 5 cap Try.underlying22 Try.underlying5 Try.underlying9
          rw [HN.out] at hcv2
          go_wp2
          go_ret
          exact ⟨rfl, hB5⟩
        · have hne : (splitE bs != 0) = true := by rw [bne_iff_ne]; exact hs
          have hs0 := split_none hs
          refine (Split A cap n bs wx HN.out hc (hR.below hBx |>.up hBx.size)).mono ?_
          rw [hs0]
          clear hs hs0
          rintro e w4 ⟨v4, rfl, hrow4, hnil4, hb4⟩
          obtain rfl := hnil4.2 rfl
          have hB4 : Below w.heap.size w w4 := hBx.trans (hb4.mono hBx.size)
          go_wp2
          go_ret
          exact ⟨rfl, hB4⟩

end Tx
open Tx
open Go.ChangeShapes Go.WideShapes Go.ChangeAt
open Go.ChangeMaps (open_string shut_string)

theorem textBack_own : ownKnob Try.prog.godebug = none := by kernel_rfl
theorem textBack_laidOut : laidOutB Try.prog = true := by kernel_rfl

set_option maxRecDepth 100000 in
theorem textBack_lifted (os : Os) (started : os.Started) (H : Type) (enc : TypeId × Value → H) :
    ReturnsInHanded {} Try.checked os 4 .any (Rows.textBackSpec.pre6 enc Try.prog Try.f4 Rows.textBackRow.domain false) (Rows.textBackSpec.post enc Try.prog Try.f4 false true false false) := by
  refine returnsInHanded_of_change (C := Try.checked) textBack_own started (by kernel_rfl) Try.func4
    (ChangeSpec.witness6 (enc := enc) (C := Try.checked) false ⟨#[], #[.slice none 0 0, .slice none 0 0], []⟩ 8 (by kernel_rfl) (by kernel_rfl) (by kernel_rfl) (by kernel_rfl)) ?_
  intro W base args ds gs before hval0 hW hcnd _
  have hval : ∀ (j : Nat) t v, Try.f4.params[j]? = some t → args[j]? = some v → Value.okWide Try.prog W .any base t v := hval0
  have hW' := hW
  obtain ⟨p, q, hA0, hV, rfl, hfz, hnd⟩ := hW
  have hA : DataW.TrodAll enc Try.prog W 0 (fun _ => true) true Try.f4.params.toList args.toList ds p := hA0
  rw [Try.params4] at hA hval
  obtain ⟨v0, vs0, d0, ds0, p0, q0, hargs, rfl, rfl, h0, r0⟩ := trodAll_cons hA
  obtain ⟨v1, vs1, d1, ds1, p1, q1, rfl, rfl, rfl, h1, r1⟩ := trodAll_cons r0
  obtain ⟨rfl, rfl, rfl⟩ := trodAll_nil r1
  obtain rfl : args = #[v0, v1] := by cases args; simp_all
  obtain ⟨rfl, rfl⟩ := trodVars_none hV
  obtain ⟨a0, len0, cap0, rfl⟩ := okWide_slice Try.underlying22 (hval 0 22 v0 rfl rfl)
  have k0 := h0
  have lt0 : ∀ x ∈ p0, x.block < W.heap.size := by obtain ⟨m, hm⟩ := k0; exact DataW.trod_lt m _ _ _ hm
  obtain ⟨bs, hbl, hbc, hbm, hbr⟩ : ∃ bs : List UInt8, bs.length = len0 ∧ len0 ≤ cap0 ∧ len0 ≤ maxLen ∧ RdB W W.heap.size a0 bs := by
    obtain ⟨fuel, hf⟩ := h0
    exact bytes_in hf (by simp [Value.cells])
  obtain ⟨a1, len1, cap1, rfl⟩ := okWide_slice Try.underlying23 (hval 1 23 v1 rfl rfl)
  have k1 := h1
  have lt1 : ∀ x ∈ p1, x.block < W.heap.size := by obtain ⟨m, hm⟩ := k1; exact DataW.trod_lt m _ _ _ hm
  obtain ⟨ls, hll, hlc, hlm, hlr⟩ : ∃ ls : List (List UInt8), ls.length = len1 ∧ len1 ≤ cap1 ∧ len1 ≤ maxLen ∧ RdS W W.heap.size a1 ls := by
    obtain ⟨fuel, hf⟩ := h1
    exact strs_in hf (by simp [Value.cells])
  clear hA0 hval0
  refine (textBack_walk a0 a1 len0 cap0 len1 cap1 bs ls W hbl hll hbc hbm hlm hbr hlr).mono fun e W' ⟨he, bel⟩ => ?_
  subst he
  exact ⟨_, rfl, _, _, _, [], _, [], hW', trodAll_mk1 (shut_bool Try.underlying4 _), (trodAll_cons_mk (Below.trod textBack_laidOut (by kernel_rfl) (of_decide_eq_true (by kernel_rfl)) k0 bel lt0) (trodAll_cons_mk (Below.trod textBack_laidOut (by kernel_rfl) (of_decide_eq_true (by kernel_rfl)) k1 bel lt1) trodAll_mk0)), rfl, bel.frame _, fun h => by cases h⟩

/-- The statement. -/
theorem textBack_proved : Rows.TextBackSaid :=
  OpenClaim.holds_of_wide 4 Try.f4 rfl rfl rfl rfl rfl rfl rfl ⟨rfl, rfl, rfl, rfl, rfl⟩ rfl rfl rfl rfl rfl (by kernel_rfl) Try.func4 (by kernel_rfl)
    (of_decide_eq_true (by kernel_rfl)) (by unfold Func.isWrapper; first | (rw [if_pos (by decide +kernel)]; kernel_rfl) | (rw [if_neg (by decide +kernel)]; exact ⟨rfl, rfl⟩))
    (fun os started H enc _ => textBack_lifted os started H enc)

#print axioms textBack_proved
end Go.Proofs.Ytobpdamfobldcaa
