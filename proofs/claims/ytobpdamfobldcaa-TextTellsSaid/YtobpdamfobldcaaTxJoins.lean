/-
  The statement TextJoins: for every two slices of bytes the law returns true, and both read as they did. No conditions.
-/
import Derived.Test.YtobpdamfobldcaaTxBack
import Derived.Laws.OwnMore
namespace Go.Proofs.Ytobpdamfobldcaa
open Go.RowKit Go.Shelf
set_option linter.unusedVariables false
namespace Tx

section
variable {P : Program} {w : World}

/-- An append of cells that are read, nil let in, onto a row of the call's own. -/
theorem run_app_rd {base B n m c bytes : Nat} {t ty e : TypeId} {i : TypeInfo} {z v : Value} {xs news : List Value} {A : Option Addr} (ht : P.underlying t = some (.slice e)) (hi : P.info? e = some i) (hz : i.zero = some z)
    (hsize : i.size = 1) (hby : i.bytes = bytes) (hzs : z.cells.size = 1) (hown : w.ownsRow base e 1 v n xs) (hl : news.length = m) (hr : Rd w B A news) (h1 : ∀ u ∈ news, u.oneCell' = true)
    (h63 : n + m ≤ maxLen) (hbytes : (n + m) * bytes ≤ 140737488355328) (hbase : base ≤ w.heap.size) :
    ∃ v' w', (Builtin.append_ #[t, t] ty #[v, .slice A m c]).run P w = .ok v' w' ∧ w'.ownsRow base e 1 v' (n + m) (xs ++ news) ∧ w.grownBy w' v.ownBlock := by
  cases A with
  | none =>
    have hnil : news = [] := by
      rcases hr with h | ⟨a, h, _⟩
      · exact h
      · cases h
    subst hnil
    simp at hl
    subst hl
    refine ⟨v, w, ?_, by simpa using hown, World.grownBy.refl w _⟩
    rcases hown.2 with ⟨rfl, rfl⟩ | ⟨g, cap, cur, rfl, _, _, hnc, _⟩
    · simp [Builtin.append_, run_underlying ht, sizeOf, typeInfo, hi, Builtin.lenOf, Builtin.firstCells]
    · simp [Builtin.append_, run_underlying ht, sizeOf, typeInfo, hi, Builtin.lenOf, Builtin.firstCells, hnc, storeCells]
  | some a =>
    have hcells : ∀ j u, news[j]? = some u → w.cell? (a.add j) = some u := by
      rcases hr with h | ⟨a', h, _, hc⟩
      · subst h; intro j u hu; simp at hu
      · injection h with h; subst h; exact hc
    obtain ⟨v', w', h2, h3, h4, _⟩ := run_append_own (P := P) w base t ty e i z 1 bytes ht hi hz hsize hby hzs (by decide) v n xs hown a m c news (by omega) hcells h1 h63 hbytes hbase
    exact ⟨v', w', h2, h3, h4⟩

theorem wpList_app_rd {ops : Array Oper} {rest : List Oper} {o : Oper} {a : Act} {Q : Exit → Act → World → Prop} (hgd : o.guard = none) (s x : Operand) (t : TypeId)
    (ho : o.op = .call { callee := .builtin .append, args := #[s, x], argTypes := #[t, t] })
    (base : Nat) (e : TypeId) (i : TypeInfo) (z : Value) (bytes : Nat) (ht : P.underlying t = some (.slice e)) (hi : P.info? e = some i) (hz : i.zero = some z)
    (hsize : i.size = 1) (hby : i.bytes = bytes) (hzs : z.cells.size = 1)
    (v : Value) (n : Nat) (xs : List Value) (hs : a.eval s = v) (hown : w.ownsRow base e 1 v n xs)
    (B : Nat) (A : Option Addr) (m c : Nat) (news : List Value) (hx : a.eval x = .slice A m c) (hl : news.length = m) (hr : Rd w B A news) (h1 : ∀ u ∈ news, u.oneCell' = true)
    (h63 : n + m ≤ maxLen) (hbytes : (n + m) * bytes ≤ 140737488355328) (hbase : base ≤ w.heap.size)
    (h : ∀ v' w', w'.ownsRow base e 1 v' (n + m) (xs ++ news) → w.grownBy w' v.ownBlock → wpList P ops Q rest (a.put o.dst v') w') : wpList P ops Q (o :: rest) a w := by
  refine wpList_plain hgd fun K hK => ?_
  obtain ⟨v', w', hr, h2, h3⟩ := run_app_rd (P := P) (c := c) (ty := o.type) ht hi hz hsize hby hzs hown hl hr h1 h63 hbytes hbase
  unfold Oper.wp execOp
  simp only [ho, resolve, invoke, builtin, Sem.run_bind, Sem.run_pure, Result.andThen_ok, List.map_toArray, List.map_cons, List.map_nil, hs, hx, hr]
  exact hK _ _ (h v' w' h2 h3)
end

theorem bytes_one (bs : List UInt8) : ∀ u ∈ bs.map byteV, u.oneCell' = true := by
  intro u hu
  obtain ⟨c, _, rfl⟩ := List.mem_map.1 hu
  simp [byteV, Value.oneCell']
theorem strs_one (ls : List (List UInt8)) : ∀ u ∈ ls.map strV, u.oneCell' = true := by
  intro u hu
  obtain ⟨c, _, rfl⟩ := List.mem_map.1 hu
  simp [Value.oneCell']

theorem cutL_both : ∀ (a b acc : List UInt8), (a = [] → acc = []) → (a ≠ [] → a.getLast? = some 10) → cutL acc (a ++ b) = cutL acc a ++ cutL [] b
  | [], b, acc, h0, _ => by rw [h0 rfl]; simp [cutL]
  | c :: r, b, acc, _, h => by
    rw [List.cons_append, cutL, cutL]
    have hlast := h (by simp)
    by_cases hc : c = 10
    · rw [if_pos hc, if_pos hc, cutL_both r b [] (fun _ => rfl) (fun hr => by cases r with | nil => exact absurd rfl hr | cons d r => simpa using hlast)]
      simp
    · rw [if_neg hc, if_neg hc]
      refine cutL_both r b _ (fun hr => ?_) (fun hr => by cases r with | nil => exact absurd rfl hr | cons d r => simpa using hlast)
      subst hr; simp at hlast; exact absurd hlast hc

theorem split_both {a b : List UInt8} (ha : splitE a = 0) (hb : splitE b = 0) (hl : (cut a).length + (cut b).length ≤ 200) (hla : a.length ≤ 3000) (hlb : b.length ≤ 3000) :
    splitE (a ++ b) = 0 ∧ splitL (a ++ b) = cut a ++ cut b := by
  obtain ⟨_, ha2, ha3⟩ := split_parts ha
  obtain ⟨_, hb2, hb3⟩ := split_parts hb
  have hc : cut (a ++ b) = cut a ++ cut b := cutL_both a b [] (fun _ => rfl) (fun h => ha2.resolve_left h)
  have e : splitE (a ++ b) = 0 := by
    unfold splitE
    rw [cut_length, cut_length] at hl
    rw [if_neg (by rw [List.count_append, List.length_append]; omega), if_neg ?_, if_pos (by rw [hc, List.all_append, ha3, hb3]; rfl)]
    rintro ⟨h1, h2⟩
    apply h2
    rcases hb2 with rfl | hb2
    · rw [List.append_nil] at h1 ⊢
      exact ha2.resolve_left h1
    · rw [List.getLast?_append, hb2]; rfl
  exact ⟨e, by unfold splitL; rw [if_pos e, hc]⟩

theorem below_app {W w w' : World} {e n : Nat} {v : Value} {xs : List Value} (h : Below W.heap.size W w) (hown : w.ownsRow W.heap.size e 1 v n xs) (hg : w.grownBy w' v.ownBlock) : Below W.heap.size W w' :=
  h.grown hg h.size (own_ge hown)

theorem splitL_len {bs : List UInt8} (h : splitE bs = 0) : (splitL bs).length ≤ 200 := by
  obtain ⟨h1, _, _⟩ := split_parts h
  rw [(split_join h).1, cut_length]
  exact h1

set_option maxRecDepth 100000 in
set_option maxHeartbeats 2000000 in
theorem textJoins_walk (A A' : Option Addr) (n cap n' cap' : Nat) (bs cs : List UInt8) (w : World) (hn : bs.length = n) (hn' : cs.length = n') (hc : n ≤ cap) (hc' : n' ≤ cap') (hnm : n ≤ maxLen) (hnm' : n' ≤ maxLen)
    (hR : RdB w w.heap.size A bs) (hR' : RdB w w.heap.size A' cs) :
    Calls Try.prog 5 #[.slice A n cap, .slice A' n' cap'] w fun e w' => e = .returned (.bool true) ∧ Below w.heap.size w w' := by
  obtain ⟨i0, hi, hz0, hz1, hz2⟩ := info_parts info_byte
  obtain ⟨j0, hj, hy0, hy1, hy2⟩ := info_parts info_str
  have HN := Lib.hid hn; clear hn
  have HN' := Lib.hid hn'; clear hn'
  unfold maxLen at hnm hnm'
  go_enter Try.func5, Try.ntmps5
  go_wp2_with fail
  refine (awake w).mono ?_
  rintro e w1 ⟨rfl, hB1⟩
  by_cases h3 : 3000 < n
  · go_wp2
    go_ret
    exact ⟨rfl, hB1⟩
  · by_cases h3' : 3000 < n'
    · go_wp2
      go_ret
      exact ⟨rfl, hB1⟩
    · go_wp2_with fail
      refine (Split A cap n bs w1 HN.out hc (hR.below hB1 |>.up hB1.size)).mono ?_
      rintro e w2 ⟨v2, rfl, hrow2, _, hb2⟩
      obtain ⟨A2, c2, rfl, _, hrd2⟩ := rd_of_own hrow2
      have hB2 : Below w.heap.size w w2 := hB1.trans (hb2.mono hB1.size)
      go_wp2_with fail
      refine (Split A' cap' n' cs w2 HN'.out hc' (hR'.below hB2 |>.up hB2.size)).mono ?_
      rintro e w3 ⟨v3, rfl, hrow3, _, hb3⟩
      obtain ⟨A3, c3, rfl, _, hrd3⟩ := rd_of_own hrow3
      have hB3 : Below w.heap.size w w3 := hB2.trans (hb3.mono hB2.size)
      by_cases hs : splitE bs = 0
      · by_cases hs' : splitE cs = 0
        · have hlx := splitL_len hs
          have hly := splitL_len hs'
          have hbb := fun h => split_both hs hs' h (by rw [HN.out]; omega) (by rw [HN'.out]; omega)
          have HBB := Lib.hid hbb; clear hbb
          have HE1 := Lib.hid (split_join hs).1
          have HE2 := Lib.hid (split_join hs').1
          rw [hs, hs']
          clear hs hs'
          generalize hxl : (splitL bs).length = xl at *
          generalize hyl : (splitL cs).length = yl at *
          have HXL := Lib.hid hxl; clear hxl
          have HYL := Lib.hid hyl; clear hyl
          by_cases h200 : 200 < xl + yl
          · go_wp2
            go_ret
            exact ⟨rfl, hB3⟩
          · have hbb := HBB.out (by rw [← HE1.out, ← HE2.out, HXL.out, HYL.out]; omega)
            obtain ⟨hbb1, hbb2⟩ := hbb
            have HB1 := Lib.hid hbb1; clear hbb1
            have HB2 := Lib.hid hbb2; clear hbb2
            have hw3 := hB3.size
            have hRd3 : RdB w3 w.heap.size A bs := hR.below hB3
            have hRd3' : RdB w3 w.heap.size A' cs := hR'.below hB3
            go_wp2_with (first
              | (at_builtin; refine wpList_app_rd rfl (.const (.slice none 0 0)) (.tmp 52) 22 rfl w3.heap.size 5 i0 (.int .u8 0) 1 Try.underlying22 hi hz0 hz1 hz2 rfl (.slice none 0 0) 0 [] rfl (World.ownsRow_nil _ _ _ _) w.heap.size A n cap (bs.map byteV) rfl (by rw [List.length_map]; exact HN.out) hRd3 (bytes_one bs) (by unfold maxLen; omega) (by omega) (Nat.le_refl _) ?_; intro v4 w4 hown4 hgrow4; have hB34 := below_app (Below.refl w3.heap.size w3) (World.ownsRow_nil w3 w3.heap.size 5 1) hgrow4; have hRd4' : RdB w4 w.heap.size A' cs := hR'.below (hB3.trans (hB34.mono hw3)))
              | (at_builtin; refine wpList_app_rd rfl (.tmp 53) (.tmp 54) 22 rfl w3.heap.size 5 i0 (.int .u8 0) 1 Try.underlying22 hi hz0 hz1 hz2 rfl v4 (0 + n) ([] ++ bs.map byteV) rfl hown4 w.heap.size A' n' cap' (cs.map byteV) rfl (by rw [List.length_map]; exact HN'.out) hRd4' (bytes_one cs) (by unfold maxLen; omega) (by omega) hB34.size ?_; intro v5 w5 hown5 hgrow5; have hB35 := below_app hB34 hown4 hgrow5; simp only [Nat.zero_add, List.nil_append, ← List.map_append] at hown5; obtain ⟨A5, c5, rfl, hc5, hrd5⟩ := rd_of_own hown5))
            refine (Split A5 c5 (n + n') (bs ++ cs) w5 (by rw [List.length_append, HN.out, HN'.out]) hc5 hrd5).mono ?_
            rw [HB1.out, HB2.out]
            rintro e w6 ⟨v6, rfl, hrow6, _, hb6⟩
            have hB36 : Below w3.heap.size w3 w6 := hB35.trans (hb6.mono hB35.size)
            obtain ⟨A6, c6, rfl, _, hrd6⟩ := rd_of_own hrow6
            have hRx : Rd w6 w2.heap.size A2 ((splitL bs).map strV) := hrd2.below (hb3.trans (hB36.mono hb3.size))
            have hRy : Rd w6 w3.heap.size A3 ((splitL cs).map strV) := hrd3.below hB36
            generalize hzl : (cut bs ++ cut cs).length = zl at *
            have HZL := Lib.hid hzl; clear hzl
            go_wp2_with (first
              | (at_builtin; refine wpList_app_rd rfl (.const (.slice none 0 0)) (.tmp 59) 23 rfl w6.heap.size 9 j0 (.string ⟨#[]⟩) 16 Try.underlying23 hj hy0 hy1 hy2 rfl (.slice none 0 0) 0 [] rfl (World.ownsRow_nil _ _ _ _) w2.heap.size A2 xl c2 ((splitL bs).map strV) rfl (by rw [List.length_map]; exact HXL.out) hRx (strs_one _) (by unfold maxLen; omega) (by omega) (Nat.le_refl _) ?_; intro v7 w7 hown7 hgrow7; have hB67 := below_app (Below.refl w6.heap.size w6) (World.ownsRow_nil w6 w6.heap.size 9 1) hgrow7; have hRy7 : Rd w7 w3.heap.size A3 ((splitL cs).map strV) := hrd3.below (hB36.trans (hB67.mono hB36.size)))
              | (at_builtin; refine wpList_app_rd rfl (.tmp 60) (.tmp 61) 23 rfl w6.heap.size 9 j0 (.string ⟨#[]⟩) 16 Try.underlying23 hj hy0 hy1 hy2 rfl v7 (0 + xl) ([] ++ (splitL bs).map strV) rfl hown7 w3.heap.size A3 yl c3 ((splitL cs).map strV) rfl (by rw [List.length_map]; exact HYL.out) hRy7 (strs_one _) (by unfold maxLen; omega) (by omega) hB67.size ?_; intro v8 w8 hown8 hgrow8; have hB68 := below_app hB67 hown7 hgrow8; simp only [Nat.zero_add, List.nil_append, ← List.map_append] at hown8; obtain ⟨A8, c8, rfl, hc8, hrd8⟩ := rd_of_own hown8))
            have hB08 : Below w.heap.size w w8 := hB3.trans ((hB36.trans (hB68.mono hB36.size)).mono hw3)
            have hrd68 : RdS w8 w8.heap.size A6 (cut bs ++ cut cs) := Rd.up (hrd6.below hB68) hB68.size
            refine (Same A8 A6 c8 c6 (xl + yl) zl w8.heap.size (splitL bs ++ splitL cs) (cut bs ++ cut cs) w8 (by rw [List.length_append, HXL.out, HYL.out]) HZL.out (by unfold maxLen; omega) hrd8 hrd68).mono ?_
            rintro e w' ⟨rfl, d, rfl⟩
            rw [decide_eq_true (by rw [HE1.out, HE2.out])]
            go_wp2
            go_ret
            exact ⟨rfl, below_drewN hB08 d⟩
        · have hne : (splitE cs != 0) = true := by rw [bne_iff_ne]; exact hs'
          rw [hs]
          clear hs hs'
          go_wp2
          go_ret
          exact ⟨rfl, hB3⟩
      · have hne : (splitE bs != 0) = true := by rw [bne_iff_ne]; exact hs
        clear hs
        go_wp2
        go_ret
        exact ⟨rfl, hB3⟩

end Tx
open Tx
open Go.ChangeShapes Go.WideShapes Go.ChangeAt
open Go.ChangeMaps (open_string shut_string)

theorem textJoins_own : ownKnob Try.prog.godebug = none := by kernel_rfl
theorem textJoins_laidOut : laidOutB Try.prog = true := by kernel_rfl

set_option maxRecDepth 100000 in
theorem textJoins_lifted (os : Os) (started : os.Started) (H : Type) (enc : TypeId × Value → H) :
    ReturnsInHanded {} Try.checked os 5 .any (Rows.textJoinsSpec.pre6 enc Try.prog Try.f5 Rows.textJoinsRow.domain false) (Rows.textJoinsSpec.post enc Try.prog Try.f5 false true false false) := by
  refine returnsInHanded_of_change (C := Try.checked) textJoins_own started (by kernel_rfl) Try.func5
    (ChangeSpec.witness6 (enc := enc) (C := Try.checked) false ⟨#[], #[.slice none 0 0, .slice none 0 0], []⟩ 8 (by kernel_rfl) (by kernel_rfl) (by kernel_rfl) (by kernel_rfl)) ?_
  intro W base args ds gs before hval0 hW hcnd _
  have hval : ∀ (j : Nat) t v, Try.f5.params[j]? = some t → args[j]? = some v → Value.okWide Try.prog W .any base t v := hval0
  have hW' := hW
  obtain ⟨p, q, hA0, hV, rfl, hfz, hnd⟩ := hW
  have hA : DataW.TrodAll enc Try.prog W 0 (fun _ => true) true Try.f5.params.toList args.toList ds p := hA0
  rw [Try.params5] at hA hval
  obtain ⟨v0, vs0, d0, ds0, p0, q0, hargs, rfl, rfl, h0, r0⟩ := trodAll_cons hA
  obtain ⟨v1, vs1, d1, ds1, p1, q1, rfl, rfl, rfl, h1, r1⟩ := trodAll_cons r0
  obtain ⟨rfl, rfl, rfl⟩ := trodAll_nil r1
  obtain rfl : args = #[v0, v1] := by cases args; simp_all
  obtain ⟨rfl, rfl⟩ := trodVars_none hV
  obtain ⟨a0, len0, cap0, rfl⟩ := okWide_slice Try.underlying22 (hval 0 22 v0 rfl rfl)
  have k0 := h0
  have lt0 : ∀ x ∈ p0, x.block < W.heap.size := by obtain ⟨m, hm⟩ := k0; exact DataW.trod_lt m _ _ _ hm
  obtain ⟨bs, hbl, hbc, hbm, hbr⟩ : ∃ bs : List UInt8, bs.length = len0 ∧ len0 ≤ cap0 ∧ len0 ≤ maxLen ∧ RdB W W.heap.size a0 bs := by
    obtain ⟨fuel, hf⟩ := h0
    exact bytes_in hf (by simp [Value.cells])
  obtain ⟨a1, len1, cap1, rfl⟩ := okWide_slice Try.underlying22 (hval 1 22 v1 rfl rfl)
  have k1 := h1
  have lt1 : ∀ x ∈ p1, x.block < W.heap.size := by obtain ⟨m, hm⟩ := k1; exact DataW.trod_lt m _ _ _ hm
  obtain ⟨cs, hll, hlc, hlm, hlr⟩ : ∃ bs : List UInt8, bs.length = len1 ∧ len1 ≤ cap1 ∧ len1 ≤ maxLen ∧ RdB W W.heap.size a1 bs := by
    obtain ⟨fuel, hf⟩ := h1
    exact bytes_in hf (by simp [Value.cells])
  clear hA0 hval0
  refine (textJoins_walk a0 a1 len0 cap0 len1 cap1 bs cs W hbl hll hbc hlc hbm hlm hbr hlr).mono fun e W' ⟨he, bel⟩ => ?_
  subst he
  exact ⟨_, rfl, _, _, _, [], _, [], hW', trodAll_mk1 (shut_bool Try.underlying4 _), (trodAll_cons_mk (Below.trod textJoins_laidOut (by kernel_rfl) (of_decide_eq_true (by kernel_rfl)) k0 bel lt0) (trodAll_cons_mk (Below.trod textJoins_laidOut (by kernel_rfl) (of_decide_eq_true (by kernel_rfl)) k1 bel lt1) trodAll_mk0)), rfl, bel.frame _, fun h => by cases h⟩

/-- The statement. -/
theorem textJoins_proved : Rows.TextJoinsSaid :=
  OpenClaim.holds_of_wide 5 Try.f5 rfl rfl rfl rfl rfl rfl rfl ⟨rfl, rfl, rfl, rfl, rfl⟩ rfl rfl rfl rfl rfl (by kernel_rfl) Try.func5 (by kernel_rfl)
    (of_decide_eq_true (by kernel_rfl)) (by unfold Func.isWrapper; first | (rw [if_pos (by decide +kernel)]; kernel_rfl) | (rw [if_neg (by decide +kernel)]; exact ⟨rfl, rfl⟩))
    (fun os started H enc _ => textJoins_lifted os started H enc)

#print axioms textJoins_proved
end Go.Proofs.Ytobpdamfobldcaa
