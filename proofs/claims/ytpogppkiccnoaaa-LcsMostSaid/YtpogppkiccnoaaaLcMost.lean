/-
  The statement LcsMost: for every two lists of lines and every list of bools the law returns true, and all of them read as they did. No conditions.
-/
import Derived.Test.YtpogppkiccnoaaaLcLaw
import Derived.Test.YtpogppkiccnoaaaQOpenB
namespace Go.Proofs.Ytpogppkiccnoaaa
open Go.RowKit
set_option linter.unusedVariables false
namespace Lc
open Tx

/-- What the law has gathered at place i of a and place j of b: q lines that stand in both in order. -/
def MostAt (a b : List (List UInt8)) (n n1 : Nat) (w1 : World) (v10 v11 v12 : Value) (wr : World) : Prop :=
  ∃ (i j q d : Nat) (t : List (List UInt8)), i ≤ n ∧ j ≤ n1 ∧ q ≤ i ∧ v10 = .int .i64 (q : Int) ∧ v11 = .int .i64 (j : Int) ∧ v12 = .int .i64 (i : Int) ∧ (t.Sublist (a.take i) ∧ t.Sublist (b.take j) ∧ t.length = q) ∧ wr = w1.drewN d

theorem take_sub {α : Type} {l : List α} {i j : Nat} (h : i ≤ j) : (l.take i).Sublist (l.take j) := by
  rw [show l.take i = (l.take j).take i by rw [List.take_take, Nat.min_eq_left h]]
  exact List.take_sublist _ _

theorem most_next {a b t : List (List UInt8)} {i j k q : Nat} (ha : i < a.length) (hb : k < b.length) (hjk : j ≤ k) (e : b[k] = a[i]) (h : t.Sublist (a.take i) ∧ t.Sublist (b.take j) ∧ t.length = q) :
    (t ++ [a[i]]).Sublist (a.take (i + 1)) ∧ (t ++ [a[i]]).Sublist (b.take (k + 1)) ∧ (t ++ [a[i]]).length = q + 1 := by
  refine ⟨?_, ?_, by simp [h.2.2]⟩
  · rw [take_snoc' ha]; exact h.1.append (List.Sublist.refl _)
  · rw [take_snoc' hb, e]; exact (h.2.1.trans (take_sub hjk)).append (List.Sublist.refl _)

set_option maxRecDepth 100000 in
set_option maxHeartbeats 4000000 in
theorem lcsMost_walk (A : Option Addr) (n c : Nat) (a : List (List UInt8)) (A1 : Option Addr) (n1 c1 : Nat) (b : List (List UInt8)) (A2 : Option Addr) (n2 c2 : Nat) (ps : List Bool) (w : World) (h : StrArg w A n c a) (h1 : StrArg w A1 n1 c1 b) (h2 : BoolArg w A2 n2 c2 ps) :
    Calls Try.prog 5 #[.slice A n c, .slice A1 n1 c1, .slice A2 n2 c2] w (LawEnd w) := by
  have hle2 := h2.le
  unfold maxLen at hle2
  go_enter Try.func5, Try.ntmps5
  go_wp2_with fail
  refine (awake w).mono ?_
  rintro e w1 ⟨rfl, hB1⟩
  go_wp2_with fail
  refine (Light _ _ _ _ 60 a _ h.len h.le (h.rd.below hB1) (by decide)).mono ?_
  rintro e w' ⟨rfl, rfl⟩
  go_wp2_with fail
  refine (Light _ _ _ _ 60 b _ h1.len h1.le (h1.rd.below hB1) (by decide)).mono ?_
  rintro e w' ⟨rfl, rfl⟩
  cases hl : light a 60 with
  | false =>
    clear hl
    go_wp2
    go_ret
    exact ⟨rfl, hB1⟩
  | true =>
  have hn := light_len hl h.len
  clear hl
  cases hl : light b 60 with
  | false =>
    clear hl
    go_wp2
    go_ret
    exact ⟨rfl, hB1⟩
  | true =>
  have hn1 := light_len hl h1.len
  clear hl
  by_cases hsz : 100 < n2
  · go_wp2
    go_ret
    exact ⟨rfl, hB1⟩
  go_wp2
  go_loopw [10, 11, 12] (fun v10 v11 v12 wr => MostAt a b n n1 w1 v10 v11 v12 wr) (fun _ _ v12 _ => n - (intOf v12).toNat)
  case atStart => exact ⟨0, 0, 0, 0, [], Nat.zero_le _, Nat.zero_le _, Nat.le_refl _, rfl, rfl, rfl, ⟨List.nil_sublist _, List.nil_sublist _, rfl⟩, rfl⟩
  case round =>
    obtain ⟨i, j, q, d, t, hi, hj, hq, rfl, rfl, rfl, ht, rfl⟩ := hrel
    have HT := Lib.hid ht; clear ht
    by_cases hin : i < n ∧ i < n2
    · obtain ⟨hin, hin2⟩ := hin
      have hia : i < a.length := by rw [h.len]; exact hin
      obtain ⟨p, rfl, hca⟩ := RdS.at' (h.rd.below hB1) hia
      obtain ⟨p2, rfl, _, hcp⟩ := Rd.at_ (h2.rd.below hB1) (k := i) (by rw [List.length_map, h2.len]; exact hin2)
      rw [List.getElem_map] at hcp
      have HM : ∀ k (hk : k < b.length), j ≤ k → b[k] = a[i] → (t ++ [a[i]]).Sublist (a.take (i + 1)) ∧ (t ++ [a[i]]).Sublist (b.take (k + 1)) ∧ (t ++ [a[i]]).length = q + 1 := fun k hk hjk e => most_next hia hk hjk e HT.out
      have HMM := Lib.hid HM; clear HM
      have HN : Hid (t.Sublist (a.take (i + 1)) ∧ t.Sublist (b.take j) ∧ t.length = q) := Lib.hid ⟨HT.out.1.trans (take_sub (by omega)), HT.out.2⟩
      generalize ps[i]'(by rw [h2.len]; exact hin2) = pb at *
      generalize hx : a[i] = x at *
      clear hx
      cases pb with
      | false =>
        go_wp2
        go_roundw
        case rel => exact ⟨i + 1, j, q, d, t, by omega, hj, by omega, rfl, rfl, by go_num, HN.out, rfl⟩
        case measure => simp [intOf]; omega
      | true =>
        go_wp2
        go_loopw [13] (fun v13 wr => ∃ k d', j ≤ k ∧ k ≤ n1 ∧ v13 = .int .i64 (k : Int) ∧ wr = w1.drewN d') (fun v13 _ => n1 - (intOf v13).toNat)
        case atStart => exact ⟨j, d, Nat.le_refl _, hj, rfl, rfl⟩
        case round =>
          obtain ⟨k, d', hjk, hk, rfl, rfl⟩ := hrel
          by_cases hkn : k < n1
          · have hkb : k < b.length := by rw [h1.len]; exact hkn
            obtain ⟨p1, rfl, hcb⟩ := RdS.at' (h1.rd.below hB1) hkb
            have hki : (k : Int) < (n1 : Int) := by omega
            have hii : (i : Int) < (n : Int) := by omega
            by_cases e : b[k] = x
            · have HE := Lib.hid (HMM.out k hkb hjk e)
              have hb1 : (b[k] == x) = true := by simpa using e
              have hb2 : (b[k] != x) = false := by simpa using e
              generalize b[k] = y at *
              clear e
              go_wp2
              go_quiet (fail)
              go_wp2
              go_roundw
              case rel => exact ⟨i + 1, k + 1, q + 1, _, _, by omega, by omega, by omega, by go_num, by go_num, by go_num, HE.out, rfl⟩
              case measure => simp [intOf]; omega
            · have hb1 : (b[k] == x) = false := by simpa using e
              have hb2 : (b[k] != x) = true := by simpa using e
              generalize b[k] = y at *
              clear e
              go_wp2
              go_quiet (fail)
              go_wp2
              go_roundw
              case rel => exact ⟨k + 1, _, by omega, by omega, by go_num, rfl⟩
              case measure => simp [intOf]; omega
          · obtain rfl : k = n1 := by omega
            have hd : decide ((k : Int) < (k : Int)) = false := decide_eq_false (by omega)
            go_wp2
            go_quiet (fail)
            go_wp2
            go_roundw
            case rel => exact ⟨i + 1, j, q, _, t, by omega, hj, by omega, rfl, rfl, by go_num, HN.out, rfl⟩
            case measure => simp [intOf]; omega
    · have hmost : q ≤ lcs a b := by
        have := HT.out
        rw [← this.2.2]
        exact le_lcs (this.1.trans (List.take_sublist _ _)) (this.2.1.trans (List.take_sublist _ _))
      have HR := Lib.hid (fun (B : Nat) (l : List (List UInt8)) (X : Option Addr) (r : RdS w1 B X l) => r.drewN d)
      generalize hk : lcs a b = k at *
      have HK := Lib.hid hk; clear hk
      have hB2 : Below w.heap.size w (w1.drewN d) := below_drewN hB1 d
      have hM := Many A A1 c c1 n n1 w.heap.size a b (w1.drewN d) h.len h1.len (by omega) (by omega) hB2.size (h.rd.below hB2) (h1.rd.below hB2)
      rw [HK.out] at hM
      have HM := Lib.hid hM; clear hM
      by_cases hin1 : i < n
      · have hin2 : ¬ i < n2 := fun hh => hin ⟨hin1, hh⟩
        clear hin
        go_wp2_with fail
        refine HM.out.mono ?_
        rintro e w3 ⟨rfl, hb3⟩
        go_wp2
        go_ret
        exact ⟨rfl, hB2.trans (hb3.mono hB2.size)⟩
      · clear hin
        go_wp2_with fail
        refine HM.out.mono ?_
        rintro e w3 ⟨rfl, hb3⟩
        go_wp2
        go_ret
        exact ⟨rfl, hB2.trans (hb3.mono hB2.size)⟩

end Lc
open Tx Lc
open Go.ChangeShapes Go.WideShapes Go.ChangeAt

theorem lcsMost_own : ownKnob Try.prog.godebug = none := by kernel_rfl
theorem lcsMost_laidOut : laidOutB Try.prog = true := by kernel_rfl

set_option maxRecDepth 100000 in
theorem lcsMost_lifted (os : Os) (started : os.Started) (H : Type) (enc : TypeId × Value → H) :
    ReturnsInHanded {} Try.checked os 5 .any (Rows.lcsMostSpec.pre6 enc Try.prog Try.f5 Rows.lcsMostRow.domain false) (Rows.lcsMostSpec.post enc Try.prog Try.f5 false true false false) := by
  refine returnsInHanded_of_change (C := Try.checked) lcsMost_own started (by kernel_rfl) Try.func5
    (ChangeSpec.witness6 (enc := enc) (C := Try.checked) false ⟨#[], #[.slice none 0 0, .slice none 0 0, .slice none 0 0], []⟩ 8 (by kernel_rfl) (by kernel_rfl) (by kernel_rfl) (by kernel_rfl)) ?_
  intro W base args ds gs before hval0 hW hcnd _
  have hval : ∀ (j : Nat) t v, Try.f5.params[j]? = some t → args[j]? = some v → Value.okWide Try.prog W .any base t v := hval0
  have hW' := hW
  obtain ⟨p, q, hA0, hV, rfl, hfz, hnd⟩ := hW
  have hA : DataW.TrodAll enc Try.prog W 0 (fun _ => true) true Try.f5.params.toList args.toList ds p := hA0
  rw [Try.params5] at hA hval
  obtain ⟨v0, vs0, d0, ds0, p0, q0, hargs, rfl, rfl, h0, r0⟩ := trodAll_cons hA
  obtain ⟨v1, vs1, d1, ds1, p1, q1, rfl, rfl, rfl, h1, r1⟩ := trodAll_cons r0
  obtain ⟨v2, vs2, d2, ds2, p2, q2, rfl, rfl, rfl, h2, r2⟩ := trodAll_cons r1
  obtain ⟨rfl, rfl, rfl⟩ := trodAll_nil r2
  obtain rfl : args = #[v0, v1, v2] := by cases args; simp_all
  obtain ⟨rfl, rfl⟩ := trodVars_none hV
  obtain ⟨a0, n0, c0, rfl⟩ := okWide_slice Try.underlying22 (hval 0 22 v0 rfl rfl)
  have k0 := h0
  have lt0 : ∀ x ∈ p0, x.block < W.heap.size := by obtain ⟨m, hm⟩ := k0; exact DataW.trod_lt m _ _ _ hm
  obtain ⟨l0, s0⟩ : ∃ l, StrArg W a0 n0 c0 l := by
    obtain ⟨fuel, hf⟩ := h0
    exact strs_in hf (by simp [Value.cells])
  obtain ⟨a1, n1, c1, rfl⟩ := okWide_slice Try.underlying22 (hval 1 22 v1 rfl rfl)
  have k1 := h1
  have lt1 : ∀ x ∈ p1, x.block < W.heap.size := by obtain ⟨m, hm⟩ := k1; exact DataW.trod_lt m _ _ _ hm
  obtain ⟨l1, s1⟩ : ∃ l, StrArg W a1 n1 c1 l := by
    obtain ⟨fuel, hf⟩ := h1
    exact strs_in hf (by simp [Value.cells])
  obtain ⟨a2, n2, c2, rfl⟩ := okWide_slice Try.underlying31 (hval 2 31 v2 rfl rfl)
  have k2 := h2
  have lt2 : ∀ x ∈ p2, x.block < W.heap.size := by obtain ⟨m, hm⟩ := k2; exact DataW.trod_lt m _ _ _ hm
  obtain ⟨l2, s2⟩ : ∃ l, BoolArg W a2 n2 c2 l := by
    obtain ⟨fuel, hf⟩ := h2
    exact bools_in hf (by simp [Value.cells])
  clear hA0 hval0
  refine (lcsMost_walk a0 n0 c0 l0 a1 n1 c1 l1 a2 n2 c2 l2 W s0 s1 s2).mono fun e W' ⟨he, bel⟩ => ?_
  subst he
  exact ⟨_, rfl, _, _, _, [], _, [], hW', trodAll_mk1 (shut_bool Try.underlying4 _), (trodAll_cons_mk (Below.trod lcsMost_laidOut (by kernel_rfl) (of_decide_eq_true (by kernel_rfl)) k0 bel lt0) (trodAll_cons_mk (Below.trod lcsMost_laidOut (by kernel_rfl) (of_decide_eq_true (by kernel_rfl)) k1 bel lt1) (trodAll_cons_mk (Below.trod lcsMost_laidOut (by kernel_rfl) (of_decide_eq_true (by kernel_rfl)) k2 bel lt2) trodAll_mk0))), rfl, bel.frame _, fun h => by cases h⟩

/-- The statement. -/
theorem lcsMost_proved : Rows.LcsMostSaid :=
  OpenClaim.holds_of_wide 5 Try.f5 rfl rfl rfl rfl rfl rfl rfl ⟨rfl, rfl, rfl, rfl, rfl⟩ rfl rfl rfl rfl rfl (by kernel_rfl) Try.func5 (by kernel_rfl)
    (of_decide_eq_true (by kernel_rfl)) (by unfold Func.isWrapper; first | (rw [if_pos (by decide +kernel)]; kernel_rfl) | (rw [if_neg (by decide +kernel)]; exact ⟨rfl, rfl⟩))
    (fun os started H enc _ => lcsMost_lifted os started H enc)

#print axioms lcsMost_proved
end Go.Proofs.Ytpogppkiccnoaaa
