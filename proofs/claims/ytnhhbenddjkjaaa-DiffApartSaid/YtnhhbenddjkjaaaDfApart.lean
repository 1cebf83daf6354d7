/-
  The statement DiffApart: for every two lists of lines the law returns true, and both read as they did. No conditions.
-/
import Derived.Test.YtnhhbenddjkjaaaDfLaw
namespace Go.Proofs.Ytnhhbenddjkjaaa
open Go.RowKit
set_option linter.unusedVariables false
namespace Df
open Tx Lc

set_option maxRecDepth 100000 in
set_option maxHeartbeats 4000000 in
theorem diffApart_walk (A : Option Addr) (n c : Nat) (a : List (List UInt8)) (A1 : Option Addr) (n1 c1 : Nat) (b : List (List UInt8)) (w : World) (h : StrArg w A n c a) (h1 : StrArg w A1 n1 c1 b) :
    Calls Try.prog 7 #[.slice A n c, .slice A1 n1 c1] w (LawEnd w) := by
  go_enter Try.func7, Try.ntmps7
  go_wp2_with fail
  refine (awake w).mono ?_
  rintro e w1 ⟨rfl, hB1⟩
  go_wp2_with fail
  refine (Light _ _ _ _ 60 a _ h.len h.le (h.rd.below hB1) (by decide)).mono ?_
  rintro e w' ⟨rfl, rfl⟩
  go_wp2_with fail
  refine (Light _ _ _ _ 60 b _ h1.len h1.le (h1.rd.below hB1) (by decide)).mono ?_
  rintro e w' ⟨rfl, rfl⟩
  cases hl : light a 60 with
  | false =>
    clear hl
    go_wp2
    go_ret
    exact ⟨rfl, hB1⟩
  | true =>
  have hn := light_len hl h.len
  clear hl
  cases hl : light b 60 with
  | false =>
    clear hl
    go_wp2
    go_ret
    exact ⟨rfl, hB1⟩
  | true =>
  have hn1 := light_len hl h1.len
  clear hl
  have HAP := Lib.hid (apl_apart a _ 0 true b (edits_appl a b))
  have HSM := Lib.hid (edits_some a b)
  obtain ⟨k, hkc, _, hk1, hk2⟩ := costL h h1 hn hn1
  have HNW := Lib.hid (edits_new a b)
  rw [hkc] at HNW
  clear hkc
  rw [h.len] at HAP
  go_wp2_with fail
  refine (EditsL h h1 hB1 hn hn1).mono ?_
  generalize edits a b = es at *
  rintro e w2 ⟨Al, cl, rfl, hcl, hE, hb2⟩
  have hB2 := hB1.trans (hb2.mono hB1.size)
  obtain ⟨ne, hne⟩ : ∃ ne, es.length = ne := ⟨_, rfl⟩
  rw [hne] at hk2 hcl ⊢
  have HNE := Lib.hid hne; clear hne
  go_wp2
  go_loopw [9] (fun v9 wr => ∃ i : Nat, i ≤ ne ∧ v9 = .int .i64 (i : Int) ∧ Below w2.heap.size w2 wr) (fun v9 _ => ne - (intOf v9).toNat)
  case atStart => exact ⟨0, Nat.zero_le _, rfl, Below.refl _ _⟩
  case round =>
    obtain ⟨i, hi, rfl, hbr⟩ := hrel
    have hBr := hB2.trans (hbr.mono hB2.size)
    by_cases hlt : i < ne
    · have hil : i < es.length := by rw [HNE.out]; exact hlt
      have hx := HSM.out _ (List.getElem_mem hil)
      have hnw := HNW.out _ (List.getElem_mem hil)
      have hy := HAP.out i _ (List.getElem?_eq_getElem hil)
      obtain ⟨pa, rfl, hpa, hat⟩ := (hE.below hbr).at_ hil
      by_cases hi0 : i = 0
      · subst hi0
        generalize es[0] = x at *
        obtain ⟨c0, c1, ⟨A3, c3, k2, _, _⟩, _, _, _⟩ := hat
        obtain ⟨p, o, l⟩ := x
        obtain ⟨y1, y2, y3, _, _⟩ := hy
        simp only at c0 c1 k2 hnw hx y1 y2 y3
        obtain ⟨p, rfl⟩ : ∃ q : Nat, p = q := ⟨p.toNat, by omega⟩
        obtain ⟨o, rfl⟩ : ∃ q : Nat, o = q := ⟨o.toNat, by omega⟩
        generalize l.length = ll at *
        rw [Nat.zero_mul, add_zero'] at c0 c1 k2
        have f1 : ((o : Int) + (ll : Int) < 1) = False := by simp; omega
        have f2 : ((n : Int) < (p : Int) + (o : Int)) = False := by simp; omega
        have g1 : decide ((o : Int) + (ll : Int) < 1) = false := decide_eq_false (by omega)
        have g2 : decide ((n : Int) < (p : Int) + (o : Int)) = false := decide_eq_false (by omega)
        have f3 : (0 : Int) < (ne : Int) := by omega
        have s1 : IntKind.i64.wrap ((o : Int) + (ll : Int)) = (o : Int) + (ll : Int) := IntWalk.i64_in _ (by omega)
        have s2 : IntKind.i64.wrap ((p : Int) + (o : Int)) = (p : Int) + (o : Int) := IntWalk.i64_in _ (by omega)
        clear hnw hx y1 y2 y3
        go_wp2
        go_quiet (fail)
        clear s1 s2 f1 f2 g1 g2
        go_wp2
        exact ⟨⟨1, by omega, rfl, below_drewN hbr nq⟩, by simp [intOf]; omega⟩
      · obtain ⟨j, rfl⟩ : ∃ j, i = j + 1 := ⟨i - 1, by omega⟩
        have hjl : j < es.length := by omega
        obtain ⟨pa', epa, _, hat'⟩ := (hE.below hbr).at_ hjl
        injection epa with epa
        subst epa
        have hz := hy.2.2.2.2 es[j] (by omega) (by rw [Nat.add_sub_cancel]; exact List.getElem?_eq_getElem hjl)
        have hy' := HAP.out j _ (List.getElem?_eq_getElem hjl)
        generalize es[j + 1] = x at *
        generalize es[j] = z at *
        obtain ⟨c0, c1, ⟨A3, c3, k2, _, _⟩, _, _, _⟩ := hat
        obtain ⟨d0, d1, _, _, _, _⟩ := hat'
        obtain ⟨p, o, l⟩ := x
        obtain ⟨p', o', l'⟩ := z
        obtain ⟨y1, y2, y3, _, _⟩ := hy
        obtain ⟨z1, z2, z3, _, _⟩ := hy'
        simp only at c0 c1 k2 d0 d1 hnw hx y1 y2 y3 z1 z2 z3 hz
        obtain ⟨p, rfl⟩ : ∃ q : Nat, p = q := ⟨p.toNat, by omega⟩
        obtain ⟨o, rfl⟩ : ∃ q : Nat, o = q := ⟨o.toNat, by omega⟩
        obtain ⟨p', rfl⟩ : ∃ q : Nat, p' = q := ⟨p'.toNat, by omega⟩
        obtain ⟨o', rfl⟩ : ∃ q : Nat, o' = q := ⟨o'.toNat, by omega⟩
        generalize l.length = ll at *
        generalize hji : j + 1 = i at *
        have hj : (i : Int) - 1 = (j : Int) := by omega
        have hjw : IntKind.i64.wrap ((i : Int) - 1) = (j : Int) := by rw [hj]; exact IntWalk.i64_in _ (by omega)
        have HJI := Lib.hid hji; clear hji
        have g1 : decide ((o : Int) + (ll : Int) < 1) = false := decide_eq_false (by omega)
        have g2 : decide ((n : Int) < (p : Int) + (o : Int)) = false := decide_eq_false (by omega)
        have g3 : decide ((p : Int) ≤ (p' : Int) + (o' : Int)) = false := decide_eq_false (by omega)
        have f1 : ((o : Int) + (ll : Int) < 1) = False := by simp; omega
        have f2 : ((n : Int) < (p : Int) + (o : Int)) = False := by simp; omega
        have f4 : ((p : Int) ≤ (p' : Int) + (o' : Int)) = False := by simp; omega
        have f3 : (i : Int) < (ne : Int) := by omega
        have f5 : (j : Int) < (ne : Int) := by omega
        have f6 : (0 : Int) ≤ (j : Int) := by omega
        have f7 : (0 : Int) ≤ (i : Int) := by omega
        have f9 : decide ((0 : Int) < (i : Int)) = true := decide_eq_true (by omega)
        have f10 : decide (0 < i) = true := decide_eq_true (by omega)
        have s1 : IntKind.i64.wrap ((o : Int) + (ll : Int)) = (o : Int) + (ll : Int) := IntWalk.i64_in _ (by omega)
        have s2 : IntKind.i64.wrap ((p : Int) + (o : Int)) = (p : Int) + (o : Int) := IntWalk.i64_in _ (by omega)
        have s3 : IntKind.i64.wrap ((p' : Int) + (o' : Int)) = (p' : Int) + (o' : Int) := IntWalk.i64_in _ (by omega)
        clear hnw hx y1 y2 y3 z1 z2 z3 hz
        go_wp2
        go_quiet (fail)
        clear s1 s2 s3 f1 f2 f4 g1 g2 g3 hj hjw f3 f5 f6 f7 f9 f10
        go_wp2
        exact ⟨⟨i + 1, by omega, by go_num, below_drewN hbr nq⟩, by simp [intOf]; omega⟩
    · go_wp2
      go_ret
      exact ⟨rfl, hBr⟩

end Df
open Tx Df
open Go.ChangeShapes Go.WideShapes Go.ChangeAt

theorem diffApart_own : ownKnob Try.prog.godebug = none := by kernel_rfl
theorem diffApart_laidOut : laidOutB Try.prog = true := by kernel_rfl

set_option maxRecDepth 100000 in
theorem diffApart_lifted (os : Os) (started : os.Started) (H : Type) (enc : TypeId × Value → H) :
    ReturnsInHanded {} Try.checked os 7 .any (Rows.diffApartSpec.pre6 enc Try.prog Try.f7 Rows.diffApartRow.domain false) (Rows.diffApartSpec.post enc Try.prog Try.f7 false true false false) := by
  refine returnsInHanded_of_change (C := Try.checked) diffApart_own started (by kernel_rfl) Try.func7
    (ChangeSpec.witness6 (enc := enc) (C := Try.checked) false ⟨#[], #[.slice none 0 0, .slice none 0 0], []⟩ 8 (by kernel_rfl) (by kernel_rfl) (by kernel_rfl) (by kernel_rfl)) ?_
  intro W base args ds gs before hval0 hW hcnd _
  have hval : ∀ (j : Nat) t v, Try.f7.params[j]? = some t → args[j]? = some v → Value.okWide Try.prog W .any base t v := hval0
  have hW' := hW
  obtain ⟨p, q, hA0, hV, rfl, hfz, hnd⟩ := hW
  have hA : DataW.TrodAll enc Try.prog W 0 (fun _ => true) true Try.f7.params.toList args.toList ds p := hA0
  rw [Try.params7] at hA hval
  obtain ⟨v0, vs0, d0, ds0, p0, q0, hargs, rfl, rfl, h0, r0⟩ := trodAll_cons hA
  obtain ⟨v1, vs1, d1, ds1, p1, q1, rfl, rfl, rfl, h1, r1⟩ := trodAll_cons r0
  obtain ⟨rfl, rfl, rfl⟩ := trodAll_nil r1
  obtain rfl : args = #[v0, v1] := by cases args; simp_all
  obtain ⟨rfl, rfl⟩ := trodVars_none hV
  obtain ⟨a0, n0, c0, rfl⟩ := okWide_slice Try.underlying22 (hval 0 22 v0 rfl rfl)
  have k0 := h0
  have lt0 : ∀ x ∈ p0, x.block < W.heap.size := by obtain ⟨m, hm⟩ := k0; exact DataW.trod_lt m _ _ _ hm
  obtain ⟨l0, s0⟩ : ∃ l, StrArg W a0 n0 c0 l := by
    obtain ⟨fuel, hf⟩ := h0
    exact strs_in hf (by simp [Value.cells])
  obtain ⟨a1, n1, c1, rfl⟩ := okWide_slice Try.underlying22 (hval 1 22 v1 rfl rfl)
  have k1 := h1
  have lt1 : ∀ x ∈ p1, x.block < W.heap.size := by obtain ⟨m, hm⟩ := k1; exact DataW.trod_lt m _ _ _ hm
  obtain ⟨l1, s1⟩ : ∃ l, StrArg W a1 n1 c1 l := by
    obtain ⟨fuel, hf⟩ := h1
    exact strs_in hf (by simp [Value.cells])
  clear hA0 hval0
  refine (diffApart_walk a0 n0 c0 l0 a1 n1 c1 l1 W s0 s1).mono fun e W' ⟨he, bel⟩ => ?_
  subst he
  exact ⟨_, rfl, _, _, _, [], _, [], hW', trodAll_mk1 (shut_bool Try.underlying4 _), (trodAll_cons_mk (Below.trod diffApart_laidOut (by kernel_rfl) (of_decide_eq_true (by kernel_rfl)) k0 bel lt0) (trodAll_cons_mk (Below.trod diffApart_laidOut (by kernel_rfl) (of_decide_eq_true (by kernel_rfl)) k1 bel lt1) trodAll_mk0)), rfl, bel.frame _, fun h => by cases h⟩

/-- The statement. -/
theorem diffApart_proved : Rows.DiffApartSaid :=
  OpenClaim.holds_of_wide 7 Try.f7 rfl rfl rfl rfl rfl rfl rfl ⟨rfl, rfl, rfl, rfl, rfl⟩ rfl rfl rfl rfl rfl (by kernel_rfl) Try.func7 (by kernel_rfl)
    (of_decide_eq_true (by kernel_rfl)) (by unfold Func.isWrapper; first | (rw [if_pos (by decide +kernel)]; kernel_rfl) | (rw [if_neg (by decide +kernel)]; exact ⟨rfl, rfl⟩))
    (fun os started H enc _ => diffApart_lifted os started H enc)

#print axioms diffApart_proved
end Go.Proofs.Ytnhhbenddjkjaaa
