/-
  The statement DiffApplies: for every list of lines and every list of edits the law returns true, and both read as they did. No conditions.
-/
import Derived.Test.YtnhhbenddjkjaaaDfLaw
import Derived.Test.YtnhhbenddjkjaaaDfOpen
import Derived.Test.YtnhhbenddjkjaaaDfRef
namespace Go.Proofs.Ytnhhbenddjkjaaa
open Go.RowKit
set_option linter.unusedVariables false
namespace Df
open Tx Lc

set_option maxRecDepth 100000 in
set_option maxHeartbeats 4000000 in
theorem diffApplies_walk (A : Option Addr) (n c : Nat) (a : List (List UInt8)) (Ae : Option Addr) (ne ce : Nat) (es : List E) (w : World) (h : StrArg w A n c a) (he : EdArg w Ae ne ce es) :
    Calls Try.prog 4 #[.slice A n c, .slice Ae ne ce] w (LawEnd w) := by
  go_enter Try.func4, Try.ntmps4
  go_wp2_with fail
  refine (awake w).mono ?_
  rintro e w1 ⟨rfl, hB1⟩
  go_wp2_with fail
  refine (Light _ _ _ _ 60 a _ h.len h.le (h.rd.below hB1) (by decide)).mono ?_
  rintro e w' ⟨rfl, rfl⟩
  go_wp2_with fail
  refine (Few _ _ _ _ es _ he.len he.le (he.rd.below hB1)).mono ?_
  rintro e w' ⟨rfl, rfl⟩
  cases hl : light a 60 with
  | false =>
    clear hl
    go_wp2
    go_ret
    exact ⟨rfl, hB1⟩
  | true =>
  have hn := light_len hl h.len
  clear hl
  cases hl : few es with
  | false =>
    clear hl
    go_wp2
    go_ret
    exact ⟨rfl, hB1⟩
  | true =>
  have hfw := few_le hl
  clear hl
  obtain ⟨hf1, hf2⟩ := hfw
  have hnews : news es ≤ 60 * 60 := by
    have := news_le es 60 hf2
    have h3 : es.length * 60 ≤ 60 * 60 := Nat.mul_le_mul_right 60 hf1
    omega
  rw [he.len] at hf1
  have HLEN : Hid (∀ r, appl a es = some r → r.length ≤ 1000000) := Lib.hid (fun r hr => by
    have := apl_len a es 0 true r hr (Nat.zero_le _)
    rw [h.len] at this; omega)
  have HF2 := Lib.hid hf2; clear hf2 hnews
  go_wp2_with fail
  refine (Apply A Ae c ce n ne w.heap.size a es w1 h.len he.len h.cap (by omega) he.le hB1.size (h.rd.below hB1) (he.rd.below hB1) HLEN.out).mono ?_
  rintro e w2 ⟨v, rfl, hA, hb2⟩
  have hB2 := hB1.trans (hb2.mono hB1.size)
  obtain ⟨A3, c3, rfl, hc3, _, hrd3, _⟩ := hA
  go_wp2_with fail
  refine (refApply A Ae c ce n ne w.heap.size a es w2 h.len he.len h.cap hn hf1 hB2.size (h.rd.below hB2) (he.rd.below hB2) HF2.out).mono ?_
  rintro e w3 ⟨v', rfl, hA', hb3⟩
  have hB3 := hB2.trans (hb3.mono hB2.size)
  obtain ⟨A4, c4, rfl, hc4, _, hrd4, _⟩ := hA'
  have hrd3' := Rd.up (Rd.below hrd3 hb3) hb3.size
  have hrl : ((appl a es).getD []).length ≤ maxLen := by
    unfold maxLen
    cases ho : appl a es with
    | none => simp
    | some r => have := HLEN.out r ho; simp only [Option.getD_some]; omega
  clear hrd3 hb2 hb3 HLEN
  generalize appl a es = o at *
  generalize o.getD [] = r at *
  go_wp2_with fail
  refine (Same A3 A4 c3 c4 r.length r.length w3.heap.size r r w3 rfl rfl hrl hrd3' hrd4).mono ?_
  rw [decide_eq_true (rfl : r = r)]
  rintro e w4 ⟨rfl, d, rfl⟩
  have hB4 : Below w.heap.size w (w3.drewN d) := below_drewN hB3 d
  obtain ⟨K, hK⟩ : ∃ K, wrap64 (cost es) = K := ⟨_, rfl⟩
  have HK := Lib.hid hK; clear hK
  clear hrd3' hrd4
  cases hos : o.isSome with
  | _ =>
    clear hos
    go_wp2_with fail
    refine (Cost Ae ce ne w.heap.size es _ he.len he.le hB4.size (he.rd.below hB4)).mono ?_
    rw [HK.out]
    rintro e w5 ⟨rfl, hb5⟩
    have hB5 := hB4.trans (hb5.mono hB4.size)
    go_wp2_with fail
    refine (refCost Ae ce ne w.heap.size es _ he.len he.le hB5.size (he.rd.below hB5)).mono ?_
    rw [HK.out]
    rintro e w6 ⟨rfl, hb6⟩
    have hB6 := hB5.trans (hb6.mono hB5.size)
    go_wp2
    go_ret
    exact ⟨rfl, hB6⟩

end Df
open Tx Df
open Go.ChangeShapes Go.WideShapes Go.ChangeAt

theorem diffApplies_own : ownKnob Try.prog.godebug = none := by kernel_rfl
theorem diffApplies_laidOut : laidOutB Try.prog = true := by kernel_rfl

set_option maxRecDepth 100000 in
theorem diffApplies_lifted (os : Os) (started : os.Started) (H : Type) (enc : TypeId × Value → H) :
    ReturnsInHanded {} Try.checked os 4 .any (Rows.diffAppliesSpec.pre6 enc Try.prog Try.f4 Rows.diffAppliesRow.domain false) (Rows.diffAppliesSpec.post enc Try.prog Try.f4 false true false false) := by
  refine returnsInHanded_of_change (C := Try.checked) diffApplies_own started (by kernel_rfl) Try.func4
    (ChangeSpec.witness6 (enc := enc) (C := Try.checked) false ⟨#[], #[.slice none 0 0, .slice none 0 0], []⟩ 8 (by kernel_rfl) (by kernel_rfl) (by kernel_rfl) (by kernel_rfl)) ?_
  intro W base args ds gs before hval0 hW hcnd _
  have hval : ∀ (j : Nat) t v, Try.f4.params[j]? = some t → args[j]? = some v → Value.okWide Try.prog W .any base t v := hval0
  have hW' := hW
  obtain ⟨p, q, hA0, hV, rfl, hfz, hnd⟩ := hW
  have hA : DataW.TrodAll enc Try.prog W 0 (fun _ => true) true Try.f4.params.toList args.toList ds p := hA0
  rw [Try.params4] at hA hval
  obtain ⟨v0, vs0, d0, ds0, p0, q0, hargs, rfl, rfl, h0, r0⟩ := trodAll_cons hA
  obtain ⟨v1, vs1, d1, ds1, p1, q1, rfl, rfl, rfl, h1, r1⟩ := trodAll_cons r0
  obtain ⟨rfl, rfl, rfl⟩ := trodAll_nil r1
  obtain rfl : args = #[v0, v1] := by cases args; simp_all
  obtain ⟨rfl, rfl⟩ := trodVars_none hV
  obtain ⟨a0, n0, c0, rfl⟩ := okWide_slice Try.underlying22 (hval 0 22 v0 rfl rfl)
  have k0 := h0
  have lt0 : ∀ x ∈ p0, x.block < W.heap.size := by obtain ⟨m, hm⟩ := k0; exact DataW.trod_lt m _ _ _ hm
  obtain ⟨l0, s0⟩ : ∃ l, StrArg W a0 n0 c0 l := by
    obtain ⟨fuel, hf⟩ := h0
    exact strs_in hf (by simp [Value.cells])
  obtain ⟨a1, n1, c1, rfl⟩ := okWide_slice Try.underlying26 (hval 1 26 v1 rfl rfl)
  have k1 := h1
  have lt1 : ∀ x ∈ p1, x.block < W.heap.size := by obtain ⟨m, hm⟩ := k1; exact DataW.trod_lt m _ _ _ hm
  obtain ⟨l1, s1⟩ : ∃ l, EdArg W a1 n1 c1 l := by
    obtain ⟨fuel, hf⟩ := h1
    exact eds_in hf (by simp [Value.cells])
  clear hA0 hval0
  refine (diffApplies_walk a0 n0 c0 l0 a1 n1 c1 l1 W s0 s1).mono fun e W' ⟨he, bel⟩ => ?_
  subst he
  exact ⟨_, rfl, _, _, _, [], _, [], hW', trodAll_mk1 (shut_bool Try.underlying4 _), (trodAll_cons_mk (Below.trod diffApplies_laidOut (by kernel_rfl) (of_decide_eq_true (by kernel_rfl)) k0 bel lt0) (trodAll_cons_mk (Below.trod diffApplies_laidOut (by kernel_rfl) (of_decide_eq_true (by kernel_rfl)) k1 bel lt1) trodAll_mk0)), rfl, bel.frame _, fun h => by cases h⟩

/-- The statement. -/
theorem diffApplies_proved : Rows.DiffAppliesSaid :=
  OpenClaim.holds_of_wide 4 Try.f4 rfl rfl rfl rfl rfl rfl rfl ⟨rfl, rfl, rfl, rfl, rfl⟩ rfl rfl rfl rfl rfl (by kernel_rfl) Try.func4 (by kernel_rfl)
    (of_decide_eq_true (by kernel_rfl)) (by unfold Func.isWrapper; first | (rw [if_pos (by decide +kernel)]; kernel_rfl) | (rw [if_neg (by decide +kernel)]; exact ⟨rfl, rfl⟩))
    (fun os started H enc _ => diffApplies_lifted os started H enc)

#print axioms diffApplies_proved
end Go.Proofs.Ytnhhbenddjkjaaa
