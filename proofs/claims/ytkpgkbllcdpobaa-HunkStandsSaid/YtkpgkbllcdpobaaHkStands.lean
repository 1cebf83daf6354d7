/-
  The statement HunkStands: a hunk that may be changes a list just if its Old lines stand there; then it has as many lines more as New has more than Old.
-/
import Derived.Test.YtkpgkbllcdpobaaHkLaw
import Derived.Test.YtkpgkbllcdpobaaHkOpen
import Derived.Test.YtkpgkbllcdpobaaQSame
namespace Go.Proofs.Ytkpgkbllcdpobaa
open Go.RowKit
set_option linter.unusedVariables false
namespace Hk
open Tx Df Lc Sq

set_option maxRecDepth 100000 in
set_option maxHeartbeats 4000000 in
theorem hunkStands_walk (A : Option Addr) (n c : Nat) (a : List (List UInt8)) (A1 : Option Addr) (n1 c1 : Nat) (D1 : Option Addr) (m1 k1 : Nat) (g1 : HU) (w : World) (h : StrArg w A n c a) (v1 : HV w w.heap.size A1 n1 c1 D1 m1 k1 g1) :
    Calls Try.prog 7 #[.slice A n c, hkV g1.pos A1 n1 c1 D1 m1 k1] w (LawEnd w) := by
  go_enter Try.func7, Try.ntmps7
  go_wp2_with fail
  have hw0 : Below w.heap.size w (w.alloc (.cells #[.int .i64 g1.pos, .slice A1 n1 c1, .slice D1 m1 k1] 24)) := ((Below.refl _ _).alloc (Nat.le_refl _) _)
  have x1 := Blk.new w 24 #[.int .i64 g1.pos, .slice A1 n1 c1, .slice D1 m1 k1]
  generalize (w.alloc (.cells #[.int .i64 g1.pos, .slice A1 n1 c1, .slice D1 m1 k1] 24)) = w0 at *
  obtain ⟨gb, hgb⟩ : ∃ gb, w.heap.size = gb := ⟨_, rfl⟩
  have HGB := Lib.hid hgb
  have X1 := Lib.hid x1
  rw [hgb] at ⊢
  have b1 : Blk w0 (gb) 24 #[.int .i64 g1.pos, .slice A1 n1 c1, .slice D1 m1 k1] := by rw [← hgb]; exact x1
  clear hgb x1 X1
  refine (awake w0).mono ?_
  rintro e w1 ⟨rfl, hb1⟩
  have hB1 := hw0.trans (hb1.mono hw0.size)
  have b1 := b1.below hb1 b1.lt
  clear hw0 hb1
  go_wp2_with fail
  refine (Light _ _ _ _ 300 a _ h.len h.le (h.rd.below hB1) (by decide)).mono ?_
  rintro e w' ⟨rfl, rfl⟩
  have y01 : w1.cell? ⟨gb, 0, none⟩ = some (.int .i64 g1.pos) := b1.cell 0 rfl
  have y11 : w1.cell? ⟨gb, 1, none⟩ = some (.slice A1 n1 c1) := b1.cell 1 rfl
  have y21 : w1.cell? ⟨gb, 2, none⟩ = some (.slice D1 m1 k1) := b1.cell 2 rfl
  go_wp2_with fail
  refine (LightH A1 n1 c1 D1 m1 k1 _ g1 w1 hB1.size (v1.below hB1)).mono ?_
  rintro e w2 ⟨rfl, hb2⟩
  have hB2 := hB1.trans (hb2.mono hB1.size)
  clear y01 y11 y21
  have b1 := b1.below hb2 b1.lt
  clear hb2 hB1
  cases hl : light a 300 with
  | false =>
    clear hl
    go_wp2
    go_ret
    exact ⟨rfl, hB2⟩
  | true =>
  have hn := light_len hl h.len
  clear hl
  cases hl : (light g1.old 300 && light g1.new 300) with
  | false =>
    clear hl
    go_wp2
    go_ret
    exact ⟨rfl, hB2⟩
  | true =>
  rw [Bool.and_eq_true] at hl
  have hn1 := light_len hl.1 v1.l
  have hm1 := light_len hl.2 v1.l'
  clear hl
  have HB2 := Lib.hid hB2
  have HC : Hid (∀ W, Below w2.heap.size w2 W → W.cell? ⟨gb, 0, none⟩ = some (.int .i64 g1.pos) ∧ W.cell? ⟨gb, 1, none⟩ = some (.slice A1 n1 c1) ∧ W.cell? ⟨gb, 2, none⟩ = some (.slice D1 m1 k1)) := Lib.hid (fun W hb => by
    have b := b1.below hb b1.lt
    exact ⟨b.cell 0 rfl, b.cell 1 rfl, b.cell 2 rfl⟩)
  have HVW : Hid (∀ W, Below w2.heap.size w2 W → HV W w.heap.size A1 n1 c1 D1 m1 k1 g1) := Lib.hid (fun W hb => (v1.below HB2.out).below (hb.mono HB2.out.size))
  have HLE : Hid (∀ W, Below w2.heap.size w2 W → w.heap.size ≤ W.heap.size) := Lib.hid (fun W hb => Nat.le_trans HB2.out.size hb.size)
  have hn1' : n1 ≤ 1000 := by omega
  have hm1' : m1 ≤ 1000 := by omega
  obtain ⟨y0, y1, y2⟩ := HC.out w2 (Below.refl _ _)
  clear hB2 b1
  go_wp2_with fail
  refine (May A1 n1 c1 D1 m1 k1 w.heap.size g1 w2 HB2.out.size (HVW.out w2 (Below.refl _ _))).mono ?_
  cases hm : mayH g1 with
  | false =>
    clear hm
    rintro e u1 ⟨rfl, hb⟩
    have HB3 := Lib.hid (HB2.out.trans (hb.mono HB2.out.size))
    clear hb y0 y1 y2
    go_wp2
    go_ret
    exact ⟨rfl, HB3.out⟩
  | true =>
  rintro e u1 ⟨rfl, hb⟩
  have HU1 := Lib.hid hb
  have HB3 := Lib.hid (HB2.out.trans (hb.mono HB2.out.size))
  have HM := Lib.hid hm
  clear hb y0 y1 y2 hm
  obtain ⟨y0, y1, y2⟩ := HC.out u1 HU1.out
  go_wp2_with fail
  refine (Apply A n c A1 n1 c1 D1 m1 k1 w.heap.size a g1 u1 HB3.out.size h.len h.cap (by omega) hn1' hm1' (h.rd.below HB3.out) (HVW.out u1 HU1.out)).mono ?_
  rintro e u7 ⟨A7, k7, c7, rfl, hc7, hl7, hr7, hb7⟩
  have HB7 := Lib.hid (HB3.out.trans (hb7.mono HB3.out.size))
  have HU7 := Lib.hid (HU1.out.trans (hb7.mono HU1.out.size))
  have HL7 := Lib.hid hl7; have HR7 := Lib.hid hr7
  clear y0 y1 y2 hb7 hr7
  obtain ⟨y0, y1, y2⟩ := HC.out u7 HU7.out
  have hN : n ≤ maxLen := h.le
  have hN1 : n1 ≤ maxLen := by unfold maxLen; omega
  rcases applyE_cases a g1 with ⟨_, _, h3⟩ | ⟨he, hl, _, h4⟩ | ⟨he, hl, h3, h4⟩
  · rw [HM.out] at h3; cases h3
  · clear hl hl7
    rw [he]
    clear he
    have H4 := Lib.hid h4; clear h4
    go_wp2_with fail
    refine (At A A1 c c1 n n1 w.heap.size g1.pos a g1.old u7 h.len (HVW.out u7 HU7.out).l h.cap hN hN1 (h.rd.below HB7.out) (HVW.out u7 HU7.out).r).mono ?_
    rw [H4.out]
    rintro e u8 ⟨rfl, d, rfl⟩
    go_wp2
    go_ret
    exact ⟨rfl, below_drewN HB7.out d⟩
  · obtain ⟨hat, hln⟩ := done_len (apply_done he)
    have hk7 : (k7 : Int) = (n : Int) + (m1 : Int) - (n1 : Int) := by rw [hl7, h.len, v1.l, v1.l'] at hln; exact hln
    have hk8 : k7 ≤ 1000 := by omega
    have hkb : ((k7 : Int) == (n : Int) + (m1 : Int) - (n1 : Int)) = true := by rw [beq_iff_eq]; exact hk7
    have hK7 : k7 ≤ maxLen := by unfold maxLen; omega
    have hM1 : m1 ≤ maxLen := by unfold maxLen; omega
    have HK := Lib.hid hk7
    rw [he]
    have H4 := Lib.hid h4; have HAT := Lib.hid hat
    clear he hl h4 hat hln hk7 h3 hl7
    go_wp2_with fail
    refine (At A A1 c c1 n n1 w.heap.size g1.pos a g1.old u7 h.len (HVW.out u7 HU7.out).l h.cap hN hN1 (h.rd.below HB7.out) (HVW.out u7 HU7.out).r).mono ?_
    rw [H4.out]
    rintro e u8 ⟨rfl, d, rfl⟩
    go_wp2_with fail
    refine (At A7 D1 c7 k1 k7 m1 u7.heap.size g1.pos (applyL a g1) g1.new (u7.drewN d) HL7.out (HVW.out u7 HU7.out).l' hc7 hK7 hM1 (Rd.drewN HR7.out d) (Rd.drewN (Rd.up (HVW.out u7 HU7.out).r' (HLE.out u7 HU7.out)) d)).mono ?_
    rw [HAT.out]
    rintro e u9 ⟨rfl, d', rfl⟩
    go_wp2
    go_ret
    exact ⟨rfl, below_drewN HB7.out (d + d')⟩

end Hk
open Tx Df Hk
open Go.ChangeShapes Go.WideShapes Go.ChangeAt

theorem hunkStands_own : ownKnob Try.prog.godebug = none := by kernel_rfl
theorem hunkStands_laidOut : laidOutB Try.prog = true := by kernel_rfl

set_option maxRecDepth 100000 in
theorem hunkStands_lifted (os : Os) (started : os.Started) (H : Type) (enc : TypeId × Value → H) :
    ReturnsInHanded {} Try.checked os 7 .any (Rows.hunkStandsSpec.pre6 enc Try.prog Try.f7 Rows.hunkStandsRow.domain false) (Rows.hunkStandsSpec.post enc Try.prog Try.f7 false true false false) := by
  refine returnsInHanded_of_change (C := Try.checked) hunkStands_own started (by kernel_rfl) Try.func7
    (ChangeSpec.witness6 (enc := enc) (C := Try.checked) false ⟨#[], #[.slice none 0 0, .agg #[.int .i64 0, .slice none 0 0, .slice none 0 0]], []⟩ 8 (by kernel_rfl) (by kernel_rfl) (by kernel_rfl) (by kernel_rfl)) ?_
  intro W base args ds gs before hval0 hW hcnd _
  have hval : ∀ (j : Nat) t v, Try.f7.params[j]? = some t → args[j]? = some v → Value.okWide Try.prog W .any base t v := hval0
  have hW' := hW
  obtain ⟨p, q, hA0, hV, rfl, hfz, hnd⟩ := hW
  have hA : DataW.TrodAll enc Try.prog W 0 (fun _ => true) true Try.f7.params.toList args.toList ds p := hA0
  rw [Try.params7] at hA hval
  obtain ⟨v0, vs0, d0, ds0, p0, q0, hargs, rfl, rfl, h0, r0⟩ := trodAll_cons hA
  obtain ⟨v1, vs1, d1, ds1, p1, q1, rfl, rfl, rfl, h1, r1⟩ := trodAll_cons r0
  obtain ⟨rfl, rfl, rfl⟩ := trodAll_nil r1
  obtain rfl : args = #[v0, v1] := by cases args; simp_all
  obtain ⟨rfl, rfl⟩ := trodVars_none hV
  obtain ⟨a0, n0, c0, rfl⟩ := okWide_slice Try.underlying22 (hval 0 22 v0 rfl rfl)
  have k0 := h0
  have lt0 : ∀ x ∈ p0, x.block < W.heap.size := by obtain ⟨m, hm⟩ := k0; exact DataW.trod_lt m _ _ _ hm
  obtain ⟨l0, s0⟩ : ∃ l, StrArg W a0 n0 c0 l := by
    obtain ⟨fuel, hf⟩ := h0
    exact strs_in hf (by simp [Value.cells])
  have k1 := h1
  have lt1 : ∀ x ∈ p1, x.block < W.heap.size := by obtain ⟨m, hm⟩ := k1; exact DataW.trod_lt m _ _ _ hm
  obtain ⟨a1, n1, c1, b1, m1, e1, l1, rfl, s1⟩ := hunk_in (hval 1 24 v1 rfl rfl) h1
  clear hA0 hval0
  refine (hunkStands_walk a0 n0 c0 l0 a1 n1 c1 b1 m1 e1 l1 W s0 s1).mono fun e W' ⟨he, bel⟩ => ?_
  subst he
  exact ⟨_, rfl, _, _, _, [], _, [], hW', trodAll_mk1 (shut_bool Try.underlying4 _), (trodAll_cons_mk (Below.trod hunkStands_laidOut (by kernel_rfl) (of_decide_eq_true (by kernel_rfl)) k0 bel lt0) (trodAll_cons_mk (Below.trod hunkStands_laidOut (by kernel_rfl) (of_decide_eq_true (by kernel_rfl)) k1 bel lt1) trodAll_mk0)), rfl, bel.frame _, fun h => by cases h⟩

/-- The statement. -/
theorem hunkStands_proved : Rows.HunkStandsSaid :=
  OpenClaim.holds_of_wide 7 Try.f7 rfl rfl rfl rfl rfl rfl rfl ⟨rfl, rfl, rfl, rfl, rfl⟩ rfl rfl rfl rfl rfl (by kernel_rfl) Try.func7 (by kernel_rfl)
    (of_decide_eq_true (by kernel_rfl)) (by unfold Func.isWrapper; first | (rw [if_pos (by decide +kernel)]; kernel_rfl) | (rw [if_neg (by decide +kernel)]; exact ⟨rfl, rfl⟩))
    (fun os started H enc _ => hunkStands_lifted os started H enc)

#print axioms hunkStands_proved
end Go.Proofs.Ytkpgkbllcdpobaa
