/-
  The statement SeqBack: for every three lists of lines and every place the law returns true, and its arguments read as they did. No conditions.
-/
import Derived.Test.YtbiibpcejeedlaaSqLaw
namespace Go.Proofs.Ytbiibpcejeedlaa
open Go.RowKit
set_option linter.unusedVariables false
namespace Sq
open Tx

set_option maxRecDepth 100000 in
set_option maxHeartbeats 2000000 in
theorem seqBack_walk (A : Option Addr) (n c : Nat) (l : List (List UInt8)) (i : Int) (A1 : Option Addr) (n1 c1 : Nat) (old : List (List UInt8)) (A2 : Option Addr) (n2 c2 : Nat) (now : List (List UInt8)) (w : World)
    (h : StrArg w A n c l) (h1 : StrArg w A1 n1 c1 old) (h2 : StrArg w A2 n2 c2 now) :
    Calls Try.prog 4 #[.slice A n c, .int .i64 i, .slice A1 n1 c1, .slice A2 n2 c2] w (LawEnd w) := by
  have HM := Lib.hid h.le
  have HM1 := Lib.hid h1.le
  have HM2 := Lib.hid h2.le
  go_enter Try.func4, Try.ntmps4
  go_wp2_with fail
  refine (awake w).mono ?_
  rintro e w1 ⟨rfl, hB1⟩
  go_wp2_with fail
  refine (Light _ _ _ _ 300 l _ h.len h.le (h.rd.below hB1) (by decide)).mono ?_
  rintro e w' ⟨rfl, rfl⟩
  go_wp2_with fail
  refine (Light _ _ _ _ 300 old _ h1.len h1.le (h1.rd.below hB1) (by decide)).mono ?_
  rintro e w' ⟨rfl, rfl⟩
  go_wp2_with fail
  refine (Light _ _ _ _ 300 now _ h2.len h2.le (h2.rd.below hB1) (by decide)).mono ?_
  rintro e w' ⟨rfl, rfl⟩
  cases hl : light l 300 with
  | false =>
    clear hl
    go_wp2
    go_ret
    exact ⟨rfl, hB1⟩
  | true =>
  have hn := light_len hl h.len
  clear hl
  cases hl : light old 300 with
  | false =>
    clear hl
    go_wp2
    go_ret
    exact ⟨rfl, hB1⟩
  | true =>
  have hn1 := light_len hl h1.len
  clear hl
  cases hl : light now 300 with
  | false =>
    clear hl
    go_wp2
    go_ret
    exact ⟨rfl, hB1⟩
  | true =>
  have hn2 := light_len hl h2.len
  clear hl
  have hm1 := hB1.size
  go_wp2_with fail
  cases hh : has l i old with
  | false =>
    have HH := Lib.hid hh
    refine (Swap_no A A1 A2 c c1 c2 n n1 n2 w.heap.size i l old w1 h.len h1.len h.cap HM.out HM1.out (h.rd.below hB1) (h1.rd.below hB1) hh).mono ?_
    clear hh
    rintro e w' ⟨rfl, d0, rfl⟩
    have hB2 : Below w.heap.size w (w1.drewN d0) := below_drewN hB1 d0
    go_wp2_with fail
    refine (At A A1 c c1 n n1 w.heap.size i l old _ h.len h1.len h.cap HM.out HM1.out (h.rd.below hB2) (h1.rd.below hB2)).mono ?_
    rw [HH.out]
    rintro e w' ⟨rfl, d, rfl⟩
    go_wp2
    go_ret
    exact ⟨rfl, below_drewN hB1 _⟩
  | true =>
    obtain ⟨k, rfl⟩ : ∃ k : Nat, i = k := ⟨i.toNat, by have := (has_len hh).1; omega⟩
    have hkn := (has_len hh).2
    rw [Int.toNat_natCast, h.len, h1.len] at hkn
    obtain ⟨hb1, hb2, hb3⟩ := back_again (now := now) hh
    rw [Int.toNat_natCast, h1.len] at hb1
    rw [Int.toNat_natCast, h1.len, h2.len] at hb2
    rw [Int.toNat_natCast, h1.len, h.len, h2.len] at hb3
    refine (Swap_yes A A1 A2 c c1 c2 n n1 n2 w.heap.size k l old now w1 h.len h1.len h2.len h.cap (by omega) (by omega) (by omega) hm1 (h.rd.below hB1) (h1.rd.below hB1) (h2.rd.below hB1) hh).mono ?_
    rintro e w2 ⟨v2, rfl, ⟨A3, c3, rfl, hc3, _, hr3, _⟩, hB2⟩
    have HX : Hid ((swp l k n1 now).length = n - n1 + n2) := Lib.hid (by omega)
    have hx : n - n1 + n2 ≤ 1000 := by omega
    have hxm : n - n1 + n2 ≤ maxLen := by unfold maxLen; omega
    have HE : Hid (((n - n1 + n2 : Nat) : Int) = n - n1 + n2) := Lib.hid (by omega)
    rw [HX.out] at hc3 ⊢
    have HB1 := Lib.hid hb1
    have HB2 := Lib.hid hb2
    clear hb1 hb2 hb3 hh
    have hr3' : RdS w2 w2.heap.size A3 (swp l k n1 now) := hr3
    clear hr3
    generalize swp l k n1 now = x at *
    generalize hN : n - n1 + n2 = N at *
    have HNN := Lib.hid hN; clear hN
    have hB02 : Below w.heap.size w w2 := hB1.trans (hB2.mono hm1)
    go_wp2_with fail
    refine (Swap_yes A3 A2 A1 c3 c2 c1 N n2 n1 w2.heap.size k x now old w2 HX.out h2.len h1.len hc3 hx (by omega) (by omega) (Nat.le_refl _) hr3' (Rd.up (h2.rd.below hB02) hB02.size) (Rd.up (h1.rd.below hB02) hB02.size) HB1.out).mono ?_
    rw [HB2.out]
    rintro e w3 ⟨v3, rfl, ⟨A4, c4, rfl, hc4, _, hr4, _⟩, hB3⟩
    have hB03 : Below w.heap.size w w3 := hB02.trans (hB3.mono hB02.size)
    rw [h.len] at hc4 ⊢
    go_wp2_with fail
    refine (Same A4 A c4 c n n w3.heap.size l l w3 h.len h.len HM.out hr4 (Rd.up (h.rd.below hB03) hB03.size)).mono ?_
    rw [decide_eq_true rfl]
    rintro e w' ⟨rfl, d, rfl⟩
    go_wp2_with fail
    refine (At A3 A2 c3 c2 N n2 w2.heap.size k x now _ HX.out h2.len hc3 hxm HM2.out (Rd.drewN (hr3'.below hB3) d) (Rd.drewN (Rd.up (h2.rd.below hB03) hB02.size) d)).mono ?_
    rw [HB1.out]
    rintro e w' ⟨rfl, d', rfl⟩
    have hq : ((N : Int) == (n : Int) - n1 + n2) = true := by rw [beq_iff_eq]; exact HE.out
    go_wp2
    go_ret
    exact ⟨rfl, below_drewN hB03 _⟩

end Sq
open Tx Sq
open Go.ChangeShapes Go.WideShapes Go.ChangeAt

theorem seqBack_own : ownKnob Try.prog.godebug = none := by kernel_rfl
theorem seqBack_laidOut : laidOutB Try.prog = true := by kernel_rfl

set_option maxRecDepth 100000 in
theorem seqBack_lifted (os : Os) (started : os.Started) (H : Type) (enc : TypeId × Value → H) :
    ReturnsInHanded {} Try.checked os 4 .any (Rows.seqBackSpec.pre6 enc Try.prog Try.f4 Rows.seqBackRow.domain false) (Rows.seqBackSpec.post enc Try.prog Try.f4 false true false false) := by
  refine returnsInHanded_of_change (C := Try.checked) seqBack_own started (by kernel_rfl) Try.func4
    (ChangeSpec.witness6 (enc := enc) (C := Try.checked) false ⟨#[], #[.slice none 0 0, .int .i64 0, .slice none 0 0, .slice none 0 0], []⟩ 8 (by kernel_rfl) (by kernel_rfl) (by kernel_rfl) (by kernel_rfl)) ?_
  intro W base args ds gs before hval0 hW hcnd _
  have hval : ∀ (j : Nat) t v, Try.f4.params[j]? = some t → args[j]? = some v → Value.okWide Try.prog W .any base t v := hval0
  have hW' := hW
  obtain ⟨p, q, hA0, hV, rfl, hfz, hnd⟩ := hW
  have hA : DataW.TrodAll enc Try.prog W 0 (fun _ => true) true Try.f4.params.toList args.toList ds p := hA0
  rw [Try.params4] at hA hval
  obtain ⟨v0, vs0, d0, ds0, p0, q0, hargs, rfl, rfl, h0, r0⟩ := trodAll_cons hA
  obtain ⟨v1, vs1, d1, ds1, p1, q1, rfl, rfl, rfl, h1, r1⟩ := trodAll_cons r0
  obtain ⟨v2, vs2, d2, ds2, p2, q2, rfl, rfl, rfl, h2, r2⟩ := trodAll_cons r1
  obtain ⟨v3, vs3, d3, ds3, p3, q3, rfl, rfl, rfl, h3, r3⟩ := trodAll_cons r2
  obtain ⟨rfl, rfl, rfl⟩ := trodAll_nil r3
  obtain rfl : args = #[v0, v1, v2, v3] := by cases args; simp_all
  obtain ⟨rfl, rfl⟩ := trodVars_none hV
  obtain ⟨a0, n0, c0, rfl⟩ := okWide_slice Try.underlying22 (hval 0 22 v0 rfl rfl)
  have k0 := h0
  have lt0 : ∀ x ∈ p0, x.block < W.heap.size := by obtain ⟨m, hm⟩ := k0; exact DataW.trod_lt m _ _ _ hm
  obtain ⟨l0, s0⟩ : ∃ l, StrArg W a0 n0 c0 l := by
    obtain ⟨fuel, hf⟩ := h0
    exact strs_in hf (by simp [Value.cells])
  have k1 := h1
  have lt1 : ∀ x ∈ p1, x.block < W.heap.size := by obtain ⟨m, hm⟩ := k1; exact DataW.trod_lt m _ _ _ hm
  obtain ⟨i1, rfl, rfl, rfl, w1⟩ := open_int Try.underlying3 (hval 1 3 v1 rfl rfl) h1
  obtain ⟨a2, n2, c2, rfl⟩ := okWide_slice Try.underlying22 (hval 2 22 v2 rfl rfl)
  have k2 := h2
  have lt2 : ∀ x ∈ p2, x.block < W.heap.size := by obtain ⟨m, hm⟩ := k2; exact DataW.trod_lt m _ _ _ hm
  obtain ⟨l2, s2⟩ : ∃ l, StrArg W a2 n2 c2 l := by
    obtain ⟨fuel, hf⟩ := h2
    exact strs_in hf (by simp [Value.cells])
  obtain ⟨a3, n3, c3, rfl⟩ := okWide_slice Try.underlying22 (hval 3 22 v3 rfl rfl)
  have k3 := h3
  have lt3 : ∀ x ∈ p3, x.block < W.heap.size := by obtain ⟨m, hm⟩ := k3; exact DataW.trod_lt m _ _ _ hm
  obtain ⟨l3, s3⟩ : ∃ l, StrArg W a3 n3 c3 l := by
    obtain ⟨fuel, hf⟩ := h3
    exact strs_in hf (by simp [Value.cells])
  clear hA0 hval0
  refine (seqBack_walk a0 n0 c0 l0 i1 a2 n2 c2 l2 a3 n3 c3 l3 W s0 s2 s3).mono fun e W' ⟨he, bel⟩ => ?_
  subst he
  exact ⟨_, rfl, _, _, _, [], _, [], hW', trodAll_mk1 (shut_bool Try.underlying4 _), (trodAll_cons_mk (Below.trod seqBack_laidOut (by kernel_rfl) (of_decide_eq_true (by kernel_rfl)) k0 bel lt0) (trodAll_cons_mk (Below.trod seqBack_laidOut (by kernel_rfl) (of_decide_eq_true (by kernel_rfl)) k1 bel lt1) (trodAll_cons_mk (Below.trod seqBack_laidOut (by kernel_rfl) (of_decide_eq_true (by kernel_rfl)) k2 bel lt2) (trodAll_cons_mk (Below.trod seqBack_laidOut (by kernel_rfl) (of_decide_eq_true (by kernel_rfl)) k3 bel lt3) trodAll_mk0)))), rfl, bel.frame _, fun h => by cases h⟩

/-- The statement. -/
theorem seqBack_proved : Rows.SeqBackSaid :=
  OpenClaim.holds_of_wide 4 Try.f4 rfl rfl rfl rfl rfl rfl rfl ⟨rfl, rfl, rfl, rfl, rfl⟩ rfl rfl rfl rfl rfl (by kernel_rfl) Try.func4 (by kernel_rfl)
    (of_decide_eq_true (by kernel_rfl)) (by unfold Func.isWrapper; first | (rw [if_pos (by decide +kernel)]; kernel_rfl) | (rw [if_neg (by decide +kernel)]; exact ⟨rfl, rfl⟩))
    (fun os started H enc _ => seqBack_lifted os started H enc)

#print axioms seqBack_proved
end Go.Proofs.Ytbiibpcejeedlaa
