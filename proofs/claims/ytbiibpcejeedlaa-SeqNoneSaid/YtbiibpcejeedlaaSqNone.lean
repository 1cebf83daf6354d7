/-
  The statement SeqNone: for every two lists of lines and every place the law returns true, and its arguments read as they did. No conditions.
-/
import Derived.Test.YtbiibpcejeedlaaSqLaw
namespace Go.Proofs.Ytbiibpcejeedlaa
open Go.RowKit
set_option linter.unusedVariables false
namespace Sq
open Tx

set_option maxRecDepth 100000 in
set_option maxHeartbeats 2000000 in
theorem seqNone_walk (A : Option Addr) (n c : Nat) (l : List (List UInt8)) (i : Int) (A2 : Option Addr) (n2 c2 : Nat) (m : List (List UInt8)) (w : World) (h : StrArg w A n c l) (h2 : StrArg w A2 n2 c2 m) :
    Calls Try.prog 7 #[.slice A n c, .int .i64 i, .slice A2 n2 c2] w (LawEnd w) := by
  have HM1 := Lib.hid h.le
  have HM2 := Lib.hid h2.le
  go_enter Try.func7, Try.ntmps7
  go_wp2_with fail
  refine (awake w).mono ?_
  rintro e w1 ⟨rfl, hB1⟩
  go_wp2_with fail
  refine (Light _ _ _ _ 300 l _ h.len h.le (h.rd.below hB1) (by decide)).mono ?_
  rintro e w' ⟨rfl, rfl⟩
  go_wp2_with fail
  refine (Light _ _ _ _ 300 m _ h2.len h2.le (h2.rd.below hB1) (by decide)).mono ?_
  rintro e w' ⟨rfl, rfl⟩
  cases hl : light l 300 with
  | false =>
    clear hl
    go_wp2
    go_ret
    exact ⟨rfl, hB1⟩
  | true =>
  have hn1 := light_len hl h.len
  clear hl
  cases hl : light m 300 with
  | false =>
    clear hl
    go_wp2
    go_ret
    exact ⟨rfl, hB1⟩
  | true =>
  have hn2 := light_len hl h2.len
  clear hl
  have e2 : swp l 0 n m = m := by rw [← h.len]; exact swp_all l m
  have E2 := Lib.hid e2; clear e2
  have hm1 := hB1.size
  by_cases hin : 0 ≤ i ∧ i ≤ n
  · obtain ⟨k, rfl⟩ : ∃ k : Nat, i = k := ⟨i.toNat, by omega⟩
    have hk0 : (0 : Int) ≤ k := by omega
    have hkn : k ≤ n := by omega
    have H0 : Hid (has l k [] = true) := Lib.hid (by rw [has_none]; exact decide_eq_true ⟨hk0, by rw [h.len]; omega⟩)
    clear hin
    go_wp2_with fail
    refine (Swap_yes A none none c 0 0 n 0 0 w.heap.size k l [] [] w1 h.len rfl rfl h.cap (by omega) (by omega) (by omega) hm1 (h.rd.below hB1) (.inl rfl) (.inl rfl) H0.out).mono ?_
    rw [swp_none]
    rintro e w2 ⟨v2, rfl, ⟨A3, c3, rfl, hc3, _, hr3, _⟩, hB2⟩
    have hB02 : Below w.heap.size w w2 := hB1.trans (hB2.mono hm1)
    rw [h.len] at hc3 ⊢
    go_wp2_with fail
    refine (Swap_yes A A A2 c c c2 n n n2 w.heap.size 0 l l m w2 h.len h.len h2.len h.cap (by omega) (by omega) (by omega) hB02.size (h.rd.below hB02) (h.rd.below hB02) (h2.rd.below hB02) (has_all l)).mono ?_
    rw [E2.out]
    rintro e w3 ⟨v3, rfl, ⟨A4, c4, rfl, hc4, _, hr4, _⟩, hB3⟩
    have hB03 : Below w.heap.size w w3 := hB02.trans (hB3.mono hB02.size)
    rw [h2.len] at hc4 ⊢
    go_wp2_with fail
    refine (Same A4 A2 c4 c2 n2 n2 w3.heap.size m m w3 h2.len h2.len HM2.out hr4 (Rd.up (h2.rd.below hB03) hB03.size)).mono ?_
    rw [decide_eq_true rfl]
    rintro e w' ⟨rfl, d, rfl⟩
    go_wp2_with fail
    refine (Same A3 A c3 c n n w3.heap.size l l _ h.len h.len HM1.out (Rd.drewN (Rd.up (hr3.below hB3) hB3.size) d) (Rd.drewN (Rd.up (h.rd.below hB03) hB03.size) d)).mono ?_
    rw [decide_eq_true rfl]
    rintro e w' ⟨rfl, d', rfl⟩
    go_wp2
    go_ret
    exact ⟨rfl, below_drewN hB03 _⟩
  · have H0 : Hid (has l i [] = false) := Lib.hid (by rw [has_none]; exact decide_eq_false (by rw [h.len]; exact hin))
    have hd : i < 0 ∨ (n : Int) < i := by omega
    clear hin
    go_wp2_with fail
    refine (Swap_no A none none c 0 0 n 0 0 w.heap.size i l [] w1 h.len rfl h.cap HM1.out (by decide) (h.rd.below hB1) (.inl rfl) H0.out).mono ?_
    rintro e w' ⟨rfl, d0, rfl⟩
    have hB02 : Below w.heap.size w (w1.drewN d0) := below_drewN hB1 d0
    go_wp2_with fail
    refine (Swap_yes A A A2 c c c2 n n n2 w.heap.size 0 l l m _ h.len h.len h2.len h.cap (by omega) (by omega) (by omega) hB02.size (h.rd.below hB02) (h.rd.below hB02) (h2.rd.below hB02) (has_all l)).mono ?_
    rw [E2.out]
    rintro e w3 ⟨v3, rfl, ⟨A4, c4, rfl, hc4, _, hr4, _⟩, hB3⟩
    have hB03 : Below w.heap.size w w3 := hB02.trans (hB3.mono hB02.size)
    rw [h2.len] at hc4 ⊢
    go_wp2_with fail
    refine (Same A4 A2 c4 c2 n2 n2 w3.heap.size m m w3 h2.len h2.len HM2.out hr4 (Rd.up (h2.rd.below hB03) hB03.size)).mono ?_
    rw [decide_eq_true rfl]
    rintro e w' ⟨rfl, d, rfl⟩
    rcases hd with hd | hd
    · go_wp2_with fail
      refine (Same none A 0 c 0 n w3.heap.size [] l _ rfl h.len (by decide) (.inl rfl) (Rd.drewN (Rd.up (h.rd.below hB03) hB03.size) d)).mono ?_
      generalize decide ([] = l) = b
      rintro e w' ⟨rfl, d', rfl⟩
      go_wp2
      go_ret
      exact ⟨rfl, below_drewN hB03 _⟩
    · have hd0 : (0 : Int) ≤ i := by omega
      have hdd : decide (i ≤ (n : Int)) = false := decide_eq_false (by omega)
      go_wp2_with fail
      refine (Same none A 0 c 0 n w3.heap.size [] l _ rfl h.len (by decide) (.inl rfl) (Rd.drewN (Rd.up (h.rd.below hB03) hB03.size) d)).mono ?_
      generalize decide ([] = l) = b
      rintro e w' ⟨rfl, d', rfl⟩
      go_wp2
      go_ret
      exact ⟨rfl, below_drewN hB03 _⟩

end Sq
open Tx Sq
open Go.ChangeShapes Go.WideShapes Go.ChangeAt

theorem seqNone_own : ownKnob Try.prog.godebug = none := by kernel_rfl
theorem seqNone_laidOut : laidOutB Try.prog = true := by kernel_rfl

set_option maxRecDepth 100000 in
theorem seqNone_lifted (os : Os) (started : os.Started) (H : Type) (enc : TypeId × Value → H) :
    ReturnsInHanded {} Try.checked os 7 .any (Rows.seqNoneSpec.pre6 enc Try.prog Try.f7 Rows.seqNoneRow.domain false) (Rows.seqNoneSpec.post enc Try.prog Try.f7 false true false false) := by
  refine returnsInHanded_of_change (C := Try.checked) seqNone_own started (by kernel_rfl) Try.func7
    (ChangeSpec.witness6 (enc := enc) (C := Try.checked) false ⟨#[], #[.slice none 0 0, .int .i64 0, .slice none 0 0], []⟩ 8 (by kernel_rfl) (by kernel_rfl) (by kernel_rfl) (by kernel_rfl)) ?_
  intro W base args ds gs before hval0 hW hcnd _
  have hval : ∀ (j : Nat) t v, Try.f7.params[j]? = some t → args[j]? = some v → Value.okWide Try.prog W .any base t v := hval0
  have hW' := hW
  obtain ⟨p, q, hA0, hV, rfl, hfz, hnd⟩ := hW
  have hA : DataW.TrodAll enc Try.prog W 0 (fun _ => true) true Try.f7.params.toList args.toList ds p := hA0
  rw [Try.params7] at hA hval
  obtain ⟨v0, vs0, d0, ds0, p0, q0, hargs, rfl, rfl, h0, r0⟩ := trodAll_cons hA
  obtain ⟨v1, vs1, d1, ds1, p1, q1, rfl, rfl, rfl, h1, r1⟩ := trodAll_cons r0
  obtain ⟨v2, vs2, d2, ds2, p2, q2, rfl, rfl, rfl, h2, r2⟩ := trodAll_cons r1
  obtain ⟨rfl, rfl, rfl⟩ := trodAll_nil r2
  obtain rfl : args = #[v0, v1, v2] := by cases args; simp_all
  obtain ⟨rfl, rfl⟩ := trodVars_none hV
  obtain ⟨a0, n0, c0, rfl⟩ := okWide_slice Try.underlying22 (hval 0 22 v0 rfl rfl)
  have k0 := h0
  have lt0 : ∀ x ∈ p0, x.block < W.heap.size := by obtain ⟨m, hm⟩ := k0; exact DataW.trod_lt m _ _ _ hm
  obtain ⟨l0, s0⟩ : ∃ l, StrArg W a0 n0 c0 l := by
    obtain ⟨fuel, hf⟩ := h0
    exact strs_in hf (by simp [Value.cells])
  have k1 := h1
  have lt1 : ∀ x ∈ p1, x.block < W.heap.size := by obtain ⟨m, hm⟩ := k1; exact DataW.trod_lt m _ _ _ hm
  obtain ⟨i1, rfl, rfl, rfl, w1⟩ := open_int Try.underlying3 (hval 1 3 v1 rfl rfl) h1
  obtain ⟨a2, n2, c2, rfl⟩ := okWide_slice Try.underlying22 (hval 2 22 v2 rfl rfl)
  have k2 := h2
  have lt2 : ∀ x ∈ p2, x.block < W.heap.size := by obtain ⟨m, hm⟩ := k2; exact DataW.trod_lt m _ _ _ hm
  obtain ⟨l2, s2⟩ : ∃ l, StrArg W a2 n2 c2 l := by
    obtain ⟨fuel, hf⟩ := h2
    exact strs_in hf (by simp [Value.cells])
  clear hA0 hval0
  refine (seqNone_walk a0 n0 c0 l0 i1 a2 n2 c2 l2 W s0 s2).mono fun e W' ⟨he, bel⟩ => ?_
  subst he
  exact ⟨_, rfl, _, _, _, [], _, [], hW', trodAll_mk1 (shut_bool Try.underlying4 _), (trodAll_cons_mk (Below.trod seqNone_laidOut (by kernel_rfl) (of_decide_eq_true (by kernel_rfl)) k0 bel lt0) (trodAll_cons_mk (Below.trod seqNone_laidOut (by kernel_rfl) (of_decide_eq_true (by kernel_rfl)) k1 bel lt1) (trodAll_cons_mk (Below.trod seqNone_laidOut (by kernel_rfl) (of_decide_eq_true (by kernel_rfl)) k2 bel lt2) trodAll_mk0))), rfl, bel.frame _, fun h => by cases h⟩

/-- The statement. -/
theorem seqNone_proved : Rows.SeqNoneSaid :=
  OpenClaim.holds_of_wide 7 Try.f7 rfl rfl rfl rfl rfl rfl rfl ⟨rfl, rfl, rfl, rfl, rfl⟩ rfl rfl rfl rfl rfl (by kernel_rfl) Try.func7 (by kernel_rfl)
    (of_decide_eq_true (by kernel_rfl)) (by unfold Func.isWrapper; first | (rw [if_pos (by decide +kernel)]; kernel_rfl) | (rw [if_neg (by decide +kernel)]; exact ⟨rfl, rfl⟩))
    (fun os started H enc _ => seqNone_lifted os started H enc)

#print axioms seqNone_proved
end Go.Proofs.Ytbiibpcejeedlaa
