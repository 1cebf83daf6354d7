/-
  The statement SeqApart: for every five lists of lines, every place and every gap the law returns true, and its arguments read as they did. No conditions.
-/
import Derived.Test.YtbiibpcejeedlaaSqLaw
namespace Go.Proofs.Ytbiibpcejeedlaa
open Go.RowKit
set_option linter.unusedVariables false
namespace Sq
open Tx

theorem Swap_yesI (A A' A2 : Option Addr) (cap cap' cap2 n n' n2 B : Nat) (i : Int) (ls ms ns : List (List UInt8)) (w : World) (hn : ls.length = n) (hn' : ms.length = n') (hn2 : ns.length = n2) (hc : n ≤ cap) (hnm : n ≤ 1000) (hnm' : n' ≤ 1000) (hnm2 : n2 ≤ 1000) (hB : B ≤ w.heap.size)
    (hR : RdS w B A ls) (hR' : RdS w B A' ms) (hR2 : RdS w B A2 ns) (hh : has ls i ms = true) :
    Calls Try.prog 10 #[.slice A n cap, .int .i64 i, .slice A' n' cap', .slice A2 n2 cap2] w (SwapEnd w (swp ls i.toNat n' ns)) := by
  obtain ⟨k, rfl⟩ : ∃ k : Nat, i = k := ⟨i.toNat, by have := (has_len hh).1; omega⟩
  exact Swap_yes A A' A2 cap cap' cap2 n n' n2 B k ls ms ns w hn hn' hn2 hc hnm hnm' hnm2 hB hR hR' hR2 hh

theorem apart' {l old now other thn : List (List UInt8)} {i g J : Int} {n1 n2 n3 n4 : Nat} (hg : 0 ≤ g) (hn1 : old.length = n1) (hn2 : now.length = n2) (hn3 : other.length = n3) (hn4 : thn.length = n4) (h1 : has l i old = true) (h2 : has l (i + n1 + g) other = true) (hJ : J = i + n1 + g - n1 + n2) :
    has (swp l i.toNat n1 now) J other = true ∧ has (swp l (i + n1 + g).toNat n3 thn) i old = true ∧
    swp (swp l i.toNat n1 now) J.toNat n3 thn = swp (swp l (i + n1 + g).toNat n3 thn) i.toNat n1 now ∧ (swp l i.toNat n1 now).length + n1 = l.length + n2 ∧ (swp l (i + n1 + g).toNat n3 thn).length + n3 = l.length + n4 := by
  have e1 := (back_again (now := now) h1).2.2
  have e2 := (back_again (now := thn) h2).2.2
  obtain ⟨k, rfl⟩ : ∃ k : Nat, i = k := ⟨i.toNat, by have := (has_len h1).1; omega⟩
  obtain ⟨q, rfl⟩ : ∃ q : Nat, g = q := ⟨g.toNat, by omega⟩
  obtain rfl : J = ((k + now.length + q : Nat) : Int) := by omega
  have hi : (k : Int) + n1 + q = ((k + old.length + q : Nat) : Int) := by omega
  rw [hi] at h2 e2 ⊢
  obtain ⟨a1, a2, a3⟩ := apart (now := now) (thn := thn) h1 h2
  subst hn1
  subst hn3
  simp only [Int.toNat_natCast] at e1 e2 ⊢
  exact ⟨a1, a2, a3, by omega, by omega⟩

theorem swp_le (l now : List (List UInt8)) (i n : Nat) : (swp l i n now).length ≤ l.length + now.length := by
  simp only [swp, List.length_append, List.length_take, List.length_drop]
  omega

set_option maxRecDepth 100000 in
set_option maxHeartbeats 4000000 in
theorem seqApart_walk (A : Option Addr) (n c : Nat) (l : List (List UInt8)) (i : Int) (A1 : Option Addr) (n1 c1 : Nat) (old : List (List UInt8)) (A2 : Option Addr) (n2 c2 : Nat) (now : List (List UInt8)) (g : Int)
    (A3 : Option Addr) (n3 c3 : Nat) (other : List (List UInt8)) (A4 : Option Addr) (n4 c4 : Nat) (thn : List (List UInt8)) (w : World)
    (h : StrArg w A n c l) (h1 : StrArg w A1 n1 c1 old) (h2 : StrArg w A2 n2 c2 now) (h3 : StrArg w A3 n3 c3 other) (h4 : StrArg w A4 n4 c4 thn) :
    Calls Try.prog 5 #[.slice A n c, .int .i64 i, .slice A1 n1 c1, .slice A2 n2 c2, .int .i64 g, .slice A3 n3 c3, .slice A4 n4 c4] w (LawEnd w) := by
  have HM := Lib.hid h.le
  have HM1 := Lib.hid h1.le
  have HM3 := Lib.hid h3.le
  go_enter Try.func5, Try.ntmps5
  go_wp2_with fail
  refine (awake w).mono ?_
  rintro e w1 ⟨rfl, hB1⟩
  go_wp2_with fail
  refine (Light _ _ _ _ 100 l _ h.len h.le (h.rd.below hB1) (by decide)).mono ?_
  rintro e w' ⟨rfl, rfl⟩
  go_wp2_with fail
  refine (Light _ _ _ _ 100 old _ h1.len h1.le (h1.rd.below hB1) (by decide)).mono ?_
  rintro e w' ⟨rfl, rfl⟩
  go_wp2_with fail
  refine (Light _ _ _ _ 100 now _ h2.len h2.le (h2.rd.below hB1) (by decide)).mono ?_
  rintro e w' ⟨rfl, rfl⟩
  go_wp2_with fail
  refine (Light _ _ _ _ 100 other _ h3.len h3.le (h3.rd.below hB1) (by decide)).mono ?_
  rintro e w' ⟨rfl, rfl⟩
  go_wp2_with fail
  refine (Light _ _ _ _ 100 thn _ h4.len h4.le (h4.rd.below hB1) (by decide)).mono ?_
  rintro e w' ⟨rfl, rfl⟩
  cases hl : light l 100 with
  | false =>
    clear hl
    go_wp2
    go_ret
    exact ⟨rfl, hB1⟩
  | true =>
  have hn := light_len hl h.len
  clear hl
  cases hl : light old 100 with
  | false =>
    clear hl
    go_wp2
    go_ret
    exact ⟨rfl, hB1⟩
  | true =>
  have hn1 := light_len hl h1.len
  clear hl
  cases hl : light now 100 with
  | false =>
    clear hl
    go_wp2
    go_ret
    exact ⟨rfl, hB1⟩
  | true =>
  have hn2 := light_len hl h2.len
  clear hl
  cases hl : light other 100 with
  | false =>
    clear hl
    go_wp2
    go_ret
    exact ⟨rfl, hB1⟩
  | true =>
  have hn3 := light_len hl h3.len
  clear hl
  cases hl : light thn 100 with
  | false =>
    clear hl
    go_wp2
    go_ret
    exact ⟨rfl, hB1⟩
  | true =>
  have hn4 := light_len hl h4.len
  clear hl
  by_cases hg0 : g < 0
  · go_wp2
    go_ret
    exact ⟨rfl, hB1⟩
  by_cases hg1 : 100 < g
  · go_wp2
    go_ret
    exact ⟨rfl, hB1⟩
  by_cases hi0 : i < 0
  · go_wp2
    go_ret
    exact ⟨rfl, hB1⟩
  by_cases hi1 : 100 < i
  · go_wp2
    go_ret
    exact ⟨rfl, hB1⟩
  have hm1 := hB1.size
  have hg2 : 0 ≤ g := by omega
  go_wp2_with fail
  cases hp : has l i old with
  | false =>
    refine (Swap_no A A1 A2 c c1 c2 n n1 n2 w.heap.size i l old w1 h.len h1.len h.cap HM.out HM1.out (h.rd.below hB1) (h1.rd.below hB1) hp).mono ?_
    clear hp
    rintro e w' ⟨rfl, d0, rfl⟩
    have hB2 : Below w.heap.size w (w1.drewN d0) := below_drewN hB1 d0
    generalize w1.drewN d0 = w2 at *
    go_wp2_with fail
    cases hq : has l (i + n1 + g) other with
    | false =>
      refine (Swap_no A A3 A4 c c3 c4 n n3 n4 w.heap.size _ l other w2 h.len h3.len h.cap HM.out HM3.out (h.rd.below hB2) (h3.rd.below hB2) hq).mono ?_
      clear hq
      rintro e w' ⟨rfl, d1, rfl⟩
      go_wp2
      go_ret
      exact ⟨rfl, below_drewN hB2 _⟩
    | true =>
      refine (Swap_yesI A A3 A4 c c3 c4 n n3 n4 w.heap.size _ l other thn w2 h.len h3.len h4.len h.cap (by omega) (by omega) (by omega) hB2.size (h.rd.below hB2) (h3.rd.below hB2) (h4.rd.below hB2) hq).mono ?_
      clear hq
      rintro e w3 ⟨v3, rfl, _, hB3⟩
      go_wp2
      go_ret
      exact ⟨rfl, hB2.trans (hB3.mono hB2.size)⟩
  | true =>
    have HP := Lib.hid hp
    refine (Swap_yesI A A1 A2 c c1 c2 n n1 n2 w.heap.size i l old now w1 h.len h1.len h2.len h.cap (by omega) (by omega) (by omega) hm1 (h.rd.below hB1) (h1.rd.below hB1) (h2.rd.below hB1) hp).mono ?_
    clear hp
    rintro e w2 ⟨v2, rfl, ⟨A5, c5, rfl, hc5, _, hr5, _⟩, hB12⟩
    have hB2 : Below w.heap.size w w2 := hB1.trans (hB12.mono hm1)
    have hr5' : RdS w2 w2.heap.size A5 (swp l i.toNat n1 now) := hr5
    clear hr5
    generalize hx : swp l i.toNat n1 now = x at *
    have HX := Lib.hid hx; clear hx
    generalize hxl : x.length = N at *
    have HXL := Lib.hid hxl; clear hxl
    go_wp2_with fail
    cases hq : has l (i + n1 + g) other with
    | false =>
      refine (Swap_no A A3 A4 c c3 c4 n n3 n4 w.heap.size _ l other w2 h.len h3.len h.cap HM.out HM3.out (h.rd.below hB2) (h3.rd.below hB2) hq).mono ?_
      clear hq
      rintro e w' ⟨rfl, d1, rfl⟩
      go_wp2
      go_ret
      exact ⟨rfl, below_drewN hB2 _⟩
    | true =>
      have HQ := Lib.hid hq
      have HJ : Hid (∀ J : Int, J = i + n1 + g - n1 + n2 → has x J other = true ∧ has (swp l (i + n1 + g).toNat n3 thn) i old = true ∧ swp x J.toNat n3 thn = swp (swp l (i + n1 + g).toNat n3 thn) i.toNat n1 now ∧ N + n1 = n + n2 ∧ (swp l (i + n1 + g).toNat n3 thn).length + n3 = n + n4) :=
        Lib.hid (fun J hJ => by have := apart' (thn := thn) hg2 h1.len h2.len h3.len h4.len HP.out hq hJ; rw [HX.out, HXL.out, h.len] at this; exact this)
      refine (Swap_yesI A A3 A4 c c3 c4 n n3 n4 w.heap.size _ l other thn w2 h.len h3.len h4.len h.cap (by omega) (by omega) (by omega) hB2.size (h.rd.below hB2) (h3.rd.below hB2) (h4.rd.below hB2) hq).mono ?_
      clear hq
      rintro e w3 ⟨v3, rfl, ⟨A6, c6, rfl, hc6, _, hr6, _⟩, hB23⟩
      have hr6' : RdS w3 w3.heap.size A6 (swp l (i + n1 + g).toNat n3 thn) := hr6
      clear hr6
      have hB3 : Below w.heap.size w w3 := hB2.trans (hB23.mono hB2.size)
      generalize hy : swp l (i + n1 + g).toNat n3 thn = y at *
      have HY := Lib.hid hy; clear hy
      generalize hyl : y.length = M at *
      have HYL := Lib.hid hyl; clear hyl
      have hN : N ≤ 200 := by have := (HJ.out _ rfl).2.2.2.1; omega
      have hM : M ≤ 200 := by have := (HJ.out _ rfl).2.2.2.2; omega
      have hr53 : RdS w3 w2.heap.size A5 x := hr5'.below hB23
      have HZ := Lib.hid (swp_le x thn (i + n1 + g - n1 + n2).toNat n3)
      have HJ0 := Lib.hid (HJ.out _ rfl)
      clear HJ
      go_wp2_with fail
      refine (Swap_yesI A5 A3 A4 c5 c3 c4 N n3 n4 w3.heap.size (i + n1 + g - n1 + n2) x other thn w3 HXL.out h3.len h4.len hc5 (by omega) (by omega) (by omega) (Nat.le_refl _) (Rd.up hr53 hB23.size) (Rd.up (h3.rd.below hB3) hB3.size) (Rd.up (h4.rd.below hB3) hB3.size) HJ0.out.1).mono ?_
      rintro e w4 ⟨v4, rfl, ⟨A7, c7, rfl, hc7, _, hr7, _⟩, hB34⟩
      have hr7' : RdS w4 w4.heap.size A7 (swp x (i + n1 + g - n1 + n2).toNat n3 thn) := hr7
      clear hr7
      have HE : Hid (swp y i.toNat n1 now = swp x (i + n1 + g - n1 + n2).toNat n3 thn) := Lib.hid HJ0.out.2.2.1.symm
      have HY0 := Lib.hid HJ0.out.2.1
      clear HJ0
      have hB4 : Below w.heap.size w w4 := hB3.trans (hB34.mono hB3.size)
      generalize swp x (i + n1 + g - n1 + n2).toNat n3 thn = z at *
      have hzl := HZ.out
      rw [HXL.out, h4.len] at hzl
      generalize hzz : z.length = K at *
      have HKL := Lib.hid hzz; clear hzz
      have hKm : K ≤ maxLen := by unfold maxLen; omega
      go_wp2_with fail
      refine (Swap_yesI A6 A1 A2 c6 c1 c2 M n1 n2 w4.heap.size i y old now w4 HYL.out h1.len h2.len hc6 (by omega) (by omega) (by omega) (Nat.le_refl _) (Rd.up (hr6'.below hB34) hB34.size) (Rd.up (h1.rd.below hB4) hB4.size) (Rd.up (h2.rd.below hB4) hB4.size) HY0.out).mono ?_
      rw [HE.out]
      rintro e w5 ⟨v5, rfl, ⟨A8, c8, rfl, hc8, _, hr8, _⟩, hB45⟩
      have hr8' : RdS w5 w5.heap.size A8 z := hr8
      clear hr8
      rw [HKL.out]
      have hB5 : Below w.heap.size w w5 := hB4.trans (hB45.mono hB4.size)
      go_wp2_with fail
      refine (Same A7 A8 c7 c8 K K w5.heap.size z z w5 HKL.out HKL.out hKm (Rd.up (hr7'.below hB45) hB45.size) hr8').mono ?_
      rw [decide_eq_true rfl]
      rintro e w' ⟨rfl, d, rfl⟩
      go_wp2
      go_ret
      exact ⟨rfl, below_drewN hB5 _⟩

end Sq
open Tx Sq
open Go.ChangeShapes Go.WideShapes Go.ChangeAt

theorem seqApart_own : ownKnob Try.prog.godebug = none := by kernel_rfl
theorem seqApart_laidOut : laidOutB Try.prog = true := by kernel_rfl

set_option maxRecDepth 100000 in
theorem seqApart_lifted (os : Os) (started : os.Started) (H : Type) (enc : TypeId × Value → H) :
    ReturnsInHanded {} Try.checked os 5 .any (Rows.seqApartSpec.pre6 enc Try.prog Try.f5 Rows.seqApartRow.domain false) (Rows.seqApartSpec.post enc Try.prog Try.f5 false true false false) := by
  refine returnsInHanded_of_change (C := Try.checked) seqApart_own started (by kernel_rfl) Try.func5
    (ChangeSpec.witness6 (enc := enc) (C := Try.checked) false ⟨#[], #[.slice none 0 0, .int .i64 0, .slice none 0 0, .slice none 0 0, .int .i64 0, .slice none 0 0, .slice none 0 0], []⟩ 8 (by kernel_rfl) (by kernel_rfl) (by kernel_rfl) (by kernel_rfl)) ?_
  intro W base args ds gs before hval0 hW hcnd _
  have hval : ∀ (j : Nat) t v, Try.f5.params[j]? = some t → args[j]? = some v → Value.okWide Try.prog W .any base t v := hval0
  have hW' := hW
  obtain ⟨p, q, hA0, hV, rfl, hfz, hnd⟩ := hW
  have hA : DataW.TrodAll enc Try.prog W 0 (fun _ => true) true Try.f5.params.toList args.toList ds p := hA0
  rw [Try.params5] at hA hval
  obtain ⟨v0, vs0, d0, ds0, p0, q0, hargs, rfl, rfl, h0, r0⟩ := trodAll_cons hA
  obtain ⟨v1, vs1, d1, ds1, p1, q1, rfl, rfl, rfl, h1, r1⟩ := trodAll_cons r0
  obtain ⟨v2, vs2, d2, ds2, p2, q2, rfl, rfl, rfl, h2, r2⟩ := trodAll_cons r1
  obtain ⟨v3, vs3, d3, ds3, p3, q3, rfl, rfl, rfl, h3, r3⟩ := trodAll_cons r2
  obtain ⟨v4, vs4, d4, ds4, p4, q4, rfl, rfl, rfl, h4, r4⟩ := trodAll_cons r3
  obtain ⟨v5, vs5, d5, ds5, p5, q5, rfl, rfl, rfl, h5, r5⟩ := trodAll_cons r4
  obtain ⟨v6, vs6, d6, ds6, p6, q6, rfl, rfl, rfl, h6, r6⟩ := trodAll_cons r5
  obtain ⟨rfl, rfl, rfl⟩ := trodAll_nil r6
  obtain rfl : args = #[v0, v1, v2, v3, v4, v5, v6] := by cases args; simp_all
  obtain ⟨rfl, rfl⟩ := trodVars_none hV
  obtain ⟨a0, n0, c0, rfl⟩ := okWide_slice Try.underlying22 (hval 0 22 v0 rfl rfl)
  have k0 := h0
  have lt0 : ∀ x ∈ p0, x.block < W.heap.size := by obtain ⟨m, hm⟩ := k0; exact DataW.trod_lt m _ _ _ hm
  obtain ⟨l0, s0⟩ : ∃ l, StrArg W a0 n0 c0 l := by
    obtain ⟨fuel, hf⟩ := h0
    exact strs_in hf (by simp [Value.cells])
  have k1 := h1
  have lt1 : ∀ x ∈ p1, x.block < W.heap.size := by obtain ⟨m, hm⟩ := k1; exact DataW.trod_lt m _ _ _ hm
  obtain ⟨i1, rfl, rfl, rfl, w1⟩ := open_int Try.underlying3 (hval 1 3 v1 rfl rfl) h1
  obtain ⟨a2, n2, c2, rfl⟩ := okWide_slice Try.underlying22 (hval 2 22 v2 rfl rfl)
  have k2 := h2
  have lt2 : ∀ x ∈ p2, x.block < W.heap.size := by obtain ⟨m, hm⟩ := k2; exact DataW.trod_lt m _ _ _ hm
  obtain ⟨l2, s2⟩ : ∃ l, StrArg W a2 n2 c2 l := by
    obtain ⟨fuel, hf⟩ := h2
    exact strs_in hf (by simp [Value.cells])
  obtain ⟨a3, n3, c3, rfl⟩ := okWide_slice Try.underlying22 (hval 3 22 v3 rfl rfl)
  have k3 := h3
  have lt3 : ∀ x ∈ p3, x.block < W.heap.size := by obtain ⟨m, hm⟩ := k3; exact DataW.trod_lt m _ _ _ hm
  obtain ⟨l3, s3⟩ : ∃ l, StrArg W a3 n3 c3 l := by
    obtain ⟨fuel, hf⟩ := h3
    exact strs_in hf (by simp [Value.cells])
  have k4 := h4
  have lt4 : ∀ x ∈ p4, x.block < W.heap.size := by obtain ⟨m, hm⟩ := k4; exact DataW.trod_lt m _ _ _ hm
  obtain ⟨i4, rfl, rfl, rfl, w4⟩ := open_int Try.underlying3 (hval 4 3 v4 rfl rfl) h4
  obtain ⟨a5, n5, c5, rfl⟩ := okWide_slice Try.underlying22 (hval 5 22 v5 rfl rfl)
  have k5 := h5
  have lt5 : ∀ x ∈ p5, x.block < W.heap.size := by obtain ⟨m, hm⟩ := k5; exact DataW.trod_lt m _ _ _ hm
  obtain ⟨l5, s5⟩ : ∃ l, StrArg W a5 n5 c5 l := by
    obtain ⟨fuel, hf⟩ := h5
    exact strs_in hf (by simp [Value.cells])
  obtain ⟨a6, n6, c6, rfl⟩ := okWide_slice Try.underlying22 (hval 6 22 v6 rfl rfl)
  have k6 := h6
  have lt6 : ∀ x ∈ p6, x.block < W.heap.size := by obtain ⟨m, hm⟩ := k6; exact DataW.trod_lt m _ _ _ hm
  obtain ⟨l6, s6⟩ : ∃ l, StrArg W a6 n6 c6 l := by
    obtain ⟨fuel, hf⟩ := h6
    exact strs_in hf (by simp [Value.cells])
  clear hA0 hval0
  refine (seqApart_walk a0 n0 c0 l0 i1 a2 n2 c2 l2 a3 n3 c3 l3 i4 a5 n5 c5 l5 a6 n6 c6 l6 W s0 s2 s3 s5 s6).mono fun e W' ⟨he, bel⟩ => ?_
  subst he
  exact ⟨_, rfl, _, _, _, [], _, [], hW', trodAll_mk1 (shut_bool Try.underlying4 _), (trodAll_cons_mk (Below.trod seqApart_laidOut (by kernel_rfl) (of_decide_eq_true (by kernel_rfl)) k0 bel lt0) (trodAll_cons_mk (Below.trod seqApart_laidOut (by kernel_rfl) (of_decide_eq_true (by kernel_rfl)) k1 bel lt1) (trodAll_cons_mk (Below.trod seqApart_laidOut (by kernel_rfl) (of_decide_eq_true (by kernel_rfl)) k2 bel lt2) (trodAll_cons_mk (Below.trod seqApart_laidOut (by kernel_rfl) (of_decide_eq_true (by kernel_rfl)) k3 bel lt3) (trodAll_cons_mk (Below.trod seqApart_laidOut (by kernel_rfl) (of_decide_eq_true (by kernel_rfl)) k4 bel lt4) (trodAll_cons_mk (Below.trod seqApart_laidOut (by kernel_rfl) (of_decide_eq_true (by kernel_rfl)) k5 bel lt5) (trodAll_cons_mk (Below.trod seqApart_laidOut (by kernel_rfl) (of_decide_eq_true (by kernel_rfl)) k6 bel lt6) trodAll_mk0))))))), rfl, bel.frame _, fun h => by cases h⟩

/-- The statement. -/
theorem seqApart_proved : Rows.SeqApartSaid :=
  OpenClaim.holds_of_wide 5 Try.f5 rfl rfl rfl rfl rfl rfl rfl ⟨rfl, rfl, rfl, rfl, rfl⟩ rfl rfl rfl rfl rfl (by kernel_rfl) Try.func5 (by kernel_rfl)
    (of_decide_eq_true (by kernel_rfl)) (by unfold Func.isWrapper; first | (rw [if_pos (by decide +kernel)]; kernel_rfl) | (rw [if_neg (by decide +kernel)]; exact ⟨rfl, rfl⟩))
    (fun os started H enc _ => seqApart_lifted os started H enc)

#print axioms seqApart_proved
end Go.Proofs.Ytbiibpcejeedlaa
