/-
  The statement DiffBound: for every two lists of lines the law returns true, and both read as they did. No conditions.
-/
import Derived.Test.YtnhhbenddjkjaaaDfLaw
namespace Go.Proofs.Ytnhhbenddjkjaaa
open Go.RowKit
set_option linter.unusedVariables false
namespace Df
open Tx Lc

/-- A line of the first list, from the first k, that stands in the other one. -/
def hasB (a b : List (List UInt8)) : Bool := a.any fun x => b.any fun y => x == y
theorem hasB_iff (a b : List (List UInt8)) : hasB a b = false ↔ ∀ x ∈ a, x ∉ b := by
  unfold hasB
  rw [List.any_eq_false]
  constructor
  · intro h x hx hb
    exact h x hx (List.any_eq_true.2 ⟨x, hb, by simp⟩)
  · intro h x hx hb
    obtain ⟨y, hy, e⟩ := List.any_eq_true.1 hb
    have : x = y := by simpa using e
    exact h x hx (this ▸ hy)
theorem hasB_snoc (a b : List (List UInt8)) (x : List UInt8) : hasB (a ++ [x]) b = (hasB a b || b.any fun y => x == y) := by simp [hasB]
theorem any_snoc (b : List (List UInt8)) (x y : List UInt8) : ((b ++ [y]).any fun z => x == z) = ((b.any fun z => x == z) || (x == y)) := by simp

set_option maxRecDepth 100000 in
set_option maxHeartbeats 4000000 in
theorem diffBound_walk (A : Option Addr) (n c : Nat) (a : List (List UInt8)) (A1 : Option Addr) (n1 c1 : Nat) (b : List (List UInt8)) (w : World) (h : StrArg w A n c a) (h1 : StrArg w A1 n1 c1 b) :
    Calls Try.prog 9 #[.slice A n c, .slice A1 n1 c1] w (LawEnd w) := by
  go_enter Try.func9, Try.ntmps9
  go_wp2_with fail
  refine (awake w).mono ?_
  rintro e w1 ⟨rfl, hB1⟩
  go_wp2_with fail
  refine (Light _ _ _ _ 60 a _ h.len h.le (h.rd.below hB1) (by decide)).mono ?_
  rintro e w' ⟨rfl, rfl⟩
  go_wp2_with fail
  refine (Light _ _ _ _ 60 b _ h1.len h1.le (h1.rd.below hB1) (by decide)).mono ?_
  rintro e w' ⟨rfl, rfl⟩
  cases hl : light a 60 with
  | false =>
    clear hl
    go_wp2
    go_ret
    exact ⟨rfl, hB1⟩
  | true =>
  have hn := light_len hl h.len
  clear hl
  cases hl : light b 60 with
  | false =>
    clear hl
    go_wp2
    go_ret
    exact ⟨rfl, hB1⟩
  | true =>
  have hn1 := light_len hl h1.len
  clear hl
  obtain ⟨k, hk, hw, hkb, hkl⟩ := costL h h1 hn hn1
  have h3 := edits_bound a b
  rw [hk, ← hasB_iff, h.len, h1.len] at h3
  have HW := Lib.hid hw
  clear hk hw
  have HLA := Lib.hid h.len
  have HLB := Lib.hid h1.len
  go_wp2_with fail
  go_loopw [8, 9] (fun v8 v9 wr => ∃ i : Nat, i ≤ n ∧ v9 = .int .i64 (i : Int) ∧ v8 = .bool (hasB (a.take i) b) ∧ Below w.heap.size w wr) (fun _ v9 _ => n - (intOf v9).toNat)
  case atStart => exact ⟨0, Nat.zero_le _, rfl, rfl, hB1⟩
  case round =>
    obtain ⟨i, hi, rfl, rfl, hbr⟩ := hrel
    by_cases hlt : i < n
    · have hil : i < a.length := by rw [HLA.out]; exact hlt
      have hT := take_snoc' hil
      have HS : Hid (hasB (a.take (i + 1)) b = (hasB (a.take i) b || b.any fun y => a[i] == y)) := Lib.hid (by rw [hT, hasB_snoc])
      clear hT
      obtain ⟨pa, hpa, hca⟩ := RdS.at' h.rd hil
      have hpl : pa.block < w.heap.size := World.block_lt_of_cell? w (pa.add i) hca |> fun hx => by rw [add_block] at hx; exact hx
      subst hpa
      generalize a[i] = x at *
      generalize hg : hasB (a.take i) b = g0 at *
      have HGG := Lib.hid hg; clear hg
      go_wp2_with fail
      go_loopw [8, 10] (fun v8 v10 wr => ∃ j : Nat, j ≤ n1 ∧ v10 = .int .i64 (j : Int) ∧ v8 = .bool (g0 || (b.take j).any fun y => x == y) ∧ Below w.heap.size w wr) (fun _ v10 _ => n1 - (intOf v10).toNat)
      case atStart => exact ⟨0, Nat.zero_le _, rfl, by simp, hbr⟩
      case round =>
        clear hbr
        obtain ⟨j, hj, rfl, rfl, hbr⟩ := hrel
        by_cases hjt : j < n1
        · have hjl : j < b.length := by rw [HLB.out]; exact hjt
          have hT := take_snoc' hjl
          have HS2 : Hid ((b.take (j + 1)).any (fun y => x == y) = ((b.take j).any (fun y => x == y) || (x == b[j]))) := Lib.hid (by rw [hT, any_snoc])
          clear hT
          obtain ⟨pb, hpb, hcb⟩ := RdS.at' (h1.rd.below hbr) hjl
          subst hpb
          have hca' := (hbr.cell (p := pa.add i) (by rw [add_block]; exact hpl)).trans hca
          generalize b[j] = y at *
          generalize (b.take j).any (fun y => x == y) = g1 at *
          have f1 : (i : Int) < (n : Int) := by omega
          have f2 : (j : Int) < (n1 : Int) := by omega
          have f3 : (0 : Int) ≤ (i : Int) := by omega
          have f4 : (0 : Int) ≤ (j : Int) := by omega
          cases hgg : (g0 || g1) with
          | true =>
            have HGT : Hid ((g0 || (b.take (j + 1)).any fun y => x == y) = true) := Lib.hid (by rw [HS2.out]; rw [← Bool.or_assoc, hgg, Bool.true_or])
            clear hgg
            go_wp2
            go_quiet (fail)
            go_wp2
            go_roundw
            case rel => exact ⟨j + 1, by omega, by go_num, by rw [HGT.out], below_drewN hbr _⟩
            case measure => simp [intOf]; omega
          | false =>
            have HGT : Hid ((g0 || (b.take (j + 1)).any fun y => x == y) = (x == y)) := Lib.hid (by rw [HS2.out]; rw [← Bool.or_assoc, hgg, Bool.false_or])
            clear hgg
            go_wp2
            go_quiet (fail)
            go_wp2
            go_roundw
            case rel => exact ⟨j + 1, by omega, by go_num, by rw [HGT.out], below_drewN hbr _⟩
            case measure => simp [intOf]; omega
        · have HE : Hid ((b.take j) = b) := Lib.hid (List.take_of_length_le (by rw [HLB.out]; omega))
          rw [HE.out]
          go_wp2
          go_roundw
          case rel => exact ⟨i + 1, by omega, by go_num, by rw [HS.out], hbr⟩
          case measure => simp [intOf]; omega
    · have HE : Hid ((a.take i) = a) := Lib.hid (List.take_of_length_le (by rw [HLA.out]; omega))
      rw [HE.out]
      go_wp2_with fail
      refine (EditsL h h1 hbr hn hn1).mono ?_
      rintro e w2 ⟨Al, cl, rfl, hcl, hE, hb2⟩
      have hB2 := hbr.trans (hb2.mono hbr.size)
      go_wp2_with fail
      refine (Cost _ _ _ w2.heap.size _ w2 rfl (by unfold maxLen; omega) (Nat.le_refl _) hE).mono ?_
      rw [HW.out]
      rintro e w3 ⟨rfl, hb3⟩
      have hB3 := hB2.trans (hb3.mono hB2.size)
      clear hE hb2 hb3 hcl
      cases hh : hasB a b with
      | true =>
        rw [hh] at h3
        have hne : ((k : Int) == (n : Int) + (n1 : Int)) = false := by
          have := h3.2; simp at this ⊢; omega
        clear h3 hh
        go_wp2
        go_ret
        exact ⟨rfl, hB3⟩
      | false =>
        rw [hh] at h3
        have hne : (k : Int) = (n : Int) + (n1 : Int) := h3.2.2 rfl
        have hne' : ((k : Int) == (n : Int) + (n1 : Int)) = true := by simpa using hne
        clear h3 hh hne
        go_wp2
        go_ret
        exact ⟨rfl, hB3⟩

end Df
open Tx Df
open Go.ChangeShapes Go.WideShapes Go.ChangeAt

theorem diffBound_own : ownKnob Try.prog.godebug = none := by kernel_rfl
theorem diffBound_laidOut : laidOutB Try.prog = true := by kernel_rfl

set_option maxRecDepth 100000 in
theorem diffBound_lifted (os : Os) (started : os.Started) (H : Type) (enc : TypeId × Value → H) :
    ReturnsInHanded {} Try.checked os 9 .any (Rows.diffBoundSpec.pre6 enc Try.prog Try.f9 Rows.diffBoundRow.domain false) (Rows.diffBoundSpec.post enc Try.prog Try.f9 false true false false) := by
  refine returnsInHanded_of_change (C := Try.checked) diffBound_own started (by kernel_rfl) Try.func9
    (ChangeSpec.witness6 (enc := enc) (C := Try.checked) false ⟨#[], #[.slice none 0 0, .slice none 0 0], []⟩ 8 (by kernel_rfl) (by kernel_rfl) (by kernel_rfl) (by kernel_rfl)) ?_
  intro W base args ds gs before hval0 hW hcnd _
  have hval : ∀ (j : Nat) t v, Try.f9.params[j]? = some t → args[j]? = some v → Value.okWide Try.prog W .any base t v := hval0
  have hW' := hW
  obtain ⟨p, q, hA0, hV, rfl, hfz, hnd⟩ := hW
  have hA : DataW.TrodAll enc Try.prog W 0 (fun _ => true) true Try.f9.params.toList args.toList ds p := hA0
  rw [Try.params9] at hA hval
  obtain ⟨v0, vs0, d0, ds0, p0, q0, hargs, rfl, rfl, h0, r0⟩ := trodAll_cons hA
  obtain ⟨v1, vs1, d1, ds1, p1, q1, rfl, rfl, rfl, h1, r1⟩ := trodAll_cons r0
  obtain ⟨rfl, rfl, rfl⟩ := trodAll_nil r1
  obtain rfl : args = #[v0, v1] := by cases args; simp_all
  obtain ⟨rfl, rfl⟩ := trodVars_none hV
  obtain ⟨a0, n0, c0, rfl⟩ := okWide_slice Try.underlying22 (hval 0 22 v0 rfl rfl)
  have k0 := h0
  have lt0 : ∀ x ∈ p0, x.block < W.heap.size := by obtain ⟨m, hm⟩ := k0; exact DataW.trod_lt m _ _ _ hm
  obtain ⟨l0, s0⟩ : ∃ l, StrArg W a0 n0 c0 l := by
    obtain ⟨fuel, hf⟩ := h0
    exact strs_in hf (by simp [Value.cells])
  obtain ⟨a1, n1, c1, rfl⟩ := okWide_slice Try.underlying22 (hval 1 22 v1 rfl rfl)
  have k1 := h1
  have lt1 : ∀ x ∈ p1, x.block < W.heap.size := by obtain ⟨m, hm⟩ := k1; exact DataW.trod_lt m _ _ _ hm
  obtain ⟨l1, s1⟩ : ∃ l, StrArg W a1 n1 c1 l := by
    obtain ⟨fuel, hf⟩ := h1
    exact strs_in hf (by simp [Value.cells])
  clear hA0 hval0
  refine (diffBound_walk a0 n0 c0 l0 a1 n1 c1 l1 W s0 s1).mono fun e W' ⟨he, bel⟩ => ?_
  subst he
  exact ⟨_, rfl, _, _, _, [], _, [], hW', trodAll_mk1 (shut_bool Try.underlying4 _), (trodAll_cons_mk (Below.trod diffBound_laidOut (by kernel_rfl) (of_decide_eq_true (by kernel_rfl)) k0 bel lt0) (trodAll_cons_mk (Below.trod diffBound_laidOut (by kernel_rfl) (of_decide_eq_true (by kernel_rfl)) k1 bel lt1) trodAll_mk0)), rfl, bel.frame _, fun h => by cases h⟩

/-- The statement. -/
theorem diffBound_proved : Rows.DiffBoundSaid :=
  OpenClaim.holds_of_wide 9 Try.f9 rfl rfl rfl rfl rfl rfl rfl ⟨rfl, rfl, rfl, rfl, rfl⟩ rfl rfl rfl rfl rfl (by kernel_rfl) Try.func9 (by kernel_rfl)
    (of_decide_eq_true (by kernel_rfl)) (by unfold Func.isWrapper; first | (rw [if_pos (by decide +kernel)]; kernel_rfl) | (rw [if_neg (by decide +kernel)]; exact ⟨rfl, rfl⟩))
    (fun os started H enc _ => diffBound_lifted os started H enc)

#print axioms diffBound_proved
end Go.Proofs.Ytnhhbenddjkjaaa
