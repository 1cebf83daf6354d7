/-
  The statement SeqCommon: for every two lists of lines the law returns true, and both read as they did. No conditions.
-/
import Derived.Test.YtbiibpcejeedlaaSqLaw
namespace Go.Proofs.Ytbiibpcejeedlaa
open Go.RowKit
set_option linter.unusedVariables false
namespace Sq
open Tx

theorem seq_take {w : World} {B : Nat} {A : Option Addr} {ls : List (List UInt8)} (h : RdS w B A ls) (k : Nat) : RdS w B A (ls.take k) := by
  unfold RdS; rw [List.map_take]; exact Rd.take h k
theorem seq_drop {w : World} {B : Nat} {A : Option Addr} {ls : List (List UInt8)} (h : RdS w B A ls) {k cap : Nat} (hc : ls.length ≤ cap) : RdS w B (if cap = k then A else A.map (·.add k)) (ls.drop k) := by
  unfold RdS; rw [List.map_drop]; exact Rd.drop h (by rw [List.length_map]; exact hc)

set_option maxRecDepth 100000 in
set_option maxHeartbeats 4000000 in
theorem seqCommon_walk (A : Option Addr) (n c : Nat) (a : List (List UInt8)) (A1 : Option Addr) (n1 c1 : Nat) (b : List (List UInt8)) (w : World) (h : StrArg w A n c a) (h1 : StrArg w A1 n1 c1 b) :
    Calls Try.prog 6 #[.slice A n c, .slice A1 n1 c1] w (LawEnd w) := by
  have HM := Lib.hid h.le
  have HM1 := Lib.hid h1.le
  go_enter Try.func6, Try.ntmps6
  go_wp2_with fail
  refine (awake w).mono ?_
  rintro e w1 ⟨rfl, hB1⟩
  go_wp2_with fail
  refine (Light _ _ _ _ 300 a _ h.len h.le (h.rd.below hB1) (by decide)).mono ?_
  rintro e w' ⟨rfl, rfl⟩
  go_wp2_with fail
  refine (Light _ _ _ _ 300 b _ h1.len h1.le (h1.rd.below hB1) (by decide)).mono ?_
  rintro e w' ⟨rfl, rfl⟩
  cases hl : light a 300 with
  | false =>
    clear hl
    go_wp2
    go_ret
    exact ⟨rfl, hB1⟩
  | true =>
  have hn := light_len hl h.len
  clear hl
  cases hl : light b 300 with
  | false =>
    clear hl
    go_wp2
    go_ret
    exact ⟨rfl, hB1⟩
  | true =>
  have hn1 := light_len hl h1.len
  clear hl
  have hle := back_le a b
  rw [h.len, h1.len] at hle
  obtain ⟨hle1, hle2⟩ := hle
  have HFC := Lib.hid (front_comm b a)
  have HKC := Lib.hid (back_comm b a)
  have HFR := Lib.hid (has_front a b)
  have HBR := Lib.hid (has_back a b)
  have HNE := Lib.hid (front_ne a b)
  generalize hf : front a b = f at *
  generalize hk : back a b = k at *
  have HF := Lib.hid hf; clear hf
  have HK := Lib.hid hk; clear hk
  rw [h.len, h1.len] at HBR
  obtain ⟨j, hj⟩ : ∃ j : Nat, (n : Int) - k = j := ⟨n - k, by omega⟩
  obtain ⟨j1, hj1⟩ : ∃ j : Nat, (n1 : Int) - k = j := ⟨n1 - k, by omega⟩
  have ej : n - k = j := by omega
  have ej1 : n1 - k = j1 := by omega
  rw [ej, ej1] at HBR
  have hj1n : j1 ≤ n1 := by omega
  have hfn : f ≤ n := by omega
  have hfn1 : f ≤ n1 := by omega
  clear ej ej1
  have HLT : Hid ((b.take f).length = f) := Lib.hid (by rw [List.length_take, h1.len]; omega)
  have HLD : Hid ((b.drop j1).length = n1 - j1) := Lib.hid (by rw [List.length_drop, h1.len])
  have hDr := fun (W : World) (hB : Below w.heap.size w W) => seq_drop (h1.rd.below hB) (k := j1) (cap := c1) (by rw [h1.len]; exact h1.cap)
  have HDR := Lib.hid hDr; clear hDr
  have hmf : f ≤ maxLen := by unfold maxLen; omega
  have hmj : n1 - j1 ≤ maxLen := by unfold maxLen; omega
  have HJ := Lib.hid hj; clear hj
  have HJ1 := Lib.hid hj1; clear hj1
  go_wp2_with fail
  refine (Front A A1 c c1 n n1 w.heap.size a b w1 h.len h1.len HM.out HM1.out (h.rd.below hB1) (h1.rd.below hB1)).mono ?_
  rw [HF.out]
  rintro e w' ⟨rfl, d1, rfl⟩
  go_wp2_with fail
  refine (Back A A1 c c1 n n1 w.heap.size a b _ h.len h1.len h.cap h1.cap HM.out HM1.out (Rd.drewN (h.rd.below hB1) _) (Rd.drewN (h1.rd.below hB1) _)).mono ?_
  rw [HK.out]
  rintro e w' ⟨rfl, d2, rfl⟩
  have hB2 : Below w.heap.size w ((w1.drewN d1).drewN d2) := below_drewN (below_drewN hB1 d1) d2
  generalize (w1.drewN d1).drewN d2 = w2 at *
  obtain hmn | hmn := Int.lt_or_le (n1 : Int) (n : Int)
  all_goals
    go_wp2_with fail
    refine (Front A1 A c1 c n1 n w.heap.size b a w2 h1.len h.len HM1.out HM.out (h1.rd.below hB2) (h.rd.below hB2)).mono ?_
    rw [HFC.out]
    rintro e w' ⟨rfl, d3, rfl⟩
    go_wp2_with fail
    refine (Back A1 A c1 c n1 n w.heap.size b a _ h1.len h.len h1.cap h.cap HM1.out HM.out (Rd.drewN (h1.rd.below hB2) _) (Rd.drewN (h.rd.below hB2) _)).mono ?_
    rw [HKC.out]
    rintro e w' ⟨rfl, d4, rfl⟩
    have hB3 : Below w.heap.size w ((w2.drewN d3).drewN d4) := below_drewN (below_drewN hB2 d3) d4
    generalize (w2.drewN d3).drewN d4 = w3 at *
    go_wp2_with fail
  all_goals
    have T1 : ∀ q cc, Calls Try.prog 14 #[.slice A n c, .int .i64 0, .slice A1 f cc] (w3.drewN q) (fun e w' => e = .returned (.bool true) ∧ ∃ m, w' = (w3.drewN q).drewN m) := fun q cc => by
      have := At A A1 c cc n f w.heap.size 0 a (b.take f) (w3.drewN q) h.len HLT.out h.cap HM.out hmf (Rd.drewN (h.rd.below hB3) q) (Rd.drewN (seq_take (h1.rd.below hB3) f) q)
      rw [HFR.out] at this
      exact this
    have T2 : ∀ X, RdS w3 w.heap.size X (b.drop j1) → ∀ q cc, Calls Try.prog 14 #[.slice A n c, .int .i64 j, .slice X (n1 - j1) cc] (w3.drewN q) (fun e w' => e = .returned (.bool true) ∧ ∃ m, w' = (w3.drewN q).drewN m) := fun X hX q cc => by
      have := At A X c cc n (n1 - j1) w.heap.size j a (b.drop j1) (w3.drewN q) h.len HLD.out h.cap HM.out hmj (Rd.drewN (h.rd.below hB3) q) (Rd.drewN hX q)
      rw [HBR.out] at this
      exact this
    have hX := HDR.out w3 hB3
    have HT1 := Lib.hid T1; clear T1
    have HT2 := Lib.hid T2; clear T2
    have hc1 := h1.cap
    have hjk : (j1 : Int) ≤ (n1 : Int) := by omega
    have hjl : j1 ≤ c1 := by omega
    have hjm : (j1 : Int) ≤ (c1 : Int) := by omega
    obtain hck | hck := Classical.em (c1 = j1)
  all_goals first | (rw [if_pos hck] at hX; subst hck; have hz : n1 - c1 = 0 := (by omega); rw [hz] at HT2; clear hz) | rw [if_neg hck] at hX
  all_goals
    have HT3 := Lib.hid (HT2.out _ hX)
    have hfc : f ≤ c1 := by omega
    have hfc' : (f : Int) ≤ (c1 : Int) := by omega
    have hjj : (n1 : Int) ≤ (c1 : Int) := by omega
    have hj := HJ.out
    have hj1 := HJ1.out
    by_cases he : f = n ∨ f = n1
    · have hq1 : (n : Int) ≤ n1 → ((f : Int) == (n : Int)) = true := fun hh => by rw [beq_iff_eq]; omega
      have hq2 : (n1 : Int) < n → ((f : Int) == (n1 : Int)) = true := fun hh => by rw [beq_iff_eq]; omega
      first | have hq := hq1 hmn | have hq := hq2 hmn
      clear hq1 hq2 he
      go_quiet (first | (with_reducible exact Calls.quiet_of (HT1.out _ _)) | (with_reducible exact Calls.quiet_of (HT3.out _ _)))
      go_wp2
      go_ret
      exact ⟨rfl, below_drewN hB3 _⟩
    · have hfa : f < a.length := by rw [h.len]; omega
      have hfb : f < b.length := by rw [h1.len]; omega
      have hne := HNE.out hfa hfb
      obtain ⟨p, rfl, hcell⟩ := RdS.at' (h.rd.below hB3) hfa
      obtain ⟨p1, rfl, hcell1⟩ := RdS.at' (h1.rd.below hB3) hfb
      have hqq : (!a[f] == b[f]) = true := by simpa using hne
      have hq1 : ((f : Int) == (n : Int)) = false := by rw [beq_eq_false_iff_ne]; omega
      have hq2 : ((f : Int) == (n1 : Int)) = false := by rw [beq_eq_false_iff_ne]; omega
      have hlt1 : f < n := by omega
      have hlt2 : f < n1 := by omega
      clear hne he
      try simp only [Option.map_some] at HT3
      go_quiet (first | (with_reducible exact Calls.quiet_of (HT1.out _ _)) | (with_reducible exact Calls.quiet_of (HT3.out _ _)))
      go_wp2
      go_ret
      exact ⟨rfl, below_drewN hB3 _⟩

end Sq
open Tx Sq
open Go.ChangeShapes Go.WideShapes Go.ChangeAt

theorem seqCommon_own : ownKnob Try.prog.godebug = none := by kernel_rfl
theorem seqCommon_laidOut : laidOutB Try.prog = true := by kernel_rfl

set_option maxRecDepth 100000 in
theorem seqCommon_lifted (os : Os) (started : os.Started) (H : Type) (enc : TypeId × Value → H) :
    ReturnsInHanded {} Try.checked os 6 .any (Rows.seqCommonSpec.pre6 enc Try.prog Try.f6 Rows.seqCommonRow.domain false) (Rows.seqCommonSpec.post enc Try.prog Try.f6 false true false false) := by
  refine returnsInHanded_of_change (C := Try.checked) seqCommon_own started (by kernel_rfl) Try.func6
    (ChangeSpec.witness6 (enc := enc) (C := Try.checked) false ⟨#[], #[.slice none 0 0, .slice none 0 0], []⟩ 8 (by kernel_rfl) (by kernel_rfl) (by kernel_rfl) (by kernel_rfl)) ?_
  intro W base args ds gs before hval0 hW hcnd _
  have hval : ∀ (j : Nat) t v, Try.f6.params[j]? = some t → args[j]? = some v → Value.okWide Try.prog W .any base t v := hval0
  have hW' := hW
  obtain ⟨p, q, hA0, hV, rfl, hfz, hnd⟩ := hW
  have hA : DataW.TrodAll enc Try.prog W 0 (fun _ => true) true Try.f6.params.toList args.toList ds p := hA0
  rw [Try.params6] at hA hval
  obtain ⟨v0, vs0, d0, ds0, p0, q0, hargs, rfl, rfl, h0, r0⟩ := trodAll_cons hA
  obtain ⟨v1, vs1, d1, ds1, p1, q1, rfl, rfl, rfl, h1, r1⟩ := trodAll_cons r0
  obtain ⟨rfl, rfl, rfl⟩ := trodAll_nil r1
  obtain rfl : args = #[v0, v1] := by cases args; simp_all
  obtain ⟨rfl, rfl⟩ := trodVars_none hV
  obtain ⟨a0, n0, c0, rfl⟩ := okWide_slice Try.underlying22 (hval 0 22 v0 rfl rfl)
  have k0 := h0
  have lt0 : ∀ x ∈ p0, x.block < W.heap.size := by obtain ⟨m, hm⟩ := k0; exact DataW.trod_lt m _ _ _ hm
  obtain ⟨l0, s0⟩ : ∃ l, StrArg W a0 n0 c0 l := by
    obtain ⟨fuel, hf⟩ := h0
    exact strs_in hf (by simp [Value.cells])
  obtain ⟨a1, n1, c1, rfl⟩ := okWide_slice Try.underlying22 (hval 1 22 v1 rfl rfl)
  have k1 := h1
  have lt1 : ∀ x ∈ p1, x.block < W.heap.size := by obtain ⟨m, hm⟩ := k1; exact DataW.trod_lt m _ _ _ hm
  obtain ⟨l1, s1⟩ : ∃ l, StrArg W a1 n1 c1 l := by
    obtain ⟨fuel, hf⟩ := h1
    exact strs_in hf (by simp [Value.cells])
  clear hA0 hval0
  refine (seqCommon_walk a0 n0 c0 l0 a1 n1 c1 l1 W s0 s1).mono fun e W' ⟨he, bel⟩ => ?_
  subst he
  exact ⟨_, rfl, _, _, _, [], _, [], hW', trodAll_mk1 (shut_bool Try.underlying4 _), (trodAll_cons_mk (Below.trod seqCommon_laidOut (by kernel_rfl) (of_decide_eq_true (by kernel_rfl)) k0 bel lt0) (trodAll_cons_mk (Below.trod seqCommon_laidOut (by kernel_rfl) (of_decide_eq_true (by kernel_rfl)) k1 bel lt1) trodAll_mk0)), rfl, bel.frame _, fun h => by cases h⟩

/-- The statement. -/
theorem seqCommon_proved : Rows.SeqCommonSaid :=
  OpenClaim.holds_of_wide 6 Try.f6 rfl rfl rfl rfl rfl rfl rfl ⟨rfl, rfl, rfl, rfl, rfl⟩ rfl rfl rfl rfl rfl (by kernel_rfl) Try.func6 (by kernel_rfl)
    (of_decide_eq_true (by kernel_rfl)) (by unfold Func.isWrapper; first | (rw [if_pos (by decide +kernel)]; kernel_rfl) | (rw [if_neg (by decide +kernel)]; exact ⟨rfl, rfl⟩))
    (fun os started H enc _ => seqCommon_lifted os started H enc)

#print axioms seqCommon_proved
end Go.Proofs.Ytbiibpcejeedlaa
