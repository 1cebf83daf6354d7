/-
  CodeJoins: the bytes of two lists, one behind the other, are those of their joint (walk, and the statement).
-/
import Derived.Test.YtfihjgnafipblaaDoorCdAwake
import Derived.Test.YtfihjgnafipblaaDoorCdFrame
import Derived.Test.YtfihjgnafipblaaDoorCdOpen
import Derived.Test.YtfihjgnafipblaaDoorFlOpen
import Derived.Test.YtfihjgnafipblaaDoorFlRef
set_option maxRecDepth 100000
namespace Go.Proofs.YtfihjgnafipblaaDoor
open Go.RowKit
set_option linter.unusedVariables false
set_option linter.unusedSimpArgs false
namespace Cd
open Tx Df Sq Hk Tr Pr Fl

theorem few_len2 {l : List Ch} {k : Nat} (h : fewP l k = true) : l.length ≤ k := by
  unfold fewP at h
  rw [Bool.and_eq_true, decide_eq_true_eq] at h
  exact h.1

theorem str_app (x y : List UInt8) : x ++ y = (ByteArray.mk x.toArray ++ ByteArray.mk y.toArray).toList := by
  have e : ByteArray.mk x.toArray ++ ByteArray.mk y.toArray = ByteArray.mk (x ++ y).toArray := by
    apply ByteArray.ext
    simp
  rw [e, ByteArray.toList_eq]

set_option maxRecDepth 100000 in
set_option maxHeartbeats 8000000 in
theorem codeJoins_walk (A : Option Addr) (n c : Nat) (a : List Ch) (B : Option Addr) (m d : Nat) (b : List Ch) (w : World) (h : PrsArg w A n c a) (h' : PrsArg w B m d b) (hv : Vars w) :
    Calls Tryd.prog 4 #[.slice A n c, .slice B m d] w fun e w' => e = .returned (.bool true) ∧ Below w.heap.size w w' := by
  obtain ⟨p, hp⟩ : ∃ p, fewP a 60 = p := ⟨_, rfl⟩
  obtain ⟨q, hq⟩ : ∃ q, fewP b 60 = q := ⟨_, rfl⟩
  obtain ⟨er, x, hx⟩ : ∃ er x, putP a = (er, x) := ⟨_, _, rfl⟩
  obtain ⟨fr, y, hy⟩ : ∃ fr y, putP b = (fr, y) := ⟨_, _, rfl⟩
  obtain ⟨gr, z, hz⟩ : ∃ gr z, putP (a ++ b) = (gr, z) := ⟨_, _, rfl⟩
  have HP := Lib.hid hp; have HQ := Lib.hid hq; have HX := Lib.hid hx; have HY := Lib.hid hy; have HZ := Lib.hid hz
  have HV := Lib.hid hv
  have HA := Lib.hid (awake w hv)
  have HL := Lib.hid h; have HM := Lib.hid h'
  clear hp hq hx hy hz hv h h'
  obtain ⟨i0, hi, hz0, hz1, hz2⟩ := info_parts info_byte
  go_enter Tryd.func4, Tryd.ntmps4
  go_wp2_with fail
  refine HA.out.mono ?_
  rintro e w1 ⟨rfl, hb⟩
  have HB := Lib.hid hb; replace HV := Lib.hid (HV.out.mv hb)
  have HL1 : Hid (PrsArg w1 A n c a) := Lib.hid ⟨HL.out.len, HL.out.cap, HL.out.le, HL.out.rd.mv hb⟩
  have HM1 : Hid (PrsArg w1 B m d b) := Lib.hid ⟨HM.out.len, HM.out.cap, HM.out.le, HM.out.rd.mv hb⟩
  clear hb HA HL HM
  go_wp2_with fail
  refine (Few A n c 60 a w1 p (by decide) HL1.out HP.out).mono ?_
  rintro e w2 ⟨rfl, hb⟩
  replace HB := Lib.hid (below_mv HB.out hb); replace HV := Lib.hid (HV.out.mv hb)
  have HL2 : Hid (PrsArg w2 A n c a) := Lib.hid ⟨HL1.out.len, HL1.out.cap, HL1.out.le, HL1.out.rd.mv hb⟩
  have HM2 : Hid (PrsArg w2 B m d b) := Lib.hid ⟨HM1.out.len, HM1.out.cap, HM1.out.le, HM1.out.rd.mv hb⟩
  clear hb HL1 HM1
  go_wp2_with fail
  refine (Few B m d 60 b w2 q (by decide) HM2.out HQ.out).mono ?_
  rintro e w3 ⟨rfl, hb⟩
  replace HB := Lib.hid (below_mv HB.out hb); replace HV := Lib.hid (HV.out.mv hb)
  have HRA : Hid (RdP w3 (· < w3.heap.size) A a) := Lib.hid (HL2.out.rd.mv hb)
  have HRB : Hid (RdP w3 (· < w3.heap.size) B b) := Lib.hid (HM2.out.rd.mv hb)
  have HNA := Lib.hid HL2.out.len; have HNB := Lib.hid HM2.out.len
  have HLA := Lib.hid HL2.out.le; have HLB := Lib.hid HM2.out.le
  clear hb HL2 HM2
  have hpq : p = false ∨ (p = true ∧ q = false) ∨ (p = true ∧ q = true) := by cases p <;> cases q <;> simp
  rcases hpq with rfl | ⟨rfl, rfl⟩ | ⟨rfl, rfl⟩
  · go_wp2
    go_ret
    exact ⟨rfl, HB.out⟩
  · go_wp2
    go_ret
    exact ⟨rfl, HB.out⟩
  have hn60 : n ≤ 60 := by rw [← HNA.out]; exact few_len2 HP.out
  have hm60 : m ≤ 60 := by rw [← HNB.out]; exact few_len2 HQ.out
  have HN60 := Lib.hid hn60; have HM60 := Lib.hid hm60
  go_wp2_with fail
  refine (Put A n c a w3 er x HNA.out HLA.out HRA.out HV.out HX.out).mono ?_
  rintro e w4 ⟨X, nx, cx, rfl, hnx, hcx, hrx, hb⟩
  replace HB := Lib.hid (below_mv HB.out hb); replace HV := Lib.hid (HV.out.mv hb); replace HRA : Hid (RdP w4 (· < w4.heap.size) A a) := Lib.hid (HRA.out.mv hb); replace HRB : Hid (RdP w4 (· < w4.heap.size) B b) := Lib.hid (HRB.out.mv hb)
  have HNX := Lib.hid hnx; have HRX := Lib.hid hrx
  clear hnx hcx hrx hb
  go_wp2_with fail
  refine (Put B m d b w4 fr y HNB.out HLB.out HRB.out HV.out HY.out).mono ?_
  rintro e w5 ⟨Y, ny, cy, rfl, hny, hcy, hry, hb⟩
  replace HB := Lib.hid (below_mv HB.out hb); replace HV := Lib.hid (HV.out.mv hb); replace HRA : Hid (RdP w5 (· < w5.heap.size) A a) := Lib.hid (HRA.out.mv hb); replace HRB : Hid (RdP w5 (· < w5.heap.size) B b) := Lib.hid (HRB.out.mv hb)
  replace HRX : Hid (RdB w5 w5.heap.size X x) := Lib.hid (Rd.up (Rd.below HRX.out hb) hb.size)
  have HNY := Lib.hid hny; have HRY := Lib.hid hry
  clear hny hcy hry hb
  go_upto_region 9 with (at_builtin; first
    | (refine wpList_ownPL rfl (.const (.slice none 0 0)) (.tmp 43) rfl w5.heap.size w5.heap.size n c (.slice none 0 0) A [] a rfl rfl (ownP_nil _ _) HRA.out (Nat.le_refl _) HNA.out (by have := HN60.out; simp; omega) (Nat.le_refl _) ?_; intro va wa ho hg; have hb2 : Below w5.heap.size w5 wa := (Below.refl _ _).grown hg (Nat.le_refl _) (fun k e => by cases e); have HO_ab := Lib.hid (show OwnP wa w5.heap.size va a from ho); have HB_ab := Lib.hid hb2; clear ho hg hb2)
    | (refine wpList_ownPL rfl (.tmp 44) (.tmp 45) rfl w5.heap.size w5.heap.size m d va B a b rfl rfl HO_ab.out (HRB.out.below HB_ab.out) (Nat.le_refl _) HNB.out (by have h1 := HN60.out; have h2 := HM60.out; have h3 := HNA.out; omega) HB_ab.out.size ?_; intro vb w6 ho hg; have hb3 : Below w5.heap.size w5 w6 := HB_ab.out.grown hg HB_ab.out.size (fun k e => ownP_ge HO_ab.out k e); have HP_ab := Lib.hid ho; have HD_ab := Lib.hid hb3; clear ho hg hb3 HO_ab HB_ab; obtain ⟨A_ab, c_ab, hv, hc, hr, _⟩ := rdP_own HP_ab.out; have HR_ab := Lib.hid hr; obtain ⟨n_ab, hn⟩ : ∃ n, List.length (a ++ b) = n := ⟨_, rfl⟩; rw [hn] at hv; subst hv; have HN_ab := Lib.hid hn; clear hc hr HP_ab hn))
  replace HB := Lib.hid (below_mv HB.out HD_ab.out); replace HV := Lib.hid (HV.out.mv HD_ab.out)
  replace HRX : Hid (RdB w6 w6.heap.size X x) := Lib.hid (Rd.up (Rd.below HRX.out HD_ab.out) HD_ab.out.size); replace HRY : Hid (RdB w6 w6.heap.size Y y) := Lib.hid (Rd.up (Rd.below HRY.out HD_ab.out) HD_ab.out.size)
  have HN120 : Hid (n_ab ≤ 120) := Lib.hid (by have h1 := HN60.out; have h2 := HM60.out; have h3 := HNA.out; have h4 := HNB.out; have h5 := HN_ab.out; rw [List.length_append] at h5; omega)
  clear HD_ab HRA HRB hn60 hm60
  go_wp2_with fail
  refine (Put A_ab n_ab c_ab (a ++ b) w6 gr z HN_ab.out (Nat.le_trans HN120.out (by decide)) HR_ab.out HV.out HZ.out).mono ?_
  rintro e w7 ⟨Z, nz, cz, rfl, hnz, hcz, hrz, hb⟩
  replace HB := Lib.hid (below_mv HB.out hb); replace HV := Lib.hid (HV.out.mv hb)
  replace HRX : Hid (RdB w7 w7.heap.size X x) := Lib.hid (Rd.up (Rd.below HRX.out hb) hb.size); replace HRY : Hid (RdB w7 w7.heap.size Y y) := Lib.hid (Rd.up (Rd.below HRY.out hb) hb.size)
  replace HR_ab : Hid (RdP w7 (· < w7.heap.size) A_ab (a ++ b)) := Lib.hid (HR_ab.out.mv hb)
  have HNZ := Lib.hid hnz; have HRZ := Lib.hid hrz
  clear hnz hcz hrz hb
  have hE : er ≠ 0 ∨ (er = 0 ∧ fr ≠ 0) ∨ (er = 0 ∧ fr = 0 ∧ gr ≠ 0) ∨ (er = 0 ∧ fr = 0 ∧ gr = 0) := by
    by_cases h1 : er = 0
    · by_cases h2 : fr = 0
      · by_cases h3 : gr = 0
        · exact .inr (.inr (.inr ⟨h1, h2, h3⟩))
        · exact .inr (.inr (.inl ⟨h1, h2, h3⟩))
      · exact .inr (.inl ⟨h1, h2⟩)
    · exact .inl h1
  rcases hE with h1 | ⟨rfl, h1⟩ | ⟨rfl, rfl, h1⟩ | ⟨rfl, rfl, rfl⟩
  · have hE : ((er : Int) == 0) = false := by rw [beq_eq_false_iff_ne]; exact h1
    clear h1
    go_wp2
    all_goals go_ret
    all_goals exact ⟨rfl, HB.out⟩
  · have hE : ((fr : Int) == 0) = false := by rw [beq_eq_false_iff_ne]; exact h1
    clear h1
    go_wp2
    all_goals go_ret
    all_goals exact ⟨rfl, HB.out⟩
  · have hE : ((gr : Int) == 0) = false := by rw [beq_eq_false_iff_ne]; exact h1
    clear h1
    go_wp2
    all_goals go_ret
    all_goals exact ⟨rfl, HB.out⟩
  have HJ := Lib.hid (getP_join HX.out HY.out HZ.out)
  have HLX : Hid (nx ≤ 200000) := Lib.hid (by rw [← HNX.out]; exact (putP_ok.1 HX.out).2.2.1)
  have HLY : Hid (ny ≤ 200000) := Lib.hid (by rw [← HNY.out]; exact (putP_ok.1 HY.out).2.2.1)
  have HONE : Hid (∀ (bs : List UInt8), ∀ u ∈ bs.map byteV, u.oneCell' = true) := Lib.hid (fun bs u hu => by obtain ⟨c, _, rfl⟩ := List.mem_map.1 hu; rfl)
  go_wp2_with (at_builtin; first
    | (refine wpList_app rfl (.const (.slice none 0 0)) (.tmp 63) 23 rfl w7.heap.size 5 i0 (.int .u8 0) 1 Tryd.underlying23 hi hz0 hz1 hz2 rfl (.slice none 0 0) 0 [] rfl (app_nil _ _ _) w7.heap.size X nx cx (x.map byteV) rfl (by rw [List.length_map]; exact HNX.out) HRX.out (HONE.out x) (by have := HLX.out; unfold maxLen; omega) (by have := HLX.out; omega) (Nat.le_refl _) ?_; intro vx wx hax hbx; have HAX := Lib.hid hax; have HBX := Lib.hid hbx; clear hax hbx)
    | (refine wpList_app rfl (.tmp 64) (.tmp 65) 23 rfl w7.heap.size 5 i0 (.int .u8 0) 1 Tryd.underlying23 hi hz0 hz1 hz2 rfl vx (0 + nx) ([] ++ x.map byteV) rfl HAX.out w7.heap.size Y ny cy (y.map byteV) rfl (by rw [List.length_map]; exact HNY.out) (Rd.below HRY.out HBX.out) (HONE.out y) (by have h1 := HLX.out; have h2 := HLY.out; unfold maxLen; omega) (by have h1 := HLX.out; have h2 := HLY.out; omega) HBX.out.size ?_; intro vy w8 hay hby; have HAY := Lib.hid hay; have HBY := Lib.hid (HBX.out.trans hby); clear hay hby; obtain ⟨Axy, cxy, hv, hc, hl, hr, _⟩ := HAY.out; subst hv; have HCXY := Lib.hid hc; have HRXY := Lib.hid hr; clear hc hr hl HAX HAY HBX))
  replace HRXY : Hid (RdB w8 w8.heap.size Axy (x ++ y)) := Lib.hid (by have h1 := HRXY.out; unfold RdB; rw [List.map_append]; simpa using h1)
  have hgx : getC (x ++ y) = some (a ++ b) := by rw [getC_eq]; exact HJ.out.2
  have key := Get Axy (nx + ny) cxy (x ++ y) w8 (by rw [List.length_append, HNX.out, HNY.out]) (by have := HCXY.out; omega) (by have h1 := HLX.out; have h2 := HLY.out; unfold maxLen; omega) HRXY.out (HV.out.mv HBY.out)
  rw [hgx] at key
  refine key.mono ?_
  rintro e w9 ⟨A9, n9, c9, rfl, hn9, hc9, hr9, hb⟩
  obtain rfl : n_ab = n9 := HN_ab.out.symm.trans hn9
  have HR9 := Lib.hid hr9
  have hb79 := below_mv HBY.out hb
  replace HB := Lib.hid (below_mv HB.out hb79)
  replace HRX : Hid (RdB w9 w9.heap.size X x) := Lib.hid (Rd.up (Rd.below HRX.out hb79) hb79.size); replace HRY : Hid (RdB w9 w9.heap.size Y y) := Lib.hid (Rd.up (Rd.below HRY.out hb79) hb79.size); replace HRZ : Hid (RdB w9 w9.heap.size Z z) := Lib.hid (Rd.up (Rd.below HRZ.out hb79) hb79.size)
  replace HR_ab : Hid (RdP w9 (· < w9.heap.size) A_ab (a ++ b)) := Lib.hid (HR_ab.out.mv hb79)
  clear key hgx hn9 hc9 hr9 hb hb79 HRXY HCXY HBY HV
  have hcx := run_conv (P := Tryd.prog) HRX.out 23 9 5 cx Tryd.underlying23 Tryd.underlying5 Tryd.underlying9
  have hcy := run_conv (P := Tryd.prog) HRY.out 23 9 5 cy Tryd.underlying23 Tryd.underlying5 Tryd.underlying9
  have hcz := run_conv (P := Tryd.prog) HRZ.out 23 9 5 cz Tryd.underlying23 Tryd.underlying5 Tryd.underlying9
  rw [HNX.out] at hcx
  rw [HNY.out] at hcy
  rw [HNZ.out, HJ.out.1] at hcz
  have hsm : ¬ 9223372036854775807 < x.length + y.length := by have h1 := HLX.out; have h2 := HLY.out; have h3 := HNX.out; have h4 := HNY.out; omega
  have hap := str_app x y
  go_wp2_with fail
  · refine (SameL A9 n_ab c9 A_ab n_ab c_ab (a ++ b) (a ++ b) w9 true HN_ab.out HN_ab.out (Nat.le_trans HN120.out (by decide)) HR9.out HR_ab.out (listP_self _)).mono ?_
    rintro e w10 ⟨rfl, hb⟩
    have HB2 := Lib.hid (below_mv HB.out hb)
    clear hb
    go_wp2
    go_ret
    exact ⟨rfl, HB2.out⟩

open Go.ChangeShapes Go.WideShapes Go.ChangeAt
open Go.ChangeMaps (open_string shut_string)

theorem codeJoins_laidOut : laidOutB Tryd.prog = true := by kernel_rfl
theorem codeJoins_reads (os : Os) {H : Type} (enc : TypeId × Value → H) : ∃ places, DataW.whole enc Tryd.prog ((laidWorld os).forCall (fun _ _ => 0) ⟨#[], #[.slice none 0 0, .slice none 0 0], []⟩).memory Tryd.f4.params.toList Rows.codeJoinsSpec.vars false [.slice none 0 0, .slice none 0 0] 8 = some ([.nil, .nil], [], places) :=
  ⟨[], by kernel_rfl⟩

set_option maxRecDepth 100000 in
theorem codeJoins_lifted (os : Os) (started : os.Started) (H : Type) (enc : TypeId × Value → H) (J : Stop.Interp) :
    ReturnsInHanded {} Tryd.checked os 4 .any ((OpenSpec.ofChange Rows.codeJoinsSpec).preRow enc Tryd.prog Tryd.f4 Rows.codeJoinsRow.domain false Rows.codeJoinsRow.laid) (((OpenSpec.ofChange Rows.codeJoinsSpec).at J).post enc Tryd.prog Tryd.f4 false true false false) := by
  obtain ⟨places, hx⟩ := codeJoins_reads os enc
  refine returnsInHanded_of_row (C := Tryd.checked) (s := OpenSpec.ofChange Rows.codeJoinsSpec) own started (by kernel_rfl) Tryd.func4
    (witness_row_atRef (enc := enc) (C := Tryd.checked) false (laidWorld os) #[.slice none 0 0, .slice none 0 0] rfl (by kernel_rfl) (by kernel_rfl) (by kernel_rfl)
      (OpenSpec.preRow_of_cond 8 hx (by kernel_rfl) (fun k hk => by cases hk) (by kernel_rfl) (laid_met os _))) ?_
  intro W base args ds gs before hval0 hW hcnd _ _ hL hsh _
  have hvars : Vars W := vars_of hL hsh
  have hval : ∀ (j : Nat) t v, Tryd.f4.params[j]? = some t → args[j]? = some v → Value.okWide Tryd.prog W .any base t v := hval0
  have hW' := hW
  obtain ⟨p, q, hA0, hV, rfl, hfz, hnd⟩ := hW
  have hA : DataW.TrodAll enc Tryd.prog W 0 (fun _ => true) true Tryd.f4.params.toList args.toList ds p := hA0
  rw [Tryd.params4] at hA hval
  obtain ⟨v0, vs0, d0, ds0, p0, q0, hargs, rfl, rfl, h0, r0⟩ := trodAll_cons hA
  obtain ⟨v1, vs1, d1, ds1, p1, q1, rfl, rfl, rfl, h1, r1⟩ := trodAll_cons r0
  obtain ⟨rfl, rfl, rfl⟩ := trodAll_nil r1
  obtain rfl : args = #[v0, v1] := by cases args; simp_all
  obtain ⟨rfl, rfl⟩ := trodVars_none hV
  obtain ⟨a0, n0, c0, rfl⟩ := okWide_slice Tryd.underlying22 (hval 0 22 v0 rfl rfl)
  have k0 := h0
  have lt0 : ∀ x ∈ p0, x.block < W.heap.size := by obtain ⟨m, hm⟩ := k0; exact DataW.trod_lt m _ _ _ hm
  obtain ⟨l0, s0⟩ : ∃ l, PrsArg W a0 n0 c0 l := by
    obtain ⟨fuel, hf⟩ := h0
    exact prs_in hf (by simp [Value.cells])
  obtain ⟨a1, n1, c1, rfl⟩ := okWide_slice Tryd.underlying22 (hval 1 22 v1 rfl rfl)
  have k1 := h1
  have lt1 : ∀ x ∈ p1, x.block < W.heap.size := by obtain ⟨m, hm⟩ := k1; exact DataW.trod_lt m _ _ _ hm
  obtain ⟨l1, s1⟩ : ∃ l, PrsArg W a1 n1 c1 l := by
    obtain ⟨fuel, hf⟩ := h1
    exact prs_in hf (by simp [Value.cells])
  clear hA0 hval0
  refine (codeJoins_walk a0 n0 c0 l0 a1 n1 c1 l1 W s0 s1 hvars).mono fun e W' ⟨he, bel⟩ => ?_
  subst he
  exact ⟨_, rfl, _, _, _, [], _, [], hW', trodAll_mk1 (shut_bool Tryd.underlying4 _), (trodAll_cons_mk (Below.trod codeJoins_laidOut (by kernel_rfl) (of_decide_eq_true (by kernel_rfl)) k0 bel lt0) (trodAll_cons_mk (Below.trod codeJoins_laidOut (by kernel_rfl) (of_decide_eq_true (by kernel_rfl)) k1 bel lt1) trodAll_mk0)), rfl, bel.frame _, fun h => by cases h⟩

theorem codeJoins_said : Rows.CodeJoinsSaid :=
  OpenClaim.holds_of_cond 4 Tryd.f4 rfl rfl rfl rfl rfl rfl rfl ⟨rfl, rfl, rfl, rfl, rfl⟩ rfl rfl rfl rfl rfl (by kernel_rfl) Tryd.func4 (by kernel_rfl)
    (of_decide_eq_true (by kernel_rfl)) (by unfold Func.isWrapper; first | (rw [if_pos (by decide +kernel)]; kernel_rfl) | (rw [if_neg (by decide +kernel)]; exact ⟨rfl, rfl⟩))
    (fun os started H enc _ J => by rw [OpenClaim.pre_eq_preRow]; exact codeJoins_lifted os started H enc J)

/-- No parameter wants a stand-in. -/
theorem codeJoins_plain (f : FuncId) (fn : Func) (hf : Tryd.pinned.checked.prog.funcNamed "quiltmaker/quiltmakerlaw12.CodeJoins" = some f) (hfn : Tryd.pinned.checked.prog.funcs[f]? = some fn) :
    true = Tryd.pinned.checked.prog.looks [] ∧ ∀ (j : Nat) t, fn.params[j]? = some t → Tryd.pinned.checked.prog.wantsStandIn t = false := by
  obtain rfl : f = 4 := Option.some.inj ((show Tryd.prog.funcNamed "quiltmaker/quiltmakerlaw12.CodeJoins" = some 4 by kernel_rfl).symm.trans hf) |>.symm
  obtain rfl : fn = Tryd.f4 := (Option.some.inj (Tryd.func4.symm.trans hfn)).symm
  refine ⟨by kernel_rfl, fun j t ht => ?_⟩
  rw [Tryd.params4] at ht
  have hm := Array.mem_of_getElem? ht
  simp only [List.mem_toArray, List.mem_cons, List.not_mem_nil, or_false] at hm
  rcases hm with rfl | rfl
  · exact (show Tryd.prog.wantsStandIn 22 = false by kernel_rfl)
  · exact (show Tryd.prog.wantsStandIn 22 = false by kernel_rfl)

/-- The statement. -/
theorem codeJoins_proved : Rows.CodeJoinsCardSaid :=
  Claim7.holds_tied_plain_at .later [] _ _ _ _ codeJoins_said (fun _ h => by cases h) (by kernel_rfl) (fun _ h => by cases h) codeJoins_row_tie rfl ⟨rfl, rfl⟩ (by kernel_rfl) rfl codeJoins_plain (by kernel_rfl)

#print axioms codeJoins_proved
end Cd
end Go.Proofs.YtfihjgnafipblaaDoor
