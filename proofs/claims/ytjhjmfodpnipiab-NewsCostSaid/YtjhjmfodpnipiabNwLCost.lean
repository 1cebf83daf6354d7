/-
  The statement NewsCost: what changes one tree into another one takes away, and puts there, as many lines as what changes the second one into the first one.
-/
import Derived.Test.YtjhjmfodpnipiabNwTight
import Derived.Test.YtjhjmfodpnipiabNwAwake
import Derived.Test.YtjhjmfodpnipiabNwLaw
import Derived.OpenShut
import Derived.ShutString
import Derived.BigQuiet
set_option maxRecDepth 100000
namespace Go.Proofs.Ytjhjmfodpnipiab
open Go.RowKit
set_option linter.unusedVariables false
set_option linter.unusedSimpArgs false
open Tr Tx Hk Pr Fl
namespace NwL

theorem costP_snoc {l : List Ch} {k : Nat} {x : Ch} (hx : l[k]? = some x) : Nw.costP (l.take (k + 1)) = Nw.costP (l.take k) + (x.h.old.length + x.h.new.length) := by
  rw [List.take_add_one, hx, Nw.costP_app]
  show Nw.costP (l.take k) + (x.h.old.length + x.h.new.length + 0) = _
  omega
theorem costP_le : ∀ {l : List Ch}, Lt l → 0 ≤ Nw.costP l ∧ Nw.costP l ≤ 600 * (l.length : Int)
  | [], _ => by simp [Nw.costP]
  | x :: l, h => by
    obtain ⟨h1, h2⟩ := costP_le (l := l) h.tail
    have h3 : x.h.old.length ≤ 300 ∧ x.h.new.length ≤ 300 := by
      have := h x (.head _)
      unfold lightP light at this
      simp only [Bool.and_eq_true, decide_eq_true_eq] at this
      exact ⟨this.1.1.1, this.1.2.1⟩
    rw [List.length_cons]
    show 0 ≤ (x.h.old.length : Int) + x.h.new.length + Nw.costP l ∧ (x.h.old.length : Int) + x.h.new.length + Nw.costP l ≤ _
    omega
theorem take_lt {l : List Ch} (h : Lt l) (k : Nat) : Lt (l.take k) := fun x hx => h x (List.mem_of_mem_take hx)

set_option maxRecDepth 100000 in
set_option maxHeartbeats 8000000 in
theorem newsCost_walk (A_t : Option Addr) (n_t c_t : Nat) (t : TR) (A_u : Option Addr) (n_u c_u : Nat) (u : TR) (w : World) (h_t : TreeArg w A_t n_t c_t t) (h_u : TreeArg w A_u n_u c_u u) :
    Calls Try.prog 3 #[.slice A_t n_t c_t, .slice A_u n_u c_u] w (LawEnd w) := by
  have HT_t := Lib.hid h_t.rd; have HN_t := Lib.hid h_t.len; have HF_t := Lib.hid h_t.fit; have HC_t := Lib.hid h_t.le; have HK_t := Lib.hid h_t.cap
  have HT_u := Lib.hid h_u.rd; have HN_u := Lib.hid h_u.len; have HF_u := Lib.hid h_u.fit; have HC_u := Lib.hid h_u.le; have HK_u := Lib.hid h_u.cap
  have HB := Lib.hid (Below.refl w.heap.size w)
  clear h_t h_u
  go_enter Try.func3, Try.ntmps3
  go_wp2_with fail
  refine (Nw.awake w).mono ?_
  rintro e w1 ⟨rfl, hb⟩
  replace HT_t := Lib.hid (HT_t.out.mv hb)
  replace HT_u := Lib.hid (HT_u.out.mv hb)
  replace HB := Lib.hid (below_mv HB.out hb)
  clear hb
  obtain ⟨b_t, hb⟩ : ∃ b, Nw.shortT t = b := ⟨_, rfl⟩
  have HBL_t := Lib.hid hb; clear hb
  go_wp2_with fail
  refine (Nw.ShortT A_t n_t c_t t _ b_t ⟨HN_t.out, HK_t.out, HC_t.out, HT_t.out, HF_t.out⟩ HBL_t.out).mono ?_
  rintro e w2 ⟨rfl, hb⟩
  replace HT_t := Lib.hid (HT_t.out.mv hb)
  replace HT_u := Lib.hid (HT_u.out.mv hb)
  replace HB := Lib.hid (below_mv HB.out hb)
  clear hb
  obtain ⟨b_u, hb⟩ : ∃ b, Nw.shortT u = b := ⟨_, rfl⟩
  have HBL_u := Lib.hid hb; clear hb
  go_wp2_with fail
  refine (Nw.ShortT A_u n_u c_u u _ b_u ⟨HN_u.out, HK_u.out, HC_u.out, HT_u.out, HF_u.out⟩ HBL_u.out).mono ?_
  rintro e w3 ⟨rfl, hb⟩
  replace HT_t := Lib.hid (HT_t.out.mv hb)
  replace HT_u := Lib.hid (HT_u.out.mv hb)
  replace HB := Lib.hid (below_mv HB.out hb)
  clear hb
  cases b_t with
  | false =>
    go_wp2
    go_ret
    exact ⟨rfl, HB.out⟩
  | true =>
  have HS_t := Lib.hid (lightT_small (Nw.shortT_few HBL_t.out).1).2; have HK40_t := Lib.hid (lightT_small (Nw.shortT_few HBL_t.out).1).1; have H60_t := Lib.hid (Nw.shortT_60 HBL_t.out); clear HF_t HC_t HK_t
  cases b_u with
  | false =>
    go_wp2
    go_ret
    exact ⟨rfl, HB.out⟩
  | true =>
  have HS_u := Lib.hid (lightT_small (Nw.shortT_few HBL_u.out).1).2; have HK40_u := Lib.hid (lightT_small (Nw.shortT_few HBL_u.out).1).1; have H60_u := Lib.hid (Nw.shortT_60 HBL_u.out); clear HF_u HC_u HK_u
  obtain ⟨m_t, hm⟩ : ∃ b, mayT t = b := ⟨_, rfl⟩
  have HM_t := Lib.hid hm; clear hm
  go_wp2_with fail
  refine (MayC (b := m_t) HN_t.out HS_t.out HT_t.out HM_t.out).mono ?_
  rintro e w4 ⟨rfl, hb⟩
  replace HT_t := Lib.hid (HT_t.out.mv hb)
  replace HT_u := Lib.hid (HT_u.out.mv hb)
  replace HB := Lib.hid (below_mv HB.out hb)
  clear hb
  cases m_t with
  | false =>
    go_wp2
    go_ret
    exact ⟨rfl, HB.out⟩
  | true =>
  obtain ⟨m_u, hm⟩ : ∃ b, mayT u = b := ⟨_, rfl⟩
  have HM_u := Lib.hid hm; clear hm
  go_wp2_with fail
  refine (MayC (b := m_u) HN_u.out HS_u.out HT_u.out HM_u.out).mono ?_
  rintro e w5 ⟨rfl, hb⟩
  replace HT_t := Lib.hid (HT_t.out.mv hb)
  replace HT_u := Lib.hid (HT_u.out.mv hb)
  replace HB := Lib.hid (below_mv HB.out hb)
  clear hb
  cases m_u with
  | false =>
    go_wp2
    go_ret
    exact ⟨rfl, HB.out⟩
  | true =>
  go_wp2_with fail
  refine (Nw.OfC HM_t.out HM_u.out (Nw.Of A_t A_u n_t c_t n_u c_u t u w5 HN_t.out HN_u.out HS_t.out HS_u.out HK40_t.out HK40_u.out H60_t.out H60_u.out HT_t.out HT_u.out)).mono ?_
  rintro e w6 ⟨A_l, n_l, c_l, rfl, hc, hn, hr, hb⟩
  replace HT_t := Lib.hid (HT_t.out.mv hb)
  replace HT_u := Lib.hid (HT_u.out.mv hb)
  replace HB := Lib.hid (below_mv HB.out hb)
  clear hb
  have HR_l := Lib.hid (show RdP _ _ A_l (Nw.newsL t u) from hr); have HN_l := Lib.hid (show List.length (Nw.newsL t u) = n_l from hn); have HQ_l : Hid (n_l ≤ 17000) := Lib.hid (by have h1 := Nw.news_len H60_t.out H60_u.out HK40_t.out HK40_u.out; have h2 := HN_l.out; omega)
  have HL_l := Lib.hid (Nw.news_lt HM_t.out HM_u.out H60_t.out H60_u.out)
  clear hr hn hc
  go_wp2_with fail
  refine (Nw.OfC HM_u.out HM_t.out (Nw.Of A_u A_t n_u c_u n_t c_t u t w6 HN_u.out HN_t.out HS_u.out HS_t.out HK40_u.out HK40_t.out H60_u.out H60_t.out HT_u.out HT_t.out)).mono ?_
  rintro e w7 ⟨A_m, n_m, c_m, rfl, hc, hn, hr, hb⟩
  replace HT_t := Lib.hid (HT_t.out.mv hb)
  replace HT_u := Lib.hid (HT_u.out.mv hb)
  replace HR_l := Lib.hid (HR_l.out.mv hb)
  replace HB := Lib.hid (below_mv HB.out hb)
  clear hb
  have HR_m := Lib.hid (show RdP _ _ A_m (Nw.newsL u t) from hr); have HN_m := Lib.hid (show List.length (Nw.newsL u t) = n_m from hn); have HQ_m : Hid (n_m ≤ 17000) := Lib.hid (by have h1 := Nw.news_len H60_u.out H60_t.out HK40_u.out HK40_t.out; have h2 := HN_m.out; omega)
  have HL_m := Lib.hid (Nw.news_lt HM_u.out HM_t.out H60_u.out H60_t.out)
  clear hr hn hc
  have HEQ := Lib.hid (Nw.news_cost t u)
  obtain ⟨l, hl⟩ : ∃ l, Nw.newsL t u = l := ⟨_, rfl⟩
  obtain ⟨m, hm⟩ : ∃ m, Nw.newsL u t = m := ⟨_, rfl⟩
  rw [hl] at HEQ HR_l HN_l HL_l
  rw [hm] at HEQ HR_m HN_m HL_m
  clear hl hm
  have hq_l := HQ_l.out
  go_wp2_with fail
  go_loopw [12, 14] (fun v i wr => ∃ k : Nat, k ≤ n_l ∧ i = .int .i64 (k : Int) ∧ v = .int .i64 (Nw.costP (l.take k)) ∧ Below w7.heap.size w7 wr) (fun _ i _ => n_l - (intOf i).toNat)
  case atStart => exact ⟨0, Nat.zero_le _, rfl, rfl, Below.refl _ _⟩
  case round =>
    obtain ⟨k, hk, rfl, rfl, hbw⟩ := hrel
    have HBW_l := Lib.hid hbw; clear hbw
    by_cases hlt : k < n_l
    · have hkl : k < l.length := by rw [HN_l.out]; exact hlt
      obtain ⟨a, x, B, n, c, D, q, r, rfl, _, hx, c0, c1, c2, c3, c4, c5, c6⟩ := (HR_l.out.mv HBW_l.out).elem hkl
      have hs := costP_snoc hx
      obtain ⟨b1, b2⟩ := costP_le (take_lt HL_l.out k)
      obtain ⟨b3, b4⟩ := costP_le (take_lt HL_l.out (k + 1))
      rw [List.length_take] at b2 b4
      have e1 := c6.l; have e2 := c6.l'
      rw [e1, e2] at hs
      have y4 : wr.cell? ⟨(a.add (k * 6)).block, (a.add (k * 6)).off + 3 + 1, none⟩ = some (.slice B n c) := c4
      have y5 : wr.cell? ⟨(a.add (k * 6)).block, (a.add (k * 6)).off + 3 + 2, none⟩ = some (.slice D q r) := c5
      obtain ⟨X, hX⟩ : ∃ X, Nw.costP (l.take k) = X := ⟨_, rfl⟩
      rw [hX] at hs b1 b2 ⊢
      have HSS := Lib.hid hs
      rw [hs] at b3 b4
      have s1 : IntKind.i64.wrap (X + (n : Int)) = X + n := IntWalk.i64_in _ (by omega)
      have s2 : IntKind.i64.wrap (X + (n : Int) + (q : Int)) = X + n + q := IntWalk.i64_in _ (by omega)
      have t1 : (k : Int) < (n_l : Int) := by omega
      have t2 : (0 : Int) ≤ (k : Int) := by omega
      clear hX hs e1 e2 b1 b2 b3 b4 c0 c1 c2 c3 c6 hx
      go_wp2
      go_quiet (fail)
      clear s1 s2
      go_wp2
      go_roundw
      case rel => exact ⟨k + 1, by omega, by go_num, by rw [HSS.out, Int.add_assoc], below_drewN HBW_l.out _⟩
      case measure => simp [intOf]; omega
    · obtain rfl : n_l = k := by omega
      have hE : Nw.costP (l.take n_l) = Nw.costP l := by rw [List.take_of_length_le (by rw [HN_l.out]; exact Nat.le_refl _)]
      rw [hE]
      clear hE
      have hq_m := HQ_m.out
      go_wp2_with fail
      go_loopw [13, 15] (fun v i wr => ∃ k : Nat, k ≤ n_m ∧ i = .int .i64 (k : Int) ∧ v = .int .i64 (Nw.costP (m.take k)) ∧ Below w7.heap.size w7 wr) (fun _ i _ => n_m - (intOf i).toNat)
      case atStart => exact ⟨0, Nat.zero_le _, rfl, rfl, HBW_l.out⟩
      case round =>
        obtain ⟨k, hk, rfl, rfl, hbw⟩ := hrel
        have HBW_m := Lib.hid hbw; clear hbw
        by_cases hlt : k < n_m
        · have hkl : k < m.length := by rw [HN_m.out]; exact hlt
          obtain ⟨a, x, B, n, c, D, q, r, rfl, _, hx, c0, c1, c2, c3, c4, c5, c6⟩ := (HR_m.out.mv HBW_m.out).elem hkl
          have hs := costP_snoc hx
          obtain ⟨b1, b2⟩ := costP_le (take_lt HL_m.out k)
          obtain ⟨b3, b4⟩ := costP_le (take_lt HL_m.out (k + 1))
          rw [List.length_take] at b2 b4
          have e1 := c6.l; have e2 := c6.l'
          rw [e1, e2] at hs
          have y4 : wr.cell? ⟨(a.add (k * 6)).block, (a.add (k * 6)).off + 3 + 1, none⟩ = some (.slice B n c) := c4
          have y5 : wr.cell? ⟨(a.add (k * 6)).block, (a.add (k * 6)).off + 3 + 2, none⟩ = some (.slice D q r) := c5
          obtain ⟨X, hX⟩ : ∃ X, Nw.costP (m.take k) = X := ⟨_, rfl⟩
          rw [hX] at hs b1 b2 ⊢
          have HSS := Lib.hid hs
          rw [hs] at b3 b4
          have s1 : IntKind.i64.wrap (X + (n : Int)) = X + n := IntWalk.i64_in _ (by omega)
          have s2 : IntKind.i64.wrap (X + (n : Int) + (q : Int)) = X + n + q := IntWalk.i64_in _ (by omega)
          have t1 : (k : Int) < (n_m : Int) := by omega
          have t2 : (0 : Int) ≤ (k : Int) := by omega
          clear hX hs e1 e2 b1 b2 b3 b4 c0 c1 c2 c3 c6 hx
          go_wp2
          go_quiet (fail)
          clear s1 s2
          go_wp2
          go_roundw
          case rel => exact ⟨k + 1, by omega, by go_num, by rw [HSS.out, Int.add_assoc], below_drewN HBW_m.out _⟩
          case measure => simp [intOf]; omega
        · obtain rfl : n_m = k := by omega
          have hE : Nw.costP (m.take n_m) = Nw.costP m := by rw [List.take_of_length_le (by rw [HN_m.out]; exact Nat.le_refl _)]
          rw [hE]
          clear hE
          have e1 : (Nw.costP l == Nw.costP m) = true := by rw [HEQ.out]; exact beq_self_eq_true _
          go_wp2
          go_ret
          exact ⟨rfl, below_mv HB.out HBW_m.out⟩

end NwL
open NwL
open Tx
open Go.ChangeShapes Go.WideShapes Go.ChangeAt

theorem newsCost_own : ownKnob Try.prog.godebug = none := by kernel_rfl
theorem newsCost_laidOut : laidOutB Try.prog = true := by kernel_rfl

set_option maxRecDepth 100000 in
theorem newsCost_lifted (os : Os) (started : os.Started) (H : Type) (enc : TypeId × Value → H) :
    ReturnsInHanded {} Try.checked os 3 .any (Rows.newsCostSpec.pre6 enc Try.prog Try.f3 Rows.newsCostRow.domain false) (Rows.newsCostSpec.post enc Try.prog Try.f3 false true false false) := by
  refine returnsInHanded_of_change (C := Try.checked) newsCost_own started (by kernel_rfl) Try.func3
    (ChangeSpec.witness6 (enc := enc) (C := Try.checked) false ⟨#[], #[.slice none 0 0, .slice none 0 0], []⟩ 8 (by kernel_rfl) (by kernel_rfl) (by kernel_rfl) (by kernel_rfl)) ?_
  intro W base args ds gs before hval0 hW hcnd _
  have hval : ∀ (j : Nat) t v, Try.f3.params[j]? = some t → args[j]? = some v → Value.okWide Try.prog W .any base t v := hval0
  have hW' := hW
  obtain ⟨p, q, hA0, hV, rfl, hfz, hnd⟩ := hW
  have hA : DataW.TrodAll enc Try.prog W 0 (fun _ => true) true Try.f3.params.toList args.toList ds p := hA0
  rw [Try.params3] at hA hval
  obtain ⟨v0, vs0, d0, ds0, p0, q0, hargs, rfl, rfl, h0, r0⟩ := trodAll_cons hA
  obtain ⟨v1, vs1, d1, ds1, p1, q1, rfl, rfl, rfl, h1, r1⟩ := trodAll_cons r0
  obtain ⟨rfl, rfl, rfl⟩ := trodAll_nil r1
  obtain rfl : args = #[v0, v1] := by cases args; simp_all
  obtain ⟨rfl, rfl⟩ := trodVars_none hV
  obtain ⟨a0, n0, c0, rfl⟩ := okWide_slice Try.underlying23 (hval 0 23 v0 rfl rfl)
  have k0 := h0
  have lt0 : ∀ x ∈ p0, x.block < W.heap.size := by obtain ⟨m, hm⟩ := k0; exact DataW.trod_lt m _ _ _ hm
  obtain ⟨l0, s0⟩ : ∃ l, TreeArg W a0 n0 c0 l := by
    obtain ⟨fuel, hf⟩ := h0
    exact tree_in hf (by simp [Value.cells])
  obtain ⟨a1, n1, c1, rfl⟩ := okWide_slice Try.underlying23 (hval 1 23 v1 rfl rfl)
  have k1 := h1
  have lt1 : ∀ x ∈ p1, x.block < W.heap.size := by obtain ⟨m, hm⟩ := k1; exact DataW.trod_lt m _ _ _ hm
  obtain ⟨l1, s1⟩ : ∃ l, TreeArg W a1 n1 c1 l := by
    obtain ⟨fuel, hf⟩ := h1
    exact tree_in hf (by simp [Value.cells])
  clear hA0 hval0
  refine (newsCost_walk a0 n0 c0 l0 a1 n1 c1 l1 W s0 s1).mono fun e W' ⟨he, bel⟩ => ?_
  subst he
  exact ⟨_, rfl, _, _, _, [], _, [], hW', trodAll_mk1 (shut_bool Try.underlying4 _), (trodAll_cons_mk (Below.trod newsCost_laidOut (by kernel_rfl) (of_decide_eq_true (by kernel_rfl)) k0 bel lt0) (trodAll_cons_mk (Below.trod newsCost_laidOut (by kernel_rfl) (of_decide_eq_true (by kernel_rfl)) k1 bel lt1) trodAll_mk0)), rfl, bel.frame _, fun h => by cases h⟩

/-- The statement. -/
theorem newsCost_proved : Rows.NewsCostSaid :=
  OpenClaim.holds_of_wide 3 Try.f3 rfl rfl rfl rfl rfl rfl rfl ⟨rfl, rfl, rfl, rfl, rfl⟩ rfl rfl rfl rfl rfl (by kernel_rfl) Try.func3 (by kernel_rfl)
    (of_decide_eq_true (by kernel_rfl)) (by unfold Func.isWrapper; first | (rw [if_pos (by decide +kernel)]; kernel_rfl) | (rw [if_neg (by decide +kernel)]; exact ⟨rfl, rfl⟩))
    (fun os started H enc _ => newsCost_lifted os started H enc)

#print axioms newsCost_proved
end Go.Proofs.Ytjhjmfodpnipiab
