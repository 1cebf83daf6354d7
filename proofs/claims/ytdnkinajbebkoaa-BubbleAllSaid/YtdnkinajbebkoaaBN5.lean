/-
  The statement BubbleNone: of ids that are not there nothing is put behind, or picked.
  The statement BubbleHangs: each one that was put behind without its id being told hangs on one ahead of it there.
  The statement BubbleNeeds: each one that was picked without its id being told is needed by one behind it there.
  The statement BubbleStays: to part what stays by the same ids leaves all of it; to part all by all that was put behind tells the same.
  The statement BubbleAll: no patch is lost, or comes twice; those of the ids are put behind, and picked; without ids all stay, and none is picked.
-/
import Derived.OpenShut
import Derived.ShutString
import Derived.BigQuiet
import Derived.Test.YtdnkinajbebkoaaBN4
set_option maxRecDepth 100000
namespace Go.Proofs.Ytdnkinajbebkoaa
open Go.RowKit
set_option linter.unusedVariables false
set_option linter.unusedSimpArgs false
open Tr Tx Hk Pr Fl Pn Tg Bb
namespace BbL
attribute [local go_sem] eq_id

set_option maxRecDepth 100000 in
set_option maxHeartbeats 8000000 in
theorem bubbleStays_walk (A_l : Option Addr) (n_l c_l : Nat) (l : List Nm) (A_ids : Option Addr) (n_ids c_ids : Nat) (ids : List Id_) (w : World) (h_l : NmsArg w A_l n_l c_l l) (h_ids : IdsArg w A_ids n_ids c_ids ids) :
    Calls Try.prog 7 #[.slice A_l n_l c_l, .slice A_ids n_ids c_ids] w (LawEnd w) := by
  have HR_l := Lib.hid h_l.rd; have HN_l := Lib.hid h_l.len; have HC_l := Lib.hid h_l.cap; have HM_l := Lib.hid h_l.le
  clear h_l
  have HR_ids := Lib.hid h_ids.rd; have HN_ids := Lib.hid h_ids.len; have HC_ids := Lib.hid h_ids.cap; have HM_ids := Lib.hid h_ids.le
  clear h_ids
  have HB := Lib.hid (Below.refl w.heap.size w)
  go_enter Try.func7, Try.ntmps7
  go_wp2_with fail
  refine (Bb.awake w).mono ?_
  rintro e w_1 ⟨rfl, hb⟩
  replace HR_l := Lib.hid (RdN.mv HR_l.out hb)
  replace HR_ids := Lib.hid (RdI.mv HR_ids.out hb)
  replace HB := Lib.hid (below_mv HB.out hb)
  clear hb
  obtain ⟨bl_l, hbl⟩ : ∃ bb, fewN l 8 = bb := ⟨_, rfl⟩
  have HBL_l := Lib.hid hbl; clear hbl
  go_wp2_with fail
  refine (FewN A_l n_l c_l 8 l w_1 bl_l (by decide) ⟨HN_l.out, HC_l.out, HM_l.out, HR_l.out⟩ HBL_l.out).mono ?_
  rintro e w_2 ⟨rfl, hb⟩
  replace HR_l := Lib.hid (RdN.mv HR_l.out hb)
  replace HR_ids := Lib.hid (RdI.mv HR_ids.out hb)
  replace HB := Lib.hid (below_mv HB.out hb)
  clear hb
  have hle_ids := HM_ids.out
  unfold maxLen at hle_ids
  by_cases hbig : (30 : Int) < (n_ids : Int)
  case pos =>
    cases bl_l <;> (go_wp2; go_ret; exact ⟨rfl, HB.out⟩)
  have HQ_ids : Hid (n_ids ≤ 30) := Lib.hid (by omega)
  clear hle_ids
  cases bl_l with
  | false =>
    go_wp2
    go_ret
    exact ⟨rfl, HB.out⟩
  | true =>
  have HQ_l : Hid (n_l ≤ 8) := Lib.hid (by have h1 := fewN_len HBL_l.out; rw [HN_l.out] at h1; exact h1)
  have HL_l := Lib.hid (few_all HBL_l.out)
  go_upto_region 6 with fail
  go_loopw [7] (fun i wr => ∃ k : Nat, k ≤ n_l ∧ i = .int .i64 (k : Int) ∧ (idsN (l.take k)).Nodup ∧ Below w_2.heap.size w_2 wr) (fun i _ => n_l - (intOf i).toNat)
  case atStart => exact ⟨0, Nat.zero_le _, rfl, List.nodup_nil, Below.refl _ _⟩
  case round =>
    obtain ⟨k, hk, rfl, hnd, hb⟩ := hrel
    have HNDK := Lib.hid hnd; have HBR := Lib.hid hb; clear hnd
    replace HR_l := Lib.hid (RdN.mv HR_l.out hb)
    replace HR_ids := Lib.hid (RdI.mv HR_ids.out hb)
    replace HB := Lib.hid (below_mv HB.out hb)
    clear hb
    have hb8 := HQ_l.out
    by_cases hlt : k < n_l
    case pos =>
      have hki : (k : Int) < (n_l : Int) := by omega
      obtain ⟨a, q, D, i, j, E, mp, d, ha, hS, hq, x0, x1, x2, x3, x4, _⟩ := RdN.elem HR_l.out (k := k) (by rw [HN_l.out]; exact hlt)
      subst ha
      have HQE := Lib.hid hq
      have HC : Hid (∀ X, Below wr.heap.size wr X → X.cell? (a.add (k * 5)) = some (.int .i64 q.id.1) ∧ X.cell? ⟨(a.add (k * 5)).block, (a.add (k * 5)).off + 1, none⟩ = some (.int .i64 q.id.2)) := Lib.hid (fun X hb => ⟨cellB x0 hb (by rw [add_block]; exact hS), cellB x1 hb (by rw [add_block]; exact hS)⟩)
      have HTL : Hid ((l.take k).length = k) := Lib.hid (by rw [List.length_take, HN_l.out]; omega)
      have HKB := Lib.hid (show Below wr.heap.size wr wr.drew from below_drewN (Below.refl _ _) 1)
      have PF := Lib.hid (FindN q.id (some a) k c_l (l.take k) wr.drew HTL.out (by omega) ((RdN.mv HR_l.out HKB.out).take k))
      obtain ⟨f, hf⟩ : ∃ f, findN (l.take k) q.id = f := ⟨_, rfl⟩
      have HF := Lib.hid hf
      rw [hf] at PF
      have k0 : (0 : Int) ≤ (k : Int) := by omega
      have k1 : (k : Int) ≤ (c_l : Int) := by have := HC_l.out; omega
      have k2 : (k : Int) ≤ (n_l : Int) := by omega
      have HKD := Lib.hid (HC.out wr.drew HKB.out)
      clear hq hf x2 x3 x4 hS
      go_upto_region 8 with fail
      go_region_held3 (fun X => X.cell? (a.add (k * 5)) = some (.int .i64 q.id.1) ∧ X.cell? ⟨(a.add (k * 5)).block, (a.add (k * 5)).off + 1, none⟩ = some (.int .i64 q.id.2))
        (first | (with_reducible exact HKD.out) | (with_reducible exact hS1))
        (first | (go_at_call 24; (with_reducible refine (PF.out).mono ?_); rintro e u1 ⟨rfl, hb⟩; have hbu := below_mv HKB.out hb; have hS1 := HC.out u1 hbu; have HU := Lib.hid hbu; clear hb hbu))
      clear HC PF HKD HKB hS1 x0 x1
      have hb := HU.out
      clear HU
      replace HR_l := Lib.hid (RdN.mv HR_l.out hb)
      replace HR_ids := Lib.hid (RdI.mv HR_ids.out hb)
      replace HBR := Lib.hid (below_mv HBR.out hb)
      replace HB := Lib.hid (below_mv HB.out hb)
      clear hb
      by_cases h0 : 0 ≤ f
      case pos =>
        have e1 : decide (0 ≤ f) = true := decide_eq_true h0
        have e2 : decide (f < 0) = false := decide_eq_false (by omega)
        go_wp2
        go_ret
        exact ⟨rfl, HB.out⟩
      have e1 : decide (0 ≤ f) = false := decide_eq_false h0
      have e2 : decide (f < 0) = true := decide_eq_true (by omega)
      have HNX : Hid ((idsN (l.take (k + 1))).Nodup) := Lib.hid (by rw [ids_take HQE.out]; exact nodup_snoc HNDK.out (fun h => h0 (by rw [← HF.out]; exact find_iff.2 h)))
      go_wp2
      refine ⟨⟨k + 1, by omega, by go_num, HNX.out, HBR.out⟩, by simp [intOf]; omega⟩
    have hki : ¬ (k : Int) < (n_l : Int) := by omega
    have HNO : Hid ((idsN l).Nodup) := Lib.hid (by have h := HNDK.out; rw [List.take_of_length_le (by rw [HN_l.out]; omega)] at h; exact h)
    clear HNDK HBR
    obtain ⟨⟨sx, gx⟩, hpp⟩ : ∃ z, partN l ids = z := ⟨_, rfl⟩
    have HP1 := Lib.hid hpp; have HLS1 := Lib.hid (partN_lits hpp HL_l.out); have HLN1 := Lib.hid (partN_len hpp HN_l.out)
    clear hpp
    have HPS : Hid (partN sx ids = (sx, [])) := Lib.hid (by
      have h := part_stays l ids
      rw [HP1.out] at h
      exact h)
    have HPG : Hid (partN l (idsN gx) = (sx, gx)) := Lib.hid (by
      have h := part_again (ids := ids) (l := l) (s := []) (g := []) HNO.out
      rw [show partG ids l [] [] = (sx, gx) from HP1.out] at h
      exact h)
    clear HNO
    go_wp2_with fail
    refine (PartC A_l n_l c_l l A_ids n_ids c_ids ids wr HN_l.out (by have := HQ_l.out; omega) HN_ids.out (by have := HQ_ids.out; omega) HL_l.out HR_l.out HR_ids.out sx gx HP1.out).mono ?_
    rintro e w_3 ⟨A_a, n_a, c_a, A_b, n_b, c_b, rfl, hn1, hc1, hr1, hn2, hc2, hr2, hb⟩
    have HN_a := Lib.hid hn1; have HC_a := Lib.hid hc1; have HR_a := Lib.hid hr1; have HN_b := Lib.hid hn2; have HC_b := Lib.hid hc2; have HR_b := Lib.hid hr2
    clear hn1 hc1 hr1 hn2 hc2 hr2
    replace HR_l := Lib.hid (RdN.mv HR_l.out hb)
    replace HR_ids := Lib.hid (RdI.mv HR_ids.out hb)
    replace HB := Lib.hid (below_mv HB.out hb)
    clear hb
    have HQ_a : Hid (n_a ≤ 8 ∧ n_b ≤ 8) := Lib.hid (by have h1 := HLN1.out; have h2 := HN_b.out; have h4 := HN_a.out; have h3 := HQ_l.out; omega)
    go_wp2_with fail
    refine (PartC A_a n_a c_a sx A_ids n_ids c_ids ids w_3 HN_a.out (by have := HQ_a.out; omega) HN_ids.out (by have := HQ_ids.out; omega) HLS1.out.1 HR_a.out HR_ids.out sx [] HPS.out).mono ?_
    rintro e w_4 ⟨A_x, n_x, c_x, A_y, n_y, c_y, rfl, hn1, hc1, hr1, hn2, hc2, hr2, hb⟩
    have HN_x := Lib.hid hn1; have HR_x := Lib.hid hr1; have HN_y := Lib.hid hn2; have HR_y := Lib.hid hr2
    clear hn1 hc1 hr1 hn2 hc2 hr2
    replace HR_l := Lib.hid (RdN.mv HR_l.out hb)
    replace HR_ids := Lib.hid (RdI.mv HR_ids.out hb)
    replace HR_a := Lib.hid (RdN.mv HR_a.out hb)
    replace HR_b := Lib.hid (RdN.mv HR_b.out hb)
    replace HB := Lib.hid (below_mv HB.out hb)
    clear hb
    obtain rfl : 0 = n_y := HN_y.out
    go_wp2_with fail
    refine (IdsC A_b n_b c_b gx w_4 HN_b.out (by have := HQ_a.out; omega) HR_b.out).mono ?_
    rintro e w_5 ⟨A_u, n_u, c_u, rfl, hn1, hc1, hr1, hb⟩
    have HN_u := Lib.hid hn1; have HR_u := Lib.hid hr1
    clear hn1 hc1 hr1
    replace HR_l := Lib.hid (RdN.mv HR_l.out hb)
    replace HR_ids := Lib.hid (RdI.mv HR_ids.out hb)
    replace HR_a := Lib.hid (RdN.mv HR_a.out hb)
    replace HR_b := Lib.hid (RdN.mv HR_b.out hb)
    replace HR_x := Lib.hid (RdN.mv HR_x.out hb)
    replace HR_y := Lib.hid (RdN.mv HR_y.out hb)
    replace HB := Lib.hid (below_mv HB.out hb)
    clear hb
    go_wp2_with fail
    refine (PartC A_l n_l c_l l A_u n_u c_u (idsN gx) w_5 HN_l.out (by have := HQ_l.out; omega) HN_u.out (by have h1 := HN_u.out; unfold idsN at h1; rw [List.length_map] at h1; have h2 := HN_b.out; have h3 := HQ_a.out; omega) HL_l.out HR_l.out HR_u.out sx gx HPG.out).mono ?_
    rintro e w_6 ⟨A_c, n_c, c_c, A_d, n_d, c_d, rfl, hn1, hc1, hr1, hn2, hc2, hr2, hb⟩
    have HN_c := Lib.hid hn1; have HR_c := Lib.hid hr1; have HN_d := Lib.hid hn2; have HR_d := Lib.hid hr2
    clear hn1 hc1 hr1 hn2 hc2 hr2
    replace HR_l := Lib.hid (RdN.mv HR_l.out hb)
    replace HR_ids := Lib.hid (RdI.mv HR_ids.out hb)
    replace HR_a := Lib.hid (RdN.mv HR_a.out hb)
    replace HR_b := Lib.hid (RdN.mv HR_b.out hb)
    replace HR_x := Lib.hid (RdN.mv HR_x.out hb)
    replace HR_y := Lib.hid (RdN.mv HR_y.out hb)
    replace HR_u := Lib.hid (RdI.mv HR_u.out hb)
    replace HB := Lib.hid (below_mv HB.out hb)
    clear hb
    obtain rfl : n_a = n_x := by rw [← HN_x.out, ← HN_a.out]
    go_wp2_with fail
    refine (refListN A_x n_a c_x A_a c_a sx w_6 HN_x.out (by have h1 := HQ_a.out; omega) HLS1.out.1 HR_x.out HR_a.out).mono ?_
    rintro e w_7 ⟨rfl, hb⟩
    replace HR_l := Lib.hid (RdN.mv HR_l.out hb)
    replace HR_ids := Lib.hid (RdI.mv HR_ids.out hb)
    replace HR_a := Lib.hid (RdN.mv HR_a.out hb)
    replace HR_b := Lib.hid (RdN.mv HR_b.out hb)
    replace HR_x := Lib.hid (RdN.mv HR_x.out hb)
    replace HR_y := Lib.hid (RdN.mv HR_y.out hb)
    replace HR_u := Lib.hid (RdI.mv HR_u.out hb)
    replace HR_c := Lib.hid (RdN.mv HR_c.out hb)
    replace HR_d := Lib.hid (RdN.mv HR_d.out hb)
    replace HB := Lib.hid (below_mv HB.out hb)
    clear hb
    obtain rfl : n_a = n_c := by rw [← HN_a.out, ← HN_c.out]
    go_wp2_with fail
    refine (refListN A_c n_a c_c A_a c_a sx w_7 HN_c.out (by have h1 := HQ_a.out; omega) HLS1.out.1 HR_c.out HR_a.out).mono ?_
    rintro e w_8 ⟨rfl, hb⟩
    replace HR_l := Lib.hid (RdN.mv HR_l.out hb)
    replace HR_ids := Lib.hid (RdI.mv HR_ids.out hb)
    replace HR_a := Lib.hid (RdN.mv HR_a.out hb)
    replace HR_b := Lib.hid (RdN.mv HR_b.out hb)
    replace HR_x := Lib.hid (RdN.mv HR_x.out hb)
    replace HR_y := Lib.hid (RdN.mv HR_y.out hb)
    replace HR_u := Lib.hid (RdI.mv HR_u.out hb)
    replace HR_c := Lib.hid (RdN.mv HR_c.out hb)
    replace HR_d := Lib.hid (RdN.mv HR_d.out hb)
    replace HB := Lib.hid (below_mv HB.out hb)
    clear hb
    obtain rfl : n_b = n_d := by rw [← HN_b.out, ← HN_d.out]
    go_wp2_with fail
    refine (refListN A_d n_b c_d A_b c_b gx w_8 HN_d.out (by have h1 := HQ_a.out; omega) HLS1.out.2 HR_d.out HR_b.out).mono ?_
    rintro e w_9 ⟨rfl, hb⟩
    replace HR_l := Lib.hid (RdN.mv HR_l.out hb)
    replace HR_ids := Lib.hid (RdI.mv HR_ids.out hb)
    replace HR_a := Lib.hid (RdN.mv HR_a.out hb)
    replace HR_b := Lib.hid (RdN.mv HR_b.out hb)
    replace HR_x := Lib.hid (RdN.mv HR_x.out hb)
    replace HR_y := Lib.hid (RdN.mv HR_y.out hb)
    replace HR_u := Lib.hid (RdI.mv HR_u.out hb)
    replace HR_c := Lib.hid (RdN.mv HR_c.out hb)
    replace HR_d := Lib.hid (RdN.mv HR_d.out hb)
    replace HB := Lib.hid (below_mv HB.out hb)
    clear hb
    go_wp2
    go_ret
    exact ⟨rfl, HB.out⟩

end BbL
open BbL
open Tx
open Go.ChangeShapes Go.WideShapes Go.ChangeAt

theorem bubbleStays_own : ownKnob Try.prog.godebug = none := by kernel_rfl
theorem bubbleStays_laidOut : laidOutB Try.prog = true := by kernel_rfl

set_option maxRecDepth 100000 in
theorem bubbleStays_lifted (os : Os) (started : os.Started) (H : Type) (enc : TypeId × Value → H) :
    ReturnsInHanded {} Try.checked os 7 .any (Rows.bubbleStaysSpec.pre6 enc Try.prog Try.f7 Rows.bubbleStaysRow.domain false) (Rows.bubbleStaysSpec.post enc Try.prog Try.f7 false true false false) := by
  refine returnsInHanded_of_change (C := Try.checked) bubbleStays_own started (by kernel_rfl) Try.func7
    (ChangeSpec.witness6 (enc := enc) (C := Try.checked) false ⟨#[], #[.slice none 0 0, .slice none 0 0], []⟩ 8 (by kernel_rfl) (by kernel_rfl) (by kernel_rfl) (by kernel_rfl)) ?_
  intro W base args ds gs before hval0 hW hcnd _
  have hval : ∀ (j : Nat) t v, Try.f7.params[j]? = some t → args[j]? = some v → Value.okWide Try.prog W .any base t v := hval0
  have hW' := hW
  obtain ⟨p, q, hA0, hV, rfl, hfz, hnd⟩ := hW
  have hA : DataW.TrodAll enc Try.prog W 0 (fun _ => true) true Try.f7.params.toList args.toList ds p := hA0
  rw [Try.params7] at hA hval
  obtain ⟨v0, vs0, d0, ds0, p0, q0, hargs, rfl, rfl, h0, r0⟩ := trodAll_cons hA
  obtain ⟨v1, vs1, d1, ds1, p1, q1, rfl, rfl, rfl, h1, r1⟩ := trodAll_cons r0
  obtain ⟨rfl, rfl, rfl⟩ := trodAll_nil r1
  obtain rfl : args = #[v0, v1] := by cases args; simp_all
  obtain ⟨rfl, rfl⟩ := trodVars_none hV
  obtain ⟨a0, n0, c0, rfl⟩ := okWide_slice Try.underlying22 (hval 0 22 v0 rfl rfl)
  have k0 := h0
  have lt0 : ∀ x ∈ p0, x.block < W.heap.size := by obtain ⟨m, hm⟩ := k0; exact DataW.trod_lt m _ _ _ hm
  obtain ⟨l0, s0⟩ : ∃ l, NmsArg W a0 n0 c0 l := by
    obtain ⟨fuel, hf⟩ := h0
    exact nms_in hf (by simp [Value.cells])
  obtain ⟨a1, n1, c1, rfl⟩ := okWide_slice Try.underlying23 (hval 1 23 v1 rfl rfl)
  have k1 := h1
  have lt1 : ∀ x ∈ p1, x.block < W.heap.size := by obtain ⟨m, hm⟩ := k1; exact DataW.trod_lt m _ _ _ hm
  obtain ⟨l1, s1⟩ : ∃ l, IdsArg W a1 n1 c1 l := by
    obtain ⟨fuel, hf⟩ := h1
    exact ids_in hf (by simp [Value.cells])
  clear hA0 hval0
  refine (bubbleStays_walk a0 n0 c0 l0 a1 n1 c1 l1 W s0 s1).mono fun e W' ⟨he, bel⟩ => ?_
  subst he
  exact ⟨_, rfl, _, _, _, [], _, [], hW', trodAll_mk1 (shut_bool Try.underlying4 _), (trodAll_cons_mk (Below.trod bubbleStays_laidOut (by kernel_rfl) (of_decide_eq_true (by kernel_rfl)) k0 bel lt0) (trodAll_cons_mk (Below.trod bubbleStays_laidOut (by kernel_rfl) (of_decide_eq_true (by kernel_rfl)) k1 bel lt1) trodAll_mk0)), rfl, bel.frame _, fun h => by cases h⟩

/-- The statement. -/
theorem bubbleStays_proved : Rows.BubbleStaysSaid :=
  OpenClaim.holds_of_wide 7 Try.f7 rfl rfl rfl rfl rfl rfl rfl ⟨rfl, rfl, rfl, rfl, rfl⟩ rfl rfl rfl rfl rfl (by kernel_rfl) Try.func7 (by kernel_rfl)
    (of_decide_eq_true (by kernel_rfl)) (by unfold Func.isWrapper; first | (rw [if_pos (by decide +kernel)]; kernel_rfl) | (rw [if_neg (by decide +kernel)]; exact ⟨rfl, rfl⟩))
    (fun os started H enc _ => bubbleStays_lifted os started H enc)

#print axioms bubbleStays_proved
end Go.Proofs.Ytdnkinajbebkoaa

set_option maxRecDepth 100000
namespace Go.Proofs.Ytdnkinajbebkoaa
open Go.RowKit
set_option linter.unusedVariables false
namespace Bb
open Tx Df Sq Hk Tr Pr Fl Pn Tg

section
variable {l s g : List Nm} {ids : List Id_} {x : Id_}
theorem mem_ids {k : Nat} {p : Nm} (h : l[k]? = some p) : p.id ∈ idsN l := List.mem_map.2 ⟨p, List.mem_of_getElem? h, rfl⟩
/-- In just one of two. -/
theorem just_one {a b c : List Id_} (hc : c.Nodup) (hp : (a ++ b).Perm c) (hx : x ∈ c) : decide (x ∈ a) = !decide (x ∈ b) := by
  have hn := hp.nodup_iff.2 hc
  have hm := hp.mem_iff.2 hx
  rw [List.nodup_append] at hn
  by_cases h : x ∈ b
  · have : x ∉ a := fun h' => hn.2.2 x h' x h rfl
    simp [h, this]
  · have : x ∈ a := (List.mem_append.1 hm).resolve_right h
    simp [h, this]
theorem part_one (hn : (idsN l).Nodup) (h : partN l ids = (s, g)) (hx : x ∈ idsN l) : decide (x ∈ idsN s) = !decide (x ∈ idsN g) := by
  have hp := part_perm (ids := ids) (l := l) (s := []) (g := [])
  rw [show partG ids l [] [] = (s, g) from h] at hp
  exact just_one hn hp hx
theorem pick_one (hn : (idsN l).Nodup) (h : pickN ids l = (s, g)) (hx : x ∈ idsN l) : decide (x ∈ idsN s) = !decide (x ∈ idsN g) := by
  have hp := pick_perm (ids := ids) (l := l)
  rw [h] at hp
  exact just_one hn hp hx
theorem part_got (h : partN l ids = (s, g)) (hx : x ∈ idsN l) (hi : x ∈ ids) : decide (x ∈ idsN g) = true := by
  have hp := part_in (ids := ids) (l := l) (s := []) (g := []) hx hi
  rw [show partG ids l [] [] = (s, g) from h] at hp
  exact decide_eq_true hp
theorem pick_got (h : pickN ids l = (s, g)) (hx : x ∈ idsN l) (hi : x ∈ ids) : decide (x ∈ idsN s) = true := by
  have hp := pick_in (ids := ids) (l := l) hx hi
  rw [h] at hp
  exact decide_eq_true hp
end

end Bb
end Go.Proofs.Ytdnkinajbebkoaa

set_option maxRecDepth 100000
namespace Go.Proofs.Ytdnkinajbebkoaa
open Go.RowKit
set_option linter.unusedVariables false
set_option linter.unusedSimpArgs false
open Tr Tx Hk Pr Fl Pn Tg Bb
namespace BbL
attribute [local go_sem] eq_id

set_option maxRecDepth 100000 in
set_option maxHeartbeats 8000000 in
theorem bubbleAll_walk (A_l : Option Addr) (n_l c_l : Nat) (l : List Nm) (A_ids : Option Addr) (n_ids c_ids : Nat) (ids : List Id_) (w : World) (h_l : NmsArg w A_l n_l c_l l) (h_ids : IdsArg w A_ids n_ids c_ids ids) :
    Calls Try.prog 5 #[.slice A_l n_l c_l, .slice A_ids n_ids c_ids] w (LawEnd w) := by
  have HR_l := Lib.hid h_l.rd; have HN_l := Lib.hid h_l.len; have HC_l := Lib.hid h_l.cap; have HM_l := Lib.hid h_l.le
  clear h_l
  have HR_ids := Lib.hid h_ids.rd; have HN_ids := Lib.hid h_ids.len; have HC_ids := Lib.hid h_ids.cap; have HM_ids := Lib.hid h_ids.le
  clear h_ids
  have HB := Lib.hid (Below.refl w.heap.size w)
  go_enter Try.func5, Try.ntmps5
  go_wp2_with fail
  refine (Bb.awake w).mono ?_
  rintro e w_1 ⟨rfl, hb⟩
  replace HR_l := Lib.hid (RdN.mv HR_l.out hb)
  replace HR_ids := Lib.hid (RdI.mv HR_ids.out hb)
  replace HB := Lib.hid (below_mv HB.out hb)
  clear hb
  obtain ⟨bl_l, hbl⟩ : ∃ bb, fewN l 8 = bb := ⟨_, rfl⟩
  have HBL_l := Lib.hid hbl; clear hbl
  go_wp2_with fail
  refine (FewN A_l n_l c_l 8 l w_1 bl_l (by decide) ⟨HN_l.out, HC_l.out, HM_l.out, HR_l.out⟩ HBL_l.out).mono ?_
  rintro e w_2 ⟨rfl, hb⟩
  replace HR_l := Lib.hid (RdN.mv HR_l.out hb)
  replace HR_ids := Lib.hid (RdI.mv HR_ids.out hb)
  replace HB := Lib.hid (below_mv HB.out hb)
  clear hb
  have hle_ids := HM_ids.out
  unfold maxLen at hle_ids
  by_cases hbig : (30 : Int) < (n_ids : Int)
  case pos =>
    cases bl_l <;> (go_wp2; go_ret; exact ⟨rfl, HB.out⟩)
  have HQ_ids : Hid (n_ids ≤ 30) := Lib.hid (by omega)
  clear hle_ids
  cases bl_l with
  | false =>
    go_wp2
    go_ret
    exact ⟨rfl, HB.out⟩
  | true =>
  have HQ_l : Hid (n_l ≤ 8) := Lib.hid (by have h1 := fewN_len HBL_l.out; rw [HN_l.out] at h1; exact h1)
  have HL_l := Lib.hid (few_all HBL_l.out)
  go_upto_region 6 with fail
  go_loopw [7] (fun i wr => ∃ k : Nat, k ≤ n_l ∧ i = .int .i64 (k : Int) ∧ (idsN (l.take k)).Nodup ∧ Below w_2.heap.size w_2 wr) (fun i _ => n_l - (intOf i).toNat)
  case atStart => exact ⟨0, Nat.zero_le _, rfl, List.nodup_nil, Below.refl _ _⟩
  case round =>
    obtain ⟨k, hk, rfl, hnd, hb⟩ := hrel
    have HNDK := Lib.hid hnd; have HBR := Lib.hid hb; clear hnd
    replace HR_l := Lib.hid (RdN.mv HR_l.out hb)
    replace HR_ids := Lib.hid (RdI.mv HR_ids.out hb)
    replace HB := Lib.hid (below_mv HB.out hb)
    clear hb
    have hb8 := HQ_l.out
    by_cases hlt : k < n_l
    case pos =>
      have hki : (k : Int) < (n_l : Int) := by omega
      obtain ⟨a, q, D, i, j, E, mp, d, ha, hS, hq, x0, x1, x2, x3, x4, _⟩ := RdN.elem HR_l.out (k := k) (by rw [HN_l.out]; exact hlt)
      subst ha
      have HQE := Lib.hid hq
      have HC : Hid (∀ X, Below wr.heap.size wr X → X.cell? (a.add (k * 5)) = some (.int .i64 q.id.1) ∧ X.cell? ⟨(a.add (k * 5)).block, (a.add (k * 5)).off + 1, none⟩ = some (.int .i64 q.id.2)) := Lib.hid (fun X hb => ⟨cellB x0 hb (by rw [add_block]; exact hS), cellB x1 hb (by rw [add_block]; exact hS)⟩)
      have HTL : Hid ((l.take k).length = k) := Lib.hid (by rw [List.length_take, HN_l.out]; omega)
      have HKB := Lib.hid (show Below wr.heap.size wr wr.drew from below_drewN (Below.refl _ _) 1)
      have PF := Lib.hid (FindN q.id (some a) k c_l (l.take k) wr.drew HTL.out (by omega) ((RdN.mv HR_l.out HKB.out).take k))
      obtain ⟨f, hf⟩ : ∃ f, findN (l.take k) q.id = f := ⟨_, rfl⟩
      have HF := Lib.hid hf
      rw [hf] at PF
      have k0 : (0 : Int) ≤ (k : Int) := by omega
      have k1 : (k : Int) ≤ (c_l : Int) := by have := HC_l.out; omega
      have k2 : (k : Int) ≤ (n_l : Int) := by omega
      have HKD := Lib.hid (HC.out wr.drew HKB.out)
      clear hq hf x2 x3 x4 hS
      go_upto_region 8 with fail
      go_region_held3 (fun X => X.cell? (a.add (k * 5)) = some (.int .i64 q.id.1) ∧ X.cell? ⟨(a.add (k * 5)).block, (a.add (k * 5)).off + 1, none⟩ = some (.int .i64 q.id.2))
        (first | (with_reducible exact HKD.out) | (with_reducible exact hS1))
        (first | (go_at_call 24; (with_reducible refine (PF.out).mono ?_); rintro e u1 ⟨rfl, hb⟩; have hbu := below_mv HKB.out hb; have hS1 := HC.out u1 hbu; have HU := Lib.hid hbu; clear hb hbu))
      clear HC PF HKD HKB hS1 x0 x1
      have hb := HU.out
      clear HU
      replace HR_l := Lib.hid (RdN.mv HR_l.out hb)
      replace HR_ids := Lib.hid (RdI.mv HR_ids.out hb)
      replace HBR := Lib.hid (below_mv HBR.out hb)
      replace HB := Lib.hid (below_mv HB.out hb)
      clear hb
      by_cases h0 : 0 ≤ f
      case pos =>
        have e1 : decide (0 ≤ f) = true := decide_eq_true h0
        have e2 : decide (f < 0) = false := decide_eq_false (by omega)
        go_wp2
        go_ret
        exact ⟨rfl, HB.out⟩
      have e1 : decide (0 ≤ f) = false := decide_eq_false h0
      have e2 : decide (f < 0) = true := decide_eq_true (by omega)
      have HNX : Hid ((idsN (l.take (k + 1))).Nodup) := Lib.hid (by rw [ids_take HQE.out]; exact nodup_snoc HNDK.out (fun h => h0 (by rw [← HF.out]; exact find_iff.2 h)))
      go_wp2
      refine ⟨⟨k + 1, by omega, by go_num, HNX.out, HBR.out⟩, by simp [intOf]; omega⟩
    have hki : ¬ (k : Int) < (n_l : Int) := by omega
    have HNO : Hid ((idsN l).Nodup) := Lib.hid (by have h := HNDK.out; rw [List.take_of_length_le (by rw [HN_l.out]; omega)] at h; exact h)
    clear HNDK HBR
    obtain ⟨⟨sx, gx⟩, hpp⟩ : ∃ z, partN l ids = z := ⟨_, rfl⟩
    have HP1 := Lib.hid hpp; have HLS1 := Lib.hid (partN_lits hpp HL_l.out); have HLN1 := Lib.hid (partN_len hpp HN_l.out)
    clear hpp
    obtain ⟨⟨px, rx⟩, hpp⟩ : ∃ z, pickN ids l = z := ⟨_, rfl⟩
    have HP2 := Lib.hid hpp; have HLS2 := Lib.hid (pickN_lits hpp HL_l.out); have HLN2 := Lib.hid (pickN_len hpp HN_l.out)
    clear hpp
    go_wp2_with fail
    refine (PartC A_l n_l c_l l A_ids n_ids c_ids ids wr HN_l.out (by have := HQ_l.out; omega) HN_ids.out (by have := HQ_ids.out; omega) HL_l.out HR_l.out HR_ids.out sx gx HP1.out).mono ?_
    rintro e w_3 ⟨A_s, n_s, c_s, A_g, n_g, c_g, rfl, hn1, hc1, hr1, hn2, hc2, hr2, hb⟩
    have HN_s := Lib.hid hn1; have HC_s := Lib.hid hc1; have HR_s := Lib.hid hr1; have HN_g := Lib.hid hn2; have HC_g := Lib.hid hc2; have HR_g := Lib.hid hr2
    clear hn1 hc1 hr1 hn2 hc2 hr2
    replace HR_l := Lib.hid (RdN.mv HR_l.out hb)
    replace HR_ids := Lib.hid (RdI.mv HR_ids.out hb)
    replace HB := Lib.hid (below_mv HB.out hb)
    clear hb
    go_wp2_with fail
    refine (PickC A_l n_l c_l l A_ids n_ids c_ids ids w_3 HN_l.out (by have := HQ_l.out; omega) HN_ids.out (by have := HQ_ids.out; omega) HL_l.out HR_l.out HR_ids.out px rx HP2.out).mono ?_
    rintro e w_4 ⟨A_p, n_p, c_p, A_r, n_r, c_r, rfl, hn1, hc1, hr1, hn2, hc2, hr2, hb⟩
    have HN_p := Lib.hid hn1; have HC_p := Lib.hid hc1; have HR_p := Lib.hid hr1; have HN_r := Lib.hid hn2; have HC_r := Lib.hid hc2; have HR_r := Lib.hid hr2
    clear hn1 hc1 hr1 hn2 hc2 hr2
    replace HR_l := Lib.hid (RdN.mv HR_l.out hb)
    replace HR_ids := Lib.hid (RdI.mv HR_ids.out hb)
    replace HR_s := Lib.hid (RdN.mv HR_s.out hb)
    replace HR_g := Lib.hid (RdN.mv HR_g.out hb)
    replace HB := Lib.hid (below_mv HB.out hb)
    clear hb
    have HQ_s : Hid (n_s + n_g = n_l) := Lib.hid (by have h1 := HLN1.out; have h2 := HN_s.out; have h4 := HN_g.out; omega)
    have HQ_p : Hid (n_p + n_r = n_l) := Lib.hid (by have h1 := HLN2.out; have h2 := HN_p.out; have h4 := HN_r.out; omega)
    have hq1 : n_s ≤ 8 := by have := HQ_s.out; omega
    have hq2 : n_g ≤ 8 := by have := HQ_s.out; omega
    have hq3 : n_p ≤ 8 := by have := HQ_p.out; omega
    have hq4 : n_r ≤ 8 := by have := HQ_p.out; omega
    have hs1 : (n_s : Int) + (n_g : Int) = (n_l : Int) := by have := HQ_s.out; omega
    have hs2 : (n_p : Int) + (n_r : Int) = (n_l : Int) := by have := HQ_p.out; omega
    go_upto_region 15 with fail
    clear hq1 hq2 hq3 hq4 hs1 hs2
    go_loopw [12] (fun i wr => ∃ ix : Nat, ix ≤ n_l ∧ i = .int .i64 (ix : Int) ∧ Below w_4.heap.size w_4 wr) (fun i _ => n_l - (intOf i).toNat)
    case atStart => exact ⟨0, Nat.zero_le _, rfl, Below.refl _ _⟩
    case round =>
      obtain ⟨ix, hix, rfl, hb⟩ := hrel
      have HBR_ix := Lib.hid hb
      replace HR_l := Lib.hid (RdN.mv HR_l.out hb)
      replace HR_ids := Lib.hid (RdI.mv HR_ids.out hb)
      replace HR_s := Lib.hid (RdN.mv HR_s.out hb)
      replace HR_g := Lib.hid (RdN.mv HR_g.out hb)
      replace HR_p := Lib.hid (RdN.mv HR_p.out hb)
      replace HR_r := Lib.hid (RdN.mv HR_r.out hb)
      replace HB := Lib.hid (below_mv HB.out hb)
      clear hb
      by_cases hlt : ix < n_l
      case pos =>
        have hki : (ix : Int) < (n_l : Int) := by omega
        obtain ⟨p, hpe⟩ : ∃ p, l[ix]? = some p := ⟨_, List.getElem?_eq_getElem (by rw [HN_l.out]; exact hlt)⟩
        have HPE := Lib.hid hpe
        clear hpe
        go_upto_region 19 with fail
        go_loopw [13, 14] (fun v j wi => ∃ m : Nat, m ≤ n_ids ∧ v = .bool (isIn (ids.take m) p.id) ∧ j = .int .i64 (m : Int) ∧ Below wr.heap.size wr wi) (fun _ j _ => n_ids - (intOf j).toNat)
        case atStart => exact ⟨0, Nat.zero_le _, rfl, rfl, Below.refl _ _⟩
        case round =>
          obtain ⟨m, hm, rfl, rfl, hb⟩ := hrel
          have HBI_m := Lib.hid hb
          replace HR_l := Lib.hid (RdN.mv HR_l.out hb)
          replace HR_ids := Lib.hid (RdI.mv HR_ids.out hb)
          replace HR_s := Lib.hid (RdN.mv HR_s.out hb)
          replace HR_g := Lib.hid (RdN.mv HR_g.out hb)
          replace HR_p := Lib.hid (RdN.mv HR_p.out hb)
          replace HR_r := Lib.hid (RdN.mv HR_r.out hb)
          replace HBR_ix := Lib.hid (below_mv HBR_ix.out hb)
          replace HB := Lib.hid (below_mv HB.out hb)
          clear hb
          obtain ⟨bi, hbi⟩ : ∃ b, isIn (ids.take m) p.id = b := ⟨_, rfl⟩
          rw [hbi]
          have HBI := Lib.hid hbi
          clear hbi
          by_cases hlm : m < n_ids
          case pos =>
            have hmi : (m : Int) < (n_ids : Int) := by omega
            obtain ⟨a, y, ha, _, hy, c0, c1⟩ := RdI.elem HR_ids.out (k := m) (by rw [HN_ids.out]; exact hlm)
            subst ha
            obtain ⟨a', p', D', dn', dc', E', mp', kp', ha', _, hp', x0, x1, x2, x3, x4, _⟩ := RdN.elem HR_l.out (k := ix) (by rw [HN_l.out]; exact hlt)
            subst ha'
            obtain rfl : p = p' := Option.some.inj (HPE.out.symm.trans hp')
            have HNX := Lib.hid (in_next (x := p.id) hy)
            have HBJ := HBI_m
            clear hy hp' x2 x3 x4
            cases bi with
            | true =>
              go_wp2
              go_quiet (fail)
              go_wp2
              refine ⟨⟨m + 1, by omega, by rw [HNX.out, HBI.out]; rfl, by go_num, below_drewN HBJ.out _⟩, by simp [intOf]; omega⟩
            | false =>
              obtain ⟨i1, i2⟩ := y
              obtain ⟨P1, hP1⟩ : ∃ v, p.id.1 = v := ⟨_, rfl⟩
              obtain ⟨P2, hP2⟩ : ∃ v, p.id.2 = v := ⟨_, rfl⟩
              have HP : Hid (p.id = (P1, P2)) := Lib.hid (Prod.ext hP1 hP2)
              rw [hP1] at x0
              rw [hP2] at x1
              dsimp only at c0 c1
              clear hP1 hP2
              by_cases e1 : i1 = P1
              · by_cases e2 : i2 = P2
                · subst e1 e2
                  go_wp2
                  go_quiet (fail)
                  go_wp2
                  refine ⟨⟨m + 1, by omega, by rw [HNX.out, HBI.out, HP.out]; simp, by go_num, below_drewN HBJ.out _⟩, by simp [intOf]; omega⟩
                · subst e1
                  have e3 : (i2 == P2) = false := by rw [beq_eq_false_iff_ne]; exact e2
                  have HE2 := Lib.hid e2
                  clear e2
                  go_wp2
                  go_quiet (fail)
                  go_wp2
                  refine ⟨⟨m + 1, by omega, by rw [HNX.out, HBI.out, HP.out]; simp [show ¬ P2 = i2 from fun e => HE2.out e.symm], by go_num, below_drewN HBJ.out _⟩, by simp [intOf]; omega⟩
              · have e3 : (i1 == P1) = false := by rw [beq_eq_false_iff_ne]; exact e1
                have HE1 := Lib.hid e1
                clear e1
                go_wp2
                go_quiet (fail)
                go_wp2
                refine ⟨⟨m + 1, by omega, by rw [HNX.out, HBI.out, HP.out]; simp [show ¬ P1 = i1 from fun e => HE1.out e.symm], by go_num, below_drewN HBJ.out _⟩, by simp [intOf]; omega⟩
          have hmi : ¬ (m : Int) < (n_ids : Int) := by omega
          replace HBI := Lib.hid (show isIn ids p.id = bi by rw [← HBI.out, List.take_of_length_le (by rw [HN_ids.out]; omega)])
          clear HBI_m
          obtain ⟨a, p', D, dn, dc, E, mp, kp, ha, hS, hp', x0, x1, x2, x3, x4, _⟩ := RdN.elem HR_l.out (k := ix) (by rw [HN_l.out]; exact hlt)
          subst ha
          obtain rfl : p = p' := Option.some.inj (HPE.out.symm.trans hp')
          have HC : Hid (∀ X, Below wr.heap.size wr X → X.cell? (a.add (ix * 5)) = some (.int .i64 p.id.1) ∧ X.cell? ⟨(a.add (ix * 5)).block, (a.add (ix * 5)).off + 1, none⟩ = some (.int .i64 p.id.2)) := Lib.hid (fun X hb => ⟨cellB x0 hb (by rw [add_block]; exact hS), cellB x1 hb (by rw [add_block]; exact hS)⟩)
          have HBC := Lib.hid (Below.refl wr.heap.size wr)
          clear hp' x2 x3 x4 x0 x1 hS
          obtain ⟨x0, x1⟩ := HC.out _ HBC.out
          go_wp2_with fail
          refine (FindN p.id A_s n_s c_s sx wr HN_s.out (by have h1 := HQ_s.out; have h2 := HQ_p.out; have h3 := HQ_l.out; omega) HR_s.out).mono ?_
          rintro e w_5 ⟨rfl, hb⟩
          replace HR_l := Lib.hid (RdN.mv HR_l.out hb)
          replace HR_ids := Lib.hid (RdI.mv HR_ids.out hb)
          replace HR_s := Lib.hid (RdN.mv HR_s.out hb)
          replace HR_g := Lib.hid (RdN.mv HR_g.out hb)
          replace HR_p := Lib.hid (RdN.mv HR_p.out hb)
          replace HR_r := Lib.hid (RdN.mv HR_r.out hb)
          replace HBR_ix := Lib.hid (below_mv HBR_ix.out hb)
          replace HBC := Lib.hid (below_mv HBC.out hb)
          replace HB := Lib.hid (below_mv HB.out hb)
          clear hb
          clear x0 x1
          obtain ⟨f_s, hf⟩ : ∃ f, findN sx p.id = f := ⟨_, rfl⟩
          obtain ⟨ba, hb1⟩ : ∃ b, decide (p.id ∈ idsN sx) = b := ⟨_, rfl⟩
          have HF_s := Lib.hid hb1
          have q1_s : decide (0 ≤ f_s) = ba := by rw [← hb1, ← hf]; exact decide_eq_decide.2 find_iff
          have q2_s : decide (f_s < 0) = !ba := by rw [← q1_s]; by_cases h : 0 ≤ f_s <;> simp [h] <;> omega
          rw [hf]
          clear hf hb1
          obtain ⟨x0, x1⟩ := HC.out _ HBC.out
          go_wp2_with fail
          refine (FindN p.id A_g n_g c_g gx w_5 HN_g.out (by have h1 := HQ_s.out; have h2 := HQ_p.out; have h3 := HQ_l.out; omega) HR_g.out).mono ?_
          rintro e w_6 ⟨rfl, hb⟩
          replace HR_l := Lib.hid (RdN.mv HR_l.out hb)
          replace HR_ids := Lib.hid (RdI.mv HR_ids.out hb)
          replace HR_s := Lib.hid (RdN.mv HR_s.out hb)
          replace HR_g := Lib.hid (RdN.mv HR_g.out hb)
          replace HR_p := Lib.hid (RdN.mv HR_p.out hb)
          replace HR_r := Lib.hid (RdN.mv HR_r.out hb)
          replace HBR_ix := Lib.hid (below_mv HBR_ix.out hb)
          replace HBC := Lib.hid (below_mv HBC.out hb)
          replace HB := Lib.hid (below_mv HB.out hb)
          clear hb
          clear x0 x1
          obtain ⟨f_g, hf⟩ : ∃ f, findN gx p.id = f := ⟨_, rfl⟩
          obtain ⟨bb, hb1⟩ : ∃ b, decide (p.id ∈ idsN gx) = b := ⟨_, rfl⟩
          have HF_g := Lib.hid hb1
          have q1_g : decide (0 ≤ f_g) = bb := by rw [← hb1, ← hf]; exact decide_eq_decide.2 find_iff
          have q2_g : decide (f_g < 0) = !bb := by rw [← q1_g]; by_cases h : 0 ≤ f_g <;> simp [h] <;> omega
          rw [hf]
          clear hf hb1
          obtain ⟨x0, x1⟩ := HC.out _ HBC.out
          go_wp2_with fail
          refine (FindN p.id A_p n_p c_p px w_6 HN_p.out (by have h1 := HQ_s.out; have h2 := HQ_p.out; have h3 := HQ_l.out; omega) HR_p.out).mono ?_
          rintro e w_7 ⟨rfl, hb⟩
          replace HR_l := Lib.hid (RdN.mv HR_l.out hb)
          replace HR_ids := Lib.hid (RdI.mv HR_ids.out hb)
          replace HR_s := Lib.hid (RdN.mv HR_s.out hb)
          replace HR_g := Lib.hid (RdN.mv HR_g.out hb)
          replace HR_p := Lib.hid (RdN.mv HR_p.out hb)
          replace HR_r := Lib.hid (RdN.mv HR_r.out hb)
          replace HBR_ix := Lib.hid (below_mv HBR_ix.out hb)
          replace HBC := Lib.hid (below_mv HBC.out hb)
          replace HB := Lib.hid (below_mv HB.out hb)
          clear hb
          clear x0 x1
          obtain ⟨f_p, hf⟩ : ∃ f, findN px p.id = f := ⟨_, rfl⟩
          obtain ⟨bc, hb1⟩ : ∃ b, decide (p.id ∈ idsN px) = b := ⟨_, rfl⟩
          have HF_p := Lib.hid hb1
          have q1_p : decide (0 ≤ f_p) = bc := by rw [← hb1, ← hf]; exact decide_eq_decide.2 find_iff
          have q2_p : decide (f_p < 0) = !bc := by rw [← q1_p]; by_cases h : 0 ≤ f_p <;> simp [h] <;> omega
          rw [hf]
          clear hf hb1
          obtain ⟨x0, x1⟩ := HC.out _ HBC.out
          go_wp2_with fail
          refine (FindN p.id A_r n_r c_r rx w_7 HN_r.out (by have h1 := HQ_s.out; have h2 := HQ_p.out; have h3 := HQ_l.out; omega) HR_r.out).mono ?_
          rintro e w_8 ⟨rfl, hb⟩
          replace HR_l := Lib.hid (RdN.mv HR_l.out hb)
          replace HR_ids := Lib.hid (RdI.mv HR_ids.out hb)
          replace HR_s := Lib.hid (RdN.mv HR_s.out hb)
          replace HR_g := Lib.hid (RdN.mv HR_g.out hb)
          replace HR_p := Lib.hid (RdN.mv HR_p.out hb)
          replace HR_r := Lib.hid (RdN.mv HR_r.out hb)
          replace HBR_ix := Lib.hid (below_mv HBR_ix.out hb)
          replace HBC := Lib.hid (below_mv HBC.out hb)
          replace HB := Lib.hid (below_mv HB.out hb)
          clear hb
          clear x0 x1
          obtain ⟨f_r, hf⟩ : ∃ f, findN rx p.id = f := ⟨_, rfl⟩
          obtain ⟨bd, hb1⟩ : ∃ b, decide (p.id ∈ idsN rx) = b := ⟨_, rfl⟩
          have HF_r := Lib.hid hb1
          have q1_r : decide (0 ≤ f_r) = bd := by rw [← hb1, ← hf]; exact decide_eq_decide.2 find_iff
          have q2_r : decide (f_r < 0) = !bd := by rw [← q1_r]; by_cases h : 0 ≤ f_r <;> simp [h] <;> omega
          rw [hf]
          clear hf hb1
          have HX1 := Lib.hid (part_one HNO.out HP1.out (mem_ids HPE.out))
          have HX2 := Lib.hid (pick_one HNO.out HP2.out (mem_ids HPE.out))
          have HX3 := Lib.hid (fun h : isIn ids p.id = true => part_got HP1.out (mem_ids HPE.out) (of_decide_eq_true h))
          have HX4 := Lib.hid (fun h : isIn ids p.id = true => pick_got HP2.out (mem_ids HPE.out) (of_decide_eq_true h))
          rw [HF_s.out, HF_g.out] at HX1
          rw [HF_p.out, HF_r.out] at HX2
          rw [HBI.out, HF_g.out] at HX3
          rw [HBI.out, HF_p.out] at HX4
          obtain rfl : ba = !bb := HX1.out
          obtain rfl : bc = !bd := HX2.out
          clear HF_s HF_g HF_p HF_r HC HBC HX1 HX2
          cases bi with
          | true =>
            obtain rfl : bb = true := HX3.out rfl
            obtain rfl : bd = false := by have h := HX4.out rfl; cases bd <;> first | rfl | cases h
            go_wp2
            refine ⟨⟨ix + 1, by omega, by go_num, HBR_ix.out⟩, by simp [intOf]; omega⟩
          | false =>
            clear HX3 HX4
            cases bb <;> cases bd <;> (go_wp2; refine ⟨⟨ix + 1, by omega, by go_num, HBR_ix.out⟩, by simp [intOf]; omega⟩)
      have hki : ¬ (ix : Int) < (n_l : Int) := by omega
      go_wp2_with fail
      refine (PartC A_l n_l c_l l none 0 0 [] wr HN_l.out (by have := HQ_l.out; omega) rfl (by have := HQ_ids.out; omega) HL_l.out HR_l.out (.inl rfl) l [] (part_no fun p _ h => by cases h)).mono ?_
      rintro e w_5 ⟨A_x, n_x, c_x, A_y, n_y, c_y, rfl, hn1, hc1, hr1, hn2, hc2, hr2, hb⟩
      have HN_x := Lib.hid hn1; have HC_x := Lib.hid hc1; have HR_x := Lib.hid hr1; have HN_y := Lib.hid hn2; have HC_y := Lib.hid hc2; have HR_y := Lib.hid hr2
      clear hn1 hc1 hr1 hn2 hc2 hr2
      replace HR_l := Lib.hid (RdN.mv HR_l.out hb)
      replace HR_ids := Lib.hid (RdI.mv HR_ids.out hb)
      replace HR_s := Lib.hid (RdN.mv HR_s.out hb)
      replace HR_g := Lib.hid (RdN.mv HR_g.out hb)
      replace HR_p := Lib.hid (RdN.mv HR_p.out hb)
      replace HR_r := Lib.hid (RdN.mv HR_r.out hb)
      replace HBR_ix := Lib.hid (below_mv HBR_ix.out hb)
      replace HB := Lib.hid (below_mv HB.out hb)
      clear hb
      obtain rfl : 0 = n_y := HN_y.out
      obtain rfl : n_l = n_x := by rw [← HN_l.out, ← HN_x.out]
      go_wp2_with fail
      refine (PickC A_l n_l c_l l none 0 0 [] w_5 HN_l.out (by have := HQ_l.out; omega) rfl (by have := HQ_ids.out; omega) HL_l.out HR_l.out (.inl rfl) [] l (pick_none fun p _ h => by cases h)).mono ?_
      rintro e w_6 ⟨A_z, n_z, c_z, A_v, n_v, c_v, rfl, hn1, hc1, hr1, hn2, hc2, hr2, hb⟩
      have HN_z := Lib.hid hn1; have HC_z := Lib.hid hc1; have HR_z := Lib.hid hr1; have HN_v := Lib.hid hn2; have HC_v := Lib.hid hc2; have HR_v := Lib.hid hr2
      clear hn1 hc1 hr1 hn2 hc2 hr2
      replace HR_l := Lib.hid (RdN.mv HR_l.out hb)
      replace HR_ids := Lib.hid (RdI.mv HR_ids.out hb)
      replace HR_s := Lib.hid (RdN.mv HR_s.out hb)
      replace HR_g := Lib.hid (RdN.mv HR_g.out hb)
      replace HR_p := Lib.hid (RdN.mv HR_p.out hb)
      replace HR_r := Lib.hid (RdN.mv HR_r.out hb)
      replace HBR_ix := Lib.hid (below_mv HBR_ix.out hb)
      replace HR_x := Lib.hid (RdN.mv HR_x.out hb)
      replace HR_y := Lib.hid (RdN.mv HR_y.out hb)
      replace HB := Lib.hid (below_mv HB.out hb)
      clear hb
      obtain rfl : 0 = n_z := HN_z.out
      obtain rfl : n_l = n_v := by rw [← HN_l.out, ← HN_v.out]
      go_wp2
      go_ret
      exact ⟨rfl, HB.out⟩

end BbL
open BbL
open Tx
open Go.ChangeShapes Go.WideShapes Go.ChangeAt

theorem bubbleAll_own : ownKnob Try.prog.godebug = none := by kernel_rfl
theorem bubbleAll_laidOut : laidOutB Try.prog = true := by kernel_rfl

set_option maxRecDepth 100000 in
theorem bubbleAll_lifted (os : Os) (started : os.Started) (H : Type) (enc : TypeId × Value → H) :
    ReturnsInHanded {} Try.checked os 5 .any (Rows.bubbleAllSpec.pre6 enc Try.prog Try.f5 Rows.bubbleAllRow.domain false) (Rows.bubbleAllSpec.post enc Try.prog Try.f5 false true false false) := by
  refine returnsInHanded_of_change (C := Try.checked) bubbleAll_own started (by kernel_rfl) Try.func5
    (ChangeSpec.witness6 (enc := enc) (C := Try.checked) false ⟨#[], #[.slice none 0 0, .slice none 0 0], []⟩ 8 (by kernel_rfl) (by kernel_rfl) (by kernel_rfl) (by kernel_rfl)) ?_
  intro W base args ds gs before hval0 hW hcnd _
  have hval : ∀ (j : Nat) t v, Try.f5.params[j]? = some t → args[j]? = some v → Value.okWide Try.prog W .any base t v := hval0
  have hW' := hW
  obtain ⟨p, q, hA0, hV, rfl, hfz, hnd⟩ := hW
  have hA : DataW.TrodAll enc Try.prog W 0 (fun _ => true) true Try.f5.params.toList args.toList ds p := hA0
  rw [Try.params5] at hA hval
  obtain ⟨v0, vs0, d0, ds0, p0, q0, hargs, rfl, rfl, h0, r0⟩ := trodAll_cons hA
  obtain ⟨v1, vs1, d1, ds1, p1, q1, rfl, rfl, rfl, h1, r1⟩ := trodAll_cons r0
  obtain ⟨rfl, rfl, rfl⟩ := trodAll_nil r1
  obtain rfl : args = #[v0, v1] := by cases args; simp_all
  obtain ⟨rfl, rfl⟩ := trodVars_none hV
  obtain ⟨a0, n0, c0, rfl⟩ := okWide_slice Try.underlying22 (hval 0 22 v0 rfl rfl)
  have k0 := h0
  have lt0 : ∀ x ∈ p0, x.block < W.heap.size := by obtain ⟨m, hm⟩ := k0; exact DataW.trod_lt m _ _ _ hm
  obtain ⟨l0, s0⟩ : ∃ l, NmsArg W a0 n0 c0 l := by
    obtain ⟨fuel, hf⟩ := h0
    exact nms_in hf (by simp [Value.cells])
  obtain ⟨a1, n1, c1, rfl⟩ := okWide_slice Try.underlying23 (hval 1 23 v1 rfl rfl)
  have k1 := h1
  have lt1 : ∀ x ∈ p1, x.block < W.heap.size := by obtain ⟨m, hm⟩ := k1; exact DataW.trod_lt m _ _ _ hm
  obtain ⟨l1, s1⟩ : ∃ l, IdsArg W a1 n1 c1 l := by
    obtain ⟨fuel, hf⟩ := h1
    exact ids_in hf (by simp [Value.cells])
  clear hA0 hval0
  refine (bubbleAll_walk a0 n0 c0 l0 a1 n1 c1 l1 W s0 s1).mono fun e W' ⟨he, bel⟩ => ?_
  subst he
  exact ⟨_, rfl, _, _, _, [], _, [], hW', trodAll_mk1 (shut_bool Try.underlying4 _), (trodAll_cons_mk (Below.trod bubbleAll_laidOut (by kernel_rfl) (of_decide_eq_true (by kernel_rfl)) k0 bel lt0) (trodAll_cons_mk (Below.trod bubbleAll_laidOut (by kernel_rfl) (of_decide_eq_true (by kernel_rfl)) k1 bel lt1) trodAll_mk0)), rfl, bel.frame _, fun h => by cases h⟩

/-- The statement. -/
theorem bubbleAll_proved : Rows.BubbleAllSaid :=
  OpenClaim.holds_of_wide 5 Try.f5 rfl rfl rfl rfl rfl rfl rfl ⟨rfl, rfl, rfl, rfl, rfl⟩ rfl rfl rfl rfl rfl (by kernel_rfl) Try.func5 (by kernel_rfl)
    (of_decide_eq_true (by kernel_rfl)) (by unfold Func.isWrapper; first | (rw [if_pos (by decide +kernel)]; kernel_rfl) | (rw [if_neg (by decide +kernel)]; exact ⟨rfl, rfl⟩))
    (fun os started H enc _ => bubbleAll_lifted os started H enc)

#print axioms bubbleAll_proved
end Go.Proofs.Ytdnkinajbebkoaa
