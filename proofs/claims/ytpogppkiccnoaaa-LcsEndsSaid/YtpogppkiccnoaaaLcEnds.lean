/-
  The statement LcsEnds: for every two lists of lines the law returns true, and both read as they did. No conditions.
-/
import Derived.Test.YtpogppkiccnoaaaLcLaw
import Derived.Test.YtpogppkiccnoaaaSqTail
namespace Go.Proofs.Ytpogppkiccnoaaa
open Go.RowKit
set_option linter.unusedVariables false
namespace Lc
open Tx

/-- What is in front of both, and behind both, is had in common, and what is between. -/
theorem lcs_ends {a b : List (List UInt8)} {f k n n1 : Nat} (hn : a.length = n) (hn1 : b.length = n1) (h1 : f + k ≤ n) (h2 : f + k ≤ n1) (hf : a.take f = b.take f) (hk : a.drop (n - k) = b.drop (n1 - k)) :
    lcs a b = f + k + lcs ((a.drop f).take (n - k - f)) ((b.drop f).take (n1 - k - f)) := by
  have ea : a = a.take f ++ ((a.drop f).take (n - k - f) ++ a.drop (n - k)) := by
    have e : a.drop (n - k) = (a.drop f).drop (n - k - f) := by rw [List.drop_drop]; congr 1; omega
    rw [e, List.take_append_drop, List.take_append_drop]
  have eb : b = b.take f ++ ((b.drop f).take (n1 - k - f) ++ b.drop (n1 - k)) := by
    have e : b.drop (n1 - k) = (b.drop f).drop (n1 - k - f) := by rw [List.drop_drop]; congr 1; omega
    rw [e, List.take_append_drop, List.take_append_drop]
  have l1 : (a.take f).length = f := by rw [List.length_take]; omega
  have l2 : (b.drop (n1 - k)).length = k := by rw [List.length_drop]; omega
  conv => lhs; rw [ea, eb, hf, hk, lcs_front, lcs_behind, l2]
  rw [← hf, l1]
  omega

theorem rd_cut {w : World} {B : Nat} {A : Option Addr} {ls : List (List UInt8)} (h : RdS w B A ls) {k cap : Nat} (m : Nat) (hc : ls.length ≤ cap) : RdS w B (if cap = k then A else A.map (·.add k)) ((ls.drop k).take m) := by
  unfold RdS; rw [List.map_take, List.map_drop]; exact Rd.take (Rd.drop h (by rw [List.length_map]; exact hc)) m

set_option maxRecDepth 100000 in
set_option maxHeartbeats 8000000 in
theorem lcsEnds_walk (A : Option Addr) (n c : Nat) (a : List (List UInt8)) (A1 : Option Addr) (n1 c1 : Nat) (b : List (List UInt8)) (w : World) (h : StrArg w A n c a) (h1 : StrArg w A1 n1 c1 b) :
    Calls Try.prog 8 #[.slice A n c, .slice A1 n1 c1] w (LawEnd w) := by
  have HM := Lib.hid h.le
  have HM1 := Lib.hid h1.le
  go_enter Try.func8, Try.ntmps8
  go_wp2_with fail
  refine (awake w).mono ?_
  rintro e w1 ⟨rfl, hB1⟩
  go_wp2_with fail
  refine (Light _ _ _ _ 60 a _ h.len h.le (h.rd.below hB1) (by decide)).mono ?_
  rintro e w' ⟨rfl, rfl⟩
  go_wp2_with fail
  refine (Light _ _ _ _ 60 b _ h1.len h1.le (h1.rd.below hB1) (by decide)).mono ?_
  rintro e w' ⟨rfl, rfl⟩
  cases hl : light a 60 with
  | false =>
    clear hl
    go_wp2
    go_ret
    exact ⟨rfl, hB1⟩
  | true =>
  have hn := light_len hl h.len
  clear hl
  cases hl : light b 60 with
  | false =>
    clear hl
    go_wp2
    go_ret
    exact ⟨rfl, hB1⟩
  | true =>
  have hn1 := light_len hl h1.len
  clear hl
  have hle := Sq.back_le a b
  rw [h.len, h1.len] at hle
  obtain ⟨hle1, hle2⟩ := hle
  have hbs := Sq.back_same a b
  rw [h.len, h1.len] at hbs
  have HE := Lib.hid (lcs_ends h.len h1.len hle1 hle2 (Sq.front_take a b) hbs)
  clear hbs
  generalize hf : Sq.front a b = f at *
  generalize hk : Sq.back a b = k at *
  have HF := Lib.hid hf; clear hf
  have HK := Lib.hid hk; clear hk
  go_wp2_with fail
  refine (Sq.Front A A1 c c1 n n1 w.heap.size a b w1 h.len h1.len HM.out HM1.out (h.rd.below hB1) (h1.rd.below hB1)).mono ?_
  rw [HF.out]
  rintro e w' ⟨rfl, d1, rfl⟩
  go_wp2_with fail
  refine (Sq.Back A A1 c c1 n n1 w.heap.size a b _ h.len h1.len h.cap h1.cap HM.out HM1.out (Rd.drewN (h.rd.below hB1) _) (Rd.drewN (h1.rd.below hB1) _)).mono ?_
  rw [HK.out]
  rintro e w' ⟨rfl, d2, rfl⟩
  have hB2 : Below w.heap.size w ((w1.drewN d1).drewN d2) := below_drewN (below_drewN hB1 d1) d2
  generalize (w1.drewN d1).drewN d2 = w2 at *
  obtain ⟨j, hj⟩ : ∃ j : Nat, (n : Int) - k = j := ⟨n - k, by omega⟩
  obtain ⟨j1, hj1⟩ : ∃ j : Nat, (n1 : Int) - k = j := ⟨n1 - k, by omega⟩
  have ej : n - k = j := by omega
  have ej1 : n1 - k = j1 := by omega
  rw [ej, ej1] at HE
  have hx := fun (X : World) (hb : Below w.heap.size w X) => rd_cut (h.rd.below hb) (k := f) (cap := c) (j - f) (by rw [h.len]; exact h.cap)
  have hy := fun (X : World) (hb : Below w.heap.size w X) => rd_cut (h1.rd.below hb) (k := f) (cap := c1) (j1 - f) (by rw [h1.len]; exact h1.cap)
  have HLX : Hid (((a.drop f).take (j - f)).length = j - f) := Lib.hid (by rw [List.length_take, List.length_drop, h.len]; omega)
  have HLY : Hid (((b.drop f).take (j1 - f)).length = j1 - f) := Lib.hid (by rw [List.length_take, List.length_drop, h1.len]; omega)
  have hfj : f ≤ j := by omega
  have hfj1 : f ≤ j1 := by omega
  have hjn : j ≤ n := by omega
  have hjn1 : j1 ≤ n1 := by omega
  have hcp := h.cap
  have hcp1 := h1.cap
  have hq2 := lcs_le ((a.drop f).take (j - f)) ((b.drop f).take (j1 - f))
  rw [HLX.out] at hq2
  have hq := hq2.1
  clear hq2
  generalize (a.drop f).take (j - f) = xs at *
  generalize (b.drop f).take (j1 - f) = ys at *
  have HX := Lib.hid hx; clear hx
  have HY := Lib.hid hy; clear hy
  generalize hl2 : lcs xs ys = l2 at *
  have HL2 := Lib.hid hl2; clear hl2
  have hw1 : IntKind.i64.wrap ((f : Int) + (k : Int)) = (f : Int) + (k : Int) := IntWalk.i64_in _ (by omega)
  have hw2 : IntKind.i64.wrap ((f : Int) + (k : Int) + (l2 : Int)) = (f : Int) + (k : Int) + (l2 : Int) := IntWalk.i64_in _ (by omega)
  have hw3 : IntKind.i64.wrap ((n : Int) - (k : Int)) = (j : Int) := by rw [hj]; exact IntWalk.i64_in _ (by omega)
  have hw4 : IntKind.i64.wrap ((n1 : Int) - (k : Int)) = (j1 : Int) := by rw [hj1]; exact IntWalk.i64_in _ (by omega)
  have HJ := Lib.hid hj; clear hj
  have HJ1 := Lib.hid hj1; clear hj1
  clear ej ej1
  have g1 : ¬ ((n : Int) < (f : Int) + (k : Int)) := by omega
  have g2 : ¬ ((n1 : Int) < (f : Int) + (k : Int)) := by omega
  have HW := Lib.hid (And.intro hw1 (And.intro hw2 (And.intro hw3 hw4))); clear hw1 hw2 hw3 hw4
  go_wp2

  obtain ⟨hw1, hw2, hw3, hw4⟩ := HW.out
  have s1 : (f : Int) ≤ (j : Int) := by omega
  have s2 : (f : Int) ≤ (j1 : Int) := by omega
  have s3 : (j : Int) ≤ (c : Int) := by omega
  have s4 : (j1 : Int) ≤ (c1 : Int) := by omega
  have s5 : j ≤ c := by omega
  have s6 : j1 ≤ c1 := by omega
  refine wp_region_held_drew (S := fun _ : World => True) (by kernel_rfl) trivial (fun hS0 => ?_)
  refine wpAnyH_take (i := 0) (v := ?_) rfl (by kernel_rfl) (by kernel_rfl) (by kernel_rfl) (fun _ _ _ h => h) (Or.inl ⟨by rfl, ?_⟩) hS0 ?_
  rotate_left
  · intro X hX
    clear hX
    go_simp
    try with_reducible rfl
  simp only [Act.put, List.getElem_toArray, List.getElem_cons_zero, List.setIfInBounds_toArray, List.set_cons_succ, List.set_cons_zero]
  refine wpAnyH_take (i := 1) (v := ?_) rfl (by kernel_rfl) (by kernel_rfl) (by kernel_rfl) (fun _ _ _ h => h) (Or.inl ⟨by rfl, ?_⟩) hS0 ?_
  rotate_left
  · intro X hX
    clear hX
    go_simp
    try with_reducible rfl
  simp only [Act.put, List.getElem_toArray, List.getElem_cons_succ, List.getElem_cons_zero, List.setIfInBounds_toArray, List.set_cons_succ, List.set_cons_zero]
  refine wpAnyH_take (i := 3) (v := ?_) rfl (by kernel_rfl) (by kernel_rfl) (by kernel_rfl) (fun _ _ _ h => h) (Or.inl ⟨by rfl, ?_⟩) hS0 ?_
  rotate_left
  · intro X hX
    clear hX
    go_simp
    try with_reducible rfl
  simp only [Act.put, List.getElem_toArray, List.getElem_cons_succ, List.getElem_cons_zero, List.setIfInBounds_toArray, List.set_cons_succ, List.set_cons_zero]
  refine wpAnyH_take (i := 4) (v := ?_) rfl (by kernel_rfl) (by kernel_rfl) (by kernel_rfl) (fun _ _ _ h => h) (Or.inl ⟨by rfl, ?_⟩) hS0 ?_
  rotate_left
  · intro X hX
    clear hX
    go_simp
    try with_reducible rfl
  simp only [Act.put, List.getElem_toArray, List.getElem_cons_succ, List.getElem_cons_zero, List.setIfInBounds_toArray, List.set_cons_succ, List.set_cons_zero]
  refine wpAnyH_take (i := 5) (v := ?_) rfl (by kernel_rfl) (by kernel_rfl) (by kernel_rfl) (fun _ _ _ h => h) (Or.inl ⟨by rfl, ?_⟩) hS0 ?_
  rotate_left
  · intro X hX
    clear hX
    go_simp
    try with_reducible rfl
  simp only [Act.put, List.getElem_toArray, List.getElem_cons_succ, List.getElem_cons_zero, List.setIfInBounds_toArray, List.set_cons_succ, List.set_cons_zero]
  refine wpAnyH_take (i := 6) (v := ?_) rfl (by kernel_rfl) (by kernel_rfl) (by kernel_rfl) (fun _ _ _ h => h) (Or.inl ⟨by rfl, ?_⟩) hS0 ?_
  rotate_left
  · intro X hX
    clear hX
    go_simp
    try with_reducible rfl
  simp only [Act.put, List.getElem_toArray, List.getElem_cons_succ, List.getElem_cons_zero, List.setIfInBounds_toArray, List.set_cons_succ, List.set_cons_zero]
  refine wpAnyH_take (i := 7) (v := ?_) rfl (by kernel_rfl) (by kernel_rfl) (by kernel_rfl) (fun _ _ _ h => h) (Or.inl ⟨by rfl, ?_⟩) hS0 ?_
  rotate_left
  · intro X hX
    clear hX
    go_simp
    try with_reducible rfl
  simp only [Act.put, List.getElem_toArray, List.getElem_cons_succ, List.getElem_cons_zero, List.setIfInBounds_toArray, List.set_cons_succ, List.set_cons_zero]
  refine wpAnyH_take (i := 8) (v := ?_) rfl (by kernel_rfl) (by kernel_rfl) (by kernel_rfl) (fun _ _ _ h => h) (Or.inl ⟨by rfl, ?_⟩) hS0 ?_
  rotate_left
  · intro X hX
    clear hX
    go_simp
    try with_reducible rfl
  simp only [Act.put, List.getElem_toArray, List.getElem_cons_succ, List.getElem_cons_zero, List.setIfInBounds_toArray, List.set_cons_succ, List.set_cons_zero]
  refine wpAnyH_take (i := 9) (v := ?_) rfl (by kernel_rfl) (by kernel_rfl) (by kernel_rfl) (fun _ _ _ h => h) (Or.inl ⟨by rfl, ?_⟩) hS0 ?_
  rotate_left
  · intro X hX
    clear hX
    go_simp
    try with_reducible rfl
  simp only [Act.put, List.getElem_toArray, List.getElem_cons_succ, List.getElem_cons_zero, List.setIfInBounds_toArray, List.set_cons_succ, List.set_cons_zero]
  refine wpAnyH_take (i := 10) (v := ?_) rfl (by kernel_rfl) (by kernel_rfl) (by kernel_rfl) (fun _ _ _ h => h) (Or.inl ⟨by rfl, ?_⟩) hS0 ?_
  rotate_left
  · intro X hX
    clear hX
    go_simp
    try with_reducible rfl
  simp only [Act.put, List.getElem_toArray, List.getElem_cons_succ, List.getElem_cons_zero, List.setIfInBounds_toArray, List.set_cons_succ, List.set_cons_zero]
  refine wpAnyH_take (i := 11) (v := ?_) rfl (by kernel_rfl) (by kernel_rfl) (by kernel_rfl) (fun _ _ _ h => h) (Or.inl ⟨by rfl, ?_⟩) hS0 ?_
  rotate_left
  · intro X hX
    clear hX
    go_simp
    try with_reducible rfl
  simp only [Act.put, List.getElem_toArray, List.getElem_cons_succ, List.getElem_cons_zero, List.setIfInBounds_toArray, List.set_cons_succ, List.set_cons_zero]
  refine wpAnyH_take (i := 12) (v := ?_) rfl (by kernel_rfl) (by kernel_rfl) (by kernel_rfl) (fun _ _ _ h => h) (Or.inl ⟨by rfl, ?_⟩) hS0 ?_
  rotate_left
  · intro X hX
    clear hX
    go_simp
    try with_reducible rfl
  simp only [Act.put, List.getElem_toArray, List.getElem_cons_succ, List.getElem_cons_zero, List.setIfInBounds_toArray, List.set_cons_succ, List.set_cons_zero]
  refine wpAnyH_take (i := 13) (v := ?_) rfl (by kernel_rfl) (by kernel_rfl) (by kernel_rfl) (fun _ _ _ h => h) (Or.inl ⟨by rfl, ?_⟩) hS0 ?_
  rotate_left
  · intro X hX
    clear hX
    go_simp
    try with_reducible rfl
  simp only [Act.put, List.getElem_toArray, List.getElem_cons_succ, List.getElem_cons_zero, List.setIfInBounds_toArray, List.set_cons_succ, List.set_cons_zero]
  refine wpAnyH_take (i := 14) (v := ?_) rfl (by kernel_rfl) (by kernel_rfl) (by kernel_rfl) (fun _ _ _ h => h) (Or.inl ⟨by rfl, ?_⟩) hS0 ?_
  rotate_left
  · intro X hX
    clear hX
    go_simp
    try with_reducible rfl
  simp only [Act.put, List.getElem_toArray, List.getElem_cons_succ, List.getElem_cons_zero, List.setIfInBounds_toArray, List.set_cons_succ, List.set_cons_zero]
  refine wpAnyH_take (i := 15) (v := ?_) rfl (by kernel_rfl) (by kernel_rfl) (by kernel_rfl) (fun _ _ _ h => h) (Or.inl ⟨by rfl, ?_⟩) hS0 ?_
  rotate_left
  · intro X hX
    clear hX
    go_simp
    try with_reducible rfl
  simp only [Act.put, List.getElem_toArray, List.getElem_cons_succ, List.getElem_cons_zero, List.setIfInBounds_toArray, List.set_cons_succ, List.set_cons_zero]
  refine wpAnyH_take (i := 16) (v := ?_) rfl (by kernel_rfl) (by kernel_rfl) (by kernel_rfl) (fun _ _ _ h => h) (Or.inl ⟨by rfl, ?_⟩) hS0 ?_
  rotate_left
  · intro X hX
    clear hX
    go_simp
    try with_reducible rfl
  simp only [Act.put, List.getElem_toArray, List.getElem_cons_succ, List.getElem_cons_zero, List.setIfInBounds_toArray, List.set_cons_succ, List.set_cons_zero]
  refine wpAnyH_take (i := 17) (v := ?_) rfl (by kernel_rfl) (by kernel_rfl) (by kernel_rfl) (fun _ _ _ h => h) (Or.inl ⟨by rfl, ?_⟩) hS0 ?_
  rotate_left
  · intro X hX
    clear hX
    go_simp
    try with_reducible rfl
  simp only [Act.put, List.getElem_toArray, List.getElem_cons_succ, List.getElem_cons_zero, List.setIfInBounds_toArray, List.set_cons_succ, List.set_cons_zero]
  refine wpAnyH_take (i := 18) (v := ?_) rfl (by kernel_rfl) (by kernel_rfl) (by kernel_rfl) (fun _ _ _ h => h) (Or.inl ⟨by rfl, ?_⟩) hS0 ?_
  rotate_left
  · intro X hX
    clear hX
    go_simp
    try with_reducible rfl
  simp only [Act.put, List.getElem_toArray, List.getElem_cons_succ, List.getElem_cons_zero, List.setIfInBounds_toArray, List.set_cons_succ, List.set_cons_zero]
  refine wpAnyH_take (i := 19) (v := ?_) rfl (by kernel_rfl) (by kernel_rfl) (by kernel_rfl) (fun _ _ _ h => h) (Or.inl ⟨by rfl, ?_⟩) hS0 ?_
  rotate_left
  · intro X hX
    clear hX
    go_simp
    try with_reducible rfl
  simp only [Act.put, List.getElem_toArray, List.getElem_cons_succ, List.getElem_cons_zero, List.setIfInBounds_toArray, List.set_cons_succ, List.set_cons_zero]
  clear hw1 hw3 hw4 s1 s2 s3 s4 s5 s6
  refine wpAnyH_ready (rs := [2]) (by kernel_rfl) (by simp) ?_
  refine AllReadyH.cons rfl (fun K' hK' => ?_) AllReadyH.nil
  go_simp
  refine (Many A A1 c c1 n n1 w.heap.size a b w2.drew h.len h1.len (by omega) (by omega) hB2.size (h.rd.below hB2.drew) (h1.rd.below hB2.drew)).mono ?_
  rw [HE.out]
  rintro e w3 ⟨rfl, hb3⟩
  have hB3 : Below w.heap.size w w3 := hB2.drew.trans (hb3.mono hB2.size)
  refine hK'.out _ _ trivial (fun hS0 => ?_)
  clear hK' K' hb3
  refine wpAnyH_ready (rs := [20]) (by kernel_rfl) (by simp) ?_
  refine AllReadyH.cons rfl (fun K' hK' => ?_) AllReadyH.nil
  go_simp
  refine (Many _ _ _ _ (j - f) (j1 - f) w.heap.size xs ys w3 HLX.out HLY.out (by omega) (by omega) hB3.size (HX.out w3 hB3) (HY.out w3 hB3)).mono ?_
  rw [HL2.out]
  rintro e w4 ⟨rfl, hb4⟩
  have hB4 := hB3.trans (hb4.mono hB3.size)
  have hbe : (((f + k + l2 : Nat) : Int) == (f : Int) + (k : Int) + (l2 : Int)) = true := by simp
  refine hK'.out _ _ trivial (fun hS0 => ?_)
  clear hK' K' hb4
  refine wpAnyH_take (i := 21) (v := ?_) rfl (by kernel_rfl) (by kernel_rfl) (by kernel_rfl) (fun _ _ _ h => h) (Or.inl ⟨by rfl, ?_⟩) hS0 ?_
  rotate_left
  · intro X hX
    clear hX
    go_simp
    try with_reducible rfl
  simp only [Act.put, List.getElem_toArray, List.getElem_cons_succ, List.getElem_cons_zero, List.setIfInBounds_toArray, List.set_cons_succ, List.set_cons_zero]
  refine wpAnyH_take (i := 22) (v := ?_) rfl (by kernel_rfl) (by kernel_rfl) (by kernel_rfl) (fun _ _ _ h => h) (Or.inl ⟨by rfl, ?_⟩) hS0 ?_
  rotate_left
  · intro X hX
    clear hX
    go_simp
    try with_reducible rfl
  simp only [Act.put, List.getElem_toArray, List.getElem_cons_succ, List.getElem_cons_zero, List.setIfInBounds_toArray, List.set_cons_succ, List.set_cons_zero]
  refine wpAnyH_take (i := 23) (v := ?_) rfl (by kernel_rfl) (by kernel_rfl) (by kernel_rfl) (fun _ _ _ h => h) (Or.inl ⟨by rfl, ?_⟩) hS0 ?_
  rotate_left
  · intro X hX
    clear hX
    go_simp
    try with_reducible rfl
  simp only [Act.put, List.getElem_toArray, List.getElem_cons_succ, List.getElem_cons_zero, List.setIfInBounds_toArray, List.set_cons_succ, List.set_cons_zero]
  refine wpAnyH_done (by kernel_rfl) ?_ _
  clear hw2
  go_wp2
  all_goals
    go_ret
    exact ⟨rfl, hB4⟩

end Lc
open Tx Lc
open Go.ChangeShapes Go.WideShapes Go.ChangeAt

theorem lcsEnds_own : ownKnob Try.prog.godebug = none := by kernel_rfl
theorem lcsEnds_laidOut : laidOutB Try.prog = true := by kernel_rfl

set_option maxRecDepth 100000 in
theorem lcsEnds_lifted (os : Os) (started : os.Started) (H : Type) (enc : TypeId × Value → H) :
    ReturnsInHanded {} Try.checked os 8 .any (Rows.lcsEndsSpec.pre6 enc Try.prog Try.f8 Rows.lcsEndsRow.domain false) (Rows.lcsEndsSpec.post enc Try.prog Try.f8 false true false false) := by
  refine returnsInHanded_of_change (C := Try.checked) lcsEnds_own started (by kernel_rfl) Try.func8
    (ChangeSpec.witness6 (enc := enc) (C := Try.checked) false ⟨#[], #[.slice none 0 0, .slice none 0 0], []⟩ 8 (by kernel_rfl) (by kernel_rfl) (by kernel_rfl) (by kernel_rfl)) ?_
  intro W base args ds gs before hval0 hW hcnd _
  have hval : ∀ (j : Nat) t v, Try.f8.params[j]? = some t → args[j]? = some v → Value.okWide Try.prog W .any base t v := hval0
  have hW' := hW
  obtain ⟨p, q, hA0, hV, rfl, hfz, hnd⟩ := hW
  have hA : DataW.TrodAll enc Try.prog W 0 (fun _ => true) true Try.f8.params.toList args.toList ds p := hA0
  rw [Try.params8] at hA hval
  obtain ⟨v0, vs0, d0, ds0, p0, q0, hargs, rfl, rfl, h0, r0⟩ := trodAll_cons hA
  obtain ⟨v1, vs1, d1, ds1, p1, q1, rfl, rfl, rfl, h1, r1⟩ := trodAll_cons r0
  obtain ⟨rfl, rfl, rfl⟩ := trodAll_nil r1
  obtain rfl : args = #[v0, v1] := by cases args; simp_all
  obtain ⟨rfl, rfl⟩ := trodVars_none hV
  obtain ⟨a0, n0, c0, rfl⟩ := okWide_slice Try.underlying22 (hval 0 22 v0 rfl rfl)
  have k0 := h0
  have lt0 : ∀ x ∈ p0, x.block < W.heap.size := by obtain ⟨m, hm⟩ := k0; exact DataW.trod_lt m _ _ _ hm
  obtain ⟨l0, s0⟩ : ∃ l, StrArg W a0 n0 c0 l := by
    obtain ⟨fuel, hf⟩ := h0
    exact strs_in hf (by simp [Value.cells])
  obtain ⟨a1, n1, c1, rfl⟩ := okWide_slice Try.underlying22 (hval 1 22 v1 rfl rfl)
  have k1 := h1
  have lt1 : ∀ x ∈ p1, x.block < W.heap.size := by obtain ⟨m, hm⟩ := k1; exact DataW.trod_lt m _ _ _ hm
  obtain ⟨l1, s1⟩ : ∃ l, StrArg W a1 n1 c1 l := by
    obtain ⟨fuel, hf⟩ := h1
    exact strs_in hf (by simp [Value.cells])
  clear hA0 hval0
  refine (lcsEnds_walk a0 n0 c0 l0 a1 n1 c1 l1 W s0 s1).mono fun e W' ⟨he, bel⟩ => ?_
  subst he
  exact ⟨_, rfl, _, _, _, [], _, [], hW', trodAll_mk1 (shut_bool Try.underlying4 _), (trodAll_cons_mk (Below.trod lcsEnds_laidOut (by kernel_rfl) (of_decide_eq_true (by kernel_rfl)) k0 bel lt0) (trodAll_cons_mk (Below.trod lcsEnds_laidOut (by kernel_rfl) (of_decide_eq_true (by kernel_rfl)) k1 bel lt1) trodAll_mk0)), rfl, bel.frame _, fun h => by cases h⟩

/-- The statement. -/
theorem lcsEnds_proved : Rows.LcsEndsSaid :=
  OpenClaim.holds_of_wide 8 Try.f8 rfl rfl rfl rfl rfl rfl rfl ⟨rfl, rfl, rfl, rfl, rfl⟩ rfl rfl rfl rfl rfl (by kernel_rfl) Try.func8 (by kernel_rfl)
    (of_decide_eq_true (by kernel_rfl)) (by unfold Func.isWrapper; first | (rw [if_pos (by decide +kernel)]; kernel_rfl) | (rw [if_neg (by decide +kernel)]; exact ⟨rfl, rfl⟩))
    (fun os started H enc _ => lcsEnds_lifted os started H enc)

#print axioms lcsEnds_proved
end Go.Proofs.Ytpogppkiccnoaaa
