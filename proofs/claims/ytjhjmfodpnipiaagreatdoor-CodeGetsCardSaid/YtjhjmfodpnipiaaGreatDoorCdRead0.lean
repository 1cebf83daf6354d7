/-
  Package code's readLines: so many lines behind a sign, or how it ends (walks).
-/
import Derived.Test.YtjhjmfodpnipiaaGreatDoorCdNext
import Derived.Test.YtjhjmfodpnipiaaGreatDoorCdPut0
set_option maxRecDepth 100000
namespace Go.Proofs.YtjhjmfodpnipiaaGreatDoor
open Go.RowKit Go.Shelf
set_option linter.unusedVariables false
set_option linter.unusedSimpArgs false
namespace Cd
open Tx Df Sq Hk Tr Pr

/-- What is done behind block R alone: all older blocks but R stand. -/
def Gr (R : Nat) (w w' : World) : Prop := w.grownBy w' (some R)
theorem Gr.refl (R : Nat) (w : World) : Gr R w w := ⟨rfl, rfl, rfl, Nat.le_refl _, fun _ _ _ => rfl⟩
theorem Gr.trans {R : Nat} {a b c : World} (h : Gr R a b) (k : Gr R b c) : Gr R a c := World.grownBy.trans h k
theorem Gr.of_below {R : Nat} {w w' : World} (h : Below w.heap.size w w') : Gr R w w' := gr_below h _
theorem Gr.below {R N : Nat} {w w' : World} (h : Gr R w w') (hN : N ≤ R) (hs : N ≤ w.heap.size) : Below N w w' := (Below.refl N w).grown h hs (fun b e => by injection e with e; omega)
theorem Gr.blk {R b : Nat} {w w' : World} {t : TypeId} {cs : Array Value} (h : Gr R w w') (hb : Blk w b t cs) (hne : b ≠ R) : Blk w' b t cs := hb.gr h (fun e => by injection e with e; exact hne e)

theorem Gr.grown {R : Nat} {w a b : World} {row : Option Nat} (h : Gr R w a) (hg : a.grownBy b row) (hr : ∀ k, row = some k → w.heap.size ≤ k) : Gr R w b :=
  ⟨hg.os.trans h.os, hg.tape.trans h.tape, hg.output.trans h.output, Nat.le_trans h.size hg.size, fun k hk hne => (hg.block k (Nat.lt_of_lt_of_le hk h.size) (fun e => by have := hr k e.symm; omega)).trans (h.block k hk hne)⟩

/-- What is handed over of a line, behind a sign. -/
theorem cut_sign {c d : UInt8} {s : List UInt8} (h : d = c) : cutS c (d :: s) = (s, true) := by unfold cutS; simp [h]
theorem cut_no {c d : UInt8} {s : List UInt8} (h : d ≠ c) : cutS c (d :: s) = (d :: s, false) := by unfold cutS; simp [h]
theorem some_nil (c : UInt8) (n : Nat) : some_ c (n + 1) [] = none := rfl

/-- How readLines ends. -/
def RLEnd (w : World) (N R : Nat) (o : Option (List (List UInt8) × List UInt8)) (e : Ending) (w' : World) : Prop :=
  match o with
  | some z => ∃ v, e = .returned v ∧ w'.ownsRow w.heap.size 9 1 v z.1.length (z.1.map strV) ∧ Rest w' N R z.2 ∧ Gr R w w'
  | none => e = .panicked bad ∧ Gr R w w'

/-- At the head of readLines' loop. -/
def RLRel (w : World) (N R : Nat) (c : UInt8) (n : Nat) (o : Option (List (List UInt8) × List UInt8)) (v i : Value) (wr : World) : Prop :=
  ∃ (k : Nat) (acc : List (List UInt8)) (r : List UInt8), k ≤ n ∧ i = .int .i64 (k : Int) ∧ acc.length = k ∧ o = (some_ c (n - k) r).map (fun z => (acc ++ z.1, z.2)) ∧
    wr.ownsRow w.heap.size 9 1 v k (acc.map strV) ∧ Rest wr N R r ∧ Gr R w wr

set_option maxHeartbeats 4000000 in
theorem readLines (n : Nat) (c : UInt8) (N R : Nat) (r : List UInt8) (w : World) (hn : n ≤ 1048576) (h : Rest w N R r) :
    Calls Tryz.prog 28 #[.int .i64 (n : Int), strV [c], .func (.func 23) #[] #[.pointer (some ⟨R, 0, none⟩)]] w (RLEnd w N R (some_ c n r)) := by
  obtain ⟨j0, hj, hy0, hy1, hy2⟩ := info_parts info_str
  obtain ⟨o, ho⟩ : ∃ o, some_ c n r = o := ⟨_, rfl⟩
  rw [ho]
  have HO := Lib.hid ho.symm; have HR := Lib.hid h; have HRW := Lib.hid (show R < w.heap.size from h.ex.elim fun A h => h.elim fun c h => h.1.lt)
  clear ho h
  go_enter Tryz.func28, Tryz.ntmps28
  go_wp2
  go_loopw [7, 12] (fun v i wr => RLRel w N R c n o v i wr) (fun _ i _ => n - (intOf i).toNat)
  case atStart => exact ⟨0, [], r, Nat.zero_le _, rfl, rfl, by rw [HO.out, Nat.sub_zero]; cases some_ c n r <;> rfl, World.ownsRow_nil _ _ _ _, HR.out, Gr.refl _ _⟩
  case round =>
    obtain ⟨k, acc, rk, hk, rfl, hacc, hox, hown, hrest, hgr⟩ := hrel
    have HOX := Lib.hid hox; have HW := Lib.hid hown; have HRS := Lib.hid hrest; have HG := Lib.hid hgr; have HAC := Lib.hid hacc
    clear hox hown hrest hgr hacc
    by_cases hlt : k < n
    · obtain ⟨j, hj2⟩ : ∃ j, n - k = j + 1 := ⟨n - k - 1, by omega⟩
      rw [hj2] at HOX
      by_cases hr0 : rk = []
      · subst hr0
        have ho : o = none := by rw [HOX.out]; rfl
        subst ho
        go_wp2_with fail
        refine (next_end N R wr HRS.out).mono ?_
        rintro e w1 ⟨rfl, rfl⟩
        go_wp2_with fail
        refine (CutPrefix c [] wr).mono ?_
        rintro e w1 ⟨rfl, rfl⟩
        rw [show cutS c [] = ([], false) from rfl]
        go_wp2_with fail
        refine (must_no wr).mono ?_
        rintro e w1 ⟨rfl, rfl⟩
        go_wp2
        exact ⟨rfl, rfl, HG.out⟩
      · cases hcut : cutLine rk with
        | none =>
          have ho : o = none := by rw [HOX.out, some_, hcut]; rfl
          subst ho
          have HCU := Lib.hid hcut; clear hcut
          go_wp2_with fail
          refine (next_bad N R rk wr HRS.out hr0 HCU.out).mono ?_
          rintro e w1 ⟨rfl, rfl⟩
          go_wp2
          exact ⟨rfl, rfl, HG.out⟩
        | some z =>
          obtain ⟨s, r'⟩ := z
          have HCU := Lib.hid hcut; clear hcut
          go_wp2_with fail
          refine (next_line N R rk s r' wr HRS.out HCU.out).mono ?_
          rintro e w1 ⟨rfl, hrest1, hgr1⟩
          have HRS1 := Lib.hid hrest1; have HG1 := Lib.hid (HG.out.trans hgr1)
          have HW1 := Lib.hid (HW.out.kept hgr1 (.inr (fun e => by have h1 := own_ge HW.out _ e; have h2 := HRW.out; omega)))
          clear hrest1 hgr1
          go_wp2_with fail
          refine (CutPrefix c s w1).mono ?_
          rintro e w2 ⟨rfl, rfl⟩
          by_cases hs : ∃ s', s = c :: s'
          · obtain ⟨s', rfl⟩ := hs
            rw [cut_sign rfl]
            go_wp2_with fail
            refine (must_yes w1).mono ?_
            rintro e w2 ⟨rfl, rfl⟩
            have hs1 : w.heap.size ≤ w1.heap.size := HG1.out.size
            have hk1 : k ≤ 1048576 := by omega
            go_wp2_with (at_builtin; refine wpList_append_own _ rfl _ _ 30 rfl w.heap.size 9 j0 (.string ⟨#[]⟩) 1 16 Tryz.underlying30 hj hy0 hy1 hy2 rfl (by decide) _ _ _ rfl (own_gr HW1.out (World.grownBy_alloc w1 _ none)) ⟨w1.heap.size, 0, none⟩ 1 1 [strV s'] rfl rfl (cell_one_new _ _ _) (by simp [Value.oneCell']) (by unfold maxLen; omega) (by omega) (by simp; omega) ?_; intro v2 w2 hown2 hgrow2 _)
            have hRW := HRW.out
            have hog := own_ge HW1.out
            have hga := World.grownBy_alloc w1 (.cells #[strV s'] 9) none
            have hrs2 : Rest w2 N R r' := (HRS1.out.gr hga (nn _) (fun b e => by cases e)).gr hgrow2 (fun e => by have := hog R e.symm; omega) (fun b e => by have := hog b e; have := HRS1.out.le; omega)
            have hgr2 : Gr R w w2 := (HG1.out.grown hga (fun b e => by cases e)).grown hgrow2 hog
            refine ⟨⟨k + 1, acc ++ [s'], r', by omega, by go_num, ?_, ?_, ?_, hrs2, hgr2⟩, by simp [intOf]; omega⟩
            · rw [List.length_append, HAC.out]; rfl
            · have h1 := HOX.out
              rw [some_, HCU.out] at h1
              simp only [if_true] at h1
              rw [h1, show n - (k + 1) = j by omega]
              cases some_ c j r' <;> simp
            · rw [List.map_append]; exact hown2
          · have ho : o = none := by
              rw [HOX.out, some_, HCU.out]
              cases s with
              | nil => rfl
              | cons d s =>
                show Option.map _ (if d = c then _ else none) = none
                rw [if_neg (fun e => hs ⟨s, by rw [e]⟩)]
                rfl
            subst ho
            have hc2 : ∃ x, cutS c s = (x, false) := by
              cases s with
              | nil => exact ⟨_, rfl⟩
              | cons d s => exact ⟨_, cut_no (fun e => hs ⟨s, by rw [e]⟩)⟩
            obtain ⟨x, hx⟩ := hc2
            rw [hx]
            clear hs hx
            go_wp2_with fail
            refine (must_no w1).mono ?_
            rintro e w2 ⟨rfl, rfl⟩
            go_wp2
            exact ⟨rfl, rfl, HG1.out⟩
    · have hkn : k = n := by omega
      obtain ⟨A1, c1, e1, hc1, _⟩ := rd_of_own HW.out
      subst e1
      have HE := Lib.hid hkn
      clear hkn
      go_wp2
      go_ret
      have h1 := HOX.out
      have h2 : n - k = 0 := by have := HE.out; omega
      rw [h2] at h1
      subst h1
      have h3 := HAC.out
      refine ⟨_, rfl, ?_, HRS.out, HG.out⟩
      simp only [List.append_nil, h3]
      exact HW.out

end Cd
end Go.Proofs.YtjhjmfodpnipiaaGreatDoor
