/-
  What package tidy's Tidy returns (walk).
-/
import Derived.Test.YtjhjmfodpnipiaaTdWords
import Derived.Test.YtjhjmfodpnipiaaTdUndo
import Derived.Test.YtjhjmfodpnipiaaFlRef2
import Derived.Test.YtjhjmfodpnipiaaFlSteps
set_option maxRecDepth 100000
namespace Go.Proofs.Ytjhjmfodpnipiaa
open Go.RowKit
set_option linter.unusedVariables false
set_option linter.unusedSimpArgs false
namespace Td
open Tx Df Sq Hk Tr Pr Fl

set_option maxRecDepth 100000 in
set_option maxHeartbeats 8000000 in
theorem TightL (A : Option Addr) (n c : Nat) (l : List Ch) (w : World) (b : Bool) (hn : l.length = n) (hle : n ≤ 20000) (hl : Lt l) (hR : RdP w (· < w.heap.size) A l) (hb : tightP l = b) :
    Calls Try.prog 12 #[.slice A n c] w (BoolEnd w b) := by
  have HR := Lib.hid hR; have HN := Lib.hid hn; have HL := Lib.hid hl
  have HB := Lib.hid hb.symm
  clear hR hn hl hb
  go_enter Try.func12, Try.ntmps12
  go_wp2
  go_loopw [7] (fun i wr => ∃ k : Nat, k ≤ n ∧ i = .int .i64 (k : Int) ∧ TightTo l k ∧ Below w.heap.size w wr) (fun i _ => n - (intOf i).toNat)
  case atStart => exact ⟨0, Nat.zero_le _, rfl, tightTo_0 l, Below.refl _ _⟩
  case round =>
    obtain ⟨k, hk, rfl, hall, hbw⟩ := hrel
    have HBW := Lib.hid hbw; have HAL := Lib.hid hall; clear hbw hall
    by_cases hlt : k < n
    · have hki : (k : Int) < (n : Int) := by omega
      obtain ⟨a, x, B1, i1, j1, D, m1, d1, rfl, hS, hx, c0, c1, c2, c3, c4, c5, c6⟩ := ((HR.out.mv HBW.out).elem (k := k) (by rw [HN.out]; exact hlt))
      have HX := Lib.hid hx; have HSA := Lib.hid hS
      have hba : Below wr.heap.size wr (wr.alloc (.cells #[.int .i64 x.k, strV x.nm, strV x.to, .int .i64 x.h.pos, .slice B1 i1 j1, .slice D m1 d1] 39)) := (Below.refl _ _).alloc (Nat.le_refl _) _
      have HPV := Lib.hid (c6.pv.mv hba)
      have HBX := Lib.hid (Blk.new wr 39 #[.int .i64 x.k, strV x.nm, strV x.to, .int .i64 x.h.pos, .slice B1 i1 j1, .slice D m1 d1])
      have HBW1 := Lib.hid (below_mv HBW.out hba)
      have HSA1 := Lib.hid (Nat.lt_of_lt_of_le HSA.out hba.size)
      obtain ⟨bi, hbi⟩ : ∃ b, idleP x = b := ⟨_, rfl⟩
      have HBI := Lib.hid hbi
      clear hx hS c6 hbi hba HSA HBW
      go_upto_region 4 with fail
      clear c0 c1 c2 c3 c4 c5
      generalize (wr.alloc (.cells #[.int .i64 x.k, strV x.nm, strV x.to, .int .i64 x.h.pos, .slice B1 i1 j1, .slice D m1 d1] 39)) = w1 at *
      obtain ⟨y, hy⟩ : ∃ y, wr.heap.size = y := ⟨_, rfl⟩
      rw [hy] at HBX ⊢
      clear hy
      have HCX : Hid (∀ W, Below w1.heap.size w1 W → W.cell? ⟨y, 0, none⟩ = some (.int .i64 x.k) ∧ W.cell? ⟨y, 1, none⟩ = some (strV x.nm) ∧ W.cell? ⟨y, 2, none⟩ = some (strV x.to) ∧ W.cell? ⟨y, 3, none⟩ = some (.int .i64 x.h.pos) ∧ W.cell? ⟨y, 4, none⟩ = some (.slice B1 i1 j1) ∧ W.cell? ⟨y, 5, none⟩ = some (.slice D m1 d1)) := Lib.hid (fun W hb => by
        have h0 := HBX.out.below hb HBX.out.lt
        exact ⟨h0.cell 0 rfl, h0.cell 1 rfl, h0.cell 2 rfl, h0.cell 3 rfl, h0.cell 4 rfl, h0.cell 5 rfl⟩)
      have HD := Lib.hid (below_drewN (Below.refl w1.heap.size w1) 1)
      have C1 := Lib.hid (IdleP B1 i1 j1 D m1 d1 x w1.drew bi (HPV.out.drewN 1) HBI.out)
      obtain ⟨y0, y1, y2, y3, y4, y5⟩ := HCX.out w1 (Below.refl _ _)
      have HBL := Lib.hid HBX.out.lt
      clear HBX
      cases bi with
      | true =>
        refine wp_region_held_drew (S := (fun w' : World => w'.cell? ⟨y, 0, none⟩ = some (.int .i64 x.k) ∧ w'.cell? ⟨y, 1, none⟩ = some (strV x.nm) ∧ w'.cell? ⟨y, 2, none⟩ = some (strV x.to) ∧ w'.cell? ⟨y, 3, none⟩ = some (.int .i64 x.h.pos) ∧ w'.cell? ⟨y, 4, none⟩ = some (.slice B1 i1 j1) ∧ w'.cell? ⟨y, 5, none⟩ = some (.slice D m1 d1))) (by kernel_rfl) (HCX.out w1.drew (below_drewN (Below.refl _ _) 1)) (fun hz => ?_)
        refine wpAnyH_take (i := 0) (v := ?_) rfl (by kernel_rfl) (by kernel_rfl) (by kernel_rfl) (fun _ _ _ h => h) (Or.inl ⟨by rfl, ?_⟩) hz ?_
        rotate_left
        · intro X hX
          obtain ⟨s0, s1, s2, s3, s4, s5⟩ := hX
          go_simp
          try with_reducible rfl
        try simp only [Act.put, List.getElem_toArray, List.getElem_cons_succ, List.getElem_cons_zero, List.setIfInBounds_toArray, List.set_cons_succ, List.set_cons_zero]
        refine wpAnyH_ready (rs := [1]) (by kernel_rfl) (by simp) ?_
        refine AllReadyH.cons rfl (fun K' hK' => ?_) AllReadyH.nil
        go_simp
        refine C1.out.mono ?_
        rintro e w2 ⟨rfl, hb⟩
        have hb2 := below_mv HD.out hb
        refine hK'.out _ _ (HCX.out w2 hb2) (fun hz => ?_)
        clear hK' K' hb
        try simp only [Act.put, List.getElem_toArray, List.getElem_cons_succ, List.getElem_cons_zero, List.setIfInBounds_toArray, List.set_cons_succ, List.set_cons_zero]
        refine wpAnyH_take (i := 2) (v := ?_) rfl (by kernel_rfl) (by kernel_rfl) (by kernel_rfl) (fun _ _ _ h => h) (Or.inl ⟨by rfl, ?_⟩) hz ?_
        rotate_left
        · intro X hX
          obtain ⟨s0, s1, s2, s3, s4, s5⟩ := hX
          go_simp
          try with_reducible rfl
        try simp only [Act.put, List.getElem_toArray, List.getElem_cons_succ, List.getElem_cons_zero, List.setIfInBounds_toArray, List.set_cons_succ, List.set_cons_zero]
        refine wpAnyH_take (i := 3) (v := undef) rfl (by kernel_rfl) (by kernel_rfl) (by kernel_rfl) (fun _ _ _ h => h) (Or.inr ⟨by rfl, rfl⟩) hz ?_
        try simp only [Act.put, List.getElem_toArray, List.getElem_cons_succ, List.getElem_cons_zero, List.setIfInBounds_toArray, List.set_cons_succ, List.set_cons_zero]
        refine wpAnyH_take (i := 4) (v := undef) rfl (by kernel_rfl) (by kernel_rfl) (by kernel_rfl) (fun _ _ _ h => h) (Or.inr ⟨by rfl, rfl⟩) hz ?_
        try simp only [Act.put, List.getElem_toArray, List.getElem_cons_succ, List.getElem_cons_zero, List.setIfInBounds_toArray, List.set_cons_succ, List.set_cons_zero]
        refine wpAnyH_take (i := 5) (v := undef) rfl (by kernel_rfl) (by kernel_rfl) (by kernel_rfl) (fun _ _ _ h => h) (Or.inr ⟨by rfl, rfl⟩) hz ?_
        try simp only [Act.put, List.getElem_toArray, List.getElem_cons_succ, List.getElem_cons_zero, List.setIfInBounds_toArray, List.set_cons_succ, List.set_cons_zero]
        refine wpAnyH_take (i := 6) (v := undef) rfl (by kernel_rfl) (by kernel_rfl) (by kernel_rfl) (fun _ _ _ h => h) (Or.inr ⟨by rfl, rfl⟩) hz ?_
        try simp only [Act.put, List.getElem_toArray, List.getElem_cons_succ, List.getElem_cons_zero, List.setIfInBounds_toArray, List.set_cons_succ, List.set_cons_zero]
        refine wpAnyH_take (i := 7) (v := undef) rfl (by kernel_rfl) (by kernel_rfl) (by kernel_rfl) (fun _ _ _ h => h) (Or.inr ⟨by rfl, rfl⟩) hz ?_
        try simp only [Act.put, List.getElem_toArray, List.getElem_cons_succ, List.getElem_cons_zero, List.setIfInBounds_toArray, List.set_cons_succ, List.set_cons_zero]
        refine wpAnyH_take (i := 8) (v := undef) rfl (by kernel_rfl) (by kernel_rfl) (by kernel_rfl) (fun _ _ _ h => h) (Or.inr ⟨by rfl, rfl⟩) hz ?_
        try simp only [Act.put, List.getElem_toArray, List.getElem_cons_succ, List.getElem_cons_zero, List.setIfInBounds_toArray, List.set_cons_succ, List.set_cons_zero]
        refine wpAnyH_take (i := 9) (v := undef) rfl (by kernel_rfl) (by kernel_rfl) (by kernel_rfl) (fun _ _ _ h => h) (Or.inr ⟨by rfl, rfl⟩) hz ?_
        try simp only [Act.put, List.getElem_toArray, List.getElem_cons_succ, List.getElem_cons_zero, List.setIfInBounds_toArray, List.set_cons_succ, List.set_cons_zero]
        refine wpAnyH_take (i := 10) (v := undef) rfl (by kernel_rfl) (by kernel_rfl) (by kernel_rfl) (fun _ _ _ h => h) (Or.inr ⟨by rfl, rfl⟩) hz ?_
        try simp only [Act.put, List.getElem_toArray, List.getElem_cons_succ, List.getElem_cons_zero, List.setIfInBounds_toArray, List.set_cons_succ, List.set_cons_zero]
        refine wpAnyH_take (i := 11) (v := undef) rfl (by kernel_rfl) (by kernel_rfl) (by kernel_rfl) (fun _ _ _ h => h) (Or.inr ⟨by rfl, rfl⟩) hz ?_
        try simp only [Act.put, List.getElem_toArray, List.getElem_cons_succ, List.getElem_cons_zero, List.setIfInBounds_toArray, List.set_cons_succ, List.set_cons_zero]
        refine wpAnyH_take (i := 12) (v := undef) rfl (by kernel_rfl) (by kernel_rfl) (by kernel_rfl) (fun _ _ _ h => h) (Or.inr ⟨by rfl, rfl⟩) hz ?_
        try simp only [Act.put, List.getElem_toArray, List.getElem_cons_succ, List.getElem_cons_zero, List.setIfInBounds_toArray, List.set_cons_succ, List.set_cons_zero]
        refine wpAnyH_take (i := 13) (v := undef) rfl (by kernel_rfl) (by kernel_rfl) (by kernel_rfl) (fun _ _ _ h => h) (Or.inr ⟨by rfl, rfl⟩) hz ?_
        try simp only [Act.put, List.getElem_toArray, List.getElem_cons_succ, List.getElem_cons_zero, List.setIfInBounds_toArray, List.set_cons_succ, List.set_cons_zero]
        refine wpAnyH_take (i := 14) (v := ?_) rfl (by kernel_rfl) (by kernel_rfl) (by kernel_rfl) (fun _ _ _ h => h) (Or.inl ⟨by rfl, ?_⟩) hz ?_
        rotate_left
        · intro X hX
          obtain ⟨s0, s1, s2, s3, s4, s5⟩ := hX
          go_simp
          try with_reducible rfl
        try simp only [Act.put, List.getElem_toArray, List.getElem_cons_succ, List.getElem_cons_zero, List.setIfInBounds_toArray, List.set_cons_succ, List.set_cons_zero]
        refine wpAnyH_done (by kernel_rfl) ?_ _
        have HBW2 := Lib.hid (below_mv HBW1.out hb2)
        clear y0 y1 y2 y3 y4 y5 hz hb2
        go_wp2
        go_ret
        exact ⟨ret_bool (by rw [HB.out, tightP_false HX.out HBI.out]), HBW2.out⟩
      | false =>
        by_cases h0 : k = 0
        · subst h0
          refine wp_region_held_drew (S := (fun w' : World => w'.cell? ⟨y, 0, none⟩ = some (.int .i64 x.k) ∧ w'.cell? ⟨y, 1, none⟩ = some (strV x.nm) ∧ w'.cell? ⟨y, 2, none⟩ = some (strV x.to) ∧ w'.cell? ⟨y, 3, none⟩ = some (.int .i64 x.h.pos) ∧ w'.cell? ⟨y, 4, none⟩ = some (.slice B1 i1 j1) ∧ w'.cell? ⟨y, 5, none⟩ = some (.slice D m1 d1))) (by kernel_rfl) (HCX.out w1.drew (below_drewN (Below.refl _ _) 1)) (fun hz => ?_)
          refine wpAnyH_take (i := 0) (v := ?_) rfl (by kernel_rfl) (by kernel_rfl) (by kernel_rfl) (fun _ _ _ h => h) (Or.inl ⟨by rfl, ?_⟩) hz ?_
          rotate_left
          · intro X hX
            obtain ⟨s0, s1, s2, s3, s4, s5⟩ := hX
            go_simp
            try with_reducible rfl
          try simp only [Act.put, List.getElem_toArray, List.getElem_cons_succ, List.getElem_cons_zero, List.setIfInBounds_toArray, List.set_cons_succ, List.set_cons_zero]
          refine wpAnyH_ready (rs := [1]) (by kernel_rfl) (by simp) ?_
          refine AllReadyH.cons rfl (fun K' hK' => ?_) AllReadyH.nil
          go_simp
          refine C1.out.mono ?_
          rintro e w2 ⟨rfl, hb⟩
          have hb2 := below_mv HD.out hb
          refine hK'.out _ _ (HCX.out w2 hb2) (fun hz => ?_)
          clear hK' K' hb
          try simp only [Act.put, List.getElem_toArray, List.getElem_cons_succ, List.getElem_cons_zero, List.setIfInBounds_toArray, List.set_cons_succ, List.set_cons_zero]
          refine wpAnyH_take (i := 2) (v := ?_) rfl (by kernel_rfl) (by kernel_rfl) (by kernel_rfl) (fun _ _ _ h => h) (Or.inl ⟨by rfl, ?_⟩) hz ?_
          rotate_left
          · intro X hX
            obtain ⟨s0, s1, s2, s3, s4, s5⟩ := hX
            go_simp
            try with_reducible rfl
          try simp only [Act.put, List.getElem_toArray, List.getElem_cons_succ, List.getElem_cons_zero, List.setIfInBounds_toArray, List.set_cons_succ, List.set_cons_zero]
          refine wpAnyH_take (i := 3) (v := ?_) rfl (by kernel_rfl) (by kernel_rfl) (by kernel_rfl) (fun _ _ _ h => h) (Or.inl ⟨by rfl, ?_⟩) hz ?_
          rotate_left
          · intro X hX
            obtain ⟨s0, s1, s2, s3, s4, s5⟩ := hX
            go_simp
            try with_reducible rfl
          try simp only [Act.put, List.getElem_toArray, List.getElem_cons_succ, List.getElem_cons_zero, List.setIfInBounds_toArray, List.set_cons_succ, List.set_cons_zero]
          refine wpAnyH_take (i := 4) (v := ?_) rfl (by kernel_rfl) (by kernel_rfl) (by kernel_rfl) (fun _ _ _ h => h) (Or.inl ⟨by rfl, ?_⟩) hz ?_
          rotate_left
          · intro X hX
            obtain ⟨s0, s1, s2, s3, s4, s5⟩ := hX
            go_simp
            try with_reducible rfl
          try simp only [Act.put, List.getElem_toArray, List.getElem_cons_succ, List.getElem_cons_zero, List.setIfInBounds_toArray, List.set_cons_succ, List.set_cons_zero]
          refine wpAnyH_take (i := 5) (v := ?_) rfl (by kernel_rfl) (by kernel_rfl) (by kernel_rfl) (fun _ _ _ h => h) (Or.inl ⟨by rfl, ?_⟩) hz ?_
          rotate_left
          · intro X hX
            obtain ⟨s0, s1, s2, s3, s4, s5⟩ := hX
            go_simp
            try with_reducible rfl
          try simp only [Act.put, List.getElem_toArray, List.getElem_cons_succ, List.getElem_cons_zero, List.setIfInBounds_toArray, List.set_cons_succ, List.set_cons_zero]
          refine wpAnyH_take (i := 6) (v := undef) rfl (by kernel_rfl) (by kernel_rfl) (by kernel_rfl) (fun _ _ _ h => h) (Or.inr ⟨by rfl, rfl⟩) hz ?_
          try simp only [Act.put, List.getElem_toArray, List.getElem_cons_succ, List.getElem_cons_zero, List.setIfInBounds_toArray, List.set_cons_succ, List.set_cons_zero]
          refine wpAnyH_take (i := 7) (v := undef) rfl (by kernel_rfl) (by kernel_rfl) (by kernel_rfl) (fun _ _ _ h => h) (Or.inr ⟨by rfl, rfl⟩) hz ?_
          try simp only [Act.put, List.getElem_toArray, List.getElem_cons_succ, List.getElem_cons_zero, List.setIfInBounds_toArray, List.set_cons_succ, List.set_cons_zero]
          refine wpAnyH_take (i := 8) (v := undef) rfl (by kernel_rfl) (by kernel_rfl) (by kernel_rfl) (fun _ _ _ h => h) (Or.inr ⟨by rfl, rfl⟩) hz ?_
          try simp only [Act.put, List.getElem_toArray, List.getElem_cons_succ, List.getElem_cons_zero, List.setIfInBounds_toArray, List.set_cons_succ, List.set_cons_zero]
          refine wpAnyH_take (i := 9) (v := undef) rfl (by kernel_rfl) (by kernel_rfl) (by kernel_rfl) (fun _ _ _ h => h) (Or.inr ⟨by rfl, rfl⟩) hz ?_
          try simp only [Act.put, List.getElem_toArray, List.getElem_cons_succ, List.getElem_cons_zero, List.setIfInBounds_toArray, List.set_cons_succ, List.set_cons_zero]
          refine wpAnyH_take (i := 10) (v := undef) rfl (by kernel_rfl) (by kernel_rfl) (by kernel_rfl) (fun _ _ _ h => h) (Or.inr ⟨by rfl, rfl⟩) hz ?_
          try simp only [Act.put, List.getElem_toArray, List.getElem_cons_succ, List.getElem_cons_zero, List.setIfInBounds_toArray, List.set_cons_succ, List.set_cons_zero]
          refine wpAnyH_take (i := 11) (v := undef) rfl (by kernel_rfl) (by kernel_rfl) (by kernel_rfl) (fun _ _ _ h => h) (Or.inr ⟨by rfl, rfl⟩) hz ?_
          try simp only [Act.put, List.getElem_toArray, List.getElem_cons_succ, List.getElem_cons_zero, List.setIfInBounds_toArray, List.set_cons_succ, List.set_cons_zero]
          refine wpAnyH_take (i := 12) (v := undef) rfl (by kernel_rfl) (by kernel_rfl) (by kernel_rfl) (fun _ _ _ h => h) (Or.inr ⟨by rfl, rfl⟩) hz ?_
          try simp only [Act.put, List.getElem_toArray, List.getElem_cons_succ, List.getElem_cons_zero, List.setIfInBounds_toArray, List.set_cons_succ, List.set_cons_zero]
          refine wpAnyH_take (i := 13) (v := ?_) rfl (by kernel_rfl) (by kernel_rfl) (by kernel_rfl) (fun _ _ _ h => h) (Or.inl ⟨by rfl, ?_⟩) hz ?_
          rotate_left
          · intro X hX
            obtain ⟨s0, s1, s2, s3, s4, s5⟩ := hX
            go_simp
            try with_reducible rfl
          try simp only [Act.put, List.getElem_toArray, List.getElem_cons_succ, List.getElem_cons_zero, List.setIfInBounds_toArray, List.set_cons_succ, List.set_cons_zero]
          refine wpAnyH_take (i := 14) (v := ?_) rfl (by kernel_rfl) (by kernel_rfl) (by kernel_rfl) (fun _ _ _ h => h) (Or.inl ⟨by rfl, ?_⟩) hz ?_
          rotate_left
          · intro X hX
            obtain ⟨s0, s1, s2, s3, s4, s5⟩ := hX
            go_simp
            try with_reducible rfl
          try simp only [Act.put, List.getElem_toArray, List.getElem_cons_succ, List.getElem_cons_zero, List.setIfInBounds_toArray, List.set_cons_succ, List.set_cons_zero]
          refine wpAnyH_done (by kernel_rfl) ?_ _
          have HBW2 := Lib.hid (below_mv HBW1.out hb2)
          clear y0 y1 y2 y3 y4 y5 hz hb2
          go_wp2_with fail
          exact ⟨⟨0 + 1, by omega, by go_num, tightTo_1 HX.out HBI.out, HBW2.out⟩, by simp [intOf]; omega⟩
        · obtain ⟨j, hjk⟩ : ∃ j, k = j + 1 := ⟨k - 1, by omega⟩
          have hjm : (k : Int) - 1 = (j : Int) := by omega
          have hjl : (j : Int) < (n : Int) := by omega
          have hjp : (0 : Int) ≤ (j : Int) := by omega
          have hj0 : (0 : Int) < (k : Int) := by omega
          have hg1 : decide ((0 : Int) < (k : Int)) = true := decide_eq_true hj0
          have hg2 : decide (0 < k) = true := decide_eq_true (by omega)
          have hg3 : decide ((k : Int) < 0) = false := decide_eq_false (by omega)
          have hg4 : ((k : Int) == 0) = false := by rw [beq_eq_false_iff_ne]; omega
          have hj1 : j ≤ 20000 := by omega
          have hjw : IntKind.i64.wrap (j : Int) = (j : Int) := IntWalk.i64_in _ (by omega)
          have HJN : Hid (j < n) := Lib.hid (by omega)
          have HKJ := Lib.hid hjk
          clear hjk
          obtain ⟨a', o, E, r, s, E', r', s', ea, _, hoj, q0, q1, q2, q3, q4, q5, q6⟩ := ((HR.out.mv HBW1.out).elem (k := j) (by rw [HN.out]; exact HJN.out))
          injection ea with ea
          subst ea
          have HOJ := Lib.hid hoj
          have HLO := Lib.hid (lt_len q6 (HL.out o (List.mem_of_getElem? hoj)))
          have HPO := Lib.hid q6.pv
          obtain ⟨bu, hbu⟩ : ∃ b, decide (x = turnP o) = b := ⟨_, rfl⟩
          have HBU := Lib.hid hbu
          have HK : Hid (∀ W, Below w1.heap.size w1 W → W.cell? ⟨y, 0, none⟩ = some (.int .i64 x.k) ∧ W.cell? ⟨y, 1, none⟩ = some (strV x.nm) ∧ W.cell? ⟨y, 2, none⟩ = some (strV x.to) ∧ W.cell? ⟨y, 3, none⟩ = some (.int .i64 x.h.pos) ∧ W.cell? ⟨y, 4, none⟩ = some (.slice B1 i1 j1) ∧ W.cell? ⟨y, 5, none⟩ = some (.slice D m1 d1) ∧ W.cell? (a.add (j * 6)) = some (.int .i64 o.k) ∧ W.cell? ⟨(a.add (j * 6)).block, (a.add (j * 6)).off + 1, none⟩ = some (strV o.nm) ∧ W.cell? ⟨(a.add (j * 6)).block, (a.add (j * 6)).off + 2, none⟩ = some (strV o.to) ∧ W.cell? ⟨(a.add (j * 6)).block, (a.add (j * 6)).off + 3, none⟩ = some (.int .i64 o.h.pos) ∧ W.cell? ⟨(a.add (j * 6)).block, (a.add (j * 6)).off + 4, none⟩ = some (.slice E r s) ∧ W.cell? ⟨(a.add (j * 6)).block, (a.add (j * 6)).off + 5, none⟩ = some (.slice E' r' s')) := Lib.hid (fun W hb => by
            have hg2 : (a.add (j * 6)).block < w1.heap.size := by rw [add_block]; exact HSA1.out
            obtain ⟨z0, z1, z2, z3, z4, z5⟩ := HCX.out W hb
            exact ⟨z0, z1, z2, z3, z4, z5, cell_b hb q0 hg2, cell_b hb q1 hg2, cell_b hb q2 hg2, cell_b hb q3 hg2, cell_b hb q4 hg2, cell_b hb q5 hg2⟩)
          have C2 : Hid (∀ W, Below w1.heap.size w1 W → Calls Try.prog 29 #[prV x.k x.nm x.to x.h.pos B1 i1 j1 D m1 d1, prV o.k o.nm o.to o.h.pos E r s E' r' s'] W (TestEnd W bu)) := Lib.hid (fun W hb => undoes B1 i1 j1 D m1 d1 E r s E' r' s' x o W bu (HPV.out.mv hb) (HPO.out.mv hb) HLO.out hbu)
          clear hoj q6 hbu
          go_region_held3 (fun W => W.cell? ⟨y, 0, none⟩ = some (.int .i64 x.k) ∧ W.cell? ⟨y, 1, none⟩ = some (strV x.nm) ∧ W.cell? ⟨y, 2, none⟩ = some (strV x.to) ∧ W.cell? ⟨y, 3, none⟩ = some (.int .i64 x.h.pos) ∧ W.cell? ⟨y, 4, none⟩ = some (.slice B1 i1 j1) ∧ W.cell? ⟨y, 5, none⟩ = some (.slice D m1 d1) ∧ W.cell? (a.add (j * 6)) = some (.int .i64 o.k) ∧ W.cell? ⟨(a.add (j * 6)).block, (a.add (j * 6)).off + 1, none⟩ = some (strV o.nm) ∧ W.cell? ⟨(a.add (j * 6)).block, (a.add (j * 6)).off + 2, none⟩ = some (strV o.to) ∧ W.cell? ⟨(a.add (j * 6)).block, (a.add (j * 6)).off + 3, none⟩ = some (.int .i64 o.h.pos) ∧ W.cell? ⟨(a.add (j * 6)).block, (a.add (j * 6)).off + 4, none⟩ = some (.slice E r s) ∧ W.cell? ⟨(a.add (j * 6)).block, (a.add (j * 6)).off + 5, none⟩ = some (.slice E' r' s'))
            (first | go_keep | (with_reducible exact hz) | (with_reducible exact hz3))
            (first
              | (go_at_call 28; (with_reducible refine C1.out.mono ?_); rintro e w2 ⟨rfl, hb⟩; have hb2 := below_mv HD.out hb; have hz := HK.out w2 hb2; have HB2 := Lib.hid hb2; clear hb hb2)
              | (go_at_call 29; (with_reducible refine (C2.out w2 HB2.out).mono ?_); rintro e w3 ⟨rfl, hb⟩; have hb3 := below_mv HB2.out hb; have hz3 := HK.out w3 hb3; have HB3 := Lib.hid hb3; clear hb hb3))
          have HBW4 := Lib.hid (below_mv HBW1.out HB3.out)
          clear y0 y1 y2 y3 y4 y5 q0 q1 q2 q3 q4 q5 hz hz3 HK C1 C2 HB2 HB3 HD HBW1
          cases bu with
          | true =>
            go_wp2
            go_ret
            exact ⟨ret_bool (by rw [HB.out, tightP_undone (HKJ.out ▸ HX.out) HOJ.out HBU.out]), HBW4.out⟩
          | false =>
            go_wp2_with fail
            exact ⟨⟨k + 1, by omega, by go_num, by have h1 := HAL.out; have h2 := HX.out; rw [HKJ.out] at h1 h2 ⊢; exact tightTo_step h1 h2 HOJ.out HBI.out HBU.out, HBW4.out⟩, by simp [intOf]; omega⟩
    · go_wp2
      go_ret
      exact ⟨ret_bool (by rw [HB.out, tightTo_all HAL.out (by rw [HN.out]; omega)]), HBW.out⟩

end Td
end Go.Proofs.Ytjhjmfodpnipiaa
