/-
  What the mover's next of layer 5 returns (walk): the hunk of an edit; the mover moves on.
-/
import Derived.Test.YtjhjmfodpnipiaaGH
import Derived.Test.YtjhjmfodpnipiaaGD
import Derived.IntWalk
set_option maxRecDepth 100000
namespace Go.Proofs.Ytjhjmfodpnipiaa
open Go.RowKit
set_option linter.unusedVariables false
namespace Hk
open Tx Df

/-- How next ends. -/
def NextEnd (w : World) (mb : Nat) (A : Option Addr) (n c : Nat) (mv : Int) (i o : Nat) (D : Option Addr) (m cn : Nat) (a : List (List UInt8)) (e : Ending) (w' : World) : Prop :=
  ∃ D1 k1, e = .returned (hkV (i + mv) D1 o k1 D m cn) ∧ w'.ownsRow w.heap.size 9 1 (.slice D1 o k1) o ((mid a i (i + o)).map strV) ∧
    Blk w' mb 85 #[.slice A n c, .int .i64 (mv + m - o)] ∧ w.grownBy w' (some mb)

/-- What is known in the midst of next: the hunk lies at T. -/
structure Mid (W : World) (g mb i o : Nat) (D : Option Addr) (m cn : Nat) (A : Option Addr) (n c : Nat) (mv : Int) (D1 : Option Addr) (k1 q : Nat) (xs : List Value) (T : Nat) (W3 : World) : Prop where
  fe : Blk W3 g 90 #[.int .i64 (i : Int), .int .i64 (o : Int), .slice D m cn]
  fm : Blk W3 mb 85 #[.slice A n c, .int .i64 mv]
  ft : Blk W3 T 37 #[.int .i64 ((i : Int) + mv), .slice D1 (q - i) k1, .slice D m cn]
  fh : Blk W3 (g + 1) 37 #[.int .i64 0, .slice none 0 0, .slice none 0 0]
  fr : W3.ownsRow W.heap.size 9 1 (.slice D1 (q - i) k1) (q - i) xs
  fg : W.grownBy W3 none
  fl : W.heap.size ≤ T

theorem gr_set3 {W W' : World} {b : Nat} (h : W.grownBy W' none) (hb : W.heap.size ≤ b) (v0 v1 v2 : Value) : W.grownBy (((W'.setCell ⟨b, 0, none⟩ v0).setCell ⟨b, 1, none⟩ v1).setCell ⟨b, 2, none⟩ v2) none := by
  have hne : ∀ k, k < W.heap.size → some k ≠ some b := fun k hk e => by injection e; omega
  have s : ∀ {X : World} (j : Nat) (v : Value), W.grownBy X none → W.grownBy (X.setCell ⟨b, j, none⟩ v) none := fun {X} j v h => by
    have g := grownBy_set X b j v
    exact ⟨g.os.trans h.os, g.tape.trans h.tape, g.output.trans h.output, Nat.le_trans h.size g.size, fun k hk _ => (g.block k (Nat.lt_of_lt_of_le hk h.size) (hne k hk)).trans (h.block k hk (nn k))⟩
  exact s 2 v2 (s 1 v1 (s 0 v0 h))

theorem mid_one {W w1 : World} {g mb i o : Nat} {D : Option Addr} {m cn : Nat} {A : Option Addr} {n c : Nat} {mv : Int} {D1 : Option Addr} {k1 q base : Nat} {xs : List Value} {T : Nat} (hE : Blk W g 90 #[.int .i64 (i : Int), .int .i64 (o : Int), .slice D m cn]) (hM : Blk W mb 85 #[.slice A n c, .int .i64 mv])
    (hH : Blk W (g + 1) 37 #[.int .i64 0, .slice none 0 0, .slice none 0 0])
    (hr : w1.ownsRow base 9 1 (.slice D1 (q - i) k1) (q - i) xs) (hb : W.heap.size ≤ base) (hg : W.grownBy w1 none) {v0 v1 v2 : Value} (ht : Blk w1 T 37 #[v0, v1, v2]) (hT : W.heap.size ≤ T) :
    Mid W g mb i o D m cn A n c mv D1 k1 q xs T (((w1.setCell ⟨T, 0, none⟩ (.int .i64 ((i : Int) + mv))).setCell ⟨T, 1, none⟩ (.slice D1 (q - i) k1)).setCell ⟨T, 2, none⟩ (.slice D m cn)) := by
  have hG := gr_set3 hg hT (.int .i64 ((i : Int) + mv)) (.slice D1 (q - i) k1) (.slice D m cn)
  refine ⟨hE.gr hG (nn _), hM.gr hG (nn _), ((ht.set 0 _).set 1 _).set 2 _, hH.gr hG (nn _), own_set3 (own_mono hr hb) ht (by decide) _ _ _, hG, hT⟩

theorem mid_two {W w1 : World} {g mb i o : Nat} {D : Option Addr} {m cn : Nat} {A : Option Addr} {n c : Nat} {mv : Int} {D1 : Option Addr} {k1 q base : Nat} {xs : List Value} (hE : Blk W g 90 #[.int .i64 (i : Int), .int .i64 (o : Int), .slice D m cn]) (hM : Blk W mb 85 #[.slice A n c, .int .i64 mv])
    (hH : Blk W (g + 1) 37 #[.int .i64 0, .slice none 0 0, .slice none 0 0]) (hr : w1.ownsRow base 9 1 (.slice D1 (q - i) k1) (q - i) xs) (hb : W.heap.size ≤ base) (hg : W.grownBy w1 none) :
    Mid W g mb i o D m cn A n c mv D1 k1 q xs w1.heap.size (w1.alloc (.cells #[.int .i64 ((i : Int) + mv), .slice D1 (q - i) k1, .slice D m cn] 37)) := by
  have g1 := World.grownBy_alloc w1 (.cells #[.int .i64 ((i : Int) + mv), .slice D1 (q - i) k1, .slice D m cn] 37) none
  have hG := hg.trans g1
  exact ⟨hE.gr hG (nn _), hM.gr hG (nn _), Blk.new w1 _ _, hH.gr hG (nn _), own_gr (own_mono hr hb) g1, hG, hg.size⟩

/-- What is known when the mover has moved. -/
structure Late (W : World) (g mb : Nat) (A : Option Addr) (n c : Nat) (mv' : Int) (D1 : Option Addr) (k1 l : Nat) (xs : List Value) (D : Option Addr) (m cn : Nat) (v0 : Value) (T : Nat) (W4 : World) : Prop where
  ft : Blk W4 T 37 #[v0, .slice D1 l k1, .slice D m cn]
  fh : Blk W4 (g + 1) 37 #[.int .i64 0, .slice none 0 0, .slice none 0 0]
  fm : Blk W4 mb 85 #[.slice A n c, .int .i64 mv']
  fr : W4.ownsRow W.heap.size 9 1 (.slice D1 l k1) l xs
  fg : W.grownBy W4 (some mb)

theorem late_of {W W3 : World} {g mb i o : Nat} {D : Option Addr} {m cn : Nat} {A : Option Addr} {n c : Nat} {mv : Int} {D1 : Option Addr} {k1 q : Nat} {xs : List Value} {T : Nat} (F : Mid W g mb i o D m cn A n c mv D1 k1 q xs T W3) (hmb : mb < W.heap.size) (hmg : mb < g) (mv' : Int) :
    Late W g mb A n c mv' D1 k1 (q - i) xs D m cn (.int .i64 ((i : Int) + mv)) T (W3.setCell ⟨mb, 1, none⟩ (.int .i64 mv')).drew := by
  refine ⟨(F.ft.set_ne (by have := F.fl; omega) 1 _).drewN 1, (F.fh.set_ne (by omega) 1 _).drewN 1, (F.fm.set 1 _).drewN 1, (own_setT F.fr F.fm (by decide) 1 _).drew, ?_⟩
  have g1 := grownBy_set W3 mb 1 (.int .i64 mv')
  exact ⟨g1.os.trans F.fg.os, g1.tape.trans F.fg.tape, g1.output.trans F.fg.output, Nat.le_trans F.fg.size g1.size, fun k hk hne => (g1.block k (Nat.lt_of_lt_of_le hk F.fg.size) hne).trans (F.fg.block k hk (nn k))⟩

theorem next_end {w W W4 : World} {g mb : Nat} {A : Option Addr} {n c : Nat} {mv : Int} {i o : Nat} {D : Option Addr} {m cn : Nat} {a : List (List UInt8)} {D1 : Option Addr} {k1 q T : Nat}
    (L : Late W g mb A n c (mv + ((m : Int) - (o : Int))) D1 k1 (q - i) ((mid a i q).map strV) D m cn (.int .i64 ((i : Int) + mv)) T W4) (hw : w.grownBy W none) (hg : w.heap.size = g) (hmg : mb < g) (hq : i + o = q) :
    NextEnd w mb A n c mv i o D m cn a (.returned (hkV (i + mv) D1 (q - i) k1 D m cn)) (((W4.setCell ⟨g + 1, 0, none⟩ (.int .i64 ((i : Int) + mv))).setCell ⟨g + 1, 1, none⟩ (.slice D1 (q - i) k1)).setCell ⟨g + 1, 2, none⟩ (.slice D m cn)) := by
  subst hq
  rw [show i + o - i = o by omega] at L ⊢
  refine ⟨D1, k1, rfl, own_mono (own_set3 L.fr L.fh (by decide) _ _ _) hw.size, ?_, ?_⟩
  · have := ((L.fm.set_ne (b' := g + 1) (by omega) 0 (.int .i64 ((i : Int) + mv))).set_ne (b' := g + 1) (by omega) 1 (.slice D1 o k1)).set_ne (b' := g + 1) (by omega) 2 (.slice D m cn)
    rw [show mv + ((m : Int) - (o : Int)) = mv + m - o by omega] at this
    exact this
  · have s : ∀ {X : World} (j : Nat) (v : Value), w.grownBy X (some mb) → w.grownBy (X.setCell ⟨g + 1, j, none⟩ v) (some mb) := fun {X} j v h => by
      have e := grownBy_set X (g + 1) j v
      exact ⟨e.os.trans h.os, e.tape.trans h.tape, e.output.trans h.output, Nat.le_trans h.size e.size, fun k hk hne => (e.block k (Nat.lt_of_lt_of_le hk h.size) (fun eq => by injection eq; omega)).trans (h.block k hk hne)⟩
    exact s 2 _ (s 1 _ (s 0 _ ⟨L.fg.os.trans hw.os, L.fg.tape.trans hw.tape, L.fg.output.trans hw.output, Nat.le_trans hw.size L.fg.size, fun k hk hne => (L.fg.block k (Nat.lt_of_lt_of_le hk hw.size) hne).trans (hw.block k hk (nn k))⟩))

set_option maxRecDepth 100000 in
set_option maxHeartbeats 4000000 in
theorem next (mb : Nat) (A : Option Addr) (n c : Nat) (mv : Int) (i o : Nat) (D : Option Addr) (m cn B : Nat) (a : List (List UInt8)) (w : World) (hB : B ≤ w.heap.size) (hM : Blk w mb 85 #[.slice A n c, .int .i64 mv])
    (hn : a.length = n) (hc : n ≤ c) (h0 : n ≤ 1000) (hR : RdS w B A a) (hio : i + o ≤ n) (hnn : m ≤ 1000) (hmv : -1000000 ≤ mv) (hmv' : mv ≤ 1000000) :
    Calls Try.prog 66 #[.pointer (some ⟨mb, 0, none⟩), .agg #[.int .i64 (i : Int), .int .i64 (o : Int), .slice D m cn]] w (NextEnd w mb A n c mv i o D m cn a) := by
  have HN := Lib.hid hn; have HR0 := Lib.hid hR; have HM := Lib.hid hM
  clear hn hR hM
  go_enter Try.func66, Try.ntmps66
  go_wp2_with fail
  have be := (Blk.new w 90 #[.int .i64 (i : Int), .int .i64 (o : Int), .slice D m cn]).alloc (.cells #[.int .i64 0, .slice none 0 0, .slice none 0 0] 37)
  have bh := Blk.new (w.alloc (.cells #[.int .i64 (i : Int), .int .i64 (o : Int), .slice D m cn] 90)) 37 #[.int .i64 0, .slice none 0 0, .slice none 0 0]
  have bm := (HM.out.alloc (.cells #[.int .i64 (i : Int), .int .i64 (o : Int), .slice D m cn] 90)).alloc (.cells #[.int .i64 0, .slice none 0 0, .slice none 0 0] 37)
  have hw : w.grownBy ((w.alloc (.cells #[.int .i64 (i : Int), .int .i64 (o : Int), .slice D m cn] 90)).alloc (.cells #[.int .i64 0, .slice none 0 0, .slice none 0 0] 37)) none := (World.grownBy_alloc w _ none).trans (World.grownBy_alloc _ _ none)
  simp only [World.size_alloc] at bh
  generalize hW : (w.alloc (.cells #[.int .i64 (i : Int), .int .i64 (o : Int), .slice D m cn] 90)).alloc (.cells #[.int .i64 0, .slice none 0 0, .slice none 0 0] 37) = W at *
  clear hW
  obtain ⟨g, hgs⟩ : ∃ g, w.heap.size = g := ⟨_, rfl⟩
  have hmg : mb < w.heap.size := HM.out.lt
  rw [hgs] at be bh hmg ⊢
  have HGS := Lib.hid hgs; clear hgs
  have HW := Lib.hid hw; have BE := Lib.hid be; have BH := Lib.hid bh; have BM := Lib.hid bm; clear hw be bh bm
  have R1 := Lib.hid (Rd.below HR0.out ((below_gr HW.out).mono hB))
  have HBW : Hid (B ≤ W.heap.size) := Lib.hid (Nat.le_trans hB HW.out.size)
  obtain ⟨q, hq⟩ : ∃ q, i + o = q := ⟨_, rfl⟩
  have HQ := Lib.hid hq
  have HL : Hid ((mid a i q).length = q - i) := Lib.hid (by rw [mid_len (by rw [HN.out]; omega)])
  have hD := Rd.take (Rd.drop R1.out (k := i) (cap := c) (by rw [List.length_map, HN.out]; exact hc)) (q - i)
  have hmm : (((a.map strV).drop i).take (q - i)) = (mid a i q).map strV := mid_map.symm
  rw [hmm] at hD
  clear hmm R1 HR0 hB
  have x0 : W.cell? ⟨g, 0, none⟩ = some (.int .i64 (i : Int)) := BE.out.cell 0 rfl
  have x1 : W.cell? ⟨g, 1, none⟩ = some (.int .i64 (o : Int)) := BE.out.cell 1 rfl
  have x2 : W.cell? ⟨g, 2, none⟩ = some (.slice D m cn) := BE.out.cell 2 rfl
  have x3 : W.cell? ⟨mb, 0, none⟩ = some (.slice A n c) := BM.out.cell 0 rfl
  have x4 : W.cell? ⟨mb, 1, none⟩ = some (.int .i64 mv) := BM.out.cell 1 rfl
  have ho : q - i ≤ 1000000 := by omega
  have t1 : (0 : Int) ≤ (i : Int) := by omega
  have t2 : (i : Int) ≤ (q : Int) := by omega
  have t3 : (q : Int) ≤ (c : Int) := by omega
  have s1 : IntKind.i64.wrap ((i : Int) + (o : Int)) = (q : Int) := by rw [IntWalk.i64_in _ (by omega)]; omega
  have s2 : IntKind.i64.wrap ((i : Int) + mv) = (i : Int) + mv := IntWalk.i64_in _ (by omega)
  clear hq
  have HLG : Hid (g < W.heap.size) := Lib.hid BE.out.lt
  have HLM : Hid (mb < W.heap.size) := Lib.hid BM.out.lt
  obtain hci | hci' := Classical.em (i = c)
  · subst hci
    rw [if_pos rfl] at hD
    have HD := Lib.hid hD; clear hD
    go_region_held3 (fun w' => w'.cell? ⟨g, 0, none⟩ = some (.int .i64 (i : Int)) ∧ w'.cell? ⟨g, 1, none⟩ = some (.int .i64 (o : Int)) ∧ w'.cell? ⟨g, 2, none⟩ = some (.slice D m cn) ∧ w'.cell? ⟨mb, 0, none⟩ = some (.slice A n i) ∧ w'.cell? ⟨mb, 1, none⟩ = some (.int .i64 mv))
      (first
        | go_keep
        | (exact ⟨y0, y1, y2, y3, y4⟩)
        | (exact ⟨cell_set3 y0 (Nat.ne_of_lt HLG.out) _ _ _, cell_set3 y1 (Nat.ne_of_lt HLG.out) _ _ _, cell_set3 y2 (Nat.ne_of_lt HLG.out) _ _ _, cell_set3 y3 (Nat.ne_of_lt HLM.out) _ _ _, cell_set3 y4 (Nat.ne_of_lt HLM.out) _ _ _⟩)
        | (exact ⟨cell_set3 (cell_alc _ y0) (Nat.ne_of_lt HLG1.out) _ _ _, cell_set3 (cell_alc _ y1) (Nat.ne_of_lt HLG1.out) _ _ _, cell_set3 (cell_alc _ y2) (Nat.ne_of_lt HLG1.out) _ _ _, cell_set3 (cell_alc _ y3) (Nat.ne_of_lt HLM1.out) _ _ _, cell_set3 (cell_alc _ y4) (Nat.ne_of_lt HLM1.out) _ _ _⟩))
      (first
        | (go_at_call 81; refine (own _ _ (q - i) B (mid a i q) W.drew HL.out ho (Rd.drewN HD.out 1)).mono ?_; rintro e w1 ⟨D1, k1, rfl, hr1, hg1⟩;
            have y0 := cell_gr hg1 (nn _) x0; have y1 := cell_gr hg1 (nn _) x1; have y2 := cell_gr hg1 (nn _) x2; have y3 := cell_gr hg1 (nn _) x3; have y4 := cell_gr hg1 (nn _) x4;
            have HLG1 := Lib.hid (Nat.lt_of_lt_of_le HLG.out hg1.size); have HLM1 := Lib.hid (Nat.lt_of_lt_of_le HLM.out hg1.size); have HR1 := Lib.hid hr1; have HG1 := Lib.hid (gr_of_drewN (d := 1) hg1); clear hr1 hg1)
        | (go_at_call 81; refine (own _ _ (q - i) B (mid a i q) (W.alloc (.cells #[.int .i64 0, .slice none 0 0, .slice none 0 0] 37)).drew HL.out ho (Rd.drewN (rd_alloc HD.out HBW.out _) 1)).mono ?_; rintro e w1 ⟨D1, k1, rfl, hr1, hg1⟩;
            have y0 := cell_gr hg1 (nn _) (cell_alc _ x0); have y1 := cell_gr hg1 (nn _) (cell_alc _ x1); have y2 := cell_gr hg1 (nn _) (cell_alc _ x2); have y3 := cell_gr hg1 (nn _) (cell_alc _ x3); have y4 := cell_gr hg1 (nn _) (cell_alc _ x4);
            have bt := ((Blk.new W 37 #[.int .i64 0, .slice none 0 0, .slice none 0 0]).drewN 1).gr hg1 (nn _);
            have q0 : w1.cell? ⟨W.heap.size, 0, none⟩ = some (.int .i64 0) := bt.cell 0 rfl; have q1 : w1.cell? ⟨W.heap.size, 1, none⟩ = some (.slice none 0 0) := bt.cell 1 rfl; have q2 : w1.cell? ⟨W.heap.size, 2, none⟩ = some (.slice none 0 0) := bt.cell 2 rfl; have f0 := bt.frozen 0; have f1 := bt.frozen 1; have f2 := bt.frozen 2;
            have BT := Lib.hid bt; have HR1 := Lib.hid hr1; have HG1 := Lib.hid ((gr_drewN (World.grownBy_alloc W (.cells #[.int .i64 0, .slice none 0 0, .slice none 0 0] 37) none) 1).trans hg1); clear bt hr1 hg1))
    all_goals
      clear s1 s2
    all_goals first
      | (have F := mid_one (i := i) (mv := mv) BE.out BM.out BH.out HR1.out (by show W.heap.size ≤ (W.alloc _).heap.size; simp) HG1.out BT.out (Nat.le_refl _)
         generalize (((w1.setCell ⟨W.heap.size, 0, none⟩ (.int .i64 ((i : Int) + mv))).setCell ⟨W.heap.size, 1, none⟩ (.slice D1 (q - i) k1)).setCell ⟨W.heap.size, 2, none⟩ (.slice D m cn)) = W3 at *
         obtain ⟨T, hT⟩ : ∃ T, T = W.heap.size := ⟨_, rfl⟩
         rw [← hT] at F ⊢
         clear hT)
      | (have F := mid_two (i := i) (mv := mv) BE.out BM.out BH.out HR1.out (Nat.le_refl _) HG1.out
         generalize w1.alloc (.cells #[.int .i64 ((i : Int) + mv), .slice D1 (q - i) k1, .slice D m cn] 37) = W3 at *
         obtain ⟨T, hT⟩ : ∃ T, T = w1.heap.size := ⟨_, rfl⟩
         rw [← hT] at F ⊢
         clear hT)
    all_goals
      have u0 : W3.cell? ⟨g, 0, none⟩ = some (.int .i64 (i : Int)) := F.fe.cell 0 rfl
      have u1 : W3.cell? ⟨g, 1, none⟩ = some (.int .i64 (o : Int)) := F.fe.cell 1 rfl
      have u2 : W3.cell? ⟨g, 2, none⟩ = some (.slice D m cn) := F.fe.cell 2 rfl
      have u4 : W3.cell? ⟨mb, 1, none⟩ = some (.int .i64 mv) := F.fm.cell 1 rfl
      have f4 := F.fm.frozen 1
      have s3 : IntKind.i64.wrap ((m : Int) - (o : Int)) = (m : Int) - (o : Int) := IntWalk.i64_in _ (by omega)
      have s4 : IntKind.i64.wrap (mv + ((m : Int) - (o : Int))) = mv + ((m : Int) - (o : Int)) := IntWalk.i64_in _ (by omega)
      have HF := Lib.hid F
      clear F
      go_wp2_with fail
      go_region
      clear s3 s4
      have L := late_of HF.out HLM.out hmg (mv + ((m : Int) - (o : Int)))
      clear HF u0 u1 u2 u4 f4
      generalize (W3.setCell ⟨mb, 1, none⟩ (.int .i64 (mv + ((m : Int) - (o : Int))))).drew = W4 at *
      have u0 : W4.cell? ⟨T, 0, none⟩ = some (.int .i64 ((i : Int) + mv)) := L.ft.cell 0 rfl
      have u1 : W4.cell? ⟨T, 1, none⟩ = some (.slice D1 (q - i) k1) := L.ft.cell 1 rfl
      have u2 : W4.cell? ⟨T, 2, none⟩ = some (.slice D m cn) := L.ft.cell 2 rfl
      have q0 : W4.cell? ⟨g + 1, 0, none⟩ = some (.int .i64 0) := L.fh.cell 0 rfl
      have q1 : W4.cell? ⟨g + 1, 1, none⟩ = some (.slice none 0 0) := L.fh.cell 1 rfl
      have q2 : W4.cell? ⟨g + 1, 2, none⟩ = some (.slice none 0 0) := L.fh.cell 2 rfl
      have f0 := L.fh.frozen 0
      have f1 := L.fh.frozen 1
      have f2 := L.fh.frozen 2
      have HE := Lib.hid (next_end L HW.out HGS.out hmg HQ.out)
      have HF5 := Lib.hid (((L.fh.set 0 (.int .i64 ((i : Int) + mv))).set 1 (.slice D1 (q - i) k1)).set 2 (.slice D m cn))
      clear L
      go_wp2_with fail
      have b5 := HF5.out
      have h5 := HE.out
      generalize ((W4.setCell ⟨g + 1, 0, none⟩ (.int .i64 ((i : Int) + mv))).setCell ⟨g + 1, 1, none⟩ (.slice D1 (q - i) k1)).setCell ⟨g + 1, 2, none⟩ (.slice D m cn) = W5 at *
      have p0 : W5.cell? ⟨g + 1, 0, none⟩ = some (.int .i64 ((i : Int) + mv)) := b5.cell 0 rfl
      have p1 : W5.cell? ⟨g + 1, 1, none⟩ = some (.slice D1 (q - i) k1) := b5.cell 1 rfl
      have p2 : W5.cell? ⟨g + 1, 2, none⟩ = some (.slice D m cn) := b5.cell 2 rfl
      exact bodyPost_ret (v := hkV (i + mv) D1 (q - i) k1 D m cn) (by simp [results, Try.results66, go_sem, p0, p1, p2]) rfl h5

  · have hci : ¬ c = i := fun h => hci' h.symm
    clear hci'
    rw [if_neg hci] at hD
    have HD := Lib.hid hD; clear hD
    go_region_held3 (fun w' => w'.cell? ⟨g, 0, none⟩ = some (.int .i64 (i : Int)) ∧ w'.cell? ⟨g, 1, none⟩ = some (.int .i64 (o : Int)) ∧ w'.cell? ⟨g, 2, none⟩ = some (.slice D m cn) ∧ w'.cell? ⟨mb, 0, none⟩ = some (.slice A n c) ∧ w'.cell? ⟨mb, 1, none⟩ = some (.int .i64 mv))
      (first
        | go_keep
        | (exact ⟨y0, y1, y2, y3, y4⟩)
        | (exact ⟨cell_set3 y0 (Nat.ne_of_lt HLG.out) _ _ _, cell_set3 y1 (Nat.ne_of_lt HLG.out) _ _ _, cell_set3 y2 (Nat.ne_of_lt HLG.out) _ _ _, cell_set3 y3 (Nat.ne_of_lt HLM.out) _ _ _, cell_set3 y4 (Nat.ne_of_lt HLM.out) _ _ _⟩)
        | (exact ⟨cell_set3 (cell_alc _ y0) (Nat.ne_of_lt HLG1.out) _ _ _, cell_set3 (cell_alc _ y1) (Nat.ne_of_lt HLG1.out) _ _ _, cell_set3 (cell_alc _ y2) (Nat.ne_of_lt HLG1.out) _ _ _, cell_set3 (cell_alc _ y3) (Nat.ne_of_lt HLM1.out) _ _ _, cell_set3 (cell_alc _ y4) (Nat.ne_of_lt HLM1.out) _ _ _⟩))
      (first
        | (go_at_call 81; refine (own _ _ (q - i) B (mid a i q) W.drew HL.out ho (Rd.drewN HD.out 1)).mono ?_; rintro e w1 ⟨D1, k1, rfl, hr1, hg1⟩;
            have y0 := cell_gr hg1 (nn _) x0; have y1 := cell_gr hg1 (nn _) x1; have y2 := cell_gr hg1 (nn _) x2; have y3 := cell_gr hg1 (nn _) x3; have y4 := cell_gr hg1 (nn _) x4;
            have HLG1 := Lib.hid (Nat.lt_of_lt_of_le HLG.out hg1.size); have HLM1 := Lib.hid (Nat.lt_of_lt_of_le HLM.out hg1.size); have HR1 := Lib.hid hr1; have HG1 := Lib.hid (gr_of_drewN (d := 1) hg1); clear hr1 hg1)
        | (go_at_call 81; refine (own _ _ (q - i) B (mid a i q) (W.alloc (.cells #[.int .i64 0, .slice none 0 0, .slice none 0 0] 37)).drew HL.out ho (Rd.drewN (rd_alloc HD.out HBW.out _) 1)).mono ?_; rintro e w1 ⟨D1, k1, rfl, hr1, hg1⟩;
            have y0 := cell_gr hg1 (nn _) (cell_alc _ x0); have y1 := cell_gr hg1 (nn _) (cell_alc _ x1); have y2 := cell_gr hg1 (nn _) (cell_alc _ x2); have y3 := cell_gr hg1 (nn _) (cell_alc _ x3); have y4 := cell_gr hg1 (nn _) (cell_alc _ x4);
            have bt := ((Blk.new W 37 #[.int .i64 0, .slice none 0 0, .slice none 0 0]).drewN 1).gr hg1 (nn _);
            have q0 : w1.cell? ⟨W.heap.size, 0, none⟩ = some (.int .i64 0) := bt.cell 0 rfl; have q1 : w1.cell? ⟨W.heap.size, 1, none⟩ = some (.slice none 0 0) := bt.cell 1 rfl; have q2 : w1.cell? ⟨W.heap.size, 2, none⟩ = some (.slice none 0 0) := bt.cell 2 rfl; have f0 := bt.frozen 0; have f1 := bt.frozen 1; have f2 := bt.frozen 2;
            have BT := Lib.hid bt; have HR1 := Lib.hid hr1; have HG1 := Lib.hid ((gr_drewN (World.grownBy_alloc W (.cells #[.int .i64 0, .slice none 0 0, .slice none 0 0] 37) none) 1).trans hg1); clear bt hr1 hg1))
    all_goals
      clear s1 s2
    all_goals first
      | (have F := mid_one (i := i) (mv := mv) BE.out BM.out BH.out HR1.out (by show W.heap.size ≤ (W.alloc _).heap.size; simp) HG1.out BT.out (Nat.le_refl _)
         generalize (((w1.setCell ⟨W.heap.size, 0, none⟩ (.int .i64 ((i : Int) + mv))).setCell ⟨W.heap.size, 1, none⟩ (.slice D1 (q - i) k1)).setCell ⟨W.heap.size, 2, none⟩ (.slice D m cn)) = W3 at *
         obtain ⟨T, hT⟩ : ∃ T, T = W.heap.size := ⟨_, rfl⟩
         rw [← hT] at F ⊢
         clear hT)
      | (have F := mid_two (i := i) (mv := mv) BE.out BM.out BH.out HR1.out (Nat.le_refl _) HG1.out
         generalize w1.alloc (.cells #[.int .i64 ((i : Int) + mv), .slice D1 (q - i) k1, .slice D m cn] 37) = W3 at *
         obtain ⟨T, hT⟩ : ∃ T, T = w1.heap.size := ⟨_, rfl⟩
         rw [← hT] at F ⊢
         clear hT)
    all_goals
      have u0 : W3.cell? ⟨g, 0, none⟩ = some (.int .i64 (i : Int)) := F.fe.cell 0 rfl
      have u1 : W3.cell? ⟨g, 1, none⟩ = some (.int .i64 (o : Int)) := F.fe.cell 1 rfl
      have u2 : W3.cell? ⟨g, 2, none⟩ = some (.slice D m cn) := F.fe.cell 2 rfl
      have u4 : W3.cell? ⟨mb, 1, none⟩ = some (.int .i64 mv) := F.fm.cell 1 rfl
      have f4 := F.fm.frozen 1
      have s3 : IntKind.i64.wrap ((m : Int) - (o : Int)) = (m : Int) - (o : Int) := IntWalk.i64_in _ (by omega)
      have s4 : IntKind.i64.wrap (mv + ((m : Int) - (o : Int))) = mv + ((m : Int) - (o : Int)) := IntWalk.i64_in _ (by omega)
      have HF := Lib.hid F
      clear F
      go_wp2_with fail
      go_region
      clear s3 s4
      have L := late_of HF.out HLM.out hmg (mv + ((m : Int) - (o : Int)))
      clear HF u0 u1 u2 u4 f4
      generalize (W3.setCell ⟨mb, 1, none⟩ (.int .i64 (mv + ((m : Int) - (o : Int))))).drew = W4 at *
      have u0 : W4.cell? ⟨T, 0, none⟩ = some (.int .i64 ((i : Int) + mv)) := L.ft.cell 0 rfl
      have u1 : W4.cell? ⟨T, 1, none⟩ = some (.slice D1 (q - i) k1) := L.ft.cell 1 rfl
      have u2 : W4.cell? ⟨T, 2, none⟩ = some (.slice D m cn) := L.ft.cell 2 rfl
      have q0 : W4.cell? ⟨g + 1, 0, none⟩ = some (.int .i64 0) := L.fh.cell 0 rfl
      have q1 : W4.cell? ⟨g + 1, 1, none⟩ = some (.slice none 0 0) := L.fh.cell 1 rfl
      have q2 : W4.cell? ⟨g + 1, 2, none⟩ = some (.slice none 0 0) := L.fh.cell 2 rfl
      have f0 := L.fh.frozen 0
      have f1 := L.fh.frozen 1
      have f2 := L.fh.frozen 2
      have HE := Lib.hid (next_end L HW.out HGS.out hmg HQ.out)
      have HF5 := Lib.hid (((L.fh.set 0 (.int .i64 ((i : Int) + mv))).set 1 (.slice D1 (q - i) k1)).set 2 (.slice D m cn))
      clear L
      go_wp2_with fail
      have b5 := HF5.out
      have h5 := HE.out
      generalize ((W4.setCell ⟨g + 1, 0, none⟩ (.int .i64 ((i : Int) + mv))).setCell ⟨g + 1, 1, none⟩ (.slice D1 (q - i) k1)).setCell ⟨g + 1, 2, none⟩ (.slice D m cn) = W5 at *
      have p0 : W5.cell? ⟨g + 1, 0, none⟩ = some (.int .i64 ((i : Int) + mv)) := b5.cell 0 rfl
      have p1 : W5.cell? ⟨g + 1, 1, none⟩ = some (.slice D1 (q - i) k1) := b5.cell 1 rfl
      have p2 : W5.cell? ⟨g + 1, 2, none⟩ = some (.slice D m cn) := b5.cell 2 rfl
      exact bodyPost_ret (v := hkV (i + mv) D1 (q - i) k1 D m cn) (by simp [results, Try.results66, go_sem, p0, p1, p2]) rfl h5

end Hk
end Go.Proofs.Ytjhjmfodpnipiaa
