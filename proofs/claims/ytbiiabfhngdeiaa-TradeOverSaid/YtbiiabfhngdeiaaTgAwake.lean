/-
  The chapter's example of layer 15 (walk).
-/
import Derived.Test.YtbiiabfhngdeiaaTgOver
import Derived.Test.YtbiiabfhngdeiaaPnSame
import Derived.Test.YtbiiabfhngdeiaaPnEx
set_option maxRecDepth 100000
namespace Go.Proofs.Ytbiiabfhngdeiaa
open Go.RowKit
set_option linter.unusedVariables false
set_option linter.unusedSimpArgs false
namespace Tg
open Tx Df Sq Hk Tr Pr Fl Pn

def exB : Ch := ⟨0, [98], [], ⟨0, [], []⟩⟩
def exQ : Nm := ⟨(0, 2), [], [], [exB]⟩
def exR : Nm := ⟨(0, 2), [(0, 1)], [], [exB]⟩
theorem pg_exA (W : World) (S : Nat → Prop) : PG W S none 0 0 none 0 0 exA := pg_ex W S
theorem pg_exB (W : World) (S : Nat → Prop) : PG W S none 0 0 none 0 0 exB :=
  ⟨rfl, rfl, Nat.le_refl _, Nat.le_refl _, by decide, by decide, .inl rfl, .inl rfl, by unfold I64; decide, by unfold I64; decide, by decide, by decide, (fun x hx => by cases hx), (fun x hx => by cases hx)⟩
theorem nv_exQ {W : World} {N b : Nat} (h : RdP W (· < N) (some ⟨b, 0, none⟩) [exB]) : NV W N none 0 0 (some ⟨b, 0, none⟩) 1 1 exQ :=
  ⟨rfl, Nat.le_refl _, by decide, .inl rfl, by decide, rfl, Nat.le_refl _, by decide, h⟩
theorem nv_exR {W : World} {N b c : Nat} (h : RdP W (· < N) (some ⟨b, 0, none⟩) [exB]) (hd : RdI W N (some ⟨c, 0, none⟩) [(0, 1)]) : NV W N (some ⟨c, 0, none⟩) 1 1 (some ⟨b, 0, none⟩) 1 1 exR :=
  ⟨rfl, Nat.le_refl _, by decide, hd, by decide, rfl, Nat.le_refl _, by decide, h⟩
theorem lt_exN : Lt exN.l := fun x hx => by
  have : x = exA := by simpa [exN] using hx
  rw [this]
  decide
theorem lt_exB : Lt [exB] := fun x hx => by
  have : x = exB := by simpa using hx
  rw [this]
  decide
theorem lt_exQ : Lt exQ.l := lt_exB
theorem lt_exR : Lt exR.l := lt_exB
instance : DecidableEq Nm := fun p q => decidable_of_iff (sameN p q = true) sameN_iff
theorem pass_ex : passN exN exQ = some (exQ, exN) := by decide
theorem pass_exR : passN exN exR = none := by decide
theorem over_ex : overN [exN] exQ = some (exQ, [exN]) := by
  show Fl.one passN [exN] exQ = _
  rw [Fl.one, Fl.one, Option.bind_some, pass_ex]
  rfl
theorem three_blk (w : World) (t0 t1 t2 : TypeId) (c0 c1 c2 : Array Value) : let W := ((w.alloc (.cells c0 t0)).alloc (.cells c1 t1)).alloc (.cells c2 t2)
    Blk W w.heap.size t0 c0 ∧ Blk W (w.heap.size + 1) t1 c1 ∧ Blk W (w.heap.size + 1 + 1) t2 c2 ∧ Below w.heap.size w W := by
  intro W
  have b0 := ((Blk.new w t0 c0).alloc (.cells c1 t1)).alloc (.cells c2 t2)
  have b1 := (Blk.new (w.alloc (.cells c0 t0)) t1 c1).alloc (.cells c2 t2)
  have b2 := Blk.new ((w.alloc (.cells c0 t0)).alloc (.cells c1 t1)) t2 c2
  simp only [World.size_alloc] at b1 b2
  exact ⟨b0, b1, b2, ((((Below.refl _ _).alloc (Nat.le_refl _) _).alloc (by simp) _).alloc (by simp; omega) _)⟩

set_option maxRecDepth 100000 in
set_option maxHeartbeats 4000000 in
theorem awake (w : World) : Calls Try.prog 8 #[] w (BoolEnd w true) := by
  have HB := Lib.hid (Below.refl w.heap.size w)
  go_enter Try.func8, Try.ntmps8
  go_upto_region 2 with fail
  have b0 := (Blk.new w 51 #[.int .i64 0, strV [97], strV [], .int .i64 0, .slice none 0 0, .slice none 0 0]).alloc (.cells #[.int .i64 0, .int .i64 1, .slice none 0 0, strV [], .slice (some ⟨w.heap.size, 0, none⟩) 1 1] 28)
  have b1 := Blk.new (w.alloc (.cells #[.int .i64 0, strV [97], strV [], .int .i64 0, .slice none 0 0, .slice none 0 0] 51)) 28 #[.int .i64 0, .int .i64 1, .slice none 0 0, strV [], .slice (some ⟨w.heap.size, 0, none⟩) 1 1]
  have hb := two_box w (.cells #[.int .i64 0, strV [97], strV [], .int .i64 0, .slice none 0 0, .slice none 0 0] 51) (.cells #[.int .i64 0, .int .i64 1, .slice none 0 0, strV [], .slice (some ⟨w.heap.size, 0, none⟩) 1 1] 28)
  simp only [World.size_alloc] at b1
  generalize ((w.alloc (.cells #[.int .i64 0, strV [97], strV [], .int .i64 0, .slice none 0 0, .slice none 0 0] 51)).alloc (.cells #[.int .i64 0, .int .i64 1, .slice none 0 0, strV [], .slice (some ⟨w.heap.size, 0, none⟩) 1 1] 28)) = w_1 at b0 b1 hb ⊢
  obtain ⟨zp, hz⟩ : ∃ z, w.heap.size = z := ⟨_, rfl⟩
  rw [hz] at b0 b1 ⊢
  clear hz
  replace HB := Lib.hid (below_mv HB.out hb)
  clear hb
  have RP_p : Hid (RdP w_1 (· < w_1.heap.size) (some ⟨zp, 0, none⟩) [exA]) := Lib.hid (rdP_lone b0 (pg_exA _ _) b0.lt)
  have B_p := Lib.hid b1
  clear b0 b1
  go_upto_region 3 with fail
  have b0 := (Blk.new w_1 51 #[.int .i64 0, strV [98], strV [], .int .i64 0, .slice none 0 0, .slice none 0 0]).alloc (.cells #[.int .i64 0, .int .i64 2, .slice none 0 0, strV [], .slice (some ⟨w_1.heap.size, 0, none⟩) 1 1] 28)
  have b1 := Blk.new (w_1.alloc (.cells #[.int .i64 0, strV [98], strV [], .int .i64 0, .slice none 0 0, .slice none 0 0] 51)) 28 #[.int .i64 0, .int .i64 2, .slice none 0 0, strV [], .slice (some ⟨w_1.heap.size, 0, none⟩) 1 1]
  have hb := two_box w_1 (.cells #[.int .i64 0, strV [98], strV [], .int .i64 0, .slice none 0 0, .slice none 0 0] 51) (.cells #[.int .i64 0, .int .i64 2, .slice none 0 0, strV [], .slice (some ⟨w_1.heap.size, 0, none⟩) 1 1] 28)
  simp only [World.size_alloc] at b1
  generalize ((w_1.alloc (.cells #[.int .i64 0, strV [98], strV [], .int .i64 0, .slice none 0 0, .slice none 0 0] 51)).alloc (.cells #[.int .i64 0, .int .i64 2, .slice none 0 0, strV [], .slice (some ⟨w_1.heap.size, 0, none⟩) 1 1] 28)) = w_2 at b0 b1 hb ⊢
  obtain ⟨zq, hz⟩ : ∃ z, w_1.heap.size = z := ⟨_, rfl⟩
  rw [hz] at b0 b1 ⊢
  clear hz
  replace RP_p := Lib.hid (RP_p.out.mv hb)
  replace B_p := Lib.hid (B_p.out.below hb B_p.out.lt)
  replace HB := Lib.hid (below_mv HB.out hb)
  clear hb
  have RP_q : Hid (RdP w_2 (· < w_2.heap.size) (some ⟨zq, 0, none⟩) [exB]) := Lib.hid (rdP_lone b0 (pg_exB _ _) b0.lt)
  have B_q := Lib.hid b1
  clear b0 b1
  go_upto_region 4 with fail
  obtain ⟨b0, b1, b2, hb⟩ := three_blk w_2 24 51 28 #[.int .i64 0, .int .i64 1] #[.int .i64 0, strV [98], strV [], .int .i64 0, .slice none 0 0, .slice none 0 0] #[.int .i64 0, .int .i64 2, .slice (some ⟨w_2.heap.size, 0, none⟩) 1 1, strV [], .slice (some ⟨w_2.heap.size + 1, 0, none⟩) 1 1]
  generalize (((w_2.alloc (.cells #[.int .i64 0, .int .i64 1] 24)).alloc (.cells #[.int .i64 0, strV [98], strV [], .int .i64 0, .slice none 0 0, .slice none 0 0] 51)).alloc (.cells #[.int .i64 0, .int .i64 2, .slice (some ⟨w_2.heap.size, 0, none⟩) 1 1, strV [], .slice (some ⟨w_2.heap.size + 1, 0, none⟩) 1 1] 28)) = w_3 at b0 b1 b2 hb ⊢
  obtain ⟨zr, hz⟩ : ∃ z, w_2.heap.size = z := ⟨_, rfl⟩
  rw [hz] at b0 b1 b2 ⊢
  clear hz
  replace RP_p := Lib.hid (RP_p.out.mv hb)
  replace B_p := Lib.hid (B_p.out.below hb B_p.out.lt)
  replace RP_q := Lib.hid (RP_q.out.mv hb)
  replace B_q := Lib.hid (B_q.out.below hb B_q.out.lt)
  replace HB := Lib.hid (below_mv HB.out hb)
  clear hb
  have RP_r : Hid (RdP w_3 (· < w_3.heap.size) (some ⟨zr + 1, 0, none⟩) [exB]) := Lib.hid (rdP_lone b1 (pg_exB _ _) b1.lt)
  have RI_r : Hid (RdI w_3 w_3.heap.size (some ⟨zr, 0, none⟩) [(0, 1)]) := Lib.hid (rdI_lone (x := (0, 1)) b0 b0.lt)
  have B_r := Lib.hid b2
  clear b0 b1 b2
  have p0 := B_p.out.cell 0 rfl; have p1 := B_p.out.cell 1 rfl; have p2 := B_p.out.cell 2 rfl; have p3 := B_p.out.cell 3 rfl; have p4 := B_p.out.cell 4 rfl; have pl := B_p.out.lt; have pm := Nat.lt_of_succ_lt pl; have q0 := B_q.out.cell 0 rfl; have q1 := B_q.out.cell 1 rfl; have q2 := B_q.out.cell 2 rfl; have q3 := B_q.out.cell 3 rfl; have q4 := B_q.out.cell 4 rfl; have ql := B_q.out.lt; have qm := Nat.lt_of_succ_lt ql
  go_wp2_with fail
  refine (PassN none 0 0 (some ⟨zp, 0, none⟩) 1 1 none 0 0 (some ⟨zq, 0, none⟩) 1 1 exN exQ exQ exN w_3 true (by decide) (by decide) (by decide) (by decide) lt_exN lt_exQ (nv_ex RP_p.out) (nv_exQ RP_q.out) (by rw [pass_ex]; rfl) (by rw [pass_ex]; rfl)).mono ?_
  rintro e w_4 ⟨D1, d1, e1, E1, m1, k1, D2, d2, e2, E2, m2, k2, rfl, h1, h2, hb⟩
  obtain rfl : d1 = 0 := h1.dl.symm
  obtain rfl : m1 = 1 := h1.l.symm
  obtain rfl : d2 = 0 := h2.dl.symm
  obtain rfl : m2 = 1 := h2.l.symm
  have V_x := Lib.hid (h1.mono since_lt).nv; have V_y := Lib.hid (h2.mono since_lt).nv
  clear h1 h2
  clear p0 p1 p2 p3 p4 pl pm q0 q1 q2 q3 q4 ql qm
  replace RP_p := Lib.hid (RP_p.out.mv hb)
  replace B_p := Lib.hid (B_p.out.below hb B_p.out.lt)
  replace RP_q := Lib.hid (RP_q.out.mv hb)
  replace B_q := Lib.hid (B_q.out.below hb B_q.out.lt)
  replace RP_r := Lib.hid (RP_r.out.mv hb)
  replace RI_r := Lib.hid (RdI.mv RI_r.out hb)
  replace B_r := Lib.hid (B_r.out.below hb B_r.out.lt)
  replace HB := Lib.hid (below_mv HB.out hb)
  clear hb
  have p0 := B_p.out.cell 0 rfl; have p1 := B_p.out.cell 1 rfl; have p2 := B_p.out.cell 2 rfl; have p3 := B_p.out.cell 3 rfl; have p4 := B_p.out.cell 4 rfl; have pl := B_p.out.lt; have pm := Nat.lt_of_succ_lt pl; have r0 := B_r.out.cell 0 rfl; have r1 := B_r.out.cell 1 rfl; have r2 := B_r.out.cell 2 rfl; have r3 := B_r.out.cell 3 rfl; have r4 := B_r.out.cell 4 rfl; have rl := B_r.out.lt; have rm := Nat.lt_of_succ_lt rl; have rn := Nat.lt_of_succ_lt rm
  go_wp2_with fail
  clear p0 p1 p2 p3 p4 pl pm r0 r1 r2 r3 r4 rl rm rn
  have b0 := (Blk.new w_4 28 #[.int .i64 exQ.id.1, .int .i64 exQ.id.2, .slice D1 0 e1, strV exQ.txt, .slice E1 1 k1]).alloc (.cells #[.int .i64 exN.id.1, .int .i64 exN.id.2, .slice D2 0 e2, strV exN.txt, .slice E2 1 k2] 28)
  have b1 := Blk.new (w_4.alloc (.cells #[.int .i64 exQ.id.1, .int .i64 exQ.id.2, .slice D1 0 e1, strV exQ.txt, .slice E1 1 k1] 28)) 28 #[.int .i64 exN.id.1, .int .i64 exN.id.2, .slice D2 0 e2, strV exN.txt, .slice E2 1 k2]
  have hb := two_box w_4 (.cells #[.int .i64 exQ.id.1, .int .i64 exQ.id.2, .slice D1 0 e1, strV exQ.txt, .slice E1 1 k1] 28) (.cells #[.int .i64 exN.id.1, .int .i64 exN.id.2, .slice D2 0 e2, strV exN.txt, .slice E2 1 k2] 28)
  simp only [World.size_alloc] at b1
  generalize ((w_4.alloc (.cells #[.int .i64 exQ.id.1, .int .i64 exQ.id.2, .slice D1 0 e1, strV exQ.txt, .slice E1 1 k1] 28)).alloc (.cells #[.int .i64 exN.id.1, .int .i64 exN.id.2, .slice D2 0 e2, strV exN.txt, .slice E2 1 k2] 28)) = w_5 at b0 b1 hb ⊢
  obtain ⟨zx, hz⟩ : ∃ z, w_4.heap.size = z := ⟨_, rfl⟩
  rw [hz] at b0 b1 ⊢
  clear hz
  replace RP_p := Lib.hid (RP_p.out.mv hb)
  replace B_p := Lib.hid (B_p.out.below hb B_p.out.lt)
  replace RP_q := Lib.hid (RP_q.out.mv hb)
  replace B_q := Lib.hid (B_q.out.below hb B_q.out.lt)
  replace RP_r := Lib.hid (RP_r.out.mv hb)
  replace RI_r := Lib.hid (RdI.mv RI_r.out hb)
  replace B_r := Lib.hid (B_r.out.below hb B_r.out.lt)
  replace V_x := Lib.hid (V_x.out.mv hb)
  replace V_y := Lib.hid (V_y.out.mv hb)
  replace HB := Lib.hid (below_mv HB.out hb)
  clear hb
  have B_x := Lib.hid b0
  have B_y := Lib.hid b1
  clear b0 b1
  refine (PassN none 0 0 (some ⟨zp, 0, none⟩) 1 1 (some ⟨zr, 0, none⟩) 1 1 (some ⟨zr + 1, 0, none⟩) 1 1 exN exR noN noN w_5 false (by decide) (by decide) (by decide) (by decide) lt_exN lt_exR (nv_ex RP_p.out) (nv_exR RP_r.out RI_r.out) (by rw [pass_exR]; rfl) (by rw [pass_exR]; rfl)).mono ?_
  rintro e w_6 ⟨D3, d3, e3, E3, m3, k3, D4, d4, e4, E4, m4, k4, rfl, _, _, hb⟩
  clear RP_r RI_r B_r
  replace RP_p := Lib.hid (RP_p.out.mv hb)
  replace B_p := Lib.hid (B_p.out.below hb B_p.out.lt)
  replace RP_q := Lib.hid (RP_q.out.mv hb)
  replace B_q := Lib.hid (B_q.out.below hb B_q.out.lt)
  replace V_x := Lib.hid (V_x.out.mv hb)
  replace V_y := Lib.hid (V_y.out.mv hb)
  replace B_x := Lib.hid (B_x.out.below hb B_x.out.lt)
  replace B_y := Lib.hid (B_y.out.below hb B_y.out.lt)
  replace HB := Lib.hid (below_mv HB.out hb)
  clear hb
  have p0 := B_p.out.cell 0 rfl; have p1 := B_p.out.cell 1 rfl; have p2 := B_p.out.cell 2 rfl; have p3 := B_p.out.cell 3 rfl; have p4 := B_p.out.cell 4 rfl; have pl := B_p.out.lt; have pm := Nat.lt_of_succ_lt pl; have q0 := B_q.out.cell 0 rfl; have q1 := B_q.out.cell 1 rfl; have q2 := B_q.out.cell 2 rfl; have q3 := B_q.out.cell 3 rfl; have q4 := B_q.out.cell 4 rfl; have ql := B_q.out.lt; have qm := Nat.lt_of_succ_lt ql
  go_wp2_with fail
  clear p0 p1 p2 p3 p4 pl pm q0 q1 q2 q3 q4 ql qm
  obtain ⟨_, _, b2, hb⟩ := three_blk w_6 28 28 28 #[.int .i64 noN.id.1, .int .i64 noN.id.2, .slice D3 d3 e3, strV noN.txt, .slice E3 m3 k3] #[.int .i64 noN.id.1, .int .i64 noN.id.2, .slice D4 d4 e4, strV noN.txt, .slice E4 m4 k4] #[.int .i64 0, .int .i64 1, .slice none 0 0, strV [], .slice (some ⟨zp, 0, none⟩) 1 1]
  generalize (((w_6.alloc (.cells #[.int .i64 noN.id.1, .int .i64 noN.id.2, .slice D3 d3 e3, strV noN.txt, .slice E3 m3 k3] 28)).alloc (.cells #[.int .i64 noN.id.1, .int .i64 noN.id.2, .slice D4 d4 e4, strV noN.txt, .slice E4 m4 k4] 28)).alloc (.cells #[.int .i64 0, .int .i64 1, .slice none 0 0, strV [], .slice (some ⟨zp, 0, none⟩) 1 1] 28)) = w_7 at b2 hb ⊢
  replace RP_p := Lib.hid (RP_p.out.mv hb)
  replace B_p := Lib.hid (B_p.out.below hb B_p.out.lt)
  replace RP_q := Lib.hid (RP_q.out.mv hb)
  replace B_q := Lib.hid (B_q.out.below hb B_q.out.lt)
  replace V_x := Lib.hid (V_x.out.mv hb)
  replace V_y := Lib.hid (V_y.out.mv hb)
  replace B_x := Lib.hid (B_x.out.below hb B_x.out.lt)
  replace B_y := Lib.hid (B_y.out.below hb B_y.out.lt)
  replace HB := Lib.hid (below_mv HB.out hb)
  clear hb
  have RN : Hid (RdN w_7 w_7.heap.size (some ⟨w_6.heap.size + 1 + 1, 0, none⟩) [exN]) := Lib.hid (rdN_lone b2 (nv_ex RP_p.out) b2.lt)
  clear b2
  refine (OverN (some ⟨w_6.heap.size + 1 + 1, 0, none⟩) 1 1 [exN] none 0 0 (some ⟨zq, 0, none⟩) 1 1 exQ w_7 (by decide) (by decide) (by decide) lt_exQ RN.out rfl (fun p hp => by obtain rfl : p = exN := (by simpa using hp); exact ⟨lt_exN, by decide, by decide⟩) (nv_exQ RP_q.out) exQ [exN] true (by rw [over_ex]; rfl) (by rw [over_ex]; rfl)).mono ?_
  rintro e w_8 ⟨D5, d5, e5, E5, m5, k5, vo, rfl, h1, h2, hb⟩
  clear RN
  obtain rfl : d5 = 0 := h1.dl.symm
  obtain rfl : m5 = 1 := h1.l.symm
  obtain ⟨A6, c6, rfl, _⟩ := ownT_slice h2
  have V_z := Lib.hid (h1.mono fun b hb => since_lt b hb.1).nv
  clear h1 h2
  replace RP_p := Lib.hid (RP_p.out.mv hb)
  replace B_p := Lib.hid (B_p.out.below hb B_p.out.lt)
  replace RP_q := Lib.hid (RP_q.out.mv hb)
  replace B_q := Lib.hid (B_q.out.below hb B_q.out.lt)
  replace V_x := Lib.hid (V_x.out.mv hb)
  replace V_y := Lib.hid (V_y.out.mv hb)
  replace B_x := Lib.hid (B_x.out.below hb B_x.out.lt)
  replace B_y := Lib.hid (B_y.out.below hb B_y.out.lt)
  replace HB := Lib.hid (below_mv HB.out hb)
  clear hb
  dsimp only [List.length_cons, List.length_nil, Nat.zero_add]
  go_upto_region 7 with fail
  have b0 := Blk.new w_8 28 #[.int .i64 exQ.id.1, .int .i64 exQ.id.2, .slice D5 0 e5, strV exQ.txt, .slice E5 1 k5]
  have hb : Below w_8.heap.size w_8 (w_8.alloc (.cells #[.int .i64 exQ.id.1, .int .i64 exQ.id.2, .slice D5 0 e5, strV exQ.txt, .slice E5 1 k5] 28)) := (Below.refl _ _).alloc (Nat.le_refl _) _
  generalize (w_8.alloc (.cells #[.int .i64 exQ.id.1, .int .i64 exQ.id.2, .slice D5 0 e5, strV exQ.txt, .slice E5 1 k5] 28)) = w_9 at b0 hb ⊢
  obtain ⟨zz, hz⟩ : ∃ z, w_8.heap.size = z := ⟨_, rfl⟩
  rw [hz] at b0 ⊢
  clear hz
  replace RP_p := Lib.hid (RP_p.out.mv hb)
  replace B_p := Lib.hid (B_p.out.below hb B_p.out.lt)
  replace RP_q := Lib.hid (RP_q.out.mv hb)
  replace B_q := Lib.hid (B_q.out.below hb B_q.out.lt)
  replace V_x := Lib.hid (V_x.out.mv hb)
  replace V_y := Lib.hid (V_y.out.mv hb)
  replace B_x := Lib.hid (B_x.out.below hb B_x.out.lt)
  replace B_y := Lib.hid (B_y.out.below hb B_y.out.lt)
  replace V_z := Lib.hid (V_z.out.mv hb)
  replace HB := Lib.hid (below_mv HB.out hb)
  clear hb
  have B_z := Lib.hid b0
  clear b0
  have x0 := B_x.out.cell 0 rfl; have x1 := B_x.out.cell 1 rfl; have x2 := B_x.out.cell 2 rfl; have x3 := B_x.out.cell 3 rfl; have x4 := B_x.out.cell 4 rfl; have xl := B_x.out.lt; have q0 := B_q.out.cell 0 rfl; have q1 := B_q.out.cell 1 rfl; have q2 := B_q.out.cell 2 rfl; have q3 := B_q.out.cell 3 rfl; have q4 := B_q.out.cell 4 rfl; have ql := B_q.out.lt; have qm := Nat.lt_of_succ_lt ql; have y0 := B_y.out.cell 0 rfl; have y1 := B_y.out.cell 1 rfl; have y2 := B_y.out.cell 2 rfl; have y3 := B_y.out.cell 3 rfl; have y4 := B_y.out.cell 4 rfl; have yl := B_y.out.lt; have ym := Nat.lt_of_succ_lt yl; have p0 := B_p.out.cell 0 rfl; have p1 := B_p.out.cell 1 rfl; have p2 := B_p.out.cell 2 rfl; have p3 := B_p.out.cell 3 rfl; have p4 := B_p.out.cell 4 rfl; have pl := B_p.out.lt; have pm := Nat.lt_of_succ_lt pl; have s0 := B_z.out.cell 0 rfl; have s1 := B_z.out.cell 1 rfl; have s2 := B_z.out.cell 2 rfl; have s3 := B_z.out.cell 3 rfl; have s4 := B_z.out.cell 4 rfl; have sl := B_z.out.lt
  go_wp2_with fail
  refine (SameN D1 0 e1 E1 1 k1 none 0 0 (some ⟨zq, 0, none⟩) 1 1 exQ exQ w_9 true V_x.out (nv_exQ RP_q.out) (by decide) (by decide) (sameN_self _)).mono ?_
  rintro e w_10 ⟨rfl, hb⟩
  clear x0 x1 x2 x3 x4 xl q0 q1 q2 q3 q4 ql qm y0 y1 y2 y3 y4 yl ym p0 p1 p2 p3 p4 pl pm s0 s1 s2 s3 s4 sl
  replace RP_p := Lib.hid (RP_p.out.mv hb)
  replace B_p := Lib.hid (B_p.out.below hb B_p.out.lt)
  replace RP_q := Lib.hid (RP_q.out.mv hb)
  replace B_q := Lib.hid (B_q.out.below hb B_q.out.lt)
  replace V_x := Lib.hid (V_x.out.mv hb)
  replace V_y := Lib.hid (V_y.out.mv hb)
  replace B_x := Lib.hid (B_x.out.below hb B_x.out.lt)
  replace B_y := Lib.hid (B_y.out.below hb B_y.out.lt)
  replace V_z := Lib.hid (V_z.out.mv hb)
  replace B_z := Lib.hid (B_z.out.below hb B_z.out.lt)
  replace HB := Lib.hid (below_mv HB.out hb)
  clear hb
  have y0 := B_y.out.cell 0 rfl; have y1 := B_y.out.cell 1 rfl; have y2 := B_y.out.cell 2 rfl; have y3 := B_y.out.cell 3 rfl; have y4 := B_y.out.cell 4 rfl; have yl := B_y.out.lt; have ym := Nat.lt_of_succ_lt yl; have p0 := B_p.out.cell 0 rfl; have p1 := B_p.out.cell 1 rfl; have p2 := B_p.out.cell 2 rfl; have p3 := B_p.out.cell 3 rfl; have p4 := B_p.out.cell 4 rfl; have pl := B_p.out.lt; have pm := Nat.lt_of_succ_lt pl; have q0 := B_q.out.cell 0 rfl; have q1 := B_q.out.cell 1 rfl; have q2 := B_q.out.cell 2 rfl; have q3 := B_q.out.cell 3 rfl; have q4 := B_q.out.cell 4 rfl; have ql := B_q.out.lt; have qm := Nat.lt_of_succ_lt ql; have s0 := B_z.out.cell 0 rfl; have s1 := B_z.out.cell 1 rfl; have s2 := B_z.out.cell 2 rfl; have s3 := B_z.out.cell 3 rfl; have s4 := B_z.out.cell 4 rfl; have sl := B_z.out.lt
  go_wp2_with fail
  refine (SameN D2 0 e2 E2 1 k2 none 0 0 (some ⟨zp, 0, none⟩) 1 1 exN exN w_10 true V_y.out (nv_ex RP_p.out) (by decide) (by decide) (sameN_self _)).mono ?_
  rintro e w_11 ⟨rfl, hb⟩
  clear y0 y1 y2 y3 y4 yl ym p0 p1 p2 p3 p4 pl pm q0 q1 q2 q3 q4 ql qm s0 s1 s2 s3 s4 sl
  replace RP_p := Lib.hid (RP_p.out.mv hb)
  replace B_p := Lib.hid (B_p.out.below hb B_p.out.lt)
  replace RP_q := Lib.hid (RP_q.out.mv hb)
  replace B_q := Lib.hid (B_q.out.below hb B_q.out.lt)
  replace V_x := Lib.hid (V_x.out.mv hb)
  replace V_y := Lib.hid (V_y.out.mv hb)
  replace B_x := Lib.hid (B_x.out.below hb B_x.out.lt)
  replace B_y := Lib.hid (B_y.out.below hb B_y.out.lt)
  replace V_z := Lib.hid (V_z.out.mv hb)
  replace B_z := Lib.hid (B_z.out.below hb B_z.out.lt)
  replace HB := Lib.hid (below_mv HB.out hb)
  clear hb
  have q0 := B_q.out.cell 0 rfl; have q1 := B_q.out.cell 1 rfl; have q2 := B_q.out.cell 2 rfl; have q3 := B_q.out.cell 3 rfl; have q4 := B_q.out.cell 4 rfl; have ql := B_q.out.lt; have qm := Nat.lt_of_succ_lt ql; have s0 := B_z.out.cell 0 rfl; have s1 := B_z.out.cell 1 rfl; have s2 := B_z.out.cell 2 rfl; have s3 := B_z.out.cell 3 rfl; have s4 := B_z.out.cell 4 rfl; have sl := B_z.out.lt
  go_wp2_with fail
  refine (SameN D5 0 e5 E5 1 k5 none 0 0 (some ⟨zq, 0, none⟩) 1 1 exQ exQ w_11 true V_z.out (nv_exQ RP_q.out) (by decide) (by decide) (sameN_self _)).mono ?_
  rintro e w_12 ⟨rfl, hb⟩
  clear q0 q1 q2 q3 q4 ql qm s0 s1 s2 s3 s4 sl
  replace RP_p := Lib.hid (RP_p.out.mv hb)
  replace B_p := Lib.hid (B_p.out.below hb B_p.out.lt)
  replace RP_q := Lib.hid (RP_q.out.mv hb)
  replace B_q := Lib.hid (B_q.out.below hb B_q.out.lt)
  replace V_x := Lib.hid (V_x.out.mv hb)
  replace V_y := Lib.hid (V_y.out.mv hb)
  replace B_x := Lib.hid (B_x.out.below hb B_x.out.lt)
  replace B_y := Lib.hid (B_y.out.below hb B_y.out.lt)
  replace V_z := Lib.hid (V_z.out.mv hb)
  replace B_z := Lib.hid (B_z.out.below hb B_z.out.lt)
  replace HB := Lib.hid (below_mv HB.out hb)
  clear hb
  go_wp2
  go_ret
  exact ⟨rfl, HB.out⟩

end Tg
end Go.Proofs.Ytbiiabfhngdeiaa
