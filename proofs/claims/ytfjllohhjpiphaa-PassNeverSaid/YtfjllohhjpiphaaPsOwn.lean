/-
  What the program's own names, meet and own of layer 9 return (walks).
-/
import Derived.Test.YtfjllohhjpiphaaPsMem
import Derived.Test.YtfjllohhjpiphaaPrRefTurn
set_option maxRecDepth 100000
namespace Go.Proofs.Ytfjllohhjpiphaa
open Go.RowKit
set_option linter.unusedVariables false
set_option linter.unusedSimpArgs false
namespace Pr
open Tx Df Sq Hk Tr

set_option maxHeartbeats 1000000 in
theorem Names (A : Option Addr) (n c : Nat) (A' : Option Addr) (n' c' : Nat) (p : Ch) (s : List UInt8) (w : World) (b : Bool) (hb : namesP p s = b) :
    Calls Try.prog 42 #[prV p.k p.nm p.to p.h.pos A n c A' n' c', strV s] w (TestEnd w b) := by
  have HB := Lib.hid hb.symm
  clear hb
  have hw : Below w.heap.size w (w.alloc (.cells #[.int .i64 p.k, strV p.nm, strV p.to, .int .i64 p.h.pos, .slice A n c, .slice A' n' c'] 26)) := (Below.refl _ _).alloc (Nat.le_refl _) _
  have HW := Lib.hid hw; clear hw
  unfold namesP at HB
  by_cases h1 : p.nm = s
  · have e1 : (p.nm == s) = true := by simpa using h1
    have H1 := Lib.hid h1; clear h1
    go_enter Try.func42, Try.ntmps42
    go_wp2
    go_ret
    exact ⟨ret_bool (by rw [HB.out, decide_eq_true H1.out]; rfl), HW.out⟩
  have e1 : (p.nm == s) = false := by simpa using h1
  have H1 := Lib.hid h1; clear h1
  by_cases h2 : p.k = 2
  · have e2 : (p.k == 2) = true := by simpa using h2
    have H2 := Lib.hid h2; clear h2
    cases h3 : (p.to == s)
    all_goals
      go_enter Try.func42, Try.ntmps42
      go_wp2
      go_ret
    · exact ⟨ret_bool (by rw [HB.out, decide_eq_false H1.out, decide_eq_true H2.out, decide_eq_false (by simpa using h3)]; rfl), HW.out⟩
    · exact ⟨ret_bool (by rw [HB.out, decide_eq_false H1.out, decide_eq_true H2.out, decide_eq_true (by simpa using h3)]; rfl), HW.out⟩
  · have e2 : (p.k == 2) = false := by simpa using h2
    go_enter Try.func42, Try.ntmps42
    go_wp2
    go_ret
    exact ⟨ret_bool (by rw [HB.out, decide_eq_false H1.out, decide_eq_false h2]; rfl), HW.out⟩

set_option maxHeartbeats 1000000 in
theorem Meet (A : Option Addr) (n c : Nat) (A' : Option Addr) (n' c' : Nat) (D : Option Addr) (m k : Nat) (D' : Option Addr) (m' k' : Nat) (p q : Ch) (w : World) (b : Bool) (hb : apartP p q = b) :
    Calls Try.prog 24 #[prV p.k p.nm p.to p.h.pos A n c A' n' c', prV q.k q.nm q.to q.h.pos D m k D' m' k'] w (TestEnd w (!b)) := by
  have HB := Lib.hid hb.symm
  clear hb
  obtain ⟨b1, h1⟩ : ∃ b, namesP p q.nm = b := ⟨_, rfl⟩
  obtain ⟨b2, h2⟩ : ∃ b, namesP p q.to = b := ⟨_, rfl⟩
  have H1 := Lib.hid h1; have H2 := Lib.hid h2; clear h1 h2
  have hw := two_box w (.cells #[.int .i64 p.k, strV p.nm, strV p.to, .int .i64 p.h.pos, .slice A n c, .slice A' n' c'] 26) (.cells #[.int .i64 q.k, strV q.nm, strV q.to, .int .i64 q.h.pos, .slice D m k, .slice D' m' k'] 26)
  have b0 := (Blk.new w 26 #[.int .i64 p.k, strV p.nm, strV p.to, .int .i64 p.h.pos, .slice A n c, .slice A' n' c']).alloc (.cells #[.int .i64 q.k, strV q.nm, strV q.to, .int .i64 q.h.pos, .slice D m k, .slice D' m' k'] 26)
  have c0 := Blk.new (w.alloc (.cells #[.int .i64 p.k, strV p.nm, strV p.to, .int .i64 p.h.pos, .slice A n c, .slice A' n' c'] 26)) 26 #[.int .i64 q.k, strV q.nm, strV q.to, .int .i64 q.h.pos, .slice D m k, .slice D' m' k']
  simp only [World.size_alloc] at c0
  go_enter Try.func24, Try.ntmps24
  go_wp2_with fail
  generalize ((w.alloc (.cells #[.int .i64 p.k, strV p.nm, strV p.to, .int .i64 p.h.pos, .slice A n c, .slice A' n' c'] 26)).alloc (.cells #[.int .i64 q.k, strV q.nm, strV q.to, .int .i64 q.h.pos, .slice D m k, .slice D' m' k'] 26)) = w1 at *
  have HW1 := Lib.hid hw; have HB1 := Lib.hid b0; have HC1 := Lib.hid c0
  clear hw b0 c0
  refine (Names A n c A' n' c' p q.nm w1 b1 H1.out).mono ?_
  rintro e w2 ⟨rfl, hb⟩
  have HW2 := Lib.hid (HW1.out.trans (hb.mono HW1.out.size)); have HB2 := Lib.hid (HB1.out.below hb HB1.out.lt); have HC2 := Lib.hid (HC1.out.below hb HC1.out.lt)
  clear hb HW1 HB1 HC1
  have x0 : w2.cell? ⟨w.heap.size, 0, none⟩ = some (.int .i64 p.k) := HB2.out.cell 0 rfl; have x1 : w2.cell? ⟨w.heap.size, 1, none⟩ = some (strV p.nm) := HB2.out.cell 1 rfl; have x2 : w2.cell? ⟨w.heap.size, 2, none⟩ = some (strV p.to) := HB2.out.cell 2 rfl; have x3 : w2.cell? ⟨w.heap.size, 3, none⟩ = some (.int .i64 p.h.pos) := HB2.out.cell 3 rfl; have x4 : w2.cell? ⟨w.heap.size, 4, none⟩ = some (.slice A n c) := HB2.out.cell 4 rfl; have x5 : w2.cell? ⟨w.heap.size, 5, none⟩ = some (.slice A' n' c') := HB2.out.cell 5 rfl
  have y0 : w2.cell? ⟨w.heap.size + 1, 0, none⟩ = some (.int .i64 q.k) := HC2.out.cell 0 rfl; have y1 : w2.cell? ⟨w.heap.size + 1, 1, none⟩ = some (strV q.nm) := HC2.out.cell 1 rfl; have y2 : w2.cell? ⟨w.heap.size + 1, 2, none⟩ = some (strV q.to) := HC2.out.cell 2 rfl; have y3 : w2.cell? ⟨w.heap.size + 1, 3, none⟩ = some (.int .i64 q.h.pos) := HC2.out.cell 3 rfl; have y4 : w2.cell? ⟨w.heap.size + 1, 4, none⟩ = some (.slice D m k) := HC2.out.cell 4 rfl; have y5 : w2.cell? ⟨w.heap.size + 1, 5, none⟩ = some (.slice D' m' k') := HC2.out.cell 5 rfl
  unfold apartP at HB
  rw [H1.out, H2.out] at HB
  cases b1 with
  | true =>
    go_wp2
    go_ret
    exact ⟨ret_bool (by rw [HB.out]; simp), HW2.out⟩
  | false =>
  by_cases hk : q.k = 2
  · have e1 : (q.k == 2) = true := by simpa using hk
    have HK := Lib.hid hk; clear hk
    go_wp2_with fail
    refine (Names A n c A' n' c' p q.to w2 b2 H2.out).mono ?_
    rintro e w3 ⟨rfl, hb⟩
    clear x0 x1 x2 x3 x4 x5 y0 y1 y2 y3 y4 y5
    have HW3 := Lib.hid (HW2.out.trans (hb.mono HW2.out.size))
    clear hb HW2
    go_wp2
    go_ret
    exact ⟨ret_bool (by rw [HB.out]; simp [HK.out]), HW3.out⟩
  · have e1 : (q.k == 2) = false := by simpa using hk
    have HK := Lib.hid hk; clear hk
    go_wp2
    go_ret
    exact ⟨ret_bool (by rw [HB.out]; simp [HK.out]), HW2.out⟩

/-- How own ends: the change, of lines of one's own. -/
def POEnd (w : World) (n n' : Nat) (p : Ch) (e : Ending) (w' : World) : Prop :=
  ∃ D d D' d', e = .returned (prV p.k p.nm p.to p.h.pos D n d D' n' d') ∧ PV w' w'.heap.size D n d D' n' d' p ∧ (Hi w.heap.size D ∧ Hi w.heap.size D') ∧ Below w.heap.size w w'

set_option maxRecDepth 100000 in
set_option maxHeartbeats 2000000 in
theorem OwnC (A : Option Addr) (n c : Nat) (A' : Option Addr) (n' c' B : Nat) (p : Ch) (w : World) (hB : B ≤ w.heap.size) (hn : n ≤ 1000) (hn' : n' ≤ 1000) (hv : PV w B A n c A' n' c' p) :
    Calls Try.prog 26 #[prV p.k p.nm p.to p.h.pos A n c A' n' c'] w (POEnd w n n' p) := by
  obtain ⟨j0, hj, hy0, hy1, hy2⟩ := info_parts info_str
  have HV0 := Lib.hid hv
  have HBL := Lib.hid hB
  clear hv hB
  go_enter Try.func26, Try.ntmps26
  go_upto_region 1 with fail
  have b1 := (Blk.new w 26 #[.int .i64 p.k, strV p.nm, strV p.to, .int .i64 p.h.pos, .slice A n c, .slice A' n' c']).alloc (.cells #[.int .i64 0, strV [], strV [], .int .i64 0, .slice none 0 0, .slice none 0 0] 26)
  have b2 := Blk.new (w.alloc (.cells #[.int .i64 p.k, strV p.nm, strV p.to, .int .i64 p.h.pos, .slice A n c, .slice A' n' c'] 26)) 26 #[.int .i64 0, strV [], strV [], .int .i64 0, .slice none 0 0, .slice none 0 0]
  have hw := two_box w (.cells #[.int .i64 p.k, strV p.nm, strV p.to, .int .i64 p.h.pos, .slice A n c, .slice A' n' c'] 26) (.cells #[.int .i64 0, strV [], strV [], .int .i64 0, .slice none 0 0, .slice none 0 0] 26)
  simp only [World.size_alloc] at b2
  generalize (w.alloc (.cells #[.int .i64 p.k, strV p.nm, strV p.to, .int .i64 p.h.pos, .slice A n c, .slice A' n' c'] 26)).alloc (.cells #[.int .i64 0, strV [], strV [], .int .i64 0, .slice none 0 0, .slice none 0 0] 26) = W at *
  obtain ⟨g, hgs⟩ : ∃ g, w.heap.size = g := ⟨_, rfl⟩
  rw [hgs] at b1 b2 hw ⊢
  have HGS := Lib.hid hgs
  have R1 := Lib.hid (And.intro HV0.out.h.l (Rd.below HV0.out.h.r (hw.mono (by rw [← hgs]; exact HBL.out))))
  have R2 := Lib.hid (And.intro HV0.out.h.l' (Rd.below HV0.out.h.r' (hw.mono (by rw [← hgs]; exact HBL.out))))
  have HW := Lib.hid hw; have B1 := Lib.hid b1; have B2 := Lib.hid b2
  have HBW : Hid (B ≤ g) := Lib.hid (by rw [← hgs]; exact HBL.out)
  clear hgs hw b1 b2
  have x0 : W.cell? ⟨g, 0, none⟩ = some (.int .i64 p.k) := B1.out.cell 0 rfl; have x1 : W.cell? ⟨g, 1, none⟩ = some (strV p.nm) := B1.out.cell 1 rfl; have x2 : W.cell? ⟨g, 2, none⟩ = some (strV p.to) := B1.out.cell 2 rfl; have x3 : W.cell? ⟨g, 3, none⟩ = some (.int .i64 p.h.pos) := B1.out.cell 3 rfl; have x4 : W.cell? ⟨g, 4, none⟩ = some (.slice A n c) := B1.out.cell 4 rfl; have x5 : W.cell? ⟨g, 5, none⟩ = some (.slice A' n' c') := B1.out.cell 5 rfl
  go_upto_region 2 with (at_builtin; refine wpList_nil' rfl (.const (.slice none 0 0)) (.tmp 5) 22 rfl 9 j0 (.string ⟨#[]⟩) 16 Try.underlying22 hj hy0 hy1 hy2 rfl rfl B A n c (p.h.old.map strV) rfl (by rw [List.length_map]; exact R1.out.1) R1.out.2 (strs_one _) (by unfold maxLen; omega) (by omega) ?_; intro D1 d1 w1 hA hg; have b1 := B1.out.gr hg (nn _); have b2 := B2.out.gr hg (nn _); have f4 : w1.frozen? ⟨g, 4, none⟩ = false := b1.frozen 4; have z0 : w1.cell? ⟨g, 0, none⟩ = some (.int .i64 p.k) := b1.cell 0 rfl; have z1 : w1.cell? ⟨g, 1, none⟩ = some (strV p.nm) := b1.cell 1 rfl; have z2 : w1.cell? ⟨g, 2, none⟩ = some (strV p.to) := b1.cell 2 rfl; have z3 : w1.cell? ⟨g, 3, none⟩ = some (.int .i64 p.h.pos) := b1.cell 3 rfl; have z4 : w1.cell? ⟨g, 4, none⟩ = some (.slice A n c) := b1.cell 4 rfl; have z5 : w1.cell? ⟨g, 5, none⟩ = some (.slice A' n' c') := b1.cell 5 rfl; have hgl := HW.out.size; have BA := Lib.hid b1; have BB := Lib.hid b2; have HA := Lib.hid hA; have HG := Lib.hid hg; clear b1 b2 hA hg)
  clear x0 z0 x1 z1 x2 z2 x3 z3 x4 z4 x5 z5 f4
  have hl1 := HG.out.size
  have hgW : g + 1 < W.heap.size := B2.out.lt
  have b3 : Blk (World.setCell w1 ⟨g, 4, none⟩ (.slice D1 n d1)) g 26 #[.int .i64 p.k, strV p.nm, strV p.to, .int .i64 p.h.pos, .slice D1 n d1, .slice A' n' c'] := BA.out.set 4 (.slice D1 n d1)
  have b4 := BB.out.set_ne (show g + 1 ≠ g by omega) 4 (.slice D1 n d1)
  have o1 := own_set HA.out (show g < W.heap.size by omega) 4 (.slice D1 n d1)
  have h1 : Below g w (World.setCell w1 ⟨g, 4, none⟩ (.slice D1 n d1)) := (HW.out.trans ((below_gr HG.out).mono (by omega))).setCell (p := ⟨g, 4, none⟩) (Nat.le_refl _) _
  have r2 : RdS (World.setCell w1 ⟨g, 4, none⟩ (.slice D1 n d1)) B A' p.h.new := Rd.below R2.out.2 (((below_gr HG.out).mono (Nat.le_trans HBW.out (by omega))).setCell (p := ⟨g, 4, none⟩) HBW.out _)
  have hs1 : (World.setCell w1 ⟨g, 4, none⟩ (.slice D1 n d1)).heap.size = w1.heap.size := by simp
  generalize (World.setCell w1 ⟨g, 4, none⟩ (.slice D1 n d1)) = X at *
  have R3 := Lib.hid (And.intro R2.out.1 r2)
  have B3 := Lib.hid b3; have B4 := Lib.hid b4; have O1 := Lib.hid o1; have H1 := Lib.hid h1; have HS1 := Lib.hid hs1
  clear b3 b4 o1 h1 r2 hs1
  have x0 : X.cell? ⟨g, 0, none⟩ = some (.int .i64 p.k) := B3.out.cell 0 rfl; have x1 : X.cell? ⟨g, 1, none⟩ = some (strV p.nm) := B3.out.cell 1 rfl; have x2 : X.cell? ⟨g, 2, none⟩ = some (strV p.to) := B3.out.cell 2 rfl; have x3 : X.cell? ⟨g, 3, none⟩ = some (.int .i64 p.h.pos) := B3.out.cell 3 rfl; have x4 : X.cell? ⟨g, 4, none⟩ = some (.slice D1 n d1) := B3.out.cell 4 rfl; have x5 : X.cell? ⟨g, 5, none⟩ = some (.slice A' n' c') := B3.out.cell 5 rfl
  go_upto_region 3 with (at_builtin; refine wpList_nil' rfl (.const (.slice none 0 0)) (.tmp 11) 22 rfl 9 j0 (.string ⟨#[]⟩) 16 Try.underlying22 hj hy0 hy1 hy2 rfl rfl B A' n' c' (p.h.new.map strV) rfl (by rw [List.length_map]; exact R3.out.1) R3.out.2 (strs_one _) (by unfold maxLen; omega) (by omega) ?_; intro D2 d2 w2 hA2 hg2; have b1 := B3.out.gr hg2 (nn _); have b2 := B4.out.gr hg2 (nn _); have f5 : w2.frozen? ⟨g, 5, none⟩ = false := b1.frozen 5; have z0 : w2.cell? ⟨g, 0, none⟩ = some (.int .i64 p.k) := b1.cell 0 rfl; have z1 : w2.cell? ⟨g, 1, none⟩ = some (strV p.nm) := b1.cell 1 rfl; have z2 : w2.cell? ⟨g, 2, none⟩ = some (strV p.to) := b1.cell 2 rfl; have z3 : w2.cell? ⟨g, 3, none⟩ = some (.int .i64 p.h.pos) := b1.cell 3 rfl; have z4 : w2.cell? ⟨g, 4, none⟩ = some (.slice D1 n d1) := b1.cell 4 rfl; have z5 : w2.cell? ⟨g, 5, none⟩ = some (.slice A' n' c') := b1.cell 5 rfl; have BC := Lib.hid b1; have BD := Lib.hid b2; have HA2 := Lib.hid hA2; have HG2 := Lib.hid hg2; clear b1 b2 hA2 hg2)
  clear x0 z0 x1 z1 x2 z2 x3 z3 x4 z4 x5 z5 f5
  have hl2 := HG2.out.size
  have hs1 := HS1.out
  have b3 : Blk (World.setCell w2 ⟨g, 5, none⟩ (.slice D2 n' d2)) g 26 #[.int .i64 p.k, strV p.nm, strV p.to, .int .i64 p.h.pos, .slice D1 n d1, .slice D2 n' d2] := BC.out.set 5 (.slice D2 n' d2)
  have b4 := BD.out.set_ne (show g + 1 ≠ g by omega) 5 (.slice D2 n' d2)
  have o1 := own_set (own_gr O1.out HG2.out) (show g < W.heap.size by omega) 5 (.slice D2 n' d2)
  have o2 := own_set HA2.out (show g < X.heap.size by omega) 5 (.slice D2 n' d2)
  have h1 : Below g w (World.setCell w2 ⟨g, 5, none⟩ (.slice D2 n' d2)) := (H1.out.trans ((below_gr HG2.out).mono (by omega))).setCell (p := ⟨g, 5, none⟩) (Nat.le_refl _) _
  generalize (World.setCell w2 ⟨g, 5, none⟩ (.slice D2 n' d2)) = Y at *
  have B5 := Lib.hid b3; have B6 := Lib.hid b4; have O2 := Lib.hid o1; have O3 := Lib.hid o2; have H2 := Lib.hid h1
  clear b3 b4 o1 o2 h1 hl1 hl2 hs1
  have x0 : Y.cell? ⟨g, 0, none⟩ = some (.int .i64 p.k) := B5.out.cell 0 rfl; have x1 : Y.cell? ⟨g, 1, none⟩ = some (strV p.nm) := B5.out.cell 1 rfl; have x2 : Y.cell? ⟨g, 2, none⟩ = some (strV p.to) := B5.out.cell 2 rfl; have x3 : Y.cell? ⟨g, 3, none⟩ = some (.int .i64 p.h.pos) := B5.out.cell 3 rfl; have x4 : Y.cell? ⟨g, 4, none⟩ = some (.slice D1 n d1) := B5.out.cell 4 rfl; have x5 : Y.cell? ⟨g, 5, none⟩ = some (.slice D2 n' d2) := B5.out.cell 5 rfl
  have z0 : Y.cell? ⟨g + 1, 0, none⟩ = some (.int .i64 0) := B6.out.cell 0 rfl; have z1 : Y.cell? ⟨g + 1, 1, none⟩ = some (strV []) := B6.out.cell 1 rfl; have z2 : Y.cell? ⟨g + 1, 2, none⟩ = some (strV []) := B6.out.cell 2 rfl; have z3 : Y.cell? ⟨g + 1, 3, none⟩ = some (.int .i64 0) := B6.out.cell 3 rfl; have z4 : Y.cell? ⟨g + 1, 4, none⟩ = some (.slice none 0 0) := B6.out.cell 4 rfl; have z5 : Y.cell? ⟨g + 1, 5, none⟩ = some (.slice none 0 0) := B6.out.cell 5 rfl
  have f0 : Y.frozen? ⟨g + 1, 0, none⟩ = false := B6.out.frozen 0; have f1 : Y.frozen? ⟨g + 1, 1, none⟩ = false := B6.out.frozen 1; have f2 : Y.frozen? ⟨g + 1, 2, none⟩ = false := B6.out.frozen 2; have f3 : Y.frozen? ⟨g + 1, 3, none⟩ = false := B6.out.frozen 3; have f4 : Y.frozen? ⟨g + 1, 4, none⟩ = false := B6.out.frozen 4; have f5 : Y.frozen? ⟨g + 1, 5, none⟩ = false := B6.out.frozen 5
  go_wp2
  have b5 := blk6 B6.out (.int .i64 p.k) (strV p.nm) (strV p.to) (.int .i64 p.h.pos) (.slice D1 n d1) (.slice D2 n' d2)
  have hb9 : Below g w (World.setCell (World.setCell (World.setCell (World.setCell (World.setCell (World.setCell Y ⟨g + 1, 0, none⟩ (.int .i64 p.k)) ⟨g + 1, 1, none⟩ (strV p.nm)) ⟨g + 1, 2, none⟩ (strV p.to)) ⟨g + 1, 3, none⟩ (.int .i64 p.h.pos)) ⟨g + 1, 4, none⟩ (.slice D1 n d1)) ⟨g + 1, 5, none⟩ (.slice D2 n' d2)) := ((((((H2.out.setCell (p := ⟨g + 1, 0, none⟩) (Nat.le_succ g) _).setCell (p := ⟨g + 1, 1, none⟩) (Nat.le_succ g) _).setCell (p := ⟨g + 1, 2, none⟩) (Nat.le_succ g) _).setCell (p := ⟨g + 1, 3, none⟩) (Nat.le_succ g) _).setCell (p := ⟨g + 1, 4, none⟩) (Nat.le_succ g) _).setCell (p := ⟨g + 1, 5, none⟩) (Nat.le_succ g) _)
  have o9 := own_set (own_set (own_set (own_set (own_set (own_set O2.out hgW 0 (.int .i64 p.k)) hgW 1 (strV p.nm)) hgW 2 (strV p.to)) hgW 3 (.int .i64 p.h.pos)) hgW 4 (.slice D1 n d1)) hgW 5 (.slice D2 n' d2)
  have hgX : g + 1 < X.heap.size := by have := HS1.out; have := HG.out.size; omega
  have o9' := own_set (own_set (own_set (own_set (own_set (own_set O3.out hgX 0 (.int .i64 p.k)) hgX 1 (strV p.nm)) hgX 2 (strV p.to)) hgX 3 (.int .i64 p.h.pos)) hgX 4 (.slice D1 n d1)) hgX 5 (.slice D2 n' d2)
  generalize (World.setCell (World.setCell (World.setCell (World.setCell (World.setCell (World.setCell Y ⟨g + 1, 0, none⟩ (.int .i64 p.k)) ⟨g + 1, 1, none⟩ (strV p.nm)) ⟨g + 1, 2, none⟩ (strV p.to)) ⟨g + 1, 3, none⟩ (.int .i64 p.h.pos)) ⟨g + 1, 4, none⟩ (.slice D1 n d1)) ⟨g + 1, 5, none⟩ (.slice D2 n' d2)) = X9 at *
  clear x0 z0 f0 x1 z1 f1 x2 z2 f2 x3 z3 f3 x4 z4 f4 x5 z5 f5
  have q0 : X9.cell? ⟨g + 1, 0, none⟩ = some (.int .i64 p.k) := b5.cell 0 rfl; have q1 : X9.cell? ⟨g + 1, 1, none⟩ = some (strV p.nm) := b5.cell 1 rfl; have q2 : X9.cell? ⟨g + 1, 2, none⟩ = some (strV p.to) := b5.cell 2 rfl; have q3 : X9.cell? ⟨g + 1, 3, none⟩ = some (.int .i64 p.h.pos) := b5.cell 3 rfl; have q4 : X9.cell? ⟨g + 1, 4, none⟩ = some (.slice D1 n d1) := b5.cell 4 rfl; have q5 : X9.cell? ⟨g + 1, 5, none⟩ = some (.slice D2 n' d2) := b5.cell 5 rfl
  refine bodyPost_ret (v := .agg #[.int .i64 p.k, strV p.nm, strV p.to, .int .i64 p.h.pos, .slice D1 n d1, .slice D2 n' d2]) (by simp [results, Try.results26, go_sem, q0, q1, q2, q3, q4, q5]) rfl ?_
  obtain ⟨_, _, e1, hk1, r1⟩ := rd_of_own o9
  obtain ⟨_, _, e2, hk2, r2⟩ := rd_of_own o9'
  cases e1; cases e2
  have v := HV0.out
  refine ⟨D1, d1, D2, d2, rfl, ⟨⟨v.h.l, v.h.l', hk1, hk2, v.h.m, v.h.m', r1, r2, v.h.p⟩, v.k, v.nm, v.to, v.s, v.s'⟩, ⟨(hi_own o9).mono (by rw [HGS.out]; omega), (hi_own o9').mono (by rw [HGS.out]; omega)⟩, by rw [HGS.out]; exact hb9⟩

end Pr
end Go.Proofs.Ytfjllohhjpiphaa
