/-
  What package patch's May and Same return, and what they call (walks).
-/
import Derived.Test.YtcfoodbfapldbaaPnLeaf
import Derived.Test.YtcfoodbfapldbaaFlLeaf
import Derived.Test.YtcfoodbfapldbaaGX
set_option maxRecDepth 100000
namespace Go.Proofs.Ytcfoodbfapldbaa
open Go.RowKit
set_option linter.unusedVariables false
set_option linter.unusedSimpArgs false
namespace Pn
open Tx Df Sq Hk Tr Pr Fl

/-! Plain: Deps, two by two. -/
def hangI (me a x : Id_) : Bool := okI x && (lessI a x && decide (x ≠ me))
def twoI (me : Id_) : Id_ → List Id_ → Bool
  | _, [] => true
  | a, x :: l => hangI me a x && twoI me x l
theorem less_none {x : Id_} (h : okI x = true) : lessI (0, 0) x = true := by
  obtain ⟨x, y⟩ := x
  rw [okI_iff] at h
  rw [lessI_iff']
  omega
theorem twoI_rise (me : Id_) : ∀ (l : List Id_) (a : Id_), twoI me a l = ((l.all fun x => okI x && decide (x ≠ me)) && riseI (a :: l))
  | [], a => rfl
  | x :: l, a => by
    rw [twoI, twoI_rise me l x, List.all_cons, riseI]
    unfold hangI
    cases okI x <;> cases lessI a x <;> cases decide (x ≠ me) <;> simp
theorem twoI_deps (me : Id_) (l : List Id_) : twoI me (0, 0) l = depsOk me l := by
  rw [twoI_rise]
  unfold depsOk
  cases l with
  | nil => rfl
  | cons x l =>
    cases h : okI x with
    | false => simp [h]
    | true => rw [riseI, less_none h, Bool.true_and]
theorem twoI_at {me a : Id_} {l : List Id_} {k : Nat} {x : Id_} (hx : l[k]? = some x) : twoI me a (l.drop k) = (hangI me a x && twoI me x (l.drop (k + 1))) := by rw [drop_at hx]; rfl
def hangN (p : Nm) : Bool := decide (p.deps.length ≤ 60) && depsOk p.id p.deps
theorem mayN_eq (p : Nm) : mayN p = (okI p.id && (hangN p && (may p.txt && (decide (p.l.length ≤ 200) && p.l.all mayP)))) := by
  unfold mayN hangN
  cases okI p.id <;> cases may p.txt <;> cases p.l.all mayP <;> cases depsOk p.id p.deps <;> cases decide (p.deps.length ≤ 60) <;> cases decide (p.l.length ≤ 200) <;> rfl

attribute [local go_sem] eq_id
set_option maxHeartbeats 1000000 in
theorem hang1 (a x me : Id_) (g : Nat) (w : World) (hc0 : w.cell? ⟨g, 0, none⟩ = some (.int .i64 me.1)) (hc1 : w.cell? ⟨g, 1, none⟩ = some (.int .i64 me.2)) (hg : g < w.heap.size) (b : Bool) (hb : hangI me a x = b) :
    Calls Try.prog 51 #[.agg #[.int .i64 a.1, .int .i64 a.2], .agg #[.int .i64 x.1, .int .i64 x.2], .pointer (some ⟨g, 0, none⟩)] w (BoolEnd w b) := by
  have HB := Lib.hid hb.symm
  have b0 := (Blk.new w 23 #[.int .i64 a.1, .int .i64 a.2]).alloc (.cells #[.int .i64 x.1, .int .i64 x.2] 23)
  have b1 := Blk.new (w.alloc (.cells #[.int .i64 a.1, .int .i64 a.2] 23)) 23 #[.int .i64 x.1, .int .i64 x.2]
  have hbw := two_box w (.cells #[.int .i64 a.1, .int .i64 a.2] 23) (.cells #[.int .i64 x.1, .int .i64 x.2] 23)
  simp only [World.size_alloc] at b1
  have B0 := Lib.hid b0; have B1 := Lib.hid b1; have HBW := Lib.hid hbw; have C0 := Lib.hid hc0; have C1 := Lib.hid hc1; have HG := Lib.hid hg
  clear hb b0 b1 hbw hc0 hc1 hg
  go_enter Try.func51, Try.ntmps51
  go_upto_region 1 with fail
  generalize ((w.alloc (.cells #[.int .i64 a.1, .int .i64 a.2] 23)).alloc (.cells #[.int .i64 x.1, .int .i64 x.2] 23)) = w1 at B0 B1 HBW ⊢
  obtain ⟨z, hz⟩ : ∃ z, w.heap.size = z := ⟨_, rfl⟩
  rw [hz] at B0 B1 ⊢
  clear hz
  have x0 := B1.out.cell 0 rfl; have x1 := B1.out.cell 1 rfl
  go_wp2_with fail
  obtain ⟨bo, hbo⟩ : ∃ b, okI x = b := ⟨_, rfl⟩
  refine (mayIdC x w1 bo hbo).mono ?_
  rintro e w2 ⟨rfl, hb2⟩
  have HBO := Lib.hid hbo
  replace B0 := Lib.hid (B0.out.below hb2 B0.out.lt); replace B1 := Lib.hid (B1.out.below hb2 B1.out.lt)
  replace HBW := Lib.hid (below_mv HBW.out hb2)
  clear x0 x1 hb2 hbo
  cases bo with
  | false =>
    go_wp2
    go_ret
    exact ⟨ret_bool (by rw [HB.out]; unfold hangI; rw [HBO.out]; rfl), HBW.out⟩
  | true =>
    have x0 := B1.out.cell 0 rfl; have x1 := B1.out.cell 1 rfl; have y0 := B0.out.cell 0 rfl; have y1 := B0.out.cell 1 rfl
    go_wp2_with fail
    obtain ⟨bl, hbl⟩ : ∃ b, lessI a x = b := ⟨_, rfl⟩
    refine (LessC a x w2 bl hbl).mono ?_
    rintro e w3 ⟨rfl, hb2⟩
    have HBL := Lib.hid hbl
    replace B1 := Lib.hid (B1.out.below hb2 B1.out.lt)
    replace HBW := Lib.hid (below_mv HBW.out hb2)
    clear x0 x1 y0 y1 hb2 hbl B0
    cases bl with
    | false =>
      go_wp2
      go_ret
      exact ⟨ret_bool (by rw [HB.out]; unfold hangI; rw [HBL.out, HBO.out]; rfl), HBW.out⟩
    | true =>
      have x0 := B1.out.cell 0 rfl; have x1 := B1.out.cell 1 rfl
      have g0 := (HBW.out.cell (p := ⟨g, 0, none⟩) HG.out).trans C0.out
      have g1 := (HBW.out.cell (p := ⟨g, 1, none⟩) HG.out).trans C1.out
      go_wp2
      all_goals go_ret
      all_goals refine ⟨ret_bool ?_, HBW.out⟩
      all_goals rw [HB.out]; unfold hangI; rw [HBL.out, HBO.out]
      all_goals obtain ⟨x, u⟩ := x; obtain ⟨y, v⟩ := me
      all_goals simp_all

set_option maxHeartbeats 2000000 in
theorem twoC (me : Id_) (D : Option Addr) (n c g : Nat) (l : List Id_) (w : World) (hn : l.length = n) (hle : n ≤ 1000) (hR : RdI w w.heap.size D l) (hc0 : w.cell? ⟨g, 0, none⟩ = some (.int .i64 me.1)) (hc1 : w.cell? ⟨g, 1, none⟩ = some (.int .i64 me.2)) (hg : g < w.heap.size) (b : Bool) (hb : depsOk me l = b) :
    Calls Try.prog 50 #[.slice D n c, .func (.func 51) #[] #[.pointer (some ⟨g, 0, none⟩)]] w (BoolEnd w b) := by
  have HN := Lib.hid hn; have HR := Lib.hid hR; have C0 := Lib.hid hc0; have C1 := Lib.hid hc1; have HG := Lib.hid hg
  have HB := Lib.hid (show b = twoI me (0, 0) (l.drop 0) by rw [← hb, ← twoI_deps]; rfl)
  clear hn hR hc0 hc1 hg hb
  have b0 := Blk.new w 23 #[.int .i64 0, .int .i64 0]
  have hba : Below w.heap.size w (w.alloc (.cells #[.int .i64 0, .int .i64 0] 23)) := (Below.refl _ _).alloc (Nat.le_refl _) _
  have B0 := Lib.hid b0; have HBA := Lib.hid hba
  clear b0 hba
  go_enter Try.func50, Try.ntmps50
  go_wp2_with fail
  obtain ⟨z, hz⟩ : ∃ z, w.heap.size = z := ⟨_, rfl⟩
  have HZ := Lib.hid hz
  rw [hz] at B0 ⊢
  clear hz
  go_loopw [10] (fun i wr => ∃ (k : Nat) (a : Id_), k ≤ n ∧ i = .int .i64 (k : Int) ∧ Blk wr z 23 #[.int .i64 a.1, .int .i64 a.2] ∧ b = twoI me a (l.drop k) ∧ Below w.heap.size w wr) (fun i _ => n - (intOf i).toNat)
  case atStart => exact ⟨0, (0, 0), Nat.zero_le _, rfl, B0.out, HB.out, HBA.out⟩
  case round =>
    clear B0 HB HBA
    obtain ⟨k, a, hk, rfl, hblk, htw, hbw⟩ := hrel
    have HBW := Lib.hid hbw; have B0 := Lib.hid hblk; have HT := Lib.hid htw; clear hbw hblk htw
    by_cases hlt : k < n
    · have hki : (k : Int) < (n : Int) := by omega
      obtain ⟨ad, x, rfl, hS, hx, c0, c1⟩ := ((HR.out.mv HBW.out).elem (k := k) (by rw [HN.out]; exact hlt))
      have HX := Lib.hid hx
      have hba : Below wr.heap.size wr (wr.alloc (.cells #[.int .i64 x.1, .int .i64 x.2] 23)) := (Below.refl _ _).alloc (Nat.le_refl _) _
      have B1 := Lib.hid (Blk.new wr 23 #[.int .i64 x.1, .int .i64 x.2])
      have B2 := Lib.hid (B0.out.below hba B0.out.lt)
      have HBA := Lib.hid (below_mv HBW.out hba)
      have z0 := B0.out.cell 0 rfl; have z1 := B0.out.cell 1 rfl
      have hzl := B0.out.lt
      clear hx hS hba
      go_wp2_with fail
      clear z0 z1 c0 c1 hzl
      obtain ⟨bl, hbl⟩ : ∃ b, hangI me a x = b := ⟨_, rfl⟩
      refine (hang1 a x me g _ ((HBA.out.cell (p := ⟨g, 0, none⟩) HG.out).trans C0.out) ((HBA.out.cell (p := ⟨g, 1, none⟩) HG.out).trans C1.out) (Nat.lt_of_lt_of_le HG.out HBA.out.size) bl hbl).mono ?_
      rintro e w2 ⟨rfl, hb2⟩
      have HBL := Lib.hid hbl
      have HE := Lib.hid (HT.out.trans (twoI_at HX.out))
      rw [hbl] at HE
      replace B1 := Lib.hid (B1.out.below hb2 B1.out.lt); replace B2 := Lib.hid (B2.out.below hb2 B2.out.lt)
      replace HBA := Lib.hid (below_mv HBA.out hb2)
      clear hb2 hbl HT B0
      cases bl with
      | false =>
        go_wp2
        go_ret
        exact ⟨ret_bool (by rw [HE.out]; rfl), HBA.out⟩
      | true =>
        have x0 := B1.out.cell 0 rfl; have x1 := B1.out.cell 1 rfl
        have z0 := B2.out.cell 0 rfl; have z1 := B2.out.cell 1 rfl
        have f0 := B2.out.frozen 0; have f1 := B2.out.frozen 1
        go_wp2_with fail
        refine ⟨⟨k + 1, x, by omega, by go_num, (B2.out.set 0 _).set 1 _, by rw [HE.out, Bool.true_and], ?_⟩, by simp [intOf]; omega⟩
        exact (HBA.out.setCell (p := ⟨z, 0, none⟩) (by rw [HZ.out]; exact Nat.le_refl _) _).setCell (p := ⟨z, 1, none⟩) (by rw [HZ.out]; exact Nat.le_refl _) _
    · go_wp2
      go_ret
      refine ⟨ret_bool ?_, HBW.out⟩
      rw [HT.out, List.drop_of_length_le (by rw [HN.out]; omega)]
      rfl

set_option maxHeartbeats 1000000 in
theorem hangC (D : Option Addr) (dn dc : Nat) (A : Option Addr) (n c : Nat) (p : Nm) (w : World) (b : Bool) (hv : NV w w.heap.size D dn dc A n c p) (hb : hangN p = b) :
    Calls Try.prog 31 #[nmV p.id D dn dc p.txt A n c] w (BoolEnd w b) := by
  obtain ⟨id, ds, t, l⟩ := p
  have HV := Lib.hid hv; have HB := Lib.hid hb.symm
  have HBX := Lib.hid (Blk.new w 27 #[.int .i64 id.1, .int .i64 id.2, .slice D dn dc, strV t, .slice A n c])
  have HBA := Lib.hid (show Below w.heap.size w (w.alloc (.cells #[.int .i64 id.1, .int .i64 id.2, .slice D dn dc, strV t, .slice A n c] 27)) from (Below.refl _ _).alloc (Nat.le_refl _) _)
  clear hv hb
  dsimp only
  go_enter Try.func31, Try.ntmps31
  have HDL := Lib.hid (show ds.length = dn from HV.out.dl)
  by_cases h60 : dn ≤ 60
  · have e0 : decide ((dn : Int) ≤ 60) = true := decide_eq_true (by omega)
    go_wp2_with fail
    obtain ⟨bl, hbl⟩ : ∃ b, depsOk id ds = b := ⟨_, rfl⟩
    refine (twoC id D dn dc w.heap.size ds _ HDL.out (by omega) (RdI.mv HV.out.dr HBA.out) (HBX.out.cell 0 rfl) (HBX.out.cell 1 rfl) HBX.out.lt bl hbl).mono ?_
    rintro e w2 ⟨rfl, hb2⟩
    have HBW := Lib.hid (below_mv HBA.out hb2)
    have HBL := Lib.hid hbl
    clear hb2 hbl
    go_wp2
    all_goals go_ret
    all_goals refine ⟨ret_bool ?_, HBW.out⟩
    all_goals rw [HB.out]; unfold hangN; dsimp only; rw [HBL.out, HDL.out, decide_eq_true h60]; rfl
  · have e0 : decide ((dn : Int) ≤ 60) = false := decide_eq_false (by omega)
    go_wp2
    all_goals go_ret
    all_goals refine ⟨ret_bool ?_, HBA.out⟩
    all_goals rw [HB.out]; unfold hangN; dsimp only; rw [HDL.out, decide_eq_false h60]; rfl

end Pn
end Go.Proofs.Ytcfoodbfapldbaa
