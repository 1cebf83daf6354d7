/-
  What Of of layer 5 returns (walk): the hunks of two lists, in memory of its own.
-/
import Derived.Test.YtjhjmfodpnipiaaHkNext
import Derived.Test.YtjhjmfodpnipiaaHkCells
import Derived.Test.YtjhjmfodpnipiaaDfEdits
set_option maxRecDepth 100000
namespace Go.Proofs.Ytjhjmfodpnipiaa
open Go.RowKit
set_option linter.unusedVariables false
namespace Hk
open Tx Df

theorem info_hunk : (Try.prog.info? 37).map (fun i => (i.zero, i.size, i.bytes)) = some (some (.agg #[.int .i64 0, .slice none 0 0, .slice none 0 0]), 3, 56) := by kernel_rfl

/-- How Of ends. -/
def OfEnd (w : World) (hs : List HU) (e : Ending) (w' : World) : Prop :=
  ∃ A c, e = .returned (.slice A hs.length c) ∧ hs.length ≤ c ∧ RdH w' w'.heap.size A hs ∧ Below w.heap.size w w'

/-- The hunks, and their lines, lie in memory made behind the first lo blocks. -/
def HkHi (w : World) (lo : Nat) (A : Option Addr) (hs : List HU) : Prop :=
  ∀ (k : Nat) x, hs[k]? = some x → ∃ a A1 c1 A2 c2, A = some a ∧ lo ≤ a.block ∧ w.cell? ⟨(a.add (k * 3)).block, (a.add (k * 3)).off + 1, none⟩ = some (.slice A1 x.old.length c1) ∧ w.cell? ⟨(a.add (k * 3)).block, (a.add (k * 3)).off + 2, none⟩ = some (.slice A2 x.new.length c2) ∧ Hi lo A1 ∧ Hi lo A2
/-- The same of cells. -/
def HHi (lo : Nat) (hs : List HU) (xs : List Value) : Prop :=
  ∀ (k : Nat) x, hs[k]? = some x → ∃ A1 c1 A2 c2, xs[k * 3 + 1]? = some (.slice A1 x.old.length c1) ∧ xs[k * 3 + 2]? = some (.slice A2 x.new.length c2) ∧ Hi lo A1 ∧ Hi lo A2
theorem hhi_nil (lo : Nat) : HHi lo [] [] := fun k x hx => by simp at hx
theorem hhi_snoc {lo : Nat} {hs : List HU} {xs : List Value} {x : HU} {v : Value} {A A' : Option Addr} {c c' n m : Nat} (H : HHi lo hs xs) (hl : xs.length = hs.length * 3) (hn : x.old.length = n) (hm : x.new.length = m) (h : Hi lo A) (h' : Hi lo A') :
    HHi lo (hs ++ [x]) (xs ++ [v, .slice A n c, .slice A' m c']) := fun k y hy => by
  subst hn hm
  rcases Nat.lt_trichotomy k hs.length with hk | rfl | hk
  · rw [List.getElem?_append_left hk] at hy
    obtain ⟨A1, c1, A2, c2, g1, g2, g⟩ := H k y hy
    refine ⟨A1, c1, A2, c2, ?_, ?_, g⟩
    · rw [List.getElem?_append_left (by omega)]; exact g1
    · rw [List.getElem?_append_left (by omega)]; exact g2
  · rw [List.getElem?_append_right (Nat.le_refl _), Nat.sub_self] at hy
    cases hy
    refine ⟨A, c, A', c', ?_, ?_, h, h'⟩
    · rw [← hl, List.getElem?_append_right (by omega), Nat.add_sub_cancel_left]; rfl
    · rw [← hl, List.getElem?_append_right (by omega), Nat.add_sub_cancel_left]; rfl
  · rw [List.getElem?_eq_none (by simp; omega)] at hy; cases hy
theorem hkHi_own {W : World} {base n c lo : Nat} {A : Option Addr} {hs : List HU} {xs : List Value} (hr : W.ownsRow base 37 3 (.slice A n c) n xs) (H : HHi lo hs xs) (hn : hs.length = n) (hb : lo ≤ base) : HkHi W lo A hs := fun k x hx => by
  have hk : k < hs.length := (List.getElem?_eq_some_iff.1 hx).1
  obtain ⟨A1, c1, A2, c2, g1, g2, g3, g4⟩ := H k x hx
  rcases hr.2 with ⟨_, h0⟩ | ⟨g, cap, cur, e, hbg, hg, hc, _⟩
  · omega
  · injection e with e1 e2 e3
    subst e1
    have ea : (⟨g, 0, none⟩ : Addr).add (k * 3) = ⟨g, k * 3, none⟩ := by unfold Addr.add; split <;> simp_all
    refine ⟨_, A1, c1, A2, c2, rfl, Nat.le_trans hb hbg, ?_, ?_, g3, g4⟩
    · rw [ea]; show W.cell? ⟨g, k * 3 + 1, none⟩ = _; rw [hr.cellAt (k * 3 + 1) (by omega)]; exact g1
    · rw [ea]; show W.cell? ⟨g, k * 3 + 2, none⟩ = _; rw [hr.cellAt (k * 3 + 2) (by omega)]; exact g2
theorem newHi_gr {W W' : World} {B b lo : Nat} {t : TypeId} {A0 : Option Addr} {n0 c0 : Nat} {k0 : IntKind} {m0 : Int} {A : Option Addr} {es : List E} (hb : Blk W b t #[.slice A0 n0 c0, .int k0 m0]) (hg : Keep B b W W') (hR : RdE W B A es) (hh : NewHi W lo A es) : NewHi W' lo A es := fun k x hx => by
  obtain ⟨a, A', c', rfl, h2, h3⟩ := hh k x hx
  rcases hR with rfl | ⟨a', e, hlt, _⟩
  · simp at hx
  · injection e with e
    subst e
    have h2' := h2
    have hne : (a.add (k * 3)).block ≠ b := fun eq => by
      unfold World.cell? at h2
      simp only [eq, show W.heap[b]? = _ from hb] at h2
      simp at h2
    exact ⟨a, A', c', rfl, (World.cell?_of_block (a := ⟨(a.add (k * 3)).block, (a.add (k * 3)).off + 2, none⟩) (hg _ (by show (a.add (k * 3)).block < B; rw [add_block]; exact hlt) hne)).trans h2', h3⟩
/-- How Of ends, all in memory that is new. -/
def OfEndH (w : World) (hs : List HU) (e : Ending) (w' : World) : Prop :=
  ∃ A c, e = .returned (.slice A hs.length c) ∧ hs.length ≤ c ∧ RdH w' w'.heap.size A hs ∧ HkHi w' w.heap.size A hs ∧ Below w.heap.size w w'
theorem OfEndH.end_ {w w' : World} {hs : List HU} {e : Ending} (h : OfEndH w hs e w') : OfEnd w hs e w' := by
  obtain ⟨A, c, h1, h2, h3, _, h4⟩ := h
  exact ⟨A, c, h1, h2, h3, h4⟩

/-- What holds between the edits. -/
structure OInv (w1 : World) (mb : Nat) (A : Option Addr) (n c : Nat) (a b : List (List UInt8)) (es : List E) (k : Nat) (mv : Int) (pre : List HU) (v : Value) (wr : World) : Prop where
  row : ∃ xs, wr.ownsRow w1.heap.size 37 3 v k xs ∧ HCells wr w1.heap.size w1.heap.size pre xs ∧ HHi mb pre xs
  len : pre.length = k
  blk : Blk wr mb 85 #[.slice A n c, .int .i64 mv]
  fr : w1.grownBy wr (some mb)
  eq : pre ++ hks a mv (es.drop k) = hks a 0 es
  at_ : ∃ k0 f u r, apl a k0 f (es.drop k) = some r ∧ u ++ r = b ∧ (u.length : Int) = k0 + mv ∧ k0 ≤ a.length

theorem hunk_drop {α : Type} {l : List α} {k : Nat} (h : k < l.length) : l.drop k = l[k] :: l.drop (k + 1) := List.drop_eq_getElem_cons h

theorem ostep {w1 wr w2 w4 : World} {mb : Nat} {A : Option Addr} {n c : Nat} {a b : List (List UInt8)} {es : List E} {k : Nat} {mv : Int} {pre : List HU} {v v' : Value} {xs : List Value} {p o ll : Nat} {l : List (List UInt8)} {oe ob : Obj}
    {D1 : Option Addr} {k1 : Nat} {A3 : Option Addr} {c3 k0 : Nat} {u r r0 : List (List UInt8)}
    (I : OInv w1 mb A n c a b es k mv pre v wr) (hrow : wr.ownsRow w1.heap.size 37 3 v k xs) (hH : HCells wr w1.heap.size w1.heap.size pre xs) (hX : HHi mb pre xs) (hA3 : Hi mb A3) (hmb : mb < w1.heap.size)
    (heq : pre ++ hks a mv (⟨(p : Int), (o : Int), l⟩ :: es.drop (k + 1)) = hks a 0 es) (hap : apl a ((p : Int) + (o : Int)).toNat false (es.drop (k + 1)) = some r) (hr0 : r0 = mid a k0 (p : Int).toNat ++ l ++ r) (hur : u ++ r0 = b) (hul : (u.length : Int) = k0 + mv)
    (hkp : k0 ≤ p) (hn : a.length = n) (hpo : p + o ≤ n) (hln : n ≤ 1000) (hll : l.length = ll) (hll2 : ll ≤ 1000) (hmv : -1000000 ≤ mv) (hmv' : mv ≤ 1000000) (hc3 : ll ≤ c3) (hR3 : RdS wr w1.heap.size A3 l)
    (hr2 : w2.ownsRow (wr.alloc oe).heap.size 9 1 (.slice D1 o k1) o ((mid a p (p + o)).map strV)) (hM2 : Blk w2 mb 85 #[.slice A n c, .int .i64 (mv + ll - o)]) (hg2 : (wr.alloc oe).grownBy w2 (some mb))
    (hown : w4.ownsRow w1.heap.size 37 3 v' (k + 1) (xs ++ [.int .i64 (p + mv), .slice D1 o k1, .slice A3 ll c3])) (hgrow : (w2.alloc ob).grownBy w4 v.ownBlock) :
    OInv w1 mb A n c a b es (k + 1) (mv + ll - o) (pre ++ [⟨p + mv, mid a p (p + o), l⟩]) v' w4 := by
  have hge := own_ge hrow
  have hs1 := I.fr.size
  have g1 := World.grownBy_alloc wr oe none
  have g2 := World.grownBy_alloc w2 ob none
  have hsz2 : w1.heap.size ≤ w2.heap.size := Nat.le_trans hs1 (Nat.le_trans g1.size hg2.size)
  have hsz3 : w1.heap.size ≤ (w2.alloc ob).heap.size := Nat.le_trans hsz2 g2.size
  have hK : Keep w1.heap.size mb wr w4 := ((keep_gr g1 hs1 (fun k e => by cases e)).trans (keep_gr hg2 (Nat.le_trans hs1 g1.size) (fun k e => .inl (by injection e with e; exact e.symm)))).trans
    ((keep_gr g2 hsz2 (fun k e => by cases e)).trans (keep_gr hgrow hsz3 (fun k e => .inr (hge k e))))
  have hrow2 : (w2.alloc ob).ownsRow w1.heap.size 37 3 v k xs := own_gr ((own_gr hrow g1).kept hg2 (.inr fun e => (I.blk.alloc oe).not_row (by decide) (own_gr hrow g1) e.symm)) g2
  have hS : KpS wr w4 := ((kpS_none g1).trans (kpS_blk (I.blk.alloc oe) (by decide) hg2)).trans ((kpS_none g2).trans (kpS_row hrow2 (by decide) hgrow))
  have hRd : ∀ A ls, RdS wr w1.heap.size A ls → RdS w4 w1.heap.size A ls := fun A ls h => rdS_gr I.blk hK h
  have hlen : (mid a p (p + o)).length = o := by rw [mid_len (by omega)]; omega
  have hS2 : KpS w2 w4 := (kpS_none g2).trans (kpS_row hrow2 (by decide) hgrow)
  have hhx := hhi_snoc (v := .int .i64 (p + mv)) (x := ⟨p + mv, mid a p (p + o), l⟩) (A := D1) (c := k1) (A' := A3) (c' := c3) hX hH.1 hlen hll ((hi_own hr2).mono (Nat.le_trans (Nat.le_of_lt hmb) (Nat.le_trans hs1 g1.size))) hA3
  refine ⟨⟨_, hown, ?_, hhx⟩, by rw [List.length_append, I.len]; rfl, (hM2.alloc ob).gr hgrow (fun e => absurd (hge mb e.symm) (by omega)), ?_, ?_, ?_⟩
  · have hh := hcells_snoc (x := ⟨p + mv, mid a p (p + o), l⟩) (A := D1) (c := k1) (A' := A3) (c' := c3) (hH.kept hS hRd) (by simp only [hlen]; exact own_mono (own_kpS hr2 hS2) (Nat.le_trans hs1 g1.size)) (by simp only [hll]; exact hc3) (hRd _ _ hR3) (by unfold I64; simp only; omega) (by simp only [hlen]; unfold maxLen; omega) (by simp only [hll]; unfold maxLen; omega)
    simp only [hlen, hll] at hh
    exact hh
  · have hos := hgrow
    exact ⟨hgrow.os.trans (g2.os.trans (hg2.os.trans (g1.os.trans I.fr.os))), hgrow.tape.trans (g2.tape.trans (hg2.tape.trans (g1.tape.trans I.fr.tape))), hgrow.output.trans (g2.output.trans (hg2.output.trans (g1.output.trans I.fr.output))), Nat.le_trans hsz3 hgrow.size,
      fun k hk hne => (hK k hk (fun e => hne (by rw [e]))).trans (I.fr.block k hk hne)⟩
  · rw [← heq, hks, List.append_assoc]
    simp only [hll, Int.toNat_natCast, show ((p : Int) + (o : Int)).toNat = p + o by omega]
    rfl
  · refine ⟨((p : Int) + (o : Int)).toNat, false, u ++ (mid a k0 p ++ l), r, hap, ?_, ?_, by omega⟩
    · rw [← hur, hr0, Int.toNat_natCast]; simp only [List.append_assoc]
    · rw [List.length_append, List.length_append, mid_len (by omega), hll]; omega

set_option maxRecDepth 100000 in
set_option maxHeartbeats 4000000 in
theorem OfH (A A' : Option Addr) (c c' n m B : Nat) (a b : List (List UInt8)) (w : World) (hn : a.length = n) (hm : b.length = m) (hnc : n ≤ c) (hmc : m ≤ c') (hln : n ≤ 1000) (hlm : m ≤ 1000) (hB : B ≤ w.heap.size)
    (hR : RdS w B A a) (hR' : RdS w B A' b) :
    Calls Try.prog 43 #[.slice A n c, .slice A' m c'] w (OfEndH w (hks a 0 (edits a b))) := by
  obtain ⟨i0, hi0, hz0, hz1, hz2⟩ := info_parts info_hunk
  have HN := Lib.hid hn; clear hn
  have HM := Lib.hid hm; clear hm
  go_enter Try.func43, Try.ntmps43
  go_wp2_with fail
  have hb0 := Blk.new w 85 #[.slice A n c, .int .i64 0]
  have hw0 : Below w.heap.size w (w.alloc (.cells #[.slice A n c, .int .i64 0] 85)) := (Below.refl _ _).alloc (Nat.le_refl _) _
  have hs0 : w.heap.size < (w.alloc (.cells #[.slice A n c, .int .i64 0] 85)).heap.size := by simp
  generalize w.alloc (.cells #[.slice A n c, .int .i64 0] 85) = w0 at *
  refine (EditsH A A' c c' n m B a b w0 HN.out HM.out hnc hmc hln hlm (Nat.le_trans hB hw0.size) (hR.below (hw0.mono hB)) (hR'.below (hw0.mono hB))).mono ?_
  have hap := edits_appl a b
  obtain ⟨es, hes⟩ : ∃ es, edits a b = es := ⟨_, rfl⟩
  rw [hes] at hap ⊢
  obtain ⟨N, hN⟩ : ∃ N, es.length = N := ⟨_, rfl⟩
  have hNle := edits_len_le a b
  rw [hes, hN, HN.out, HM.out] at hNle
  have HES := Lib.hid hes; clear hes
  rintro e w1 ⟨A1, c1, rfl, hc1, hE, hnh, hb1⟩
  have HNH := Lib.hid (hnh.mono (Nat.le_of_lt hs0))
  clear hnh
  rw [hN] at hc1 ⊢
  have HW1 := Lib.hid (hw0.trans (hb1.mono hw0.size))
  have I0 : OInv w1 w.heap.size A n c a b es 0 0 [] (.slice none 0 0) w1 := ⟨⟨[], World.ownsRow_nil _ _ _ _, hcells_nil _ _ _, hhi_nil _⟩, rfl, hb0.below hb1 hs0, World.grownBy.refl _ _, rfl, 0, true, [], b, hap, rfl, rfl, Nat.zero_le _⟩
  have HE := Lib.hid hE; have HI0 := Lib.hid I0; have HNN := Lib.hid hN
  have HR1 := Lib.hid (Rd.below hR (HW1.out.mono hB))
  have HB1 := Lib.hid (hb0.below hb1 hs0)
  clear hb0 hw0 hs0 hap hN hE hb1 I0 hR hR'
  obtain ⟨mb, hmb⟩ : ∃ mb, w.heap.size = mb := ⟨_, rfl⟩
  rw [hmb] at HW1 HI0 HB1 HNH hB ⊢
  have HMB := Lib.hid hmb; clear hmb
  have HMW : Hid (mb ≤ w1.heap.size) := Lib.hid (Nat.le_of_lt HB1.out.lt)
  go_wp2_with fail
  go_loopw [7, 17] (fun v7 v17 wr => ∃ (k : Nat) (mv : Int) (pre : List HU), k ≤ N ∧ v17 = .int .i64 (k : Int) ∧ OInv w1 mb A n c a b es k mv pre v7 wr) (fun _ v17 _ => N - (intOf v17).toNat)
  case atStart => exact ⟨0, 0, [], Nat.zero_le _, rfl, HI0.out⟩
  case round =>
    obtain ⟨k, mv, pre, hk, rfl, I⟩ := hrel
    by_cases hlt : k < N
    · have hkl : k < es.length := by rw [HNN.out]; exact hlt
      have heq := I.eq
      obtain ⟨k0, f, u, r0, hap, hur, hul, hk0⟩ := I.at_
      rw [hunk_drop hkl] at heq hap
      have hE := rdE_gr HB1.out (keep_gr I.fr (Nat.le_refl _) (fun k e => .inl (by injection e with e; exact e.symm))) HE.out
      have HD := Lib.hid hur
      have hnh := newHi_gr HB1.out (keep_gr I.fr (Nat.le_refl _) (fun k e => .inl (by injection e with e; exact e.symm))) HE.out HNH.out
      obtain ⟨pa, rfl, hpa, hat⟩ := hE.at_ hkl
      obtain ⟨c0', c1', ⟨A3, c3, k3, hc3, hR3⟩, _, _, hl3⟩ := hat
      have hA3 : Hi mb A3 := by
        obtain ⟨a', A', c', e, h2, h3⟩ := hnh k _ (List.getElem?_eq_getElem hkl)
        injection e with e
        subst e
        rw [k3] at h2
        injection h2 with h2
        injection h2 with h2
        subst h2
        exact h3
      have HA3 := Lib.hid hA3
      clear hA3 hnh
      generalize es[k] = x at *
      obtain ⟨p, o, l⟩ := x
      obtain ⟨⟨z1, z2, z3, z4, z5⟩, r, hap2, hr0⟩ := apl_some hap
      simp only at c0' c1' k3 hc3 hR3 hl3 z1 z3 z4 z5 hap2 hr0
      obtain ⟨p, rfl⟩ : ∃ q : Nat, p = q := ⟨p.toNat, by omega⟩
      obtain ⟨o, rfl⟩ : ∃ q : Nat, o = q := ⟨o.toNat, by omega⟩
      obtain ⟨ll, hll⟩ : ∃ ll, l.length = ll := ⟨_, rfl⟩
      rw [HN.out] at z3 z5
      have hblen := congrArg List.length hur
      rw [hr0, HM.out] at hblen
      simp only [List.length_append, hll] at hblen
      rw [hll] at k3 hc3 hl3
      have hpo : p + o ≤ n := by omega
      have hll2 : ll ≤ 1000 := by omega
      have hmv1 : -1000000 ≤ mv := by rw [HN.out] at hk0; omega
      have hmv2 : mv ≤ 1000000 := by omega
      have t1 : (k : Int) < (N : Int) := by omega
      have t2 : (0 : Int) ≤ (k : Int) := by omega
      have HI := Lib.hid I; have HEQ := Lib.hid heq; have HAP2 := Lib.hid hap2; have HR0 := Lib.hid hr0; have HLL := Lib.hid hll; have HUL := Lib.hid hul; have HKP : Hid (k0 ≤ p) := Lib.hid (by omega); have HR3 := Lib.hid hR3; have HPA := Lib.hid hpa
      clear I heq hap hap2 hr0 hll hur hblen hul hR3 hE z1 z2 z3 z4 z5 hpa
      go_wp2_with fail
      refine (next mb A n c mv p o A3 ll c3 B a _ (Nat.le_trans hB (Nat.le_trans HMW.out (Nat.le_trans HI.out.fr.size (by simp)))) (HI.out.blk.alloc _) HN.out hnc hln (rd_alloc (rdS_gr HB1.out (fun k hk hne => HI.out.fr.block k (by have := HMW.out; omega) (fun e => hne (by injection e))) HR1.out) (Nat.le_trans hB (Nat.le_trans HMW.out HI.out.fr.size)) _) hpo hll2 hmv1 hmv2).mono ?_
      rintro e w2 ⟨D1, k1, rfl, hr2, hM2, hg2⟩
      obtain ⟨xs, hrow, hH, hX⟩ := HI.out.row
      have hrowa := own_gr hrow (World.grownBy_alloc wr (.cells #[.int .i64 (p : Int), .int .i64 (o : Int), .slice A3 ll c3] 90) none)
      have hrow2 := hrowa.kept hg2 (.inr fun e => (HI.out.blk.alloc _).not_row (by decide) hrowa e.symm)
      have hrow3 := own_gr hrow2 (World.grownBy_alloc w2 (.cells #[.int .i64 ((p : Int) + mv), .slice D1 o k1, .slice A3 ll c3] 37) none)
      have f2 : k + 1 ≤ maxLen := by unfold maxLen; omega
      have f3 : (k + 1) * 56 ≤ 140737488355328 := by omega
      have hsz2 : w1.heap.size ≤ w2.heap.size := Nat.le_trans HI.out.fr.size (Nat.le_trans (by simp) hg2.size)
      have hst := fun (w4 : World) (v' : Value) => ostep (w4 := w4) (v' := v') (ob := .cells #[.int .i64 ((p : Int) + mv), .slice D1 o k1, .slice A3 ll c3] 37) HI.out hrow hH hX HA3.out HB1.out.lt HEQ.out HAP2.out HR0.out HD.out HUL.out HKP.out HN.out hpo hln HLL.out hll2 hmv1 hmv2 hc3 HR3.out hr2 hM2 hg2
      have HST := Lib.hid hst; have HROW3 := Lib.hid hrow3; have HSZ2 := Lib.hid hsz2
      clear hst hrow hH hX hrowa hrow2 hrow3 hr2 hM2 hg2 hsz2
      go_wp2_with (at_builtin; refine wpList_append_lies _ rfl (.tmp 21) (.tmp 25) 73 rfl w1.heap.size 37 i0 _ 3 56 Try.underlying73 hi0 hz0 hz1 hz2 rfl (by decide) u7 k xs rfl HROW3.out ⟨w2.heap.size, 0, none⟩ 1 1 [.int .i64 ((p : Int) + mv), .slice D1 o k1, .slice A3 ll c3] rfl rfl (World.news_of_block (cs := #[.int .i64 ((p : Int) + mv), .slice D1 o k1, .slice A3 ll c3]) (t := 37) (fr := (0, 0)) (heap_alloc_new w2 _)) (by simp [Value.oneCell']) (by decide) f2 f3 (Nat.le_trans HSZ2.out (by simp)) (w2.heap.size + 1) (by simp) ?_; intro gg cap w4 hown2 hgrow hat4 hlt4)
      have hI4 := HST.out w4 _ hown2 hgrow
      go_roundw
      case rel => exact ⟨k + 1, _, _, by omega, by go_num, hI4⟩
      case measure => simp [intOf]; omega
    · obtain rfl : k = N := by omega
      have heq := I.eq
      rw [List.drop_of_length_le (by rw [HNN.out]; exact Nat.le_refl _), hks, List.append_nil] at heq
      obtain ⟨xs, hrow, hH, hX⟩ := I.row
      obtain ⟨Ar, cr, rfl, hcr, hrd⟩ := rdH_own hrow hH I.len I.fr.size
      have hkh := hkHi_own hrow hX I.len (Nat.le_of_lt HB1.out.lt)
      have hlen := I.len
      rw [heq] at hrd hlen hkh
      have hfr := I.fr
      clear I hrow hH hX heq hlt
      have HF : Hid (Below mb w wr) := Lib.hid ⟨hfr.os.trans HW1.out.os, hfr.tape.trans HW1.out.tape, hfr.output.trans HW1.out.output, Nat.le_trans HW1.out.size hfr.size, fun k hk => (hfr.block k (by have := HMW.out; omega) (fun e => by injection e; omega)).trans (HW1.out.block k hk)⟩
      have HLEN := Lib.hid hlen; have HRD := Lib.hid hrd; have HKH := Lib.hid hkh
      clear hfr hlen hrd hkh
      go_wp2
      go_ret
      exact ⟨Ar, cr, by rw [HES.out, HLEN.out]; rfl, by rw [HES.out, HLEN.out]; exact hcr, by rw [HES.out]; exact HRD.out, by rw [HES.out, HMB.out]; exact HKH.out, by rw [HMB.out]; exact HF.out⟩

theorem Of (A A' : Option Addr) (c c' n m B : Nat) (a b : List (List UInt8)) (w : World) (hn : a.length = n) (hm : b.length = m) (hnc : n ≤ c) (hmc : m ≤ c') (hln : n ≤ 1000) (hlm : m ≤ 1000) (hB : B ≤ w.heap.size)
    (hR : RdS w B A a) (hR' : RdS w B A' b) :
    Calls Try.prog 43 #[.slice A n c, .slice A' m c'] w (OfEnd w (hks a 0 (edits a b))) :=
  (OfH A A' c c' n m B a b w hn hm hnc hmc hln hlm hB hR hR').mono fun e w' h => h.end_

end Hk
end Go.Proofs.Ytjhjmfodpnipiaa
