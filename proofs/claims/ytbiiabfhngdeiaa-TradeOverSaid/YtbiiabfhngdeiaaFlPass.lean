/-
  What package flow's Pass returns (walk): two lists of changes, the second one ahead of the first one.
-/
import Derived.Test.YtbiiabfhngdeiaaFlThru
import Derived.Test.YtbiiabfhngdeiaaFlHi
set_option maxRecDepth 100000
namespace Go.Proofs.Ytbiiabfhngdeiaa
open Go.RowKit
set_option linter.unusedVariables false
set_option linter.unusedSimpArgs false
namespace Fl
open Tx Df Sq Hk Tr Pr

/-- The rows of both lists, and what there was ahead of the call. -/
def Two (lo : Nat) (v u : Value) : Nat → Prop := fun b => b < lo ∨ some b = v.ownBlock ∨ some b = u.ownBlock

/-- How a call of Pass ends that tells x, y and bo, in memory that is new. -/
def LPassEndH (w : World) (x y : List Ch) (bo : Bool) (e : Ending) (w' : World) : Prop :=
  ∃ A c B d, e = .returned (.tuple #[.slice A x.length c, .slice B y.length d, .bool bo]) ∧ x.length ≤ c ∧ y.length ≤ d ∧ RdP w' (fun b => w.heap.size ≤ b ∧ b < w'.heap.size) A x ∧ RdP w' (fun b => w.heap.size ≤ b ∧ b < w'.heap.size) B y ∧ Below w.heap.size w w'
theorem LPassEndH.end_ {w w' : World} {x y : List Ch} {bo : Bool} {e : Ending} (h : LPassEndH w x y bo e w') : LPassEnd w x y bo e w' := by
  obtain ⟨A, c, B, d, h1, _, _, h2, h3, h4⟩ := h
  exact ⟨A, c, B, d, h1, h2.mono fun b hb => hb.2, h3.mono fun b hb => hb.2, h4⟩
section
variable {w w' : World} {x y x' y' : List Ch} {bo : Bool} {o : Option (List Ch × List Ch)}
theorem lpassH_none (h : o = none) (ho : outF o = (x, y)) (hb : o.isSome = bo) (hw : Below w.heap.size w w') : LPassEndH w x y bo (.returned (.tuple #[.slice none 0 0, .slice none 0 0, .bool false])) w' := by
  subst h
  injection ho with h1 h2
  subst h1 h2 hb
  exact ⟨none, 0, none, 0, rfl, Nat.le_refl _, Nat.le_refl _, .inl rfl, .inl rfl, hw⟩
theorem lpassH_some {A B : Option Addr} {n c m d : Nat} {S T : Nat → Prop} {b1 b2 : Nat} (h : o = some (x', y')) (ho : outF o = (x, y)) (hb : o.isSome = bo) (hn : x'.length = n) (hm : y'.length = m) (hr : OwnS w' S b1 (.slice A n c) x') (hs : OwnS w' T b2 (.slice B m d) y')
    (hS : ∀ b, S b → w.heap.size ≤ b ∧ b < w'.heap.size) (hT : ∀ b, T b → w.heap.size ≤ b ∧ b < w'.heap.size) (h1 : w.heap.size ≤ b1) (h2 : w.heap.size ≤ b2) (hw : Below w.heap.size w w') :
    LPassEndH w x y bo (.returned (.tuple #[.slice A n c, .slice B m d, .bool true])) w' := by
  subst h
  injection ho with e1 e2
  subst e1 e2 hb hn hm
  obtain ⟨_, _, e1, k1⟩ := ownS_slice hr
  obtain ⟨_, _, e2, k2⟩ := ownS_slice hs
  injection e1 with _ _ e1
  injection e2 with _ _ e2
  exact ⟨A, c, B, d, rfl, e1 ▸ k1, e2 ▸ k2, rdP_of_own_hi hr hS h1 rfl, rdP_of_own_hi hs hT h2 rfl, hw⟩
end

theorem OwnS.row6 {W : World} {S : Nat → Prop} {base g : Nat} {v : Value} {l : List Ch} (h : OwnS W S base v l) (hb : some g ≠ v.ownBlock) (hN : ¬ S g) (k : Nat) (v0 v1 v2 v3 v4 v5 : Value) :
    OwnS ((((((W.setCell ⟨g, k * 6, none⟩ v0).setCell ⟨g, k * 6 + 1, none⟩ v1).setCell ⟨g, k * 6 + 2, none⟩ v2).setCell ⟨g, k * 6 + 3, none⟩ v3).setCell ⟨g, k * 6 + 4, none⟩ v4).setCell ⟨g, k * 6 + 5, none⟩ v5) S base v l :=
  (((((h.set hb hN (k * 6) v0).set hb hN (k * 6 + 1) v1).set hb hN (k * 6 + 2) v2).set hb hN (k * 6 + 3) v3).set hb hN (k * 6 + 4) v4).set hb hN (k * 6 + 5) v5

theorem ahead_at {α : Type} {x b : List α} {k : Nat} {q : α} (hx : x.length = k) (h : b[k]? = some q) : (x ++ b.drop k)[k]? = some q := by
  rw [List.getElem?_append_right (by omega), hx, Nat.sub_self, List.getElem?_drop, Nat.add_zero]
  exact h
theorem ahead_set {α : Type} {x b : List α} {k : Nat} {q q1 : α} (hx : x.length = k) (h : b[k]? = some q) : (x ++ b.drop k).set k q1 = (x ++ [q1]) ++ b.drop (k + 1) := by
  rw [drop_at h, List.set_append_right _ _ (by omega), hx, Nat.sub_self, List.append_assoc]
  rfl

/-- Between two rounds of Pass. -/
structure PassI (w W : World) (base : Nat) (Ab Aa : Option Addr) (n n' ca cb : Nat) (a b : List Ch) (k : Nat) (x cur : List Ch) : Prop where
  eq : passF a (b.take k) = some (x, cur)
  lenx : x.length = k
  len : cur.length = n
  lt : Lt cur
  ahead : OwnS W (But W (Two w.heap.size (.slice Ab n' cb) (.slice Aa n ca))) w.heap.size (.slice Ab n' cb) (x ++ b.drop k)
  behind : OwnS W (But W (Two w.heap.size (.slice Ab n' cb) (.slice Aa n ca))) base (.slice Aa n ca) cur
  sep : ∀ g, (Value.slice Ab n' cb).ownBlock = some g → g < base
  bw : Below w.heap.size w W
  hb : w.heap.size ≤ base

theorem PassI.rl {w W : World} {base : Nat} {Ab Aa : Option Addr} {n n' ca cb k : Nat} {a b x cur : List Ch} (h : PassI w W base Ab Aa n n' ca cb a b k x cur) : ∀ g, Two w.heap.size (.slice Ab n' cb) (.slice Aa n ca) g → g < W.heap.size := fun g hg => by
  rcases hg with e | e | e
  · exact Nat.lt_of_lt_of_le e h.bw.size
  · exact ownS_lt h.ahead g e.symm
  · exact ownS_lt h.behind g e.symm
theorem PassI.ne {w W : World} {base : Nat} {Ab Aa : Option Addr} {n n' ca cb k : Nat} {a b x cur : List Ch} (h : PassI w W base Ab Aa n n' ca cb a b k x cur) : ∀ g, (Value.slice Ab n' cb).ownBlock = some g → (Value.slice Aa n ca).ownBlock ≠ some g := fun g hg e => by
  have h1 := h.sep g hg
  have h2 := ownS_ge h.behind g e
  omega

/-- The start: both are one's own. -/
theorem pass_start {w w1 w2 : World} {Ab Aa : Option Addr} {n n' ca cb : Nat} {a b : List Ch} (hn : a.length = n) (ha : Lt a)
    (h1 : OwnS w1 (Fresh w w1 (Value.slice Ab n' cb).ownBlock) w.heap.size (.slice Ab n' cb) b) (hb1 : Below w.heap.size w w1)
    (h2 : OwnS w2 (Fresh w1 w2 (Value.slice Aa n ca).ownBlock) w1.heap.size (.slice Aa n ca) a) (hb2 : Below w1.heap.size w1 w2) :
    PassI w w2 w1.heap.size Ab Aa n n' ca cb a b 0 [] a := by
  refine ⟨by rw [List.take_zero]; exact passL_nil _ _, rfl, hn, ha, ?_, ?_, fun g hg => ownS_lt h1 g hg, hb1.trans (hb2.mono hb1.size), hb1.size⟩
  · rw [List.drop_zero, List.nil_append]
    refine (h1.below hb2).mono fun b hb => ⟨by have := hb.2.1; have := hb2.size; omega, fun e => ?_⟩
    rcases e with e | e | e
    · exact absurd hb.1 (Nat.not_le.2 e)
    · exact hb.2.2 e
    · have h3 := ownS_ge h2 b e.symm
      have := hb.2.1
      omega
  · refine h2.mono fun b hb => ⟨hb.2.1, fun e => ?_⟩
    rcases e with e | e | e
    · have := hb.1
      have := hb1.size
      omega
    · have h3 := ownS_lt h1 b e.symm
      have := hb.1
      omega
    · exact hb.2.2 e

/-- A round: the change passes; what it is then is stored. -/
theorem pass_next {w W w1 w3 w4 : World} {base g : Nat} {Aa : Option Addr} {n n' ca cb k : Nat} {a b x cur a1 : List Ch} {q q1 : Ch} {E1 E2 : Option Addr} {n1 c1 n2 c2 : Nat}
    (h : PassI w W base (some ⟨g, 0, none⟩) Aa n n' ca cb a b k x cur) (hb : Lt b) (hq : b[k]? = some q) (hbl : b.length = n') (hon : one passP cur q = some (q1, a1)) (hb1 : Below W.heap.size W w1) (hg : w1.grownBy w3 (Value.slice Aa n ca).ownBlock) (hb4 : Below w3.heap.size w3 w4)
    (hrow : OwnS w3 (But w3 (Two w.heap.size (.slice (some ⟨g, 0, none⟩) n' cb) (.slice Aa n ca))) base (.slice Aa n ca) a1) (hpg : PG w3 (But w3 (Two w.heap.size (.slice (some ⟨g, 0, none⟩) n' cb) (.slice Aa n ca))) E1 n1 c1 E2 n2 c2 q1) :
    OwnS w4 (But w4 (Two w.heap.size (.slice (some ⟨g, 0, none⟩) n' cb) (.slice Aa n ca))) w.heap.size (.slice (some ⟨g, 0, none⟩) n' cb) (x ++ b.drop k) ∧
    PassI w ((((((w4.setCell ⟨g, k * 6, none⟩ (.int .i64 q1.k)).setCell ⟨g, k * 6 + 1, none⟩ (strV q1.nm)).setCell ⟨g, k * 6 + 2, none⟩ (strV q1.to)).setCell ⟨g, k * 6 + 3, none⟩ (.int .i64 q1.h.pos)).setCell ⟨g, k * 6 + 4, none⟩ (.slice E1 n1 c1)).setCell ⟨g, k * 6 + 5, none⟩ (.slice E2 n2 c2)) base (some ⟨g, 0, none⟩) Aa n n' ca cb a b (k + 1) (x ++ [q1]) a1 := by
  have hl3 : (x ++ b.drop k).length = n' := by
    have hk := (List.getElem?_eq_some_iff.1 hq).1
    rw [List.length_append, List.length_drop, h.lenx, hbl]; omega
  have hgo : (Value.slice (some ⟨g, 0, none⟩) n' cb).ownBlock = some g := rfl
  have hne := h.ne g hgo
  have hgl := h.rl g (.inr (.inl rfl))
  have hG : Two w.heap.size (.slice (some ⟨g, 0, none⟩) n' cb) (.slice Aa n ca) g := .inr (.inl rfl)
  have a3 : OwnS w3 (But w3 (Two w.heap.size (.slice (some ⟨g, 0, none⟩) n' cb) (.slice Aa n ca))) w.heap.size (.slice (some ⟨g, 0, none⟩) n' cb) (x ++ b.drop k) :=
    ((((h.ahead.below hb1).mono (but_up hb1.size)).gr hg (fun i hi => by injection hi with hi; rw [← hi]; exact hne) (fun i hi e => hi.2 (.inr (.inr e.symm))))).mono (but_up hg.size)
  have a4 := (a3.below hb4).mono (but_up hb4.size)
  have hp4 := (hpg.to_ (fun b _ hl => hb4.block b hl)).mono (but_up hb4.size)
  have hr4 := (hrow.below hb4).mono (but_up hb4.size)
  have hN : ¬ But w4 (Two w.heap.size (.slice (some ⟨g, 0, none⟩) n' cb) (.slice Aa n ca)) g := fun e => e.2 hG
  have h5 := a4.store (k := k) hl3 hN hp4
  rw [ahead_set h.lenx hq] at h5
  have h6 := hr4.row6 (g := g) (fun e => hne e.symm) hN k (.int .i64 q1.k) (strV q1.nm) (strV q1.to) (.int .i64 q1.h.pos) (.slice E1 n1 c1) (.slice E2 n2 c2)
  have hbw : Below w.heap.size w w4 := by
    have h1 := h.bw.trans (hb1.mono h.bw.size)
    have h2 := h1.grown hg h1.size (fun i hi => Nat.le_trans h.hb (ownS_ge h.behind i hi))
    exact h2.trans (hb4.mono h2.size)
  have hwg : w.heap.size ≤ g := ownS_ge h.ahead g rfl
  refine ⟨a4, passL_step passP h.eq hq hon, by rw [List.length_append, h.lenx]; rfl, by rw [one_len passP hon]; exact h.len, (one_lt hon h.lt (hb q (List.mem_of_getElem? hq))).2, h5.mono (but_up (by simp)), h6.mono (but_up (by simp)), h.sep, below_row6 hbw hwg k _ _ _ _ _ _, h.hb⟩

set_option maxRecDepth 100000 in
set_option maxHeartbeats 4000000 in
theorem PassLH (A : Option Addr) (n c : Nat) (A' : Option Addr) (n' c' : Nat) (a b x y : List Ch) (w : World) (bo : Bool) (hn : a.length = n) (hn' : b.length = n') (hle : n ≤ 1000) (hle' : n' ≤ 1000) (ha : Lt a) (hb : Lt b)
    (hR : RdP w (· < w.heap.size) A a) (hR' : RdP w (· < w.heap.size) A' b) (ho : outF (passF a b) = (x, y)) (hs : (passF a b).isSome = bo) :
    Calls Try.prog 23 #[.slice A n c, .slice A' n' c'] w (LPassEndH w x y bo) := by
  have HR := Lib.hid hR; have HR' := Lib.hid hR'; have HN := Lib.hid hn; have HN' := Lib.hid hn'; have HA := Lib.hid ha; have HB := Lib.hid hb; have HO := Lib.hid ho; have HS := Lib.hid hs
  clear hR hR' hn hn' ha hb ho hs
  go_enter Try.func23, Try.ntmps23
  go_wp2_with fail
  refine (ownL A' n' c' b w HN'.out hle' HB.out HR'.out).mono ?_
  rintro e w1 ⟨Ab, cb, rfl, hcb, ho1, hb1⟩
  have HO1 := Lib.hid ho1; have HB1 := Lib.hid hb1
  clear ho1 hb1
  go_wp2_with fail
  refine (ownL A n c a w1 HN.out hle HA.out (HR.out.mv HB1.out)).mono ?_
  rintro e w2 ⟨Aa, ca, rfl, hca, ho2, hb2⟩
  have HST := Lib.hid (pass_start HN.out HA.out HO1.out HB1.out ho2 hb2)
  clear ho2 hb2 HO1 HB1
  generalize w1.heap.size = base at HST
  go_wp2
  go_loopw [19] (fun i wr => ∃ (k : Nat) (x1 cur : List Ch), k ≤ n' ∧ i = .int .i64 (k : Int) ∧ PassI w wr base Ab Aa n n' ca cb a b k x1 cur) (fun i _ => n' - (intOf i).toNat)
  case atStart => exact ⟨0, [], a, Nat.zero_le _, rfl, HST.out⟩
  case round =>
    clear HST
    obtain ⟨k, x1, cur, hk, rfl, hI⟩ := hrel
    have HI := Lib.hid hI
    clear hI
    by_cases hlt : k < n'
    · obtain ⟨q, hx⟩ : ∃ q, b[k]? = some q := ⟨_, List.getElem?_eq_getElem (by rw [HN'.out]; exact hlt)⟩
      have hl3 : (x1 ++ b.drop k).length = n' := by rw [List.length_append, List.length_drop, HI.out.lenx, HN'.out]; omega
      obtain ⟨g, hAb⟩ : ∃ g, Ab = some ⟨g, 0, none⟩ := by
        obtain ⟨xs, hr, _⟩ := HI.out.ahead
        rcases hr.2 with ⟨_, h1⟩ | ⟨g, cap, cur, e, _⟩
        · omega
        · injection e with e1; exact ⟨g, e1⟩
      subst hAb
      have hki : (k : Int) < (n' : Int) := by omega
      obtain ⟨D, m, f, D', m', f', c0, c1', c2, c3, c4, c5, _, hpg⟩ := HI.out.ahead.elem hl3 (ahead_at HI.out.lenx hx)
      have HX := Lib.hid hx
      have hba : Below wr.heap.size wr (wr.alloc (.cells (cellsV q D m f D' m' f') 51)) := (Below.refl _ _).alloc (Nat.le_refl _) _
      have HBA := Lib.hid hba
      have HT := Lib.hid (throughL (Two w.heap.size (.slice (some ⟨g, 0, none⟩) n' cb) (.slice Aa n ca)) base n ca Aa cur D m f D' m' f' q (wr.alloc (.cells (cellsV q D m f D' m' f') 51)) hle ⟨HI.out.len, HI.out.lt, HB.out q (List.mem_of_getElem? hx), fun i hi => .inr (.inr hi.symm), fun i hi => Nat.lt_of_lt_of_le (HI.out.rl i hi) hba.size, (HI.out.behind.below hba).mono (but_up hba.size), (hpg.to_ (fun b _ hl => hba.block b hl)).mono (but_up hba.size)⟩)
      clear hx hl3 hpg hba
      go_wp2_with fail
      clear c0 c1' c2 c3 c4 c5
      dsimp only [cellsV] at HT HBA
      refine HT.out.mono ?_
      clear HT
      generalize (wr.alloc (.cells #[.int .i64 q.k, strV q.nm, strV q.to, .int .i64 q.h.pos, .slice D m f, .slice D' m' f'] 51)) = w5 at *
      rintro e w3 ⟨h1, h2, hg⟩
      cases hon : one passP cur q with
      | none =>
        obtain rfl := h2 hon
        have HE := Lib.hid (passL_step_none passP HI.out.eq HX.out hon)
        have HBW : Hid (Below w.heap.size w w3) := Lib.hid (by
          have h3 := HI.out.bw.trans (HBA.out.mono HI.out.bw.size)
          exact h3.grown hg h3.size (fun i hi => Nat.le_trans HI.out.hb (ownS_ge HI.out.behind i hi)))
        clear h1 h2 hon hg
        go_wp2
        go_ret3
        exact lpassH_none HE.out HO.out HS.out (HBW.out.alloc HBW.out.size _)
      | some z =>
        obtain ⟨q1, a1⟩ := z
        obtain ⟨E1, n1, c1, E2, n2, c2, rfl, hrow, hpg⟩ := h1 _ hon
        have hb4 : Below w3.heap.size w3 (w3.alloc (.cells (cellsV q1 E1 n1 c1 E2 n2 c2) 51)) := (Below.refl _ _).alloc (Nat.le_refl _) _
        obtain ⟨hah, hnx⟩ := pass_next HI.out HB.out HX.out HN'.out hon HBA.out hg hb4 hrow hpg
        have HNX := Lib.hid hnx
        have hl3 : (x1 ++ b.drop k).length = n' := by rw [List.length_append, List.length_drop, HI.out.lenx, HN'.out]; omega
        obtain ⟨_, _, _, _, _, _, c0, c1', c2', c3, c4, c5, cf, _⟩ := hah.elem hl3 (ahead_at HI.out.lenx HX.out)
        have f0 := cf (k * 6); have f1 := cf (k * 6 + 1); have f2 := cf (k * 6 + 2); have f3 := cf (k * 6 + 3); have f4 := cf (k * 6 + 4); have f5 := cf (k * 6 + 5)
        clear h1 h2 hon hg hrow hpg hb4 hah hnx hl3 cf
        go_wp2_with fail
        exact ⟨⟨k + 1, x1 ++ [q1], a1, by omega, by go_num, HNX.out⟩, by simp [intOf]; omega⟩
    · have hkn : k = n' := by omega
      subst hkn
      have HE : Hid (passF a b = some (x1, cur)) := Lib.hid (by have := HI.out.eq; rw [List.take_of_length_le (by rw [HN'.out]; exact Nat.le_refl _)] at this; exact this)
      have HX1 : Hid (OwnS wr (But wr (Two w.heap.size (.slice Ab k cb) (.slice Aa n ca))) w.heap.size (.slice Ab k cb) x1) := Lib.hid (by have := HI.out.ahead; rw [List.drop_of_length_le (by rw [HN'.out]; exact Nat.le_refl _), List.append_nil] at this; exact this)
      go_wp2
      go_ret3
      exact lpassH_some HE.out HO.out HS.out HI.out.lenx HI.out.len HX1.out HI.out.behind (fun b hb => ⟨Nat.le_of_not_lt fun e => hb.2 (.inl e), hb.1⟩) (fun b hb => ⟨Nat.le_of_not_lt fun e => hb.2 (.inl e), hb.1⟩) (Nat.le_refl _) HI.out.hb HI.out.bw

theorem PassL (A : Option Addr) (n c : Nat) (A' : Option Addr) (n' c' : Nat) (a b x y : List Ch) (w : World) (bo : Bool) (hn : a.length = n) (hn' : b.length = n') (hle : n ≤ 1000) (hle' : n' ≤ 1000) (ha : Lt a) (hb : Lt b)
    (hR : RdP w (· < w.heap.size) A a) (hR' : RdP w (· < w.heap.size) A' b) (ho : outF (passF a b) = (x, y)) (hs : (passF a b).isSome = bo) :
    Calls Try.prog 23 #[.slice A n c, .slice A' n' c'] w (LPassEnd w x y bo) :=
  (PassLH A n c A' n' c' a b x y w bo hn hn' hle hle' ha hb hR hR' ho hs).mono fun _ _ h => h.end_

end Fl
end Go.Proofs.Ytbiiabfhngdeiaa
