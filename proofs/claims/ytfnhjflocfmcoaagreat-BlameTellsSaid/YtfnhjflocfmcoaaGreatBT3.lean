/-
  The statement BlameTells: where all lines come from that any patches make, or the error, is what the document says; so is where any one does.
-/
import Derived.Laws.StructEq
import Derived.BigQuiet
import Derived.Deep.RegionHeld3
import Derived.Deep.Cut
import Derived.WalkMore
import Derived.Deep.RegionWith
import Derived.Maps.OwnSet
import Derived.Lib.AppendZeros
import Derived.Laws.NewBlocks
import Derived.StillTailTactics
import Derived.Shelf.SlIter.Nil
import Derived.Shelf.SortM.Plain
import Derived.Shelf.SortM.SortNone
import Derived.Ground.GgzProg
import Derived.Ground.SlgmProg
import Derived.Test.YtfnhjflocfmcoaaGreatProg
import Derived.Sort.KeysCollected
import Derived.Sort.Walk0
import Derived.Test.YtfnhjflocfmcoaaGreatRows
import Derived.RangeFuncBound
import Derived.Shelf.Abstract
import Derived.Shelf.RegionOpen
import Derived.WalkKit
import Derived.OwnWalkIn
import Derived.TacticsInMore
import Derived.LoopNIn
import Derived.LoopIn
import Derived.Maps.AppendAt
import Derived.WalkSpells
import Derived.WalkLawsBesides
import Derived.Lib.Hide
import Derived.OpenShut
import Derived.ShutString
import Derived.Test.YtfnhjflocfmcoaaGreatBT2
set_option maxRecDepth 100000
namespace Go.Proofs.YtfnhjflocfmcoaaGreat
open Go.RowKit
set_option linter.unusedVariables false
set_option linter.unusedSimpArgs false
namespace Pn
open Tx Df Sq Hk Tr Pr Fl

/-- Whether two ids are the same. -/
theorem eq_id (a b c d : Int) (w : World) : (Op.equalIn 10000 31 (.agg #[.int .i64 a, .int .i64 b]) (.agg #[.int .i64 c, .int .i64 d])).run Tryz.prog w = .ok (decide ((a, b) = (c, d))) w := by
  rw [show (10000 : Nat) = 9999 + 1 from rfl]
  go_simp
  by_cases h1 : a = c <;> by_cases h2 : b = d <;> simp [h1, h2]
/-- Is a patch light? -/
def lightN (p : Nm) (most : Nat) : Bool := fewP p.l most && (decide (p.deps.length ≤ 100) && decide (p.txt.length ≤ 200))
def fewN (l : List Nm) (most : Nat) : Bool := decide (l.length ≤ most) && l.all (lightN · 10)
theorem fewN_no {l : List Nm} {x : Nm} {k most : Nat} (hx : l[k]? = some x) (h : lightN x 10 = false) : fewN l most = false := by
  have : l.all (lightN · 10) = false := by
    rw [List.all_eq_false]
    exact ⟨x, List.mem_of_getElem? hx, by rw [h]; decide⟩
  unfold fewN
  rw [this, Bool.and_false]

theorem lightN_len {p : Nm} {most : Nat} (h : lightN p most = true) : p.l.length ≤ most ∧ p.deps.length ≤ 100 := by
  unfold lightN fewP at h
  simp only [Bool.and_eq_true, decide_eq_true_eq] at h
  exact ⟨h.1.1, h.2.1⟩
theorem fewN_len {l : List Nm} {most : Nat} (h : fewN l most = true) : l.length ≤ most := by
  unfold fewN at h
  simp only [Bool.and_eq_true, decide_eq_true_eq] at h
  exact h.1
theorem fewN_all {l : List Nm} {most : Nat} (h : fewN l most = true) : ∀ x ∈ l, lightN x 10 = true := by
  unfold fewN at h
  rw [Bool.and_eq_true, List.all_eq_true] at h
  exact h.2
theorem okP_light {x : Ch} (h : okP x = true) : lightP x = true := by
  unfold okP at h
  rw [Bool.and_eq_true] at h
  exact h.1
/-- All changes of a few light patches: not many, and light. -/
theorem allN_few : ∀ {l : List Nm}, (∀ x ∈ l, lightN x 10 = true) → (allN l).length ≤ l.length * 10 ∧ ∀ x ∈ allN l, lightP x = true
  | [], _ => ⟨Nat.le_refl _, fun x hx => by cases hx⟩
  | p :: l, h => by
    obtain ⟨h1, h2⟩ := allN_few fun x hx => h x (.tail _ hx)
    have hp := h p (.head _)
    have hl := (lightN_len hp).1
    rw [allN_cons]
    refine ⟨by rw [List.length_append, List.length_cons]; omega, fun x hx => ?_⟩
    rcases List.mem_append.1 hx with hx | hx
    · unfold lightN fewP at hp
      simp only [Bool.and_eq_true, decide_eq_true_eq, List.all_eq_true] at hp
      exact okP_light (hp.1.2 x hx)
    · exact h2 x hx

set_option maxHeartbeats 2000000 in
theorem LightN (D : Option Addr) (dn dc : Nat) (A : Option Addr) (n c most : Nat) (p : Nm) (w : World) (b : Bool) (hm : most ≤ 1000) (hv : NV w w.heap.size D dn dc A n c p) (hb : lightN p most = b) :
    Calls Tryz.prog 17 #[nmV p.id D dn dc p.txt A n c, .int .i64 (most : Int)] w (BoolEnd w b) := by
  obtain ⟨id, ds, t, l⟩ := p
  have HV := Lib.hid hv; have HB := Lib.hid hb.symm
  have HBX := Lib.hid (Blk.new w 41 #[.int .i64 id.1, .int .i64 id.2, .slice D dn dc, strV t, .slice A n c])
  have hba : Below w.heap.size w (w.alloc (.cells #[.int .i64 id.1, .int .i64 id.2, .slice D dn dc, strV t, .slice A n c] 41)) := (Below.refl _ _).alloc (Nat.le_refl _) _
  have HBA := Lib.hid hba
  have HTL := Lib.hid (size_strV t)
  clear hv hb hba
  dsimp only
  go_enter Tryz.func17, Tryz.ntmps17
  go_wp2_with fail
  obtain ⟨bl, hbl⟩ : ∃ b, fewP l most = b := ⟨_, rfl⟩
  have hv := HV.out.mv HBA.out
  refine (Fl.Few A n c most l _ bl hm ⟨hv.l, hv.k, hv.m, hv.r⟩ hbl).mono ?_
  rintro e w2 ⟨rfl, hb2⟩
  have HBL := Lib.hid hbl
  have hbw := below_mv HBA.out hb2
  have HBW := Lib.hid hbw
  have b2 := HBX.out.below hb2 HBX.out.lt
  have x1 := b2.cell 2 rfl
  have x2 := b2.cell 3 rfl
  have HDL := Lib.hid hv.dl
  clear hbl hv hb2 hbw b2
  cases bl with
  | false =>
    go_wp2
    go_ret
    exact ⟨ret_bool (by rw [HB.out]; unfold lightN; rw [HBL.out]; rfl), HBW.out⟩
  | true =>
    go_wp2
    all_goals go_ret
    all_goals refine ⟨ret_bool ?_, HBW.out⟩
    all_goals rw [HB.out]; unfold lightN; rw [HBL.out]; dsimp only at HDL ⊢; rw [HDL.out]
    all_goals rw [Bool.true_and, Bool.eq_iff_iff]
    all_goals simp only [Bool.and_eq_true, decide_eq_true_eq, Bool.false_eq_true]
    all_goals constructor <;> intro hz
    all_goals first | omega | exact hz.elim | (exfalso; omega)

set_option maxHeartbeats 2000000 in
theorem FewN (A : Option Addr) (n c most : Nat) (l : List Nm) (w : World) (b : Bool) (hm : most ≤ 1000) (h : NmsArg w A n c l) (hb : fewN l most = b) :
    Calls Tryz.prog 8 #[.slice A n c, .int .i64 (most : Int)] w (BoolEnd w b) := by
  have HR := Lib.hid h.rd; have HN := Lib.hid h.len
  have HB := Lib.hid hb.symm
  have hle := h.le
  clear h hb
  unfold maxLen at hle
  go_enter Tryz.func8, Tryz.ntmps8
  by_cases h0 : (most : Int) < (n : Int)
  · go_wp2
    go_ret
    exact ⟨ret_bool (by rw [HB.out]; unfold fewN; rw [HN.out, decide_eq_false (by omega)]; rfl), Below.refl _ _⟩
  · go_wp2
    go_loopw [5] (fun i wr => ∃ k : Nat, k ≤ n ∧ i = .int .i64 (k : Int) ∧ (l.take k).all (lightN · 10) = true ∧ Below w.heap.size w wr) (fun i _ => n - (intOf i).toNat)
    case atStart => exact ⟨0, Nat.zero_le _, rfl, rfl, Below.refl _ _⟩
    case round =>
      obtain ⟨k, hk, rfl, hall, hbw⟩ := hrel
      have HBW := Lib.hid hbw; have HAL := Lib.hid hall; clear hbw hall
      by_cases hlt : k < n
      · have hki : (k : Int) < (n : Int) := by omega
        obtain ⟨a, x, D, i, j, E, m, d, rfl, hS, hx, c0, c1, c2, c3, c4, c5⟩ := ((HR.out.mv HBW.out).elem (k := k) (by rw [HN.out]; exact hlt))
        have HX := Lib.hid hx; have HP := Lib.hid c5; clear hx c5 hS
        go_wp2_with fail
        obtain ⟨bl, hbl⟩ : ∃ b, lightN x 10 = b := ⟨_, rfl⟩
        refine (LightN D i j E m d 10 x _ bl (by decide) HP.out hbl).mono ?_
        rintro e w2 ⟨rfl, hb2⟩
        have HBL := Lib.hid hbl; clear hbl
        have hbw2 := below_mv HBW.out hb2
        have HBW2 := Lib.hid hbw2; clear hbw2 c0 c1 c2 c3 c4 hb2
        cases bl with
        | false =>
          go_wp2
          go_ret
          exact ⟨ret_bool (by rw [HB.out, fewN_no HX.out HBL.out]), HBW2.out⟩
        | true =>
          go_wp2_with fail
          refine ⟨⟨k + 1, by omega, by go_num, ?_, HBW2.out⟩, by simp [intOf]; omega⟩
          rw [take_at HX.out, List.all_append, HAL.out]
          simp [HBL.out]
      · go_wp2
        go_ret
        refine ⟨ret_bool ?_, HBW.out⟩
        have ek : l.take k = l := List.take_of_length_le (by rw [HN.out]; omega)
        have hall := HAL.out
        rw [ek] at hall
        rw [HB.out]
        unfold fewN
        rw [hall, HN.out, decide_eq_true (by omega)]
        rfl

attribute [local go_sem] eq_id
theorem find1 (x y : Id_) (D : Option Addr) (dn dc : Nat) (t : List UInt8) (A : Option Addr) (n c g : Nat) (W : World) (hc0 : W.cell? ⟨g, 0, none⟩ = some (.int .i64 y.1)) (hc1 : W.cell? ⟨g, 1, none⟩ = some (.int .i64 y.2)) (hg : g < W.heap.size) (b : Bool) (hb : decide (x = y) = b) :
    Calls Tryz.prog 27 #[nmV x D dn dc t A n c, .pointer (some ⟨g, 0, none⟩)] W (BoolEnd W b) := by
  obtain ⟨x, u⟩ := x
  obtain ⟨y, v⟩ := y
  dsimp only at hc0 hc1 ⊢
  have HB := Lib.hid hb; clear hb
  go_enter Tryz.func27, Tryz.ntmps27
  go_wp2
  all_goals go_ret
  all_goals refine ⟨ret_bool ?_, (Below.refl _ _).alloc (Nat.le_refl _) _⟩
  all_goals rw [← HB.out]
  all_goals simp_all

end Pn
end Go.Proofs.YtfnhjflocfmcoaaGreat

set_option maxRecDepth 100000
namespace Go.Proofs.YtfnhjflocfmcoaaGreat
open Go.RowKit
set_option linter.unusedVariables false
set_option linter.unusedSimpArgs false
namespace Fl
open Tx Df Sq Hk Tr Pr

theorem doF_at {t u : TR} {l : List Ch} {k : Nat} {x : Ch} (hx : l[k]? = some x) (h : doF t l = doF u (l.drop k)) : doF t l = doF u (x :: l.drop (k + 1)) := by rw [h, drop_at hx]

set_option maxHeartbeats 4000000 in
theorem refApplyLK (K L : Nat) (A0 : Option Addr) (n0 c0 : Nat) (A : Option Addr) (n c : Nat) (t : TR) (l : List Ch) (w : World) (R : Int × TR) (ht : Most t K L) (hK : K + n ≤ 40000) (hL : L + 300 * n ≤ 50000) (hn0 : t.length = n0) (hc0 : n0 ≤ c0) (hn : l.length = n) (hl : ∀ x ∈ l, lightP x = true) (hR0 : RdT w w.heap.size A0 t) (hR : RdP w (· < w.heap.size) A l) (hD : doF t l = R) :
    Calls Tryz.prog 37 #[.slice A0 n0 c0, .slice A n c] w (DoEnd w R) := by
  have HR := Lib.hid hR; have HN := Lib.hid hn; have HL := Lib.hid hl; have HD := Lib.hid hD
  have HT0 := Lib.hid (show ∃ u : TR, u.length = n0 ∧ n0 ≤ c0 ∧ Most u (K + 0) (L + 300 * 0) ∧ RdT w w.heap.size A0 u ∧ doF t l = doF u (l.drop 0) from ⟨t, hn0, hc0, ht, hR0, rfl⟩)
  clear hR hn hl hD ht hn0 hc0 hR0
  go_enter Tryz.func37, Tryz.ntmps37
  go_wp2
  go_loopw [0, 6] (fun v0 i wr => ∃ (k : Nat) (B : Option Addr) (m d : Nat) (u : TR), k ≤ n ∧ i = .int .i64 (k : Int) ∧ v0 = .slice B m d ∧ u.length = m ∧ m ≤ d ∧ Most u (K + k) (L + 300 * k) ∧ RdT wr wr.heap.size B u ∧ doF t l = doF u (l.drop k) ∧ Below w.heap.size w wr) (fun _ i _ => n - (intOf i).toNat)
  case atStart =>
    obtain ⟨u, h1, h2, h3, h4, h5⟩ := HT0.out
    exact ⟨0, A0, n0, c0, u, Nat.zero_le _, rfl, rfl, h1, h2, h3, h4, h5, Below.refl _ _⟩
  case round =>
    clear HT0
    obtain ⟨k, B, m, d, u, hk, rfl, rfl, hm, hmd, hM, hT, hF, hbw⟩ := hrel
    have HBW := Lib.hid hbw; have HM := Lib.hid hm; have HMM := Lib.hid hM; have HT := Lib.hid hT; have HF := Lib.hid hF; have HMD := Lib.hid hmd
    clear hbw hm hM hT hF hmd
    by_cases hlt : k < n
    · have hki : (k : Int) < (n : Int) := by omega
      obtain ⟨a, x, B1, i, j, D, m1, d1, rfl, hS, hx, c0, c1, c2, c3, c4, c5, c6⟩ := ((HR.out.mv HBW.out).elem (k := k) (by rw [HN.out]; exact hlt))
      have HX := Lib.hid hx; have HP := Lib.hid c6; clear hx c6 hS
      have HLX := Lib.hid (HL.out x (List.mem_of_getElem? HX.out))
      go_wp2_with fail
      refine (refApplyM B m d B1 i j D m1 d1 u x _ HMM.out.s (by have := HMM.out.k; omega) (fun s ls hg => by have := HMM.out.l _ (get_mem hg); dsimp only at this; omega) HM.out HLX.out HT.out HP.out.pv).mono ?_
      rintro e w2 hde
      obtain ⟨r, hr⟩ : ∃ r, doP u x = r := ⟨_, rfl⟩
      rw [hr] at hde
      obtain ⟨r, v⟩ := r
      obtain ⟨B2, m2, d2, rfl, hd2, hl2, hT2, hb2⟩ := hde
      dsimp only at hl2 hT2
      have hF := doF_at HX.out HF.out
      have HM2 := Lib.hid (HMM.out.do (by omega) (by omega) HLX.out hr)
      have hbw2 := below_mv HBW.out hb2
      have HBW2 := Lib.hid hbw2; have HT2 := Lib.hid hT2; have HL2 := Lib.hid hl2; have HD2 := Lib.hid hd2; have HF2 := Lib.hid hF; have HRR := Lib.hid hr
      clear hbw2 c0 c1 c2 c3 c4 c5 hb2 hT2 hl2 hd2 hF hr
      by_cases h0 : r = 0
      · subst h0
        go_wp2_with fail
        refine ⟨⟨k + 1, B2, m2, d2, v, by omega, by go_num, rfl, HL2.out, HD2.out, ?_, HT2.out, ?_, HBW2.out⟩, by simp [intOf]; omega⟩
        · have h1 := HM2.out
          rw [show L + 300 * k + 300 = L + 300 * (k + 1) by omega] at h1
          exact h1
        · rw [HF2.out, doF_cons_ok HRR.out]
      · have e0 : (r == 0) = false := by rw [beq_eq_false_iff_ne]; exact h0
        have HO : Hid (R = (r, [])) := Lib.hid (by rw [← HD.out, HF2.out, doF_cons_no (by rw [HRR.out]; exact h0), HRR.out])
        clear h0
        go_wp2
        go_ret2
        exact doEnd_err HO.out HBW2.out
    · have HO : Hid (R = (0, u)) := Lib.hid (by rw [← HD.out, HF.out, List.drop_of_length_le (by rw [HN.out]; omega)]; rfl)
      go_wp2
      go_ret2
      obtain ⟨rfl⟩ := HM.out
      exact doEnd_ok HO.out HMD.out HT.out HBW.out

/-- How a call ends that makes a list of changes. -/
def LPEnd (w : World) (l : List Ch) (e : Ending) (w' : World) : Prop := ∃ A c, e = .returned (.slice A l.length c) ∧ l.length ≤ c ∧ RdP w' (· < w'.heap.size) A l ∧ Below w.heap.size w w'
theorem lpEnd_own {w w' : World} {base : Nat} {v : Value} {l : List Ch} (h : OwnP w' base v l) (hb : Below w.heap.size w w') : LPEnd w l (.returned v) w' := by
  obtain ⟨A, c, rfl, hc, hr, _⟩ := rdP_own h
  exact ⟨A, c, rfl, hc, hr, hb⟩
/-- The cells of one change in a block of their own. -/
theorem one_srcP {W : World} {b : Nat} {A B : Option Addr} {n c m d : Nat} {x : Ch} (h : Blk W b 55 #[.int .i64 x.k, strV x.nm, strV x.to, .int .i64 x.h.pos, .slice A n c, .slice B m d]) :
    ∀ (j : Nat) u, [Value.int .i64 x.k, strV x.nm, strV x.to, .int .i64 x.h.pos, .slice A n c, .slice B m d][j]? = some u → W.cell? ((⟨b, 0, none⟩ : Addr).add j) = some u := fun j u hu => by
  rcases j with _ | _ | _ | _ | _ | _ | j
  · rw [add_zero']; exact h.cell 0 hu
  · exact h.cell 1 hu
  · exact h.cell 2 hu
  · exact h.cell 3 hu
  · exact h.cell 4 hu
  · exact h.cell 5 hu
  · simp at hu

end Fl
end Go.Proofs.YtfnhjflocfmcoaaGreat

set_option maxRecDepth 100000
namespace Go.Proofs.YtfnhjflocfmcoaaGreat
open Go.RowKit
set_option linter.unusedVariables false
namespace Fl
open Tx Df Sq Hk Tr Pr

section
variable {α : Type} (P : α → α → Option (α × α))
end

/-- Light changes. -/
def Lt (l : List Ch) : Prop := ∀ x ∈ l, lightP x = true
theorem Lt.tail {a : Ch} {l : List Ch} (h : Lt (a :: l)) : Lt l := fun x hx => h x (.tail _ hx)
theorem turnP_lt {p : Ch} (h : lightP p = true) : lightP (turnP p) = true := by
  unfold lightP at h ⊢
  simp only [Bool.and_eq_true, decide_eq_true_eq] at h ⊢
  by_cases h0 : p.k = 0
  · rw [turnP_0 h0]; exact h
  by_cases h1 : p.k = 1
  · rw [turnP_1 h1]; exact h
  by_cases h2 : p.k = 2
  · rw [turnP_2 h2]; exact ⟨h.1, h.2.2, h.2.1⟩
  rw [turnP_h h0 h1 h2]; exact ⟨⟨h.1.2, h.1.1⟩, h.2⟩
theorem Lt.turn {l : List Ch} (h : Lt l) : Lt (turnF l) := fun x hx => by
  unfold turnF at hx
  rw [List.mem_reverse, List.mem_map] at hx
  obtain ⟨p, hp, rfl⟩ := hx
  exact turnP_lt (h p hp)
theorem lt_len {W : World} {S : Nat → Prop} {A B : Option Addr} {n c m d : Nat} {p : Ch} (h : PG W S A n c B m d p) (hp : lightP p = true) : n ≤ 1000 ∧ m ≤ 1000 := by
  obtain ⟨h1, h2⟩ := lightP_h hp
  rw [h.l] at h1
  rw [h.l'] at h2
  omega

end Fl
end Go.Proofs.YtfnhjflocfmcoaaGreat

set_option maxRecDepth 100000
namespace Go.Proofs.YtfnhjflocfmcoaaGreat
open Go.RowKit
set_option linter.unusedVariables false
namespace Sw
open Tx Df Hk

/-- How a call ends that tells the lines that are handed in, as they are. -/
def PassEndE (A : Option Addr) (n c : Nat) (A' : Option Addr) (n' c' : Nat) (D : Option Addr) (m k : Nat) (D' : Option Addr) (m' k' : Nat) (w : World) (o : Option (HU × HU)) (e : Ending) (w' : World) : Prop :=
  (∀ z, o = some z → e = .returned (.tuple #[hkV z.1.pos D m k D' m' k', hkV z.2.pos A n c A' n' c', .bool true])) ∧
  (o = none → e = .returned (.tuple #[hkV 0 none 0 0 none 0 0, hkV 0 none 0 0 none 0 0, .bool false])) ∧ Below w.heap.size w w'
section
variable {A A' D D' : Option Addr} {n c n' c' m k m' k' : Nat} {w w' : World} {o : Option (HU × HU)} {e : Ending}
theorem PassEndE.end_ {B : Nat} {p q : HU} (h : PassEndE A n c A' n' c' D m k D' m' k' w (passH p q) e w') (hB : B ≤ w.heap.size) (hv : HV w B A n c A' n' c' p) (gv : HV w B D m k D' m' k' q) : PassEnd w (passH p q) e w' := by
  obtain ⟨h1, h2, hb⟩ := h
  cases ho : passH p q with
  | none => rw [h2 ho]; exact passEnd_none rfl hb
  | some z =>
    have e1 := h1 z ho
    obtain ⟨_, b1, b2, b3, b4⟩ := pass_moves (x := z.1) (y := z.2) (passH_may (z := z) ho).2.2.1
    obtain ⟨a1, a2⟩ := pass_pos (x := z.1) (y := z.2) (passH_may (z := z) ho).2.2.1 (mayH_pos (passH_may ho).1).1 (mayH_pos (passH_may ho).2.1).1
    have l1 := (passH_may ho).2.2.2.1; have l2 := (passH_may ho).2.2.2.2
    have hv' := (hv.below (hb.mono hB)).up (Nat.le_trans hB hb.size); have gv' := (gv.below (hb.mono hB)).up (Nat.le_trans hB hb.size)
    refine ⟨D, m, k, D', m', k', A, n, c, A', n', c', e1, ?_, ?_, hb⟩
    · exact ⟨by show z.1.old.length = m; rw [b1]; exact gv.l, by show z.1.new.length = m'; rw [b2]; exact gv.l', gv.k, gv.k', gv.m, gv.m', by show RdS _ _ _ z.1.old; rw [b1]; exact gv'.r, by show RdS _ _ _ z.1.new; rw [b2]; exact gv'.r', ⟨by show _ ≤ z.1.pos; omega, by show z.1.pos ≤ _; omega⟩⟩
    · exact ⟨by show z.2.old.length = n; rw [b3]; exact hv.l, by show z.2.new.length = n'; rw [b4]; exact hv.l', hv.k, hv.k', hv.m, hv.m', by show RdS _ _ _ z.2.old; rw [b3]; exact hv'.r, by show RdS _ _ _ z.2.new; rw [b4]; exact hv'.r', ⟨by show _ ≤ z.2.pos; omega, by show z.2.pos ≤ _; omega⟩⟩
end

end Sw
end Go.Proofs.YtfnhjflocfmcoaaGreat

set_option maxRecDepth 100000
namespace Go.Proofs.YtfnhjflocfmcoaaGreat
open Go.RowKit
set_option linter.unusedVariables false
set_option linter.unusedSimpArgs false
namespace Pr
open Tx Df Sq Hk Tr

/-- Two changes, boxed, the one or the other one first. -/
def Two (c wx : World) (T U : Nat) (x y : Array Value) : Prop := Blk wx T 55 x ∧ Blk wx U 55 y ∧ T ≠ U ∧ c.heap.size ≤ T ∧ c.heap.size ≤ U ∧ Below c.heap.size c wx
theorem Two.drew {c wx : World} {T U : Nat} {x y : Array Value} (h : Two c wx T U x y) : Two c wx.drew T U x y := ⟨h.1.drewN 1, h.2.1.drewN 1, h.2.2.1, h.2.2.2.1, h.2.2.2.2.1, below_drewN h.2.2.2.2.2 1⟩

end Pr
end Go.Proofs.YtfnhjflocfmcoaaGreat

set_option maxRecDepth 100000
namespace Go.Proofs.YtfnhjflocfmcoaaGreat
open Go.RowKit
set_option linter.unusedVariables false
set_option linter.unusedSimpArgs false
namespace Fl
open Tx Df Sq Hk Tr Pr

/-- How a copy of lines ends: in memory of its own. -/
def CopyLEnd (w : World) (n : Nat) (ls : List (List UInt8)) (e : Ending) (w' : World) : Prop :=
  ∃ D d, e = .returned (.slice D n d) ∧ n ≤ d ∧ RdS w' w'.heap.size D ls ∧ Hi w.heap.size D ∧ w.grownBy w' none

theorem ownLines (A : Option Addr) (n c B : Nat) (ls : List (List UInt8)) (w : World) (hn : ls.length = n) (hle : n ≤ 100000) (hB : B ≤ w.heap.size) (hR : RdS w B A ls) :
    Calls Tryz.prog 54 #[.slice A n c] w (CopyLEnd w n ls) := by
  obtain ⟨j0, hj, hy0, hy1, hy2⟩ := info_parts info_str
  have HR := Lib.hid hR; have HN := Lib.hid hn
  clear hR hn
  go_enter Tryz.func54, Tryz.ntmps54
  go_wp2_with (at_builtin; refine wpList_nil' rfl (.const (.slice none 0 0)) (.tmp 3) 49 rfl 9 j0 (.string ⟨#[]⟩) 16 Tryz.underlying49 hj hy0 hy1 hy2 rfl rfl B A n c (ls.map strV) rfl (by rw [List.length_map]; exact HN.out) HR.out (strs_one _) (by unfold maxLen; omega) (by omega) ?_; intro D1 d1 w1 hA hg; have HA := Lib.hid hA; have HG := Lib.hid hg; clear hA hg)
  go_ret
  obtain ⟨A', c', e, hc, hr⟩ := rd_of_own HA.out
  injection e with e1 e2 e3
  subst e1 e3
  exact ⟨D1, d1, rfl, hc, hr, hi_own HA.out, HG.out⟩

/-- One of a row's files. -/
theorem ownT_elem {W : World} {base g n cap k : Nat} {t : TR} {x : FL} (h : OwnT W base (.slice (some ⟨g, 0, none⟩) n cap) t) (hn : t.length = n) (hx : t[k]? = some x) :
    ∃ A m c, W.cell? ⟨g, k * 2, none⟩ = some (strV x.1) ∧ W.cell? ⟨g, k * 2 + 1, none⟩ = some (.slice A m c) ∧ (∀ j, W.frozen? ⟨g, j, none⟩ = false) ∧ x.2.length = m ∧ RdX W (some g) A x.2 := by
  subst hn
  obtain ⟨xs, hr, hF⟩ := h
  obtain ⟨A, c, h0, h1, h2, h3⟩ := hF k x hx
  have hk : k < t.length := (List.getElem?_eq_some_iff.1 hx).1
  exact ⟨A, _, c, by rw [hr.cellAt (k * 2) (by omega)]; exact h0, by rw [hr.cellAt (k * 2 + 1) (by omega)]; exact h1, fun j => hr.frozenAt _, rfl, h3⟩
/-- The lines of one of a row's files are stored anew. -/
theorem ownT_line {W : World} {base g n cap k m d : Nat} {t : TR} {x : FL} {D : Option Addr} (h : OwnT W base (.slice (some ⟨g, 0, none⟩) n cap) t) (hn : t.length = n) (hx : t[k]? = some x) (hm : x.2.length = m) (hd : m ≤ d) (hr : RdX W (some g) D x.2) :
    OwnT (W.setCell ⟨g, k * 2 + 1, none⟩ (.slice D m d)) base (.slice (some ⟨g, 0, none⟩) n cap) t := by
  subst hm hn
  obtain ⟨xs, hrow, hF⟩ := h
  have hk : k < t.length := (List.getElem?_eq_some_iff.1 hx).1
  have hxl := hrow.1
  obtain ⟨h1, g1⟩ := hrow.stored (k * 2 + 1) (.slice D x.2.length d)
  refine ⟨_, h1, ?_⟩
  refine FCells.gr (W := W) (fun j y hy => ?_) g1
  by_cases e : j = k
  · subst e
    rw [hx] at hy
    injection hy with hy
    subst hy
    obtain ⟨A', c', q1, q2, q3, q4⟩ := hF j x hx
    refine ⟨D, d, ?_, ?_, hd, hr⟩
    · rw [List.getElem?_set_ne (by omega)]; exact q1
    · rw [List.getElem?_set_self (by omega)]
  · obtain ⟨A', c', q1, q2, q3, q4⟩ := hF j y hy
    refine ⟨A', c', ?_, ?_, q3, q4⟩
    · rw [List.getElem?_set_ne (by omega)]; exact q1
    · rw [List.getElem?_set_ne (by omega)]; exact q2
theorem ownT_form {W : World} {base : Nat} {v : Value} {t : TR} (h : OwnT W base v t) : t = [] ∧ v = .slice none 0 0 ∨ ∃ g cap, v = .slice (some ⟨g, 0, none⟩) t.length cap ∧ base ≤ g ∧ g < W.heap.size := by
  obtain ⟨xs, hr, hF⟩ := h
  rcases hr.2 with ⟨rfl, h1⟩ | ⟨g, cap, cur, rfl, hbg, hg, hc, _⟩
  · exact .inl ⟨List.eq_nil_of_length_eq_zero h1, rfl⟩
  · exact .inr ⟨g, cap, rfl, hbg, (Array.getElem?_eq_some_iff.1 hg).1⟩

set_option maxHeartbeats 2000000 in
theorem ownTree (A : Option Addr) (n c : Nat) (t : TR) (w : World) (hn : t.length = n) (hle : n ≤ 100000) (hl : ∀ x ∈ t, x.2.length ≤ 100000) (hR : RdT w w.heap.size A t) :
    Calls Tryz.prog 42 #[.slice A n c] w (TreeEnd w t) := by
  obtain ⟨ys, hy1, hy2, hy3⟩ := flat_cells (row := (Value.slice none 0 0).ownBlock) hR (Nat.le_refl _) (fun g e => by cases e)
  have Y1 := Lib.hid hy1; have Y2 := Lib.hid hy2; have Y3 := Lib.hid hy3; have HN := Lib.hid hn; have HL := Lib.hid hl
  clear hy1 hy2 hy3 hR hn hl
  go_enter Tryz.func42, Tryz.ntmps42
  go_wp2_with (at_builtin; refine wpList_ownT rfl (.const (.slice none 0 0)) (.tmp 6) rfl w.heap.size n c (.slice none 0 0) A [] t ys rfl rfl (ownT_nil _ _) Y2.out Y1.out Y3.out HN.out (by simp; omega) (Nat.le_refl _) ?_; intro v w1 ho hg; have HO := Lib.hid ho; have HB := Lib.hid ((Below.refl w.heap.size w).grown hg (Nat.le_refl _) (fun k e => by cases e)); clear ho hg; replace HO := Lib.hid (show OwnT w1 w.heap.size v t from HO.out); obtain ⟨A1, c1, hv1, hc1⟩ : ∃ A1 c1, v = .slice A1 n c1 ∧ n ≤ c1 := (rdT_own HO.out).elim fun A1 h => h.elim fun c1 h => ⟨A1, c1, by rw [← HN.out]; exact h.1, by rw [← HN.out]; exact h.2.1⟩; subst hv1)
  clear Y1 Y2 Y3
  go_loopw [10] (fun i wr => ∃ k : Nat, k ≤ n ∧ i = .int .i64 (k : Int) ∧ OwnT wr w.heap.size (.slice A1 n c1) t ∧ Below w.heap.size w wr) (fun i _ => n - (intOf i).toNat)
  case atStart => exact ⟨0, Nat.zero_le _, rfl, HO.out, HB.out⟩
  case round =>
    clear HO HB
    obtain ⟨k, hk, rfl, ho, hb⟩ := hrel
    have HB := Lib.hid hb
    by_cases hlt : k < n
    · rcases ownT_form ho with ⟨h0, _⟩ | ⟨g, cap, e, hg1, hg2⟩
      · exfalso
        have := HN.out
        rw [h0] at this
        simp at this
        omega
      injection e with e1 e2 e3
      subst e1 e3
      clear e2
      have hki : (k : Int) < (n : Int) := by omega
      obtain ⟨x, hx⟩ : ∃ x, t[k]? = some x := ⟨_, List.getElem?_eq_getElem (by rw [HN.out]; exact hlt)⟩
      obtain ⟨B, m, d, c0, c1', hf, hm, hr⟩ := ownT_elem ho HN.out hx
      have HO := Lib.hid ho; have HX := Lib.hid hx; have HM := Lib.hid hm; have HR := Lib.hid hr
      have hml : m ≤ 100000 := by rw [← HM.out]; exact HL.out x (List.mem_of_getElem? HX.out)
      clear ho hx hm hr hb
      have HBX := Lib.hid (Blk.new wr 51 #[strV x.1, .slice B m d])
      go_wp2_with fail
      refine (ownLines B m d wr.heap.size x.2 _ HM.out hml (by simp) (Rd.below HR.out.1 ((Below.refl _ _).alloc (Nat.le_refl _) _))).mono ?_
      rintro e w2 ⟨D, j, rfl, hj, hrd, hhi, hgr⟩
      have ho2 := (HO.out.below ((Below.refl _ _).alloc (Nat.le_refl _) (.cells #[strV x.1, .slice B m d] 51))).below (below_gr hgr)
      have hrx : RdX w2 (some g) D x.2 := ⟨hrd, by
        cases D with
        | none => exact .inr fun a e => by cases e
        | some a =>
          refine .inr fun a' e hne => ?_
          have := hhi a' e
          rw [World.size_alloc] at this
          injection hne with hne
          omega⟩
      have hb2 : Below w.heap.size w w2 := (HB.out.alloc HB.out.size (.cells #[strV x.1, .slice B m d] 51)).trans ((below_gr hgr).mono (by have := HB.out.size; simp; omega))
      obtain ⟨B', m', d', q0, q1, qf, qm, qr⟩ := ownT_elem ho2 HN.out HX.out
      have f1 := qf (k * 2 + 1)
      have HO2 := Lib.hid ho2; have HRX := Lib.hid hrx; have HB2 := Lib.hid hb2; have HJ := Lib.hid hj; have HG := Lib.hid hg1
      clear ho2 hrx hb2 hrd hhi hgr qr qf qm c0 c1' hf hj hg1 hg2
      go_wp2_with fail
      go_roundw
      case rel => exact ⟨k + 1, by omega, by go_num, ownT_line HO2.out HN.out HX.out HM.out HJ.out HRX.out, HB2.out.setCell (p := ⟨g, k * 2 + 1, none⟩) HG.out _⟩
      case measure => simp [intOf]; omega
    · have HO := Lib.hid ho
      clear ho hb
      go_wp2
      go_ret
      obtain ⟨A2, c2, e, hc2, hr2⟩ := rdT_own HO.out
      exact ⟨A2, c2, by rw [e]; rfl, hc2, hr2, HB.out⟩

set_option maxHeartbeats 4000000 in
theorem ApplyL (K L : Nat) (A0 : Option Addr) (n0 c0 : Nat) (A : Option Addr) (n c : Nat) (t : TR) (l : List Ch) (w : World) (R : Int × TR) (ht : Most t K L) (hK : K + n ≤ 99990) (hL : L + 300 * n ≤ 99000) (hn0 : t.length = n0) (hn : l.length = n) (hl : Lt l) (hR0 : RdT w w.heap.size A0 t) (hR : RdP w (· < w.heap.size) A l) (hD : doF t l = R) :
    Calls Tryz.prog 28 #[.slice A0 n0 c0, .slice A n c] w (DoEnd w R) := by
  have HR := Lib.hid hR; have HN := Lib.hid hn; have HL := Lib.hid hl; have HD := Lib.hid hD; have HT := Lib.hid ht; have HR0 := Lib.hid hR0; have HN0 := Lib.hid hn0
  clear hR hn hl hD ht hn0 hR0
  go_enter Tryz.func28, Tryz.ntmps28
  go_wp2_with fail
  refine (ownTree A0 n0 c0 t w HN0.out (by rw [← HN0.out]; exact HT.out.s.len) (fun x hx => (HT.out.s.all x hx).l) HR0.out).mono ?_
  rintro e w0 ⟨B0, d0, rfl, hd0, hr0, hb0⟩
  have HT0 := Lib.hid (show ∃ u : TR, u.length = n0 ∧ n0 ≤ d0 ∧ Most u (K + 0) (L + 300 * 0) ∧ RdT w0 w0.heap.size B0 u ∧ doF t l = doF u (l.drop 0) from ⟨t, HN0.out, by rw [← HN0.out]; exact hd0, HT.out, hr0, rfl⟩)
  have hz : t.length = n0 := HN0.out
  rw [hz]
  have HB0 := Lib.hid hb0
  clear HT HR0 HN0 hd0 hr0 hb0 hz
  go_wp2
  go_loopw [6, 15] (fun v0 i wr => ∃ (k : Nat) (B : Option Addr) (m d : Nat) (u : TR), k ≤ n ∧ i = .int .i64 (k : Int) ∧ v0 = .slice B m d ∧ u.length = m ∧ m ≤ d ∧ Most u (K + k) (L + 300 * k) ∧ RdT wr wr.heap.size B u ∧ doF t l = doF u (l.drop k) ∧ Below w.heap.size w wr) (fun _ i _ => n - (intOf i).toNat)
  case atStart =>
    obtain ⟨u, h1, h2, h3, h4, h5⟩ := HT0.out
    exact ⟨0, B0, n0, d0, u, Nat.zero_le _, rfl, rfl, h1, h2, h3, h4, h5, HB0.out⟩
  case round =>
    clear HT0 HB0
    obtain ⟨k, B, m, d, u, hk, rfl, rfl, hm, hmd, hM, hT, hF, hbw⟩ := hrel
    have HBW := Lib.hid hbw; have HM := Lib.hid hm; have HMM := Lib.hid hM; have HT := Lib.hid hT; have HF := Lib.hid hF; have HMD := Lib.hid hmd
    clear hbw hm hM hT hF hmd
    by_cases hlt : k < n
    · have hki : (k : Int) < (n : Int) := by omega
      obtain ⟨a, x, B1, i, j, D, m1, d1, rfl, hS, hx, c0, c1, c2, c3, c4, c5, c6⟩ := ((HR.out.mv HBW.out).elem (k := k) (by rw [HN.out]; exact hlt))
      have HX := Lib.hid hx; have HP := Lib.hid c6.pv; clear hx c6 hS
      have HLX := Lib.hid (HL.out x (List.mem_of_getElem? HX.out))
      have hba : Below wr.heap.size wr (wr.alloc (.cells #[.int .i64 x.k, strV x.nm, strV x.to, .int .i64 x.h.pos, .slice B1 i j, .slice D m1 d1] 55)) := (Below.refl _ _).alloc (Nat.le_refl _) _
      have HBA := Lib.hid hba; clear hba
      go_wp2_with fail
      refine (ApplyP B m d B1 i j D m1 d1 u x _ HMM.out.s.wide HM.out (HT.out.mv HBA.out) (HP.out.mv HBA.out)).mono ?_
      rintro e w2 hde
      obtain ⟨r, hr⟩ : ∃ r, doP u x = r := ⟨_, rfl⟩
      rw [hr] at hde
      obtain ⟨r, v⟩ := r
      obtain ⟨B2, m2, d2, rfl, hd2, hl2, hT2, hb2⟩ := hde
      dsimp only at hl2 hT2
      have hF := doF_at HX.out HF.out
      have HM2 := Lib.hid (HMM.out.do (by omega) (by omega) HLX.out hr)
      have hbw2 := below_mv HBW.out (below_mv HBA.out hb2)
      have HBW2 := Lib.hid hbw2; have HT2 := Lib.hid hT2; have HL2 := Lib.hid hl2; have HD2 := Lib.hid hd2; have HF2 := Lib.hid hF; have HRR := Lib.hid hr
      clear hbw2 c0 c1 c2 c3 c4 c5 hb2 hT2 hl2 hd2 hF hr
      by_cases h0 : r = 0
      · subst h0
        go_wp2_with fail
        refine ⟨⟨k + 1, B2, m2, d2, v, by omega, by go_num, rfl, HL2.out, HD2.out, ?_, HT2.out, ?_, HBW2.out⟩, by simp [intOf]; omega⟩
        · have h1 := HM2.out
          rw [show L + 300 * k + 300 = L + 300 * (k + 1) by omega] at h1
          exact h1
        · rw [HF2.out, doF_cons_ok HRR.out]
      · have e0 : (r != 0) = true := by rw [bne_iff_ne]; exact h0
        have HO : Hid (R = (r, [])) := Lib.hid (by rw [← HD.out, HF2.out, doF_cons_no (by rw [HRR.out]; exact h0), HRR.out])
        clear h0
        go_wp2
        go_ret2
        exact doEnd_err HO.out HBW2.out
    · have HO : Hid (R = (0, u)) := Lib.hid (by rw [← HD.out, HF.out, List.drop_of_length_le (by rw [HN.out]; omega)]; rfl)
      go_wp2
      go_ret2
      obtain ⟨rfl⟩ := HM.out
      exact doEnd_ok HO.out HMD.out HT.out HBW.out

end Fl
end Go.Proofs.YtfnhjflocfmcoaaGreat

set_option maxRecDepth 100000
namespace Go.Proofs.YtfnhjflocfmcoaaGreat
open Go.RowKit
set_option linter.unusedVariables false
namespace Fl
open Tx Df Sq Hk Tr Pr

/-- How a call of Pass ends that tells x, y and bo. -/
def LPassEnd (w : World) (x y : List Ch) (bo : Bool) (e : Ending) (w' : World) : Prop :=
  ∃ A c B d, e = .returned (.tuple #[.slice A x.length c, .slice B y.length d, .bool bo]) ∧ RdP w' (· < w'.heap.size) A x ∧ RdP w' (· < w'.heap.size) B y ∧ Below w.heap.size w w'
section
variable {w w' : World} {x y x' y' : List Ch} {bo : Bool} {o : Option (List Ch × List Ch)}
end
theorem ownS_lt {W : World} {S : Nat → Prop} {base : Nat} {v : Value} {l : List Ch} (h : OwnS W S base v l) : ∀ g, v.ownBlock = some g → g < W.heap.size := fun g hg => by
  obtain ⟨xs, hr, hF⟩ := h
  rcases hr.2 with ⟨rfl, _⟩ | ⟨g', cap, cur, rfl, hbg, hg', hc, _⟩
  · cases hg
  · injection hg with hg
    subst hg
    exact (Array.getElem?_eq_some_iff.1 hg').1
theorem ownS_ge {W : World} {S : Nat → Prop} {base : Nat} {v : Value} {l : List Ch} (h : OwnS W S base v l) : ∀ g, v.ownBlock = some g → base ≤ g := fun g hg => by
  obtain ⟨xs, hr, hF⟩ := h
  exact own_ge hr g hg
theorem ownS_slice {W : World} {S : Nat → Prop} {base : Nat} {v : Value} {l : List Ch} (h : OwnS W S base v l) : ∃ A c, v = .slice A l.length c ∧ l.length ≤ c := by
  obtain ⟨xs, hr, hF⟩ := h
  rcases hr.2 with ⟨rfl, h1⟩ | ⟨g, cap, cur, rfl, hbg, hg, hc, _⟩
  · exact ⟨none, 0, by rw [h1], by rw [h1]; exact Nat.le_refl _⟩
  · exact ⟨_, cap, rfl, hc⟩
/-- A row of one's own is read as changes. -/
theorem rdP_of_own {W : World} {S : Nat → Prop} {base n c : Nat} {A : Option Addr} {l : List Ch} (h : OwnS W S base (.slice A n c) l) (hS : ∀ b, S b → b < W.heap.size) (hl : l.length = n) : RdP W (· < W.heap.size) A l := by
  by_cases h0 : l = []
  · exact .inl h0
  have hr0 := h
  obtain ⟨xs, hr, _⟩ := hr0
  rcases hr.2 with ⟨_, h1⟩ | ⟨g, cap, cur, e, _, hgb, hc, _⟩
  · exact absurd (List.eq_nil_of_length_eq_zero h1) h0
  · injection e with e1 e2 e3
    subst e1
    refine .inr ⟨_, rfl, (Array.getElem?_eq_some_iff.1 hgb).1, fun k x hx => ?_⟩
    obtain ⟨B, i', j, D, m', d, c0, c1, c2, c3, c4, c5, _, hp⟩ := h.elem hl hx
    have ea : (⟨g, 0, none⟩ : Addr).add (k * 6) = ⟨g, k * 6, none⟩ := by unfold Addr.add; split <;> simp_all
    exact ⟨by rw [ea]; exact c0, by rw [ea]; exact c1, by rw [ea]; exact c2, by rw [ea]; exact c3, B, i', j, D, m', d, by rw [ea]; exact c4, by rw [ea]; exact c5, hp.mono hS⟩

end Fl
end Go.Proofs.YtfnhjflocfmcoaaGreat

set_option maxRecDepth 100000
namespace Go.Proofs.YtfnhjflocfmcoaaGreat
open Go.RowKit
set_option linter.unusedVariables false
namespace Fl
open Tx Df Sq Hk Tr Pr

/-- How a call ends that makes a list of changes in memory that is new. -/
def LPHi (w : World) (l : List Ch) (e : Ending) (w' : World) : Prop := ∃ A c, e = .returned (.slice A l.length c) ∧ l.length ≤ c ∧ RdP w' (fun b => w.heap.size ≤ b ∧ b < w'.heap.size) A l ∧ Below w.heap.size w w'
theorem LPHi.end_ {w w' : World} {l : List Ch} {e : Ending} (h : LPHi w l e w') : LPEnd w l e w' := by
  obtain ⟨A, c, h1, h2, h3, h4⟩ := h
  exact ⟨A, c, h1, h2, h3.mono fun b hb => hb.2, h4⟩
/-- A row of one's own that is new is read as changes. -/
theorem rdP_of_own_hi {W : World} {S : Nat → Prop} {base n c N : Nat} {A : Option Addr} {l : List Ch} (h : OwnS W S base (.slice A n c) l) (hS : ∀ b, S b → N ≤ b ∧ b < W.heap.size) (hN : N ≤ base) (hl : l.length = n) : RdP W (fun b => N ≤ b ∧ b < W.heap.size) A l := by
  have h1 := rdP_of_own h (fun b hb => (hS b hb).2) hl
  by_cases h0 : l = []
  · exact .inl h0
  have hge := ownS_ge h
  obtain ⟨xs, hr, hF⟩ := h
  rcases hr.2 with ⟨_, h2⟩ | ⟨g, cap, cur, e, hbg, hgb, hc, _⟩
  · exact absurd (List.eq_nil_of_length_eq_zero h2) h0
  · injection e with e1 e2 e3
    subst e1
    rcases h1 with h1 | ⟨a, e, h3, h4⟩
    · exact .inl h1
    · injection e with e
      subst e
      refine .inr ⟨_, rfl, ⟨Nat.le_trans hN hbg, h3⟩, fun k x hx => ?_⟩
      obtain ⟨B, i, j, D, m, d, q0, q1, q2, q3, q4, q5, q6⟩ := hF k x hx
      obtain ⟨c0, c1, c2, c3, A', n', c', B', m', d', c4, c5, c6⟩ := h4 k x hx
      refine ⟨c0, c1, c2, c3, A', n', c', B', m', d', c4, c5, ?_⟩
      have hk : k < l.length := (List.getElem?_eq_some_iff.1 hx).1
      have ea : (⟨g, 0, none⟩ : Addr).add (k * 6) = ⟨g, k * 6, none⟩ := by unfold Addr.add; split <;> simp_all
      have e2' : l.length = n := hl
      subst e2'
      have z4 := c4; have z5 := c5
      rw [ea] at z4 z5
      have z4' : W.cell? ⟨g, k * 6 + 4, none⟩ = some (.slice A' n' c') := z4
      have z5' : W.cell? ⟨g, k * 6 + 5, none⟩ = some (.slice B' m' d') := z5
      rw [World.ownsRow.cellAt hr (k * 6 + 4) (by omega), q4] at z4'
      rw [World.ownsRow.cellAt hr (k * 6 + 5) (by omega), q5] at z5'
      injection z4' with z4'
      injection z5' with z5'
      injection z4' with y1 y2 y3
      injection z5' with y4 y5 y6
      subst y1 y2 y3 y4 y5 y6
      exact q6.mono hS
end Fl
end Go.Proofs.YtfnhjflocfmcoaaGreat

set_option maxRecDepth 100000
namespace Go.Proofs.YtfnhjflocfmcoaaGreat
open Go.RowKit
set_option linter.unusedVariables false
set_option linter.unusedSimpArgs false
namespace Pn
open Tx Df Sq Hk Tr Pr Fl

theorem allN_split {l : List Nm} {k : Nat} {x : Nm} (hx : l[k]? = some x) : allN l = allN (l.take k) ++ (x.l ++ allN (l.drop (k + 1))) := by
  have h1 : l = l.take k ++ x :: l.drop (k + 1) := by rw [← drop_at hx, List.take_append_drop]
  rw [← allN_cons, ← allN_app, ← h1]
theorem allN_pre {l : List Nm} {k j N : Nat} {x : Nm} (hx : l[k]? = some x) (hN : (allN l).length ≤ N) : (allN (l.take k) ++ x.l.take j).length ≤ N := by
  rw [allN_split hx] at hN
  simp only [List.length_append, List.length_take] at hN ⊢
  omega
theorem allN_len {l : List Nm} {k : Nat} {x : Nm} (hx : l[k]? = some x) : x.l.length ≤ (allN l).length := by
  rw [allN_split hx]
  simp only [List.length_append]
  omega
theorem allN_mem {l : List Nm} {k : Nat} {x : Nm} {q : Ch} (hx : l[k]? = some x) (hq : q ∈ x.l) : q ∈ allN l := by
  rw [allN_split hx]
  exact List.mem_append_right _ (List.mem_append_left _ hq)
theorem allN_next {l : List Nm} {k : Nat} {x : Nm} (hx : l[k]? = some x) : allN (l.take (k + 1)) = allN (l.take k) ++ x.l := by
  rw [take_at hx, allN_app]
  unfold allN
  simp
/-- Blocks made behind w that are not the row. -/
def NewIn (w W : World) (row : Option Nat) : Nat → Prop := fun b => w.heap.size ≤ b ∧ b < W.heap.size ∧ some b ≠ row
theorem newIn_up {w W W' : World} {row : Option Nat} (hs : W.heap.size ≤ W'.heap.size) : ∀ b, NewIn w W row b → NewIn w W' row b := fun b h => ⟨h.1, Nat.lt_of_lt_of_le h.2.1 hs, h.2.2⟩
/-- Changes in a row of one's own, their lines in memory made behind w. -/
abbrev OwnF (w W : World) (v : Value) (l : List Ch) : Prop := OwnS W (NewIn w W v.ownBlock) w.heap.size v l
section
variable {w W W' : World} {v : Value} {l u : List Ch}
theorem ownF_nil (w W : World) : OwnF w W (.slice none 0 0) [] := ⟨[], World.ownsRow_nil _ _ _ _, PCells.nil _ _ _⟩
theorem OwnF.below (h : OwnF w W v l) (hb : Below W.heap.size W W') : OwnF w W' v l := by
  obtain ⟨xs, h1, h2⟩ := h
  exact ⟨xs, own_gr h1 (below_gr_row hb), (h2.to (fun b _ hl => hb.block b hl)).mono (newIn_up hb.size)⟩
theorem run_ownF {ty : TypeId} {m c : Nat} {A : Option Addr} {ys : List Value} (h : OwnF w W v l) (hu : PCells W (NewIn w W v.ownBlock) u ys) (hyl : ys.length = u.length * 6) (hsrc : ∃ a, A = some a ∧ ∀ (j : Nat) x, ys[j]? = some x → W.cell? (a.add j) = some x)
    (hm : u.length = m) (h0 : 0 < m) (hn : l.length + m ≤ 100000) (hbase : w.heap.size ≤ W.heap.size) :
    ∃ v' W', (Builtin.append_ #[39, 39] ty #[v, .slice A m c]).run Tryz.prog W = .ok v' W' ∧ OwnF w W' v' (l ++ u) ∧ W.grownBy W' v.ownBlock := by
  obtain ⟨i0, hi0, hz0, hz1, hz2⟩ := info_parts info_prim
  obtain ⟨xs, hrow, hF⟩ := h
  have h1 := one6 hu hyl
  obtain ⟨a, rfl, hcell⟩ := hsrc
  obtain ⟨g, cap, W', hr, r1, r2, r3, r4⟩ := run_append_lies (P := Tryz.prog) (w := W) 39 ty w.heap.size 55 i0 _ 6 96 Tryz.underlying39 hi0 hz0 hz1 hz2 rfl (by decide) v l.length xs hrow a m c ys (by rw [hyl, hm]) hcell h1 (by omega) (by unfold maxLen; omega) (by omega) hbase W.heap.size rfl
  refine ⟨_, W', hr, ⟨xs ++ ys, by rw [List.length_append, hm]; exact r1, ?_⟩, r2⟩
  have hJ := (hF.append hrow.1 hu)
  have al : Fl.Alike (NewIn w W v.ownBlock) W W' := (alike_gr r2).mono fun b hb => hb.2.2
  refine (hJ.to al).mono fun b hb => ⟨hb.1, Nat.lt_of_lt_of_le hb.2.1 r2.size, ?_⟩
  rcases r3 with r3 | r3
  · rw [r3] at hb; exact hb.2.2
  · intro e
    injection e with e
    have e' : b = g := e
    have := hb.2.1
    omega
theorem wpList_ownF {ops : Array Oper} {rest : List Oper} {o : Oper} {a : Act} {Q : Exit → Act → World → Prop} (hgd : o.guard = none) (s x : Operand)
    (ho : o.op = .call { callee := .builtin .append, args := #[s, x], argTypes := #[39, 39] })
    (w : World) (m c : Nat) (v : Value) (A : Option Addr) (l u : List Ch) (ys : List Value) (hs : a.eval s = v) (hx : a.eval x = .slice A m c) (h : OwnF w W v l) (hu : PCells W (NewIn w W v.ownBlock) u ys) (hyl : ys.length = u.length * 6) (hsrc : ∃ a, A = some a ∧ ∀ (j : Nat) x, ys[j]? = some x → W.cell? (a.add j) = some x)
    (hm : u.length = m) (h0 : 0 < m) (hn : l.length + m ≤ 100000) (hbase : w.heap.size ≤ W.heap.size)
    (hK : ∀ v' W', OwnF w W' v' (l ++ u) → W.grownBy W' v.ownBlock → wpList Tryz.prog ops Q rest (a.put o.dst v') W') : wpList Tryz.prog ops Q (o :: rest) a W := by
  refine wpList_plain hgd fun K hK' => ?_
  obtain ⟨v', W', hrun, h2, h3⟩ := run_ownF (ty := o.type) (c := c) h hu hyl hsrc hm h0 hn hbase
  unfold Oper.wp execOp
  simp only [ho, resolve, invoke, builtin, Sem.run_bind, Sem.run_pure, Result.andThen_ok, List.map_toArray, List.map_cons, List.map_nil, hs, hx, hrun]
  exact hK' _ _ (hK v' W' h2 h3)
end

theorem ownC (A : Option Addr) (n c B : Nat) (ls : List (List UInt8)) (w : World) (hn : ls.length = n) (hle : n ≤ 100000) (hB : B ≤ w.heap.size) (hR : RdS w B A ls) :
    Calls Tryz.prog 44 #[.slice A n c] w (CopyLEnd w n ls) := by
  obtain ⟨j0, hj, hy0, hy1, hy2⟩ := info_parts info_str
  have HR := Lib.hid hR; have HN := Lib.hid hn
  clear hR hn
  go_enter Tryz.func44, Tryz.ntmps44
  go_wp2_with (at_builtin; refine wpList_nil' rfl (.const (.slice none 0 0)) (.tmp 3) 49 rfl 9 j0 (.string ⟨#[]⟩) 16 Tryz.underlying49 hj hy0 hy1 hy2 rfl rfl B A n c (ls.map strV) rfl (by rw [List.length_map]; exact HN.out) HR.out (strs_one _) (by unfold maxLen; omega) (by omega) ?_; intro D1 d1 w1 hA hg; have HA := Lib.hid hA; have HG := Lib.hid hg; clear hA hg)
  go_ret
  obtain ⟨A', c', e, hc, hr⟩ := rd_of_own HA.out
  injection e with e1 e2 e3
  subst e1 e3
  exact ⟨D1, d1, rfl, hc, hr, hi_own HA.out, HG.out⟩

set_option maxRecDepth 100000 in
set_option maxHeartbeats 8000000 in
theorem AllN (A : Option Addr) (n c : Nat) (l : List Nm) (w : World) (hn : l.length = n) (hle : n ≤ 100000) (hT : (allN l).length ≤ 1000) (hl : Lt (allN l)) (hR : RdN w w.heap.size A l) :
    Calls Tryz.prog 29 #[.slice A n c] w (LPHi w (allN l)) := by
  have HR := Lib.hid hR; have HN := Lib.hid hn; have HL := Lib.hid hl; have HT := Lib.hid hT
  clear hR hn hl hT
  go_enter Tryz.func29, Tryz.ntmps29
  go_wp2
  go_loopw [3, 10] (fun v3 i wr => ∃ (k : Nat) (A3 : Option Addr) (m3 f3 : Nat), k ≤ n ∧ i = .int .i64 (k : Int) ∧ v3 = .slice A3 m3 f3 ∧ OwnF w wr (.slice A3 m3 f3) (allN (l.take k)) ∧ Below w.heap.size w wr) (fun _ i _ => n - (intOf i).toNat)
  case atStart => exact ⟨0, none, 0, 0, Nat.zero_le _, rfl, rfl, ownF_nil _ _, Below.refl _ _⟩
  case round =>
    obtain ⟨k, A3, m3, f3, hk, rfl, rfl, hO, hbw⟩ := hrel
    have HBW := Lib.hid hbw; have HO := Lib.hid hO; clear hbw hO
    by_cases hlt : k < n
    · have hki : (k : Int) < (n : Int) := by omega
      obtain ⟨a, x, D, i, j, E, m, d, rfl, hS, hx, c0, c1, c2, c3, c4, c5⟩ := (HR.out.elem (k := k) (by rw [HN.out]; exact hlt))
      have hsb : (a.add (k * 5)).block < w.heap.size := by rw [add_block]; exact hS
      replace c0 := cellB c0 HBW.out hsb; replace c1 := cellB c1 HBW.out hsb; replace c2 := cellB c2 HBW.out hsb; replace c3 := cellB c3 HBW.out hsb; replace c4 := cellB c4 HBW.out hsb
      have HX := Lib.hid hx
      have HBA := Lib.hid (show Below wr.heap.size wr (wr.alloc (.cells #[.int .i64 x.id.1, .int .i64 x.id.2, .slice D i j, strV x.txt, .slice E m d] 41)) from (Below.refl _ _).alloc (Nat.le_refl _) _)
      have HXL := Lib.hid c5.l
      have HXR := Lib.hid c5.r
      have hm1 : m ≤ 1000 := by have h1 := allN_len HX.out; have h2 := HT.out; have h3 := HXL.out; omega
      have HO1 := Lib.hid (HO.out.below HBA.out)
      have HBW1 := Lib.hid (below_mv HBW.out HBA.out)
      clear hx c5 hS HO hsb
      go_wp2_with fail
      clear c0 c1 c2 c3 c4
      generalize (wr.alloc (.cells #[.int .i64 x.id.1, .int .i64 x.id.2, .slice D i j, strV x.txt, .slice E m d] 41)) = w1 at HBA HO1 HBW1 ⊢
      clear HBA HBW
      go_loopw [3, 17] (fun v3 i wr => ∃ (k2 : Nat) (A3 : Option Addr) (m3 f3 : Nat), k2 ≤ m ∧ i = .int .i64 (k2 : Int) ∧ v3 = .slice A3 m3 f3 ∧ OwnF w wr (.slice A3 m3 f3) (allN (l.take k) ++ x.l.take k2) ∧ Below w.heap.size w wr) (fun _ i _ => m - (intOf i).toNat)
      case atStart => exact ⟨0, A3, m3, f3, Nat.zero_le _, rfl, rfl, by rw [List.take_zero, List.append_nil]; exact HO1.out, HBW1.out⟩
      case round =>
        clear HO1 HBW1
        obtain ⟨k2, A4, m4, e4, hk2, rfl, rfl, hO, hbw⟩ := hrel
        have HBW2 := Lib.hid hbw; have HO := Lib.hid hO; clear hbw hO
        by_cases hlt2 : k2 < m
        · have hki2 : (k2 : Int) < (m : Int) := by omega
          obtain ⟨ad, q, B, n1, d1, G, m2, d2, rfl, hS, hq, c0, c1, c2, c3, c4, c5, hp⟩ := (HXR.out.elem (k := k2) (by rw [HXL.out]; exact hlt2))
          have hsb : (ad.add (k2 * 6)).block < w.heap.size := by rw [add_block]; exact hS
          replace c0 := cellB c0 HBW2.out hsb; replace c1 := cellB c1 HBW2.out hsb; replace c2 := cellB c2 HBW2.out hsb; replace c3 := cellB c3 HBW2.out hsb; replace c4 := cellB c4 HBW2.out hsb; replace c5 := cellB c5 HBW2.out hsb
          have HQ := Lib.hid hq
          have HLX := Lib.hid (lt_len hp (HL.out q (allN_mem HX.out (List.mem_of_getElem? hq))))
          have HBX := Lib.hid (Blk.new wr 55 #[.int .i64 q.k, strV q.nm, strV q.to, .int .i64 q.h.pos, .slice B n1 d1, .slice G m2 d2])
          have hba : Below wr.heap.size wr (wr.alloc (.cells #[.int .i64 q.k, strV q.nm, strV q.to, .int .i64 q.h.pos, .slice B n1 d1, .slice G m2 d2] 55)) := (Below.refl _ _).alloc (Nat.le_refl _) _
          have HBW3 := Lib.hid (below_mv HBW2.out hba)
          have HPW := Lib.hid (hp.pv.below HBW3.out); have HBA := Lib.hid hba
          have HLT := Lib.hid (ownS_lt HO.out)
          have HSZ := Lib.hid (show (wr.alloc (.cells #[.int .i64 q.k, strV q.nm, strV q.to, .int .i64 q.h.pos, .slice B n1 d1, .slice G m2 d2] 55)).heap.size = wr.heap.size + 1 by simp)
          clear hq hp hS hba hsb
          go_upto_region 8 with fail
          clear c0 c1 c2 c3 c4 c5
          generalize (wr.alloc (.cells #[.int .i64 q.k, strV q.nm, strV q.to, .int .i64 q.h.pos, .slice B n1 d1, .slice G m2 d2] 55)) = W at HBX HPW HBW3 HSZ HBA ⊢
          obtain ⟨z, hz⟩ : ∃ z, wr.heap.size = z := ⟨_, rfl⟩
          have HZ := Lib.hid hz
          rw [hz] at HBX HSZ HLT ⊢
          clear hz
          have hlx := HLX.out
          have PX : Hid (∀ X, Below W.heap.size W X → Calls Tryz.prog 44 #[.slice B n1 d1] X (fun e u => ∃ P p, e = .returned (.slice P n1 p) ∧ n1 ≤ p ∧ RdS u u.heap.size P q.h.old ∧ Hi X.heap.size P ∧ X.grownBy u none)) := Lib.hid (fun X hb => ownC B n1 d1 w.heap.size q.h.old X HPW.out.h.l (by omega) (Nat.le_trans HBW3.out.size hb.size) (Rd.below HPW.out.h.r (hb.mono HBW3.out.size)))
          have PY : Hid (∀ X, Below W.heap.size W X → Calls Tryz.prog 44 #[.slice G m2 d2] X (fun e u => ∃ P p, e = .returned (.slice P m2 p) ∧ m2 ≤ p ∧ RdS u u.heap.size P q.h.new ∧ Hi X.heap.size P ∧ X.grownBy u none)) := Lib.hid (fun X hb => ownC G m2 d2 w.heap.size q.h.new X HPW.out.h.l' (by omega) (Nat.le_trans HBW3.out.size hb.size) (Rd.below HPW.out.h.r' (hb.mono HBW3.out.size)))
          have HD := Lib.hid (show Below W.heap.size W W.drew from below_drewN (Below.refl W.heap.size W) 1)
          obtain ⟨z4, z5⟩ : W.cell? ⟨z, 4, none⟩ = some (.slice B n1 d1) ∧ W.cell? ⟨z, 5, none⟩ = some (.slice G m2 d2) := ⟨HBX.out.cell 4 rfl, HBX.out.cell 5 rfl⟩
          have hzl := HBX.out.lt
          go_region_with (first
            | (go_at_call 44; (with_reducible refine (PX.out W.drew HD.out).mono ?_); rintro e w5 ⟨P5, p5, rfl, hk5, hr5, hh5, hg5⟩; have hb5 := HD.out.trans (below_gr hg5); have B5 := HBX.out.below hb5 HBX.out.lt; have z4' := B5.cell 4 rfl; have z5' := B5.cell 5 rfl; have hzl5 := B5.lt; have HU5 := Lib.hid hb5; have HR5 := Lib.hid hr5; have HH5 := Lib.hid hh5; have HK5 := Lib.hid hk5; clear hg5 hb5 hr5 hh5 hk5 B5)
            | (go_at_call 44; (with_reducible refine (PY.out w5 HU5.out).mono ?_); rintro e w6 ⟨P6, p6, rfl, hk6, hr6, hh6, hg6⟩; have hb6 := below_gr hg6; have hu6 := HU5.out.trans (hb6.mono HU5.out.size); have B6 := HBX.out.below hu6 HBX.out.lt; have y4 := B6.cell 4 rfl; have y5 := B6.cell 5 rfl; have f4 := B6.frozen 4; have f5 := B6.frozen 5; have hzl6 := B6.lt; have HU6 := Lib.hid hu6; have HB6 := Lib.hid hb6; have HR6 := Lib.hid hr6; have HH6 := Lib.hid hh6; have HK6 := Lib.hid hk6; have HB6X := Lib.hid B6; clear hg6 hb6 hu6 hr6 hh6 hk6 B6))
          all_goals
            have b7 : Blk ((w6.setCell ⟨z, 4, none⟩ (.slice P5 n1 p5)).setCell ⟨z, 5, none⟩ (.slice P6 m2 p6)) z 55 #[.int .i64 q.k, strV q.nm, strV q.to, .int .i64 q.h.pos, .slice P5 n1 p5, .slice P6 m2 p6] := (HB6X.out.set 4 _).set 5 _
            have hb7 : Below wr.heap.size wr ((w6.setCell ⟨z, 4, none⟩ (.slice P5 n1 p5)).setCell ⟨z, 5, none⟩ (.slice P6 m2 p6)) := ((HBA.out.trans (HU6.out.mono HBA.out.size)).setCell (p := ⟨z, 4, none⟩) (by rw [HZ.out]; exact Nat.le_refl _) _).setCell (p := ⟨z, 5, none⟩) (by rw [HZ.out]; exact Nat.le_refl _) _
            have al : Fl.Alike (· ≠ z) w6 ((w6.setCell ⟨z, 4, none⟩ (.slice P5 n1 p5)).setCell ⟨z, 5, none⟩ (.slice P6 m2 p6)) := (alike_set w6 z 4 _).trans_ (alike_set _ z 5 _) (by simp)
            have hs5 : z + 1 ≤ w5.heap.size := by have := HSZ.out; have := HU5.out.size; omega
            have hs6 := HB6.out.size
            have r5 : RdG ((w6.setCell ⟨z, 4, none⟩ (.slice P5 n1 p5)).setCell ⟨z, 5, none⟩ (.slice P6 m2 p6)) (fun b => z + 1 ≤ b ∧ b < w6.heap.size) P5 (q.h.old.map strV) := ((rdG_hi (Rd.up (Rd.below HR5.out HB6.out) hs6) HH5.out).mono fun b hb => (by have h1 : W.heap.size ≤ b := hb.1; rw [HSZ.out] at h1; exact ⟨h1, hb.2⟩ : z + 1 ≤ b ∧ b < w6.heap.size)).to (al.mono fun b hb => by omega)
            have r6 : RdG ((w6.setCell ⟨z, 4, none⟩ (.slice P5 n1 p5)).setCell ⟨z, 5, none⟩ (.slice P6 m2 p6)) (fun b => z + 1 ≤ b ∧ b < w6.heap.size) P6 (q.h.new.map strV) := ((rdG_hi HR6.out HH6.out).mono fun b hb => (by have h1 : w5.heap.size ≤ b := hb.1; exact ⟨by omega, hb.2⟩ : z + 1 ≤ b ∧ b < w6.heap.size)).to (al.mono fun b hb => by omega)
            have hsx : ((w6.setCell ⟨z, 4, none⟩ (.slice P5 n1 p5)).setCell ⟨z, 5, none⟩ (.slice P6 m2 p6)).heap.size = w6.heap.size := by simp
            have R5 := Lib.hid r5; have R6 := Lib.hid r6; have HB7 := Lib.hid hb7; have HSX := Lib.hid hsx; have B7 := Lib.hid b7; have HSL := Lib.hid (Nat.le_trans hs5 hs6)
            clear b7 hb7 al hs5 hs6 r5 r6 hsx z4 z5 z4' z5' y4 y5 f4 f5 hzl hzl5 hzl6 PX PY HD HU5 HR5 HH5 HU6 HB6 HR6 HH6 HB6X HBA HBX HSZ
            generalize ((w6.setCell ⟨z, 4, none⟩ (.slice P5 n1 p5)).setCell ⟨z, 5, none⟩ (.slice P6 m2 p6)) = w7 at B7 HB7 R5 R6 HSX ⊢
            have x0 := B7.out.cell 0 rfl; have x1 := B7.out.cell 1 rfl; have x2 := B7.out.cell 2 rfl; have x3 := B7.out.cell 3 rfl; have x4 := B7.out.cell 4 rfl; have x5 := B7.out.cell 5 rfl
            have hzl := B7.out.lt
            have b8 := Blk.new w7 55 #[.int .i64 q.k, strV q.nm, strV q.to, .int .i64 q.h.pos, .slice P5 n1 p5, .slice P6 m2 p6]
            have hb8 : Below wr.heap.size wr (w7.alloc (.cells #[.int .i64 q.k, strV q.nm, strV q.to, .int .i64 q.h.pos, .slice P5 n1 p5, .slice P6 m2 p6] 55)) := HB7.out.alloc HB7.out.size _
            have ho8 := HO.out.below hb8
            have v := HPW.out
            have pg : PG (w7.alloc (.cells #[.int .i64 q.k, strV q.nm, strV q.to, .int .i64 q.h.pos, .slice P5 n1 p5, .slice P6 m2 p6] 55)) (NewIn w (w7.alloc (.cells #[.int .i64 q.k, strV q.nm, strV q.to, .int .i64 q.h.pos, .slice P5 n1 p5, .slice P6 m2 p6] 55)) (Value.slice A4 m4 e4).ownBlock) P5 n1 p5 P6 m2 p6 q := by
              have hout : ∀ b, (z + 1 ≤ b ∧ b < w6.heap.size) → NewIn w (w7.alloc (.cells #[.int .i64 q.k, strV q.nm, strV q.to, .int .i64 q.h.pos, .slice P5 n1 p5, .slice P6 m2 p6] 55)) (Value.slice A4 m4 e4).ownBlock b := fun b hb => ⟨by have h1 := HBW2.out.size; have h2 := HZ.out; omega, by have := HSX.out; simp; omega, fun e => by have := HLT.out b e.symm; omega⟩
              have hal : Fl.Alike (fun b => z + 1 ≤ b ∧ b < w6.heap.size) w7 (w7.alloc (.cells #[.int .i64 q.k, strV q.nm, strV q.to, .int .i64 q.h.pos, .slice P5 n1 p5, .slice P6 m2 p6] 55)) := (alike_below ((Below.refl w7.heap.size w7).alloc (Nat.le_refl _) _)).mono fun b hb => by have := HSX.out; omega
              exact ⟨v.h.l, v.h.l', HK5.out, HK6.out, v.h.m, v.h.m', (R5.out.to hal).mono hout, (R6.out.to hal).mono hout, v.h.p, v.k, v.nm, v.to, v.s, v.s'⟩
            have hc8 := PCells.one pg
            have HB8 := Lib.hid b8; have HW8 := Lib.hid (below_mv HBW2.out hb8); have HO8 := Lib.hid ho8; have HC8 := Lib.hid hc8
            have HLN := Lib.hid (allN_pre (j := k2) HX.out HT.out)
            clear b8 hb8 ho8 v pg hc8
            go_wp2_with (at_builtin; refine wpList_ownF rfl (.tmp 33) (.tmp 35) rfl w 1 1 (.slice A4 m4 e4) (some ⟨w7.heap.size, 0, none⟩) (allN (l.take k) ++ x.l.take k2) [q] _ rfl rfl HO8.out HC8.out rfl ⟨_, rfl, one_srcP HB8.out⟩ rfl (by decide) (by have := HLN.out; omega) HW8.out.size ?_; intro v' W' ho hg)
            obtain ⟨A9, c9, rfl, _⟩ := ownS_slice ho
            refine ⟨⟨k2 + 1, A9, _, c9, by omega, by go_num, rfl, ?_, HW8.out.grown hg HW8.out.size (fun g e => ownS_ge HO8.out g e)⟩, by simp [intOf]; omega⟩
            rw [take_at HQ.out, ← List.append_assoc]
            exact ho
        · go_wp2_with fail
          refine ⟨⟨k + 1, A4, m4, e4, by omega, by go_num, rfl, ?_, HBW2.out⟩, by simp [intOf]; omega⟩
          have ho := HO.out
          have e2 : x.l.take k2 = x.l := List.take_of_length_le (by rw [HXL.out]; omega)
          rw [e2, ← allN_next HX.out] at ho
          exact ho
    · go_wp2
      go_ret
      have e : l.take k = l := List.take_of_length_le (by rw [HN.out]; omega)
      have ho := HO.out
      rw [e] at ho
      obtain ⟨A9, c9, e9, h9⟩ := ownS_slice ho
      rw [e9] at ho ⊢
      exact ⟨A9, c9, rfl, h9, rdP_of_own_hi ho (fun b hb => ⟨hb.1, hb.2.1⟩) (Nat.le_refl _) rfl, HBW.out⟩

end Pn
end Go.Proofs.YtfnhjflocfmcoaaGreat

set_option maxRecDepth 100000
namespace Go.Proofs.YtfnhjflocfmcoaaGreat
open Go.RowKit
set_option linter.unusedVariables false
set_option linter.unusedSimpArgs false
namespace Pn
open Tx Df Sq Hk Tr Pr Fl
attribute [local go_sem] eq_id

set_option maxHeartbeats 2000000 in
theorem refAllN (A : Option Addr) (n c : Nat) (l : List Nm) (w : World) (hn : l.length = n) (hle : n ≤ 100000) (hT : (allN l).length ≤ 1000) (hR : RdN w w.heap.size A l) :
    Calls Tryz.prog 38 #[.slice A n c] w (LPEnd w (allN l)) := by
  have HR := Lib.hid hR; have HN := Lib.hid hn; have HT := Lib.hid hT
  clear hR hn hT
  go_enter Tryz.func38, Tryz.ntmps38
  go_wp2
  go_loopw [3, 4] (fun v3 i wr => ∃ (k : Nat) (A3 : Option Addr) (m3 f3 : Nat), k ≤ n ∧ i = .int .i64 (k : Int) ∧ v3 = .slice A3 m3 f3 ∧ OwnP wr w.heap.size (.slice A3 m3 f3) (allN (l.take k)) ∧ Below w.heap.size w wr) (fun _ i _ => n - (intOf i).toNat)
  case atStart => exact ⟨0, none, 0, 0, Nat.zero_le _, rfl, rfl, ownP_nil _ _, Below.refl _ _⟩
  case round =>
    obtain ⟨k, A3, m3, f3, hk, rfl, rfl, hO, hbw⟩ := hrel
    have HBW := Lib.hid hbw; have HO := Lib.hid hO; clear hbw hO
    by_cases hlt : k < n
    · have hki : (k : Int) < (n : Int) := by omega
      obtain ⟨a, x, D, i, j, E, m, d, rfl, hS, hx, c0, c1, c2, c3, c4, c5⟩ := ((HR.out.below HBW.out).elem (k := k) (by rw [HN.out]; exact hlt))
      have HX := Lib.hid hx
      have HXL := Lib.hid c5.l
      have HXR := Lib.hid c5.r
      have hln := allN_pre (j := x.l.length) hx HT.out
      rw [List.take_length, List.length_append, c5.l] at hln
      have HLN := Lib.hid hln
      clear hx c5 hS hln
      go_wp2_with (at_builtin; refine wpList_ownPL rfl (.tmp 11) (.tmp 16) rfl w.heap.size w.heap.size m d (.slice A3 m3 f3) E (allN (l.take k)) x.l rfl rfl HO.out HXR.out (Nat.le_refl _) HXL.out (by have := HLN.out; omega) HBW.out.size ?_; intro v' W' ho hg)
      obtain ⟨A9, c9, rfl, _⟩ := rdP_own ho
      refine ⟨⟨k + 1, A9, _, c9, by omega, by go_num, rfl, by rw [allN_next HX.out]; exact ho, HBW.out.grown hg HBW.out.size (fun g e => ownP_ge HO.out g e)⟩, by simp [intOf]; omega⟩
    · go_wp2
      go_ret
      have e : l.take k = l := List.take_of_length_le (by rw [HN.out]; omega)
      have ho := HO.out
      rw [e] at ho
      exact lpEnd_own ho HBW.out

set_option maxHeartbeats 1000000 in
theorem refApplyN (K L : Nat) (A0 : Option Addr) (n0 c0 : Nat) (A : Option Addr) (n c : Nat) (t : TR) (l : List Nm) (w : World) (R : Int × TR) (ht : Most t K L) (hK : K ≤ 20000) (hL : L ≤ 2000) (hn0 : t.length = n0) (hc0 : n0 ≤ c0) (hn : l.length = n) (hle : n ≤ 1000) (hT : (allN l).length ≤ 150) (hl : Lt (allN l)) (hR0 : RdT w w.heap.size A0 t) (hR : RdN w w.heap.size A l) (hD : doN t l = R) :
    Calls Tryz.prog 21 #[.slice A0 n0 c0, .slice A n c] w (DoEnd w R) := by
  have HR := Lib.hid hR; have HN := Lib.hid hn; have HL := Lib.hid hl; have HT := Lib.hid hT; have HM := Lib.hid ht; have HR0 := Lib.hid hR0; have HN0 := Lib.hid hn0; have HD := Lib.hid hD; have HC0 := Lib.hid hc0
  clear hR hn hl hT ht hR0 hn0 hD hc0
  go_enter Tryz.func21, Tryz.ntmps21
  go_wp2_with fail
  refine (refAllN A n c l w HN.out (by omega) (by have := HT.out; omega) HR.out).mono ?_
  rintro e w1 ⟨A1, c1, rfl, hc1, hr1, hb1⟩
  obtain ⟨m, hm⟩ : ∃ m, (allN l).length = m := ⟨_, rfl⟩
  rw [hm] at hc1 ⊢
  have HR1 := Lib.hid hr1; have HB1 := Lib.hid hb1; have HMM := Lib.hid hm
  clear hc1 hr1 hb1 hm
  go_wp2_with fail
  refine (refApplyLK K L A0 n0 c0 A1 m c1 t (allN l) w1 R HM.out (by have := HT.out; have := HMM.out; omega) (by have := HT.out; have := HMM.out; omega) HN0.out HC0.out HMM.out HL.out (HR0.out.mv HB1.out) HR1.out HD.out).mono ?_
  rintro e w2 ⟨B, k, d, rfl, h1, h2, h3, h4⟩
  have H1 := Lib.hid h1; have H2 := Lib.hid h2; have H3 := Lib.hid h3; have HB := Lib.hid (below_mv HB1.out h4)
  clear h1 h2 h3 h4
  go_wp2
  go_ret2
  exact ⟨B, k, d, rfl, H1.out, H2.out, H3.out, HB.out⟩

end Pn
end Go.Proofs.YtfnhjflocfmcoaaGreat

set_option maxRecDepth 100000
namespace Go.Proofs.YtfnhjflocfmcoaaGreat
open Go.RowKit
set_option linter.unusedVariables false
set_option linter.unusedSimpArgs false
namespace Bm
open Tx Df Sq Hk Tr Pr Fl Pn Tg

/-- What Origins is, by definition: the error, or the births. -/
def orgR (l : List Nm) : Int × OR := match orgN ([], []) l with | some u => (0, u.2) | none => ((doN [] l).1, [])
theorem orgR_no {l : List Nm} (h : (doN [] l).1 ≠ 0) : orgR l = ((doN [] l).1, []) := by
  unfold orgR
  cases hc : orgN ([], []) l with
  | none => rfl
  | some u =>
    have := org_tree hc
    exact absurd (congrArg Prod.fst this) h
theorem orgR_yes {l : List Nm} {u : TR × OR} (h : orgN ([], []) l = some u) : orgR l = (0, u.2) := by unfold orgR; rw [h]
/-- How a call ends that tells origins, or an error. -/
def OrgsEnd (w : World) (r : Int × OR) (e : Ending) (w' : World) : Prop :=
  ∃ A n c, e = .returned (.tuple #[.slice A n c, .int .i64 r.1]) ∧ r.2.length = n ∧ n ≤ c ∧ RdO w' (· < w'.heap.size) A r.2 ∧ Below w.heap.size w w'
theorem orgsEnd_err {w w' : World} {r : Int × OR} {i : Int} (h : r = (i, [])) (hb : Below w.heap.size w w') : OrgsEnd w r (.returned (.tuple #[.slice none 0 0, .int .i64 i])) w' := by
  subst h
  exact ⟨none, 0, 0, rfl, rfl, Nat.le_refl _, .inl rfl, hb⟩
theorem orgsEnd_ok {w w' : World} {r : Int × OR} {o : OR} {A : Option Addr} {n c : Nat} (h : r = (0, o)) (hn : o.length = n) (hc : n ≤ c) (hR : RdO w' (· < w'.heap.size) A o) (hb : Below w.heap.size w w') : OrgsEnd w r (.returned (.tuple #[.slice A n c, .int .i64 0])) w' := by
  subst h
  exact ⟨A, n, c, rfl, hn, hc, hR, hb⟩

theorem tagL_at (i : Id_) : ∀ {L : List Ch} {k j : Nat} {p : Ch}, L[j]? = some p → (tagL i k L)[j]? = some ((i, k + j), p)
  | [], k, j, p, h => by simp at h
  | x :: L, k, 0, p, h => by
    injection h with h
    subst h
    rfl
  | x :: L, k, j + 1, p, h => by
    rw [tagL, List.getElem?_cons_succ, tagL_at i (L := L) (k := k + 1) (j := j) (by simpa using h), show k + 1 + j = k + (j + 1) by omega]
/-- The changes done, up to the k-th patch's j-th. -/
def upTo (l : List Nm) (k j : Nat) (x : Nm) : List Tc := tagA (l.take k) ++ (tagN x).take j
theorem upTo_zero (l : List Nm) (k : Nat) (x : Nm) : upTo l k 0 x = tagA (l.take k) := by unfold upTo; rw [List.take_zero, List.append_nil]
theorem upTo_end {l : List Nm} {k : Nat} {x : Nm} (hx : l[k]? = some x) : upTo l k x.l.length x = tagA (l.take (k + 1)) := by
  unfold upTo
  have e : (tagN x).length = x.l.length := by
    have := congrArg List.length (tagL_snd x.id x.l 0)
    rwa [List.length_map] at this
  rw [List.take_of_length_le (l := tagN x) (by rw [e]; exact Nat.le_refl _), take_at hx, tagA_app, tagA_cons]
  simp [tagA]
theorem upTo_next {l : List Nm} {k j : Nat} {x : Nm} {p : Ch} (hp : x.l[j]? = some p) : upTo l k (j + 1) x = upTo l k j x ++ [((x.id, j), p)] := by
  have h : (tagN x)[j]? = some ((x.id, j), p) := by
    have := tagL_at x.id (k := 0) hp
    rwa [Nat.zero_add] at this
  unfold upTo
  rw [take_at h, List.append_assoc]
theorem upTo_rest {l : List Nm} {k j : Nat} {x : Nm} (hx : l[k]? = some x) : ∃ r, tagA l = upTo l k j x ++ r := by
  have hk := (List.getElem?_eq_some_iff.1 hx)
  have e : l = l.take k ++ (x :: l.drop (k + 1)) := by
    obtain ⟨h1, h2⟩ := hk
    rw [← h2]
    simp
  refine ⟨(tagN x).drop j ++ tagA (l.drop (k + 1)), ?_⟩
  unfold upTo
  rw [List.append_assoc, ← List.append_assoc ((tagN x).take j), List.take_append_drop]
  have h := congrArg tagA e
  rw [tagA_app, tagA_cons] at h
  exact h
theorem tagA_len (l : List Nm) : (tagA l).length = (allN l).length := by rw [← tagA_snd, List.length_map]
theorem tagA_lt {l : List Nm} (h : Lt (allN l)) : ∀ c ∈ tagA l, lightP c.2 = true := fun c hc => h _ (by rw [← tagA_snd]; exact List.mem_map.2 ⟨c, hc, rfl⟩)
theorem most_B : ∀ {T : List Tc} {s u : TR × OR} {k l : Nat}, Most s.1 k l → (∀ c ∈ T, lightP c.2 = true) → k + T.length ≤ 100000 → l + 300 * T.length ≤ 100000 → doL dB s T = some u → Most u.1 (k + T.length) (l + 300 * T.length)
  | [], s, u, k, l, hm, _, _, _, h => by
    injection h with h
    rw [← h]
    exact hm
  | c :: T, s, u, k, l, hm, hl, h1, h2, h => by
    obtain ⟨v, g1, g2⟩ := doL_cons_inv dB h
    rw [List.length_cons] at h1 h2
    obtain ⟨g3, _⟩ := dB_some.1 (show dB s c = some (v.1, v.2) from g1)
    have := most_B (hm.do (by omega) (by omega) (hl c (.head _)) g3) (fun d hd => hl d (.tail _ hd)) (by omega) (by omega) g2
    rw [List.length_cons]
    exact this.mono (by omega) (by omega)
theorem most_nil : Most [] 0 0 := ⟨⟨Nat.zero_le _, fun x hx => by cases hx⟩, Nat.le_refl _, fun x hx => by cases hx⟩
/-- Where a change can be done its file's births are there. -/
theorem one_ok {t u : TR} {o : OR} {p : Ch} {K : Nat} (hL : Like t o) (hM : Most t K 50000) (hd : doP t p = (0, u)) :
    (p.k = 0 ∨ p.k = 1 ∨ p.k = 2 ∨ p.k = 3 ∨ p.k = 4) ∧ (p.k ≠ 0 → p.k ≠ 1 → ∃ m, get o p.nm = some m ∧ m.length ≤ 50000 ∧ (p.k ≠ 2 → 0 ≤ p.h.pos ∧ p.h.pos.toNat + p.h.old.length ≤ m.length)) := by
  obtain ⟨hm, hc⟩ := doP_cases hd
  rcases hc with ⟨hk, _⟩ | ⟨hk, _⟩ | ⟨hk, l, hg, _⟩ | ⟨hk, l, hg, he, _⟩
  · exact ⟨.inl hk, fun h => absurd hk h⟩
  · exact ⟨.inr (.inl hk), fun _ h => absurd hk h⟩
  · obtain ⟨m, hmo, hml⟩ := like_some hL hg
    exact ⟨.inr (.inr (.inl hk)), fun _ _ => ⟨m, hmo, by rw [hml]; exact hM.l _ (get_mem hg), fun h => absurd hk h⟩⟩
  · obtain ⟨m, hmo, hml⟩ := like_some hL hg
    obtain ⟨i0, i1, _⟩ := line_in hm hk he
    exact ⟨.inr (.inr (.inr hk)), fun _ _ => ⟨m, hmo, by rw [hml]; exact hM.l _ (get_mem hg), fun _ => ⟨i0, by rw [hml]; exact i1⟩⟩⟩
/-- What stands behind the j-th change of the k-th patch, and what the next one does. -/
theorem org_step {l : List Nm} {k j : Nat} {x : Nm} {p : Ch} {t : TR} {o : OR} {u : TR × OR} (hx : l[k]? = some x) (hp : x.l[j]? = some p) (hall : orgN ([], []) l = some u) (hlt : Lt (allN l)) (hle : (allN l).length ≤ 150) (h : doL dB ([], []) (upTo l k j x) = some (t, o)) :
    Like t o ∧ o.length ≤ 150 ∧ (p.k = 0 ∨ p.k = 1 ∨ p.k = 2 ∨ p.k = 3 ∨ p.k = 4) ∧ (p.k ≠ 0 → p.k ≠ 1 → ∃ m, get o p.nm = some m ∧ m.length ≤ 50000 ∧ (p.k ≠ 2 → 0 ≤ p.h.pos ∧ p.h.pos.toNat + p.h.old.length ≤ m.length)) ∧ p.h.new.length ≤ 1000 ∧ ∃ t', doL dB ([], []) (upTo l k (j + 1) x) = some (t', oneB o (x.id, j) p) := by
  obtain ⟨r, hr⟩ := upTo_rest (j := j + 1) hx
  obtain ⟨r0, hr0⟩ := upTo_rest (j := j) hx
  have hlen : (upTo l k j x).length ≤ 150 := by
    have h1 := tagA_len l
    rw [hr0, List.length_append] at h1
    omega
  have hlight : ∀ c ∈ upTo l k j x, lightP c.2 = true := fun c hc => tagA_lt hlt c (by rw [hr0]; exact List.mem_append_left _ hc)
  have hlp : lightP p = true := tagA_lt hlt ((x.id, j), p) (by rw [hr, upTo_next hp]; simp)
  have hL : Like t o := doB_like like_nil h
  have hM := most_B most_nil hlight (by omega) (by omega) h
  have hall2 : doL dB ([], []) (tagA l) = some u := hall
  rw [hr, upTo_next hp, List.append_assoc, doL_app, h] at hall2
  have hall3 : doL dB (t, o) ([((x.id, j), p)] ++ r) = some u := hall2
  obtain ⟨v, g1, g2⟩ := doL_cons_inv dB hall3
  obtain ⟨g3, g4⟩ := dB_some.1 (show dB (t, o) ((x.id, j), p) = some (v.1, v.2) from g1)
  obtain ⟨o1, o2⟩ := one_ok hL (hM.mono (Nat.le_refl _) (by omega)) g3
  refine ⟨hL, ?_, o1, o2, ?_, v.1, ?_⟩
  · have h1 := (like_at hL).1
    have h2 : t.length ≤ _ := hM.k
    omega
  · have := lightP_h hlp
    omega
  · rw [upTo_next hp, doL_app, h]
    show doL dB (t, o) [((x.id, j), p)] = _
    rw [doL_cons dB (show dB (t, o) ((x.id, j), p) = some (v.1, oneB o (x.id, j) p) by rw [g1, ← g4])]
    rfl

set_option maxRecDepth 100000 in
set_option maxHeartbeats 8000000 in
theorem refOrgs (A : Option Addr) (n c : Nat) (l : List Nm) (w : World) (hn : l.length = n) (hle : n ≤ 1000) (hT : (allN l).length ≤ 150) (hl : Lt (allN l)) (hR : RdN w w.heap.size A l) :
    Calls Tryz.prog 10 #[.slice A n c] w (OrgsEnd w (orgR l)) := by
  have HN := Lib.hid hn; have HL := Lib.hid hl; have HT := Lib.hid hT; have HR := Lib.hid hR
  clear hn hl hT hR
  obtain ⟨R, hD⟩ : ∃ R, doN [] l = R := ⟨_, rfl⟩
  have HD := Lib.hid hD
  clear hD
  go_enter Tryz.func10, Tryz.ntmps10
  go_wp2_with fail
  refine (refApplyN 0 0 none 0 0 A n c [] l w R most_nil (by decide) (by decide) rfl (Nat.le_refl _) HN.out hle HT.out HL.out (.inl rfl) HR.out HD.out).mono ?_
  rintro e w1 ⟨A0, k0, c0, rfl, _, _, _, hb1⟩
  have HB1 := Lib.hid hb1
  clear hb1
  obtain ⟨e0, t0⟩ := R
  dsimp only
  by_cases h0 : e0 = 0
  · subst h0
    obtain ⟨o0, ho0⟩ := org_of (s := ([], [])) HD.out
    have HO := Lib.hid ho0
    have HRR := Lib.hid (orgR_yes ho0)
    clear ho0
    go_wp2_with fail
    go_loopw [6, 7] (fun v i wr => ∃ (k : Nat) (t : TR) (o : OR) (A1 : Option Addr) (m c1 : Nat), k ≤ n ∧ i = .int .i64 (k : Int) ∧ v = .slice A1 m c1 ∧ doL dB ([], []) (tagA (l.take k)) = some (t, o) ∧ o.length = m ∧ m ≤ c1 ∧ RdO wr (· < wr.heap.size) A1 o ∧ Below w.heap.size w wr) (fun _ i _ => n - (intOf i).toNat)
    case atStart => exact ⟨0, [], [], none, 0, 0, Nat.zero_le _, rfl, rfl, rfl, rfl, Nat.le_refl _, .inl rfl, HB1.out⟩
    case round =>
      obtain ⟨k, t, o, A1, m, c1, hk, rfl, rfl, hdo, hom, hmc, hro, hbw⟩ := hrel
      have HDO := Lib.hid hdo; have HOM := Lib.hid hom; have HMC := Lib.hid hmc; have HRO := Lib.hid hro; have HBW := Lib.hid hbw
      clear hdo hom hmc hro hbw
      by_cases hlt : k < n
      · have hki : (k : Int) < (n : Int) := by omega
        have hki0 : (0 : Int) ≤ (k : Int) := by omega
        obtain ⟨a, x, D, dn, dc, E, nl, cl, rfl, hab, hx, c0', c1', c2', c3', c4', hv⟩ := HR.out.elem (k := k) (by rw [HN.out]; exact hlt)
        have hln := allN_pre (j := x.l.length) hx HT.out
        rw [List.take_length, List.length_append, hv.l] at hln
        have hnl : nl ≤ 1000 := by omega
        have HX := Lib.hid hx; have HXL := Lib.hid hv.l; have HXR := Lib.hid hv.r
        have HC : Hid (∀ X, Below w.heap.size w X → X.cell? (a.add (k * 5)) = some (.int .i64 x.id.1) ∧ X.cell? ⟨(a.add (k * 5)).block, (a.add (k * 5)).off + 1, none⟩ = some (.int .i64 x.id.2) ∧ X.cell? ⟨(a.add (k * 5)).block, (a.add (k * 5)).off + 4, none⟩ = some (.slice E nl cl)) := Lib.hid (fun X hb => ⟨cellB c0' hb (by rw [add_block]; exact hab), cellB c1' hb (by rw [add_block]; exact hab), cellB c4' hb (by rw [add_block]; exact hab)⟩)
        have HS0 : Hid (doL dB ([], []) (upTo l k 0 x) = some (t, o)) := Lib.hid (by rw [upTo_zero]; exact HDO.out)
        clear hln hx hv c0' c1' c2' c3' c4' HDO
        go_wp2_with fail
        go_loopw [6, 8] (fun v j wr => ∃ (q : Nat) (t : TR) (o : OR) (A1 : Option Addr) (m c1 : Nat), q ≤ nl ∧ j = .int .i64 (q : Int) ∧ v = .slice A1 m c1 ∧ doL dB ([], []) (upTo l k q x) = some (t, o) ∧ o.length = m ∧ m ≤ c1 ∧ RdO wr (· < wr.heap.size) A1 o ∧ Below w.heap.size w wr) (fun _ j _ => nl - (intOf j).toNat)
        case atStart => exact ⟨0, t, o, A1, m, c1, Nat.zero_le _, rfl, rfl, HS0.out, HOM.out, HMC.out, HRO.out, HBW.out⟩
        case round =>
          clear HS0 HOM HMC HRO HBW
          obtain ⟨q, t2, o2, A2, m2, c2, hq, rfl, rfl, hdo, hom, hmc, hro, hbw⟩ := hrel
          have HDO := Lib.hid hdo; have HOM := Lib.hid hom; have HMC := Lib.hid hmc; have HRO := Lib.hid hro; have HBW := Lib.hid hbw
          clear hdo hom hmc hro hbw
          obtain ⟨z0, z1, z4⟩ := HC.out _ HBW.out
          by_cases hlt2 : q < nl
          · have hqi : (q : Int) < (nl : Int) := by omega
            have hqi0 : (0 : Int) ≤ (q : Int) := by omega
            obtain ⟨b, rfl, hbb, hat⟩ := HXR.out.at_ (k := q) (by rw [HXL.out]; exact hlt2)
            obtain ⟨p, hp⟩ : ∃ p, x.l[q]? = some p := ⟨_, List.getElem?_eq_getElem (by rw [HXL.out]; exact hlt2)⟩
            rw [(List.getElem?_eq_some_iff.1 hp).2] at hat
            obtain ⟨g0, g1, g2, g3, Ap, np, cp, Bp, mp, dp, g4, g5, hpg⟩ := hat
            obtain ⟨s1, s2, s3, s4, s5, t3, s6⟩ := org_step HX.out hp HO.out HL.out HT.out HDO.out
            have HNX := Lib.hid s6; have HP := Lib.hid hp
            have HCH : Hid (∀ X, Below w.heap.size w X → X.cell? (b.add (q * 6)) = some (.int .i64 p.k) ∧ X.cell? ⟨(b.add (q * 6)).block, (b.add (q * 6)).off + 1, none⟩ = some (strV p.nm) ∧ X.cell? ⟨(b.add (q * 6)).block, (b.add (q * 6)).off + 2, none⟩ = some (strV p.to) ∧ X.cell? ⟨(b.add (q * 6)).block, (b.add (q * 6)).off + 3, none⟩ = some (.int .i64 p.h.pos) ∧ X.cell? ⟨(b.add (q * 6)).block, (b.add (q * 6)).off + 4, none⟩ = some (.slice Ap np cp) ∧ X.cell? ⟨(b.add (q * 6)).block, (b.add (q * 6)).off + 5, none⟩ = some (.slice Bp mp dp)) := Lib.hid (fun X hb => ⟨cellB g0 hb (by rw [add_block]; exact hbb), cellB g1 hb (by rw [add_block]; exact hbb), cellB g2 hb (by rw [add_block]; exact hbb), cellB g3 hb (by rw [add_block]; exact hbb), cellB g4 hb (by rw [add_block]; exact hbb), cellB g5 hb (by rw [add_block]; exact hbb)⟩)
            have HPV := Lib.hid hpg.pv
            clear g0 g1 g2 g3 g4 g5 hpg hp
            rename_i wr
            have HKB := Lib.hid (show Below w.heap.size w wr.drew from below_drewN HBW.out 1)
            have HK := Lib.hid (show wr.drew.cell? (a.add (k * 5)) = some (.int .i64 x.id.1) ∧ wr.drew.cell? ⟨(a.add (k * 5)).block, (a.add (k * 5)).off + 1, none⟩ = some (.int .i64 x.id.2) ∧ wr.drew.cell? ⟨(a.add (k * 5)).block, (a.add (k * 5)).off + 4, none⟩ = some (.slice (some b) nl cl) ∧ wr.drew.cell? (b.add (q * 6)) = some (.int .i64 p.k) ∧ wr.drew.cell? ⟨(b.add (q * 6)).block, (b.add (q * 6)).off + 1, none⟩ = some (strV p.nm) ∧ wr.drew.cell? ⟨(b.add (q * 6)).block, (b.add (q * 6)).off + 2, none⟩ = some (strV p.to) ∧ wr.drew.cell? ⟨(b.add (q * 6)).block, (b.add (q * 6)).off + 3, none⟩ = some (.int .i64 p.h.pos) ∧ wr.drew.cell? ⟨(b.add (q * 6)).block, (b.add (q * 6)).off + 4, none⟩ = some (.slice Ap np cp) ∧ wr.drew.cell? ⟨(b.add (q * 6)).block, (b.add (q * 6)).off + 5, none⟩ = some (.slice Bp mp dp) from ⟨(HC.out _ HKB.out).1, (HC.out _ HKB.out).2.1, (HC.out _ HKB.out).2.2, HCH.out _ HKB.out⟩)
            have PC := Lib.hid (refOneO A2 m2 c2 o2 x.id q Ap np cp Bp mp dp p wr.drew s1.uo HOM.out (by rw [← HOM.out]; omega) (RdO.mv HRO.out (below_drewN (Below.refl _ _) 1)) ((HPV.out.below HKB.out).up HKB.out.size) s3 s4 s5)
            clear s1 s2 s3 s4 s5 s6
            go_upto_region 11 with fail
            clear z0 z1 z4
            go_region_held3 (fun X => X.cell? (a.add (k * 5)) = some (.int .i64 x.id.1) ∧ X.cell? ⟨(a.add (k * 5)).block, (a.add (k * 5)).off + 1, none⟩ = some (.int .i64 x.id.2) ∧ X.cell? ⟨(a.add (k * 5)).block, (a.add (k * 5)).off + 4, none⟩ = some (.slice (some b) nl cl) ∧ X.cell? (b.add (q * 6)) = some (.int .i64 p.k) ∧ X.cell? ⟨(b.add (q * 6)).block, (b.add (q * 6)).off + 1, none⟩ = some (strV p.nm) ∧ X.cell? ⟨(b.add (q * 6)).block, (b.add (q * 6)).off + 2, none⟩ = some (strV p.to) ∧ X.cell? ⟨(b.add (q * 6)).block, (b.add (q * 6)).off + 3, none⟩ = some (.int .i64 p.h.pos) ∧ X.cell? ⟨(b.add (q * 6)).block, (b.add (q * 6)).off + 4, none⟩ = some (.slice Ap np cp) ∧ X.cell? ⟨(b.add (q * 6)).block, (b.add (q * 6)).off + 5, none⟩ = some (.slice Bp mp dp))
              (first | (with_reducible exact HK.out) | (with_reducible exact hS1))
              (first
                | (go_at_call 22; (with_reducible refine (PC.out).mono ?_); rintro e u1 ⟨A3, n3, c3, rfl, q1, q2, q3, hb⟩; have hbu := below_mv HKB.out hb; have hS1 := And.intro (HC.out u1 hbu).1 (And.intro (HC.out u1 hbu).2.1 (And.intro (HC.out u1 hbu).2.2 (HCH.out u1 hbu))); have HU := Lib.hid hbu; have Q1 := Lib.hid q1; have Q2 := Lib.hid q2; have Q3 := Lib.hid q3; clear hb hbu q1 q2 q3))
            all_goals (try go_wp2_with fail)
            all_goals exact ⟨⟨q + 1, t3, _, A3, n3, c3, by omega, by go_num, rfl, HNX.out, Q1.out, Q2.out, Q3.out, HU.out⟩, by simp [intOf]; omega⟩
          · obtain rfl : q = nl := by omega
            have HE : Hid (doL dB ([], []) (tagA (l.take (k + 1))) = some (t2, o2)) := Lib.hid (by rw [← upTo_end HX.out, HXL.out]; exact HDO.out)
            go_wp2
            refine ⟨⟨k + 1, t2, o2, A2, m2, c2, by omega, by go_num, rfl, HE.out, HOM.out, HMC.out, HRO.out, HBW.out⟩, by simp [intOf]; omega⟩
      · obtain rfl : k = n := by omega
        have e : l.take k = l := List.take_of_length_le (by rw [HN.out]; exact Nat.le_refl _)
        have HE : Hid (orgR l = (0, o)) := Lib.hid (by
          have h := HDO.out
          rw [e] at h
          exact orgR_yes h)
        have HF := Lib.hid (orgsEnd_ok HE.out HOM.out HMC.out HRO.out HBW.out)
        go_wp2
        go_ret2
        exact HF.out
  · have h1 : (e0 == 0) = false := by rw [beq_eq_false_iff_ne]; exact h0
    have h2 : (e0 != 0) = true := by rw [bne_iff_ne]; exact h0
    have HE : Hid (orgR l = (e0, [])) := Lib.hid (by rw [orgR_no (by rw [HD.out]; exact h0), HD.out])
    have HF := Lib.hid (orgsEnd_err HE.out HB1.out)
    clear h0
    go_wp2
    go_ret2
    exact HF.out

end Bm
end Go.Proofs.YtfnhjflocfmcoaaGreat

set_option maxRecDepth 100000
namespace Go.Proofs.YtfnhjflocfmcoaaGreat
open Go.RowKit
set_option linter.unusedVariables false
namespace Bm
open Tx Df Sq Hk Tr Pr Fl Pn Tg

/-- The births of a name; of one that is not there: none. -/
def bir (o : OR) (s : List UInt8) : List Bi := (get o s).getD []
/-- A change that adds or takes away a file leaves the births of all names. -/
theorem bir_01 {t u : TR} {o : OR} {a : Tag} {p : Ch} (hL : Like t o) (hd : doP t p = (0, u)) (hk : p.k = 0 ∨ p.k = 1) : bir (oneB o a p) = bir o := by
  funext s
  unfold bir
  rw [oneB_get hL.uo]
  by_cases ht : touch p s
  · rw [if_pos ht]
    have e : p.nm = s := by
      rcases ht with h | h
      · exact h
      · omega
    subst e
    obtain ⟨hm, hc⟩ := doP_cases hd
    rcases hc with ⟨h0, hg, _⟩ | ⟨h1, hg, _⟩ | ⟨h2, _⟩ | ⟨h3, _⟩
    · rw [like_none hL hg]
      unfold val
      rw [if_pos h0]
      rfl
    · obtain ⟨m, hmo, hml⟩ := like_some hL hg
      have : m = [] := List.eq_nil_of_length_eq_zero hml
      subst this
      rw [hmo]
      unfold val
      rw [if_neg (by omega), if_pos h1]
      rfl
    · omega
    · omega
  · rw [if_neg ht]
theorem bir_2 {t u : TR} {o : OR} {a : Tag} {p : Ch} (hL : Like t o) (hd : doP t p = (0, u)) (hk : p.k = 2) : p.nm ≠ p.to ∧ bir (oneB o a p) = fun s => if s = p.nm then [] else if s = p.to then bir o p.nm else bir o s := by
  have hne : p.nm ≠ p.to := by
    obtain ⟨hm, hc⟩ := doP_cases hd
    rcases hc with ⟨h0, _⟩ | ⟨h1, _⟩ | ⟨h2, l, hg, ht, _⟩ | ⟨h3, _⟩
    · omega
    · omega
    · intro e
      rw [← e, hg] at ht
      cases ht
    · omega
  refine ⟨hne, ?_⟩
  funext s
  show (get (oneB o a p) s).getD [] = if s = p.nm then [] else if s = p.to then bir o p.nm else bir o s
  rw [oneB_get hL.uo]
  unfold val
  by_cases h1 : s = p.nm
  · subst h1
    rw [if_pos (show touch p p.nm from .inl rfl), if_pos rfl, if_neg (by omega), if_neg (by omega), if_pos hk, if_neg (fun e => hne e.symm)]
    rfl
  · rw [if_neg h1]
    by_cases h2 : s = p.to
    · subst h2
      rw [if_pos (show touch p p.to from .inr ⟨hk, rfl⟩), if_pos rfl, if_neg (by omega), if_neg (by omega), if_pos hk, if_pos rfl]
      rfl
    · rw [if_neg h2, if_neg (show ¬ touch p s from fun h => by rcases h with h | h; exact h1 h.symm; exact h2 h.2.symm)]
      rfl
theorem bir_34 {o : OR} {a : Tag} {p : Ch} (ho : Up lt o) (hk : p.k = 3 ∨ p.k = 4) : bir (oneB o a p) = fun s => if s = p.nm then born a p (bir o p.nm) else bir o s := by
  funext s
  show (get (oneB o a p) s).getD [] = if s = p.nm then born a p (bir o p.nm) else bir o s
  rw [oneB_get ho]
  unfold val
  by_cases h1 : s = p.nm
  · subst h1
    rw [if_pos (show touch p p.nm from .inl rfl), if_pos rfl, if_neg (by omega), if_neg (by omega), if_neg (by omega)]
    rfl
  · rw [if_neg h1, if_neg (show ¬ touch p s from fun h => by rcases h with h | h; exact h1 h.symm; omega)]
    rfl

/-- How an element reads: as the value that it is. -/
def selfR (v : Value) : Option (DataW Value × List MemPlace) := some (.held v, [])
/-- The births of names, in the map of block b, of at most n entries; their memory lies in blocks that S names. -/
def BirG (w : World) (S : Nat → Prop) (b n : Nat) (F : List UInt8 → List Bi) : Prop :=
  ∃ D : DataW Value, w.ownsMap Tryz.prog 9 selfR b n D ∧ ∀ s, ∃ A c, D.atKey (.string s) (.held (.slice none 0 0)) = .held (.slice A (F s).length c) ∧ (F s).length ≤ c ∧ RdB w S A (F s)
/-- .. in other blocks than b. -/
abbrev BirM (w : World) (b n : Nat) (F : List UInt8 → List Bi) : Prop := BirG w (fun g => g ≠ b ∧ g < w.heap.size) b n F
theorem law_strB : Maps.Keyed Tryz.prog 9 := Maps.string_keyed Tryz.underlying9
theorem key_strB {s : List UInt8} (h : s.length ≤ maxLen) : keyOf Tryz.prog 9 (strV s) = some (.string s) := Go.WideMaps.keyOf_string_mk Tryz.underlying9 (by rw [size_strV]; exact h)
theorem zero_bis (w : World) : (zeroValue 46).run Tryz.prog w = .ok (.slice none 0 0) w := by rfl
section
variable {w w' : World} {b n m : Nat} {F : List UInt8 → List Bi}
theorem birM_made (w : World) : BirM (w.alloc (.map #[] 0)) w.heap.size 0 fun _ => [] :=
  ⟨.map [], World.ownsMap_made _ _ _ _, fun s => ⟨none, 0, rfl, Nat.le_refl _, .inl rfl⟩⟩
theorem BirM.lt (h : BirM w b n F) : b < w.heap.size := h.elim fun D h => h.1.lt
theorem BirM.below (h : BirM w b n F) (hb : Below w.heap.size w w') : BirM w' b n F := by
  obtain ⟨D, h1, h2⟩ := h
  refine ⟨D, h1.kept (below_gr_row hb) (by simp), fun s => ?_⟩
  obtain ⟨A, c, g1, g2, g3⟩ := h2 s
  exact ⟨A, c, g1, g2, (g3.to fun g hg hl => hb.block g hl).mono fun g hg => ⟨hg.1, Nat.lt_of_lt_of_le hg.2 hb.size⟩⟩
theorem BirM.mono (h : BirM w b n F) (hn : n ≤ m) : BirM w b m F := by
  obtain ⟨D, h1, h2⟩ := h
  exact ⟨D, h1.mono hn, h2⟩
theorem BirG.same {S : Nat → Prop} (h : BirG w S b n F) (hS : ∀ g, S g → g < w.heap.size) (hb : Below w.heap.size w w') : BirG w' S b n F := by
  obtain ⟨D, h1, h2⟩ := h
  refine ⟨D, h1.kept (below_gr_row hb) (by simp), fun s => ?_⟩
  obtain ⟨A, c, g1, g2, g3⟩ := h2 s
  exact ⟨A, c, g1, g2, g3.to fun g hg hl => hb.block g hl⟩
/-- m[s]. -/
theorem BirG.look {S : Nat → Prop} (h : BirG w S b n F) {s : List UInt8} (hs : s.length ≤ maxLen) :
    ∃ A c, (Instr.lookup 62 (.map (some b)) (strV s) false).run Tryz.prog w = .ok (.slice A (F s).length c) w ∧ (F s).length ≤ c ∧ RdB w S A (F s) := by
  obtain ⟨D, h1, h2⟩ := h
  obtain ⟨A, c, g1, g2, g3⟩ := h2 s
  obtain ⟨v, ps, hr, hv⟩ := h1.lookup law_strB Tryz.underlying62 (zero_bis w) (zd := .held (.slice none 0 0)) (zp := []) rfl (key_strB hs)
  rw [g1] at hv
  injection hv with hv
  injection hv with hv
  injection hv with hv
  subst hv
  exact ⟨A, c, hr, g2, g3⟩
/-- m[s] = births. -/
theorem BirM.put (h : BirM w b n F) {s : List UInt8} (hs : s.length ≤ maxLen) (hn : n < maxLen) {A : Option Addr} {c : Nat} {l : List Bi} (hl : l.length = m) (hc : m ≤ c) (hR : RdB w (fun g => g ≠ b ∧ g < w.heap.size) A l) :
    ∃ w', (Instr.mapUpdate 62 (.map (some b)) (strV s) (.slice A m c)).run Tryz.prog w = .ok () w' ∧ BirM w' b (n + 1) (fun x => if x = s then l else F x) ∧ w.grownBy w' (some b) := by
  obtain ⟨D, h1, h2⟩ := h
  obtain ⟨w', hr, r1, r2⟩ := h1.update law_strB Tryz.underlying62 hn (key_strB hs) (show selfR (.slice A m c) = some (.held (.slice A m c), []) from rfl)
  have hal : Fl.Alike (fun g => g ≠ b ∧ g < w.heap.size) w w' := fun g hg hl => r2.block g hl (fun e => hg.1 (by injection e))
  have hto : ∀ {A : Option Addr} {u : List Bi}, RdB w (fun g => g ≠ b ∧ g < w.heap.size) A u → RdB w' (fun g => g ≠ b ∧ g < w'.heap.size) A u := fun hr => (hr.to hal).mono fun g hg => ⟨hg.1, Nat.lt_of_lt_of_le hg.2 r2.size⟩
  refine ⟨w', hr, ⟨_, r1, fun x => ?_⟩, r2⟩
  by_cases e : x = s
  · subst e
    refine ⟨A, c, ?_, ?_, ?_⟩
    · rw [Maps.atKey_put_same h1.isMap (show WideAt.IsKeyLit (.string x) from trivial)]
      simp only [if_true, hl]
    · simp only [if_true, hl]; exact hc
    · simp only [if_true]; exact hto hR
  · obtain ⟨A2, c2, g1, g2, g3⟩ := h2 x
    refine ⟨A2, c2, ?_, ?_, ?_⟩
    · rw [Maps.atKey_put_other (fun e2 => e (by injection e2))]
      simp only [if_neg e]
      exact g1
    · simp only [if_neg e]; exact g2
    · simp only [if_neg e]; exact hto g3
/-- delete(m, s). -/
theorem BirM.del (h : BirM w b n F) {s : List UInt8} (hs : s.length ≤ maxLen) (ty : TypeId) :
    ∃ w', (Builtin.delete_ #[62, 9] ty #[.map (some b), strV s]).run Tryz.prog w = .ok (.tuple #[]) w' ∧ BirM w' b n (fun x => if x = s then [] else F x) ∧ w.grownBy w' (some b) := by
  obtain ⟨D, h1, h2⟩ := h
  obtain ⟨w', hr, r1, r2⟩ := h1.drop law_strB Tryz.underlying62 (key_strB hs) ty
  have hal : Fl.Alike (fun g => g ≠ b ∧ g < w.heap.size) w w' := fun g hg hl => r2.grown.block g hl (fun e => hg.1 (by injection e))
  refine ⟨w', hr, ⟨_, r1, fun x => ?_⟩, r2.grown⟩
  by_cases e : x = s
  · subst e
    refine ⟨none, 0, ?_, ?_, ?_⟩
    · rw [Maps.atKey_del_same]
      simp
    · simp
    · simp only [if_true]; exact .inl rfl
  · obtain ⟨A2, c2, g1, g2, g3⟩ := h2 x
    refine ⟨A2, c2, ?_, ?_, ?_⟩
    · rw [Maps.atKey_del_other (fun e2 => e (by injection e2))]
      simp only [if_neg e]
      exact g1
    · simp only [if_neg e]; exact g2
    · simp only [if_neg e]; exact (g3.to hal).mono fun g hg => ⟨hg.1, Nat.lt_of_lt_of_le hg.2 r2.grown.size⟩
end
theorem wpList_put_bir {W : World} {ops : Array Oper} {rest : List Oper} {o : Oper} {a : Act} {Q : Exit → Act → World → Prop} (hg : o.guard = none) (mo x v : Operand) (hop : o.op = Op.mapUpdate 62 mo x v)
    (b n m c : Nat) (F : List UInt8 → List Bi) (s : List UInt8) (A : Option Addr) (l : List Bi) (hm : a.eval mo = .map (some b)) (hx : a.eval x = strV s) (hv : a.eval v = .slice A m c) (h : BirM W b n F) (hs : s.length ≤ maxLen) (hn : n < maxLen) (hl : l.length = m) (hc : m ≤ c) (hR : RdB W (fun g => g ≠ b ∧ g < W.heap.size) A l)
    (hK : ∀ W', BirM W' b (n + 1) (fun x => if x = s then l else F x) → W.grownBy W' (some b) → wpList Tryz.prog ops Q rest (a.put o.dst undef) W') : wpList Tryz.prog ops Q (o :: rest) a W := by
  refine wpList_plain hg fun K' hK' => ?_
  obtain ⟨W', hrun, r1, r2⟩ := h.put hs hn hl hc hR
  unfold Oper.wp
  simp [execOp, hop, hm, hx, hv, hrun, Result.andThen]
  exact hK' _ _ (hK W' r1 r2)
theorem wpList_del_bir {W : World} {ops : Array Oper} {rest : List Oper} {o : Oper} {a : Act} {Q : Exit → Act → World → Prop} (hg : o.guard = none) (mo x : Operand) (hop : o.op = Op.call { callee := Callee.builtin Builtin.delete, args := #[mo, x], argTypes := #[62, 9] })
    (b n : Nat) (F : List UInt8 → List Bi) (s : List UInt8) (hm : a.eval mo = .map (some b)) (hx : a.eval x = strV s) (h : BirM W b n F) (hs : s.length ≤ maxLen)
    (hK : ∀ W', BirM W' b n (fun x => if x = s then [] else F x) → W.grownBy W' (some b) → wpList Tryz.prog ops Q rest (a.put o.dst (.tuple #[])) W') : wpList Tryz.prog ops Q (o :: rest) a W := by
  refine wpList_plain hg fun K' hK' => ?_
  obtain ⟨W', hrun, r1, r2⟩ := h.del hs o.type
  unfold Oper.wp
  simp [execOp, hop, resolve, invoke, builtin, hm, hx, hrun, Result.andThen]
  exact hK' _ _ (hK W' r1 r2)
theorem wpList_look_bir {W : World} {ops : Array Oper} {rest : List Oper} {o : Oper} {a : Act} {Q : Exit → Act → World → Prop} (hg : o.guard = none) (mo x : Operand) (hop : o.op = Op.lookup 62 mo x false)
    {S : Nat → Prop} (b n : Nat) (F : List UInt8 → List Bi) (s : List UInt8) (hm : a.eval mo = .map (some b)) (hx : a.eval x = strV s) (h : BirG W S b n F) (hs : s.length ≤ maxLen)
    (hK : ∀ A c, (F s).length ≤ c → RdB W S A (F s) → wpList Tryz.prog ops Q rest (a.put o.dst (.slice A (F s).length c)) W) : wpList Tryz.prog ops Q (o :: rest) a W := by
  refine wpList_plain hg fun K' hK' => ?_
  obtain ⟨A, c, hrun, r1, r2⟩ := h.look hs
  unfold Oper.wp
  simp [execOp, hop, hm, hx, hrun, Result.andThen]
  exact hK' _ _ (hK A c r1 r2)

end Bm
end Go.Proofs.YtfnhjflocfmcoaaGreat

set_option maxRecDepth 100000
namespace Go.Proofs.YtfnhjflocfmcoaaGreat
open Go.RowKit
set_option linter.unusedVariables false
set_option linter.unusedSimpArgs false
namespace Bm
open Tx Df Sq Hk Tr Pr Fl Pn Tg

set_option maxHeartbeats 2000000 in
theorem BornB (i : Id_) (no n : Nat) (w : World) (hle : n ≤ 1000) :
    Calls Tryz.prog 19 #[.agg #[.int .i64 i.1, .int .i64 i.2], .int .i64 (no : Int), .int .i64 (n : Int)] w (BisEnd w (births (i, no) n)) := by
  have b0 := Blk.new w 31 #[.int .i64 i.1, .int .i64 i.2]
  have hba : Below w.heap.size w (w.alloc (.cells #[.int .i64 i.1, .int .i64 i.2] 31)) := (Below.refl _ _).alloc (Nat.le_refl _) _
  go_enter Tryz.func19, Tryz.ntmps19
  go_upto_region 3 with fail
  generalize (w.alloc (.cells #[.int .i64 i.1, .int .i64 i.2] 31)) = w1 at b0 hba ⊢
  obtain ⟨z, hz⟩ : ∃ z, w.heap.size = z := ⟨_, rfl⟩
  rw [hz] at b0 ⊢
  have HZ := Lib.hid hz; have HB0 := Lib.hid b0; have HBA := Lib.hid hba
  clear hz b0 hba
  go_loopw [7, 10] (fun v j wr => ∃ (k : Nat) (A1 : Option Addr) (m c1 : Nat), k ≤ n ∧ j = .int .i64 (k : Int) ∧ v = .slice A1 m c1 ∧ OwnB wr w1.heap.size (.slice A1 m c1) (births (i, no) k) ∧ Below w1.heap.size w1 wr) (fun _ j _ => n - (intOf j).toNat)
  case atStart => exact ⟨0, none, 0, 0, Nat.zero_le _, rfl, rfl, ownB_nil _ _, Below.refl _ _⟩
  case round =>
    obtain ⟨k, A1, m, c1, hk, rfl, rfl, hO, hbw⟩ := hrel
    have HBW := Lib.hid hbw; have HO := Lib.hid hO; clear hbw hO
    by_cases hlt : k < n
    · have hki : (k : Int) < (n : Int) := by omega
      have hb0 := HB0.out.below HBW.out HB0.out.lt
      have x0 := hb0.cell 0 rfl; have x1 := hb0.cell 1 rfl; have xl := hb0.lt
      have hba : Below wr.heap.size wr (wr.alloc (.cells #[.int .i64 i.1, .int .i64 i.2, .int .i64 (no : Int), .int .i64 (k : Int)] 33)) := (Below.refl _ _).alloc (Nat.le_refl _) _
      have b1 := Blk.new wr 33 #[.int .i64 i.1, .int .i64 i.2, .int .i64 (no : Int), .int .i64 (k : Int)]
      have HS1 := Lib.hid (rdB_lone (S := fun _ => True) (x := ((i, no), k)) b1 trivial)
      have HO1 := Lib.hid (own_gr HO.out (below_gr_row hba))
      have HB1 := Lib.hid (below_mv HBW.out hba)
      have HL := Lib.hid (show (births (i, no) k).length + 1 ≤ 100000 by rw [births_len]; omega)
      clear hba b1 hb0
      go_wp2_with (at_builtin; refine wpList_ownB rfl (.tmp 13) (.tmp 18) rfl (fun _ => True) w1.heap.size 1 1 (.slice A1 m c1) (some ⟨wr.heap.size, 0, none⟩) (births (i, no) k) [((i, no), k)] rfl rfl HO1.out HS1.out rfl HL.out HB1.out.size ?_; intro v' W' ho hg)
      rw [← births_snoc] at ho
      obtain ⟨A9, c9, hv9, _, _⟩ := rdB_own ho
      subst hv9
      refine ⟨⟨k + 1, A9, _, c9, by omega, by go_num, rfl, ho, HB1.out.grown hg HB1.out.size (fun g e => ownB_ge HO1.out g e)⟩, by simp [intOf]; omega⟩
    · obtain rfl : k = n := by omega
      have hki : ¬ (k : Int) < (k : Int) := by omega
      go_wp2
      go_ret
      obtain ⟨A9, c9, e9, h9, h10⟩ := rdB_own HO.out
      injection e9 with e1 e2 e3
      subst e1 e2 e3
      have hs := HBA.out.size
      exact ⟨_, _, _, rfl, rfl, h9, h10.mono fun b hb => ⟨Nat.le_trans hs hb.1, hb.2⟩, below_mv HBA.out HBW.out⟩

/-- How Grow ends, of nil: no births, in a row of one's own. -/
def GrowEnd (w : World) (e : Ending) (w' : World) : Prop := ∃ A c, e = .returned (.slice A 0 c) ∧ OwnB w' w.heap.size (.slice A 0 c) [] ∧ Below w.heap.size w w'
set_option maxHeartbeats 1000000 in
theorem GrowB (n : Nat) (w : World) (hle : n ≤ 1000000) : Calls Tryz.prog 60 #[.slice none 0 0, .int .i64 (n : Int)] w (GrowEnd w) := by
  obtain ⟨i0, hi0, hz0, hz1, hz2⟩ := info_parts info_birth
  by_cases hn : n = 0
  · subst hn
    go_enter Tryz.func60, Tryz.ntmps60
    go_wp2
    go_ret
    exact ⟨none, 0, rfl, ownB_nil _ _, Below.refl _ _⟩
  · have h := Lib.run_append_nil_zeros (P := Tryz.prog) w 46 3 46 33 i0 _ .i64 .i64 Tryz.underlying46 Tryz.underlying3 hi0 hz0 n (by omega) (by rw [hz1]; decide) (by omega) (by rw [hz2]; omega)
    have hge := grownCap_ge w n 0 33
    have hmx := grownCap_le_maxLen w n 0 33 (by unfold maxLen; omega)
    generalize grownCap w n 0 33 = G at h hge hmx
    have hsz : (Builtin.zeroCells (Value.agg #[.int .i64 0, .int .i64 0, .int .i64 0, .int .i64 0]).cells n ++ Builtin.zeroCells (Value.agg #[.int .i64 0, .int .i64 0, .int .i64 0, .int .i64 0]).cells (G - n)).size = G * 4 := by
      simp only [Array.size_append, size_zeroCells, show (Value.agg #[.int .i64 0, .int .i64 0, .int .i64 0, .int .i64 0]).cells.size = 4 from rfl]
      omega
    generalize (Builtin.zeroCells (Value.agg #[.int .i64 0, .int .i64 0, .int .i64 0, .int .i64 0]).cells n ++ Builtin.zeroCells (Value.agg #[.int .i64 0, .int .i64 0, .int .i64 0, .int .i64 0]).cells (G - n)) = R at h hsz
    obtain ⟨W1, hW1⟩ : ∃ W1, w.drew.alloc (.cells R 33) = W1 := ⟨_, rfl⟩
    have hb1 : Below w.heap.size w W1 := by rw [← hW1]; exact (below_drewN (Below.refl _ w) 1).alloc (Nat.le_refl _) _
    have ho1 : OwnB W1 w.heap.size (.slice (some ⟨w.heap.size, 0, none⟩) 0 G) [] := ⟨rfl, .inr ⟨w.heap.size, G, R, rfl, Nat.le_refl _, by rw [← hW1]; exact heap_alloc_new w.drew _, Nat.zero_le _, hmx, hsz, rfl⟩⟩
    rw [hW1] at h
    have HRUN := Lib.hid h; have HB1 := Lib.hid hb1; have HO1 := Lib.hid ho1
    have hG63 : G ≤ 9223372036854775807 := by unfold maxLen at hmx; omega
    have hn0 : (0 : Int) < (n : Int) := by omega
    have hnn : ¬ (n : Int) < 0 := by omega
    clear h hb1 ho1 hW1 hsz hmx
    go_enter Tryz.func60, Tryz.ntmps60
    go_wp2_with (at_builtin; refine Lib.wpList_append_run _ rfl _ _ _ _ rfl _ _ rfl rfl _ _ HRUN.out ?_)
    go_ret
    exact ⟨_, G, rfl, HO1.out, HB1.out⟩

/-- A row of slices of births, at the address a. -/
def RowB (w : World) (a : Addr) (ls : List (List Bi)) : Prop := ∀ (k : Nat) x, ls[k]? = some x → ∃ A m c, w.cell? (a.add k) = some (.slice A m c) ∧ x.length = m ∧ m ≤ c ∧ RdB w (· < w.heap.size) A x
theorem flat_snoc {ls : List (List Bi)} {k : Nat} {x : List Bi} (hx : ls[k]? = some x) : (ls.take (k + 1)).flatten = (ls.take k).flatten ++ x := by
  rw [take_at hx, List.flatten_append]
  simp
theorem flat_part (ls : List (List Bi)) (k : Nat) : (ls.take k).flatten.length ≤ ls.flatten.length := by
  have h : ls.flatten = (ls.take k).flatten ++ (ls.drop k).flatten := by rw [← List.flatten_append, List.take_append_drop]
  rw [h, List.length_append]
  omega
set_option maxHeartbeats 2000000 in
theorem ConcatB (a : Addr) (n c : Nat) (ls : List (List Bi)) (w : World) (hn : ls.length = n) (hle : n ≤ 1000) (ha : a.block < w.heap.size) (hR : RowB w a ls) (hT : ls.flatten.length ≤ 100000) :
    Calls Tryz.prog 49 #[.slice (some a) n c] w (BisEnd w ls.flatten) := by
  have HN := Lib.hid hn; have HR := Lib.hid hR; have HT := Lib.hid hT; have HA := Lib.hid ha
  clear hn hR hT ha
  go_enter Tryz.func49, Tryz.ntmps49
  go_wp2_with fail
  go_loop [3, 11] (fun v j => ∃ k s : Nat, k ≤ n ∧ j = .int .i64 (k : Int) ∧ v = .int .i64 (s : Int) ∧ (ls.take k).flatten.length = s) (fun _ j => n - (intOf j).toNat)
  case atStart => exact ⟨0, 0, Nat.zero_le _, rfl, rfl, rfl⟩
  case round =>
    obtain ⟨k, s, hk, rfl, rfl, hs⟩ := hrel
    have HS := Lib.hid hs
    have hsl : s ≤ 100000 := by have := flat_part ls k; have := HT.out; omega
    clear hs
    by_cases hlt : k < n
    · have hki : (k : Int) < (n : Int) := by omega
      obtain ⟨x, hx⟩ : ∃ x, ls[k]? = some x := ⟨_, List.getElem?_eq_getElem (by rw [HN.out]; exact hlt)⟩
      obtain ⟨A, m, cm, h1, h2, _, _⟩ := HR.out k x hx
      have HX : Hid ((ls.take (k + 1)).flatten.length = s + m) := Lib.hid (by rw [flat_snoc hx, List.length_append, HS.out, h2])
      have hml : s + m ≤ 100000 := by have := flat_part ls (k + 1); have := HT.out; have := HX.out; omega
      have hD : ¬ (s : Int) + (m : Int) < 0 := by omega
      clear hx h2
      go_wp2
      go_round
      case rel => exact ⟨k + 1, s + m, by omega, by go_num, by go_num, HX.out⟩
      case measure => simp [intOf]; omega
    · obtain rfl : k = n := by omega
      have hki : ¬ (k : Int) < (k : Int) := by omega
      have HTS : Hid (ls.flatten.length = s) := Lib.hid (by rw [← HS.out, List.take_of_length_le (by rw [HN.out]; exact Nat.le_refl _)])
      clear HS
      go_wp2_with fail
      refine (GrowB s w (by omega)).mono ?_
      rintro e w1 ⟨A0, c0, rfl, ho, hb⟩
      have HO0 := Lib.hid ho; have HB0 := Lib.hid hb
      clear ho hb
      go_wp2_with fail
      go_loopw [6, 27] (fun v j wr => ∃ (q : Nat) (A1 : Option Addr) (m c1 : Nat), q ≤ k ∧ j = .int .i64 (q : Int) ∧ v = .slice A1 m c1 ∧ OwnB wr w.heap.size (.slice A1 m c1) (ls.take q).flatten ∧ Below w.heap.size w wr) (fun _ j _ => k - (intOf j).toNat)
      case atStart => exact ⟨0, A0, 0, c0, Nat.zero_le _, rfl, rfl, HO0.out, HB0.out⟩
      case round =>
        obtain ⟨q, A1, m, c1, hq, rfl, rfl, hO, hbw⟩ := hrel
        have HBW := Lib.hid hbw; have HO := Lib.hid hO; clear hbw hO
        by_cases hlt : q < k
        · have hki : (q : Int) < (k : Int) := by omega
          obtain ⟨x, hx⟩ : ∃ x, ls[q]? = some x := ⟨_, List.getElem?_eq_getElem (by rw [HN.out]; exact hlt)⟩
          obtain ⟨A, mx, cm, h1, h2, h3, h4⟩ := HR.out q x hx
          have h1' := (HBW.out.cell (p := a.add q) (by rw [add_block]; exact HA.out)).trans h1
          have HX := Lib.hid (flat_snoc hx)
          have HRX := Lib.hid (h4.to (fun b _ hl => HBW.out.block b hl))
          have HLX := Lib.hid h2
          have HLL := Lib.hid (show (ls.take q).flatten.length + mx ≤ 100000 by
            have h := flat_part ls (q + 1)
            rw [HX.out, List.length_append, h2] at h
            have := HT.out
            omega)
          clear hx h1 h2 h3 h4
          go_wp2_with (at_builtin; refine wpList_ownB rfl (.tmp 31) (.tmp 32) rfl (· < w.heap.size) w.heap.size mx cm (.slice A1 m c1) A (ls.take q).flatten x rfl rfl HO.out HRX.out HLX.out HLL.out HBW.out.size ?_; intro v' W' ho hg)
          rw [← HX.out] at ho
          obtain ⟨A9, c9, hv9, _, _⟩ := rdB_own ho
          subst hv9
          refine ⟨⟨q + 1, A9, _, c9, by omega, by go_num, rfl, ho, bis_grown HBW.out HO.out hg⟩, by simp [intOf]; omega⟩
        · obtain rfl : q = k := by omega
          have hki : ¬ (q : Int) < (q : Int) := by omega
          have HF : Hid ((ls.take q).flatten = ls.flatten) := Lib.hid (by rw [List.take_of_length_le (by rw [HN.out]; exact Nat.le_refl _)])
          go_wp2
          go_ret
          obtain ⟨A9, c9, e9, h9, h10⟩ := rdB_own HO.out
          injection e9 with e1 e2 e3
          subst e1 e2 e3
          rw [HF.out] at h9 h10 ⊢
          exact ⟨_, _, _, rfl, rfl, h9, h10, HBW.out⟩

theorem row3 {W : World} {g : Nat} {t : TypeId} {A1 A2 A3 : Option Addr} {n1 c1 n2 c2 n3 c3 : Nat} {l1 l2 l3 : List Bi} (h : Blk W g t #[.slice A1 n1 c1, .slice A2 n2 c2, .slice A3 n3 c3])
    (e1 : l1.length = n1) (e2 : l2.length = n2) (e3 : l3.length = n3) (k1 : n1 ≤ c1) (k2 : n2 ≤ c2) (k3 : n3 ≤ c3) (r1 : RdB W (· < W.heap.size) A1 l1) (r2 : RdB W (· < W.heap.size) A2 l2) (r3 : RdB W (· < W.heap.size) A3 l3) : RowB W ⟨g, 0, none⟩ [l1, l2, l3] := fun k x hx => by
  have ea : ∀ j, (⟨g, 0, none⟩ : Addr).add j = ⟨g, j, none⟩ := fun j => by unfold Addr.add; split <;> simp_all
  rw [ea]
  rcases k with _ | _ | _ | k
  · injection hx with hx; subst hx; exact ⟨A1, n1, c1, h.cell 0 rfl, e1, k1, r1⟩
  · injection hx with hx; subst hx; exact ⟨A2, n2, c2, h.cell 1 rfl, e2, k2, r2⟩
  · injection hx with hx; subst hx; exact ⟨A3, n3, c3, h.cell 2 rfl, e3, k3, r3⟩
  · simp at hx
set_option maxHeartbeats 2000000 in
theorem SwapB (A : Option Addr) (n c : Nat) (i m : Nat) (B : Option Addr) (k d : Nat) (l now : List Bi) (w : World) (hn : l.length = n) (hc : n ≤ c) (hk : now.length = k) (hd : k ≤ d) (hi : i + m ≤ n) (hle : n + k ≤ 90000) (hR : RdB w (· < w.heap.size) A l) (hR' : RdB w (· < w.heap.size) B now) :
    Calls Tryz.prog 34 #[.slice A n c, .int .i64 (i : Int), .int .i64 (m : Int), .slice B k d] w (BisEnd w (swp l i m now)) := by
  have HN := Lib.hid hn; have HC := Lib.hid hc; have HK := Lib.hid hk; have HD := Lib.hid hd; have HR := Lib.hid hR; have HR' := Lib.hid hR'
  have HL1 := Lib.hid (show (l.take i).length = i by rw [List.length_take, hn]; omega)
  have HL3 := Lib.hid (show (l.drop (i + m)).length = n - (i + m) by rw [List.length_drop, hn])
  have HCUT := Lib.hid (rdB_cut (k := i + m) (cap := c) hR (by rw [hn]; exact hc))
  have HE : Hid ([l.take i, now, l.drop (i + m)].flatten = swp l i m now) := Lib.hid (by unfold Sq.swp; simp)
  clear hn hk hR hR'
  have hw : IntKind.i64.wrap ((i : Int) + (m : Int)) = ((i + m : Nat) : Int) := by rw [IntWalk.i64_in _ (by omega)]; omega
  have q0 : (0 : Int) ≤ (i : Int) := by omega
  have q1 : (i : Int) ≤ (c : Int) := by omega
  have q2 : i ≤ c := by omega
  have q4 : ((i + m : Nat) : Int) ≤ (n : Int) := by omega
  have q5 : i + m ≤ c := by omega
  obtain ⟨p, hp⟩ : ∃ p, i + m = p := ⟨_, rfl⟩
  have HP := Lib.hid hp
  rw [hp] at hi hw q4 q5 HL3 HCUT
  clear hp
  have hpi : (p : Int) ≤ (n : Int) := by omega
  have hp0 : (0 : Int) ≤ (p : Int) := by omega
  go_enter Tryz.func34, Tryz.ntmps34
  have HTT := Lib.hid (show (swp l i m now).length ≤ 100000 by
    unfold Sq.swp
    rw [List.length_append, List.length_append, List.length_take, List.length_drop, HK.out, HN.out]
    omega)
  have HPP : Hid (l.drop (i + m) = l.drop p) := Lib.hid (by rw [HP.out])
  have HDR := Lib.hid (show Below w.heap.size w w.drew from below_drewN (Below.refl _ _) 1)
  go_upto_region 1 with fail
  rcases Classical.em (c = p) with hck | hck
  · have hcut := HCUT.out
    rw [if_pos hck] at hcut
    have HCU := Lib.hid hcut
    clear hcut HCUT
    obtain rfl : p = c := hck.symm
    obtain rfl : n = p := by have := HC.out; omega
    go_still_tail 9, (by kernel_rfl)
    change wpList _ _ _ _ _ w.drew
    go_wp2_with fail
    have b3 := Blk.new w 46 #[.slice A i n, .slice B k d, .slice A 0 0]
    have hba : Below w.heap.size w (w.alloc (.cells #[.slice A i n, .slice B k d, .slice A 0 0] 46)).drew := below_drewN ((Below.refl _ _).alloc (Nat.le_refl _) _) 1
    have hr : ∀ {C : Option Addr} {u : List Bi}, RdB w (· < w.heap.size) C u → RdB (w.alloc (.cells #[.slice A i n, .slice B k d, .slice A 0 0] 46)).drew (· < (w.alloc (.cells #[.slice A i n, .slice B k d, .slice A 0 0] 46)).drew.heap.size) C u := fun h => (h.to (fun b _ hl => hba.block b hl)).mono fun b h => Nat.lt_of_lt_of_le h hba.size
    have hrow : RowB (w.alloc (.cells #[.slice A i n, .slice B k d, .slice A 0 0] 46)).drew ⟨w.heap.size, 0, none⟩ [l.take i, now, l.drop n] := row3 b3 HL1.out HK.out (by rw [HL3.out]; omega) (by omega) HD.out (Nat.le_refl _) (hr (HR.out.take i)) (hr HR'.out) (hr HCU.out)
    refine (ConcatB ⟨w.heap.size, 0, none⟩ 3 3 [l.take i, now, l.drop n] _ rfl (by decide) (by exact b3.lt) hrow (by rw [← HPP.out, HE.out]; exact HTT.out)).mono ?_
    rintro e w2 ⟨A9, n9, c9, rfl, q1, q2, q3, q4⟩
    have HF : Hid (BisEnd w (swp l i m now) (.returned (.slice A9 n9 c9)) w2) := Lib.hid (by
      rw [← HPP.out, HE.out] at q1 q3
      exact ⟨A9, n9, c9, rfl, q1, q2, q3.mono fun b hb => ⟨Nat.le_trans hba.size hb.1, hb.2⟩, below_mv hba q4⟩)
    clear b3 hba hr hrow q1 q2 q3 q4
    go_wp2
    go_ret
    exact HF.out
  · have hcut := HCUT.out
    rw [if_neg hck] at hcut
    have HCU := Lib.hid hcut
    clear hcut HCUT
    go_still_tail 9, (by kernel_rfl)
    change wpList _ _ _ _ _ w.drew
    go_wp2_with fail
    have b3 := Blk.new w 46 #[.slice A i c, .slice B k d, .slice (Option.map (fun x => x.add (p * 4)) A) (n - p) (c - p)]
    have hba : Below w.heap.size w (w.alloc (.cells #[.slice A i c, .slice B k d, .slice (Option.map (fun x => x.add (p * 4)) A) (n - p) (c - p)] 46)).drew := below_drewN ((Below.refl _ _).alloc (Nat.le_refl _) _) 1
    have hr : ∀ {C : Option Addr} {u : List Bi}, RdB w (· < w.heap.size) C u → RdB (w.alloc (.cells #[.slice A i c, .slice B k d, .slice (Option.map (fun x => x.add (p * 4)) A) (n - p) (c - p)] 46)).drew (· < (w.alloc (.cells #[.slice A i c, .slice B k d, .slice (Option.map (fun x => x.add (p * 4)) A) (n - p) (c - p)] 46)).drew.heap.size) C u := fun h => (h.to (fun b _ hl => hba.block b hl)).mono fun b h => Nat.lt_of_lt_of_le h hba.size
    have hrow : RowB (w.alloc (.cells #[.slice A i c, .slice B k d, .slice (Option.map (fun x => x.add (p * 4)) A) (n - p) (c - p)] 46)).drew ⟨w.heap.size, 0, none⟩ [l.take i, now, l.drop p] := row3 b3 HL1.out HK.out HL3.out (by omega) HD.out (by have := HC.out; omega) (hr (HR.out.take i)) (hr HR'.out) (hr HCU.out)
    refine (ConcatB ⟨w.heap.size, 0, none⟩ 3 3 [l.take i, now, l.drop p] _ rfl (by decide) (by exact b3.lt) hrow (by rw [← HPP.out, HE.out]; exact HTT.out)).mono ?_
    rintro e w2 ⟨A9, n9, c9, rfl, q1, q2, q3, q4⟩
    have HF : Hid (BisEnd w (swp l i m now) (.returned (.slice A9 n9 c9)) w2) := Lib.hid (by
      rw [← HPP.out, HE.out] at q1 q3
      exact ⟨A9, n9, c9, rfl, q1, q2, q3.mono fun b hb => ⟨Nat.le_trans hba.size hb.1, hb.2⟩, below_mv hba q4⟩)
    clear b3 hba hr hrow q1 q2 q3 q4
    go_wp2
    go_ret
    exact HF.out

end Bm
end Go.Proofs.YtfnhjflocfmcoaaGreat

set_option maxRecDepth 100000
namespace Go.Proofs.YtfnhjflocfmcoaaGreat
open Go.RowKit
set_option linter.unusedVariables false
set_option linter.unusedSimpArgs false
namespace Bm
open Tx Df Sq Hk Tr Pr Fl Pn Tg

/-- How change ends: the map of block b is turned, and nothing else. -/
def ChEnd (w : World) (b n : Nat) (F : List UInt8 → List Bi) (e : Ending) (w' : World) : Prop := e = .returned (.tuple #[]) ∧ BirM w' b n F ∧ w.grownBy w' (some b)
theorem gr_below2 {w w1 w2 : World} {b : Nat} (h : Below w.heap.size w w1) (hg : w1.grownBy w2 (some b)) : w.grownBy w2 (some b) := gr_two (gr_below h (some b)) hg
theorem rdB_gr {w w' : World} {b : Nat} {A : Option Addr} {l : List Bi} (h : RdB w (fun g => g ≠ b ∧ g < w.heap.size) A l) (hg : w.grownBy w' (some b)) : RdB w' (fun g => g ≠ b ∧ g < w'.heap.size) A l :=
  (h.to fun g hb hl => hg.block g hl (fun e => hb.1 (by injection e))).mono fun g hb => ⟨hb.1, Nat.lt_of_lt_of_le hb.2 hg.size⟩
theorem rdB_mvb {w w' : World} {b : Nat} {A : Option Addr} {l : List Bi} (h : RdB w (fun g => g ≠ b ∧ g < w.heap.size) A l) (hb : Below w.heap.size w w') : RdB w' (fun g => g ≠ b ∧ g < w'.heap.size) A l := rdB_gr h (gr_below hb (some b))

/-- Where a change of lines can be done its Old lie within the births. -/
theorem bir_line {t u : TR} {o : OR} {p : Ch} (hL : Like t o) (hd : doP t p = (0, u)) (hk : p.k = 3 ∨ p.k = 4) : 0 ≤ p.h.pos ∧ p.h.pos.toNat + p.h.old.length ≤ (bir o p.nm).length ∧ (p.k = 4 → p.h.pos = 0 ∧ p.h.old.length = (bir o p.nm).length) := by
  obtain ⟨hm, hc⟩ := doP_cases hd
  rcases hc with ⟨h0, _⟩ | ⟨h1, _⟩ | ⟨h2, _⟩ | ⟨_, l, hg, he, _⟩
  · omega
  · omega
  · omega
  · obtain ⟨m, hmo, hml⟩ := like_some hL hg
    obtain ⟨i0, i1, _⟩ := line_in hm hk he
    have e : bir o p.nm = m := by unfold bir; rw [hmo]; rfl
    rw [e, hml]
    refine ⟨i0, i1, fun h4 => ?_⟩
    obtain ⟨_, _, _, h5⟩ := may_h hm hk
    refine ⟨h5 h4, ?_⟩
    unfold lineE at he
    rw [if_neg (by omega)] at he
    by_cases e : l = p.h.old
    · rw [e]
    · rw [if_neg e] at he; exact absurd he (by decide)

set_option maxRecDepth 100000 in
set_option maxHeartbeats 8000000 in
theorem ChangeB (b n : Nat) (t u : TR) (o : OR) (a : Tag) (Ap : Option Addr) (np cp : Nat) (Bp : Option Addr) (mp dp : Nat) (p : Ch) (An : Option Addr) (nn cn : Nat) (w : World) (hL : Like t o) (hd : doP t p = (0, u)) (hM : BirM w b n (bir o)) (hn : n ≤ 100000) (hlen : p.k ≠ 0 → p.k ≠ 1 → (bir o p.nm).length ≤ 50000)
    (hv : PV w w.heap.size Ap np cp Bp mp dp p) (hnn : mp = nn) (hcn : nn ≤ cn) (hmp : nn ≤ 1000) (hR : RdB w (fun g => g ≠ b ∧ g < w.heap.size) An (births a nn)) :
    Calls Tryz.prog 18 #[.map (some b), prV p.k p.nm p.to p.h.pos Ap np cp Bp mp dp, .slice An nn cn] w (ChEnd w b (n + 2) (bir (oneB o a p))) := by
  have hbm : Below w.heap.size w (w.alloc (.cells #[.int .i64 p.k, strV p.nm, strV p.to, .int .i64 p.h.pos, .slice Ap np cp, .slice Bp mp dp] 55)) := (Below.refl _ _).alloc (Nat.le_refl _) _
  have b0 := Blk.new w 55 #[.int .i64 p.k, strV p.nm, strV p.to, .int .i64 p.h.pos, .slice Ap np cp, .slice Bp mp dp]
  have hM1 := hM.below hbm
  have hR1 := rdB_mvb hR hbm
  have hbz := hM.lt
  have HL := Lib.hid hL; have HD := Lib.hid hd; have HNM := Lib.hid hv.nm; have HTO := Lib.hid hv.to; have HLEN := Lib.hid hlen
  have HNP : Hid (p.h.old.length = np ∧ p.h.new.length = mp) := Lib.hid ⟨hv.h.l, hv.h.l'⟩
  have hnx : n < maxLen := by unfold maxLen; omega
  have hnx2 : n + 1 < maxLen := by unfold maxLen; omega
  have HNX := Lib.hid hnx; have HNX2 := Lib.hid hnx2
  have HNN := Lib.hid hnn; have HCN := Lib.hid hcn; have HMP := Lib.hid hmp
  clear hL hd hv hlen hM hR hnx hnx2 hnn hcn hmp
  go_enter Tryz.func18, Tryz.ntmps18
  go_upto_region 1 with fail
  generalize (w.alloc (.cells #[.int .i64 p.k, strV p.nm, strV p.to, .int .i64 p.h.pos, .slice Ap np cp, .slice Bp mp dp] 55)) = w1 at b0 hbm hM1 hR1 ⊢
  obtain ⟨z, hz⟩ : ∃ z, w.heap.size = z := ⟨_, rfl⟩
  have hbz2 : b < z := by rw [← hz]; exact hbz
  rw [hz] at b0 ⊢
  have HB0 := Lib.hid b0; have HBM := Lib.hid hbm; have HM1 := Lib.hid hM1; have HR1 := Lib.hid hR1
  have HZB : Hid (some z ≠ some b) := Lib.hid (fun e => by injection e; omega)
  clear hz b0 hbm hM1 hR1 hbz hbz2
  have x0 := HB0.out.cell 0 rfl; have x1 := HB0.out.cell 1 rfl; have x2 := HB0.out.cell 2 rfl; have x3 := HB0.out.cell 3 rfl; have x4 := HB0.out.cell 4 rfl
  have xl := HB0.out.lt
  obtain ⟨hmay, hc⟩ := doP_cases HD.out
  have hk : (p.k = 0 ∨ p.k = 1) ∨ p.k = 2 ∨ p.k = 3 ∨ p.k = 4 := by
    rcases hc with ⟨h, _⟩ | ⟨h, _⟩ | ⟨h, _⟩ | ⟨h, _⟩
    · exact .inl (.inl h)
    · exact .inl (.inr h)
    · exact .inr (.inl h)
    · exact .inr (.inr h)
  clear hmay hc
  rcases hk with h | h | h | h
  · have HE := Lib.hid (bir_01 (a := a) HL.out HD.out h)
    rcases h with h | h
    all_goals
      rw [h] at x0
      go_wp2
      go_end0
      exact ⟨rfl, by rw [HE.out]; exact HM1.out.mono (by omega), gr_below HBM.out (some b)⟩
  · obtain ⟨hne, he⟩ := bir_2 (a := a) HL.out HD.out h
    have HE := Lib.hid he
    have HNE := Lib.hid hne
    clear he hne
    rw [h] at x0
    go_wp2_with (first
      | (at_lookup; refine wpList_look_bir rfl (.tmp 13) (.tmp 15) rfl b n (bir o) p.nm rfl rfl HM1.out HNM.out ?_; intro A1 c1 hc1 hr1; have HC1 := Lib.hid hc1; have HRA := Lib.hid hr1; clear hc1 hr1)
      | (at_mapUpdate; refine wpList_put_bir rfl (.tmp 10) (.tmp 12) (.tmp 16) rfl b n (bir o p.nm).length c1 (bir o) p.to A1 (bir o p.nm) rfl rfl rfl HM1.out HTO.out HNX.out rfl HC1.out HRA.out ?_; intro W2 hm2 hg2; have HM2 := Lib.hid hm2; have HG2 := Lib.hid hg2; have B2 := HB0.out.gr hg2 HZB.out; have y1 := B2.cell 1 rfl; have yl := B2.lt; clear hm2 hg2 B2)
      | (at_delete; refine wpList_del_bir rfl (.tmp 17) (.tmp 19) rfl b (n + 1) _ p.nm rfl rfl HM2.out HNM.out ?_; intro W3 hm3 hg3; have HM3 := Lib.hid hm3; have HG3 := Lib.hid (gr_two (gr_below2 HBM.out HG2.out) hg3); clear hm3 hg3))
    go_end0
    exact ⟨rfl, by rw [HE.out]; exact HM3.out.mono (by omega), HG3.out⟩
  · obtain ⟨hp0, hpl, hp4⟩ := bir_line HL.out HD.out (.inl h)
    have HE := Lib.hid (bir_34 (a := a) HL.out.uo (.inl h))
    obtain ⟨P, hP⟩ : ∃ P : Nat, p.h.pos = (P : Int) := ⟨p.h.pos.toNat, by omega⟩
    obtain ⟨m, hm⟩ : ∃ m, (bir o p.nm).length = m := ⟨_, rfl⟩
    have HKB := Lib.hid (show Below w1.heap.size w1 w1.drew from below_drewN (Below.refl _ _) 1)
    have HMD := Lib.hid (HM1.out.below HKB.out)
    obtain ⟨A1, c1, hlk, hc1, hr1⟩ := HMD.out.look HNM.out
    rw [(HNP.out).1, hP, Int.toNat_natCast] at hpl
    rw [hm] at hpl hlk hc1
    rw [hP] at x3
    have HBE : Hid (swp (bir o p.nm) P np (births a nn) = born a p (bir o p.nm)) := Lib.hid (by
      unfold born
      rw [(HNP.out).1, (HNP.out).2, HNN.out, hP, Int.toNat_natCast])
    have HPS := Lib.hid (SwapB A1 m c1 P np An nn cn (bir o p.nm) (births a nn) w1.drew hm hc1 (births_len a nn) HCN.out (by omega) (by have := HLEN.out (by rw [h]; decide) (by rw [h]; decide); have := HMP.out; omega) (hr1.mono fun g hg => hg.2) ((rdB_mvb HR1.out HKB.out).mono fun g hg => hg.2))
    have HLK := Lib.hid hlk
    have HC : Hid (∀ X, Below w1.heap.size w1 X → Blk X z 55 #[.int .i64 p.k, strV p.nm, strV p.to, .int .i64 p.h.pos, .slice Ap np cp, .slice Bp mp dp]) := Lib.hid (fun X hb => HB0.out.below hb HB0.out.lt)
    have HPP := Lib.hid hP
    have HC2 : Hid (∀ X, Below w1.heap.size w1 X → X.cell? ⟨z, 1, none⟩ = some (strV p.nm) ∧ X.cell? ⟨z, 3, none⟩ = some (.int .i64 (P : Int)) ∧ X.cell? ⟨z, 4, none⟩ = some (.slice Ap np cp)) := Lib.hid (fun X hb => ⟨(HC.out X hb).cell 1 rfl, by rw [← HPP.out]; exact (HC.out X hb).cell 3 rfl, (HC.out X hb).cell 4 rfl⟩)
    have HKD := Lib.hid (show w1.drew.cell? ⟨z, 1, none⟩ = some (strV p.nm) ∧ w1.drew.cell? ⟨z, 3, none⟩ = some (.int .i64 (P : Int)) ∧ w1.drew.cell? ⟨z, 4, none⟩ = some (.slice Ap np cp) from ⟨x1, x3, x4⟩)
    have HPUT : Hid (∀ u1 A3 n3 c3, Below w1.heap.size w1 u1 → (swp (bir o p.nm) P np (births a nn)).length = n3 → n3 ≤ c3 → RdB u1 (Since w1.drew u1) A3 (swp (bir o p.nm) P np (births a nn)) → ∃ W2, (Instr.mapUpdate 62 (.map (some b)) (strV p.nm) (.slice A3 n3 c3)).run Tryz.prog u1 = .ok () W2 ∧ ChEnd w b (n + 2) (bir (oneB o a p)) (.returned (.tuple #[])) W2 ∧ (W2.cell? ⟨z, 1, none⟩ = some (strV p.nm) ∧ W2.cell? ⟨z, 3, none⟩ = some (.int .i64 (P : Int)) ∧ W2.cell? ⟨z, 4, none⟩ = some (.slice Ap np cp))) := Lib.hid (fun u1 A3 n3 c3 hb q1 q2 q3 => by
      obtain ⟨W2, h1, h2, h3⟩ := (HM1.out.below hb).put HNM.out HNX.out q1 q2 (q3.mono fun g hg => ⟨by have h5 := HM1.out.lt; have h6 : w1.heap.size ≤ g := hg.1; omega, hg.2⟩)
      have B2 := (HC.out u1 hb).gr h3 HZB.out
      refine ⟨W2, h1, ⟨rfl, ?_, gr_below2 (below_mv HBM.out hb) h3⟩, B2.cell 1 rfl, by rw [← HPP.out]; exact B2.cell 3 rfl, B2.cell 4 rfl⟩
      rw [HE.out, ← HBE.out]
      exact h2.mono (by omega))
    clear hlk hc1 hr1 hm hP hpl hp0 hp4
    rw [h] at x0
    go_upto_region 6 with fail
    clear x0 x1 x2 x3 x4
    have hlk := HLK.out
    go_region_held3 (fun X => X.cell? ⟨z, 1, none⟩ = some (strV p.nm) ∧ X.cell? ⟨z, 3, none⟩ = some (.int .i64 (P : Int)) ∧ X.cell? ⟨z, 4, none⟩ = some (.slice Ap np cp))
      (first | (with_reducible exact HKD.out) | (with_reducible exact hS1) | (with_reducible exact hS2))
      (first
        | (go_at_call 34; (with_reducible refine (HPS.out).mono ?_); rintro e u1 ⟨A3, n3, c3, rfl, q1, q2, q3, hb⟩; have hbu := below_mv HKB.out hb; have hS1 := HC2.out u1 hbu; obtain ⟨W2, hput, hend, hS2⟩ := HPUT.out u1 A3 n3 c3 hbu q1 q2 q3; have HEND := Lib.hid hend; clear hb hbu q1 q2 q3 hend hlk))
    all_goals go_end0
    all_goals exact HEND.out
  · obtain ⟨hp0, hpl, hp4⟩ := bir_line HL.out HD.out (.inr h)
    obtain ⟨hz0, hz1⟩ := hp4 h
    have HE := Lib.hid (bir_34 (a := a) HL.out.uo (.inr h))
    obtain ⟨m, hm⟩ : ∃ m, (bir o p.nm).length = m := ⟨_, rfl⟩
    have HKB := Lib.hid (show Below w1.heap.size w1 w1.drew from below_drewN (Below.refl _ _) 1)
    have HMD := Lib.hid (HM1.out.below HKB.out)
    obtain ⟨A1, c1, hlk, hc1, hr1⟩ := HMD.out.look HNM.out
    rw [hm] at hpl hlk hc1 hz1
    have HBE : Hid (swp (bir o p.nm) 0 m (births a nn) = born a p (bir o p.nm)) := Lib.hid (by
      unfold born
      rw [hz0, hz1, (HNP.out).2, HNN.out]
      rfl)
    have HPS : Hid (Calls Tryz.prog 34 #[.slice A1 m c1, .int .i64 0, .int .i64 (m : Int), .slice An nn cn] w1.drew (BisEnd w1.drew (swp (bir o p.nm) 0 m (births a nn)))) := Lib.hid (SwapB A1 m c1 0 m An nn cn (bir o p.nm) (births a nn) w1.drew hm hc1 (births_len a nn) HCN.out (by omega) (by have := HLEN.out (by rw [h]; decide) (by rw [h]; decide); have := HMP.out; omega) (hr1.mono fun g hg => hg.2) ((rdB_mvb HR1.out HKB.out).mono fun g hg => hg.2))
    have HLK := Lib.hid hlk
    have HC : Hid (∀ X, Below w1.heap.size w1 X → Blk X z 55 #[.int .i64 p.k, strV p.nm, strV p.to, .int .i64 p.h.pos, .slice Ap np cp, .slice Bp mp dp]) := Lib.hid (fun X hb => HB0.out.below hb HB0.out.lt)
    have HC2 : Hid (∀ X, Below w1.heap.size w1 X → X.cell? ⟨z, 1, none⟩ = some (strV p.nm)) := Lib.hid (fun X hb => (HC.out X hb).cell 1 rfl)
    have HKD := Lib.hid (show w1.drew.cell? ⟨z, 1, none⟩ = some (strV p.nm) from x1)
    have HPUT : Hid (∀ u1 A3 n3 c3, Below w1.heap.size w1 u1 → (swp (bir o p.nm) 0 m (births a nn)).length = n3 → n3 ≤ c3 → RdB u1 (Since w1.drew u1) A3 (swp (bir o p.nm) 0 m (births a nn)) → ∃ W2, (Instr.mapUpdate 62 (.map (some b)) (strV p.nm) (.slice A3 n3 c3)).run Tryz.prog u1 = .ok () W2 ∧ ChEnd w b (n + 2) (bir (oneB o a p)) (.returned (.tuple #[])) W2 ∧ W2.cell? ⟨z, 1, none⟩ = some (strV p.nm)) := Lib.hid (fun u1 A3 n3 c3 hb q1 q2 q3 => by
      obtain ⟨W2, h1, h2, h3⟩ := (HM1.out.below hb).put HNM.out HNX.out q1 q2 (q3.mono fun g hg => ⟨by have h5 := HM1.out.lt; have h6 : w1.heap.size ≤ g := hg.1; omega, hg.2⟩)
      have B2 := (HC.out u1 hb).gr h3 HZB.out
      refine ⟨W2, h1, ⟨rfl, ?_, gr_below2 (below_mv HBM.out hb) h3⟩, B2.cell 1 rfl⟩
      rw [HE.out, ← HBE.out]
      exact h2.mono (by omega))
    clear hlk hc1 hr1 hm hpl hp0 hp4 hz0 hz1
    rw [h] at x0
    go_upto_region 8 with fail
    clear x0 x1 x2 x3 x4
    have hlk := HLK.out
    go_region_held3 (fun X => X.cell? ⟨z, 1, none⟩ = some (strV p.nm))
      (first | (with_reducible exact HKD.out) | (with_reducible exact hS1) | (with_reducible exact hS2))
      (first
        | (go_at_call 34; (with_reducible refine (HPS.out).mono ?_); rintro e u1 ⟨A3, n3, c3, rfl, q1, q2, q3, hb⟩; have hbu := below_mv HKB.out hb; have hS1 := HC2.out u1 hbu; obtain ⟨W2, hput, hend, hS2⟩ := HPUT.out u1 A3 n3 c3 hbu q1 q2 q3; have HEND := Lib.hid hend; clear hb hbu q1 q2 q3 hend hlk))
    all_goals go_end0
    all_goals exact HEND.out

end Bm
end Go.Proofs.YtfnhjflocfmcoaaGreat

set_option maxRecDepth 100000
namespace Go.Proofs.YtfnhjflocfmcoaaGreat
open Go.RowKit
set_option linter.unusedVariables false
set_option linter.unusedSimpArgs false
namespace Pn
open Tx Df Sq Hk Tr Pr Fl

set_option maxHeartbeats 1000000 in
theorem ApplyN (K L : Nat) (A0 : Option Addr) (n0 c0 : Nat) (A : Option Addr) (n c : Nat) (t : TR) (l : List Nm) (w : World) (R : Int × TR) (ht : Most t K L) (hK : K ≤ 2000) (hL : L ≤ 2000) (hn0 : t.length = n0) (hn : l.length = n) (hle : n ≤ 1000) (hT : (allN l).length ≤ 200) (hl : Lt (allN l)) (hR0 : RdT w w.heap.size A0 t) (hR : RdN w w.heap.size A l) (hD : doN t l = R) :
    Calls Tryz.prog 15 #[.slice A0 n0 c0, .slice A n c] w (DoEnd w R) := by
  have HR := Lib.hid hR; have HN := Lib.hid hn; have HL := Lib.hid hl; have HT := Lib.hid hT; have HM := Lib.hid ht; have HR0 := Lib.hid hR0; have HN0 := Lib.hid hn0; have HD := Lib.hid hD
  clear hR hn hl hT ht hR0 hn0 hD
  go_enter Tryz.func15, Tryz.ntmps15
  go_wp2_with fail
  refine (AllN A n c l w HN.out (by omega) (by have := HT.out; omega) HL.out HR.out).mono ?_
  rintro e w1 ⟨A1, c1, rfl, hc1, hr1, hb1⟩
  obtain ⟨m, hm⟩ : ∃ m, (allN l).length = m := ⟨_, rfl⟩
  rw [hm] at hc1 ⊢
  have HR1 := Lib.hid (hr1.mono fun b (hb : w.heap.size ≤ b ∧ b < w1.heap.size) => hb.2); have HB1 := Lib.hid hb1; have HMM := Lib.hid hm
  clear hc1 hr1 hb1 hm
  go_wp2_with fail
  refine (ApplyL K L A0 n0 c0 A1 m c1 t (allN l) w1 R HM.out (by have := HT.out; have := HMM.out; omega) (by have := HT.out; have := HMM.out; omega) HN0.out HMM.out HL.out (HR0.out.mv HB1.out) HR1.out HD.out).mono ?_
  rintro e w2 ⟨B, k, d, rfl, h1, h2, h3, h4⟩
  have H1 := Lib.hid h1; have H2 := Lib.hid h2; have H3 := Lib.hid h3; have HB := Lib.hid (below_mv HB1.out h4)
  clear h1 h2 h3 h4
  go_wp2
  go_ret2
  exact ⟨B, k, d, rfl, H1.out, H2.out, H3.out, HB.out⟩

end Pn
end Go.Proofs.YtfnhjflocfmcoaaGreat

namespace Go.Proofs
open Go.Shelf
def Tryz.keysL_ren : Go.Shelf.Ren := ⟨fun | 7 => 36 | 10 => 52 | n => n, fun | 23 => 82 | 26 => 9 | 3 => 84 | 28 => 87 | 0 => 0 | 27 => 86 | 33 => 101 | 4 => 4 | n => n, fun | n => n⟩
theorem Tryz.keysL : Go.Proofs.SlLaysZ.n7 Tryz.prog Tryz.keysL_ren := {
  mixed := by kernel_rfl
  f7 := ⟨Tryz.f36.name, by decide, Tryz.func36.trans (congrArg some (by kernel_rfl))⟩
  f10 := ⟨Tryz.f52.name, by decide, Tryz.func52.trans (congrArg some (by kernel_rfl))⟩
  t0 := Tryz.underlying0
  a0 := Tryz.isAgg0
  z0 := Tryz.sizeOf0
  v0 := Tryz.zeroValue0
  t4 := Tryz.underlying4
  a4 := Tryz.isAgg4
  z4 := Tryz.sizeOf4
  v4 := Tryz.zeroValue4
  t23 := Tryz.underlying82
  a23 := Tryz.isAgg82
  z23 := Tryz.sizeOf82
  v23 := Tryz.zeroValue82
  t26 := Tryz.underlying9
  a26 := Tryz.isAgg9
  z26 := Tryz.sizeOf9
  v26 := Tryz.zeroValue9
  t27 := Tryz.underlying86
  a27 := Tryz.isAgg86
  z27 := Tryz.sizeOf86
  v27 := Tryz.zeroValue86
  t28 := Tryz.underlying87
  a28 := Tryz.isAgg87
  z28 := Tryz.sizeOf87
  v28 := Tryz.zeroValue87
  t33 := Tryz.underlying101
  a33 := Tryz.isAgg101
  z33 := Tryz.sizeOf101
  v33 := Tryz.zeroValue101 }
def Tryz.sortedL_ren : Go.Shelf.Ren := ⟨fun | 6 => 35 | 8 => 50 | 9 => 51 | 11 => 61 | 13 => 63 | 12 => 62 | 23 => 91 | 24 => 92 | 14 => 82 | 15 => 83 | 16 => 84 | 17 => 85 | 18 => 86 | 19 => 87 | 20 => 88 | 21 => 89 | 22 => 90 | 25 => 112 | 26 => 113 | 27 => 114 | 28 => 115 | 29 => 116 | 30 => 117 | 31 => 134 | n => n, fun | 26 => 9 | 28 => 87 | 24 => 49 | 0 => 0 | 3 => 3 | 37 => 117 | 48 => 145 | 50 => 147 | 4 => 4 | 40 => 137 | 39 => 136 | 45 => 142 | 5 => 5 | 9 => 9 | 51 => 157 | 55 => 161 | 57 => 171 | 58 => 172 | 33 => 101 | n => n, fun | n => n⟩
theorem Tryz.sortedL : Go.Proofs.SlLaysZ.n6 Tryz.prog Tryz.sortedL_ren := {
  mixed := by kernel_rfl
  f6 := ⟨Tryz.f35.name, by decide, Tryz.func35.trans (congrArg some (by kernel_rfl))⟩
  f8 := ⟨Tryz.f50.name, by decide, Tryz.func50.trans (congrArg some (by kernel_rfl))⟩
  f11 := ⟨Tryz.f61.name, by decide, Tryz.func61.trans (congrArg some (by kernel_rfl))⟩
  t0 := Tryz.underlying0
  a0 := Tryz.isAgg0
  z0 := Tryz.sizeOf0
  v0 := Tryz.zeroValue0
  t24 := Tryz.underlying49
  a24 := Tryz.isAgg49
  z24 := Tryz.sizeOf49
  v24 := Tryz.zeroValue49
  t26 := Tryz.underlying9
  a26 := Tryz.isAgg9
  z26 := Tryz.sizeOf9
  v26 := Tryz.zeroValue9
  t28 := Tryz.underlying87
  a28 := Tryz.isAgg87
  z28 := Tryz.sizeOf87
  v28 := Tryz.zeroValue87
  i26 := by kernel_rfl }
def Tryz.sortL_ren : Go.Shelf.Ren := ⟨fun | 6 => 51 | 8 => 63 | 9 => 62 | 19 => 91 | 20 => 92 | 21 => 82 | 22 => 83 | 23 => 84 | 24 => 85 | 25 => 86 | 26 => 87 | 27 => 88 | 28 => 89 | 29 => 90 | 36 => 112 | 31 => 113 | 32 => 114 | 37 => 115 | 38 => 116 | 39 => 117 | 41 => 134 | n => n, fun | 27 => 49 | 29 => 9 | 3 => 3 | 32 => 117 | 26 => 49 | 0 => 0 | 44 => 145 | 46 => 147 | 4 => 4 | 36 => 137 | 35 => 136 | 41 => 142 | 5 => 5 | 9 => 9 | 53 => 157 | 57 => 161 | 63 => 171 | 64 => 172 | n => n, fun | n => n⟩
theorem Tryz.sortL : Go.Proofs.SlLaysM.n6 Tryz.prog Tryz.sortL_ren := {
  mixed := by kernel_rfl
  f6 := ⟨Tryz.f51.name, by decide, Tryz.func51.trans (congrArg some (by kernel_rfl))⟩
  f8 := Tryz.func63.trans (congrArg some (by kernel_rfl))
  f9 := ⟨Tryz.f62.name, by decide, Tryz.func62.trans (congrArg some (by kernel_rfl))⟩
  f19 := Tryz.func91.trans (congrArg some (by kernel_rfl))
  f20 := Tryz.func92.trans (congrArg some (by kernel_rfl))
  f21 := ⟨Tryz.f82.name, by decide, Tryz.func82.trans (congrArg some (by kernel_rfl))⟩
  f22 := ⟨Tryz.f83.name, by decide, Tryz.func83.trans (congrArg some (by kernel_rfl))⟩
  f23 := ⟨Tryz.f84.name, by decide, Tryz.func84.trans (congrArg some (by kernel_rfl))⟩
  f24 := ⟨Tryz.f85.name, by decide, Tryz.func85.trans (congrArg some (by kernel_rfl))⟩
  f25 := ⟨Tryz.f86.name, by decide, Tryz.func86.trans (congrArg some (by kernel_rfl))⟩
  f26 := ⟨Tryz.f87.name, by decide, Tryz.func87.trans (congrArg some (by kernel_rfl))⟩
  f27 := ⟨Tryz.f88.name, by decide, Tryz.func88.trans (congrArg some (by kernel_rfl))⟩
  f28 := ⟨Tryz.f89.name, by decide, Tryz.func89.trans (congrArg some (by kernel_rfl))⟩
  f29 := ⟨Tryz.f90.name, by decide, Tryz.func90.trans (congrArg some (by kernel_rfl))⟩
  f31 := Tryz.func113.trans (congrArg some (by kernel_rfl))
  f32 := Tryz.func114.trans (congrArg some (by kernel_rfl))
  f36 := ⟨Tryz.f112.name, by decide, Tryz.func112.trans (congrArg some (by kernel_rfl))⟩
  f37 := ⟨Tryz.f115.name, by decide, Tryz.func115.trans (congrArg some (by kernel_rfl))⟩
  f38 := ⟨Tryz.f116.name, by decide, Tryz.func116.trans (congrArg some (by kernel_rfl))⟩
  f39 := ⟨Tryz.f117.name, by decide, Tryz.func117.trans (congrArg some (by kernel_rfl))⟩
  f41 := ⟨Tryz.f134.name, by decide, Tryz.func134.trans (congrArg some (by kernel_rfl))⟩
  t0 := Tryz.underlying0
  a0 := Tryz.isAgg0
  z0 := Tryz.sizeOf0
  v0 := Tryz.zeroValue0
  t3 := Tryz.underlying3
  a3 := Tryz.isAgg3
  z3 := Tryz.sizeOf3
  v3 := Tryz.zeroValue3
  t4 := Tryz.underlying4
  a4 := Tryz.isAgg4
  z4 := Tryz.sizeOf4
  v4 := Tryz.zeroValue4
  t5 := Tryz.underlying5
  a5 := Tryz.isAgg5
  z5 := Tryz.sizeOf5
  v5 := Tryz.zeroValue5
  t9 := Tryz.underlying9
  a9 := Tryz.isAgg9
  z9 := Tryz.sizeOf9
  v9 := Tryz.zeroValue9
  t26 := Tryz.underlying49
  a26 := Tryz.isAgg49
  z26 := Tryz.sizeOf49
  v26 := Tryz.zeroValue49
  t27 := Tryz.underlying49
  a27 := Tryz.isAgg49
  z27 := Tryz.sizeOf49
  v27 := Tryz.zeroValue49
  t29 := Tryz.underlying9
  a29 := Tryz.isAgg9
  z29 := Tryz.sizeOf9
  v29 := Tryz.zeroValue9
  t32 := Tryz.underlying117
  a32 := Tryz.isAgg117
  z32 := Tryz.sizeOf117
  v32 := Tryz.zeroValue117
  t35 := Tryz.underlying136
  a35 := Tryz.isAgg136
  z35 := Tryz.sizeOf136
  v35 := Tryz.zeroValue136
  t36 := Tryz.underlying137
  a36 := Tryz.isAgg137
  z36 := Tryz.sizeOf137
  v36 := Tryz.zeroValue137
  t41 := Tryz.underlying142
  a41 := Tryz.isAgg142
  z41 := Tryz.sizeOf142
  v41 := Tryz.zeroValue142
  t44 := Tryz.underlying145
  a44 := Tryz.isAgg145
  z44 := Tryz.sizeOf145
  v44 := Tryz.zeroValue145
  t46 := Tryz.underlying147
  a46 := Tryz.isAgg147
  z46 := Tryz.sizeOf147
  v46 := Tryz.zeroValue147
  t53 := Tryz.underlying157
  a53 := Tryz.isAgg157
  z53 := Tryz.sizeOf157
  v53 := Tryz.zeroValue157
  t57 := Tryz.underlying161
  a57 := Tryz.isAgg161
  z57 := Tryz.sizeOf161
  v57 := Tryz.zeroValue161
  t63 := Tryz.underlying171
  a63 := Tryz.isAgg171
  z63 := Tryz.sizeOf171
  v63 := Tryz.zeroValue171
  t64 := Tryz.underlying172
  a64 := Tryz.isAgg172
  z64 := Tryz.sizeOf172
  v64 := Tryz.zeroValue172 }
end Go.Proofs

set_option maxRecDepth 100000
namespace Go.Proofs.YtfnhjflocfmcoaaGreat
open Go.RowKit Go.Maps Go.Sort Go.Shelf
set_option linter.unusedVariables false
namespace Tr
open Tx

theorem sorts (m : Nat) : AnyZ.SortsIn Tryz.prog Tryz.sortedL_ren Fence.wide m :=
  ⟨fun blk off cap ss W hH hblk hsz => callsIn_wide.2 (AnyM.slices_Sort_string Tryz.sortL blk off cap ss W hH hblk hsz),
   fun p cap W => callsIn_wide.2 (AnyM.slices_Sort_string_none Tryz.sortL p cap W)⟩

theorem keysC (mb : Option Nat) (W : World) : CallsIn Fence.wide 5 Tryz.prog 36 #[.map mb] W fun e w' => e = .returned (.func (.func 52) #[] #[.pointer (some ⟨W.heap.size, 0, none⟩)]) ∧ w' = W.alloc (.cells #[.map mb] 82) :=
  AnyZ.keys_in Tryz.keysL Fence.wide 5 trivial rfl mb W

set_option maxHeartbeats 1000000 in
theorem sortedC {H : Type} (b nn : Nat) (D0 : DataW H) (R : Value → Option (DataW H × List MemPlace)) (w : World) (hown : w.ownsMap Tryz.prog 9 R b nn D0) (hmax : Maps.size D0 ≤ maxLen) (hbytes : Maps.size D0 * 16 ≤ 140737488355328) :
    CallsIn Fence.wide 5 Tryz.prog 35 #[.func (.func 52) #[] #[.pointer (some ⟨w.heap.size, 0, none⟩)]] (w.alloc (.cells #[.map (some b)] 82)) fun e w' => ∃ (v : Value) (ss : List (List UInt8)), e = .returned v ∧ ss.Perm (strKeys D0) ∧
      w'.ownsRow (w.alloc (.cells #[.map (some b)] 82)).heap.size 9 1 v ss.length ((ss.mergeSort (fun x y => decide (x ≤ y))).map encStr) ∧ (v = .slice none 0 0 ↔ ss = []) ∧ Below (w.alloc (.cells #[.map (some b)] 82)).heap.size (w.alloc (.cells #[.map (some b)] 82)) w' := by
  have hbl := hown.lt
  have hseq : SeqGives Fence.wide 2 Tryz.prog 52 #[.pointer (some ⟨w.heap.size, 0, none⟩)] encStr (fun ss => ss.Perm (strKeys D0)) (Maps.size D0) (w.alloc (.cells #[.map (some b)] 82)) :=
    AnyZ.keys_gives (ρ := Tryz.keysL_ren) { Tryz.keysL with } Fence.wide _ trivial rfl (by omega) w.heap.size b nn D0 _ (by simp) (by simp) (by
      obtain ⟨es, clock, hb, Ft, hs, hD⟩ := hown
      exact ⟨es, clock, (Below.heap_alloc _ _ b hbl).trans hb, Ft, hs, hD⟩)
  exact AnyZ.sorted_in Tryz.sortedL Fence.wide 5 trivial trivial trivial trivial rfl (by omega) (sorts _) (enters_of Tryz.func51 (by kernel_rfl) rfl) 52 #[.pointer (some ⟨w.heap.size, 0, none⟩)] trivial (enters_of Tryz.func52 (by kernel_rfl) rfl) _ _ hmax hbytes _ hseq

end Tr
end Go.Proofs.YtfnhjflocfmcoaaGreat

set_option maxRecDepth 100000
namespace Go.Proofs.YtfnhjflocfmcoaaGreat
open Go.RowKit
set_option linter.unusedVariables false
namespace Tr
open Tx

/-- The set of these names, as a map reads. -/
def setN (l : List (List UInt8)) : DataW Unit := Maps.setOf (.agg []) (l.map Lit.string)
theorem setN_snoc (l : List (List UInt8)) (x : List UInt8) : (setN l).put (.string x) (.agg []) = setN (l ++ [x]) := by
  unfold setN
  rw [List.map_append, List.map_cons, List.map_nil, Maps.setOf_snoc]
theorem key_lits (l : List (List UInt8)) : ∀ x ∈ l.map Lit.string, WideAt.IsKeyLit x := by
  intro x hx
  obtain ⟨y, _, rfl⟩ := List.mem_map.1 hx
  trivial
theorem has_setN (l : List (List UInt8)) (x : List UInt8) : Maps.has (setN l) (.string x) = true ↔ x ∈ l := by
  unfold setN
  rw [Maps.has_setOf _ _ _ (key_lits l), List.any_eq_true]
  constructor
  · rintro ⟨y, hy, h⟩
    obtain ⟨z, hz, rfl⟩ := List.mem_map.1 hy
    have : z = x := by simpa [Lit.sameKey] using h
    exact this ▸ hz
  · intro hx
    exact ⟨.string x, List.mem_map.2 ⟨x, hx, rfl⟩, by simp [Lit.sameKey]⟩

theorem law_str : Maps.Keyed Tryz.prog 9 := Maps.string_keyed Tryz.underlying9

/-- The keys of the set, sorted, are the names. -/
theorem sorted_names {w : World} {b n : Nat} {R : Value → Option (DataW Unit × List MemPlace)} {l ss : List (List UInt8)} (hown : w.ownsMap Tryz.prog 9 R b n (setN l)) (hp : ss.Perm (strKeys (setN l))) :
    ss.mergeSort (fun x y => decide (x ≤ y)) = names Op.bytesLess l := by
  have hr := names_rise lin l
  have hnd : (names Op.bytesLess l).Nodup := hr.imp fun {a b} h => lin.ne h
  have hc : Collected (setN l) (fun _ => false) (names Op.bytesLess l) := ⟨hnd, fun x => by rw [names_mem, has_setN]; simp⟩
  have hp2 := hc.perm hown law_str Tryz.underlying9 (fun _ => rfl)
  have hpp := hp.trans hp2.symm
  rw [show (fun x y : List UInt8 => decide (x ≤ y)) = leB from rfl, mergeSort_of_perm hpp]
  refine List.mergeSort_of_pairwise (hr.imp fun {a b} h => ?_)
  rw [Go.Proofs.bytesLess_eq, decide_eq_true_eq] at h
  simp only [leB, decide_eq_true_eq]
  exact List.le_of_lt h

/-- How Names ends. -/
abbrev NamesEnd (w : World) (l : List (List UInt8)) (e : Ending) (w' : World) : Prop := LinesEnd w (names Op.bytesLess l) e w'

/-- The names gathered behind j trees. -/
def upto (a b : List (List UInt8)) : Nat → List (List UInt8)
  | 0 => []
  | 1 => a
  | _ => a ++ b

/-- What holds between the rounds. -/
structure NInv (w : World) (mb h : Nat) (cs : Array Value) (l : List (List UInt8)) (wr : World) : Prop where
  own : wr.ownsMap Tryz.prog 9 (unitElem (H := Unit)) mb l.length (setN l)
  blk : Blk wr h 43 cs
  fr : Below mb w wr

theorem NInv.next {w wr w1 : World} {mb h : Nat} {cs : Array Value} {l : List (List UInt8)} {x : List UInt8} {o : Obj} (I : NInv w mb h cs l wr) (hne : h ≠ mb)
    (hown : w1.ownsMap Tryz.prog 9 (unitElem (H := Unit)) mb (l.length + 1) ((setN l).put (.string x) (.agg []))) (hg : (wr.alloc o).grownBy w1 (some mb)) : NInv w mb h cs (l ++ [x]) w1 := by
  refine ⟨?_, (I.blk.alloc o).gr hg (fun e => hne (by injection e)), ?_⟩
  · rw [setN_snoc] at hown
    rw [List.length_append]
    exact hown
  · have hm : mb < wr.heap.size := I.own.lt
    exact (I.fr.alloc (Nat.le_of_lt hm) o).grown hg (by simp; omega) (fun k e => by injection e with e; omega)

/-- The tree of a round. -/
theorem tree_of {w wr : World} {mb h B : Nat} {A A' : Option Addr} {n c n' c' : Nat} {t u : TR} (hn : t.length = n) (hn' : u.length = n') (hs : Small t) (hs' : Small u) (hB : B ≤ mb) (hR : RdT w B A t) (hR' : RdT w B A' u) {j : Nat} (hj : j < 2)
    (I : NInv w mb h #[.slice A n c, .slice A' n' c'] (upto (t.map (·.1)) (u.map (·.1)) j) wr) :
    ∃ AT NT CT T, wr.cell? ⟨h, j, none⟩ = some (.slice AT NT CT) ∧ List.length T = NT ∧ Small T ∧ RdT w B AT T ∧ upto (t.map (·.1)) (u.map (·.1)) (j + 1) = upto (t.map (·.1)) (u.map (·.1)) j ++ T.map (·.1) ∧ (upto (t.map (·.1)) (u.map (·.1)) j).length ≤ 100000 := by
  rcases j with _ | _ | j
  · exact ⟨A, n, c, t, I.blk.cell 0 rfl, hn, hs, hR, rfl, Nat.zero_le _⟩
  · exact ⟨A', n', c', u, I.blk.cell 1 rfl, hn', hs', hR', rfl, by show (t.map (·.1)).length ≤ _; rw [List.length_map]; exact hs.len⟩
  · omega

set_option maxRecDepth 100000 in
set_option maxHeartbeats 4000000 in
theorem Names (A A' : Option Addr) (n c n' c' B : Nat) (t u : TR) (w : World) (hn : t.length = n) (hn' : u.length = n') (hs : Small t) (hs' : Small u) (hB : B ≤ w.heap.size) (hR : RdT w B A t) (hR' : RdT w B A' u) :
    Calls Tryz.prog 20 #[.slice A n c, .slice A' n' c'] w (NamesEnd w (t.map (·.1) ++ u.map (·.1))) := by
  have hmm := @run_makeMap Tryz.prog
  obtain ⟨mb, hmb⟩ : ∃ mb, w.heap.size = mb := ⟨_, rfl⟩
  have hown0 : (w.alloc (.map #[] 0)).ownsMap Tryz.prog 9 (unitElem (H := Unit)) w.heap.size 0 (.map []) := World.ownsMap_made _ _ _ _
  have hblk0 := Blk.new (w.alloc (.map #[] 0)) 43 #[.slice A n c, .slice A' n' c']
  rw [World.size_alloc] at hblk0
  have hi0 : NInv w w.heap.size (w.heap.size + 1) #[.slice A n c, .slice A' n' c'] [] ((w.alloc (.map #[] 0)).alloc (.cells #[.slice A n c, .slice A' n' c'] 43)) :=
    ⟨hown0.alloc _, hblk0, ((Below.refl _ _).alloc (Nat.le_refl _) _).alloc (by simp) _⟩
  have HN := Lib.hid hn; have HN' := Lib.hid hn'; have R := Lib.hid hR; have R' := Lib.hid hR'; have HS := Lib.hid hs; have HS' := Lib.hid hs'; have HI0 := Lib.hid hi0
  clear hn hn' hR hR' hs hs' hown0 hblk0 hi0 hmb mb
  go_enter Tryz.func20, Tryz.ntmps20
  go_wp2_with fail
  clear hmm
  obtain ⟨mb, hmb⟩ : ∃ mb, w.heap.size = mb := ⟨_, rfl⟩
  obtain ⟨w0, hw0⟩ : ∃ w0, (w.alloc (.map #[] 0)).alloc (.cells #[.slice A n c, .slice A' n' c'] 43) = w0 := ⟨_, rfl⟩
  rw [hw0] at HI0 ⊢
  rw [hmb] at HI0 hB ⊢
  have HMB := Lib.hid hmb
  clear hmb hw0
  go_loopw [15] (fun i wr => ∃ j : Nat, j ≤ 2 ∧ i = .int .i64 (j : Int) ∧ NInv w mb (mb + 1) #[.slice A n c, .slice A' n' c'] (upto (t.map (·.1)) (u.map (·.1)) j) wr) (fun i _ => 2 - (intOf i).toNat)
  case atStart => exact ⟨0, by omega, rfl, HI0.out⟩
  case round =>
    obtain ⟨j, hj, rfl, I⟩ := hrel
    by_cases hlt : j < 2
    · obtain ⟨AT, NT, CT, T, hcell, hT, hsT, hRT, hup, hlen⟩ := tree_of HN.out HN'.out HS.out HS'.out hB R.out R'.out hlt I
      have hNT : NT ≤ 100000 := by rw [← hT]; exact hsT.len
      obtain ⟨L, hL⟩ : ∃ L, upto (t.map (·.1)) (u.map (·.1)) j = L := ⟨_, rfl⟩
      rw [hL] at I hup hlen
      have HT := Lib.hid hT; have HST := Lib.hid hsT; have HRT := Lib.hid hRT; have HUP := Lib.hid hup; have HII := Lib.hid I
      clear hT hsT hRT hup I hL
      go_wp2
      go_loopw [21] (fun i wr => ∃ k : Nat, k ≤ NT ∧ i = .int .i64 (k : Int) ∧ NInv w mb (mb + 1) #[.slice A n c, .slice A' n' c'] (L ++ (T.take k).map (·.1)) wr) (fun i _ => NT - (intOf i).toNat)
      case atStart => exact ⟨0, Nat.zero_le _, rfl, by rw [List.take_zero, List.map_nil, List.append_nil]; exact HII.out⟩
      case round =>
        clear hcell HII
        obtain ⟨k, hk, rfl, I⟩ := hrel
        by_cases hlk : k < NT
        · have hkt : k < T.length := by rw [HT.out]; exact hlk
          obtain ⟨a, rfl, hab, hat⟩ := (RdT.below HRT.out (I.fr.mono hB)).at_ hkt
          have hsm := HST.out.all _ (List.getElem_mem hkt)
          have htk := take_snoc' hkt
          obtain ⟨x, hx⟩ : ∃ x, T[k] = x := ⟨_, rfl⟩
          rw [hx] at hat hsm htk
          obtain ⟨c0, A1, c1, h1, _, _⟩ := hat
          have hxn := hsm.n
          generalize x.2.length = m at h1
          have hkey : keyOf Tryz.prog 9 (strV x.1) = some (.string x.1) := Go.WideMaps.keyOf_string_mk Tryz.underlying9 (by rw [size_strV]; unfold maxLen; omega)
          have hll : (L ++ (T.take k).map (·.1)).length < maxLen := by rw [List.length_append, List.length_map, List.length_take]; unfold maxLen; omega
          have hown := I.own.alloc (.cells #[strV x.1, .slice A1 m c1] 51)
          have hmw : mb < wr.heap.size := I.own.lt
          have hnx := fun w1 hown hg => NInv.next (w1 := w1) (x := x.1) (o := .cells #[strV x.1, .slice A1 m c1] 51) I (by omega) hown hg
          obtain ⟨LL, hLL⟩ : ∃ LL, L ++ (T.take k).map (·.1) = LL := ⟨_, rfl⟩
          have hLL2 : LL ++ [x.1] = L ++ (T.take (k + 1)).map (·.1) := by rw [htk, List.map_append, ← List.append_assoc, hLL]; rfl
          rw [hLL] at hown hll hnx
          rw [hLL2] at hnx
          have HOWN := Lib.hid hown; have HNX := Lib.hid hnx; have HKEY := Lib.hid hkey; have HLL := Lib.hid hll
          clear hown hnx hkey hll htk hLL hLL2 I hx hsm
          go_wp2_with (at_mapUpdate; refine wpList_mapUpdate_own _ rfl _ _ _ 82 rfl 9 84 law_str Tryz.underlying82 (unitElem (H := Unit)) mb LL.length _ rfl HOWN.out HLL.out _ _ _ rfl rfl HKEY.out _ [] unitElem_mk ?_; intro w1 hown1 hgrow1; have HN1 := Lib.hid (HNX.out w1 hown1 hgrow1); clear hown1 hgrow1)
          go_roundw
          case rel => exact ⟨k + 1, by omega, by go_num, HN1.out⟩
          case measure => simp [intOf]; omega
        · obtain rfl : k = NT := by omega
          rw [List.take_of_length_le (by rw [HT.out]; exact Nat.le_refl _), ← HUP.out] at I
          have HII := Lib.hid I
          clear I
          go_wp2
          go_roundw
          case rel => exact ⟨j + 1, by omega, by go_num, HII.out⟩
          case measure => simp [intOf]; omega
    · obtain rfl : j = 2 := by omega
      have hown := I.own
      have hfr := I.fr
      have hup : upto (t.map (·.1)) (u.map (·.1)) 2 = t.map (·.1) ++ u.map (·.1) := rfl
      rw [hup] at hown
      obtain ⟨L, hL⟩ : ∃ L, t.map (·.1) ++ u.map (·.1) = L := ⟨_, rfl⟩
      have hLl : L.length ≤ 200000 := by have := HS.out.len; have := HS'.out.len; rw [← hL, List.length_append, List.length_map, List.length_map]; omega
      rw [hL] at hown
      have HLE := Lib.hid hL
      have hsz := hown.size_le
      have hK := (callsIn_wide (n := 5)).1 (keysC (some mb) wr)
      have hS := (callsIn_wide (n := 5)).1 (sortedC mb L.length (setN L) (unitElem (H := Unit)) wr hown (by unfold maxLen; omega) (by omega))
      have hmw : mb < wr.heap.size := hown.lt
      have HOWN := Lib.hid hown; have HFR := Lib.hid hfr; have HK := Lib.hid hK; have HS2 := Lib.hid hS
      clear hown hfr hK hS hup hL I hsz hLl
      go_wp2_with fail
      refine HK.out.mono ?_
      rintro e w1 ⟨rfl, rfl⟩
      go_wp2_with fail
      refine HS2.out.mono ?_
      rintro e w2 ⟨v, ss, rfl, hp, hrow, hnil, hb⟩
      have hss := sorted_names HOWN.out hp
      have hlen : (names Op.bytesLess L).length = ss.length := by rw [← hss, List.length_mergeSort]
      rw [hss] at hrow
      obtain ⟨A1, c1, rfl, hc1, hrd⟩ := rd_of_own hrow
      have hbb : Below mb w w2 := (HFR.out.alloc (Nat.le_of_lt hmw) _).trans (hb.mono (by simp; omega))
      have HRD : Hid (RdS w2 w2.heap.size A1 (names Op.bytesLess L)) := Lib.hid hrd
      have HLEN := Lib.hid hlen; have HBB := Lib.hid hbb
      have hc2 : ss.length ≤ c1 := hc1
      clear hss hlen hbb hrd hc1 hb hnil hrow hp
      go_wp2
      go_ret
      rw [HLE.out]
      exact ⟨A1, c1, by rw [HLEN.out]; rfl, by rw [HLEN.out]; exact hc2, HRD.out, by rw [HMB.out]; exact HBB.out⟩

end Tr
end Go.Proofs.YtfnhjflocfmcoaaGreat

set_option maxRecDepth 100000
namespace Go.Proofs.YtfnhjflocfmcoaaGreat
open Go.RowKit
set_option linter.unusedVariables false
set_option linter.unusedSimpArgs false
namespace Bm
open Tx Df Sq Hk Tr Pr Fl Pn Tg

theorem upTo_len {l : List Nm} {k j : Nat} {x : Nm} {p : Ch} (hp : x.l[j]? = some p) : (upTo l k (j + 1) x).length = (upTo l k j x).length + 1 := by
  rw [upTo_next hp, List.length_append]
  rfl
theorem upTo_do {l : List Nm} {k j : Nat} {x : Nm} {p : Ch} {t t' : TR} {o o' : OR} (hp : x.l[j]? = some p) (h : doL dB ([], []) (upTo l k j x) = some (t, o)) (h' : doL dB ([], []) (upTo l k (j + 1) x) = some (t', o')) : doP t p = (0, t') := by
  rw [upTo_next hp, doL_app, h] at h'
  have h2 : doL dB (t, o) ([((x.id, j), p)] ++ []) = some (t', o') := h'
  obtain ⟨v, g1, g2⟩ := doL_cons_inv dB h2
  obtain ⟨g3, _⟩ := dB_some.1 (show dB (t, o) ((x.id, j), p) = some (v.1, v.2) from g1)
  injection g2 with g2
  rw [g2] at g3
  exact g3
theorem upTo_le {l : List Nm} {k j : Nat} {x : Nm} (hx : l[k]? = some x) (hle : (allN l).length ≤ 150) : (upTo l k j x).length ≤ 150 := by
  obtain ⟨r, hr⟩ := upTo_rest (j := j) hx
  have h := tagA_len l
  rw [hr, List.length_append] at h
  omega
/-- The names of the tree are those of the origins. -/
theorem like_names {t : TR} {o : OR} (h : Like t o) : names Op.bytesLess (t.map (·.1) ++ ([] : TR).map (·.1)) = o.map (·.1) := by
  have e : o.map (·.1) = t.map (·.1) := by
    have := congrArg (List.map (·.1)) (like_rows h)
    rwa [List.map_map, List.map_map] at this
  have hu := h.uo
  symm
  refine names_uniq lin ?_ (fun x => by rw [e]; simp)
  unfold Up at hu
  rw [List.pairwise_map]
  exact hu
theorem bir_at {o : OR} (h : Up lt o) {k : Nat} {x : List UInt8 × List Bi} (hx : o[k]? = some x) : bir o x.1 = x.2 := by
  unfold bir
  rw [get_of_mem lin h (List.mem_of_getElem? hx)]
  rfl
theorem gr_below3 {w w1 w2 : World} {b z : Nat} (h : Below z w w1) (hg : w1.grownBy w2 (some b)) (hz : z ≤ b) (hs : z ≤ w1.heap.size) : Below z w w2 := h.grown hg hs (fun g e => by injection e with e; omega)

set_option maxRecDepth 100000 in
set_option maxHeartbeats 8000000 in
theorem OrgsC (A : Option Addr) (n c : Nat) (l : List Nm) (w : World) (hn : l.length = n) (hle : n ≤ 1000) (hT : (allN l).length ≤ 150) (hl : Lt (allN l)) (hR : RdN w w.heap.size A l) (er : Int) (o : OR) (h : orgR l = (er, o)) :
    Calls Tryz.prog 9 #[.slice A n c] w (OrgsEnd w (er, o)) := by
  rw [← h]
  clear h
  have HN := Lib.hid hn; have HL := Lib.hid hl; have HT := Lib.hid hT; have HR := Lib.hid hR
  clear hn hl hT hR
  obtain ⟨R, hD⟩ : ∃ R, doN [] l = R := ⟨_, rfl⟩
  have HD := Lib.hid hD
  clear hD
  go_enter Tryz.func9, Tryz.ntmps9
  go_wp2_with fail
  refine (ApplyN 0 0 none 0 0 A n c [] l w R most_nil (by decide) (by decide) rfl HN.out hle (by have := HT.out; omega) HL.out (.inl rfl) HR.out HD.out).mono ?_
  rintro e w1 ⟨A0, k0, c0, rfl, h1, h2, h3, hb1⟩
  have HB1 := Lib.hid hb1; have HT0 := Lib.hid h2; have HR0 := Lib.hid h3; have HK0 := Lib.hid h1
  clear hb1 h1 h2 h3
  obtain ⟨e0, t0⟩ := R
  dsimp only at HT0 HR0 ⊢
  by_cases h0 : e0 = 0
  · subst h0
    obtain ⟨o0, ho0⟩ := org_of (s := ([], [])) HD.out
    have HO := Lib.hid ho0
    have HRR := Lib.hid (orgR_yes ho0)
    have hms := most_B most_nil (tagA_lt HL.out) (by rw [tagA_len]; have := HT.out; omega) (by rw [tagA_len]; have := HT.out; omega) ho0
    have HSM := Lib.hid hms.s
    have HLK := Lib.hid (doB_like like_nil ho0)
    clear ho0 hms
    have hmm := @run_makeMap Tryz.prog
    go_upto_region 5 with fail
    clear hmm
    have hM0 := birM_made w1
    have hbm : Below w1.heap.size w1 (w1.alloc (.map #[] 0)) := (Below.refl _ _).alloc (Nat.le_refl _) _
    generalize w1.alloc (.map #[] 0) = w2 at hM0 hbm ⊢
    obtain ⟨b, hb⟩ : ∃ b, w1.heap.size = b := ⟨_, rfl⟩
    have HBB := Lib.hid hb
    rw [hb] at hM0 ⊢
    have HM0 := Lib.hid hM0; have HBM := Lib.hid hbm
    clear hb hM0 hbm
    go_wp2_with fail
    go_loopw [25] (fun i wr => ∃ (k : Nat) (t : TR) (o : OR), k ≤ n ∧ i = .int .i64 (k : Int) ∧ doL dB ([], []) (tagA (l.take k)) = some (t, o) ∧ BirM wr b (2 * (tagA (l.take k)).length) (bir o) ∧ Below w1.heap.size w1 wr) (fun i _ => n - (intOf i).toNat)
    case atStart => exact ⟨0, [], [], Nat.zero_le _, rfl, rfl, HM0.out, HBM.out⟩
    case round =>
      obtain ⟨k, t, o, hk, rfl, hdo, hbi, hbw⟩ := hrel
      have HDO := Lib.hid hdo; have HBI := Lib.hid hbi; have HBW := Lib.hid hbw
      clear hdo hbi hbw
      by_cases hlt : k < n
      · have hki : (k : Int) < (n : Int) := by omega
        have hki0 : (0 : Int) ≤ (k : Int) := by omega
        obtain ⟨a, x, D, dn, dc, E, nl, cl, rfl, hab, hx, d0, d1, d2, d3, d4, hv⟩ := HR.out.elem (k := k) (by rw [HN.out]; exact hlt)
        have hbx := below_mv HB1.out HBW.out
        have c0' := cellB d0 hbx (by rw [add_block]; exact hab)
        have c1' := cellB d1 hbx (by rw [add_block]; exact hab)
        have c2' := cellB d2 hbx (by rw [add_block]; exact hab)
        have c3' := cellB d3 hbx (by rw [add_block]; exact hab)
        have c4' := cellB d4 hbx (by rw [add_block]; exact hab)
        clear d0 d1 d2 d3 d4 hbx
        have hln := allN_pre (j := x.l.length) hx HT.out
        rw [List.take_length, List.length_append, hv.l] at hln
        have hnl : nl ≤ 1000 := by omega
        have HX := Lib.hid hx; have HXL := Lib.hid hv.l; have HXR := Lib.hid hv.r
        have HS0 : Hid (doL dB ([], []) (upTo l k 0 x) = some (t, o)) := Lib.hid (by rw [upTo_zero]; exact HDO.out)
        have HS1 : Hid (BirM wr b (2 * (upTo l k 0 x).length) (bir o)) := Lib.hid (by rw [upTo_zero]; exact HBI.out)
        clear hln hx hv HDO HBI hab
        go_upto_region 8 with fail
        have bz := Blk.new wr 41 #[.int .i64 x.id.1, .int .i64 x.id.2, .slice D dn dc, strV x.txt, .slice E nl cl]
        have hba : Below wr.heap.size wr (wr.alloc (.cells #[.int .i64 x.id.1, .int .i64 x.id.2, .slice D dn dc, strV x.txt, .slice E nl cl] 41)) := (Below.refl _ _).alloc (Nat.le_refl _) _
        have hm1 := HS1.out.below hba
        have hzb := HS1.out.lt
        generalize wr.alloc (.cells #[.int .i64 x.id.1, .int .i64 x.id.2, .slice D dn dc, strV x.txt, .slice E nl cl] 41) = w8 at bz hba hm1 ⊢
        obtain ⟨z, hz⟩ : ∃ z, wr.heap.size = z := ⟨_, rfl⟩
        have HZB : Hid (some z ≠ some b) := Lib.hid (fun e => by injection e; omega)
        have HB8 := Lib.hid (below_mv HBW.out hba)
        rw [hz] at bz ⊢
        have HBZ := Lib.hid bz; have HM8 := Lib.hid hm1
        clear hz bz hba hm1 hzb HS1 HBW c0' c1' c2' c3' c4'
        have z4 := HBZ.out.cell 4 rfl
        have zl := HBZ.out.lt
        go_wp2_with fail
        clear z4 zl
        go_loopw [32] (fun j wr => ∃ (q : Nat) (t : TR) (o : OR), q ≤ nl ∧ j = .int .i64 (q : Int) ∧ doL dB ([], []) (upTo l k q x) = some (t, o) ∧ BirM wr b (2 * (upTo l k q x).length) (bir o) ∧ Below w1.heap.size w1 wr ∧ Blk wr z 41 #[.int .i64 x.id.1, .int .i64 x.id.2, .slice D dn dc, strV x.txt, .slice E nl cl]) (fun j _ => nl - (intOf j).toNat)
        case atStart => exact ⟨0, t, o, Nat.zero_le _, rfl, HS0.out, HM8.out, HB8.out, HBZ.out⟩
        case round =>
          clear HS0 HM8 HB8 HBZ
          obtain ⟨q, t2, o2, hq, rfl, hdo, hbi, hbw, hbz⟩ := hrel
          have HDO := Lib.hid hdo; have HBI := Lib.hid hbi; have HBW := Lib.hid hbw; have HBZ := Lib.hid hbz
          clear hdo hbi hbw hbz
          by_cases hlt2 : q < nl
          · have hqi : (q : Int) < (nl : Int) := by omega
            have hqi0 : (0 : Int) ≤ (q : Int) := by omega
            obtain ⟨a2, rfl, hbb, hat⟩ := HXR.out.at_ (k := q) (by rw [HXL.out]; exact hlt2)
            obtain ⟨p, hp⟩ : ∃ p, x.l[q]? = some p := ⟨_, List.getElem?_eq_getElem (by rw [HXL.out]; exact hlt2)⟩
            rw [(List.getElem?_eq_some_iff.1 hp).2] at hat
            obtain ⟨g0, g1, g2, g3, Ap, np, cp, Bp, mp, dp, g4, g5, hpg⟩ := hat
            obtain ⟨s1, s2, s3, s4, s5, t3, s6⟩ := org_step HX.out hp HO.out HL.out HT.out HDO.out
            have HNX := Lib.hid s6; have HDP := Lib.hid (upTo_do hp HDO.out s6)
            have HLU := Lib.hid (upTo_len (l := l) (k := k) hp)
            have hul := upTo_le (j := q) HX.out HT.out
            have hbx := below_mv HB1.out HBW.out
            have k0 := cellB g0 hbx (by rw [add_block]; exact hbb)
            have k1 := cellB g1 hbx (by rw [add_block]; exact hbb)
            have k2 := cellB g2 hbx (by rw [add_block]; exact hbb)
            have k3 := cellB g3 hbx (by rw [add_block]; exact hbb)
            have k4 := cellB g4 hbx (by rw [add_block]; exact hbb)
            have k5 := cellB g5 hbx (by rw [add_block]; exact hbb)
            have HPV := Lib.hid (hpg.pv.mv hbx)
            have HMP : Hid (mp ≤ 1000) := Lib.hid (by rw [← hpg.pv.h.l']; exact s5)
            have HLE2 : Hid (p.k ≠ 0 → p.k ≠ 1 → (bir o2 p.nm).length ≤ 50000) := Lib.hid (fun h0 h1 => by
              obtain ⟨m, hm, hml, _⟩ := s4 h0 h1
              unfold bir
              rw [hm]
              exact hml)
            have HLI := Lib.hid s1
            clear g0 g1 g2 g3 g4 g5 hpg hp s1 s2 s3 s4 s5 s6 hbx hbb
            go_upto_region 11 with fail
            clear k0 k1 k2 k3 k4 k5
            have by0 := Blk.new wr 55 #[.int .i64 p.k, strV p.nm, strV p.to, .int .i64 p.h.pos, .slice Ap np cp, .slice Bp mp dp]
            have hba : Below wr.heap.size wr (wr.alloc (.cells #[.int .i64 p.k, strV p.nm, strV p.to, .int .i64 p.h.pos, .slice Ap np cp, .slice Bp mp dp] 55)) := (Below.refl _ _).alloc (Nat.le_refl _) _
            have bz1 := HBZ.out.below hba HBZ.out.lt
            have hm1 := HBI.out.below hba
            have hpv := HPV.out.mv hba
            have hyb := HBI.out.lt
            generalize wr.alloc (.cells #[.int .i64 p.k, strV p.nm, strV p.to, .int .i64 p.h.pos, .slice Ap np cp, .slice Bp mp dp] 55) = w10 at by0 hba bz1 hm1 hpv ⊢
            obtain ⟨y, hy⟩ : ∃ y, wr.heap.size = y := ⟨_, rfl⟩
            have HYB : Hid (some y ≠ some b) := Lib.hid (fun e => by injection e; omega)
            rw [hy] at by0 ⊢
            have HBY := Lib.hid by0; have HBZ1 := Lib.hid bz1; have HM1 := Lib.hid hm1; have HPV1 := Lib.hid hpv; have HB10 := Lib.hid (below_mv HBW.out hba)
            clear by0 bz1 hm1 hpv hba hyb hy HBZ HBI HPV HBW
            have HKB := Lib.hid (show Below w10.heap.size w10 w10.drew from below_drewN (Below.refl _ _) 1)
            have HC : Hid (∀ X, Below w10.heap.size w10 X → X.cell? ⟨z, 0, none⟩ = some (.int .i64 x.id.1) ∧ X.cell? ⟨z, 1, none⟩ = some (.int .i64 x.id.2) ∧ X.cell? ⟨y, 0, none⟩ = some (.int .i64 p.k) ∧ X.cell? ⟨y, 1, none⟩ = some (strV p.nm) ∧ X.cell? ⟨y, 2, none⟩ = some (strV p.to) ∧ X.cell? ⟨y, 3, none⟩ = some (.int .i64 p.h.pos) ∧ X.cell? ⟨y, 4, none⟩ = some (.slice Ap np cp) ∧ X.cell? ⟨y, 5, none⟩ = some (.slice Bp mp dp)) := Lib.hid (fun X hb => ⟨(HBZ1.out.below hb HBZ1.out.lt).cell 0 rfl, (HBZ1.out.below hb HBZ1.out.lt).cell 1 rfl, (HBY.out.below hb HBY.out.lt).cell 0 rfl, (HBY.out.below hb HBY.out.lt).cell 1 rfl, (HBY.out.below hb HBY.out.lt).cell 2 rfl, (HBY.out.below hb HBY.out.lt).cell 3 rfl, (HBY.out.below hb HBY.out.lt).cell 4 rfl, (HBY.out.below hb HBY.out.lt).cell 5 rfl⟩)
            have HCB : Hid (∀ X Y, Below w10.heap.size w10 X → X.grownBy Y (some b) → (fun X => X.cell? ⟨z, 0, none⟩ = some (.int .i64 x.id.1) ∧ X.cell? ⟨z, 1, none⟩ = some (.int .i64 x.id.2) ∧ X.cell? ⟨y, 0, none⟩ = some (.int .i64 p.k) ∧ X.cell? ⟨y, 1, none⟩ = some (strV p.nm) ∧ X.cell? ⟨y, 2, none⟩ = some (strV p.to) ∧ X.cell? ⟨y, 3, none⟩ = some (.int .i64 p.h.pos) ∧ X.cell? ⟨y, 4, none⟩ = some (.slice Ap np cp) ∧ X.cell? ⟨y, 5, none⟩ = some (.slice Bp mp dp)) Y ∧ Blk Y z 41 #[.int .i64 x.id.1, .int .i64 x.id.2, .slice D dn dc, strV x.txt, .slice (some a2) nl cl]) := Lib.hid (fun X Y hb hg => by
              have bz := (HBZ1.out.below hb HBZ1.out.lt).gr hg HZB.out
              have by0 := (HBY.out.below hb HBY.out.lt).gr hg HYB.out
              exact ⟨⟨bz.cell 0 rfl, bz.cell 1 rfl, by0.cell 0 rfl, by0.cell 1 rfl, by0.cell 2 rfl, by0.cell 3 rfl, by0.cell 4 rfl, by0.cell 5 rfl⟩, bz⟩)
            have HKD := Lib.hid (HC.out w10.drew HKB.out)
            have PB := Lib.hid (BornB x.id q mp w10.drew HMP.out)
            have PC : Hid (∀ u1 A3 n3 c3, Below w10.heap.size w10 u1 → (births (x.id, q) mp).length = n3 → n3 ≤ c3 → RdB u1 (Since w10.drew u1) A3 (births (x.id, q) mp) → Calls Tryz.prog 18 #[.map (some b), prV p.k p.nm p.to p.h.pos Ap np cp Bp mp dp, .slice A3 n3 c3] u1 (ChEnd u1 b (2 * (upTo l k q x).length + 2) (bir (oneB o2 (x.id, q) p)))) := Lib.hid (fun u1 A3 n3 c3 hb q1 q2 q3 => by
              rw [births_len] at q1
              subst q1
              exact ChangeB b (2 * (upTo l k q x).length) t2 t3 o2 (x.id, q) Ap np cp Bp mp dp p A3 mp c3 u1 HLI.out HDP.out (HM1.out.below hb) (by omega) HLE2.out (HPV1.out.mv hb) rfl q2 HMP.out (q3.mono fun g hg => ⟨by have h5 := HM1.out.lt; have h6 : w10.heap.size ≤ g := hg.1; omega, hg.2⟩))
            have HZ1 : Hid (w1.heap.size ≤ b) := Lib.hid (Nat.le_of_eq HBB.out)
            obtain ⟨z0, z1, y0, y1, y2, y3, y4, y5⟩ := HC.out w10 (Below.refl _ _)
            go_region_held3 (fun X => X.cell? ⟨z, 0, none⟩ = some (.int .i64 x.id.1) ∧ X.cell? ⟨z, 1, none⟩ = some (.int .i64 x.id.2) ∧ X.cell? ⟨y, 0, none⟩ = some (.int .i64 p.k) ∧ X.cell? ⟨y, 1, none⟩ = some (strV p.nm) ∧ X.cell? ⟨y, 2, none⟩ = some (strV p.to) ∧ X.cell? ⟨y, 3, none⟩ = some (.int .i64 p.h.pos) ∧ X.cell? ⟨y, 4, none⟩ = some (.slice Ap np cp) ∧ X.cell? ⟨y, 5, none⟩ = some (.slice Bp mp dp))
              (first | (with_reducible exact HKD.out) | (with_reducible exact hS1) | (with_reducible exact hS2))
              (first
                | (go_at_call 19; (with_reducible refine (PB.out).mono ?_); rintro e u1 ⟨A3, n3, c3, rfl, q1, q2, q3, hb⟩; have hbu := below_mv HKB.out hb; have hS1 := HC.out u1 hbu; have PC1 := Lib.hid (PC.out u1 A3 n3 c3 hbu q1 q2 q3); have HU1 := Lib.hid hbu; clear hb hbu q1 q2 q3)
                | (go_at_call 18; (with_reducible refine (PC1.out).mono ?_); rintro e u2 ⟨rfl, hm2, hg2⟩; obtain ⟨hS2, hbz2⟩ := HCB.out u1 u2 HU1.out hg2; have HM2 := Lib.hid hm2; have HBZ2 := Lib.hid hbz2; have HB2 := Lib.hid (gr_below3 (below_mv HB10.out HU1.out) hg2 HZ1.out (below_mv HB10.out HU1.out).size); clear hm2 hg2 hbz2))
            all_goals (try go_wp2_with fail)
            all_goals exact ⟨⟨q + 1, t3, _, by omega, by go_num, HNX.out, by rw [HLU.out]; exact HM2.out.mono (by omega), HB2.out, HBZ2.out⟩, by simp [intOf]; omega⟩
          · obtain rfl : q = nl := by omega
            have HE : Hid (doL dB ([], []) (tagA (l.take (k + 1))) = some (t2, o2)) := Lib.hid (by rw [← upTo_end HX.out, HXL.out]; exact HDO.out)
            have HE2 : Hid (BirM wr b (2 * (tagA (l.take (k + 1))).length) (bir o2)) := Lib.hid (by rw [← upTo_end HX.out, HXL.out]; exact HBI.out)
            go_wp2
            refine ⟨⟨k + 1, t2, o2, by omega, by go_num, HE.out, HE2.out, HBW.out⟩, by simp [intOf]; omega⟩
      · obtain rfl : k = n := by omega
        have e : l.take k = l := List.take_of_length_le (by rw [HN.out]; exact Nat.le_refl _)
        have e2 : some (t, o) = some (t0, o0) := by
          have h1 := HDO.out
          rw [e] at h1
          exact h1.symm.trans HO.out
        injection e2 with e2
        injection e2 with e2 e3
        subst e2 e3
        have hM3 := HBI.out
        rw [e] at hM3
        clear HDO HBI e
        have HM3 := Lib.hid hM3
        clear hM3
        have hki : ¬ (k : Int) < (k : Int) := by omega
        have HRT := Lib.hid (HR0.out.below HBW.out)
        go_wp2_with fail
        refine (Names A0 none k0 c0 0 0 w1.heap.size t [] wr HT0.out rfl HSM.out ⟨Nat.zero_le _, fun x hx => by cases hx⟩ HBW.out.size HRT.out (.inl rfl)).mono ?_
        rintro e w3 ⟨A3, c3, rfl, q2, q3, hb3⟩
        rw [like_names HLK.out] at q2 q3 ⊢
        obtain ⟨m, hm⟩ : ∃ m, o.length = m := ⟨_, rfl⟩
        rw [List.length_map, hm] at q2 ⊢
        have HOM := Lib.hid hm
        have HRN := Lib.hid q3
        have HB3 := Lib.hid (below_mv HB1.out (below_mv HBW.out hb3))
        have HM4 := Lib.hid (HM3.out.below hb3)
        clear q2 q3 hb3 hm HM3
        have HML : Hid (m ≤ 100000) := Lib.hid (by
          have h1 := (like_at HLK.out).1
          have h2 := HSM.out.len
          have h3 := HOM.out
          dsimp only at h1
          omega)
        go_wp2_with fail
        have hml := HML.out
        go_loopw [11, 53] (fun v j wr => ∃ (q : Nat) (A1 : Option Addr) (m1 c1 : Nat), q ≤ m ∧ j = .int .i64 (q : Int) ∧ v = .slice A1 m1 c1 ∧ OwnO wr (fun g => g ≠ b ∧ g < w3.heap.size) w3.heap.size (.slice A1 m1 c1) (o.take q) ∧ Below w3.heap.size w3 wr) (fun _ j _ => m - (intOf j).toNat)
        case atStart => exact ⟨0, none, 0, 0, Nat.zero_le _, rfl, rfl, ownO_nil _ _ _, Below.refl _ _⟩
        case round =>
          obtain ⟨q, A1, m1, c1, hq, rfl, rfl, hO, hbw⟩ := hrel
          have HBW3 := Lib.hid hbw; have HO3 := Lib.hid hO
          clear hbw hO
          by_cases hlt : q < m
          · have hqi : (q : Int) < (m : Int) := by omega
            obtain ⟨y, hy⟩ : ∃ y, o[q]? = some y := ⟨_, List.getElem?_eq_getElem (by rw [HOM.out]; exact hlt)⟩
            obtain ⟨a, rfl, _, hcell⟩ := (Rd.below HRN.out HBW3.out).at_ (k := q) (by simp only [List.length_map]; rw [HOM.out]; exact hlt)
            have hc0 : wr.cell? (a.add q) = some (strV y.1) := by
              rw [hcell]
              simp only [List.getElem_map, (List.getElem?_eq_some_iff.1 hy).2]
            have hyl : y.1.length ≤ maxLen := by
              obtain ⟨h1, h2⟩ := like_at HLK.out
              have hq1 : q < t.length := by dsimp only at h1; rw [← h1, HOM.out]; exact hlt
              obtain ⟨g, h3, h4, _⟩ := h2 q _ (List.getElem?_eq_getElem hq1)
              dsimp only at h3
              rw [hy] at h3
              injection h3 with h3
              subst h3
              rw [h4]
              have := (HSM.out.all _ (List.getElem_mem hq1)).n
              exact Nat.le_trans this (by decide)
            obtain ⟨A5, c5, hrun, hc5, hr5⟩ := (BirG.same HM4.out (fun g hg => hg.2) HBW3.out).look hyl
            rw [bir_at HLK.out.uo hy] at hrun hc5 hr5
            have HTK : Hid (o.take (q + 1) = o.take q ++ [y]) := Lib.hid (take_at hy)
            obtain ⟨n5, hn5⟩ : ∃ n5, y.2.length = n5 := ⟨_, rfl⟩
            rw [hn5] at hrun hc5
            have ba := Blk.new wr 48 #[strV y.1, .slice A5 n5 c5]
            have hba : Below wr.heap.size wr (wr.alloc (.cells #[strV y.1, .slice A5 n5 c5] 48)) := (Below.refl _ _).alloc (Nat.le_refl _) _
            have HSO := Lib.hid (oneO_src ba hn5 hc5 (hr5.to fun g _ hl => hba.block g hl))
            have HO4 := Lib.hid (HO3.out.below hba)
            have HB4 := Lib.hid (below_mv HBW3.out hba)
            have HOL := Lib.hid (show (o.take q).length + 1 ≤ 100000 by
              rw [List.length_take]
              have h1 := HML.out
              omega)
            have HSB : Hid (∀ g, (g ≠ b ∧ g < w3.heap.size) → some g ≠ (Value.slice A1 m1 c1).ownBlock) := Lib.hid (fun g hg e => by
              have := ownO_ge HO3.out g e.symm
              omega)
            clear hcell hyl hc5 hr5 hn5 hy ba hba
            go_wp2_with (at_builtin; refine wpList_ownO rfl (.tmp 57) (.tmp 63) rfl (fun g => g ≠ b ∧ g < w3.heap.size) w3.heap.size 1 1 (.slice A1 m1 c1) (some ⟨wr.heap.size, 0, none⟩) (o.take q) [y] rfl rfl HO4.out HSO.out rfl HOL.out HSB.out HB4.out.size ?_; intro v' W' ho hg)
            rw [← HTK.out] at ho
            obtain ⟨A9, c9, hv9, _⟩ := ownO_slice ho
            subst hv9
            refine ⟨⟨q + 1, A9, _, c9, by omega, by go_num, rfl, ho, HB4.out.grown hg HB4.out.size (fun g e => ownO_ge HO4.out g e)⟩, by simp [intOf]; omega⟩
          · obtain rfl : q = m := by omega
            have e : o.take q = o := List.take_of_length_le (by rw [HOM.out]; exact Nat.le_refl _)
            obtain ⟨A9, c9, hv9, hc9, hr9⟩ := rdO_own HO3.out
            rw [e] at hv9 hc9 hr9
            have hs9 := HBW3.out.size
            have HF := Lib.hid (orgsEnd_ok HRR.out rfl hc9 (hr9.mono fun g hg => (by rcases hg with hg | hg; exact Nat.lt_of_lt_of_le hg.2 hs9; exact hg.2)) (below_mv HB3.out HBW3.out))
            rw [← hv9] at HF
            clear hv9 hc9 hr9 hs9 e
            go_wp2
            go_ret2
            exact HF.out
  · have h1 : (e0 == 0) = false := by rw [beq_eq_false_iff_ne]; exact h0
    have h2 : (e0 != 0) = true := by rw [bne_iff_ne]; exact h0
    have HE : Hid (orgR l = (e0, [])) := Lib.hid (by rw [orgR_no (by rw [HD.out]; exact h0), HD.out])
    have HF := Lib.hid (orgsEnd_err HE.out HB1.out)
    clear h0
    go_wp2
    go_ret2
    exact HF.out

end Bm
end Go.Proofs.YtfnhjflocfmcoaaGreat

set_option maxRecDepth 100000
namespace Go.Proofs.YtfnhjflocfmcoaaGreat
open Go.RowKit
set_option linter.unusedVariables false
set_option linter.unusedSimpArgs false
namespace Bm
open Tx Df Sq Hk Tr Pr Fl Pn Tg

/-- The birth of a line, of origins of any kind (the first one of a name counts). -/
def ofB (o : OR) (s : List UInt8) (ln : Int) : Option Bi := match get o s with | none => none | some m => if ln < 0 then none else m[ln.toNat]?
def ofV : Option Bi → Value | some x => .tuple #[biV x, .bool true] | none => .tuple #[.agg #[.int .i64 0, .int .i64 0, .int .i64 0, .int .i64 0], .bool false]
/-- How Of ends. -/
def OfEndB (w : World) (r : Option Bi) (e : Ending) (w' : World) : Prop := e = .returned (ofV r) ∧ Below w.heap.size w w'
theorem ofEnd {w w' : World} {r : Option Bi} {v : Value} (h : ofV r = v) (hb : Below w.heap.size w w') : OfEndB w r (.returned v) w' := ⟨by rw [h], hb⟩
theorem blk4 {W : World} {b : Nat} {t : TypeId} {x0 x1 x2 x3 : Value} (h : Blk W b t #[x0, x1, x2, x3]) (v0 v1 v2 v3 : Value) : Blk ((((World.setCell W ⟨b, 0, none⟩ v0).setCell ⟨b, 1, none⟩ v1).setCell ⟨b, 2, none⟩ v2).setCell ⟨b, 3, none⟩ v3) b t #[v0, v1, v2, v3] :=
  have b0 : Blk _ b t #[v0, x1, x2, x3] := h.set 0 v0
  have b1 : Blk _ b t #[v0, v1, x2, x3] := b0.set 1 v1
  have b2 : Blk _ b t #[v0, v1, v2, x3] := b1.set 2 v2
  have b3 : Blk _ b t #[v0, v1, v2, v3] := b2.set 3 v3
  b3
theorem below_set4 {w W : World} {b : Nat} (h : Below w.heap.size w W) (hb : w.heap.size ≤ b) (v0 v1 v2 v3 : Value) : Below w.heap.size w ((((World.setCell W ⟨b, 0, none⟩ v0).setCell ⟨b, 1, none⟩ v1).setCell ⟨b, 2, none⟩ v2).setCell ⟨b, 3, none⟩ v3) :=
  (((h.setCell (p := ⟨b, 0, none⟩) hb v0).setCell (p := ⟨b, 1, none⟩) hb v1).setCell (p := ⟨b, 2, none⟩) hb v2).setCell (p := ⟨b, 3, none⟩) hb v3

set_option maxHeartbeats 2000000 in
theorem refOfB (s : List UInt8) (A : Option Addr) (c n : Nat) (o : OR) (ln : Int) (w : World) (hn : o.length = n) (hln : n ≤ 100000) (hR : RdO w (· < w.heap.size) A o) :
    Calls Tryz.prog 13 #[.slice A n c, strV s, .int .i64 ln] w (OfEndB w (ofB o s ln)) := by
  have b0 := Blk.new w 33 #[.int .i64 0, .int .i64 0, .int .i64 0, .int .i64 0]
  have hba : Below w.heap.size w (w.alloc (.cells #[.int .i64 0, .int .i64 0, .int .i64 0, .int .i64 0] 33)) := (Below.refl _ _).alloc (Nat.le_refl _) _
  have HN := Lib.hid hn; have HR := Lib.hid (RdO.mv hR hba); clear hn hR
  obtain ⟨r, hr⟩ : ∃ r, ofB o s ln = r := ⟨_, rfl⟩
  rw [hr]
  have HRR := Lib.hid hr; clear hr
  go_enter Tryz.func13, Tryz.ntmps13
  go_upto_region 1 with fail
  generalize (w.alloc (.cells #[.int .i64 0, .int .i64 0, .int .i64 0, .int .i64 0] 33)) = w1 at b0 hba HR ⊢
  obtain ⟨z, hz⟩ : ∃ z, w.heap.size = z := ⟨_, rfl⟩
  have HZ := Lib.hid (Nat.le_of_eq hz)
  rw [hz] at b0 ⊢
  clear hz
  have HB0 := Lib.hid b0; have HBA := Lib.hid hba
  clear b0 hba
  go_wp2_with fail
  refine (refWhereO s A c n (· < w1.heap.size) o w1 HN.out hln HR.out).mono ?_
  rintro e w' ⟨rfl, rfl⟩
  have z0 := HB0.out.cell 0 rfl; have z1 := HB0.out.cell 1 rfl; have z2 := HB0.out.cell 2 rfl; have z3 := HB0.out.cell 3 rfl
  have f0 := HB0.out.frozen 0; have f1 := HB0.out.frozen 1; have f2 := HB0.out.frozen 2; have f3 := HB0.out.frozen 3
  obtain ⟨ix, hix⟩ : ∃ ix, ixOV (ixO s o) = ix := ⟨_, rfl⟩
  rw [hix]
  have HIX := Lib.hid hix
  clear hix
  cases hg : get o s with
  | none =>
    obtain rfl : -1 = ix := by rw [← HIX.out, ixO_no fun j y hy e => get_none.1 hg y (List.mem_of_getElem? hy) e]; rfl
    have HE : Hid (r = none) := Lib.hid (by rw [← HRR.out]; unfold ofB; rw [hg])
    clear hg
    go_wp2
    clear z0 z1 z2 z3 f0 f1 f2 f3
    have b4 := blk4 HB0.out (.int .i64 0) (.int .i64 0) (.int .i64 0) (.int .i64 0)
    have hb4 := below_set4 HBA.out HZ.out (.int .i64 0) (.int .i64 0) (.int .i64 0) (.int .i64 0)
    generalize ((((World.setCell w1 ⟨z, 0, none⟩ (.int .i64 0)).setCell ⟨z, 1, none⟩ (.int .i64 0)).setCell ⟨z, 2, none⟩ (.int .i64 0)).setCell ⟨z, 3, none⟩ (.int .i64 0)) = W4 at b4 hb4 ⊢
    have q0 : W4.cell? ⟨z, 0, none⟩ = some (.int .i64 0) := b4.cell 0 rfl
    have q1 : W4.cell? ⟨z, 1, none⟩ = some (.int .i64 0) := b4.cell 1 rfl
    have q2 : W4.cell? ⟨z, 2, none⟩ = some (.int .i64 0) := b4.cell 2 rfl
    have q3 : W4.cell? ⟨z, 3, none⟩ = some (.int .i64 0) := b4.cell 3 rfl
    refine bodyPost_ret (v := .tuple #[.agg #[.int .i64 0, .int .i64 0, .int .i64 0, .int .i64 0], .bool false]) (by simp [results, Tryz.results13, go_sem, q0, q1, q2, q3]) rfl ?_
    exact ofEnd (by rw [HE.out]; rfl) hb4
  | some m =>
    obtain ⟨kx, x, h1, h2, h3, h4⟩ := ixO_get hg
    obtain rfl : (kx : Int) = ix := by rw [← HIX.out, h1]; rfl
    have hkx := (List.getElem?_eq_some_iff.1 h2).1
    rw [HN.out] at hkx
    obtain ⟨a, rfl, hab, c0, B, cb, c1, hcb, hrb⟩ := HR.out.elem h2
    subst h4
    obtain ⟨nb, hnb⟩ : ∃ nb, x.2.length = nb := ⟨_, rfl⟩
    rw [hnb] at c1 hcb
    have HNB := Lib.hid hnb; have HRB := Lib.hid hrb
    have hki0 : (0 : Int) ≤ (kx : Int) := by omega
    have hki : (kx : Int) < (n : Int) := by omega
    have hk1 : ¬ (kx : Int) < 0 := by omega
    have HOF : Hid (r = if ln < 0 then none else x.2[ln.toNat]?) := Lib.hid (by rw [← HRR.out]; unfold ofB; rw [hg])
    clear h1 h2 h3 hg hnb hrb hcb
    by_cases hl : ln < 0
    · have HE : Hid (r = none) := Lib.hid (by rw [HOF.out, if_pos hl])
      go_wp2
      clear z0 z1 z2 z3 f0 f1 f2 f3
      have b4 := blk4 HB0.out (.int .i64 0) (.int .i64 0) (.int .i64 0) (.int .i64 0)
      have hb4 := below_set4 HBA.out HZ.out (.int .i64 0) (.int .i64 0) (.int .i64 0) (.int .i64 0)
      generalize ((((World.setCell w1 ⟨z, 0, none⟩ (.int .i64 0)).setCell ⟨z, 1, none⟩ (.int .i64 0)).setCell ⟨z, 2, none⟩ (.int .i64 0)).setCell ⟨z, 3, none⟩ (.int .i64 0)) = W4 at b4 hb4 ⊢
      have q0 : W4.cell? ⟨z, 0, none⟩ = some (.int .i64 0) := b4.cell 0 rfl
      have q1 : W4.cell? ⟨z, 1, none⟩ = some (.int .i64 0) := b4.cell 1 rfl
      have q2 : W4.cell? ⟨z, 2, none⟩ = some (.int .i64 0) := b4.cell 2 rfl
      have q3 : W4.cell? ⟨z, 3, none⟩ = some (.int .i64 0) := b4.cell 3 rfl
      refine bodyPost_ret (v := .tuple #[.agg #[.int .i64 0, .int .i64 0, .int .i64 0, .int .i64 0], .bool false]) (by simp [results, Tryz.results13, go_sem, q0, q1, q2, q3]) rfl ?_
      exact ofEnd (by rw [HE.out]; rfl) hb4
    · obtain ⟨q, rfl⟩ : ∃ q : Nat, ln = (q : Int) := ⟨ln.toNat, by omega⟩
      by_cases hq : q < nb
      · have hql : (q : Int) < (nb : Int) := by omega
        have hq2 : ¬ (nb : Int) ≤ (q : Int) := by omega
        obtain ⟨y, hy⟩ : ∃ y, x.2[q]? = some y := ⟨_, List.getElem?_eq_getElem (by rw [HNB.out]; exact hq)⟩
        have HE : Hid (r = some y) := Lib.hid (by rw [HOF.out, if_neg hl, Int.toNat_natCast, hy])
        obtain ⟨b, rfl, _, d0, d1, d2, d3⟩ := RdB.elem HRB.out hy
        clear hy
        go_wp2
        clear z0 z1 z2 z3 f0 f1 f2 f3
        have b4 := blk4 HB0.out (.int .i64 y.1.1.1) (.int .i64 y.1.1.2) (.int .i64 (y.1.2 : Int)) (.int .i64 (y.2 : Int))
        have hb4 := below_set4 HBA.out HZ.out (.int .i64 y.1.1.1) (.int .i64 y.1.1.2) (.int .i64 (y.1.2 : Int)) (.int .i64 (y.2 : Int))
        generalize ((((World.setCell w1 ⟨z, 0, none⟩ (.int .i64 y.1.1.1)).setCell ⟨z, 1, none⟩ (.int .i64 y.1.1.2)).setCell ⟨z, 2, none⟩ (.int .i64 (y.1.2 : Int))).setCell ⟨z, 3, none⟩ (.int .i64 (y.2 : Int))) = W4 at b4 hb4 ⊢
        have q0 : W4.cell? ⟨z, 0, none⟩ = some (.int .i64 y.1.1.1) := b4.cell 0 rfl
        have q1 : W4.cell? ⟨z, 1, none⟩ = some (.int .i64 y.1.1.2) := b4.cell 1 rfl
        have q2 : W4.cell? ⟨z, 2, none⟩ = some (.int .i64 (y.1.2 : Int)) := b4.cell 2 rfl
        have q3 : W4.cell? ⟨z, 3, none⟩ = some (.int .i64 (y.2 : Int)) := b4.cell 3 rfl
        refine bodyPost_ret (v := .tuple #[biV y, .bool true]) (by simp [results, Tryz.results13, go_sem, q0, q1, q2, q3]) rfl ?_
        exact ofEnd (by rw [HE.out]; rfl) hb4
      · have hql : ¬ (q : Int) < (nb : Int) := by omega
        have hq2 : (nb : Int) ≤ (q : Int) := by omega
        have HE : Hid (r = none) := Lib.hid (by rw [HOF.out, if_neg hl, Int.toNat_natCast, List.getElem?_eq_none (by rw [HNB.out]; omega)])
        go_wp2
        clear z0 z1 z2 z3 f0 f1 f2 f3
        have b4 := blk4 HB0.out (.int .i64 0) (.int .i64 0) (.int .i64 0) (.int .i64 0)
        have hb4 := below_set4 HBA.out HZ.out (.int .i64 0) (.int .i64 0) (.int .i64 0) (.int .i64 0)
        generalize ((((World.setCell w1 ⟨z, 0, none⟩ (.int .i64 0)).setCell ⟨z, 1, none⟩ (.int .i64 0)).setCell ⟨z, 2, none⟩ (.int .i64 0)).setCell ⟨z, 3, none⟩ (.int .i64 0)) = W4 at b4 hb4 ⊢
        have q0 : W4.cell? ⟨z, 0, none⟩ = some (.int .i64 0) := b4.cell 0 rfl
        have q1 : W4.cell? ⟨z, 1, none⟩ = some (.int .i64 0) := b4.cell 1 rfl
        have q2 : W4.cell? ⟨z, 2, none⟩ = some (.int .i64 0) := b4.cell 2 rfl
        have q3 : W4.cell? ⟨z, 3, none⟩ = some (.int .i64 0) := b4.cell 3 rfl
        refine bodyPost_ret (v := .tuple #[.agg #[.int .i64 0, .int .i64 0, .int .i64 0, .int .i64 0], .bool false]) (by simp [results, Tryz.results13, go_sem, q0, q1, q2, q3]) rfl ?_
        exact ofEnd (by rw [HE.out]; rfl) hb4

end Bm
end Go.Proofs.YtfnhjflocfmcoaaGreat

set_option maxRecDepth 100000
namespace Go.Proofs.YtfnhjflocfmcoaaGreat
open Go.RowKit
set_option linter.unusedVariables false
set_option linter.unusedSimpArgs false
namespace Bm
open Tx Df Sq Hk Tr Pr Fl Pn Tg

theorem of1 (s nm : List UInt8) (A : Option Addr) (n c b : Nat) (W : World) (hb : b < W.heap.size) (hc : W.cell? ⟨b, 0, none⟩ = some (strV nm)) :
    Calls Tryz.prog 24 #[.agg #[strV s, .slice A n c], .pointer (some ⟨b, 0, none⟩)] W (BoolEnd W (decide (s = nm))) := by
  go_enter Tryz.func24, Tryz.ntmps24
  go_wp2
  go_ret
  exact ⟨ret_bool (by rw [Bool.eq_iff_iff]; simp), (Below.refl _ _).alloc (Nat.le_refl _) _⟩

set_option maxHeartbeats 1000000 in
/-- slices.IndexFunc at the closure of Of. -/
theorem IndexO (nm : List UInt8) (A : Option Addr) (c n b : Nat) (o : OR) (w : World) (hn : o.length = n) (hln : n ≤ 100000) (hR : RdO w (· < w.heap.size) A o) (hb : b < w.heap.size) (hcb : w.cell? ⟨b, 0, none⟩ = some (strV nm)) :
    Calls Tryz.prog 23 #[.slice A n c, .func (.func 24) #[] #[.pointer (some ⟨b, 0, none⟩)]] w (IntEnd w (ixOV (ixO nm o))) := by
  have HN := Lib.hid hn; have HR := Lib.hid hR; have HC := Lib.hid hcb; have HB := Lib.hid hb
  clear hn hR hcb hb
  obtain ⟨iv, hiv⟩ : ∃ iv, ixOV (ixO nm o) = iv := ⟨_, rfl⟩
  rw [hiv]
  have HIV := Lib.hid hiv; clear hiv
  go_enter Tryz.func23, Tryz.ntmps23
  go_wp2_with fail
  go_loopw [8] (fun i wr => ∃ k : Nat, k ≤ n ∧ i = .int .i64 (k : Int) ∧ (∀ (j : Nat) y, o[j]? = some y → j < k → y.1 ≠ nm) ∧ Below w.heap.size w wr) (fun i _ => n - (intOf i).toNat)
  case atStart => exact ⟨0, Nat.zero_le _, rfl, fun j _ _ hj => by omega, Below.refl _ _⟩
  case round =>
    obtain ⟨k, hk, rfl, hall, hbw⟩ := hrel
    have HA := Lib.hid hall; have HBW := Lib.hid hbw; clear hall hbw
    by_cases hlt : k < n
    · have hki : (k : Int) < (n : Int) := by omega
      obtain ⟨x, hx⟩ : ∃ x, o[k]? = some x := ⟨_, List.getElem?_eq_getElem (by rw [HN.out]; exact hlt)⟩
      obtain ⟨a, rfl, hab, c0, A1, c1, h1, _, _⟩ := (RdO.mv HR.out HBW.out).elem hx
      generalize x.2.length = m at h1
      have HX := Lib.hid hx; clear hx hab
      have HCELL := Lib.hid ((HBW.out.cell (p := ⟨b, 0, none⟩) HB.out).trans HC.out)
      have HBR := Lib.hid (Nat.lt_of_lt_of_le HB.out HBW.out.size)
      obtain ⟨bl, hbl⟩ : ∃ bl, decide (x.1 = nm) = bl := ⟨_, rfl⟩
      have HBL := Lib.hid hbl; clear hbl
      go_wp2_with fail
      refine (of1 x.1 nm A1 m c1 b wr HBR.out HCELL.out).mono ?_
      rintro e w2 ⟨rfl, hb2⟩
      rw [HBL.out]
      have HB2 := Lib.hid (below_mv HBW.out hb2)
      clear hb2 c0 h1
      cases bl with
      | true =>
        have HE : Hid (iv = (k : Int)) := Lib.hid (by rw [← HIV.out, ixO_at HX.out (of_decide_eq_true HBL.out) HA.out]; rfl)
        go_wp2
        go_ret
        exact ⟨by rw [HE.out]; rfl, HB2.out⟩
      | false =>
        go_wp2
        go_roundw
        case rel =>
          exact ⟨k + 1, by omega, by go_num, fun j y hy hj => by
            by_cases e : j = k
            · subst e
              have h := HX.out
              rw [h] at hy
              injection hy with hy
              exact hy ▸ of_decide_eq_false HBL.out
            · exact HA.out j y hy (by omega), HB2.out⟩
        case measure => simp [intOf]; omega
    · obtain rfl : k = n := by omega
      have hki : ¬ (k : Int) < (k : Int) := by omega
      have HE : Hid (iv = -1) := Lib.hid (by rw [← HIV.out, ixO_no fun j y hy => HA.out j y hy (by rw [← HN.out]; exact (List.getElem?_eq_some_iff.1 hy).1)]; rfl)
      go_wp2
      go_ret
      exact ⟨by rw [HE.out]; rfl, HBW.out⟩

set_option maxHeartbeats 2000000 in
theorem OfC (s : List UInt8) (A : Option Addr) (c n : Nat) (o : OR) (ln : Int) (w : World) (hn : o.length = n) (hln : n ≤ 100000) (hR : RdO w (· < w.heap.size) A o) :
    Calls Tryz.prog 12 #[.slice A n c, strV s, .int .i64 ln] w (OfEndB w (ofB o s ln)) := by
  have bn := (Blk.new w 9 #[strV s]).alloc (.cells #[.int .i64 0, .int .i64 0, .int .i64 0, .int .i64 0] 33)
  have b0 := Blk.new (w.alloc (.cells #[strV s] 9)) 33 #[.int .i64 0, .int .i64 0, .int .i64 0, .int .i64 0]
  have hba := two_box w (.cells #[strV s] 9) (.cells #[.int .i64 0, .int .i64 0, .int .i64 0, .int .i64 0] 33)
  simp only [World.size_alloc] at b0
  have HN := Lib.hid hn; have HR := Lib.hid (RdO.mv hR hba); clear hn hR
  obtain ⟨r, hr⟩ : ∃ r, ofB o s ln = r := ⟨_, rfl⟩
  rw [hr]
  have HRR := Lib.hid hr; clear hr
  go_enter Tryz.func12, Tryz.ntmps12
  go_upto_region 1 with fail
  generalize ((w.alloc (.cells #[strV s] 9)).alloc (.cells #[.int .i64 0, .int .i64 0, .int .i64 0, .int .i64 0] 33)) = w1 at b0 bn hba HR ⊢
  obtain ⟨y0, hy0⟩ : ∃ y, w.heap.size = y := ⟨_, rfl⟩
  have HY0 := Lib.hid hy0
  rw [hy0] at bn b0 ⊢
  clear hy0
  obtain ⟨z, hz⟩ : ∃ z, y0 + 1 = z := ⟨_, rfl⟩
  have HZ : Hid (w.heap.size ≤ z) := Lib.hid (by rw [HY0.out]; omega)
  rw [hz] at b0 ⊢
  clear hz
  have HB0 := Lib.hid b0; have HBA := Lib.hid hba; have HBN := Lib.hid bn
  clear b0 hba bn
  have hlz := HB0.out.lt; have hly := HBN.out.lt
  go_wp2_with fail
  refine (IndexO s A c n y0 o w1 HN.out hln HR.out HBN.out.lt (HBN.out.cell 0 rfl)).mono ?_
  rintro e w2 ⟨rfl, hb2⟩
  replace HR := Lib.hid (RdO.mv HR.out hb2)
  replace HB0 := Lib.hid (HB0.out.below hb2 HB0.out.lt)
  replace HBA := Lib.hid (below_mv HBA.out hb2)
  have hlz2 := HB0.out.lt
  clear hb2 HBN hly hlz
  have z0 := HB0.out.cell 0 rfl; have z1 := HB0.out.cell 1 rfl; have z2 := HB0.out.cell 2 rfl; have z3 := HB0.out.cell 3 rfl
  have f0 := HB0.out.frozen 0; have f1 := HB0.out.frozen 1; have f2 := HB0.out.frozen 2; have f3 := HB0.out.frozen 3
  obtain ⟨ix, hix⟩ : ∃ ix, ixOV (ixO s o) = ix := ⟨_, rfl⟩
  rw [hix]
  have HIX := Lib.hid hix
  clear hix
  cases hg : get o s with
  | none =>
    obtain rfl : -1 = ix := by rw [← HIX.out, ixO_no fun j y hy e => get_none.1 hg y (List.mem_of_getElem? hy) e]; rfl
    have HE : Hid (r = none) := Lib.hid (by rw [← HRR.out]; unfold ofB; rw [hg])
    clear hg
    go_wp2
    clear z0 z1 z2 z3 f0 f1 f2 f3
    have b4 := blk4 HB0.out (.int .i64 0) (.int .i64 0) (.int .i64 0) (.int .i64 0)
    have hb4 := below_set4 HBA.out HZ.out (.int .i64 0) (.int .i64 0) (.int .i64 0) (.int .i64 0)
    generalize ((((World.setCell w2 ⟨z, 0, none⟩ (.int .i64 0)).setCell ⟨z, 1, none⟩ (.int .i64 0)).setCell ⟨z, 2, none⟩ (.int .i64 0)).setCell ⟨z, 3, none⟩ (.int .i64 0)) = W4 at b4 hb4 ⊢
    have q0 : W4.cell? ⟨z, 0, none⟩ = some (.int .i64 0) := b4.cell 0 rfl
    have q1 : W4.cell? ⟨z, 1, none⟩ = some (.int .i64 0) := b4.cell 1 rfl
    have q2 : W4.cell? ⟨z, 2, none⟩ = some (.int .i64 0) := b4.cell 2 rfl
    have q3 : W4.cell? ⟨z, 3, none⟩ = some (.int .i64 0) := b4.cell 3 rfl
    refine bodyPost_ret (v := .tuple #[.agg #[.int .i64 0, .int .i64 0, .int .i64 0, .int .i64 0], .bool false]) (by simp [results, Tryz.results12, go_sem, q0, q1, q2, q3]) rfl ?_
    exact ofEnd (by rw [HE.out]; rfl) hb4
  | some m =>
    obtain ⟨kx, x, h1, h2, h3, h4⟩ := ixO_get hg
    obtain rfl : (kx : Int) = ix := by rw [← HIX.out, h1]; rfl
    have hkx := (List.getElem?_eq_some_iff.1 h2).1
    rw [HN.out] at hkx
    obtain ⟨a, rfl, hab, c0, B, cb, c1, hcb, hrb⟩ := HR.out.elem h2
    subst h4
    obtain ⟨nb, hnb⟩ : ∃ nb, x.2.length = nb := ⟨_, rfl⟩
    rw [hnb] at c1 hcb
    have HNB := Lib.hid hnb; have HRB := Lib.hid hrb
    have hki0 : (0 : Int) ≤ (kx : Int) := by omega
    have hki : (kx : Int) < (n : Int) := by omega
    have hk1 : ¬ (kx : Int) < 0 := by omega
    have HOF : Hid (r = if ln < 0 then none else x.2[ln.toNat]?) := Lib.hid (by rw [← HRR.out]; unfold ofB; rw [hg])
    clear h1 h2 h3 hg hnb hrb hcb
    by_cases hl : ln < 0
    · have HE : Hid (r = none) := Lib.hid (by rw [HOF.out, if_pos hl])
      go_wp2
      clear z0 z1 z2 z3 f0 f1 f2 f3
      have b4 := blk4 HB0.out (.int .i64 0) (.int .i64 0) (.int .i64 0) (.int .i64 0)
      have hb4 := below_set4 HBA.out HZ.out (.int .i64 0) (.int .i64 0) (.int .i64 0) (.int .i64 0)
      generalize ((((World.setCell w2 ⟨z, 0, none⟩ (.int .i64 0)).setCell ⟨z, 1, none⟩ (.int .i64 0)).setCell ⟨z, 2, none⟩ (.int .i64 0)).setCell ⟨z, 3, none⟩ (.int .i64 0)) = W4 at b4 hb4 ⊢
      have q0 : W4.cell? ⟨z, 0, none⟩ = some (.int .i64 0) := b4.cell 0 rfl
      have q1 : W4.cell? ⟨z, 1, none⟩ = some (.int .i64 0) := b4.cell 1 rfl
      have q2 : W4.cell? ⟨z, 2, none⟩ = some (.int .i64 0) := b4.cell 2 rfl
      have q3 : W4.cell? ⟨z, 3, none⟩ = some (.int .i64 0) := b4.cell 3 rfl
      refine bodyPost_ret (v := .tuple #[.agg #[.int .i64 0, .int .i64 0, .int .i64 0, .int .i64 0], .bool false]) (by simp [results, Tryz.results12, go_sem, q0, q1, q2, q3]) rfl ?_
      exact ofEnd (by rw [HE.out]; rfl) hb4
    · obtain ⟨q, rfl⟩ : ∃ q : Nat, ln = (q : Int) := ⟨ln.toNat, by omega⟩
      by_cases hq : q < nb
      · have hql : (q : Int) < (nb : Int) := by omega
        have hq2 : ¬ (nb : Int) ≤ (q : Int) := by omega
        obtain ⟨y, hy⟩ : ∃ y, x.2[q]? = some y := ⟨_, List.getElem?_eq_getElem (by rw [HNB.out]; exact hq)⟩
        have HE : Hid (r = some y) := Lib.hid (by rw [HOF.out, if_neg hl, Int.toNat_natCast, hy])
        obtain ⟨b, rfl, _, d0, d1, d2, d3⟩ := RdB.elem HRB.out hy
        clear hy
        go_wp2
        clear z0 z1 z2 z3 f0 f1 f2 f3
        have b4 := blk4 HB0.out (.int .i64 y.1.1.1) (.int .i64 y.1.1.2) (.int .i64 (y.1.2 : Int)) (.int .i64 (y.2 : Int))
        have hb4 := below_set4 HBA.out HZ.out (.int .i64 y.1.1.1) (.int .i64 y.1.1.2) (.int .i64 (y.1.2 : Int)) (.int .i64 (y.2 : Int))
        generalize ((((World.setCell w2 ⟨z, 0, none⟩ (.int .i64 y.1.1.1)).setCell ⟨z, 1, none⟩ (.int .i64 y.1.1.2)).setCell ⟨z, 2, none⟩ (.int .i64 (y.1.2 : Int))).setCell ⟨z, 3, none⟩ (.int .i64 (y.2 : Int))) = W4 at b4 hb4 ⊢
        have q0 : W4.cell? ⟨z, 0, none⟩ = some (.int .i64 y.1.1.1) := b4.cell 0 rfl
        have q1 : W4.cell? ⟨z, 1, none⟩ = some (.int .i64 y.1.1.2) := b4.cell 1 rfl
        have q2 : W4.cell? ⟨z, 2, none⟩ = some (.int .i64 (y.1.2 : Int)) := b4.cell 2 rfl
        have q3 : W4.cell? ⟨z, 3, none⟩ = some (.int .i64 (y.2 : Int)) := b4.cell 3 rfl
        refine bodyPost_ret (v := .tuple #[biV y, .bool true]) (by simp [results, Tryz.results12, go_sem, q0, q1, q2, q3]) rfl ?_
        exact ofEnd (by rw [HE.out]; rfl) hb4
      · have hql : ¬ (q : Int) < (nb : Int) := by omega
        have hq2 : (nb : Int) ≤ (q : Int) := by omega
        have HE : Hid (r = none) := Lib.hid (by rw [HOF.out, if_neg hl, Int.toNat_natCast, List.getElem?_eq_none (by rw [HNB.out]; omega)])
        go_wp2
        clear z0 z1 z2 z3 f0 f1 f2 f3
        have b4 := blk4 HB0.out (.int .i64 0) (.int .i64 0) (.int .i64 0) (.int .i64 0)
        have hb4 := below_set4 HBA.out HZ.out (.int .i64 0) (.int .i64 0) (.int .i64 0) (.int .i64 0)
        generalize ((((World.setCell w2 ⟨z, 0, none⟩ (.int .i64 0)).setCell ⟨z, 1, none⟩ (.int .i64 0)).setCell ⟨z, 2, none⟩ (.int .i64 0)).setCell ⟨z, 3, none⟩ (.int .i64 0)) = W4 at b4 hb4 ⊢
        have q0 : W4.cell? ⟨z, 0, none⟩ = some (.int .i64 0) := b4.cell 0 rfl
        have q1 : W4.cell? ⟨z, 1, none⟩ = some (.int .i64 0) := b4.cell 1 rfl
        have q2 : W4.cell? ⟨z, 2, none⟩ = some (.int .i64 0) := b4.cell 2 rfl
        have q3 : W4.cell? ⟨z, 3, none⟩ = some (.int .i64 0) := b4.cell 3 rfl
        refine bodyPost_ret (v := .tuple #[.agg #[.int .i64 0, .int .i64 0, .int .i64 0, .int .i64 0], .bool false]) (by simp [results, Tryz.results12, go_sem, q0, q1, q2, q3]) rfl ?_
        exact ofEnd (by rw [HE.out]; rfl) hb4

end Bm
end Go.Proofs.YtfnhjflocfmcoaaGreat

set_option maxRecDepth 100000
namespace Go.Proofs.YtfnhjflocfmcoaaGreat
open Go.RowKit
set_option linter.unusedVariables false
set_option linter.unusedSimpArgs false
namespace Bm
open Tx Df Sq Hk Tr Pr Fl Pn Tg

theorem eq_bi (a b c d a' b' c' d' : Int) (w : World) : (Op.equalIn 10000 33 (.agg #[.int .i64 a, .int .i64 b, .int .i64 c, .int .i64 d]) (.agg #[.int .i64 a', .int .i64 b', .int .i64 c', .int .i64 d'])).run Tryz.prog w = .ok (decide ((a, b, c, d) = (a', b', c', d'))) w := by
  rw [show (10000 : Nat) = 9999 + 1 from rfl]
  go_simp
  by_cases h1 : a = a' <;> by_cases h2 : b = b' <;> by_cases h3 : c = c' <;> by_cases h4 : d = d' <;> simp [h1, h2, h3, h4]
theorem bi_ne {x y : Bi} (h : x ≠ y) : x.1.1.1 ≠ y.1.1.1 ∨ x.1.1.2 ≠ y.1.1.2 ∨ (x.1.2 : Int) ≠ (y.1.2 : Int) ∨ (x.2 : Int) ≠ (y.2 : Int) := by
  obtain ⟨⟨⟨a, b⟩, c⟩, d⟩ := x
  obtain ⟨⟨⟨a', b'⟩, c'⟩, d'⟩ := y
  dsimp only
  by_cases h1 : a = a'
  · by_cases h2 : b = b'
    · by_cases h3 : c = c'
      · refine .inr (.inr (.inr fun h4 => h ?_))
        rw [h1, h2, h3, Int.ofNat_inj.1 h4]
      · exact .inr (.inr (.inl fun e => h3 (Int.ofNat_inj.1 e)))
    · exact .inr (.inl h2)
  · exact .inl h1
attribute [local go_sem] eq_bi

set_option maxRecDepth 100000 in
set_option maxHeartbeats 4000000 in
theorem refSameB (A A' : Option Addr) (n c n' c' : Nat) (o u : OR) (w : World) (hn : o.length = n) (hn' : u.length = n') (hln : n ≤ 100000) (hm : ∀ x ∈ o, x.2.length ≤ 1000000) (hR : RdO w (· < w.heap.size) A o) (hR' : RdO w (· < w.heap.size) A' u) :
    Calls Tryz.prog 11 #[.slice A n c, .slice A' n' c'] w (BoolEnd w (decide (o = u))) := by
  have HN := Lib.hid hn; have HN' := Lib.hid hn'; have HR := Lib.hid hR; have HR' := Lib.hid hR'; have HM := Lib.hid hm
  clear hn hn' hR hR' hm
  by_cases h1 : n = n'
  · subst h1
    go_enter Tryz.func11, Tryz.ntmps11
    go_wp2
    go_loopw [5] (fun i wr => ∃ k : Nat, k ≤ n ∧ i = .int .i64 k ∧ o.take k = u.take k ∧ ∃ d, wr = w.drewN d) (fun i _ => n - (intOf i).toNat)
    case atStart => exact ⟨0, Nat.zero_le _, rfl, by simp, 0, rfl⟩
    case round =>
      obtain ⟨k, hk, rfl, hall, d, rfl⟩ := hrel
      have HA := Lib.hid hall; clear hall
      by_cases hlt : k < n
      · have hki : (k : Int) < (n : Int) := by omega
        have hki2 : (0 : Int) ≤ (k : Int) := by omega
        obtain ⟨x, hx⟩ : ∃ x, o[k]? = some x := ⟨_, List.getElem?_eq_getElem (by rw [HN.out]; exact hlt)⟩
        obtain ⟨y, hy⟩ : ∃ y, u[k]? = some y := ⟨_, List.getElem?_eq_getElem (by rw [HN'.out]; exact hlt)⟩
        obtain ⟨a, rfl, hab, c0, B, cb, c1, hcb, hrb⟩ := (RdO.mv HR.out (below_drewN (Below.refl _ _) d)).elem hx
        obtain ⟨a', rfl, hab', g0, B', cb', g1, hcb', hrb'⟩ := (RdO.mv HR'.out (below_drewN (Below.refl _ _) d)).elem hy
        have hml := HM.out x (List.mem_of_getElem? hx)
        have HNX : Hid (x = y → o.take (k + 1) = u.take (k + 1)) := Lib.hid (fun e => by rw [take_at hx, take_at hy, HA.out, e])
        have HNO : Hid (x ≠ y → decide (o = u) = false) := Lib.hid (fun e => decide_eq_false fun h => e (by subst h; rw [hx] at hy; injection hy))
        clear hx hy
        obtain ⟨xs, xl⟩ := x
        obtain ⟨ys, yl⟩ := y
        dsimp only at c0 c1 hcb hrb g0 g1 hcb' hrb' hml
        obtain ⟨m1, hm1⟩ : ∃ m, xl.length = m := ⟨_, rfl⟩
        obtain ⟨m2, hm2⟩ : ∃ m, yl.length = m := ⟨_, rfl⟩
        rw [hm1] at c1 hcb hml
        rw [hm2] at g1 hcb'
        have HM1 := Lib.hid hm1; have HM2 := Lib.hid hm2; have HRB := Lib.hid hrb; have HRB' := Lib.hid hrb'
        clear hm1 hm2 hrb hrb' hcb hcb' hab hab'
        have HW := Lib.hid (below_drewN (Below.refl w.heap.size w) d)
        have HWW : Hid (∃ d', w.drewN d = w.drewN d') := Lib.hid ⟨_, rfl⟩
        have HWD : Hid (∀ j, ∃ d', (w.drewN d).drewN j = w.drewN d') := Lib.hid (fun j => ⟨_, by rw [World.drewN_drewN]⟩)
        generalize w.drewN d = w1 at *
        by_cases he : xs = ys
        · subst he
          by_cases hl : m1 = m2
          · subst hl
            go_wp2
            go_quiet (fail)
            go_wp2_with fail
            go_loopw [6] (fun j wr => ∃ q : Nat, q ≤ m1 ∧ j = .int .i64 q ∧ xl.take q = yl.take q ∧ ∃ d, wr = w1.drewN d) (fun j _ => m1 - (intOf j).toNat)
            case atStart => exact ⟨0, Nat.zero_le _, rfl, by simp, _, rfl⟩
            case round =>
              obtain ⟨q, hq, rfl, hall2, d2, rfl⟩ := hrel
              have HA2 := Lib.hid hall2; clear hall2
              by_cases hlt2 : q < m1
              · have hqi : (q : Int) < (m1 : Int) := by omega
                have hqi2 : (0 : Int) ≤ (q : Int) := by omega
                obtain ⟨p, hp⟩ : ∃ p, xl[q]? = some p := ⟨_, List.getElem?_eq_getElem (by rw [HM1.out]; exact hlt2)⟩
                obtain ⟨r, hr⟩ : ∃ r, yl[q]? = some r := ⟨_, List.getElem?_eq_getElem (by rw [HM2.out]; exact hlt2)⟩
                obtain ⟨b, rfl, _, d0, d1, d2', d3⟩ := RdB.elem HRB.out hp
                obtain ⟨b', rfl, _, e0, e1, e2, e3⟩ := RdB.elem HRB'.out hr
                have HP := Lib.hid hp; have HRR := Lib.hid hr
                clear hp hr
                by_cases hpr : p = r
                · subst hpr
                  have HE : Hid (xl.take (q + 1) = yl.take (q + 1)) := Lib.hid (by rw [take_at HP.out, take_at HRR.out, HA2.out])
                  go_wp2
                  go_quiet (fail)
                  go_wp2
                  refine ⟨⟨q + 1, by omega, by go_num, HE.out, _, rfl⟩, by simp [intOf]; omega⟩
                · have HD : Hid (decide (o = u) = false) := Lib.hid (HNO.out (fun e => hpr (by
                    injection e with _ e
                    subst e
                    have h := HP.out
                    rw [HRR.out] at h
                    injection h with h
                    exact h.symm)))
                  have hdif := bi_ne hpr
                  clear hpr HP HRR
                  generalize p.1.1.1 = p1 at *
                  generalize p.1.1.2 = p2 at *
                  generalize ((p.1.2 : Nat) : Int) = p3 at *
                  generalize ((p.2 : Nat) : Int) = p4 at *
                  generalize r.1.1.1 = r1 at *
                  generalize r.1.1.2 = r2 at *
                  generalize ((r.1.2 : Nat) : Int) = r3 at *
                  generalize ((r.2 : Nat) : Int) = r4 at *
                  have hdd : ¬ (p1 = r1 ∧ p2 = r2 ∧ p3 = r3 ∧ p4 = r4) := fun ⟨e1, e2, e3, e4⟩ => by rcases hdif with h | h | h | h <;> exact h ‹_›
                  rcases hdif with h | h | h | h
                  all_goals
                    go_wp2
                    go_quiet (fail)
                    go_wp2
                    go_ret
                    exact ⟨ret_bool HD.out.symm, below_drewN (below_drewN HW.out _) _⟩
              · obtain rfl : q = m1 := by omega
                have HE : Hid (o.take (k + 1) = u.take (k + 1)) := Lib.hid (HNX.out (by
                  have h := HA2.out
                  rw [List.take_of_length_le (by rw [HM1.out]; exact Nat.le_refl _), List.take_of_length_le (by rw [HM2.out]; exact Nat.le_refl _)] at h
                  rw [h]))
                go_wp2
                refine ⟨⟨k + 1, by omega, by go_num, HE.out, HWD.out _⟩, by simp [intOf]; omega⟩
          · have HD : Hid (decide (o = u) = false) := Lib.hid (HNO.out (fun e => hl (by injection e with _ e; rw [← HM1.out, ← HM2.out, e])))
            have e4 : ((m1 : Int) != (m2 : Int)) = true := by rw [bne_iff_ne]; omega
            clear hl
            go_wp2
            go_quiet (fail)
            go_wp2
            go_ret
            exact ⟨ret_bool HD.out.symm, below_drewN HW.out _⟩
        · have HD : Hid (decide (o = u) = false) := Lib.hid (HNO.out (fun e => he (by injection e)))
          have h2 : (xs == ys) = false := by simpa using he
          have h3 : (xs != ys) = true := by simpa using he
          clear he
          go_wp2
          go_quiet (fail)
          go_wp2
          go_ret
          exact ⟨ret_bool HD.out.symm, below_drewN HW.out _⟩
      · have HD : Hid (decide (o = u) = true) := Lib.hid (by
          have := HA.out
          rw [List.take_of_length_le (by rw [HN.out]; omega), List.take_of_length_le (by rw [HN'.out]; omega)] at this
          exact decide_eq_true this)
        go_wp2
        go_ret
        exact ⟨ret_bool HD.out.symm, below_drewN (Below.refl _ _) _⟩
  · have HD : Hid (decide (o = u) = false) := Lib.hid (decide_eq_false (fun e => h1 (by rw [← HN.out, ← HN'.out, e])))
    have hne : ((n : Int) != (n' : Int)) = true := by rw [bne_iff_ne]; omega
    go_enter Tryz.func11, Tryz.ntmps11
    go_wp2
    go_ret
    exact ⟨ret_bool HD.out.symm, Below.refl _ _⟩

end Bm
end Go.Proofs.YtfnhjflocfmcoaaGreat

set_option maxRecDepth 100000
namespace Go.Proofs.YtfnhjflocfmcoaaGreat
open Go.RowKit
set_option linter.unusedVariables false
namespace Pn
open Tx Df Sq Hk Tr Pr Fl

def exA : Ch := ⟨0, [97], [], ⟨0, [], []⟩⟩
def exN : Nm := ⟨(0, 1), [], [], [exA]⟩
theorem ex_lt : Lt (allN [exN]) := fun x hx => by
  have : x = exA := by simpa [allN, exN] using hx
  rw [this]
  decide

/-- One patch in a block of its own is read as a list. -/
theorem rdN_lone {W : World} {N b : Nat} {D A : Option Addr} {dn dc n c : Nat} {x : Nm} (h : Blk W b 41 #[.int .i64 x.id.1, .int .i64 x.id.2, .slice D dn dc, strV x.txt, .slice A n c]) (hp : NV W N D dn dc A n c x) (hb : b < N) : RdN W N (some ⟨b, 0, none⟩) [x] :=
  .inr ⟨_, rfl, hb, fun k y hy => by
    cases k with
    | zero =>
      injection hy with hy
      subst hy
      have e : (⟨b, 0, none⟩ : Addr).add (0 * 5) = ⟨b, 0, none⟩ := rfl
      exact ⟨by rw [e]; exact h.cell 0 rfl, by rw [e]; exact h.cell 1 rfl, by rw [e]; exact h.cell 3 rfl, D, dn, dc, A, n, c, by rw [e]; exact h.cell 2 rfl, by rw [e]; exact h.cell 4 rfl, hp⟩
    | succ k => simp at hy⟩
theorem pg_ex (W : World) (S : Nat → Prop) : PG W S none 0 0 none 0 0 exA :=
  ⟨rfl, rfl, Nat.le_refl _, Nat.le_refl _, by decide, by decide, .inl rfl, .inl rfl, by unfold I64; decide, by unfold I64; decide, by decide, by decide, (fun x hx => by cases hx), (fun x hx => by cases hx)⟩
end Pn
end Go.Proofs.YtfnhjflocfmcoaaGreat

set_option maxRecDepth 100000
namespace Go.Proofs.YtfnhjflocfmcoaaGreat
open Go.RowKit
set_option linter.unusedVariables false
set_option linter.unusedSimpArgs false
namespace Bm
open Tx Df Sq Hk Tr Pr Fl Pn Tg

def exP : Ch := ⟨3, [97], [], ⟨0, [], [[120], [121]]⟩⟩
def exL : Nm := ⟨(0, 1), [], [], [exA, exP]⟩
def exO : OR := [([97], [(((0, 1), 1), 0), (((0, 1), 1), 1)])]
theorem ex_lt : Lt (allN [exL]) := fun x hx => by
  have : x = exA ∨ x = exP := by simpa [allN, exL] using hx
  rcases this with h | h
  · rw [h]; decide
  · rw [h]; decide
theorem ex_org : orgR [exL] = (0, exO) := by kernel_rfl
theorem ex_of : ofV (ofB exO [97] 1) = .tuple #[.agg #[.int .i64 0, .int .i64 1, .int .i64 1, .int .i64 1], .bool true] := rfl
theorem pg_exP {W : World} {S : Nat → Prop} {b : Nat} (h : RdG W S (some ⟨b, 0, none⟩) (exP.h.new.map strV)) : PG W S none 0 0 (some ⟨b, 0, none⟩) 2 2 exP :=
  ⟨rfl, rfl, Nat.le_refl _, Nat.le_refl _, by decide, by decide, .inl rfl, h, by unfold I64; decide, by unfold I64; decide, by decide, by decide, (fun x hx => by cases hx), (fun x hx => by
    have : x = [120] ∨ x = [121] := by simpa [exP] using hx
    rcases this with h | h <;> rw [h] <;> decide)⟩
abbrev exC (b : Nat) : Array Value := #[.int .i64 0, strV [97], strV [], .int .i64 0, .slice none 0 0, .slice none 0 0, .int .i64 3, strV [97], strV [], .int .i64 0, .slice none 0 0, .slice (some ⟨b, 0, none⟩) 2 2]
theorem rdP_two {W : World} {S : Nat → Prop} {b b' : Nat} (h : Blk W b 55 (exC b')) (hs : RdG W S (some ⟨b', 0, none⟩) (exP.h.new.map strV)) (hS : S b) : RdP W S (some ⟨b, 0, none⟩) [exA, exP] :=
  .inr ⟨_, rfl, hS, fun k y hy => by
    rcases k with _ | _ | k
    · injection hy with hy
      subst hy
      have e : (⟨b, 0, none⟩ : Addr).add (0 * 6) = ⟨b, 0, none⟩ := rfl
      exact ⟨by rw [e]; exact h.cell 0 rfl, by rw [e]; exact h.cell 1 rfl, by rw [e]; exact h.cell 2 rfl, by rw [e]; exact h.cell 3 rfl, none, 0, 0, none, 0, 0, by rw [e]; exact h.cell 4 rfl, by rw [e]; exact h.cell 5 rfl, pg_ex _ _⟩
    · injection hy with hy
      subst hy
      have e : (⟨b, 0, none⟩ : Addr).add ((0 + 1) * 6) = ⟨b, 6, none⟩ := rfl
      exact ⟨by rw [e]; exact h.cell 6 rfl, by rw [e]; exact h.cell 7 rfl, by rw [e]; exact h.cell 8 rfl, by rw [e]; exact h.cell 9 rfl, none, 0, 0, some ⟨b', 0, none⟩, 2, 2, by rw [e]; exact h.cell 10 rfl, by rw [e]; exact h.cell 11 rfl, pg_exP hs⟩
    · simp at hy⟩
theorem nv_exL {W : World} {N b : Nat} (h : RdP W (· < N) (some ⟨b, 0, none⟩) [exA, exP]) : NV W N none 0 0 (some ⟨b, 0, none⟩) 2 2 exL :=
  ⟨rfl, Nat.le_refl _, by decide, .inl rfl, by decide, rfl, Nat.le_refl _, by decide, h⟩
theorem rdG_two {W : World} {S : Nat → Prop} {b : Nat} (h : Blk W b 9 #[strV [120], strV [121]]) (hS : S b) : RdG W S (some ⟨b, 0, none⟩) (exP.h.new.map strV) :=
  .inr ⟨_, rfl, hS, fun j u hu => by
    rcases j with _ | _ | j
    · rw [add_zero']; exact h.cell 0 hu
    · exact h.cell 1 hu
    · simp [exP] at hu⟩

attribute [local go_sem] eq_bi
set_option maxRecDepth 100000 in
set_option maxHeartbeats 4000000 in
theorem awake (w : World) : Calls Tryz.prog 7 #[] w (BoolEnd w true) := by
  go_enter Tryz.func7, Tryz.ntmps7
  go_upto_region 2 with fail
  have b0 := ((Blk.new w 9 #[strV [120], strV [121]]).alloc (.cells (exC w.heap.size) 55)).alloc (.cells #[.int .i64 0, .int .i64 1, .slice none 0 0, strV [], .slice (some ⟨w.heap.size + 1, 0, none⟩) 2 2] 41)
  have b1 := (Blk.new (w.alloc (.cells #[strV [120], strV [121]] 9)) 55 (exC w.heap.size)).alloc (.cells #[.int .i64 0, .int .i64 1, .slice none 0 0, strV [], .slice (some ⟨w.heap.size + 1, 0, none⟩) 2 2] 41)
  have b2 := Blk.new ((w.alloc (.cells #[strV [120], strV [121]] 9)).alloc (.cells (exC w.heap.size) 55)) 41 #[.int .i64 0, .int .i64 1, .slice none 0 0, strV [], .slice (some ⟨w.heap.size + 1, 0, none⟩) 2 2]
  have hb := (two_box w (.cells #[strV [120], strV [121]] 9) (.cells (exC w.heap.size) 55)).alloc (by simp; omega) (.cells #[.int .i64 0, .int .i64 1, .slice none 0 0, strV [], .slice (some ⟨w.heap.size + 1, 0, none⟩) 2 2] 41)
  simp only [World.size_alloc] at b1 b2
  generalize (((w.alloc (.cells #[strV [120], strV [121]] 9)).alloc (.cells (exC w.heap.size) 55)).alloc (.cells #[.int .i64 0, .int .i64 1, .slice none 0 0, strV [], .slice (some ⟨w.heap.size + 1, 0, none⟩) 2 2] 41)) = w1 at b0 b1 b2 hb ⊢
  obtain ⟨z, hz⟩ : ∃ z, w.heap.size = z := ⟨_, rfl⟩
  rw [hz] at b0 b1 b2 ⊢
  have RP : Hid (RdP w1 (· < w1.heap.size) (some ⟨z + 1, 0, none⟩) [exA, exP]) := Lib.hid (rdP_two b1 (rdG_two b0 b0.lt) b1.lt)
  have B2 := Lib.hid b2; have HB := Lib.hid hb
  clear b0 b1 b2 hb hz
  have x0 := B2.out.cell 0 rfl; have x1 := B2.out.cell 1 rfl; have x2 := B2.out.cell 2 rfl; have x3 := B2.out.cell 3 rfl; have x4 := B2.out.cell 4 rfl
  go_wp2_with fail
  have hb2 : Below w1.heap.size w1 (w1.alloc (.cells #[.int .i64 0, .int .i64 1, .slice none 0 0, strV [], .slice (some ⟨z + 1, 0, none⟩) 2 2] 41)) := (Below.refl _ _).alloc (Nat.le_refl _) _
  have b3 := Blk.new w1 41 #[.int .i64 0, .int .i64 1, .slice none 0 0, strV [], .slice (some ⟨z + 1, 0, none⟩) 2 2]
  generalize (w1.alloc (.cells #[.int .i64 0, .int .i64 1, .slice none 0 0, strV [], .slice (some ⟨z + 1, 0, none⟩) 2 2] 41)) = w2 at hb2 b3 ⊢
  replace RP := Lib.hid (RP.out.mv hb2); replace B2 := Lib.hid (B2.out.below hb2 B2.out.lt); replace HB := Lib.hid (below_mv HB.out hb2)
  have RN : Hid (RdN w2 w2.heap.size (some ⟨w1.heap.size, 0, none⟩) [exL]) := Lib.hid (rdN_lone b3 (nv_exL RP.out) b3.lt)
  clear x0 x1 x2 x3 x4 hb2 b3
  refine (OrgsC (some ⟨w1.heap.size, 0, none⟩) 1 1 [exL] w2 rfl (by decide) (by decide) ex_lt RN.out 0 exO ex_org).mono ?_
  rintro e w3 ⟨A3, n3, c3, rfl, hn3, hc3, hr3, hb3⟩
  dsimp only at hn3 hr3 ⊢
  have HN3 := Lib.hid hn3; have HR3 := Lib.hid hr3
  replace B2 := Lib.hid (B2.out.below hb3 B2.out.lt); replace HB := Lib.hid (below_mv HB.out hb3)
  clear hn3 hc3 hr3 hb3 RN RP
  go_wp2_with fail
  refine (OfC [97] A3 c3 n3 exO 1 w3 HN3.out (by rw [← HN3.out]; decide) HR3.out).mono ?_
  rintro e w4 ⟨rfl, hb4⟩
  rw [ex_of]
  replace B2 := Lib.hid (B2.out.below hb4 B2.out.lt); replace HB := Lib.hid (below_mv HB.out hb4)
  clear hb4 HN3 HR3
  go_upto_region 4 with fail
  have hb5 : Below w4.heap.size w4 (w4.alloc (.cells #[.int .i64 0, .int .i64 1, .int .i64 1, .int .i64 1] 33)) := (Below.refl _ _).alloc (Nat.le_refl _) _
  have b5 := Blk.new w4 33 #[.int .i64 0, .int .i64 1, .int .i64 1, .int .i64 1]
  generalize (w4.alloc (.cells #[.int .i64 0, .int .i64 1, .int .i64 1, .int .i64 1] 33)) = w5 at hb5 b5 ⊢
  replace B2 := Lib.hid (B2.out.below hb5 B2.out.lt); replace HB := Lib.hid (below_mv HB.out hb5)
  have x0 := B2.out.cell 0 rfl; have x1 := B2.out.cell 1 rfl
  have y0 := b5.cell 0 rfl; have y1 := b5.cell 1 rfl; have y2 := b5.cell 2 rfl; have y3 := b5.cell 3 rfl
  go_wp2
  go_ret
  exact ⟨rfl, HB.out⟩

end Bm
end Go.Proofs.YtfnhjflocfmcoaaGreat

set_option maxRecDepth 100000
namespace Go.Proofs.YtfnhjflocfmcoaaGreat
open Go.RowKit
set_option linter.unusedVariables false
set_option linter.unusedSimpArgs false
namespace Pn
open Tx Df Sq Hk Tr Pr Fl
attribute [local go_sem] eq_id

/-- A patch in a block of its own. -/
abbrev nmC (p : Nm) (D : Option Addr) (dn dc : Nat) (A : Option Addr) (n c : Nat) : Array Value := #[.int .i64 p.id.1, .int .i64 p.id.2, .slice D dn dc, strV p.txt, .slice A n c]

end Pn
end Go.Proofs.YtfnhjflocfmcoaaGreat

set_option maxRecDepth 100000
namespace Go.Proofs.YtfnhjflocfmcoaaGreat
open Go.RowKit Go.Shelf
set_option linter.unusedVariables false
namespace Fl
open Tx Rg
attribute [local go_sem] Oper.semAt_some

/-- Places from the last one on. -/
def dn (m : Nat) : List Nat := (List.range m).reverse
section
variable {Bs m : Nat} {A : Option Addr}
end

/-- What is handed over. -/
def EL (m : Nat) (A : Option Addr) (i : Nat) (vals : Array Value) (W : World) : Prop := i < m ∧ ∃ a v0 v1 v2 v3 v4 v5, A = some a ∧ vals = #[.int .i64 (i : Int), .agg #[v0, v1, v2, v3, v4, v5]] ∧
  W.cell? (a.add (i * 6)) = some v0 ∧ W.cell? ⟨(a.add (i * 6)).block, (a.add (i * 6)).off + 1, none⟩ = some v1 ∧ W.cell? ⟨(a.add (i * 6)).block, (a.add (i * 6)).off + 2, none⟩ = some v2 ∧
  W.cell? ⟨(a.add (i * 6)).block, (a.add (i * 6)).off + 3, none⟩ = some v3 ∧ W.cell? ⟨(a.add (i * 6)).block, (a.add (i * 6)).off + 4, none⟩ = some v4 ∧ W.cell? ⟨(a.add (i * 6)).block, (a.add (i * 6)).off + 5, none⟩ = some v5

end Fl
end Go.Proofs.YtfnhjflocfmcoaaGreat

set_option maxRecDepth 100000
namespace Go.Proofs.YtfnhjflocfmcoaaGreat
open Go.RowKit
set_option linter.unusedVariables false
set_option linter.unusedSimpArgs false
namespace Fl
open Tx Df Sq Hk Tr Pr

/-- The cells of one change within a row's. -/
def CellsAt (W : World) (S : Nat → Prop) (xs : List Value) (k : Nat) (x : Ch) : Prop :=
  ∃ A n c B m d, xs[k * 6]? = some (.int .i64 x.k) ∧ xs[k * 6 + 1]? = some (strV x.nm) ∧ xs[k * 6 + 2]? = some (strV x.to) ∧ xs[k * 6 + 3]? = some (.int .i64 x.h.pos) ∧ xs[k * 6 + 4]? = some (.slice A n c) ∧ xs[k * 6 + 5]? = some (.slice B m d) ∧ PG W S A n c B m d x
section
variable {W : World} {S T : Nat → Prop} {xs : List Value} {k p : Nat} {x y : Ch}
theorem cellsAt_set (h : CellsAt W S xs p y) (hp : p ≠ k) (u u' : Value) : CellsAt W S ((xs.set (k * 6 + 4) u).set (k * 6 + 5) u') p y := by
  obtain ⟨A, n, c, B, m, d, h0, h1, h2, h3, h4, h5, h6⟩ := h
  have key : ∀ b, b < 6 → ((xs.set (k * 6 + 4) u).set (k * 6 + 5) u')[p * 6 + b]? = xs[p * 6 + b]? := fun b hb => by
    rw [List.getElem?_set_ne (by omega), List.getElem?_set_ne (by omega)]
  exact ⟨A, n, c, B, m, d, (key 0 (by decide)).trans h0, (key 1 (by decide)).trans h1, (key 2 (by decide)).trans h2, (key 3 (by decide)).trans h3, (key 4 (by decide)).trans h4, (key 5 (by decide)).trans h5, h6⟩
theorem cellsAt_new {A B : Option Addr} {n c m d : Nat} (h : CellsAt W T xs k x) (hl : k * 6 + 5 < xs.length) (hy : PG W S A n c B m d x) : CellsAt W S ((xs.set (k * 6 + 4) (.slice A n c)).set (k * 6 + 5) (.slice B m d)) k x := by
  obtain ⟨_, _, _, _, _, _, h0, h1, h2, h3, _, _, _⟩ := h
  refine ⟨A, n, c, B, m, d, ?_, ?_, ?_, ?_, ?_, ?_, hy⟩
  · rw [List.getElem?_set_ne (by omega), List.getElem?_set_ne (by omega)]; exact h0
  · rw [List.getElem?_set_ne (by omega), List.getElem?_set_ne (by omega)]; exact h1
  · rw [List.getElem?_set_ne (by omega), List.getElem?_set_ne (by omega)]; exact h2
  · rw [List.getElem?_set_ne (by omega), List.getElem?_set_ne (by omega)]; exact h3
  · rw [List.getElem?_set_ne (by omega), List.getElem?_set_self (by omega)]
  · rw [List.getElem?_set_self (by rw [List.length_set]; exact hl)]
end

/-- Blocks made behind w that are not the row. -/
def Fresh (w W : World) (row : Option Nat) : Nat → Prop := fun b => w.heap.size ≤ b ∧ b < W.heap.size ∧ some b ≠ row
theorem fresh_up {w W W' : World} {row : Option Nat} (hs : W.heap.size ≤ W'.heap.size) : ∀ b, Fresh w W row b → Fresh w W' row b := fun b h => ⟨h.1, Nat.lt_of_lt_of_le h.2.1 hs, h.2.2⟩
theorem fresh_out {w W : World} {row : Option Nat} : ∀ b, Fresh w W row b → Out W row b := fun b h => ⟨h.2.1, h.2.2⟩

/-- A row of changes, the first k of them with lines of their own. -/
def OwnK (w W : World) (v : Value) (l : List Ch) (k : Nat) : Prop := ∃ xs, W.ownsRow w.heap.size 55 6 v l.length xs ∧ PCells W (Fresh w W v.ownBlock) (l.take k) xs ∧ PCells W (Out W v.ownBlock) l xs
section
variable {w W W' : World} {v : Value} {l : List Ch} {k : Nat}
theorem OwnK.own (h : OwnK w W v l k) : OwnP W w.heap.size v l := by
  obtain ⟨xs, h1, h2, h3⟩ := h
  exact ⟨xs, h1, h3⟩
theorem OwnK.done (h : OwnK w W v l k) (hk : l.length ≤ k) : OwnS W (Fresh w W v.ownBlock) w.heap.size v l := by
  obtain ⟨xs, h1, h2, h3⟩ := h
  rw [List.take_of_length_le hk] at h2
  exact ⟨xs, h1, h2⟩
theorem OwnK.below (h : OwnK w W v l k) (hb : Below W.heap.size W W') : OwnK w W' v l k := by
  obtain ⟨xs, h1, h2, h3⟩ := h
  exact ⟨xs, own_gr h1 (below_gr_row hb), (h2.to (fun b _ hl => hb.block b hl)).mono (fresh_up hb.size), (h3.to (fun b _ hl => hb.block b hl)).mono (out_up hb.size)⟩
theorem OwnK.step {g n cap : Nat} {x : Ch} {D D' : Option Addr} {m d m' d' : Nat} (h : OwnK w W (.slice (some ⟨g, 0, none⟩) n cap) l k) (hx : l[k]? = some x) (hy : PG W (Fresh w W (some g)) D m d D' m' d' x) :
    OwnK w ((W.setCell ⟨g, k * 6 + 4, none⟩ (.slice D m d)).setCell ⟨g, k * 6 + 5, none⟩ (.slice D' m' d')) (.slice (some ⟨g, 0, none⟩) n cap) l (k + 1) := by
  obtain ⟨xs, hr, h2, h3⟩ := h
  have hn : l.length = n := by
    rcases hr.2 with ⟨h0, _⟩ | ⟨g', cap', cur, h0, _⟩
    · cases h0
    · injection h0 with _ h0; exact h0.symm
  subst hn
  have hk : k < l.length := (List.getElem?_eq_some_iff.1 hx).1
  have hxl := hr.1
  obtain ⟨r1, g1⟩ := hr.stored (k * 6 + 4) (.slice D m d)
  obtain ⟨r2, g2⟩ := r1.stored (k * 6 + 5) (.slice D' m' d')
  have al : ∀ (S : Nat → Prop), (∀ b, S b → b ≠ g) → Alike S W ((W.setCell ⟨g, k * 6 + 4, none⟩ (.slice D m d)).setCell ⟨g, k * 6 + 5, none⟩ (.slice D' m' d')) := fun S hS b hb hl =>
    (alike_set _ g _ _ b (hS b hb) (by simp; exact hl)).trans (alike_set W g _ _ b (hS b hb) hl)
  have sz : W.heap.size ≤ ((W.setCell ⟨g, k * 6 + 4, none⟩ (.slice D m d)).setCell ⟨g, k * 6 + 5, none⟩ (.slice D' m' d')).heap.size := by simp
  have c0 : CellsAt W (Out W (some g)) xs k x := h3 k x hx
  refine ⟨_, r2, ?_, ?_⟩
  · refine (PCells.to (W := W) (S := Fresh w W (some g)) ?_ (al _ fun b hb e => hb.2.2 (by rw [e]))).mono (fresh_up sz)
    intro p y hy'
    rw [List.getElem?_take] at hy'
    by_cases e : p = k
    · subst e
      rw [if_pos (by omega)] at hy'
      rw [hx] at hy'
      injection hy' with hy'
      subst hy'
      exact cellsAt_new c0 (by omega) hy
    · have hp : p < k := by
        by_cases hp : p < k + 1
        · omega
        · rw [if_neg hp] at hy'; cases hy'
      rw [if_pos (by omega)] at hy'
      exact cellsAt_set (h2 p y (by rw [List.getElem?_take, if_pos hp]; exact hy')) e _ _
  · refine (PCells.to (W := W) (S := Out W (some g)) ?_ (al _ fun b hb e => hb.2 (by rw [e]))).mono (out_up sz)
    intro p y hy'
    by_cases e : p = k
    · subst e
      rw [hx] at hy'
      injection hy' with hy'
      subst hy'
      exact cellsAt_new c0 (by omega) (hy.mono fresh_out)
    · exact cellsAt_set (h3 p y hy') e _ _
end

end Fl
end Go.Proofs.YtfnhjflocfmcoaaGreat

set_option maxRecDepth 100000
namespace Go.Proofs.YtfnhjflocfmcoaaGreat
open Go.RowKit Go.Shelf
set_option linter.unusedVariables false
set_option linter.unusedSimpArgs false
namespace Fl
open Tx Df Sq Hk Tr Pr Rg
attribute [local go_sem] Oper.semAt_some

/-- The cells of a change. -/
abbrev cellsV (x : Ch) (A : Option Addr) (n c : Nat) (B : Option Addr) (m d : Nat) : Array Value := #[.int .i64 x.k, strV x.nm, strV x.to, .int .i64 x.h.pos, .slice A n c, .slice B m d]
abbrev zeroV : Array Value := #[.int .i64 0, .string ⟨#[]⟩, .string ⟨#[]⟩, .int .i64 0, .slice none 0 0, .slice none 0 0]

theorem EL.row {X : World} {S : Nat → Prop} {base n c i : Nat} {A : Option Addr} {L : List Ch} {vals : Array Value} (h : EL n A i vals X) (hr : OwnS X S base (.slice A n c) L) (hL : L.length = n) :
    ∃ p g B r s B' r' s', A = some ⟨g, 0, none⟩ ∧ L[i]? = some p ∧ vals = #[.int .i64 (i : Int), .agg (cellsV p B r s B' r' s')] ∧ PG X S B r s B' r' s' p ∧ base ≤ g ∧ g < X.heap.size := by
  obtain ⟨hi, a, v0, v1, v2, v3, v4, v5, rfl, rfl, c0, c1, c2, c3, c4, c5⟩ := h
  have hr0 := hr
  obtain ⟨xs, hrow, _⟩ := hr0
  rcases hrow.2 with ⟨e, _⟩ | ⟨g, cap, cur, e, hbg, hgb, hc, _⟩
  · cases e
  · injection e with e1 e2 e3
    injection e1 with e1
    subst e1
    obtain ⟨p, hp⟩ : ∃ p, L[i]? = some p := ⟨_, List.getElem?_eq_getElem (by omega)⟩
    obtain ⟨B, r, s, B', r', s', g0, g1, g2, g3, g4, g5, _, hpg⟩ := hr.elem hL hp
    have ea : (⟨g, 0, none⟩ : Addr).add (i * 6) = ⟨g, i * 6, none⟩ := by unfold Addr.add; split <;> simp_all
    rw [ea] at c0 c1 c2 c3 c4 c5
    have e0 := Option.some.inj (c0.symm.trans g0)
    have e1 := Option.some.inj (c1.symm.trans g1)
    have e2 := Option.some.inj (c2.symm.trans g2)
    have e3 := Option.some.inj (c3.symm.trans g3)
    have e4 := Option.some.inj (c4.symm.trans g4)
    have e5 := Option.some.inj (c5.symm.trans g5)
    subst e0 e1 e2 e3 e4 e5
    exact ⟨p, g, B, r, s, B', r', s', rfl, hp, rfl, hpg, hbg, (Array.getElem?_eq_some_iff.1 hgb).1⟩
/-- Between two rounds. -/
structure ThI (w : World) (R : Nat → Prop) (base : Nat) (v : Value) (l : List Ch) (q : Ch) (j : Nat) (x : Ch) (post : List Ch) (D : Option Addr) (m k : Nat) (D' : Option Addr) (m' k' : Nat) (W : World) : Prop where
  eq : one passP (l.drop j) q = some (x, post)
  lx : lightP x = true
  row : OwnS W (But W R) base v (l.take j ++ post)
  pg : PG W (But W R) D m k D' m' k' x
  bl : Blk W w.heap.size 39 #[v]
  bq : Blk W (w.heap.size + 1) 55 (cellsV x D m k D' m' k')
  br : Blk W (w.heap.size + 1 + 1) 55 zeroV
  bb : Blk W (w.heap.size + 1 + 1 + 1) 4 #[.bool false]
  fr : w.grownBy W v.ownBlock
section
variable {w : World} {R : Nat → Prop} {base B n : Nat} {v : Value} {l : List Ch} {q : Ch}
end

theorem ThI.mv {w W W' : World} {R : Nat → Prop} {base j m k m' k' : Nat} {v : Value} {l post : List Ch} {q x : Ch} {D D' : Option Addr} (h : ThI w R base v l q j x post D m k D' m' k' W) (hb : Below W.heap.size W W') : ThI w R base v l q j x post D m k D' m' k' W' :=
  ⟨h.eq, h.lx, (h.row.below hb).mono (but_up hb.size), (h.pg.to_ (fun b _ hl => hb.block b hl)).mono (but_up hb.size), h.bl.below hb h.bl.lt, h.bq.below hb h.bq.lt, h.br.below hb h.br.lt, h.bb.below hb h.bb.lt, grow_trans h.fr (below_gr_row hb) (fun i e => by cases e)⟩
section
variable {w W W' : World} {r : Option Nat} {b : Nat}
end

end Fl
end Go.Proofs.YtfnhjflocfmcoaaGreat

set_option maxRecDepth 100000
namespace Go.Proofs.YtfnhjflocfmcoaaGreat
open Go.RowKit
set_option linter.unusedVariables false
set_option linter.unusedSimpArgs false
namespace Fl
open Tx Df Sq Hk Tr Pr

/-- The rows of both lists, and what there was ahead of the call. -/
def Two (lo : Nat) (v u : Value) : Nat → Prop := fun b => b < lo ∨ some b = v.ownBlock ∨ some b = u.ownBlock

/-- How a call of Pass ends that tells x, y and bo, in memory that is new. -/
def LPassEndH (w : World) (x y : List Ch) (bo : Bool) (e : Ending) (w' : World) : Prop :=
  ∃ A c B d, e = .returned (.tuple #[.slice A x.length c, .slice B y.length d, .bool bo]) ∧ x.length ≤ c ∧ y.length ≤ d ∧ RdP w' (fun b => w.heap.size ≤ b ∧ b < w'.heap.size) A x ∧ RdP w' (fun b => w.heap.size ≤ b ∧ b < w'.heap.size) B y ∧ Below w.heap.size w w'
theorem LPassEndH.end_ {w w' : World} {x y : List Ch} {bo : Bool} {e : Ending} (h : LPassEndH w x y bo e w') : LPassEnd w x y bo e w' := by
  obtain ⟨A, c, B, d, h1, _, _, h2, h3, h4⟩ := h
  exact ⟨A, c, B, d, h1, h2.mono fun b hb => hb.2, h3.mono fun b hb => hb.2, h4⟩
section
variable {w w' : World} {x y x' y' : List Ch} {bo : Bool} {o : Option (List Ch × List Ch)}
end

/-- Between two rounds of Pass. -/
structure PassI (w W : World) (base : Nat) (Ab Aa : Option Addr) (n n' ca cb : Nat) (a b : List Ch) (k : Nat) (x cur : List Ch) : Prop where
  eq : passF a (b.take k) = some (x, cur)
  lenx : x.length = k
  len : cur.length = n
  lt : Lt cur
  ahead : OwnS W (But W (Two w.heap.size (.slice Ab n' cb) (.slice Aa n ca))) w.heap.size (.slice Ab n' cb) (x ++ b.drop k)
  behind : OwnS W (But W (Two w.heap.size (.slice Ab n' cb) (.slice Aa n ca))) base (.slice Aa n ca) cur
  sep : ∀ g, (Value.slice Ab n' cb).ownBlock = some g → g < base
  bw : Below w.heap.size w W
  hb : w.heap.size ≤ base

theorem PassI.ne {w W : World} {base : Nat} {Ab Aa : Option Addr} {n n' ca cb k : Nat} {a b x cur : List Ch} (h : PassI w W base Ab Aa n n' ca cb a b k x cur) : ∀ g, (Value.slice Ab n' cb).ownBlock = some g → (Value.slice Aa n ca).ownBlock ≠ some g := fun g hg e => by
  have h1 := h.sep g hg
  have h2 := ownS_ge h.behind g e
  omega

end Fl
end Go.Proofs.YtfnhjflocfmcoaaGreat

set_option maxRecDepth 100000
namespace Go.Proofs.YtfnhjflocfmcoaaGreat
open Go.RowKit Go.Shelf
set_option linter.unusedVariables false
namespace Tg
open Tx Rg Fl Pn
attribute [local go_sem] Oper.semAt_some

section
variable {Bs m : Nat} {A : Option Addr}
end

/-- What is handed over. -/
def EN (m : Nat) (A : Option Addr) (i : Nat) (vals : Array Value) (W : World) : Prop := i < m ∧ ∃ a v0 v1 v2 v3 v4, A = some a ∧ vals = #[.int .i64 (i : Int), .agg #[v0, v1, v2, v3, v4]] ∧
  W.cell? (a.add (i * 5)) = some v0 ∧ W.cell? ⟨(a.add (i * 5)).block, (a.add (i * 5)).off + 1, none⟩ = some v1 ∧ W.cell? ⟨(a.add (i * 5)).block, (a.add (i * 5)).off + 2, none⟩ = some v2 ∧
  W.cell? ⟨(a.add (i * 5)).block, (a.add (i * 5)).off + 3, none⟩ = some v3 ∧ W.cell? ⟨(a.add (i * 5)).block, (a.add (i * 5)).off + 4, none⟩ = some v4

end Tg
end Go.Proofs.YtfnhjflocfmcoaaGreat

set_option maxRecDepth 100000
namespace Go.Proofs.YtfnhjflocfmcoaaGreat
open Go.RowKit Go.Shelf
set_option linter.unusedVariables false
set_option linter.unusedSimpArgs false
namespace Tg
open Tx Df Sq Hk Tr Pr Rg Fl Pn

abbrev noC : Array Value := #[.int .i64 0, .int .i64 0, .slice none 0 0, .string ⟨#[]⟩, .slice none 0 0]
/-- What there was ahead of Over, and the blocks that it keeps for itself: boxes, the first one's box, the row, the row's box. -/
def OvR (z F g : Nat) : Nat → Prop := fun b => b < z + 4 ∨ b = F ∨ b = g ∨ b = g + 1
/-- What is told lies at places that patches may have. -/
structure OvI (w : World) (z F g n : Nat) (A : Option Addr) (l : List Nm) (q : Nm) (dn m j : Nat) (x : Nm) (post : List Nm) (D : Option Addr) (dc : Nat) (E : Option Addr) (k : Nat) (W : World) : Prop where
  pos : w.heap.size = z ∧ z + 4 ≤ F ∧ F < g
  eq : overN (l.drop j) q = some (x, post)
  lx : Lt x.l
  row : OwnT W (But W (OvR z F g)) w.heap.size (.slice (some ⟨g, 0, none⟩) n n) (List.replicate j noN ++ post)
  ng : NG W (But W (OvR z F g)) D dn dc E m k x
  bf : Blk W F 41 (nmC x D dn dc E m k)
  r0 : Blk W (z + 1) 41 noC
  r1 : Blk W (z + 1 + 1) 22 #[.slice none 0 0]
  r2 : Blk W (z + 1 + 1 + 1) 4 #[.bool false]
  bb : Blk W (g + 1) 22 #[.slice (some ⟨g, 0, none⟩) n n]
  ls : RdN W z A l
  fr : Below w.heap.size w W
section
variable {W W' : World} {B : Nat} {A D E : Option Addr} {dn dc n c : Nat} {p : Nm} {l : List Nm}
theorem NV.kc_ (h : NV W B D dn dc A n c p) (hk : KeepC (fun _ => True) W W') : NV W' B D dn dc A n c p := ((ng_of h).kc fun b c t f _ hb => hk b c t f trivial hb).nv
theorem RdN.kc_ (h : RdN W B A l) (hk : KeepC (fun _ => True) W W') : RdN W' B A l := h.imp id fun ⟨a, e, h1, h2⟩ => ⟨a, e, h1, fun k x hx => by
  obtain ⟨c0, c1, c3, D, dn, dc, A, n, c, c2, c4, c5⟩ := h2 k x hx
  exact ⟨hk.cell trivial c0, hk.cell trivial c1, hk.cell trivial c3, D, dn, dc, A, n, c, hk.cell trivial c2, hk.cell trivial c4, NV.kc_ c5 hk⟩⟩
end
section
variable {w : World} {z F g n B : Nat} {A : Option Addr} {l : List Nm} {q : Nm} {dn m : Nat}
end
theorem EN.rd {X : World} {B n i : Nat} {A : Option Addr} {l : List Nm} {vals : Array Value} (h : EN n A i vals X) (hr : RdN X B A l) (hl : l.length = n) :
    ∃ p D dn dc E m k, l[i]? = some p ∧ vals = #[.int .i64 (i : Int), .agg (nmC p D dn dc E m k)] ∧ NV X B D dn dc E m k p := by
  obtain ⟨hi, a, v0, v1, v2, v3, v4, rfl, rfl, c0, c1, c2, c3, c4⟩ := h
  obtain ⟨a', p, D, dn, dc, E, m, k, e, _, hp, g0, g1, g2, g3, g4, hv⟩ := hr.elem (k := i) (by omega)
  injection e with e
  subst e
  have e0 := Option.some.inj (c0.symm.trans g0)
  have e1 := Option.some.inj (c1.symm.trans g1)
  have e2 := Option.some.inj (c2.symm.trans g2)
  have e3 := Option.some.inj (c3.symm.trans g3)
  have e4 := Option.some.inj (c4.symm.trans g4)
  subst e0 e1 e2 e3 e4
  exact ⟨p, D, dn, dc, E, m, k, hp, rfl, hv⟩
section
variable {w W W' X : World} {r : Option Nat} {B b g k : Nat} {v0 v1 v2 v3 v4 : Value}
end
theorem OvI.mv {w W W' : World} {z F g n : Nat} {A : Option Addr} {l : List Nm} {q : Nm} {dn m j : Nat} {x : Nm} {post : List Nm} {D : Option Addr} {dc : Nat} {E : Option Addr} {k : Nat} (h : OvI w z F g n A l q dn m j x post D dc E k W) (hb : Below W.heap.size W W') : OvI w z F g n A l q dn m j x post D dc E k W' :=
  ⟨h.pos, h.eq, h.lx, (h.row.below hb).mono (but_up hb.size), (h.ng.to_ (fun b _ hl => hb.block b hl)).mono (but_up hb.size), h.bf.below hb h.bf.lt, h.r0.below hb h.r0.lt, h.r1.below hb h.r1.lt, h.r2.below hb h.r2.lt, h.bb.below hb h.bb.lt, h.ls.below (hb.mono (by have := h.pos; have := h.r0.lt; omega)), below_mv h.fr hb⟩

end Tg
end Go.Proofs.YtfnhjflocfmcoaaGreat

set_option maxRecDepth 100000
namespace Go.Proofs.YtfnhjflocfmcoaaGreat
open Go.RowKit
set_option linter.unusedVariables false
set_option linter.unusedSimpArgs false
namespace Tg
open Tx Df Sq Hk Tr Pr Fl Pn

instance : DecidableEq Nm := fun p q => decidable_of_iff (sameN p q = true) sameN_iff
end Tg
end Go.Proofs.YtfnhjflocfmcoaaGreat

set_option maxRecDepth 100000
namespace Go.Proofs.YtfnhjflocfmcoaaGreat
open Go.RowKit
set_option linter.unusedVariables false
namespace Tg
open Tx Df Sq Hk Tr Pr Fl Pn

theorem lightN_lt {p : Nm} {m : Nat} (h : lightN p m = true) : Lt p.l ∧ p.l.length ≤ m ∧ p.deps.length ≤ 100 := by
  have h0 := h
  unfold lightN fewP at h
  simp only [Bool.and_eq_true, decide_eq_true_eq, List.all_eq_true] at h
  exact ⟨fun x hx => okP_light (h.1.2 x hx), h.1.1, h.2.1⟩
theorem few_all {l : List Nm} {m : Nat} (h : fewN l m = true) : ∀ p ∈ l, Lt p.l ∧ p.l.length ≤ 10 ∧ p.deps.length ≤ 100 := fun p hp => lightN_lt (fewN_all h p hp)
end Tg
end Go.Proofs.YtfnhjflocfmcoaaGreat

set_option maxRecDepth 100000
namespace Go.Proofs.YtfnhjflocfmcoaaGreat
open Go.RowKit
set_option linter.unusedVariables false
namespace Bm
open Tx Df Sq Hk Tr Pr Fl Pn Tg

/-- Origins of light patches are few. -/
theorem org_small {l : List Nm} {r : Int × OR} (hlt : Lt (allN l)) (hle : (allN l).length ≤ 150) (h : orgR l = r) : r.2.length ≤ 150 ∧ ∀ x ∈ r.2, x.2.length ≤ 50000 := by
  subst h
  unfold orgR
  cases hc : orgN ([], []) l with
  | none => exact ⟨Nat.zero_le _, fun x hx => by cases hx⟩
  | some u =>
    obtain ⟨t, o⟩ := u
    have hlen := tagA_len l
    have hL : Like t o := doB_like like_nil hc
    have hM := most_B most_nil (tagA_lt hlt) (by omega) (by omega) hc
    have h1 := (like_at hL).1
    have h2 : t.length ≤ _ := hM.k
    refine ⟨by show o.length ≤ 150; omega, fun x hx => ?_⟩
    obtain ⟨i, hi⟩ := List.getElem?_of_mem (show x ∈ o from hx)
    have hi2 := (List.getElem?_eq_some_iff.1 hi).1
    have hti : i < t.length := by omega
    obtain ⟨g, hg, _, hl, _⟩ := (like_at hL).2 i (t[i]'hti) (List.getElem?_eq_getElem hti)
    rw [hi] at hg
    injection hg with hg
    subst hg
    have hmem : t[i]'hti ∈ t := List.getElem_mem hti
    have h3 : (t[i]'hti).2.length ≤ _ := hM.l _ hmem
    omega
theorem ofV_form (r : Option Bi) : ∃ p1 p2 p3 p4 b, ofV r = .tuple #[.agg #[.int .i64 p1, .int .i64 p2, .int .i64 p3, .int .i64 p4], .bool b] := by
  cases r with
  | none => exact ⟨_, _, _, _, _, rfl⟩
  | some x => exact ⟨_, _, _, _, _, rfl⟩
theorem refOrgsC (A : Option Addr) (n c : Nat) (l : List Nm) (w : World) (hn : l.length = n) (hle : n ≤ 1000) (hT : (allN l).length ≤ 150) (hl : Lt (allN l)) (hR : RdN w w.heap.size A l) (er : Int) (o : OR) (h : orgR l = (er, o)) :
    Calls Tryz.prog 10 #[.slice A n c] w (OrgsEnd w (er, o)) := h ▸ refOrgs A n c l w hn hle hT hl hR
theorem refSelfB (A A' : Option Addr) (n c c' : Nat) (o : OR) (w : World) (hn : o.length = n) (hln : n ≤ 100000) (hm : ∀ x ∈ o, x.2.length ≤ 1000000) (hR : RdO w (· < w.heap.size) A o) (hR' : RdO w (· < w.heap.size) A' o) :
    Calls Tryz.prog 11 #[.slice A n c, .slice A' n c'] w (BoolEnd w true) := by
  have h := refSameB A A' n c n c' o o w hn hn hln hm hR hR'
  rwa [decide_eq_true rfl] at h

end Bm
end Go.Proofs.YtfnhjflocfmcoaaGreat

set_option maxRecDepth 100000
namespace Go.Proofs.YtfnhjflocfmcoaaGreat
open Go.RowKit
set_option linter.unusedVariables false
set_option linter.unusedSimpArgs false
open Tr Tx Hk Pr Fl Pn Tg Bm
namespace BmL
attribute [local go_sem] eq_id eq_bi

set_option maxRecDepth 100000 in
set_option maxHeartbeats 8000000 in
theorem blameTells_walk (A_l : Option Addr) (n_l c_l : Nat) (l : List Nm) (name : List UInt8) (line : Int) (w : World) (h_l : NmsArg w A_l n_l c_l l) (hw_name : name.length ≤ maxLen) :
    Calls Tryz.prog 3 #[.slice A_l n_l c_l, strV name, .int .i64 line] w (LawEnd w) := by
  have HR_l := Lib.hid h_l.rd; have HN_l := Lib.hid h_l.len; have HC_l := Lib.hid h_l.cap; have HM_l := Lib.hid h_l.le
  clear h_l
  have HB := Lib.hid (Below.refl w.heap.size w)
  go_enter Tryz.func3, Tryz.ntmps3
  go_wp2_with fail
  refine (Bm.awake w).mono ?_
  rintro e w_1 ⟨rfl, hb⟩
  replace HR_l := Lib.hid (RdN.mv HR_l.out hb)
  replace HB := Lib.hid (below_mv HB.out hb)
  clear hb
  obtain ⟨bl_l, hbl⟩ : ∃ bb, fewN l 8 = bb := ⟨_, rfl⟩
  have HBL_l := Lib.hid hbl; clear hbl
  go_wp2_with fail
  refine (FewN A_l n_l c_l 8 l w_1 bl_l (by decide) ⟨HN_l.out, HC_l.out, HM_l.out, HR_l.out⟩ HBL_l.out).mono ?_
  rintro e w_2 ⟨rfl, hb⟩
  replace HR_l := Lib.hid (RdN.mv HR_l.out hb)
  replace HB := Lib.hid (below_mv HB.out hb)
  clear hb
  by_cases h100 : 100 < name.length
  case pos =>
    cases bl_l <;> (go_wp2; go_ret; exact ⟨rfl, HB.out⟩)
  cases bl_l with
  | false =>
    go_wp2
    go_ret
    exact ⟨rfl, HB.out⟩
  | true =>
  have HQ_l : Hid (n_l ≤ 8) := Lib.hid (by have h1 := fewN_len HBL_l.out; rw [HN_l.out] at h1; exact h1)
  have HL_l := Lib.hid (few_all HBL_l.out)
  have HT_l : Hid ((allN l).length ≤ 80 ∧ Lt (allN l)) := Lib.hid (by
    obtain ⟨h1, h2⟩ := allN_few (fewN_all HBL_l.out)
    have h3 := fewN_len HBL_l.out
    exact ⟨by omega, h2⟩)
  obtain ⟨⟨er, o⟩, hor⟩ : ∃ z, orgR l = z := ⟨_, rfl⟩
  have HOR := Lib.hid hor; have HSO := Lib.hid (org_small HT_l.out.2 (by have := HT_l.out.1; omega) hor)
  clear hor
  obtain ⟨p1, p2, p3, p4, bf, hv⟩ := ofV_form (ofB o name line)
  have HV := Lib.hid hv; clear hv
  go_wp2_with fail
  refine (OrgsC A_l n_l c_l l w_2 HN_l.out (by have := HQ_l.out; omega) (by have := HT_l.out.1; omega) HT_l.out.2 HR_l.out er o HOR.out).mono ?_
  rintro e w_3 ⟨A_a, n_a, c_a, rfl, hn1, hc1, hr1, hb⟩
  dsimp only at hn1 hr1 ⊢
  have HN_a := Lib.hid hn1; have HC_a := Lib.hid hc1; have HR_a := Lib.hid hr1
  clear hn1 hc1 hr1
  replace HR_l := Lib.hid (RdN.mv HR_l.out hb)
  replace HB := Lib.hid (below_mv HB.out hb)
  clear hb
  go_wp2_with fail
  refine (refOrgsC A_l n_l c_l l w_3 HN_l.out (by have := HQ_l.out; omega) (by have := HT_l.out.1; omega) HT_l.out.2 HR_l.out er o HOR.out).mono ?_
  rintro e w_4 ⟨A_b, n_b, c_b, rfl, hn1, hc1, hr1, hb⟩
  dsimp only at hn1 hr1 ⊢
  have HN_b := Lib.hid hn1; have HC_b := Lib.hid hc1; have HR_b := Lib.hid hr1
  clear hn1 hc1 hr1
  replace HR_a := Lib.hid (RdO.mv HR_a.out hb)
  replace HR_l := Lib.hid (RdN.mv HR_l.out hb)
  replace HB := Lib.hid (below_mv HB.out hb)
  clear hb
  obtain rfl : n_a = n_b := by rw [← HN_a.out, ← HN_b.out]
  go_wp2_with fail
  refine (refSelfB A_a A_b n_a c_a c_b o w_4 HN_a.out (by have h1 := HSO.out.1; have h2 := HN_a.out; omega) (fun x hx => by have := HSO.out.2 x hx; omega) HR_a.out HR_b.out).mono ?_
  rintro e w_5 ⟨rfl, hb⟩
  replace HR_a := Lib.hid (RdO.mv HR_a.out hb)
  replace HR_b := Lib.hid (RdO.mv HR_b.out hb)
  replace HR_l := Lib.hid (RdN.mv HR_l.out hb)
  replace HB := Lib.hid (below_mv HB.out hb)
  clear hb
  go_wp2_with fail
  refine (OfC name A_a c_a n_a o line w_5 HN_a.out (by have h1 := HSO.out.1; have h2 := HN_a.out; omega) HR_a.out).mono ?_
  rintro e w_6 ⟨rfl, hb⟩
  rw [HV.out]
  replace HR_a := Lib.hid (RdO.mv HR_a.out hb)
  replace HR_b := Lib.hid (RdO.mv HR_b.out hb)
  replace HR_l := Lib.hid (RdN.mv HR_l.out hb)
  replace HB := Lib.hid (below_mv HB.out hb)
  clear hb
  go_wp2_with fail
  have b0 := Blk.new w_6 33 #[.int .i64 p1, .int .i64 p2, .int .i64 p3, .int .i64 p4]
  have hb : Below w_6.heap.size w_6 (w_6.alloc (.cells #[.int .i64 p1, .int .i64 p2, .int .i64 p3, .int .i64 p4] 33)) := (Below.refl _ _).alloc (Nat.le_refl _) _
  generalize (w_6.alloc (.cells #[.int .i64 p1, .int .i64 p2, .int .i64 p3, .int .i64 p4] 33)) = w_7 at b0 hb ⊢
  obtain ⟨z_w_7, hz⟩ : ∃ z, w_6.heap.size = z := ⟨_, rfl⟩
  rw [hz] at b0 ⊢
  clear hz
  replace HR_a := Lib.hid (RdO.mv HR_a.out hb)
  replace HR_b := Lib.hid (RdO.mv HR_b.out hb)
  replace HR_l := Lib.hid (RdN.mv HR_l.out hb)
  replace HB := Lib.hid (below_mv HB.out hb)
  clear hb
  have B1 := Lib.hid b0
  clear b0
  refine (refOfB name A_b c_b n_a o line w_7 HN_a.out (by have h1 := HSO.out.1; have h2 := HN_a.out; omega) HR_b.out).mono ?_
  rintro e w_8 ⟨rfl, hb⟩
  rw [HV.out]
  replace HR_a := Lib.hid (RdO.mv HR_a.out hb)
  replace HR_b := Lib.hid (RdO.mv HR_b.out hb)
  replace HR_l := Lib.hid (RdN.mv HR_l.out hb)
  replace B1 := Lib.hid (B1.out.below hb B1.out.lt)
  replace HB := Lib.hid (below_mv HB.out hb)
  clear hb
  go_upto_region 10 with fail
  have b0 := Blk.new w_8 33 #[.int .i64 p1, .int .i64 p2, .int .i64 p3, .int .i64 p4]
  have hb : Below w_8.heap.size w_8 (w_8.alloc (.cells #[.int .i64 p1, .int .i64 p2, .int .i64 p3, .int .i64 p4] 33)) := (Below.refl _ _).alloc (Nat.le_refl _) _
  generalize (w_8.alloc (.cells #[.int .i64 p1, .int .i64 p2, .int .i64 p3, .int .i64 p4] 33)) = w_9 at b0 hb ⊢
  obtain ⟨z_w_9, hz⟩ : ∃ z, w_8.heap.size = z := ⟨_, rfl⟩
  rw [hz] at b0 ⊢
  clear hz
  replace HR_a := Lib.hid (RdO.mv HR_a.out hb)
  replace HR_b := Lib.hid (RdO.mv HR_b.out hb)
  replace HR_l := Lib.hid (RdN.mv HR_l.out hb)
  replace B1 := Lib.hid (B1.out.below hb B1.out.lt)
  replace HB := Lib.hid (below_mv HB.out hb)
  clear hb
  have B2 := Lib.hid b0
  clear b0
  have x0 := B1.out.cell 0 rfl; have x1 := B1.out.cell 1 rfl; have x2 := B1.out.cell 2 rfl; have x3 := B1.out.cell 3 rfl
  have y0 := B2.out.cell 0 rfl; have y1 := B2.out.cell 1 rfl; have y2 := B2.out.cell 2 rfl; have y3 := B2.out.cell 3 rfl
  go_wp2
  go_ret
  exact ⟨rfl, HB.out⟩

end BmL
open BmL
open Tx
open Go.ChangeShapes Go.WideShapes Go.ChangeAt
open Go.ChangeMaps (open_string shut_string)

theorem blameTells_own : ownKnob Tryz.prog.godebug = none := by kernel_rfl
theorem blameTells_laidOut : laidOutB Tryz.prog = true := by kernel_rfl

set_option maxRecDepth 100000 in
theorem blameTells_lifted (os : Os) (started : os.Started) (H : Type) (enc : TypeId × Value → H) :
    ReturnsInHanded {} Tryz.checked os 3 .any (Rows.blameTellsSpec.pre6 enc Tryz.prog Tryz.f3 Rows.blameTellsRow.domain false) (Rows.blameTellsSpec.post enc Tryz.prog Tryz.f3 false true false false) := by
  refine returnsInHanded_of_change (C := Tryz.checked) blameTells_own started (by kernel_rfl) Tryz.func3
    (ChangeSpec.witness6 (enc := enc) (C := Tryz.checked) false ⟨#[], #[.slice none 0 0, .string ByteArray.empty, .int .i64 0], []⟩ 8 (by kernel_rfl) (by kernel_rfl) (by kernel_rfl) (by kernel_rfl)) ?_
  intro W base args ds gs before hval0 hW hcnd _
  have hval : ∀ (j : Nat) t v, Tryz.f3.params[j]? = some t → args[j]? = some v → Value.okWide Tryz.prog W .any base t v := hval0
  have hW' := hW
  obtain ⟨p, q, hA0, hV, rfl, hfz, hnd⟩ := hW
  have hA : DataW.TrodAll enc Tryz.prog W 0 (fun _ => true) true Tryz.f3.params.toList args.toList ds p := hA0
  rw [Tryz.params3] at hA hval
  obtain ⟨v0, vs0, d0, ds0, p0, q0, hargs, rfl, rfl, h0, r0⟩ := trodAll_cons hA
  obtain ⟨v1, vs1, d1, ds1, p1, q1, rfl, rfl, rfl, h1, r1⟩ := trodAll_cons r0
  obtain ⟨v2, vs2, d2, ds2, p2, q2, rfl, rfl, rfl, h2, r2⟩ := trodAll_cons r1
  obtain ⟨rfl, rfl, rfl⟩ := trodAll_nil r2
  obtain rfl : args = #[v0, v1, v2] := by cases args; simp_all
  obtain ⟨rfl, rfl⟩ := trodVars_none hV
  obtain ⟨a0, n0, c0, rfl⟩ := okWide_slice Tryz.underlying22 (hval 0 22 v0 rfl rfl)
  have k0 := h0
  have lt0 : ∀ x ∈ p0, x.block < W.heap.size := by obtain ⟨m, hm⟩ := k0; exact DataW.trod_lt m _ _ _ hm
  obtain ⟨l0, s0⟩ : ∃ l, NmsArg W a0 n0 c0 l := by
    obtain ⟨fuel, hf⟩ := h0
    exact nms_in hf (by simp [Value.cells])
  obtain ⟨a1, rfl, rfl, rfl, w1⟩ := open_string Tryz.underlying9 (hval 1 9 v1 rfl rfl) h1
  have k2 := h2
  have lt2 : ∀ x ∈ p2, x.block < W.heap.size := by obtain ⟨m, hm⟩ := k2; exact DataW.trod_lt m _ _ _ hm
  obtain ⟨i2, rfl, rfl, rfl, w2⟩ := open_int Tryz.underlying3 (hval 2 3 v2 rfl rfl) h2
  clear hA0 hval0
  refine (blameTells_walk a0 n0 c0 l0 a1.data.toList i2 W s0 (by rw [Array.length_toList]; exact w1)).mono fun e W' ⟨he, bel⟩ => ?_
  subst he
  exact ⟨_, rfl, _, _, _, [], _, [], hW', trodAll_mk1 (shut_bool Tryz.underlying4 _), (trodAll_cons_mk (Below.trod blameTells_laidOut (by kernel_rfl) (of_decide_eq_true (by kernel_rfl)) k0 bel lt0) (trodAll_cons_mk (shut_string Tryz.underlying9 w1) (trodAll_cons_mk (Below.trod blameTells_laidOut (by kernel_rfl) (of_decide_eq_true (by kernel_rfl)) k2 bel lt2) trodAll_mk0))), rfl, bel.frame _, fun h => by cases h⟩

/-- The statement. -/
theorem blameTells_proved : Rows.BlameTellsSaid :=
  OpenClaim.holds_of_wide 3 Tryz.f3 rfl rfl rfl rfl rfl rfl rfl ⟨rfl, rfl, rfl, rfl, rfl⟩ rfl rfl rfl rfl rfl (by kernel_rfl) Tryz.func3 (by kernel_rfl)
    (of_decide_eq_true (by kernel_rfl)) (by unfold Func.isWrapper; first | (rw [if_pos (by decide +kernel)]; kernel_rfl) | (rw [if_neg (by decide +kernel)]; exact ⟨rfl, rfl⟩))
    (fun os started H enc _ => blameTells_lifted os started H enc)

#print axioms blameTells_proved
end Go.Proofs.YtfnhjflocfmcoaaGreat
