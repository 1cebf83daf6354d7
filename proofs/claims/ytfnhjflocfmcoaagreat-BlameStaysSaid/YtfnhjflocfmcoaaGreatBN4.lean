/-
  Words and contracts, joined: BmRefSame PnEx BmAwake PnSame TgLeaf TgWith FlBack FlMine FlThru FlPass TgPass TgBack TgWords TgAwake TgLaw BmLaw BmSum BmLLines BmLOnce TgList TgMore BmMore.
-/
import Derived.Deep.RegionWith
import Derived.Laws.StructEq
import Derived.BigQuiet
import Derived.Deep.RegionLaw
import Derived.Test.YtfnhjflocfmcoaaGreatRows
import Derived.RangeFuncBound
import Derived.Shelf.Abstract
import Derived.Shelf.RegionOpen
import Derived.WalkKit
import Derived.OwnWalkIn
import Derived.TacticsInMore
import Derived.LoopNIn
import Derived.LoopIn
import Derived.Maps.AppendAt
import Derived.WalkSpells
import Derived.WalkLawsBesides
import Derived.Lib.Hide
import Derived.Deep.RegionHeld3
import Derived.OpenShut
import Derived.ShutString
import Derived.SizedLaws
import Derived.Test.YtfnhjflocfmcoaaGreatBN3
set_option maxRecDepth 100000
namespace Go.Proofs.YtfnhjflocfmcoaaGreat
open Go.RowKit
set_option linter.unusedVariables false
set_option linter.unusedSimpArgs false
namespace Bm
open Tx Df Sq Hk Tr Pr Fl Pn Tg

theorem eq_bi (a b c d a' b' c' d' : Int) (w : World) : (Op.equalIn 10000 33 (.agg #[.int .i64 a, .int .i64 b, .int .i64 c, .int .i64 d]) (.agg #[.int .i64 a', .int .i64 b', .int .i64 c', .int .i64 d'])).run Tryz.prog w = .ok (decide ((a, b, c, d) = (a', b', c', d'))) w := by
  rw [show (10000 : Nat) = 9999 + 1 from rfl]
  go_simp
  by_cases h1 : a = a' <;> by_cases h2 : b = b' <;> by_cases h3 : c = c' <;> by_cases h4 : d = d' <;> simp [h1, h2, h3, h4]
theorem bi_ne {x y : Bi} (h : x ≠ y) : x.1.1.1 ≠ y.1.1.1 ∨ x.1.1.2 ≠ y.1.1.2 ∨ (x.1.2 : Int) ≠ (y.1.2 : Int) ∨ (x.2 : Int) ≠ (y.2 : Int) := by
  obtain ⟨⟨⟨a, b⟩, c⟩, d⟩ := x
  obtain ⟨⟨⟨a', b'⟩, c'⟩, d'⟩ := y
  dsimp only
  by_cases h1 : a = a'
  · by_cases h2 : b = b'
    · by_cases h3 : c = c'
      · refine .inr (.inr (.inr fun h4 => h ?_))
        rw [h1, h2, h3, Int.ofNat_inj.1 h4]
      · exact .inr (.inr (.inl fun e => h3 (Int.ofNat_inj.1 e)))
    · exact .inr (.inl h2)
  · exact .inl h1
attribute [local go_sem] eq_bi

set_option maxRecDepth 100000 in
set_option maxHeartbeats 4000000 in
theorem refSameB (A A' : Option Addr) (n c n' c' : Nat) (o u : OR) (w : World) (hn : o.length = n) (hn' : u.length = n') (hln : n ≤ 100000) (hm : ∀ x ∈ o, x.2.length ≤ 1000000) (hR : RdO w (· < w.heap.size) A o) (hR' : RdO w (· < w.heap.size) A' u) :
    Calls Tryz.prog 11 #[.slice A n c, .slice A' n' c'] w (BoolEnd w (decide (o = u))) := by
  have HN := Lib.hid hn; have HN' := Lib.hid hn'; have HR := Lib.hid hR; have HR' := Lib.hid hR'; have HM := Lib.hid hm
  clear hn hn' hR hR' hm
  by_cases h1 : n = n'
  · subst h1
    go_enter Tryz.func11, Tryz.ntmps11
    go_wp2
    go_loopw [5] (fun i wr => ∃ k : Nat, k ≤ n ∧ i = .int .i64 k ∧ o.take k = u.take k ∧ ∃ d, wr = w.drewN d) (fun i _ => n - (intOf i).toNat)
    case atStart => exact ⟨0, Nat.zero_le _, rfl, by simp, 0, rfl⟩
    case round =>
      obtain ⟨k, hk, rfl, hall, d, rfl⟩ := hrel
      have HA := Lib.hid hall; clear hall
      by_cases hlt : k < n
      · have hki : (k : Int) < (n : Int) := by omega
        have hki2 : (0 : Int) ≤ (k : Int) := by omega
        obtain ⟨x, hx⟩ : ∃ x, o[k]? = some x := ⟨_, List.getElem?_eq_getElem (by rw [HN.out]; exact hlt)⟩
        obtain ⟨y, hy⟩ : ∃ y, u[k]? = some y := ⟨_, List.getElem?_eq_getElem (by rw [HN'.out]; exact hlt)⟩
        obtain ⟨a, rfl, hab, c0, B, cb, c1, hcb, hrb⟩ := (RdO.mv HR.out (below_drewN (Below.refl _ _) d)).elem hx
        obtain ⟨a', rfl, hab', g0, B', cb', g1, hcb', hrb'⟩ := (RdO.mv HR'.out (below_drewN (Below.refl _ _) d)).elem hy
        have hml := HM.out x (List.mem_of_getElem? hx)
        have HNX : Hid (x = y → o.take (k + 1) = u.take (k + 1)) := Lib.hid (fun e => by rw [take_at hx, take_at hy, HA.out, e])
        have HNO : Hid (x ≠ y → decide (o = u) = false) := Lib.hid (fun e => decide_eq_false fun h => e (by subst h; rw [hx] at hy; injection hy))
        clear hx hy
        obtain ⟨xs, xl⟩ := x
        obtain ⟨ys, yl⟩ := y
        dsimp only at c0 c1 hcb hrb g0 g1 hcb' hrb' hml
        obtain ⟨m1, hm1⟩ : ∃ m, xl.length = m := ⟨_, rfl⟩
        obtain ⟨m2, hm2⟩ : ∃ m, yl.length = m := ⟨_, rfl⟩
        rw [hm1] at c1 hcb hml
        rw [hm2] at g1 hcb'
        have HM1 := Lib.hid hm1; have HM2 := Lib.hid hm2; have HRB := Lib.hid hrb; have HRB' := Lib.hid hrb'
        clear hm1 hm2 hrb hrb' hcb hcb' hab hab'
        have HW := Lib.hid (below_drewN (Below.refl w.heap.size w) d)
        have HWW : Hid (∃ d', w.drewN d = w.drewN d') := Lib.hid ⟨_, rfl⟩
        have HWD : Hid (∀ j, ∃ d', (w.drewN d).drewN j = w.drewN d') := Lib.hid (fun j => ⟨_, by rw [World.drewN_drewN]⟩)
        generalize w.drewN d = w1 at *
        by_cases he : xs = ys
        · subst he
          by_cases hl : m1 = m2
          · subst hl
            go_wp2
            go_quiet (fail)
            go_wp2_with fail
            go_loopw [6] (fun j wr => ∃ q : Nat, q ≤ m1 ∧ j = .int .i64 q ∧ xl.take q = yl.take q ∧ ∃ d, wr = w1.drewN d) (fun j _ => m1 - (intOf j).toNat)
            case atStart => exact ⟨0, Nat.zero_le _, rfl, by simp, _, rfl⟩
            case round =>
              obtain ⟨q, hq, rfl, hall2, d2, rfl⟩ := hrel
              have HA2 := Lib.hid hall2; clear hall2
              by_cases hlt2 : q < m1
              · have hqi : (q : Int) < (m1 : Int) := by omega
                have hqi2 : (0 : Int) ≤ (q : Int) := by omega
                obtain ⟨p, hp⟩ : ∃ p, xl[q]? = some p := ⟨_, List.getElem?_eq_getElem (by rw [HM1.out]; exact hlt2)⟩
                obtain ⟨r, hr⟩ : ∃ r, yl[q]? = some r := ⟨_, List.getElem?_eq_getElem (by rw [HM2.out]; exact hlt2)⟩
                obtain ⟨b, rfl, _, d0, d1, d2', d3⟩ := RdB.elem HRB.out hp
                obtain ⟨b', rfl, _, e0, e1, e2, e3⟩ := RdB.elem HRB'.out hr
                have HP := Lib.hid hp; have HRR := Lib.hid hr
                clear hp hr
                by_cases hpr : p = r
                · subst hpr
                  have HE : Hid (xl.take (q + 1) = yl.take (q + 1)) := Lib.hid (by rw [take_at HP.out, take_at HRR.out, HA2.out])
                  go_wp2
                  go_quiet (fail)
                  go_wp2
                  refine ⟨⟨q + 1, by omega, by go_num, HE.out, _, rfl⟩, by simp [intOf]; omega⟩
                · have HD : Hid (decide (o = u) = false) := Lib.hid (HNO.out (fun e => hpr (by
                    injection e with _ e
                    subst e
                    have h := HP.out
                    rw [HRR.out] at h
                    injection h with h
                    exact h.symm)))
                  have hdif := bi_ne hpr
                  clear hpr HP HRR
                  generalize p.1.1.1 = p1 at *
                  generalize p.1.1.2 = p2 at *
                  generalize ((p.1.2 : Nat) : Int) = p3 at *
                  generalize ((p.2 : Nat) : Int) = p4 at *
                  generalize r.1.1.1 = r1 at *
                  generalize r.1.1.2 = r2 at *
                  generalize ((r.1.2 : Nat) : Int) = r3 at *
                  generalize ((r.2 : Nat) : Int) = r4 at *
                  have hdd : ¬ (p1 = r1 ∧ p2 = r2 ∧ p3 = r3 ∧ p4 = r4) := fun ⟨e1, e2, e3, e4⟩ => by rcases hdif with h | h | h | h <;> exact h ‹_›
                  rcases hdif with h | h | h | h
                  all_goals
                    go_wp2
                    go_quiet (fail)
                    go_wp2
                    go_ret
                    exact ⟨ret_bool HD.out.symm, below_drewN (below_drewN HW.out _) _⟩
              · obtain rfl : q = m1 := by omega
                have HE : Hid (o.take (k + 1) = u.take (k + 1)) := Lib.hid (HNX.out (by
                  have h := HA2.out
                  rw [List.take_of_length_le (by rw [HM1.out]; exact Nat.le_refl _), List.take_of_length_le (by rw [HM2.out]; exact Nat.le_refl _)] at h
                  rw [h]))
                go_wp2
                refine ⟨⟨k + 1, by omega, by go_num, HE.out, HWD.out _⟩, by simp [intOf]; omega⟩
          · have HD : Hid (decide (o = u) = false) := Lib.hid (HNO.out (fun e => hl (by injection e with _ e; rw [← HM1.out, ← HM2.out, e])))
            have e4 : ((m1 : Int) != (m2 : Int)) = true := by rw [bne_iff_ne]; omega
            clear hl
            go_wp2
            go_quiet (fail)
            go_wp2
            go_ret
            exact ⟨ret_bool HD.out.symm, below_drewN HW.out _⟩
        · have HD : Hid (decide (o = u) = false) := Lib.hid (HNO.out (fun e => he (by injection e)))
          have h2 : (xs == ys) = false := by simpa using he
          have h3 : (xs != ys) = true := by simpa using he
          clear he
          go_wp2
          go_quiet (fail)
          go_wp2
          go_ret
          exact ⟨ret_bool HD.out.symm, below_drewN HW.out _⟩
      · have HD : Hid (decide (o = u) = true) := Lib.hid (by
          have := HA.out
          rw [List.take_of_length_le (by rw [HN.out]; omega), List.take_of_length_le (by rw [HN'.out]; omega)] at this
          exact decide_eq_true this)
        go_wp2
        go_ret
        exact ⟨ret_bool HD.out.symm, below_drewN (Below.refl _ _) _⟩
  · have HD : Hid (decide (o = u) = false) := Lib.hid (decide_eq_false (fun e => h1 (by rw [← HN.out, ← HN'.out, e])))
    have hne : ((n : Int) != (n' : Int)) = true := by rw [bne_iff_ne]; omega
    go_enter Tryz.func11, Tryz.ntmps11
    go_wp2
    go_ret
    exact ⟨ret_bool HD.out.symm, Below.refl _ _⟩

end Bm
end Go.Proofs.YtfnhjflocfmcoaaGreat

set_option maxRecDepth 100000
namespace Go.Proofs.YtfnhjflocfmcoaaGreat
open Go.RowKit
set_option linter.unusedVariables false
namespace Pn
open Tx Df Sq Hk Tr Pr Fl

def exA : Ch := ⟨0, [97], [], ⟨0, [], []⟩⟩
def exN : Nm := ⟨(0, 1), [], [], [exA]⟩
theorem ex_lt : Lt (allN [exN]) := fun x hx => by
  have : x = exA := by simpa [allN, exN] using hx
  rw [this]
  decide

/-- One patch in a block of its own is read as a list. -/
theorem rdN_lone {W : World} {N b : Nat} {D A : Option Addr} {dn dc n c : Nat} {x : Nm} (h : Blk W b 41 #[.int .i64 x.id.1, .int .i64 x.id.2, .slice D dn dc, strV x.txt, .slice A n c]) (hp : NV W N D dn dc A n c x) (hb : b < N) : RdN W N (some ⟨b, 0, none⟩) [x] :=
  .inr ⟨_, rfl, hb, fun k y hy => by
    cases k with
    | zero =>
      injection hy with hy
      subst hy
      have e : (⟨b, 0, none⟩ : Addr).add (0 * 5) = ⟨b, 0, none⟩ := rfl
      exact ⟨by rw [e]; exact h.cell 0 rfl, by rw [e]; exact h.cell 1 rfl, by rw [e]; exact h.cell 3 rfl, D, dn, dc, A, n, c, by rw [e]; exact h.cell 2 rfl, by rw [e]; exact h.cell 4 rfl, hp⟩
    | succ k => simp at hy⟩
theorem pg_ex (W : World) (S : Nat → Prop) : PG W S none 0 0 none 0 0 exA :=
  ⟨rfl, rfl, Nat.le_refl _, Nat.le_refl _, by decide, by decide, .inl rfl, .inl rfl, by unfold I64; decide, by unfold I64; decide, by decide, by decide, (fun x hx => by cases hx), (fun x hx => by cases hx)⟩
end Pn
end Go.Proofs.YtfnhjflocfmcoaaGreat

set_option maxRecDepth 100000
namespace Go.Proofs.YtfnhjflocfmcoaaGreat
open Go.RowKit
set_option linter.unusedVariables false
set_option linter.unusedSimpArgs false
namespace Bm
open Tx Df Sq Hk Tr Pr Fl Pn Tg

def exP : Ch := ⟨3, [97], [], ⟨0, [], [[120], [121]]⟩⟩
def exL : Nm := ⟨(0, 1), [], [], [exA, exP]⟩
def exO : OR := [([97], [(((0, 1), 1), 0), (((0, 1), 1), 1)])]
theorem ex_lt : Lt (allN [exL]) := fun x hx => by
  have : x = exA ∨ x = exP := by simpa [allN, exL] using hx
  rcases this with h | h
  · rw [h]; decide
  · rw [h]; decide
theorem ex_org : orgR [exL] = (0, exO) := by kernel_rfl
theorem ex_of : ofV (ofB exO [97] 1) = .tuple #[.agg #[.int .i64 0, .int .i64 1, .int .i64 1, .int .i64 1], .bool true] := rfl
theorem pg_exP {W : World} {S : Nat → Prop} {b : Nat} (h : RdG W S (some ⟨b, 0, none⟩) (exP.h.new.map strV)) : PG W S none 0 0 (some ⟨b, 0, none⟩) 2 2 exP :=
  ⟨rfl, rfl, Nat.le_refl _, Nat.le_refl _, by decide, by decide, .inl rfl, h, by unfold I64; decide, by unfold I64; decide, by decide, by decide, (fun x hx => by cases hx), (fun x hx => by
    have : x = [120] ∨ x = [121] := by simpa [exP] using hx
    rcases this with h | h <;> rw [h] <;> decide)⟩
abbrev exC (b : Nat) : Array Value := #[.int .i64 0, strV [97], strV [], .int .i64 0, .slice none 0 0, .slice none 0 0, .int .i64 3, strV [97], strV [], .int .i64 0, .slice none 0 0, .slice (some ⟨b, 0, none⟩) 2 2]
theorem rdP_two {W : World} {S : Nat → Prop} {b b' : Nat} (h : Blk W b 55 (exC b')) (hs : RdG W S (some ⟨b', 0, none⟩) (exP.h.new.map strV)) (hS : S b) : RdP W S (some ⟨b, 0, none⟩) [exA, exP] :=
  .inr ⟨_, rfl, hS, fun k y hy => by
    rcases k with _ | _ | k
    · injection hy with hy
      subst hy
      have e : (⟨b, 0, none⟩ : Addr).add (0 * 6) = ⟨b, 0, none⟩ := rfl
      exact ⟨by rw [e]; exact h.cell 0 rfl, by rw [e]; exact h.cell 1 rfl, by rw [e]; exact h.cell 2 rfl, by rw [e]; exact h.cell 3 rfl, none, 0, 0, none, 0, 0, by rw [e]; exact h.cell 4 rfl, by rw [e]; exact h.cell 5 rfl, pg_ex _ _⟩
    · injection hy with hy
      subst hy
      have e : (⟨b, 0, none⟩ : Addr).add ((0 + 1) * 6) = ⟨b, 6, none⟩ := rfl
      exact ⟨by rw [e]; exact h.cell 6 rfl, by rw [e]; exact h.cell 7 rfl, by rw [e]; exact h.cell 8 rfl, by rw [e]; exact h.cell 9 rfl, none, 0, 0, some ⟨b', 0, none⟩, 2, 2, by rw [e]; exact h.cell 10 rfl, by rw [e]; exact h.cell 11 rfl, pg_exP hs⟩
    · simp at hy⟩
theorem nv_exL {W : World} {N b : Nat} (h : RdP W (· < N) (some ⟨b, 0, none⟩) [exA, exP]) : NV W N none 0 0 (some ⟨b, 0, none⟩) 2 2 exL :=
  ⟨rfl, Nat.le_refl _, by decide, .inl rfl, by decide, rfl, Nat.le_refl _, by decide, h⟩
theorem rdG_two {W : World} {S : Nat → Prop} {b : Nat} (h : Blk W b 9 #[strV [120], strV [121]]) (hS : S b) : RdG W S (some ⟨b, 0, none⟩) (exP.h.new.map strV) :=
  .inr ⟨_, rfl, hS, fun j u hu => by
    rcases j with _ | _ | j
    · rw [add_zero']; exact h.cell 0 hu
    · exact h.cell 1 hu
    · simp [exP] at hu⟩

attribute [local go_sem] eq_bi
set_option maxRecDepth 100000 in
set_option maxHeartbeats 4000000 in
theorem awake (w : World) : Calls Tryz.prog 7 #[] w (BoolEnd w true) := by
  go_enter Tryz.func7, Tryz.ntmps7
  go_upto_region 2 with fail
  have b0 := ((Blk.new w 9 #[strV [120], strV [121]]).alloc (.cells (exC w.heap.size) 55)).alloc (.cells #[.int .i64 0, .int .i64 1, .slice none 0 0, strV [], .slice (some ⟨w.heap.size + 1, 0, none⟩) 2 2] 41)
  have b1 := (Blk.new (w.alloc (.cells #[strV [120], strV [121]] 9)) 55 (exC w.heap.size)).alloc (.cells #[.int .i64 0, .int .i64 1, .slice none 0 0, strV [], .slice (some ⟨w.heap.size + 1, 0, none⟩) 2 2] 41)
  have b2 := Blk.new ((w.alloc (.cells #[strV [120], strV [121]] 9)).alloc (.cells (exC w.heap.size) 55)) 41 #[.int .i64 0, .int .i64 1, .slice none 0 0, strV [], .slice (some ⟨w.heap.size + 1, 0, none⟩) 2 2]
  have hb := (two_box w (.cells #[strV [120], strV [121]] 9) (.cells (exC w.heap.size) 55)).alloc (by simp; omega) (.cells #[.int .i64 0, .int .i64 1, .slice none 0 0, strV [], .slice (some ⟨w.heap.size + 1, 0, none⟩) 2 2] 41)
  simp only [World.size_alloc] at b1 b2
  generalize (((w.alloc (.cells #[strV [120], strV [121]] 9)).alloc (.cells (exC w.heap.size) 55)).alloc (.cells #[.int .i64 0, .int .i64 1, .slice none 0 0, strV [], .slice (some ⟨w.heap.size + 1, 0, none⟩) 2 2] 41)) = w1 at b0 b1 b2 hb ⊢
  obtain ⟨z, hz⟩ : ∃ z, w.heap.size = z := ⟨_, rfl⟩
  rw [hz] at b0 b1 b2 ⊢
  have RP : Hid (RdP w1 (· < w1.heap.size) (some ⟨z + 1, 0, none⟩) [exA, exP]) := Lib.hid (rdP_two b1 (rdG_two b0 b0.lt) b1.lt)
  have B2 := Lib.hid b2; have HB := Lib.hid hb
  clear b0 b1 b2 hb hz
  have x0 := B2.out.cell 0 rfl; have x1 := B2.out.cell 1 rfl; have x2 := B2.out.cell 2 rfl; have x3 := B2.out.cell 3 rfl; have x4 := B2.out.cell 4 rfl
  go_wp2_with fail
  have hb2 : Below w1.heap.size w1 (w1.alloc (.cells #[.int .i64 0, .int .i64 1, .slice none 0 0, strV [], .slice (some ⟨z + 1, 0, none⟩) 2 2] 41)) := (Below.refl _ _).alloc (Nat.le_refl _) _
  have b3 := Blk.new w1 41 #[.int .i64 0, .int .i64 1, .slice none 0 0, strV [], .slice (some ⟨z + 1, 0, none⟩) 2 2]
  generalize (w1.alloc (.cells #[.int .i64 0, .int .i64 1, .slice none 0 0, strV [], .slice (some ⟨z + 1, 0, none⟩) 2 2] 41)) = w2 at hb2 b3 ⊢
  replace RP := Lib.hid (RP.out.mv hb2); replace B2 := Lib.hid (B2.out.below hb2 B2.out.lt); replace HB := Lib.hid (below_mv HB.out hb2)
  have RN : Hid (RdN w2 w2.heap.size (some ⟨w1.heap.size, 0, none⟩) [exL]) := Lib.hid (rdN_lone b3 (nv_exL RP.out) b3.lt)
  clear x0 x1 x2 x3 x4 hb2 b3
  refine (OrgsC (some ⟨w1.heap.size, 0, none⟩) 1 1 [exL] w2 rfl (by decide) (by decide) ex_lt RN.out 0 exO ex_org).mono ?_
  rintro e w3 ⟨A3, n3, c3, rfl, hn3, hc3, hr3, hb3⟩
  dsimp only at hn3 hr3 ⊢
  have HN3 := Lib.hid hn3; have HR3 := Lib.hid hr3
  replace B2 := Lib.hid (B2.out.below hb3 B2.out.lt); replace HB := Lib.hid (below_mv HB.out hb3)
  clear hn3 hc3 hr3 hb3 RN RP
  go_wp2_with fail
  refine (OfC [97] A3 c3 n3 exO 1 w3 HN3.out (by rw [← HN3.out]; decide) HR3.out).mono ?_
  rintro e w4 ⟨rfl, hb4⟩
  rw [ex_of]
  replace B2 := Lib.hid (B2.out.below hb4 B2.out.lt); replace HB := Lib.hid (below_mv HB.out hb4)
  clear hb4 HN3 HR3
  go_upto_region 4 with fail
  have hb5 : Below w4.heap.size w4 (w4.alloc (.cells #[.int .i64 0, .int .i64 1, .int .i64 1, .int .i64 1] 33)) := (Below.refl _ _).alloc (Nat.le_refl _) _
  have b5 := Blk.new w4 33 #[.int .i64 0, .int .i64 1, .int .i64 1, .int .i64 1]
  generalize (w4.alloc (.cells #[.int .i64 0, .int .i64 1, .int .i64 1, .int .i64 1] 33)) = w5 at hb5 b5 ⊢
  replace B2 := Lib.hid (B2.out.below hb5 B2.out.lt); replace HB := Lib.hid (below_mv HB.out hb5)
  have x0 := B2.out.cell 0 rfl; have x1 := B2.out.cell 1 rfl
  have y0 := b5.cell 0 rfl; have y1 := b5.cell 1 rfl; have y2 := b5.cell 2 rfl; have y3 := b5.cell 3 rfl
  go_wp2
  go_ret
  exact ⟨rfl, HB.out⟩

end Bm
end Go.Proofs.YtfnhjflocfmcoaaGreat

set_option maxRecDepth 100000
namespace Go.Proofs.YtfnhjflocfmcoaaGreat
open Go.RowKit
set_option linter.unusedVariables false
set_option linter.unusedSimpArgs false
namespace Pn
open Tx Df Sq Hk Tr Pr Fl
attribute [local go_sem] eq_id

/-- A patch in a block of its own. -/
abbrev nmC (p : Nm) (D : Option Addr) (dn dc : Nat) (A : Option Addr) (n c : Nat) : Array Value := #[.int .i64 p.id.1, .int .i64 p.id.2, .slice D dn dc, strV p.txt, .slice A n c]

end Pn
end Go.Proofs.YtfnhjflocfmcoaaGreat

set_option maxRecDepth 100000
namespace Go.Proofs.YtfnhjflocfmcoaaGreat
open Go.RowKit
set_option linter.unusedVariables false
set_option linter.unusedSimpArgs false
namespace Tg
open Tx Df Sq Hk Tr Pr Fl Pn

/-- Where an id stands first; -1: nowhere. -/
def findI (l : List Id_) (x : Id_) : Int := match l.findIdx? (fun y => decide (x = y)) with
  | some k => k
  | none => -1
theorem findI_at {l : List Id_} {x : Id_} {k : Nat} (hx : l[k]? = some x) (hb : ∀ (j : Nat) (y : Id_), l[j]? = some y → j < k → x ≠ y) : findI l x = (k : Int) := by
  have key : l.findIdx? (fun y => decide (x = y)) = some k := by
    rw [List.findIdx?_eq_some_iff_getElem]
    obtain ⟨hk, e⟩ := List.getElem?_eq_some_iff.1 hx
    refine ⟨hk, by rw [e]; exact decide_eq_true rfl, fun j hj => ?_⟩
    have := hb j _ (List.getElem?_eq_getElem (by omega)) hj
    simpa using this
  unfold findI
  rw [key]
theorem findI_no {l : List Id_} {x : Id_} (h : ∀ (j : Nat) (y : Id_), l[j]? = some y → x ≠ y) : findI l x = -1 := by
  have key : l.findIdx? (fun y => decide (x = y)) = none := by
    rw [List.findIdx?_eq_none_iff]
    intro y hy
    obtain ⟨j, hj⟩ := List.getElem?_of_mem hy
    exact decide_eq_false (h j y hj)
  unfold findI
  rw [key]
theorem findI_mem {l : List Id_} {x : Id_} : 0 ≤ findI l x ↔ x ∈ l := by
  unfold findI
  cases h : l.findIdx? (fun y => decide (x = y)) with
  | none =>
    rw [List.findIdx?_eq_none_iff] at h
    refine ⟨fun h => absurd h (by decide), fun hx => ?_⟩
    have := h x hx
    simp at this
  | some k =>
    rw [List.findIdx?_eq_some_iff_getElem] at h
    obtain ⟨hk, e, _⟩ := h
    have e := of_decide_eq_true e
    exact ⟨fun _ => e ▸ List.getElem_mem hk, fun _ => by dsimp only; omega⟩

attribute [local go_sem] eq_id
set_option maxHeartbeats 1000000 in
theorem IndexI (x : Id_) (A : Option Addr) (n c B : Nat) (l : List Id_) (w : World) (hn : l.length = n) (hln : n ≤ 1000000) (hB : B ≤ w.heap.size) (hR : RdI w B A l) :
    Calls Tryz.prog 45 #[.slice A n c, .agg #[.int .i64 x.1, .int .i64 x.2]] w (IntEnd w (findI l x)) := by
  obtain ⟨x, u⟩ := x
  have HN := Lib.hid hn; have HR := Lib.hid (Rd.up hR hB : RdI w w.heap.size A l)
  clear hn hR hB
  obtain ⟨iv, hiv⟩ : ∃ iv, findI l (x, u) = iv := ⟨_, rfl⟩
  rw [hiv]
  have HIV := Lib.hid hiv; clear hiv
  have b0 := Blk.new w 31 #[.int .i64 x, .int .i64 u]
  have hba : Below w.heap.size w (w.alloc (.cells #[.int .i64 x, .int .i64 u] 31)) := (Below.refl _ _).alloc (Nat.le_refl _) _
  have HB0 := Lib.hid b0; have HBA := Lib.hid hba
  clear b0 hba
  dsimp only
  go_enter Tryz.func45, Tryz.ntmps45
  go_wp2_with fail
  obtain ⟨w0, hw0⟩ : ∃ W, w.alloc (.cells #[.int .i64 x, .int .i64 u] 31) = W := ⟨_, rfl⟩
  obtain ⟨z, hz⟩ : ∃ z, w.heap.size = z := ⟨_, rfl⟩
  rw [hw0] at HB0 HBA ⊢
  rw [hz] at HB0 ⊢
  have HZ := Lib.hid hz
  clear hw0 hz
  have HR0 := Lib.hid (RdI.mv HR.out HBA.out)
  go_loopw [8] (fun i wr => ∃ k : Nat, k ≤ n ∧ i = .int .i64 (k : Int) ∧ (∀ (j : Nat) (y : Id_), l[j]? = some y → j < k → (x, u) ≠ y) ∧ Below w0.heap.size w0 wr) (fun i _ => n - (intOf i).toNat)
  case atStart => exact ⟨0, Nat.zero_le _, rfl, fun j _ _ hj => by omega, Below.refl _ _⟩
  case round =>
    obtain ⟨k, hk, rfl, hall, hbw⟩ := hrel
    have HA := Lib.hid hall; have HBW := Lib.hid hbw; clear hall hbw
    have HBE := Lib.hid (below_mv HBA.out HBW.out)
    by_cases hlt : k < n
    · have hki : (k : Int) < (n : Int) := by omega
      obtain ⟨a, y, rfl, hS, hy, c0, c1⟩ := ((RdI.mv HR0.out HBW.out).elem (k := k) (by rw [HN.out]; exact hlt))
      obtain ⟨y, v⟩ := y
      have HX := Lib.hid hy
      have bz := HB0.out.below HBW.out HB0.out.lt
      have z0 := bz.cell 0 rfl; have z1 := bz.cell 1 rfl; have hzl := bz.lt
      clear hy hS bz
      dsimp only at c0 c1
      by_cases e1 : x = y
      · subst e1
        by_cases e2 : u = v
        · subst e2
          have HE : Hid (iv = (k : Int)) := Lib.hid (by rw [← HIV.out]; exact findI_at HX.out HA.out)
          go_wp2
          go_quiet (fail)
          go_wp2
          go_ret
          exact ⟨by rw [HE.out]; rfl, below_drewN HBE.out _⟩
        · have e3 : (u == v) = false := by rw [beq_eq_false_iff_ne]; exact e2
          go_wp2
          go_quiet (fail)
          go_wp2
          refine ⟨⟨k + 1, by omega, by go_num, fun j y hy hj => ?_, below_drewN HBW.out _⟩, by simp [intOf]; omega⟩
          by_cases e : j = k
          · subst e
            have h1 := HX.out
            rw [h1] at hy
            injection hy with hy
            subst hy
            intro e; injection e with _ e; exact e2 e
          · exact HA.out j y hy (by omega)
      · have e3 : (x == y) = false := by rw [beq_eq_false_iff_ne]; exact e1
        go_wp2
        go_quiet (fail)
        go_wp2
        refine ⟨⟨k + 1, by omega, by go_num, fun j y hy hj => ?_, below_drewN HBW.out _⟩, by simp [intOf]; omega⟩
        by_cases e : j = k
        · subst e
          have h1 := HX.out
          rw [h1] at hy
          injection hy with hy
          subst hy
          intro e; injection e with e _; exact e1 e
        · exact HA.out j y hy (by omega)
    · have HE : Hid (iv = -1) := Lib.hid (by
        rw [← HIV.out]
        exact findI_no fun j y hy => HA.out j y hy (by have := (List.getElem?_eq_some_iff.1 hy).1; have := HN.out; omega))
      go_wp2
      go_ret
      exact ⟨by rw [HE.out]; rfl, HBE.out⟩
theorem ContainsI (x : Id_) (A : Option Addr) (n c B : Nat) (l : List Id_) (w : World) (b : Bool) (hn : l.length = n) (hln : n ≤ 1000000) (hB : B ≤ w.heap.size) (hR : RdI w B A l) (hb : decide (x ∈ l) = b) :
    Calls Tryz.prog 30 #[.slice A n c, .agg #[.int .i64 x.1, .int .i64 x.2]] w (BoolEnd w b) := by
  have HN := Lib.hid hn; have HR := Lib.hid hR; have HB := Lib.hid hb
  clear hn hR hb
  go_enter Tryz.func30, Tryz.ntmps30
  have hba : Below w.heap.size w (w.alloc (.cells #[.int .i64 x.1, .int .i64 x.2] 31)) := (Below.refl _ _).alloc (Nat.le_refl _) _
  go_wp2_with fail
  refine (IndexI x A n c B l _ HN.out hln (Nat.le_trans hB hba.size) (Rd.below HR.out (hba.mono hB))).mono ?_
  rintro e w1 ⟨rfl, hb1⟩
  have HB1 := Lib.hid (below_mv hba hb1); clear hb1 hba
  obtain ⟨i, hi⟩ : ∃ i, findI l x = i := ⟨_, rfl⟩
  have HI : Hid (decide (0 ≤ i) = b) := Lib.hid (by rw [← HB.out, ← hi]; exact decide_eq_decide.2 findI_mem)
  rw [hi]
  clear hi
  go_wp2
  go_ret
  exact ⟨ret_bool (by rw [← HI.out]), HB1.out⟩

end Tg
end Go.Proofs.YtfnhjflocfmcoaaGreat

set_option maxRecDepth 100000
namespace Go.Proofs.YtfnhjflocfmcoaaGreat
open Go.RowKit
set_option linter.unusedVariables false
set_option linter.unusedSimpArgs false
namespace Tg
open Tx Df Sq Hk Tr Pr Fl Pn

/-- A row of ids of one's own that is new is read as ids. -/
theorem rdI_own_hi {W : World} {base : Nat} {v : Value} {l : List Id_} (h : OwnI W base v l) : ∃ A c, v = .slice A l.length c ∧ l.length ≤ c ∧ RdG W (fun b => base ≤ b ∧ b < W.heap.size) A (idsV l) := by
  obtain ⟨A, c, rfl, hc, hr⟩ := rdI_own h
  refine ⟨A, c, rfl, hc, ?_⟩
  rcases hr with h0 | ⟨a, rfl, hlt, hcell⟩
  · exact .inl h0
  · rcases h.2 with ⟨e, _⟩ | ⟨g, cap, cur, e, hbg, _⟩
    · injection e with e; cases e
    · injection e with e
      injection e with e
      subst e
      exact .inr ⟨_, rfl, ⟨hbg, hlt⟩, hcell⟩

/-- How with ends. -/
def WithEnd (w : World) (p : Nm) (dn : Nat) (A : Option Addr) (n c : Nat) (e : Ending) (w' : World) : Prop :=
  ∃ D dc, e = .returned (nmV p.id D dn dc p.txt A n c) ∧ dn ≤ dc ∧ RdG w' (Since w w') D (idsV p.deps) ∧ Below w.heap.size w w'

set_option maxHeartbeats 1000000 in
theorem With (D : Option Addr) (dn dc : Nat) (A : Option Addr) (n c : Nat) (p : Nm) (A' : Option Addr) (n' c' : Nat) (w : World) (hd : dn ≤ 100000) (hdl : p.deps.length = dn) (hr : RdI w w.heap.size D p.deps) :
    Calls Tryz.prog 32 #[nmV p.id D dn dc p.txt A n c, .slice A' n' c'] w (WithEnd w p dn A' n' c') := by
  have HR := Lib.hid hr; have HN := Lib.hid hdl
  clear hr hdl
  have b0 := (Blk.new w 79 #[.int .i64 p.id.1, .int .i64 p.id.2, .slice D dn dc, strV p.txt, .slice A n c]).alloc (.cells #[.int .i64 0, .int .i64 0, .slice none 0 0, .string ⟨#[]⟩, .slice none 0 0] 41)
  have b1 := Blk.new (w.alloc (.cells #[.int .i64 p.id.1, .int .i64 p.id.2, .slice D dn dc, strV p.txt, .slice A n c] 79)) 41 #[.int .i64 0, .int .i64 0, .slice none 0 0, .string ⟨#[]⟩, .slice none 0 0]
  have hba := two_box w (.cells #[.int .i64 p.id.1, .int .i64 p.id.2, .slice D dn dc, strV p.txt, .slice A n c] 79) (.cells #[.int .i64 0, .int .i64 0, .slice none 0 0, .string ⟨#[]⟩, .slice none 0 0] 41)
  simp only [World.size_alloc] at b1
  go_enter Tryz.func32, Tryz.ntmps32
  go_upto_region 1 with fail
  generalize ((w.alloc (.cells #[.int .i64 p.id.1, .int .i64 p.id.2, .slice D dn dc, strV p.txt, .slice A n c] 79)).alloc (.cells #[.int .i64 0, .int .i64 0, .slice none 0 0, .string ⟨#[]⟩, .slice none 0 0] 41)) = w1 at b0 b1 hba ⊢
  obtain ⟨z, hz⟩ : ∃ z, w.heap.size = z := ⟨_, rfl⟩
  have HR1 := Lib.hid (RdI.mv HR.out hba)
  rw [hz] at b0 b1 ⊢
  have HB0 := Lib.hid b0; have HB1 := Lib.hid b1; have HBA := Lib.hid hba; have HZ := Lib.hid hz
  have x2 := b0.cell 2 rfl; have x4 := b0.cell 4 rfl
  clear b0 b1 hba hz HR
  go_upto_region 2 with (at_builtin; refine wpList_ownI rfl (.const (.slice none 0 0)) (.tmp 6) rfl w1.heap.size dn dc (.slice none 0 0) D [] p.deps rfl rfl (ownI_nil _ _) HR1.out HN.out (by simp; omega) (Nat.le_refl _) ?_; intro v w2 ho hg; have HO := Lib.hid (show OwnI w2 w1.heap.size v p.deps from ho); have hb2 : Below w1.heap.size w1 w2 := (Below.refl _ _).grown hg (Nat.le_refl _) (fun k e => by cases e); have b02 := HB0.out.below hb2 HB0.out.lt; have b12 := HB1.out.below hb2 HB1.out.lt; have HB2 := Lib.hid hb2; have HB02 := Lib.hid b02; have HB12 := Lib.hid b12; obtain ⟨A2, c2, hv, hc2, hr2⟩ := rdI_own_hi HO.out; rw [HN.out] at hv hc2; subst hv; have HR2 := Lib.hid hr2; clear ho hg hb2 hr2 x2 x4; have x0 := b02.cell 0 rfl; have x1 := b02.cell 1 rfl; have x2 := b02.cell 2 rfl; have x3 := b02.cell 3 rfl; have x4 := b02.cell 4 rfl; have f2 := b02.frozen 2; have f4 := b02.frozen 4; have l0 := b02.lt; clear b02 b12)
  have b03 : Blk ((w2.setCell ⟨z, 2, none⟩ (.slice A2 dn c2)).setCell ⟨z, 4, none⟩ (.slice A' n' c')) z 79 #[.int .i64 p.id.1, .int .i64 p.id.2, .slice A2 dn c2, strV p.txt, .slice A' n' c'] := (HB02.out.set 2 _).set 4 _
  have b13 : Blk ((w2.setCell ⟨z, 2, none⟩ (.slice A2 dn c2)).setCell ⟨z, 4, none⟩ (.slice A' n' c')) (z + 1) 41 #[.int .i64 0, .int .i64 0, .slice none 0 0, .string ⟨#[]⟩, .slice none 0 0] := (HB12.out.set_ne (by omega) 2 _).set_ne (by omega) 4 _
  have hb3 : Below w.heap.size w ((w2.setCell ⟨z, 2, none⟩ (.slice A2 dn c2)).setCell ⟨z, 4, none⟩ (.slice A' n' c')) := ((below_mv HBA.out HB2.out).setCell (p := ⟨z, 2, none⟩) (Nat.le_of_eq HZ.out) _).setCell (p := ⟨z, 4, none⟩) (Nat.le_of_eq HZ.out) _
  have hz1 : z + 1 < w1.heap.size := HB1.out.lt
  have hzw := HZ.out
  have hr3 : RdG ((w2.setCell ⟨z, 2, none⟩ (.slice A2 dn c2)).setCell ⟨z, 4, none⟩ (.slice A' n' c')) (fun b => z + 2 ≤ b ∧ b < w2.heap.size) A2 (idsV p.deps) := (HR2.out.mono fun b hb => ⟨by have := hb.1; omega, hb.2⟩).to (((alike_set w2 z 2 (.slice A2 dn c2)).trans_ (alike_set _ z 4 (.slice A' n' c')) (by simp)).mono fun b hb => by omega)
  have hs3 : ((w2.setCell ⟨z, 2, none⟩ (.slice A2 dn c2)).setCell ⟨z, 4, none⟩ (.slice A' n' c')).heap.size = w2.heap.size := by simp
  clear x0 x1 x2 x3 x4 f2 f4 l0
  generalize ((w2.setCell ⟨z, 2, none⟩ (.slice A2 dn c2)).setCell ⟨z, 4, none⟩ (.slice A' n' c')) = w3 at b03 b13 hb3 hr3 hs3 ⊢
  have x0 := b03.cell 0 rfl; have x1 := b03.cell 1 rfl; have x2 := b03.cell 2 rfl; have x3 := b03.cell 3 rfl; have x4 := b03.cell 4 rfl
  have y0 := b13.cell 0 rfl; have y1 := b13.cell 1 rfl; have y2 := b13.cell 2 rfl; have y3 := b13.cell 3 rfl; have y4 := b13.cell 4 rfl
  have g0 := b13.frozen 0; have g1 := b13.frozen 1; have g2 := b13.frozen 2; have g3 := b13.frozen 3; have g4 := b13.frozen 4
  have hl0 := b03.lt; have hl1 := b13.lt
  have b14 := blk5 b13 (.int .i64 p.id.1) (.int .i64 p.id.2) (.slice A2 dn c2) (strV p.txt) (.slice A' n' c')
  have hb4 := below_set5 hb3 (show w.heap.size ≤ z + 1 by omega) (.int .i64 p.id.1) (.int .i64 p.id.2) (.slice A2 dn c2) (strV p.txt) (.slice A' n' c')
  have hr4 := hr3.to ((alike_set5 w3 (z + 1) (.int .i64 p.id.1) (.int .i64 p.id.2) (.slice A2 dn c2) (strV p.txt) (.slice A' n' c')).mono fun b hb => by omega)
  have hs4 : (World.setCell (World.setCell (World.setCell (World.setCell (World.setCell w3 ⟨z + 1, 0, none⟩ (.int .i64 p.id.1)) ⟨z + 1, 1, none⟩ (.int .i64 p.id.2)) ⟨z + 1, 2, none⟩ (.slice A2 dn c2)) ⟨z + 1, 3, none⟩ (strV p.txt)) ⟨z + 1, 4, none⟩ (.slice A' n' c')).heap.size = w3.heap.size := by simp
  have HB4 := Lib.hid hb4; have HR4 := Lib.hid hr4; have HS4 := Lib.hid (hs4.trans hs3); have B14 := Lib.hid b14; have HC2 := Lib.hid hc2
  clear b03 b13 hb3 hr3 hs3 hb4 hr4 hs4 b14 hz1 hzw hc2 HB2 HB02 HB12 HR2 HO HB0 HB1 HBA HR1
  go_wp2_with fail
  generalize (World.setCell (World.setCell (World.setCell (World.setCell (World.setCell w3 ⟨z + 1, 0, none⟩ (.int .i64 p.id.1)) ⟨z + 1, 1, none⟩ (.int .i64 p.id.2)) ⟨z + 1, 2, none⟩ (.slice A2 dn c2)) ⟨z + 1, 3, none⟩ (strV p.txt)) ⟨z + 1, 4, none⟩ (.slice A' n' c')) = w4 at *
  have u0 := B14.out.cell 0 rfl; have u1 := B14.out.cell 1 rfl; have u2 := B14.out.cell 2 rfl; have u3 := B14.out.cell 3 rfl; have u4 := B14.out.cell 4 rfl
  refine bodyPost_ret (v := .agg #[.int .i64 p.id.1, .int .i64 p.id.2, .slice A2 dn c2, strV p.txt, .slice A' n' c']) (by simp [results, Tryz.results32, go_sem, u0, u1, u2, u3, u4]) rfl ?_
  exact ⟨A2, c2, rfl, HC2.out, HR4.out.mono fun b hb => ⟨by have := HZ.out; omega, by have := HS4.out; omega⟩, HB4.out⟩

end Tg
end Go.Proofs.YtfnhjflocfmcoaaGreat

set_option maxRecDepth 100000
namespace Go.Proofs.YtfnhjflocfmcoaaGreat
open Go.RowKit Go.Shelf
set_option linter.unusedVariables false
namespace Fl
open Tx Rg
attribute [local go_sem] Oper.semAt_some

/-- Places from the last one on. -/
def dn (m : Nat) : List Nat := (List.range m).reverse
theorem dn_zero : dn 0 = [] := rfl
theorem dn_succ (k : Nat) : dn (k + 1) = k :: dn k := by unfold dn; rw [List.range_succ, List.reverse_append]; rfl
theorem dn_length (m : Nat) : (dn m).length = m := by unfold dn; simp
theorem dn_split : ∀ {m : Nat} {pre post : List Nat} {x : Nat}, dn m = pre ++ x :: post → pre.length + x + 1 = m
  | 0, pre, post, x, h => by simp [dn_zero] at h
  | m + 1, [], post, x, h => by
    rw [dn_succ] at h
    injection h with h1 h2
    simp; omega
  | m + 1, y :: pre, post, x, h => by
    rw [dn_succ, List.cons_append] at h
    injection h with h1 h2
    have := dn_split h2
    simp; omega

/-- What a round must keep: the box in which the slice lies, and that its changes can be read. -/
def KpL (Bs : Nat) (A : Option Addr) (m : Nat) (W W' : World) : Prop := (∀ v, Boxed W Bs 39 v → Boxed W' Bs 39 v) ∧ (Cells6 W A m → Cells6 W' A m)
section
variable {Bs m : Nat} {A : Option Addr}
theorem kpL_t {W W1 W2 : World} (h : KpL Bs A m W W1) (k : KpL Bs A m W1 W2) : KpL Bs A m W W2 := ⟨fun v hv => k.1 v (h.1 v hv), fun hv => k.2 (h.2 hv)⟩
theorem kpL_b {l : Nat} (hB : Bs ≠ l) (W : World) (o o' : Obj) (h : W.heap[l]? = some o) (ho : o.isCells = false) : KpL Bs A m W (W.putObj l o') :=
  ⟨fun v hv => hv.kept (grownBy_putObj' W l o') (by simpa using hB), fun hv => hv.kc (keepC_plain (grownBy_putObj' W l o') (fun r e => by cases e; exact ⟨o, h, ho⟩))⟩
theorem kpL_new {W W' : World} (hg : W.grownBy W' none) : KpL Bs A m W W' := ⟨fun v hv => hv.kept hg (by simp), fun hv => hv.kc (keepC_plain hg (fun r e => by cases e))⟩
end

/-- What is handed over. -/
def EL (m : Nat) (A : Option Addr) (i : Nat) (vals : Array Value) (W : World) : Prop := i < m ∧ ∃ a v0 v1 v2 v3 v4 v5, A = some a ∧ vals = #[.int .i64 (i : Int), .agg #[v0, v1, v2, v3, v4, v5]] ∧
  W.cell? (a.add (i * 6)) = some v0 ∧ W.cell? ⟨(a.add (i * 6)).block, (a.add (i * 6)).off + 1, none⟩ = some v1 ∧ W.cell? ⟨(a.add (i * 6)).block, (a.add (i * 6)).off + 2, none⟩ = some v2 ∧
  W.cell? ⟨(a.add (i * 6)).block, (a.add (i * 6)).off + 3, none⟩ = some v3 ∧ W.cell? ⟨(a.add (i * 6)).block, (a.add (i * 6)).off + 4, none⟩ = some v4 ∧ W.cell? ⟨(a.add (i * 6)).block, (a.add (i * 6)).off + 5, none⟩ = some v5

theorem backL_in (n : Nat) (A : Option Addr) (l c : Nat) (w : World) :
    CallsIn Fence.wide n Tryz.prog 57 #[.slice A l c] w fun e w' => e = .returned (.func (.func 77) #[] #[.pointer (some ⟨w.heap.size, 0, none⟩)]) ∧ w' = w.alloc (.cells #[.slice A l c] 39) := by
  refine callsIn_of_wp Tryz.func57 rfl trivial ?_ rfl
  simp only [Tryz.ntmps57, List.size_toArray, List.length_cons, List.length_nil, Nat.reduceAdd, Nat.reduceSub, Array.replicate_succ, Array.replicate_zero, List.push_toArray, List.append_toArray, List.nil_append, List.cons_append]
  gi_wp2
  go_ret
  exact ⟨rfl, rfl⟩

set_option maxRecDepth 100000 in
set_option maxHeartbeats 2000000 in
theorem backL1_in (n l Bs cap m : Nat) (A : Option Addr) (hle : m ≤ 1000000) (J Jx : List Nat → World → Prop)
    (hY : ∀ pre x post vals W1, dn m = pre ++ x :: post → J pre W1 → EL m A x vals W1 → YieldAt Fence.wide (n - 1) Tryz.prog l vals W1 fun e W' =>
      (e = .returned (.bool true) ∧ J (pre ++ [x]) W' ∧ KpL Bs A m W1 W') ∨ (e = .returned (.bool false) ∧ Jx (pre ++ [x]) W'))
    (W : World) (hBs : Boxed W Bs 39 (.slice A m cap)) (hR : Cells6 W A m) (h0 : J [] W) :
    CallsIn Fence.wide n Tryz.prog 77 #[.func (.yield l) #[] #[], .pointer (some ⟨Bs, 0, none⟩)] W fun e W' => (∃ v, e = .returned v) ∧ (J (dn m) W' ∨ ∃ pre post, dn m = pre ++ post ∧ Jx pre W') := by
  have hc := hBs.cell
  refine callsIn_of_wp Tryz.func77 rfl trivial ?_ rfl
  simp only [Tryz.ntmps77, List.size_toArray, List.length_cons, List.length_nil, Nat.reduceAdd, Nat.reduceSub, Array.replicate_succ, Array.replicate_zero, List.push_toArray, List.append_toArray, List.nil_append, List.cons_append]
  gi_wp2
  gi_loopw [3] (fun i wr => ∃ k pre, k ≤ m ∧ i = .int .i64 ((k : Int) - 1) ∧ dn m = pre ++ dn k ∧ J pre wr ∧ Boxed wr Bs 39 (.slice A m cap) ∧ Cells6 wr A m) (fun i _ => (intOf i + 1).toNat)
  case atStart => exact ⟨m, [], Nat.le_refl _, rfl, rfl, h0, hBs, hR⟩
  case round =>
    clear hc
    obtain ⟨k, pre, hk, rfl, hb, hJs, hBs', hR'⟩ := hrel
    have HB := Lib.hid hb; clear hb
    have HR := Lib.hid hR'; clear hR'
    have hc := hBs'.cell
    cases k with
    | zero =>
      have e : (((0 : Nat) : Int) - 1) = -1 := rfl
      rw [e]; clear e
      gi_wp2
      go_end0
      exact ⟨⟨_, rfl⟩, .inl (by have := HB.out; rw [dn_zero, List.append_nil] at this; rw [this]; exact hJs)⟩
    | succ k =>
      have e : (((k + 1 : Nat) : Int) - 1) = (k : Int) := by omega
      rw [e]; clear e
      have HB2 : Hid (dn m = pre ++ k :: dn k) := Lib.hid (by rw [HB.out, dn_succ])
      clear HB
      obtain ⟨a, v0, v1, v2, v3, v4, v5, rfl, c0, c1, c2, c3, c4, c5⟩ := HR.out k (by omega)
      obtain ⟨fn, tmps, assign, body, hy, hRR⟩ := hY pre k _ #[.int .i64 (k : Int), .agg #[v0, v1, v2, v3, v4, v5]] wr HB2.out hJs ⟨by omega, a, v0, v1, v2, v3, v4, v5, rfl, rfl, c0, c1, c2, c3, c4, c5⟩
      gi_wp2
      refine ⟨(fun h => by cases h), ?_⟩
      refine hRR.mono ?_
      rintro e W3 (⟨rfl, hJ3, hk3⟩ | ⟨rfl, hJx3⟩)
      · have hc3 := (hk3.1 _ hBs').cell
        clear c0 c1 c2 c3 c4 c5
        gi_wp2
        go_roundw
        case rel => exact ⟨k, pre ++ [k], by omega, rfl, by rw [HB2.out]; simp, hJ3, hk3.1 _ hBs', hk3.2 HR.out⟩
        case measure => simp [intOf]
      · gi_wp2
        refine bodyPost_ret (results_none rfl _ _ _) rfl ?_
        exact ⟨⟨_, rfl⟩, .inr ⟨pre ++ [k], dn k, by rw [HB2.out]; simp, hJx3⟩⟩

theorem backL_gives (n Bs cap m : Nat) (A : Option Addr) (hle : m ≤ 1000000) (w : World) (hBs : Boxed w Bs 39 (.slice A m cap)) (hR : Cells6 w A m) :
    GivesE Tryz.prog Plain n 77 #[.pointer (some ⟨Bs, 0, none⟩)] (EL m A) (dn m) (KpL Bs A m) w := fun J Jx W hW hs _ _ hY h0 =>
  backL1_in n _ Bs cap m A hle J Jx (fun pre x post vals W1 h1 h2 h3 => yield_less (hY pre x post vals W1 h1 h2 h3)) W ((hW.block Bs hBs.lt).trans hBs) (cells6_below hR hW) h0

end Fl
end Go.Proofs.YtfnhjflocfmcoaaGreat

set_option maxRecDepth 100000
namespace Go.Proofs.YtfnhjflocfmcoaaGreat
open Go.RowKit
set_option linter.unusedVariables false
set_option linter.unusedSimpArgs false
namespace Fl
open Tx Df Sq Hk Tr Pr

/-- The cells of one change within a row's. -/
def CellsAt (W : World) (S : Nat → Prop) (xs : List Value) (k : Nat) (x : Ch) : Prop :=
  ∃ A n c B m d, xs[k * 6]? = some (.int .i64 x.k) ∧ xs[k * 6 + 1]? = some (strV x.nm) ∧ xs[k * 6 + 2]? = some (strV x.to) ∧ xs[k * 6 + 3]? = some (.int .i64 x.h.pos) ∧ xs[k * 6 + 4]? = some (.slice A n c) ∧ xs[k * 6 + 5]? = some (.slice B m d) ∧ PG W S A n c B m d x
section
variable {W : World} {S T : Nat → Prop} {xs : List Value} {k p : Nat} {x y : Ch}
theorem cellsAt_set (h : CellsAt W S xs p y) (hp : p ≠ k) (u u' : Value) : CellsAt W S ((xs.set (k * 6 + 4) u).set (k * 6 + 5) u') p y := by
  obtain ⟨A, n, c, B, m, d, h0, h1, h2, h3, h4, h5, h6⟩ := h
  have key : ∀ b, b < 6 → ((xs.set (k * 6 + 4) u).set (k * 6 + 5) u')[p * 6 + b]? = xs[p * 6 + b]? := fun b hb => by
    rw [List.getElem?_set_ne (by omega), List.getElem?_set_ne (by omega)]
  exact ⟨A, n, c, B, m, d, (key 0 (by decide)).trans h0, (key 1 (by decide)).trans h1, (key 2 (by decide)).trans h2, (key 3 (by decide)).trans h3, (key 4 (by decide)).trans h4, (key 5 (by decide)).trans h5, h6⟩
theorem cellsAt_new {A B : Option Addr} {n c m d : Nat} (h : CellsAt W T xs k x) (hl : k * 6 + 5 < xs.length) (hy : PG W S A n c B m d x) : CellsAt W S ((xs.set (k * 6 + 4) (.slice A n c)).set (k * 6 + 5) (.slice B m d)) k x := by
  obtain ⟨_, _, _, _, _, _, h0, h1, h2, h3, _, _, _⟩ := h
  refine ⟨A, n, c, B, m, d, ?_, ?_, ?_, ?_, ?_, ?_, hy⟩
  · rw [List.getElem?_set_ne (by omega), List.getElem?_set_ne (by omega)]; exact h0
  · rw [List.getElem?_set_ne (by omega), List.getElem?_set_ne (by omega)]; exact h1
  · rw [List.getElem?_set_ne (by omega), List.getElem?_set_ne (by omega)]; exact h2
  · rw [List.getElem?_set_ne (by omega), List.getElem?_set_ne (by omega)]; exact h3
  · rw [List.getElem?_set_ne (by omega), List.getElem?_set_self (by omega)]
  · rw [List.getElem?_set_self (by rw [List.length_set]; exact hl)]
end

/-- Blocks made behind w that are not the row. -/
def Fresh (w W : World) (row : Option Nat) : Nat → Prop := fun b => w.heap.size ≤ b ∧ b < W.heap.size ∧ some b ≠ row
theorem fresh_up {w W W' : World} {row : Option Nat} (hs : W.heap.size ≤ W'.heap.size) : ∀ b, Fresh w W row b → Fresh w W' row b := fun b h => ⟨h.1, Nat.lt_of_lt_of_le h.2.1 hs, h.2.2⟩
theorem fresh_out {w W : World} {row : Option Nat} : ∀ b, Fresh w W row b → Out W row b := fun b h => ⟨h.2.1, h.2.2⟩

/-- A row of changes, the first k of them with lines of their own. -/
def OwnK (w W : World) (v : Value) (l : List Ch) (k : Nat) : Prop := ∃ xs, W.ownsRow w.heap.size 55 6 v l.length xs ∧ PCells W (Fresh w W v.ownBlock) (l.take k) xs ∧ PCells W (Out W v.ownBlock) l xs
section
variable {w W W' : World} {v : Value} {l : List Ch} {k : Nat}
theorem ownK_start (h : OwnP W w.heap.size v l) : OwnK w W v l 0 := by
  obtain ⟨xs, h1, h2⟩ := h
  exact ⟨xs, h1, by rw [List.take_zero]; exact PCells.nil _ _ _, h2⟩
theorem OwnK.own (h : OwnK w W v l k) : OwnP W w.heap.size v l := by
  obtain ⟨xs, h1, h2, h3⟩ := h
  exact ⟨xs, h1, h3⟩
theorem OwnK.done (h : OwnK w W v l k) (hk : l.length ≤ k) : OwnS W (Fresh w W v.ownBlock) w.heap.size v l := by
  obtain ⟨xs, h1, h2, h3⟩ := h
  rw [List.take_of_length_le hk] at h2
  exact ⟨xs, h1, h2⟩
theorem OwnK.below (h : OwnK w W v l k) (hb : Below W.heap.size W W') : OwnK w W' v l k := by
  obtain ⟨xs, h1, h2, h3⟩ := h
  exact ⟨xs, own_gr h1 (below_gr_row hb), (h2.to (fun b _ hl => hb.block b hl)).mono (fresh_up hb.size), (h3.to (fun b _ hl => hb.block b hl)).mono (out_up hb.size)⟩
theorem OwnK.step {g n cap : Nat} {x : Ch} {D D' : Option Addr} {m d m' d' : Nat} (h : OwnK w W (.slice (some ⟨g, 0, none⟩) n cap) l k) (hx : l[k]? = some x) (hy : PG W (Fresh w W (some g)) D m d D' m' d' x) :
    OwnK w ((W.setCell ⟨g, k * 6 + 4, none⟩ (.slice D m d)).setCell ⟨g, k * 6 + 5, none⟩ (.slice D' m' d')) (.slice (some ⟨g, 0, none⟩) n cap) l (k + 1) := by
  obtain ⟨xs, hr, h2, h3⟩ := h
  have hn : l.length = n := by
    rcases hr.2 with ⟨h0, _⟩ | ⟨g', cap', cur, h0, _⟩
    · cases h0
    · injection h0 with _ h0; exact h0.symm
  subst hn
  have hk : k < l.length := (List.getElem?_eq_some_iff.1 hx).1
  have hxl := hr.1
  obtain ⟨r1, g1⟩ := hr.stored (k * 6 + 4) (.slice D m d)
  obtain ⟨r2, g2⟩ := r1.stored (k * 6 + 5) (.slice D' m' d')
  have al : ∀ (S : Nat → Prop), (∀ b, S b → b ≠ g) → Alike S W ((W.setCell ⟨g, k * 6 + 4, none⟩ (.slice D m d)).setCell ⟨g, k * 6 + 5, none⟩ (.slice D' m' d')) := fun S hS b hb hl =>
    (alike_set _ g _ _ b (hS b hb) (by simp; exact hl)).trans (alike_set W g _ _ b (hS b hb) hl)
  have sz : W.heap.size ≤ ((W.setCell ⟨g, k * 6 + 4, none⟩ (.slice D m d)).setCell ⟨g, k * 6 + 5, none⟩ (.slice D' m' d')).heap.size := by simp
  have c0 : CellsAt W (Out W (some g)) xs k x := h3 k x hx
  refine ⟨_, r2, ?_, ?_⟩
  · refine (PCells.to (W := W) (S := Fresh w W (some g)) ?_ (al _ fun b hb e => hb.2.2 (by rw [e]))).mono (fresh_up sz)
    intro p y hy'
    rw [List.getElem?_take] at hy'
    by_cases e : p = k
    · subst e
      rw [if_pos (by omega)] at hy'
      rw [hx] at hy'
      injection hy' with hy'
      subst hy'
      exact cellsAt_new c0 (by omega) hy
    · have hp : p < k := by
        by_cases hp : p < k + 1
        · omega
        · rw [if_neg hp] at hy'; cases hy'
      rw [if_pos (by omega)] at hy'
      exact cellsAt_set (h2 p y (by rw [List.getElem?_take, if_pos hp]; exact hy')) e _ _
  · refine (PCells.to (W := W) (S := Out W (some g)) ?_ (al _ fun b hb e => hb.2 (by rw [e]))).mono (out_up sz)
    intro p y hy'
    by_cases e : p = k
    · subst e
      rw [hx] at hy'
      injection hy' with hy'
      subst hy'
      exact cellsAt_new c0 (by omega) (hy.mono fresh_out)
    · exact cellsAt_set (h3 p y hy') e _ _
end

/-- How own ends. -/
def MineEnd (w : World) (n : Nat) (l : List Ch) (e : Ending) (w' : World) : Prop :=
  ∃ A c, e = .returned (.slice A n c) ∧ n ≤ c ∧ OwnS w' (Fresh w w' (Value.slice A n c).ownBlock) w.heap.size (.slice A n c) l ∧ Below w.heap.size w w'

set_option maxRecDepth 100000 in
set_option maxHeartbeats 4000000 in
theorem ownL (A : Option Addr) (n c : Nat) (l : List Ch) (w : World) (hn : l.length = n) (hle : n ≤ 1000) (hl : Lt l) (hR : RdP w (· < w.heap.size) A l) :
    Calls Tryz.prog 46 #[.slice A n c] w (MineEnd w n l) := by
  have HR := Lib.hid hR; have HN := Lib.hid hn; have HL := Lib.hid hl
  clear hR hn hl
  go_enter Tryz.func46, Tryz.ntmps46
  go_wp2_with (at_builtin; refine wpList_ownPL rfl (.const (.slice none 0 0)) (.tmp 6) rfl w.heap.size w.heap.size n c (.slice none 0 0) A [] l rfl rfl (ownP_nil _ _) HR.out (Nat.le_refl _) HN.out (by simp; omega) (Nat.le_refl _) ?_; intro v w1 ho hg; have HO := Lib.hid (show OwnP w1 w.heap.size v l from ho); have HB := Lib.hid ((Below.refl w.heap.size w).grown hg (Nat.le_refl _) (fun k e => by cases e)); clear ho hg; obtain ⟨A1, c1, hv1, hc1⟩ : ∃ A1 c1, v = .slice A1 n c1 ∧ n ≤ c1 := (rdP_own HO.out).elim fun A1 h => h.elim fun c1 h => ⟨A1, c1, by rw [← HN.out]; exact h.1, by rw [← HN.out]; exact h.2.1⟩; subst hv1)
  clear HR
  go_loopw [10] (fun i wr => ∃ k : Nat, k ≤ n ∧ i = .int .i64 (k : Int) ∧ OwnK w wr (.slice A1 n c1) l k ∧ Below w.heap.size w wr) (fun i _ => n - (intOf i).toNat)
  case atStart => exact ⟨0, Nat.zero_le _, rfl, ownK_start HO.out, HB.out⟩
  case round =>
    clear HO HB
    obtain ⟨k, hk, rfl, ho, hb⟩ := hrel
    have HB := Lib.hid hb; have HO := Lib.hid ho
    clear hb ho
    by_cases hlt : k < n
    · obtain ⟨g, cap, e, hg1, hg2⟩ : ∃ g cap, Value.slice A1 n c1 = .slice (some ⟨g, 0, none⟩) n cap ∧ w.heap.size ≤ g ∧ g < wr.heap.size := by
        obtain ⟨xs, hr, _⟩ := HO.out
        rcases hr.2 with ⟨_, h1⟩ | ⟨g, cap, cur, e, hbg, hgb, hc, _⟩
        · have := HN.out; omega
        · injection e with e1 e2 e3
          subst e1 e3
          exact ⟨g, c1, rfl, hbg, (Array.getElem?_eq_some_iff.1 hgb).1⟩
      injection e with e1 e2 e3
      subst e1 e3
      clear e2
      have hki : (k : Int) < (n : Int) := by omega
      obtain ⟨x, hx⟩ : ∃ x, l[k]? = some x := ⟨_, List.getElem?_eq_getElem (by rw [HN.out]; exact hlt)⟩
      obtain ⟨B, i, j, D, m, d, c0, c1', c2, c3, c4, c5, hf, hp⟩ := OwnS.elem HO.out.own HN.out hx
      have HX := Lib.hid hx
      have HLX := Lib.hid (lt_len hp (HL.out x (List.mem_of_getElem? hx)))
      have HBX := Lib.hid (Blk.new wr 55 #[.int .i64 x.k, strV x.nm, strV x.to, .int .i64 x.h.pos, .slice B i j, .slice D m d])
      have HP := Lib.hid ((hp.mono fun b h => h.1).pv)
      clear hx hf hp
      have hba : Below wr.heap.size wr (wr.alloc (.cells #[.int .i64 x.k, strV x.nm, strV x.to, .int .i64 x.h.pos, .slice B i j, .slice D m d] 55)) := (Below.refl _ _).alloc (Nat.le_refl _) _
      have HPW := Lib.hid (HP.out.below hba); have HOW := Lib.hid (HO.out.below hba); have HBW := Lib.hid (HB.out.trans (hba.mono HB.out.size))
      have hsz : (wr.alloc (.cells #[.int .i64 x.k, strV x.nm, strV x.to, .int .i64 x.h.pos, .slice B i j, .slice D m d] 55)).heap.size = wr.heap.size + 1 := by simp
      have HSZ := Lib.hid hsz
      clear hba hsz HP HO HB
      go_upto_region 5 with fail
      clear c0 c1' c2 c3 c4 c5
      generalize (wr.alloc (.cells #[.int .i64 x.k, strV x.nm, strV x.to, .int .i64 x.h.pos, .slice B i j, .slice D m d] 55)) = W at *
      obtain ⟨z, hz⟩ : ∃ z, wr.heap.size = z := ⟨_, rfl⟩
      rw [hz] at HBX HPW HSZ hg2 ⊢
      clear hz
      have hlx := HLX.out
      have PX : Hid (∀ X, Below W.heap.size W X → Calls Tryz.prog 54 #[.slice B i j] X (fun e u => ∃ P p, e = .returned (.slice P i p) ∧ i ≤ p ∧ RdS u u.heap.size P x.h.old ∧ Hi X.heap.size P ∧ X.grownBy u none)) := Lib.hid (fun X hb => ownLines B i j z x.h.old X HPW.out.h.l (by omega) (by have := HSZ.out; have := hb.size; omega) (Rd.below HPW.out.h.r (hb.mono (by have := HSZ.out; omega))))
      have PY : Hid (∀ X, Below W.heap.size W X → Calls Tryz.prog 54 #[.slice D m d] X (fun e u => ∃ P p, e = .returned (.slice P m p) ∧ m ≤ p ∧ RdS u u.heap.size P x.h.new ∧ Hi X.heap.size P ∧ X.grownBy u none)) := Lib.hid (fun X hb => ownLines D m d z x.h.new X HPW.out.h.l' (by omega) (by have := HSZ.out; have := hb.size; omega) (Rd.below HPW.out.h.r' (hb.mono (by have := HSZ.out; omega))))
      have HGZ := Lib.hid (show z ≠ g by omega)
      have HSB : Hid (∀ X, Blk X z 55 #[.int .i64 x.k, strV x.nm, strV x.to, .int .i64 x.h.pos, .slice B i j, .slice D m d] → X.cell? ⟨z, 4, none⟩ = some (.slice B i j) ∧ X.cell? ⟨z, 5, none⟩ = some (.slice D m d)) := Lib.hid (fun X b => ⟨b.cell 4 rfl, b.cell 5 rfl⟩)
      have HC : Hid (∀ X, Below W.heap.size W X → X.cell? ⟨z, 4, none⟩ = some (.slice B i j) ∧ X.cell? ⟨z, 5, none⟩ = some (.slice D m d)) := Lib.hid (fun X hb => HSB.out X (HBX.out.below hb HBX.out.lt))
      have HKD := Lib.hid (HC.out W.drew (below_drewN (Below.refl _ _) 1))
      have hzl := HBX.out.lt
      obtain ⟨z4, z5⟩ := HC.out W (Below.refl _ _)
      go_region_held3 (fun X => X.cell? ⟨z, 4, none⟩ = some (.slice B i j) ∧ X.cell? ⟨z, 5, none⟩ = some (.slice D m d))
        (first | (with_reducible exact HKD.out) | (with_reducible exact hS5) | (with_reducible exact hS6) | (with_reducible exact HK2.out _ _) | (with_reducible exact HK3.out _ _ _ _))
        (first
          | (go_at_call 54; (with_reducible refine (PX.out W.drew (below_drewN (Below.refl _ _) 1)).mono ?_); rintro e w5 ⟨P5, p5, rfl, hk5, hr5, hh5, hg5⟩; have hbu := (below_drewN (Below.refl W.heap.size W) 1).trans (below_gr hg5); have hS5 := HC.out w5 hbu; have HU5 := Lib.hid hbu; have HR5 := Lib.hid hr5; have HH5 := Lib.hid hh5; have HK5 := Lib.hid hk5; clear hg5 hbu hr5 hh5 hk5)
          | (go_at_call 54; (with_reducible refine (PY.out w5 HU5.out).mono ?_); rintro e w6 ⟨P6, p6, rfl, hk6, hr6, hh6, hg6⟩; have hb6 := below_gr hg6; have hbu := HU5.out.trans (hb6.mono HU5.out.size); have hS6 := HC.out w6 hbu; have HU6 := Lib.hid hbu; have HB6 := Lib.hid hb6; have HR6 := Lib.hid hr6; have HH6 := Lib.hid hh6; have HK6 := Lib.hid hk6;
              have bz := HBX.out.below hbu HBX.out.lt;
              have HK2 := Lib.hid (fun (a : Nat) (v : Value) => HSB.out _ (bz.set_ne HGZ.out a v));
              have HK3 := Lib.hid (fun (a : Nat) (v : Value) (a' : Nat) (v' : Value) => HSB.out _ ((bz.set_ne HGZ.out a v).set_ne HGZ.out a' v'));
              have ho6 := HOW.out.below hbu; have HO6 := Lib.hid ho6;
              obtain ⟨_, _, _, _, _, _, q0, q1, q2, q3, q4, q5, qf, _⟩ := OwnS.elem ho6.own HN.out HX.out;
              have f4 := qf (k * 6 + 4); have f5 := qf (k * 6 + 5);
              clear q0 q1 q2 q3 qf ho6 bz hb6 hbu hr6 hh6 hk6 hg6))
      have HGL := Lib.hid (And.intro hg1 hg2)
      clear z4 z5 q4 q5 f4 f5 hS5 hS6 hzl HK2 HK3 HKD HC HSB PX PY
      go_wp2_with fail
      go_roundw
      case rel =>
        have v := HPW.out
        have hsz := HSZ.out
        have hgl := HGL.out
        have e5 : w5.heap.size ≤ w6.heap.size := HB6.out.size
        have u5 : W.heap.size ≤ w5.heap.size := HU5.out.size
        have r5 : RdG w6 (Fresh w w6 (some g)) P5 (x.h.old.map strV) := (rdG_hi (Rd.below HR5.out HB6.out) HH5.out).mono fun b hb => by
          have h1 : W.heap.size ≤ b := hb.1
          have h2 : b < w5.heap.size := hb.2
          exact ⟨by omega, by omega, fun e => by injection e with e; omega⟩
        have r6 : RdG w6 (Fresh w w6 (some g)) P6 (x.h.new.map strV) := (rdG_hi HR6.out HH6.out).mono fun b hb => by
          have h1 : w5.heap.size ≤ b := hb.1
          have h2 : b < w6.heap.size := hb.2
          exact ⟨by omega, by omega, fun e => by injection e with e; omega⟩
        refine ⟨k + 1, by omega, by go_num, OwnK.step HO6.out HX.out ⟨v.h.l, v.h.l', HK5.out, HK6.out, v.h.m, v.h.m', r5, r6, v.h.p, v.k, v.nm, v.to, v.s, v.s'⟩, ?_⟩
        exact ((HBW.out.trans (HU6.out.mono HBW.out.size)).setCell (p := ⟨g, k * 6 + 4, none⟩) hgl.1 _).setCell (p := ⟨g, k * 6 + 5, none⟩) hgl.1 _
      case measure => simp [intOf]; omega
    · have HE : Hid (l.length ≤ k) := Lib.hid (by rw [HN.out]; omega)
      go_wp2
      go_ret
      exact ⟨A1, c1, rfl, hc1, HO.out.done HE.out, HB.out⟩

end Fl
end Go.Proofs.YtfnhjflocfmcoaaGreat

set_option maxRecDepth 100000
namespace Go.Proofs.YtfnhjflocfmcoaaGreat
open Go.RowKit Go.Shelf
set_option linter.unusedVariables false
set_option linter.unusedSimpArgs false
namespace Fl
open Tx Df Sq Hk Tr Pr Rg
attribute [local go_sem] Oper.semAt_some

/-- The cells of a change. -/
abbrev cellsV (x : Ch) (A : Option Addr) (n c : Nat) (B : Option Addr) (m d : Nat) : Array Value := #[.int .i64 x.k, strV x.nm, strV x.to, .int .i64 x.h.pos, .slice A n c, .slice B m d]
abbrev zeroV : Array Value := #[.int .i64 0, .string ⟨#[]⟩, .string ⟨#[]⟩, .int .i64 0, .slice none 0 0, .slice none 0 0]

/-- How through ends. -/
def ThruEnd (w : World) (R : Nat → Prop) (base : Nat) (v : Value) (o : Option (Ch × List Ch)) (e : Ending) (w' : World) : Prop :=
  (∀ z, o = some z → ∃ D m k D' m' k', e = .returned (.tuple #[prV z.1.k z.1.nm z.1.to z.1.h.pos D m k D' m' k', .bool true]) ∧ OwnS w' (But w' R) base v z.2 ∧ PG w' (But w' R) D m k D' m' k' z.1) ∧
  (o = none → e = .returned (.tuple #[.agg zeroV, .bool false])) ∧ w.grownBy w' v.ownBlock

/-- The values that are handed over, with the cells they come from. -/
theorem ab_EL {β : Type} {n : Nat} {A : Option Addr} {i : Nat} {vals : Array Value} {B : Nat} : Ab (β := β) Plain B (fun _ W => EL n A i vals W) := fun s W W' row hs hg hr => by
  have hk : KeepC (fun _ => True) W W' := keepC_plain hg (fun r e => (hr r e).2)
  obtain ⟨hi, a, v0, v1, v2, v3, v4, v5, h1, h2, c0, c1, c2, c3, c4, c5⟩ := hs
  exact ⟨hi, a, v0, v1, v2, v3, v4, v5, h1, h2, hk.cell trivial c0, hk.cell trivial c1, hk.cell trivial c2, hk.cell trivial c3, hk.cell trivial c4, hk.cell trivial c5⟩
theorem EL.row {X : World} {S : Nat → Prop} {base n c i : Nat} {A : Option Addr} {L : List Ch} {vals : Array Value} (h : EL n A i vals X) (hr : OwnS X S base (.slice A n c) L) (hL : L.length = n) :
    ∃ p g B r s B' r' s', A = some ⟨g, 0, none⟩ ∧ L[i]? = some p ∧ vals = #[.int .i64 (i : Int), .agg (cellsV p B r s B' r' s')] ∧ PG X S B r s B' r' s' p ∧ base ≤ g ∧ g < X.heap.size := by
  obtain ⟨hi, a, v0, v1, v2, v3, v4, v5, rfl, rfl, c0, c1, c2, c3, c4, c5⟩ := h
  have hr0 := hr
  obtain ⟨xs, hrow, _⟩ := hr0
  rcases hrow.2 with ⟨e, _⟩ | ⟨g, cap, cur, e, hbg, hgb, hc, _⟩
  · cases e
  · injection e with e1 e2 e3
    injection e1 with e1
    subst e1
    obtain ⟨p, hp⟩ : ∃ p, L[i]? = some p := ⟨_, List.getElem?_eq_getElem (by omega)⟩
    obtain ⟨B, r, s, B', r', s', g0, g1, g2, g3, g4, g5, _, hpg⟩ := hr.elem hL hp
    have ea : (⟨g, 0, none⟩ : Addr).add (i * 6) = ⟨g, i * 6, none⟩ := by unfold Addr.add; split <;> simp_all
    rw [ea] at c0 c1 c2 c3 c4 c5
    have e0 := Option.some.inj (c0.symm.trans g0)
    have e1 := Option.some.inj (c1.symm.trans g1)
    have e2 := Option.some.inj (c2.symm.trans g2)
    have e3 := Option.some.inj (c3.symm.trans g3)
    have e4 := Option.some.inj (c4.symm.trans g4)
    have e5 := Option.some.inj (c5.symm.trans g5)
    subst e0 e1 e2 e3 e4 e5
    exact ⟨p, g, B, r, s, B', r', s', rfl, hp, rfl, hpg, hbg, (Array.getElem?_eq_some_iff.1 hgb).1⟩
theorem vals_eq {i : Int} {v0 v1 v2 v3 v4 v5 : Value} {p : Ch} {B B' : Option Addr} {r s r' s' : Nat} (h : #[Value.int .i64 i, .agg #[v0, v1, v2, v3, v4, v5]] = #[.int .i64 i, .agg (cellsV p B r s B' r' s')]) :
    v0 = .int .i64 p.k ∧ v1 = strV p.nm ∧ v2 = strV p.to ∧ v3 = .int .i64 p.h.pos ∧ v4 = .slice B r s ∧ v5 = .slice B' r' s' := by
  simpa using h

/-- Between two rounds. -/
structure ThI (w : World) (R : Nat → Prop) (base : Nat) (v : Value) (l : List Ch) (q : Ch) (j : Nat) (x : Ch) (post : List Ch) (D : Option Addr) (m k : Nat) (D' : Option Addr) (m' k' : Nat) (W : World) : Prop where
  eq : one passP (l.drop j) q = some (x, post)
  lx : lightP x = true
  row : OwnS W (But W R) base v (l.take j ++ post)
  pg : PG W (But W R) D m k D' m' k' x
  bl : Blk W w.heap.size 39 #[v]
  bq : Blk W (w.heap.size + 1) 55 (cellsV x D m k D' m' k')
  br : Blk W (w.heap.size + 1 + 1) 55 zeroV
  bb : Blk W (w.heap.size + 1 + 1 + 1) 4 #[.bool false]
  fr : w.grownBy W v.ownBlock
def ThJ (w : World) (R : Nat → Prop) (base : Nat) (v : Value) (l : List Ch) (q : Ch) (n : Nat) (pre : List Nat) (W : World) : Prop :=
  ∃ x post D m k D' m' k', ThI w R base v l q (n - pre.length) x post D m k D' m' k' W
def ThX (w : World) (v : Value) (l : List Ch) (q : Ch) (c : Code) (_ : List Nat) (W : World) : Prop :=
  c = .ret ∧ one passP l q = none ∧ Blk W (w.heap.size + 1 + 1) 55 zeroV ∧ Blk W (w.heap.size + 1 + 1 + 1) 4 #[.bool false] ∧ w.grownBy W v.ownBlock
section
variable {w : World} {R : Nat → Prop} {base B n : Nat} {v : Value} {l : List Ch} {q : Ch}
theorem thJ_ab (hB : w.heap.size ≤ B) : Ab Plain B (ThJ w R base v l q n) := fun s W W' row hs hg hr => by
  obtain ⟨x, post, D, m, k, D', m', k', h⟩ := hs
  have bl : ∀ {b : Nat} {t : TypeId} {cs : Array Value}, Blk W b t cs → Blk W' b t cs := fun h => ab_blk (β := Unit) (B := B) (fun _ => _) () W W' row h hg hr
  exact ⟨x, post, D, m, k, D', m', k', h.eq, h.lx, ab_ownS (β := Unit) (B := B) (fun _ => _) () W W' row h.row hg hr, ab_pg (β := Unit) (B := B) (fun _ => _) () W W' row h.pg hg hr, bl h.bl, bl h.bq, bl h.br, bl h.bb, ab_grown (β := Unit) (B := B) hB () W W' row h.fr hg hr⟩
theorem thX_ab (hB : w.heap.size ≤ B) (c : Code) : Ab Plain B (ThX w v l q c) := fun s W W' row hs hg hr => by
  obtain ⟨h1, h2, h3, h4, h5⟩ := hs
  have bl : ∀ {b : Nat} {t : TypeId} {cs : Array Value}, Blk W b t cs → Blk W' b t cs := fun h => ab_blk (β := Unit) (B := B) (fun _ => _) () W W' row h hg hr
  exact ⟨h1, h2, bl h3, bl h4, ab_grown (β := Unit) (B := B) hB () W W' row h5 hg hr⟩
end

theorem ThI.mv {w W W' : World} {R : Nat → Prop} {base j m k m' k' : Nat} {v : Value} {l post : List Ch} {q x : Ch} {D D' : Option Addr} (h : ThI w R base v l q j x post D m k D' m' k' W) (hb : Below W.heap.size W W') : ThI w R base v l q j x post D m k D' m' k' W' :=
  ⟨h.eq, h.lx, (h.row.below hb).mono (but_up hb.size), (h.pg.to_ (fun b _ hl => hb.block b hl)).mono (but_up hb.size), h.bl.below hb h.bl.lt, h.bq.below hb h.bq.lt, h.br.below hb h.br.lt, h.bb.below hb h.bb.lt, grow_trans h.fr (below_gr_row hb) (fun i e => by cases e)⟩
theorem ThI.rowlen {w X : World} {R : Nat → Prop} {base j n m k m' k' : Nat} {v : Value} {l post : List Ch} {q x : Ch} {D D' : Option Addr} (h : ThI w R base v l q j x post D m k D' m' k' X) (hl : l.length = n) (hj : j ≤ n) : (l.take j ++ post).length = n := by
  have := one_len passP h.eq
  rw [List.length_drop] at this
  rw [List.length_append, List.length_take, this]; omega
theorem mid_at {α : Type} {l post : List α} {k : Nat} {p : α} (hk : k < l.length) (h : (l.take (k + 1) ++ post)[k]? = some p) : l[k]? = some p := by
  rw [List.getElem?_append_left (by rw [List.length_take]; omega), List.getElem?_take, if_pos (by omega)] at h
  exact h

theorem keepsFrom_below {W W' : World} (B : Nat) (h : Below W.heap.size W W') : KeepsFrom B W W' := ⟨h.size, fun k o _ hk _ => (h.block k (Array.getElem?_eq_some_iff.1 hk).1).trans hk⟩

/-- What through needs of the memory that it is handed. -/
structure ThN (w : World) (R : Nat → Prop) (base n c : Nat) (A : Option Addr) (l : List Ch) (D : Option Addr) (m k : Nat) (D' : Option Addr) (m' k' : Nat) (q : Ch) : Prop where
  len : l.length = n
  lt : Lt l
  lq : lightP q = true
  r : ∀ g, (Value.slice A n c).ownBlock = some g → R g
  rl : ∀ b, R b → b < w.heap.size
  row : OwnS w (But w R) base (.slice A n c) l
  pg : PG w (But w R) D m k D' m' k' q

/-- R, and the boxes that through makes. -/
def RB (w : World) (R : Nat → Prop) : Nat → Prop := fun b => R b ∨ (w.heap.size ≤ b ∧ b < w.heap.size + 4)
section
variable {w W W' : World} {r : Option Nat} {b : Nat}
theorem grow_set (h : w.grownBy W r) (hb : w.heap.size ≤ b) (j : Nat) (v : Value) : w.grownBy (W.setCell ⟨b, j, none⟩ v) r := grow_trans h (grownBy_set W b j v) (fun i e => .inl (by injection e with e; omega))
theorem grow_own (h : w.grownBy W (some b)) (j : Nat) (v : Value) : w.grownBy (W.setCell ⟨b, j, none⟩ v) (some b) := grow_trans h (grownBy_set W b j v) (fun i e => .inr (by injection e with e; rw [e]))
theorem grow_below (h : w.grownBy W r) (hb : Below W.heap.size W W') : w.grownBy W' r := grow_trans h (below_gr_row hb) (fun i e => by cases e)
theorem grow_set6 (h : w.grownBy W r) (hb : w.heap.size ≤ b) (v0 v1 v2 v3 v4 v5 : Value) : w.grownBy (World.setCell (World.setCell (World.setCell (World.setCell (World.setCell (World.setCell W ⟨b, 0, none⟩ (v0)) ⟨b, 1, none⟩ (v1)) ⟨b, 2, none⟩ (v2)) ⟨b, 3, none⟩ (v3)) ⟨b, 4, none⟩ (v4)) ⟨b, 5, none⟩ (v5)) r :=
  grow_set (grow_set (grow_set (grow_set (grow_set (grow_set h hb 0 v0) hb 1 v1) hb 2 v2) hb 3 v3) hb 4 v4) hb 5 v5
theorem grow_own6 (h : w.grownBy W (some b)) (k : Nat) (v0 v1 v2 v3 v4 v5 : Value) : w.grownBy (World.setCell (World.setCell (World.setCell (World.setCell (World.setCell (World.setCell W ⟨b, k * 6, none⟩ (v0)) ⟨b, k * 6 + 1, none⟩ (v1)) ⟨b, k * 6 + 2, none⟩ (v2)) ⟨b, k * 6 + 3, none⟩ (v3)) ⟨b, k * 6 + 4, none⟩ (v4)) ⟨b, k * 6 + 5, none⟩ (v5)) (some b) :=
  grow_own (grow_own (grow_own (grow_own (grow_own (grow_own h (k * 6) v0) (k * 6 + 1) v1) (k * 6 + 2) v2) (k * 6 + 3) v3) (k * 6 + 4) v4) (k * 6 + 5) v5
theorem keeps_set6 (W : World) (B b : Nat) (v0 v1 v2 v3 v4 v5 : Value) : KeepsFrom B W (World.setCell (World.setCell (World.setCell (World.setCell (World.setCell (World.setCell W ⟨b, 0, none⟩ (v0)) ⟨b, 1, none⟩ (v1)) ⟨b, 2, none⟩ (v2)) ⟨b, 3, none⟩ (v3)) ⟨b, 4, none⟩ (v4)) ⟨b, 5, none⟩ (v5)) :=
  ((((((KeepsOthers.setCell _ _ _).from B).trans ((KeepsOthers.setCell _ _ _).from B)).trans ((KeepsOthers.setCell _ _ _).from B)).trans ((KeepsOthers.setCell _ _ _).from B)).trans ((KeepsOthers.setCell _ _ _).from B)).trans ((KeepsOthers.setCell _ _ _).from B)
theorem keeps_row6 (W : World) (B b k : Nat) (v0 v1 v2 v3 v4 v5 : Value) : KeepsFrom B W (World.setCell (World.setCell (World.setCell (World.setCell (World.setCell (World.setCell W ⟨b, k * 6, none⟩ (v0)) ⟨b, k * 6 + 1, none⟩ (v1)) ⟨b, k * 6 + 2, none⟩ (v2)) ⟨b, k * 6 + 3, none⟩ (v3)) ⟨b, k * 6 + 4, none⟩ (v4)) ⟨b, k * 6 + 5, none⟩ (v5)) :=
  ((((((KeepsOthers.setCell _ _ _).from B).trans ((KeepsOthers.setCell _ _ _).from B)).trans ((KeepsOthers.setCell _ _ _).from B)).trans ((KeepsOthers.setCell _ _ _).from B)).trans ((KeepsOthers.setCell _ _ _).from B)).trans ((KeepsOthers.setCell _ _ _).from B)
end

/-- A round that tells that the change can't pass. -/
theorem thru_no {w X w2 : World} {R : Nat → Prop} {base i : Nat} {v : Value} {l : List Ch} {q x p : Ch} {post : List Ch} {D1 D2 : Option Addr} {m1 k1 m2 k2 B : Nat} {pre : List Nat} (hI : ThI w R base v l q (i + 1) x post D1 m1 k1 D2 m2 k2 X) (hb2 : Below X.heap.size X w2) (hx : l[i]? = some p) (hn : passP p x = none) (o o' : Obj) :
    KeepsFrom B X ((((World.setCell (World.setCell (World.setCell (World.setCell (World.setCell (World.setCell w2 ⟨w.heap.size + 1 + 1, 0, none⟩ (.int .i64 0)) ⟨w.heap.size + 1 + 1, 1, none⟩ (.string ⟨#[]⟩)) ⟨w.heap.size + 1 + 1, 2, none⟩ (.string ⟨#[]⟩)) ⟨w.heap.size + 1 + 1, 3, none⟩ (.int .i64 0)) ⟨w.heap.size + 1 + 1, 4, none⟩ (.slice none 0 0)) ⟨w.heap.size + 1 + 1, 5, none⟩ (.slice none 0 0)).setCell ⟨w.heap.size + 1 + 1 + 1, 0, none⟩ (.bool false)).alloc o).alloc o') ∧
    ThX w v l q .ret pre ((((World.setCell (World.setCell (World.setCell (World.setCell (World.setCell (World.setCell w2 ⟨w.heap.size + 1 + 1, 0, none⟩ (.int .i64 0)) ⟨w.heap.size + 1 + 1, 1, none⟩ (.string ⟨#[]⟩)) ⟨w.heap.size + 1 + 1, 2, none⟩ (.string ⟨#[]⟩)) ⟨w.heap.size + 1 + 1, 3, none⟩ (.int .i64 0)) ⟨w.heap.size + 1 + 1, 4, none⟩ (.slice none 0 0)) ⟨w.heap.size + 1 + 1, 5, none⟩ (.slice none 0 0)).setCell ⟨w.heap.size + 1 + 1 + 1, 0, none⟩ (.bool false)).alloc o).alloc o') := by
  have hbr := hI.br.below hb2 hI.br.lt
  have hbb := hI.bb.below hb2 hI.bb.lt
  refine ⟨(((((keepsFrom_below B hb2).trans (keeps_set6 w2 B (w.heap.size + 1 + 1) _ _ _ _ _ _)).trans ((KeepsOthers.setCell _ _ _).from B)).trans ((KeepsOthers.alloc _ o).from B)).trans ((KeepsOthers.alloc _ o').from B)), rfl, one_step_none passP hx hI.eq hn, ?_, ?_, ?_⟩
  · exact (((blk6 hbr (.int .i64 0) (.string ⟨#[]⟩) (.string ⟨#[]⟩) (.int .i64 0) (.slice none 0 0) (.slice none 0 0)).set_ne (by omega) 0 (.bool false)).alloc o).alloc o'
  · exact (((blk_set6 hbb (g := w.heap.size + 1 + 1) (by omega) (.int .i64 0) (.string ⟨#[]⟩) (.string ⟨#[]⟩) (.int .i64 0) (.slice none 0 0) (.slice none 0 0)).set 0 (.bool false)).alloc o).alloc o'
  · exact grow_trans (grow_trans (grow_set (grow_set6 (grow_below hI.fr hb2) (by omega) _ _ _ _ _ _) (by omega) 0 _) (World.grownBy_alloc _ o none) (by simp)) (World.grownBy_alloc _ o' none) (by simp)

/-- A round in which both pass: first the change is stored, then the one of the list. -/
theorem thru_mid {w X w2 w4 : World} {R : Nat → Prop} {base i g n c : Nat} {l : List Ch} {q x x1 y1 : Ch} {post : List Ch} {D1 D2 : Option Addr} {m1 k1 m2 k2 : Nat} {E1 E2 E3 E4 : Option Addr} {n1 c1 n2 c2 n3 c3 n4 c4 : Nat}
    (hI : ThI w (RB w R) base (.slice (some ⟨g, 0, none⟩) n c) l q (i + 1) x post D1 m1 k1 D2 m2 k2 X) (hR : R g) (hrl : ∀ b, R b → b < w.heap.size) (hb2 : Below X.heap.size X w2) (hb4 : Below w2.heap.size w2 w4)
    (hv : PV w2 w2.heap.size E1 n1 c1 E2 n2 c2 x1) (gv : PV w2 w2.heap.size E3 n3 c3 E4 n4 c4 y1) (hh : Hi X.heap.size E1 ∧ Hi X.heap.size E2 ∧ Hi X.heap.size E3 ∧ Hi X.heap.size E4) :
    let w6 := (World.setCell (World.setCell (World.setCell (World.setCell (World.setCell (World.setCell w4 ⟨w.heap.size + 1, 0, none⟩ (.int .i64 x1.k)) ⟨w.heap.size + 1, 1, none⟩ (strV x1.nm)) ⟨w.heap.size + 1, 2, none⟩ (strV x1.to)) ⟨w.heap.size + 1, 3, none⟩ (.int .i64 x1.h.pos)) ⟨w.heap.size + 1, 4, none⟩ (.slice E1 n1 c1)) ⟨w.heap.size + 1, 5, none⟩ (.slice E2 n2 c2))
    OwnS w6 (But w6 (RB w R)) base (.slice (some ⟨g, 0, none⟩) n c) (l.take (i + 1) ++ post) ∧ PG w6 (But w6 (RB w R)) E1 n1 c1 E2 n2 c2 x1 ∧ PG w6 (But w6 (RB w R)) E3 n3 c3 E4 n4 c4 y1 ∧
    Blk w6 w.heap.size 39 #[.slice (some ⟨g, 0, none⟩) n c] ∧ Blk w6 (w.heap.size + 1) 55 (cellsV x1 E1 n1 c1 E2 n2 c2) ∧ Blk w6 (w.heap.size + 1 + 1) 55 zeroV ∧ Blk w6 (w.heap.size + 1 + 1 + 1) 4 #[.bool false] ∧ w.grownBy w6 (some g) ∧
    (∀ B, KeepsFrom B X w6) ∧ (∀ Bs v, w.heap.size + 1 < Bs → Boxed X Bs 39 v → Boxed w6 Bs 39 v) := by
  intro w6
  have hX : w.heap.size + 4 ≤ X.heap.size := by have := hI.bb.lt; omega
  have hb : Below X.heap.size X w4 := hb2.trans (hb4.mono hb2.size)
  have hs4 : w4.heap.size = w6.heap.size := by simp [w6]
  have h2 : w2.heap.size ≤ w4.heap.size := hb4.size
  have hS : ∀ b, (X.heap.size ≤ b ∧ b < w2.heap.size) → But w4 (RB w R) b := fun b h => ⟨by omega, fun e => e.elim (fun e => by have := hrl b e; omega) (fun e => by omega)⟩
  have hq : RB w R (w.heap.size + 1) := .inr ⟨by omega, by omega⟩
  have hne : ∀ b, But w4 (RB w R) b → b ≠ w.heap.size + 1 := fun b h e => h.2 (e ▸ hq)
  have hgl := hrl g hR
  have al := (alike_set6 w4 (w.heap.size + 1) (.int .i64 x1.k) (strV x1.nm) (strV x1.to) (.int .i64 x1.h.pos) (.slice E1 n1 c1) (.slice E2 n2 c2)).mono hne
  have up := but_up (R := RB w R) (Nat.le_of_eq hs4)
  have l0 := hI.bl.lt; have l1 := hI.bq.lt; have l2 := hI.br.lt; have l3 := hI.bb.lt
  refine ⟨?_, ?_, ?_, ?_, ?_, ?_, ?_, ?_, ?_, ?_⟩
  · exact (((hI.row.below hb).mono (but_up hb.size)).set6 (b := w.heap.size + 1) (fun e => by injection e with e; have e : w.heap.size + 1 = g := e; omega) (fun h => hne _ h rfl) _ _ _ _ _ _).mono up
  · exact (((((pg_hi hv hh.1 hh.2.1).to_ (fun b h hl => hb4.block b hl)).mono hS).to_ al).mono up)
  · exact (((((pg_hi gv hh.2.2.1 hh.2.2.2).to_ (fun b h hl => hb4.block b hl)).mono hS).to_ al).mono up)
  · exact blk_set6 (hI.bl.below hb l0) (by omega) _ _ _ _ _ _
  · exact blk6 (hI.bq.below hb l1) _ _ _ _ _ _
  · exact blk_set6 (hI.br.below hb l2) (by omega) _ _ _ _ _ _
  · exact blk_set6 (hI.bb.below hb l3) (by omega) _ _ _ _ _ _
  · exact grow_set6 (grow_below hI.fr hb) (by omega) _ _ _ _ _ _
  · exact fun B => (keepsFrom_below B hb).trans (keeps_set6 _ _ _ _ _ _ _ _ _)
  · exact fun Bs v hB hv => blk_set6 (Blk.below (show Blk X Bs 39 #[v] from hv) hb hv.lt) (by omega) _ _ _ _ _ _

theorem thru_fin {w X w6 : World} {R : Nat → Prop} {base i g n c : Nat} {l : List Ch} {q x p x1 y1 : Ch} {post : List Ch} {D1 D2 : Option Addr} {m1 k1 m2 k2 : Nat} {E1 E2 E3 E4 : Option Addr} {n1 c1 n2 c2 n3 c3 n4 c4 : Nat}
    (hI : ThI w (RB w R) base (.slice (some ⟨g, 0, none⟩) n c) l q (i + 1) x post D1 m1 k1 D2 m2 k2 X) (hR : R g) (hgl : g < w.heap.size) (hx : l[i]? = some p) (hlp : lightP p = true) (hL : (l.take (i + 1) ++ post).length = n) (hs : passP p x = some (x1, y1))
    (h1 : OwnS w6 (But w6 (RB w R)) base (.slice (some ⟨g, 0, none⟩) n c) (l.take (i + 1) ++ post)) (h2 : PG w6 (But w6 (RB w R)) E1 n1 c1 E2 n2 c2 x1) (h3 : PG w6 (But w6 (RB w R)) E3 n3 c3 E4 n4 c4 y1)
    (h4 : Blk w6 w.heap.size 39 #[.slice (some ⟨g, 0, none⟩) n c]) (h5 : Blk w6 (w.heap.size + 1) 55 (cellsV x1 E1 n1 c1 E2 n2 c2)) (h6 : Blk w6 (w.heap.size + 1 + 1) 55 zeroV) (h7 : Blk w6 (w.heap.size + 1 + 1 + 1) 4 #[.bool false]) (h8 : w.grownBy w6 (some g)) :
    let w9 := (World.setCell (World.setCell (World.setCell (World.setCell (World.setCell (World.setCell w6 ⟨g, i * 6, none⟩ (.int .i64 y1.k)) ⟨g, i * 6 + 1, none⟩ (strV y1.nm)) ⟨g, i * 6 + 2, none⟩ (strV y1.to)) ⟨g, i * 6 + 3, none⟩ (.int .i64 y1.h.pos)) ⟨g, i * 6 + 4, none⟩ (.slice E3 n3 c3)) ⟨g, i * 6 + 5, none⟩ (.slice E4 n4 c4))
    ThI w (RB w R) base (.slice (some ⟨g, 0, none⟩) n c) l q i x1 (y1 :: post) E1 n1 c1 E2 n2 c2 w9 ∧ (∀ B, KeepsFrom B w6 w9) ∧ (∀ Bs v, Bs ≠ g → Boxed w6 Bs 39 v → Boxed w9 Bs 39 v) ∧ Cells6 w9 (some ⟨g, 0, none⟩) n := by
  intro w9
  have hs9 : w6.heap.size = w9.heap.size := by simp [w9]
  have hne : ∀ b, But w6 (RB w R) b → b ≠ g := fun b h e => h.2 (.inl (e ▸ hR))
  have up := but_up (R := RB w R) (Nat.le_of_eq hs9)
  have hrow : OwnS w9 (But w9 (RB w R)) base (.slice (some ⟨g, 0, none⟩) n c) (l.take i ++ y1 :: post) := by
    have := (h1.store (k := i) hL (fun h => hne _ h rfl) h3).mono up
    rw [set_mid hx] at this
    exact this
  refine ⟨⟨one_step passP hx hI.eq hs, (passP_lt hs hlp hI.lx).1, hrow, ?_, ?_, ?_, ?_, ?_, ?_⟩, fun B => keeps_row6 _ _ _ _ _ _ _ _ _ _, fun Bs v hB hv => ?_, cells6_own hrow ?_⟩
  · exact (h2.to_ ((alike_row6 w6 g i _ _ _ _ _ _).mono hne)).mono up
  · exact blk_row6 h4 (by omega) i _ _ _ _ _ _
  · exact blk_row6 h5 (by omega) i _ _ _ _ _ _
  · exact blk_row6 h6 (by omega) i _ _ _ _ _ _
  · exact blk_row6 h7 (by omega) i _ _ _ _ _ _
  · exact grow_own6 h8 i _ _ _ _ _ _
  · exact blk_row6 (show Blk w6 Bs 39 #[v] from hv) hB i _ _ _ _ _ _
  · rw [← hL, ← set_mid (y := y1) hx, List.length_set]

theorem thru_put {w W : World} {r : Option Nat} {E : Nat} (hE : w.heap.size + 4 ≤ E) (hK : W.heap[E]? = some (.deferred (some []))) (hg : w.grownBy W r) : w.grownBy (W.putObj E (.deferred none)) r ∧ (∀ b t cs, b < w.heap.size + 4 → Blk W b t cs → Blk (W.putObj E (.deferred none)) b t cs) ∧
    (∀ S base v l, OwnS W S base v l → OwnS (W.putObj E (.deferred none)) S base v l) ∧ (∀ S A n c B m d x, PG W S A n c B m d x → PG (W.putObj E (.deferred none)) S A n c B m d x) ∧ W.heap.size = (W.putObj E (.deferred none)).heap.size := by
  have hp := grownBy_putObj' W E (.deferred none)
  have hr : ∀ r, some E = some r → ∃ o : Obj, W.heap[r]? = some o ∧ o.isCells = false := fun r e => by injection e with e; subst e; exact ⟨_, hK, rfl⟩
  exact ⟨grow_trans hg hp (fun j e => .inl (by injection e with e; omega)), fun b t cs hb h => h.gr hp (fun e => by injection e with e; omega), fun S base v l h => h.plain hp hr, fun S A n c B m d x h => h.kc (keepC_plain hp hr), by simp⟩

theorem thru_done {w W : World} {R : Nat → Prop} {base n c E : Nat} {A : Option Addr} {l : List Ch} {q x : Ch} {post : List Ch} {D1 D2 : Option Addr} {m1 k1 m2 k2 : Nat}
    (hI : ThI w (RB w R) base (.slice A n c) l q 0 x post D1 m1 k1 D2 m2 k2 W) (hr : ∀ g, (Value.slice A n c).ownBlock = some g → R g) (hrl : ∀ b, R b → b < w.heap.size) (hE : w.heap.size + 4 ≤ E) (hK : W.heap[E]? = some (.deferred (some []))) :
    let W9 := (World.setCell (World.setCell (World.setCell (World.setCell (World.setCell (World.setCell W ⟨w.heap.size + 1 + 1, 0, none⟩ (.int .i64 x.k)) ⟨w.heap.size + 1 + 1, 1, none⟩ (strV x.nm)) ⟨w.heap.size + 1 + 1, 2, none⟩ (strV x.to)) ⟨w.heap.size + 1 + 1, 3, none⟩ (.int .i64 x.h.pos)) ⟨w.heap.size + 1 + 1, 4, none⟩ (.slice D1 m1 k1)) ⟨w.heap.size + 1 + 1, 5, none⟩ (.slice D2 m2 k2)).setCell ⟨w.heap.size + 1 + 1 + 1, 0, none⟩ (.bool true)
    W9.heap[E]? = some (.deferred (some [])) ∧ Blk (W9.putObj E (.deferred none)) (w.heap.size + 1 + 1) 55 (cellsV x D1 m1 k1 D2 m2 k2) ∧ Blk (W9.putObj E (.deferred none)) (w.heap.size + 1 + 1 + 1) 4 #[.bool true] ∧
      OwnS (W9.putObj E (.deferred none)) (But (W9.putObj E (.deferred none)) R) base (.slice A n c) post ∧ PG (W9.putObj E (.deferred none)) (But (W9.putObj E (.deferred none)) R) D1 m1 k1 D2 m2 k2 x ∧ w.grownBy (W9.putObj E (.deferred none)) (Value.slice A n c).ownBlock := by
  intro W9
  have hsz : W.heap.size = W9.heap.size := by simp [W9]
  have hne : ∀ b, But W (RB w R) b → b ≠ w.heap.size + 1 + 1 := fun b h e => h.2 (.inr (by omega))
  have hne' : ∀ b, But W (RB w R) b → b ≠ w.heap.size + 1 + 1 + 1 := fun b h e => h.2 (.inr (by omega))
  have hv : ∀ b, w.heap.size ≤ b → some b ≠ (Value.slice A n c).ownBlock := fun b hb e => by have := hrl b (hr b e.symm); omega
  have k9 : W9.heap[E]? = some (.deferred (some [])) := ((keeps_set6 W E (w.heap.size + 1 + 1) _ _ _ _ _ _).trans ((KeepsOthers.setCell _ _ _).from E)).same E _ (Nat.le_refl _) hK rfl
  have g9 : w.grownBy W9 (Value.slice A n c).ownBlock := grow_set (grow_set6 hI.fr (by omega) _ _ _ _ _ _) (by omega) 0 _
  obtain ⟨p1, p2, p3, p4, p5⟩ := thru_put hE k9 g9
  have up : ∀ b, But W (RB w R) b → But (W9.putObj E (.deferred none)) R b := fun b h => ⟨by have := h.1; omega, fun e => h.2 (.inl e)⟩
  have hrow := hI.row
  rw [List.take_zero, List.nil_append] at hrow
  refine ⟨k9, p2 _ _ _ (by omega) ?_, p2 _ _ _ (by omega) ?_, (p3 _ _ _ _ ?_).mono up, (p4 _ _ _ _ _ _ _ _ ?_).mono up, p1⟩
  · exact (blk6 hI.br _ _ _ _ _ _).set_ne (by omega) 0 _
  · exact (blk_set6 hI.bb (g := w.heap.size + 1 + 1) (by omega) _ _ _ _ _ _).set 0 (.bool true)
  · exact (hrow.set6 (hv _ (by omega)) (fun h => hne _ h rfl) _ _ _ _ _ _).set (hv _ (by omega)) (fun h => hne' _ h rfl) 0 _
  · exact (hI.pg.to_ ((alike_set6 W _ _ _ _ _ _ _).mono hne)).to_ ((alike_set _ _ _ _).mono hne')

/-- The memory in which the range begins. -/
theorem thru_start {w : World} {R : Nat → Prop} {base n c : Nat} {A : Option Addr} {l : List Ch} {D : Option Addr} {m k : Nat} {D' : Option Addr} {m' k' : Nat} {q : Ch} (h : ThN w R base n c A l D m k D' m' k' q) :
    let w5 := ((((w.alloc (.cells #[.slice A n c] 39)).alloc (.cells (cellsV q D m k D' m' k') 55)).alloc (.cells zeroV 55)).alloc (.cells #[.bool false] 4)).alloc (.cells #[.slice A n c] 39)
    ThJ w (RB w R) base (.slice A n c) l q n [] w5 ∧ Boxed w5 (w.heap.size + 1 + 1 + 1 + 1) 39 (.slice A n c) ∧ w5.heap.size = w.heap.size + 5 ∧ Cells6 w5 A n := by
  intro w5
  have hw : Below w.heap.size w w5 := (((((Below.refl _ _).alloc (Nat.le_refl _) _).alloc (by simp) _).alloc (by simp; omega) _).alloc (by simp; omega) _).alloc (by simp; omega) _
  have hsz : w5.heap.size = w.heap.size + 5 := by simp [w5]
  have hg : w.grownBy w5 none := grow_trans (grow_trans (grow_trans (grow_trans (World.grownBy_alloc w _ none) (World.grownBy_alloc _ _ none) (by simp)) (World.grownBy_alloc _ _ none) (by simp)) (World.grownBy_alloc _ _ none) (by simp)) (World.grownBy_alloc _ _ none) (by simp)
  have b0 := ((((Blk.new w 39 #[.slice A n c]).alloc (.cells (cellsV q D m k D' m' k') 55)).alloc (.cells zeroV 55)).alloc (.cells #[.bool false] 4)).alloc (.cells #[.slice A n c] 39)
  have b1 := (((Blk.new (w.alloc (.cells #[.slice A n c] 39)) 55 (cellsV q D m k D' m' k')).alloc (.cells zeroV 55)).alloc (.cells #[.bool false] 4)).alloc (.cells #[.slice A n c] 39)
  have b2 := ((Blk.new ((w.alloc (.cells #[.slice A n c] 39)).alloc (.cells (cellsV q D m k D' m' k') 55)) 55 zeroV).alloc (.cells #[.bool false] 4)).alloc (.cells #[.slice A n c] 39)
  have b3 := (Blk.new (((w.alloc (.cells #[.slice A n c] 39)).alloc (.cells (cellsV q D m k D' m' k') 55)).alloc (.cells zeroV 55)) 4 #[.bool false]).alloc (.cells #[.slice A n c] 39)
  have b4 := Boxed.new ((((w.alloc (.cells #[.slice A n c] 39)).alloc (.cells (cellsV q D m k D' m' k') 55)).alloc (.cells zeroV 55)).alloc (.cells #[.bool false] 4)) 39 (.slice A n c)
  simp only [World.size_alloc] at b1 b2 b3 b4
  have hs : ∀ b, But w R b → But w5 (RB w R) b := fun b hb => ⟨by have := hb.1; omega, fun e => e.elim hb.2 fun e => by have := hb.1; omega⟩
  have hrow : OwnS w5 (But w5 (RB w R)) base (.slice A n c) l := (h.row.below hw).mono hs
  refine ⟨⟨q, [], D, m, k, D', m', k', ?_, h.lq, ?_, (h.pg.to_ (fun b hb hl => hw.block b hl)).mono hs, b0, b1, b2, b3, ?_⟩, b4, hsz, cells6_own hrow h.len⟩
  · rw [List.length_nil, Nat.sub_zero, List.drop_of_length_le (by rw [h.len]; exact Nat.le_refl _)]; rfl
  · rw [List.length_nil, Nat.sub_zero, List.take_of_length_le (by rw [h.len]; exact Nat.le_refl _), List.append_nil]; exact hrow
  · exact ⟨hg.os, hg.tape, hg.output, hg.size, fun k hk _ => hg.block k hk (by simp)⟩

set_option maxRecDepth 100000 in
set_option maxHeartbeats 4000000 in
theorem throughL (R : Nat → Prop) (base n c : Nat) (A : Option Addr) (l : List Ch) (D : Option Addr) (m k : Nat) (D' : Option Addr) (m' k' : Nat) (q : Ch) (w : World) (hle : n ≤ 1000) (h : ThN w R base n c A l D m k D' m' k' q) :
    Calls Tryz.prog 47 #[.slice A n c, prV q.k q.nm q.to q.h.pos D m k D' m' k'] w (ThruEnd w R base (.slice A n c) (one passP l q)) := by
  have H := Lib.hid h
  clear h
  refine (callsIn_wide (n := 4)).1 ?_
  refine callsIn_of_wp_marks Tryz.func47 rfl trivial ?_ rfl
  simp only [Tryz.ntmps47, List.size_toArray, List.length_cons, List.length_nil, Nat.reduceAdd, Nat.reduceSub, Array.replicate_succ, Array.replicate_zero, List.push_toArray, List.append_toArray, List.nil_append, List.cons_append]
  gi_wp2_with fail
  refine ⟨trivial, ?_⟩
  refine (backL_in 3 A n c _).mono ?_
  rintro e w' ⟨rfl, rfl⟩
  gi_wp2
  have hst := thru_start H.out
  dsimp only [cellsV, zeroV] at hst
  generalize (((((w.alloc (.cells #[.slice A n c] 39)).alloc (.cells #[.int .i64 q.k, strV q.nm, strV q.to, .int .i64 q.h.pos, .slice D m k, .slice D' m' k'] 55)).alloc (.cells #[.int .i64 0, .string ⟨#[]⟩, .string ⟨#[]⟩, .int .i64 0, .slice none 0 0, .slice none 0 0] 55)).alloc (.cells #[.bool false] 4)).alloc (.cells #[.slice A n c] 39)) = w5 at hst ⊢
  obtain ⟨hst, hbs, hsz, hc6⟩ := hst
  refine range_law (n := 4) (gf := 77) (lb := #[.pointer (some ⟨w.heap.size + 1 + 1 + 1 + 1, 0, none⟩)]) rfl (enters_of Tryz.func77 (by kernel_rfl) rfl) (Free := Plain) (fun _ h => h)
    (backL_gives 3 (w.heap.size + 1 + 1 + 1 + 1) c n A (by omega) w5 hbs hc6) kpL_t (kpL_b (by rw [hsz]; omega)) (fun x vals W h => by obtain ⟨_, _, _, _, _, _, _, _, _, rfl, _⟩ := h; rfl)
    (ThJ w (RB w R) base (.slice A n c) l q n) (ThX w (.slice A n c) l q) (thJ_ab (by rw [hsz]; omega)) (thX_ab (by rw [hsz]; omega)) hst
    (fun i a' X => ∃ b v0 v1 v2 v3 v4 v5, a' = { tmps := #[.slice A n c, prV q.k q.nm q.to q.h.pos D m k D' m' k', .pointer (some ⟨w.heap.size, 0, none⟩), .pointer (some ⟨w.heap.size + 1, 0, none⟩), .pointer (some ⟨w.heap.size + 1 + 1, 0, none⟩), .pointer (some ⟨w.heap.size + 1 + 1 + 1, 0, none⟩), .int .i64 (i : Int), .pointer (some ⟨b, 0, none⟩), undef, undef, undef, .slice A n c, .func (.func 77) #[] #[.pointer (some ⟨w.heap.size + 1 + 1 + 1 + 1, 0, none⟩)], .int .i64 (i : Int), .agg #[v0, v1, v2, v3, v4, v5], undef, undef, undef, undef, undef, undef, undef, undef, undef, undef, undef, undef, undef, undef, undef, undef], defers := [] } ∧ EL n A i #[.int .i64 (i : Int), .agg #[v0, v1, v2, v3, v4, v5]] X ∧ Blk X b 55 #[v0, v1, v2, v3, v4, v5])
    (fun i a' => ab_ex fun b => ab_ex fun v0 => ab_ex fun v1 => ab_ex fun v2 => ab_ex fun v3 => ab_ex fun v4 => ab_ex fun v5 => Ab.and (ab_pure _ _ _) (Ab.and ab_EL (ab_blk fun _ => _))) ?assign ?body ?done ?stop
  case assign =>
    rintro y pre i vals X K hi hEL hK
    obtain ⟨x, post, D1, m1, k1, D2, m2, k2, hI⟩ := id hi
    obtain ⟨p, g, B, r, s, B', r', s', rfl, hp, rfl, hpg, hbg, hgl⟩ := hEL.row hI.row (hI.rowlen H.out.len (by omega))
    clear hI hp hpg hbg hgl
    gi_wp2
    exact hK _ _ ((KeepsOthers.alloc X _).from _) (kpL_new (World.grownBy_alloc X _ none)) ((thJ_ab (Nat.le_refl _)).alloc _ hi) ⟨_, _, _, _, _, _, _, rfl, ab_EL.alloc (s := ()) (B := 0) _ hEL, Blk.new _ _ _⟩
  case body =>
    rintro y pre pst i a' X hfull hI ⟨b, v0, v1, v2, v3, v4, v5, rfl, hEL, hb⟩
    have hi := dn_split hfull
    clear hfull
    obtain ⟨x, post, D1, m1, k1, D2, m2, k2, hI⟩ := hI
    rw [show n - pre.length = i + 1 by omega] at hI
    have hL := hI.rowlen H.out.len (by omega)
    obtain ⟨p, g, B, r, s, B', r', s', rfl, hp, hv, hpg, hbg, hgl⟩ := hEL.row hI.row hL
    obtain ⟨rfl, rfl, rfl, rfl, rfl, rfl⟩ := vals_eq hv
    have hpl := mid_at (by rw [H.out.len]; omega) hp
    have HLP := Lib.hid (H.out.lt p (List.mem_of_getElem? hpl))
    have HPL := Lib.hid hpl; have HI := Lib.hid hI; have HL := Lib.hid hL; have HPG := Lib.hid hpg; have HG := Lib.hid (And.intro hbg hgl); have HB := Lib.hid hb
    clear hpl hL hpg hp hv hEL hbg
    obtain ⟨x1, y1, ho⟩ : ∃ x1 y1, outP (passP p x) = (x1, y1) := ⟨_, _, rfl⟩
    obtain ⟨bo, hbo⟩ : ∃ bo, (passP p x).isSome = bo := ⟨_, rfl⟩
    have HO := Lib.hid ho; have HBO := Lib.hid hbo
    clear ho hbo
    have PC := Lib.hid (PassPH B r s B' r' s' D1 m1 k1 D2 m2 k2 p x x1 y1 X bo (lt_len HPG.out HLP.out) (lt_len HI.out.pg HI.out.lx) (HPG.out.mono but_lt).pv (HI.out.pg.mono but_lt).pv HO.out HBO.out)
    have x0 := hb.cell 0 rfl; have x1' := hb.cell 1 rfl; have x2 := hb.cell 2 rfl; have x3 := hb.cell 3 rfl; have x4 := hb.cell 4 rfl; have x5 := hb.cell 5 rfl
    have hbq := hI.bq
    have q0 := hbq.cell 0 (u := .int .i64 x.k) rfl; have q1 := hbq.cell 1 (u := strV x.nm) rfl; have q2 := hbq.cell 2 (u := strV x.to) rfl; have q3 := hbq.cell 3 (u := .int .i64 x.h.pos) rfl; have q4 := hbq.cell 4 (u := .slice D1 m1 k1) rfl; have q5 := hbq.cell 5 (u := .slice D2 m2 k2) rfl
    clear hI hb hbq
    gi_wp2_with fail
    refine ⟨trivial, CallsIn.inRound y (callsIn_wide.2 (PC.out.mono ?_))⟩
    rintro e w2 ⟨E1, n1, c1, E2, n2, c2, E3, n3, c3, E4, n4, c4, rfl, pv1, pv2, hl1, hl2, hh, hb2⟩
    clear x0 x1' x2 x3 x4 x5 q0 q1 q2 q3 q4 q5 PC
    have hbl := HI.out.bl; have hbq := HI.out.bq; have hbr := HI.out.br; have hbb := HI.out.bb
    replace hbl := hbl.below hb2 hbl.lt; replace hbq := hbq.below hb2 hbq.lt; replace hbr := hbr.below hb2 hbr.lt; replace hbb := hbb.below hb2 hbb.lt
    have HBL := Lib.hid hbl; have HBQ := Lib.hid hbq; have HBR := Lib.hid hbr; have HBB := Lib.hid hbb; have HB2 := Lib.hid hb2
    have HPV1 := Lib.hid pv1; have HPV2 := Lib.hid pv2; have HH := Lib.hid hh; have HL1 := Lib.hid hl1
    clear pv1 pv2 hh hl1 hl2 hb2
    cases bo with
    | false =>
      have r0 := hbr.cell 0 (u := .int .i64 0) rfl; have r1 := hbr.cell 1 (u := .string ⟨#[]⟩) rfl; have r2 := hbr.cell 2 (u := .string ⟨#[]⟩) rfl; have r3 := hbr.cell 3 (u := .int .i64 0) rfl; have r4 := hbr.cell 4 (u := .slice none 0 0) rfl; have r5 := hbr.cell 5 (u := .slice none 0 0) rfl
      have f0 := hbr.frozen 0; have f1 := hbr.frozen 1; have f2 := hbr.frozen 2; have f3 := hbr.frozen 3; have f4 := hbr.frozen 4; have f5 := hbr.frozen 5
      have s0 := hbb.cell 0 (u := .bool false) rfl; have g0 := hbb.frozen 0
      have hlt0 := hbl.lt; have hlt1 := hbq.lt; have hlt := hbr.lt; have hlt2 := hbb.lt
      clear hbl hbq hbr hbb
      gi_wp2_with fail
      have HNN := Lib.hid (none_ofP HBO.out)
      clear r0 r1 r2 r3 r4 r5 f0 f1 f2 f3 f4 f5 s0 g0 hlt0 hlt1 hlt hlt2
      exact thru_no HI.out HB2.out HPL.out HNN.out _ _
    | true =>
      clear hbl hbq hbr hbb
      gi_wp2_with fail
      have HSM := Lib.hid (outP_of HO.out HBO.out)
      have b3 := (Blk.new w2 55 (cellsV x1 E1 n1 c1 E2 n2 c2)).alloc (.cells (cellsV y1 E3 n3 c3 E4 n4 c4) 55)
      have b4 := Blk.new (w2.alloc (.cells (cellsV x1 E1 n1 c1 E2 n2 c2) 55)) 55 (cellsV y1 E3 n3 c3 E4 n4 c4)
      have hb4 : Below w2.heap.size w2 ((w2.alloc (.cells (cellsV x1 E1 n1 c1 E2 n2 c2) 55)).alloc (.cells (cellsV y1 E3 n3 c3 E4 n4 c4) 55)) := two_box _ _ _
      simp only [World.size_alloc] at b4
      dsimp only [cellsV] at b3 b4 hb4
      generalize ((w2.alloc (.cells #[.int .i64 x1.k, strV x1.nm, strV x1.to, .int .i64 x1.h.pos, .slice E1 n1 c1, .slice E2 n2 c2] 55)).alloc (.cells #[.int .i64 y1.k, strV y1.nm, strV y1.to, .int .i64 y1.h.pos, .slice E3 n3 c3, .slice E4 n4 c4] 55)) = w4 at b3 b4 hb4 ⊢
      have hw4 := hb4.size
      generalize hz2 : w2.heap.size = z2 at b3 b4 hw4 ⊢
      have hz0 : w.heap.size + 1 < z2 := by rw [← hz2]; exact HBQ.out.lt
      have HB4 := Lib.hid hb4
      have k4 := HBL.out.below hb4 HBL.out.lt; have qb := HBQ.out.below hb4 HBQ.out.lt
      have HSB : Hid (∀ Y, Blk Y w.heap.size 39 #[.slice (some ⟨g, 0, none⟩) n c] → Blk Y z2 55 (cellsV x1 E1 n1 c1 E2 n2 c2) → Blk Y (z2 + 1) 55 (cellsV y1 E3 n3 c3 E4 n4 c4) → Y.cell? ⟨w.heap.size, 0, none⟩ = some (.slice (some ⟨g, 0, none⟩) n c) ∧ Y.cell? ⟨z2, 0, none⟩ = some (.int .i64 x1.k) ∧ Y.cell? ⟨z2, 1, none⟩ = some (strV x1.nm) ∧ Y.cell? ⟨z2, 2, none⟩ = some (strV x1.to) ∧ Y.cell? ⟨z2, 3, none⟩ = some (.int .i64 x1.h.pos) ∧ Y.cell? ⟨z2, 4, none⟩ = some (.slice E1 n1 c1) ∧ Y.cell? ⟨z2, 5, none⟩ = some (.slice E2 n2 c2) ∧ Y.cell? ⟨z2 + 1, 0, none⟩ = some (.int .i64 y1.k) ∧ Y.cell? ⟨z2 + 1, 1, none⟩ = some (strV y1.nm) ∧ Y.cell? ⟨z2 + 1, 2, none⟩ = some (strV y1.to) ∧ Y.cell? ⟨z2 + 1, 3, none⟩ = some (.int .i64 y1.h.pos) ∧ Y.cell? ⟨z2 + 1, 4, none⟩ = some (.slice E3 n3 c3) ∧ Y.cell? ⟨z2 + 1, 5, none⟩ = some (.slice E4 n4 c4)) := Lib.hid (fun Y h1 h2 h3 => ⟨h1.cell 0 rfl, h2.cell 0 rfl, h2.cell 1 rfl, h2.cell 2 rfl, h2.cell 3 rfl, h2.cell 4 rfl, h2.cell 5 rfl, h3.cell 0 rfl, h3.cell 1 rfl, h3.cell 2 rfl, h3.cell 3 rfl, h3.cell 4 rfl, h3.cell 5 rfl⟩)
      have MID := Lib.hid (thru_mid (w4 := w4) HI.out (H.out.r g rfl) H.out.rl HB2.out hb4 HPV1.out HPV2.out HH.out)
      have HK6 := Lib.hid (blk_set6 k4 (g := w.heap.size + 1) (by omega) (.int .i64 x1.k) (strV x1.nm) (strV x1.to) (.int .i64 x1.h.pos) (.slice E1 n1 c1) (.slice E2 n2 c2))
      have HX6 := Lib.hid (blk_set6 b3 (g := w.heap.size + 1) (by omega) (.int .i64 x1.k) (strV x1.nm) (strV x1.to) (.int .i64 x1.h.pos) (.slice E1 n1 c1) (.slice E2 n2 c2))
      have HY6 := Lib.hid (blk_set6 b4 (g := w.heap.size + 1) (by omega) (.int .i64 x1.k) (strV x1.nm) (strV x1.to) (.int .i64 x1.h.pos) (.slice E1 n1 c1) (.slice E2 n2 c2))
      obtain ⟨k0, e0, e1, e2, e3, e4, e5, yy0, yy1, yy2, yy3, yy4, yy5⟩ := HSB.out w4 k4 b3 b4
      have q0 := qb.cell 0 (u := .int .i64 x.k) rfl; have q1 := qb.cell 1 (u := strV x.nm) rfl; have q2 := qb.cell 2 (u := strV x.to) rfl; have q3 := qb.cell 3 (u := .int .i64 x.h.pos) rfl; have q4 := qb.cell 4 (u := .slice D1 m1 k1) rfl; have q5 := qb.cell 5 (u := .slice D2 m2 k2) rfl
      have f0 := qb.frozen 0; have f1 := qb.frozen 1; have f2 := qb.frozen 2; have f3 := qb.frozen 3; have f4 := qb.frozen 4; have f5 := qb.frozen 5
      have hgz : g < w.heap.size := H.out.rl g (H.out.r g rfl)
      have HGZ := Lib.hid hgz
      have hin : (i : Int) < (n : Int) := by omega
      clear k4 b3 b4 hb4 qb
      refine round_held (S := fun Y : World => Y.cell? ⟨w.heap.size, 0, none⟩ = some (.slice (some ⟨g, 0, none⟩) n c) ∧ Y.cell? ⟨z2, 0, none⟩ = some (.int .i64 x1.k) ∧ Y.cell? ⟨z2, 1, none⟩ = some (strV x1.nm) ∧ Y.cell? ⟨z2, 2, none⟩ = some (strV x1.to) ∧ Y.cell? ⟨z2, 3, none⟩ = some (.int .i64 x1.h.pos) ∧ Y.cell? ⟨z2, 4, none⟩ = some (.slice E1 n1 c1) ∧ Y.cell? ⟨z2, 5, none⟩ = some (.slice E2 n2 c2) ∧ Y.cell? ⟨z2 + 1, 0, none⟩ = some (.int .i64 y1.k) ∧ Y.cell? ⟨z2 + 1, 1, none⟩ = some (strV y1.nm) ∧ Y.cell? ⟨z2 + 1, 2, none⟩ = some (strV y1.to) ∧ Y.cell? ⟨z2 + 1, 3, none⟩ = some (.int .i64 y1.h.pos) ∧ Y.cell? ⟨z2 + 1, 4, none⟩ = some (.slice E3 n3 c3) ∧ Y.cell? ⟨z2 + 1, 5, none⟩ = some (.slice E4 n4 c4)) (by kernel_rfl) (by kernel_rfl) ?hq ?hS (fun hS0 => ?_)
      case hq => rintro ⟨_, _, h⟩; exact h
      case hS => exact ⟨k0, e0, e1, e2, e3, e4, e5, yy0, yy1, yy2, yy3, yy4, yy5⟩
      refine wpAnyH_take (i := 0) (v := ?_) rfl (by kernel_rfl) (by kernel_rfl) (by kernel_rfl) (fun _ _ _ h => h) (Or.inl ⟨by rfl, ?_⟩) hS0 ?_
      rotate_left
      · intro Y hY
        obtain ⟨s0, s1, s2, s3, s4, s5, s6, s7, s8, s9, s10, s11, s12⟩ := hY
        go_simp
        try with_reducible rfl
      simp only [Act.put, List.getElem_toArray, List.getElem_cons_succ, List.getElem_cons_zero, List.setIfInBounds_toArray, List.set_cons_succ, List.set_cons_zero]
      refine wpAnyH_take (i := 1) (v := ?_) rfl (by kernel_rfl) (by kernel_rfl) (by kernel_rfl) (fun _ _ _ h => h) (Or.inl ⟨by rfl, ?_⟩) hS0 ?_
      rotate_left
      · intro Y hY
        obtain ⟨s0, s1, s2, s3, s4, s5, s6, s7, s8, s9, s10, s11, s12⟩ := hY
        go_simp
        try with_reducible rfl
      simp only [Act.put, List.getElem_toArray, List.getElem_cons_succ, List.getElem_cons_zero, List.setIfInBounds_toArray, List.set_cons_succ, List.set_cons_zero]
      refine wpAnyH_take (i := 2) (v := ?_) rfl (by kernel_rfl) (by kernel_rfl) (by kernel_rfl) (fun _ _ _ h => h) (Or.inl ⟨by rfl, ?_⟩) hS0 ?_
      rotate_left
      · intro Y hY
        obtain ⟨s0, s1, s2, s3, s4, s5, s6, s7, s8, s9, s10, s11, s12⟩ := hY
        go_simp
        try with_reducible rfl
      simp only [Act.put, List.getElem_toArray, List.getElem_cons_succ, List.getElem_cons_zero, List.setIfInBounds_toArray, List.set_cons_succ, List.set_cons_zero]
      refine wpAnyH_take (i := 3) (v := ?_) rfl (by kernel_rfl) (by kernel_rfl) (by kernel_rfl) (fun _ _ _ h => h) (Or.inl ⟨by rfl, ?_⟩) hS0 ?_
      rotate_left
      · intro Y hY
        obtain ⟨s0, s1, s2, s3, s4, s5, s6, s7, s8, s9, s10, s11, s12⟩ := hY
        go_simp
        try with_reducible rfl
      simp only [Act.put, List.getElem_toArray, List.getElem_cons_succ, List.getElem_cons_zero, List.setIfInBounds_toArray, List.set_cons_succ, List.set_cons_zero]
      refine wpAnyH_ready (rs := [4]) (by kernel_rfl) (by simp) ?_
      refine AllReadyH.cons rfl (fun K1 hK => ?_) AllReadyH.nil
      go_simp
      clear hS0 k0 e0 e1 e2 e3 e4 e5 yy0 yy1 yy2 yy3 yy4 yy5 q0 q1 q2 q3 q4 q5 f0 f1 f2 f3 f4 f5
      obtain ⟨a1, a2, a3, a4, a5, a6, a7, a8, a9, a10⟩ := MID.out
      clear MID
      generalize (World.setCell (World.setCell (World.setCell (World.setCell (World.setCell (World.setCell w4 ⟨w.heap.size + 1, 0, none⟩ (.int .i64 x1.k)) ⟨w.heap.size + 1, 1, none⟩ (strV x1.nm)) ⟨w.heap.size + 1, 2, none⟩ (strV x1.to)) ⟨w.heap.size + 1, 3, none⟩ (.int .i64 x1.h.pos)) ⟨w.heap.size + 1, 4, none⟩ (.slice E1 n1 c1)) ⟨w.heap.size + 1, 5, none⟩ (.slice E2 n2 c2)) = w6 at *
      refine hK.out _ _ (HSB.out w6.drew (HK6.out.drewN 1) (HX6.out.drewN 1) (HY6.out.drewN 1)) (fun hS1 => ?_)
      clear hK K1
      obtain ⟨_, _, _, _, _, _, c0, c1', c2', c3', c4', c5', cf, _⟩ := a1.elem HL.out (at_mid HPL.out)
      have f0 := cf (i * 6); have f1 := cf (i * 6 + 1); have f2 := cf (i * 6 + 2); have f3 := cf (i * 6 + 3); have f4 := cf (i * 6 + 4); have f5 := cf (i * 6 + 5)
      have HF := Lib.hid (thru_fin HI.out (H.out.r g rfl) HGZ.out HPL.out HLP.out HL.out HSM.out a1 a2 a3 a4 a5 a6 a7 a8)
      have HA := Lib.hid (And.intro a9 a10)
      have HZ := Lib.hid hz0
      clear a1 a2 a3 a4 a5 a6 a7 a8 a9 a10 cf
      refine wpAnyH_take (i := 5) (v := ?_) rfl (by kernel_rfl) (by kernel_rfl) (by kernel_rfl) (fun _ _ _ h => h) (Or.inl ⟨by rfl, ?_⟩) hS1 ?_
      rotate_left
      · intro Y hY
        obtain ⟨s0, s1, s2, s3, s4, s5, s6, s7, s8, s9, s10, s11, s12⟩ := hY
        go_simp
        try with_reducible rfl
      simp only [Act.put, List.getElem_toArray, List.getElem_cons_succ, List.getElem_cons_zero, List.setIfInBounds_toArray, List.set_cons_succ, List.set_cons_zero]
      refine wpAnyH_ready (rs := [6]) (by kernel_rfl) (by simp) ?_
      refine AllReadyH.cons rfl (fun K1 hK => ?_) AllReadyH.nil
      go_simp
      obtain ⟨t1, t2, t3, t4⟩ := HF.out
      have hk9 := blk_row6 HK6.out (g := g) (by omega) i (.int .i64 y1.k) (strV y1.nm) (strV y1.to) (.int .i64 y1.h.pos) (.slice E3 n3 c3) (.slice E4 n4 c4)
      have hx9 := blk_row6 HX6.out (g := g) (by omega) i (.int .i64 y1.k) (strV y1.nm) (strV y1.to) (.int .i64 y1.h.pos) (.slice E3 n3 c3) (.slice E4 n4 c4)
      have hy9 := blk_row6 HY6.out (g := g) (by omega) i (.int .i64 y1.k) (strV y1.nm) (strV y1.to) (.int .i64 y1.h.pos) (.slice E3 n3 c3) (.slice E4 n4 c4)
      clear HF c0 c1' c2' c3' c4' c5' f0 f1 f2 f3 f4 f5
      generalize (World.setCell (World.setCell (World.setCell (World.setCell (World.setCell (World.setCell w6 ⟨g, i * 6, none⟩ (.int .i64 y1.k)) ⟨g, i * 6 + 1, none⟩ (strV y1.nm)) ⟨g, i * 6 + 2, none⟩ (strV y1.to)) ⟨g, i * 6 + 3, none⟩ (.int .i64 y1.h.pos)) ⟨g, i * 6 + 4, none⟩ (.slice E3 n3 c3)) ⟨g, i * 6 + 5, none⟩ (.slice E4 n4 c4)) = w9 at *
      refine hK.out _ _ (HSB.out w9.drew (hk9.drewN 1) (hx9.drewN 1) (hy9.drewN 1)) (fun _ => wpAnyH_done (by kernel_rfl) ?_ _)
      clear hK K1 hS1
      have hj : n - (pre ++ [i]).length = i := by rw [List.length_append, List.length_singleton]; omega
      have hd : Below w9.heap.size w9 w9.drew := below_drewN (Below.refl _ _) 1
      refine ⟨((HA.out.1 _).trans (t2 _)).trans (keepsFrom_below _ hd), ⟨fun v hv => t3 _ v (by omega) (HA.out.2 _ v (by omega) hv), fun _ => cells6_below t4 hd⟩, x1, y1 :: post, E1, n1, c1, E2, n2, c2, ?_⟩
      rw [hj]
      exact t1.mv hd
  case done =>
    rintro E W hE hI hK
    obtain ⟨x, post, D1, m1, k1, D2, m2, k2, hI⟩ := hI
    rw [dn_length, Nat.sub_self] at hI
    have q0 := hI.bq.cell 0 (u := .int .i64 x.k) rfl; have q1 := hI.bq.cell 1 (u := strV x.nm) rfl; have q2 := hI.bq.cell 2 (u := strV x.to) rfl; have q3 := hI.bq.cell 3 (u := .int .i64 x.h.pos) rfl; have q4 := hI.bq.cell 4 (u := .slice D1 m1 k1) rfl; have q5 := hI.bq.cell 5 (u := .slice D2 m2 k2) rfl
    have r0 := hI.br.cell 0 (u := .int .i64 0) rfl; have r1 := hI.br.cell 1 (u := .string ⟨#[]⟩) rfl; have r2 := hI.br.cell 2 (u := .string ⟨#[]⟩) rfl; have r3 := hI.br.cell 3 (u := .int .i64 0) rfl; have r4 := hI.br.cell 4 (u := .slice none 0 0) rfl; have r5 := hI.br.cell 5 (u := .slice none 0 0) rfl
    have f0 := hI.br.frozen 0; have f1 := hI.br.frozen 1; have f2 := hI.br.frozen 2; have f3 := hI.br.frozen 3; have f4 := hI.br.frozen 4; have f5 := hI.br.frozen 5
    have s0 := hI.bb.cell 0 (u := .bool false) rfl; have g0 := hI.bb.frozen 0
    have HI := Lib.hid hI
    have HD := Lib.hid (thru_done hI H.out.r H.out.rl (by omega) hK)
    clear hI
    gi_wp2
    obtain ⟨d1, d2, d3, d4, d5, d6⟩ := HD.out
    refine ⟨by simp, .inl ⟨_, _, rfl, run_takeDeferred d1, ?_⟩⟩
    clear d1 hK q0 q1 q2 q3 q4 q5 r0 r1 r2 r3 r4 r5 f0 f1 f2 f3 f4 f5 s0 g0
    generalize (World.putObj ((World.setCell (World.setCell (World.setCell (World.setCell (World.setCell (World.setCell W ⟨w.heap.size + 1 + 1, 0, none⟩ (.int .i64 x.k)) ⟨w.heap.size + 1 + 1, 1, none⟩ (strV x.nm)) ⟨w.heap.size + 1 + 1, 2, none⟩ (strV x.to)) ⟨w.heap.size + 1 + 1, 3, none⟩ (.int .i64 x.h.pos)) ⟨w.heap.size + 1 + 1, 4, none⟩ (.slice D1 m1 k1)) ⟨w.heap.size + 1 + 1, 5, none⟩ (.slice D2 m2 k2)).setCell ⟨w.heap.size + 1 + 1 + 1, 0, none⟩ (.bool true)) E (.deferred none)) = W9 at *
    have z0 := d3.cell 0 (u := .bool true) rfl
    have u0 := d2.cell 0 (u := .int .i64 x.k) rfl; have u1 := d2.cell 1 (u := strV x.nm) rfl; have u2 := d2.cell 2 (u := strV x.to) rfl; have u3 := d2.cell 3 (u := .int .i64 x.h.pos) rfl; have u4 := d2.cell 4 (u := .slice D1 m1 k1) rfl; have u5 := d2.cell 5 (u := .slice D2 m2 k2) rfl
    refine ⟨.tuple #[.agg #[.int .i64 x.k, strV x.nm, strV x.to, .int .i64 x.h.pos, .slice D1 m1 k1, .slice D2 m2 k2], .bool true], by simp [results, Tryz.results47, go_sem, z0, u0, u1, u2, u3, u4, u5], fun z hz => ?_, fun hn => ?_, d6⟩
    · have he := HI.out.eq
      rw [List.drop_zero] at he
      have hz' := Option.some.inj (hz.symm.trans he)
      subst hz'
      exact ⟨D1, m1, k1, D2, m2, k2, rfl, d4, d5⟩
    · have he := HI.out.eq
      rw [List.drop_zero] at he
      rw [he] at hn
      cases hn
  case stop =>
    rintro E c' pre post W hE hpp ⟨rfl, ho, b2, b3, fr⟩ hK
    gi_wp2
    refine ⟨by simp, .inl ⟨_, _, rfl, run_takeDeferred hK, ?_⟩⟩
    obtain ⟨p1, p2, _, _, _⟩ := thru_put (by omega) hK fr
    have d2 := p2 _ _ _ (by omega) b2
    have d3 := p2 _ _ _ (by omega) b3
    clear hK b2 b3 fr p2
    generalize (World.putObj W E (.deferred none)) = W9 at *
    have z0 := d3.cell 0 (u := .bool false) rfl
    have u0 := d2.cell 0 (u := .int .i64 0) rfl; have u1 := d2.cell 1 (u := .string ⟨#[]⟩) rfl; have u2 := d2.cell 2 (u := .string ⟨#[]⟩) rfl; have u3 := d2.cell 3 (u := .int .i64 0) rfl; have u4 := d2.cell 4 (u := .slice none 0 0) rfl; have u5 := d2.cell 5 (u := .slice none 0 0) rfl
    refine ⟨.tuple #[.agg zeroV, .bool false], by simp [results, Tryz.results47, go_sem, z0, u0, u1, u2, u3, u4, u5], fun z hz => ?_, fun _ => rfl, p1⟩
    rw [ho] at hz
    cases hz

end Fl
end Go.Proofs.YtfnhjflocfmcoaaGreat

set_option maxRecDepth 100000
namespace Go.Proofs.YtfnhjflocfmcoaaGreat
open Go.RowKit
set_option linter.unusedVariables false
set_option linter.unusedSimpArgs false
namespace Fl
open Tx Df Sq Hk Tr Pr

/-- The rows of both lists, and what there was ahead of the call. -/
def Two (lo : Nat) (v u : Value) : Nat → Prop := fun b => b < lo ∨ some b = v.ownBlock ∨ some b = u.ownBlock

/-- How a call of Pass ends that tells x, y and bo, in memory that is new. -/
def LPassEndH (w : World) (x y : List Ch) (bo : Bool) (e : Ending) (w' : World) : Prop :=
  ∃ A c B d, e = .returned (.tuple #[.slice A x.length c, .slice B y.length d, .bool bo]) ∧ x.length ≤ c ∧ y.length ≤ d ∧ RdP w' (fun b => w.heap.size ≤ b ∧ b < w'.heap.size) A x ∧ RdP w' (fun b => w.heap.size ≤ b ∧ b < w'.heap.size) B y ∧ Below w.heap.size w w'
theorem LPassEndH.end_ {w w' : World} {x y : List Ch} {bo : Bool} {e : Ending} (h : LPassEndH w x y bo e w') : LPassEnd w x y bo e w' := by
  obtain ⟨A, c, B, d, h1, _, _, h2, h3, h4⟩ := h
  exact ⟨A, c, B, d, h1, h2.mono fun b hb => hb.2, h3.mono fun b hb => hb.2, h4⟩
section
variable {w w' : World} {x y x' y' : List Ch} {bo : Bool} {o : Option (List Ch × List Ch)}
theorem lpassH_none (h : o = none) (ho : outF o = (x, y)) (hb : o.isSome = bo) (hw : Below w.heap.size w w') : LPassEndH w x y bo (.returned (.tuple #[.slice none 0 0, .slice none 0 0, .bool false])) w' := by
  subst h
  injection ho with h1 h2
  subst h1 h2 hb
  exact ⟨none, 0, none, 0, rfl, Nat.le_refl _, Nat.le_refl _, .inl rfl, .inl rfl, hw⟩
theorem lpassH_some {A B : Option Addr} {n c m d : Nat} {S T : Nat → Prop} {b1 b2 : Nat} (h : o = some (x', y')) (ho : outF o = (x, y)) (hb : o.isSome = bo) (hn : x'.length = n) (hm : y'.length = m) (hr : OwnS w' S b1 (.slice A n c) x') (hs : OwnS w' T b2 (.slice B m d) y')
    (hS : ∀ b, S b → w.heap.size ≤ b ∧ b < w'.heap.size) (hT : ∀ b, T b → w.heap.size ≤ b ∧ b < w'.heap.size) (h1 : w.heap.size ≤ b1) (h2 : w.heap.size ≤ b2) (hw : Below w.heap.size w w') :
    LPassEndH w x y bo (.returned (.tuple #[.slice A n c, .slice B m d, .bool true])) w' := by
  subst h
  injection ho with e1 e2
  subst e1 e2 hb hn hm
  obtain ⟨_, _, e1, k1⟩ := ownS_slice hr
  obtain ⟨_, _, e2, k2⟩ := ownS_slice hs
  injection e1 with _ _ e1
  injection e2 with _ _ e2
  exact ⟨A, c, B, d, rfl, e1 ▸ k1, e2 ▸ k2, rdP_of_own_hi hr hS h1 rfl, rdP_of_own_hi hs hT h2 rfl, hw⟩
end

theorem OwnS.row6 {W : World} {S : Nat → Prop} {base g : Nat} {v : Value} {l : List Ch} (h : OwnS W S base v l) (hb : some g ≠ v.ownBlock) (hN : ¬ S g) (k : Nat) (v0 v1 v2 v3 v4 v5 : Value) :
    OwnS ((((((W.setCell ⟨g, k * 6, none⟩ v0).setCell ⟨g, k * 6 + 1, none⟩ v1).setCell ⟨g, k * 6 + 2, none⟩ v2).setCell ⟨g, k * 6 + 3, none⟩ v3).setCell ⟨g, k * 6 + 4, none⟩ v4).setCell ⟨g, k * 6 + 5, none⟩ v5) S base v l :=
  (((((h.set hb hN (k * 6) v0).set hb hN (k * 6 + 1) v1).set hb hN (k * 6 + 2) v2).set hb hN (k * 6 + 3) v3).set hb hN (k * 6 + 4) v4).set hb hN (k * 6 + 5) v5

theorem ahead_at {α : Type} {x b : List α} {k : Nat} {q : α} (hx : x.length = k) (h : b[k]? = some q) : (x ++ b.drop k)[k]? = some q := by
  rw [List.getElem?_append_right (by omega), hx, Nat.sub_self, List.getElem?_drop, Nat.add_zero]
  exact h
theorem ahead_set {α : Type} {x b : List α} {k : Nat} {q q1 : α} (hx : x.length = k) (h : b[k]? = some q) : (x ++ b.drop k).set k q1 = (x ++ [q1]) ++ b.drop (k + 1) := by
  rw [drop_at h, List.set_append_right _ _ (by omega), hx, Nat.sub_self, List.append_assoc]
  rfl

/-- Between two rounds of Pass. -/
structure PassI (w W : World) (base : Nat) (Ab Aa : Option Addr) (n n' ca cb : Nat) (a b : List Ch) (k : Nat) (x cur : List Ch) : Prop where
  eq : passF a (b.take k) = some (x, cur)
  lenx : x.length = k
  len : cur.length = n
  lt : Lt cur
  ahead : OwnS W (But W (Two w.heap.size (.slice Ab n' cb) (.slice Aa n ca))) w.heap.size (.slice Ab n' cb) (x ++ b.drop k)
  behind : OwnS W (But W (Two w.heap.size (.slice Ab n' cb) (.slice Aa n ca))) base (.slice Aa n ca) cur
  sep : ∀ g, (Value.slice Ab n' cb).ownBlock = some g → g < base
  bw : Below w.heap.size w W
  hb : w.heap.size ≤ base

theorem PassI.rl {w W : World} {base : Nat} {Ab Aa : Option Addr} {n n' ca cb k : Nat} {a b x cur : List Ch} (h : PassI w W base Ab Aa n n' ca cb a b k x cur) : ∀ g, Two w.heap.size (.slice Ab n' cb) (.slice Aa n ca) g → g < W.heap.size := fun g hg => by
  rcases hg with e | e | e
  · exact Nat.lt_of_lt_of_le e h.bw.size
  · exact ownS_lt h.ahead g e.symm
  · exact ownS_lt h.behind g e.symm
theorem PassI.ne {w W : World} {base : Nat} {Ab Aa : Option Addr} {n n' ca cb k : Nat} {a b x cur : List Ch} (h : PassI w W base Ab Aa n n' ca cb a b k x cur) : ∀ g, (Value.slice Ab n' cb).ownBlock = some g → (Value.slice Aa n ca).ownBlock ≠ some g := fun g hg e => by
  have h1 := h.sep g hg
  have h2 := ownS_ge h.behind g e
  omega

/-- The start: both are one's own. -/
theorem pass_start {w w1 w2 : World} {Ab Aa : Option Addr} {n n' ca cb : Nat} {a b : List Ch} (hn : a.length = n) (ha : Lt a)
    (h1 : OwnS w1 (Fresh w w1 (Value.slice Ab n' cb).ownBlock) w.heap.size (.slice Ab n' cb) b) (hb1 : Below w.heap.size w w1)
    (h2 : OwnS w2 (Fresh w1 w2 (Value.slice Aa n ca).ownBlock) w1.heap.size (.slice Aa n ca) a) (hb2 : Below w1.heap.size w1 w2) :
    PassI w w2 w1.heap.size Ab Aa n n' ca cb a b 0 [] a := by
  refine ⟨by rw [List.take_zero]; exact passL_nil _ _, rfl, hn, ha, ?_, ?_, fun g hg => ownS_lt h1 g hg, hb1.trans (hb2.mono hb1.size), hb1.size⟩
  · rw [List.drop_zero, List.nil_append]
    refine (h1.below hb2).mono fun b hb => ⟨by have := hb.2.1; have := hb2.size; omega, fun e => ?_⟩
    rcases e with e | e | e
    · exact absurd hb.1 (Nat.not_le.2 e)
    · exact hb.2.2 e
    · have h3 := ownS_ge h2 b e.symm
      have := hb.2.1
      omega
  · refine h2.mono fun b hb => ⟨hb.2.1, fun e => ?_⟩
    rcases e with e | e | e
    · have := hb.1
      have := hb1.size
      omega
    · have h3 := ownS_lt h1 b e.symm
      have := hb.1
      omega
    · exact hb.2.2 e

/-- A round: the change passes; what it is then is stored. -/
theorem pass_next {w W w1 w3 w4 : World} {base g : Nat} {Aa : Option Addr} {n n' ca cb k : Nat} {a b x cur a1 : List Ch} {q q1 : Ch} {E1 E2 : Option Addr} {n1 c1 n2 c2 : Nat}
    (h : PassI w W base (some ⟨g, 0, none⟩) Aa n n' ca cb a b k x cur) (hb : Lt b) (hq : b[k]? = some q) (hbl : b.length = n') (hon : one passP cur q = some (q1, a1)) (hb1 : Below W.heap.size W w1) (hg : w1.grownBy w3 (Value.slice Aa n ca).ownBlock) (hb4 : Below w3.heap.size w3 w4)
    (hrow : OwnS w3 (But w3 (Two w.heap.size (.slice (some ⟨g, 0, none⟩) n' cb) (.slice Aa n ca))) base (.slice Aa n ca) a1) (hpg : PG w3 (But w3 (Two w.heap.size (.slice (some ⟨g, 0, none⟩) n' cb) (.slice Aa n ca))) E1 n1 c1 E2 n2 c2 q1) :
    OwnS w4 (But w4 (Two w.heap.size (.slice (some ⟨g, 0, none⟩) n' cb) (.slice Aa n ca))) w.heap.size (.slice (some ⟨g, 0, none⟩) n' cb) (x ++ b.drop k) ∧
    PassI w ((((((w4.setCell ⟨g, k * 6, none⟩ (.int .i64 q1.k)).setCell ⟨g, k * 6 + 1, none⟩ (strV q1.nm)).setCell ⟨g, k * 6 + 2, none⟩ (strV q1.to)).setCell ⟨g, k * 6 + 3, none⟩ (.int .i64 q1.h.pos)).setCell ⟨g, k * 6 + 4, none⟩ (.slice E1 n1 c1)).setCell ⟨g, k * 6 + 5, none⟩ (.slice E2 n2 c2)) base (some ⟨g, 0, none⟩) Aa n n' ca cb a b (k + 1) (x ++ [q1]) a1 := by
  have hl3 : (x ++ b.drop k).length = n' := by
    have hk := (List.getElem?_eq_some_iff.1 hq).1
    rw [List.length_append, List.length_drop, h.lenx, hbl]; omega
  have hgo : (Value.slice (some ⟨g, 0, none⟩) n' cb).ownBlock = some g := rfl
  have hne := h.ne g hgo
  have hgl := h.rl g (.inr (.inl rfl))
  have hG : Two w.heap.size (.slice (some ⟨g, 0, none⟩) n' cb) (.slice Aa n ca) g := .inr (.inl rfl)
  have a3 : OwnS w3 (But w3 (Two w.heap.size (.slice (some ⟨g, 0, none⟩) n' cb) (.slice Aa n ca))) w.heap.size (.slice (some ⟨g, 0, none⟩) n' cb) (x ++ b.drop k) :=
    ((((h.ahead.below hb1).mono (but_up hb1.size)).gr hg (fun i hi => by injection hi with hi; rw [← hi]; exact hne) (fun i hi e => hi.2 (.inr (.inr e.symm))))).mono (but_up hg.size)
  have a4 := (a3.below hb4).mono (but_up hb4.size)
  have hp4 := (hpg.to_ (fun b _ hl => hb4.block b hl)).mono (but_up hb4.size)
  have hr4 := (hrow.below hb4).mono (but_up hb4.size)
  have hN : ¬ But w4 (Two w.heap.size (.slice (some ⟨g, 0, none⟩) n' cb) (.slice Aa n ca)) g := fun e => e.2 hG
  have h5 := a4.store (k := k) hl3 hN hp4
  rw [ahead_set h.lenx hq] at h5
  have h6 := hr4.row6 (g := g) (fun e => hne e.symm) hN k (.int .i64 q1.k) (strV q1.nm) (strV q1.to) (.int .i64 q1.h.pos) (.slice E1 n1 c1) (.slice E2 n2 c2)
  have hbw : Below w.heap.size w w4 := by
    have h1 := h.bw.trans (hb1.mono h.bw.size)
    have h2 := h1.grown hg h1.size (fun i hi => Nat.le_trans h.hb (ownS_ge h.behind i hi))
    exact h2.trans (hb4.mono h2.size)
  have hwg : w.heap.size ≤ g := ownS_ge h.ahead g rfl
  refine ⟨a4, passL_step passP h.eq hq hon, by rw [List.length_append, h.lenx]; rfl, by rw [one_len passP hon]; exact h.len, (one_lt hon h.lt (hb q (List.mem_of_getElem? hq))).2, h5.mono (but_up (by simp)), h6.mono (but_up (by simp)), h.sep, below_row6 hbw hwg k _ _ _ _ _ _, h.hb⟩

set_option maxRecDepth 100000 in
set_option maxHeartbeats 4000000 in
theorem PassLH (A : Option Addr) (n c : Nat) (A' : Option Addr) (n' c' : Nat) (a b x y : List Ch) (w : World) (bo : Bool) (hn : a.length = n) (hn' : b.length = n') (hle : n ≤ 1000) (hle' : n' ≤ 1000) (ha : Lt a) (hb : Lt b)
    (hR : RdP w (· < w.heap.size) A a) (hR' : RdP w (· < w.heap.size) A' b) (ho : outF (passF a b) = (x, y)) (hs : (passF a b).isSome = bo) :
    Calls Tryz.prog 31 #[.slice A n c, .slice A' n' c'] w (LPassEndH w x y bo) := by
  have HR := Lib.hid hR; have HR' := Lib.hid hR'; have HN := Lib.hid hn; have HN' := Lib.hid hn'; have HA := Lib.hid ha; have HB := Lib.hid hb; have HO := Lib.hid ho; have HS := Lib.hid hs
  clear hR hR' hn hn' ha hb ho hs
  go_enter Tryz.func31, Tryz.ntmps31
  go_wp2_with fail
  refine (ownL A' n' c' b w HN'.out hle' HB.out HR'.out).mono ?_
  rintro e w1 ⟨Ab, cb, rfl, hcb, ho1, hb1⟩
  have HO1 := Lib.hid ho1; have HB1 := Lib.hid hb1
  clear ho1 hb1
  go_wp2_with fail
  refine (ownL A n c a w1 HN.out hle HA.out (HR.out.mv HB1.out)).mono ?_
  rintro e w2 ⟨Aa, ca, rfl, hca, ho2, hb2⟩
  have HST := Lib.hid (pass_start HN.out HA.out HO1.out HB1.out ho2 hb2)
  clear ho2 hb2 HO1 HB1
  generalize w1.heap.size = base at HST
  go_wp2
  go_loopw [19] (fun i wr => ∃ (k : Nat) (x1 cur : List Ch), k ≤ n' ∧ i = .int .i64 (k : Int) ∧ PassI w wr base Ab Aa n n' ca cb a b k x1 cur) (fun i _ => n' - (intOf i).toNat)
  case atStart => exact ⟨0, [], a, Nat.zero_le _, rfl, HST.out⟩
  case round =>
    clear HST
    obtain ⟨k, x1, cur, hk, rfl, hI⟩ := hrel
    have HI := Lib.hid hI
    clear hI
    by_cases hlt : k < n'
    · obtain ⟨q, hx⟩ : ∃ q, b[k]? = some q := ⟨_, List.getElem?_eq_getElem (by rw [HN'.out]; exact hlt)⟩
      have hl3 : (x1 ++ b.drop k).length = n' := by rw [List.length_append, List.length_drop, HI.out.lenx, HN'.out]; omega
      obtain ⟨g, hAb⟩ : ∃ g, Ab = some ⟨g, 0, none⟩ := by
        obtain ⟨xs, hr, _⟩ := HI.out.ahead
        rcases hr.2 with ⟨_, h1⟩ | ⟨g, cap, cur, e, _⟩
        · omega
        · injection e with e1; exact ⟨g, e1⟩
      subst hAb
      have hki : (k : Int) < (n' : Int) := by omega
      obtain ⟨D, m, f, D', m', f', c0, c1', c2, c3, c4, c5, _, hpg⟩ := HI.out.ahead.elem hl3 (ahead_at HI.out.lenx hx)
      have HX := Lib.hid hx
      have hba : Below wr.heap.size wr (wr.alloc (.cells (cellsV q D m f D' m' f') 55)) := (Below.refl _ _).alloc (Nat.le_refl _) _
      have HBA := Lib.hid hba
      have HT := Lib.hid (throughL (Two w.heap.size (.slice (some ⟨g, 0, none⟩) n' cb) (.slice Aa n ca)) base n ca Aa cur D m f D' m' f' q (wr.alloc (.cells (cellsV q D m f D' m' f') 55)) hle ⟨HI.out.len, HI.out.lt, HB.out q (List.mem_of_getElem? hx), fun i hi => .inr (.inr hi.symm), fun i hi => Nat.lt_of_lt_of_le (HI.out.rl i hi) hba.size, (HI.out.behind.below hba).mono (but_up hba.size), (hpg.to_ (fun b _ hl => hba.block b hl)).mono (but_up hba.size)⟩)
      clear hx hl3 hpg hba
      go_wp2_with fail
      clear c0 c1' c2 c3 c4 c5
      dsimp only [cellsV] at HT HBA
      refine HT.out.mono ?_
      clear HT
      generalize (wr.alloc (.cells #[.int .i64 q.k, strV q.nm, strV q.to, .int .i64 q.h.pos, .slice D m f, .slice D' m' f'] 55)) = w5 at *
      rintro e w3 ⟨h1, h2, hg⟩
      cases hon : one passP cur q with
      | none =>
        obtain rfl := h2 hon
        have HE := Lib.hid (passL_step_none passP HI.out.eq HX.out hon)
        have HBW : Hid (Below w.heap.size w w3) := Lib.hid (by
          have h3 := HI.out.bw.trans (HBA.out.mono HI.out.bw.size)
          exact h3.grown hg h3.size (fun i hi => Nat.le_trans HI.out.hb (ownS_ge HI.out.behind i hi)))
        clear h1 h2 hon hg
        go_wp2
        go_ret3
        exact lpassH_none HE.out HO.out HS.out (HBW.out.alloc HBW.out.size _)
      | some z =>
        obtain ⟨q1, a1⟩ := z
        obtain ⟨E1, n1, c1, E2, n2, c2, rfl, hrow, hpg⟩ := h1 _ hon
        have hb4 : Below w3.heap.size w3 (w3.alloc (.cells (cellsV q1 E1 n1 c1 E2 n2 c2) 55)) := (Below.refl _ _).alloc (Nat.le_refl _) _
        obtain ⟨hah, hnx⟩ := pass_next HI.out HB.out HX.out HN'.out hon HBA.out hg hb4 hrow hpg
        have HNX := Lib.hid hnx
        have hl3 : (x1 ++ b.drop k).length = n' := by rw [List.length_append, List.length_drop, HI.out.lenx, HN'.out]; omega
        obtain ⟨_, _, _, _, _, _, c0, c1', c2', c3, c4, c5, cf, _⟩ := hah.elem hl3 (ahead_at HI.out.lenx HX.out)
        have f0 := cf (k * 6); have f1 := cf (k * 6 + 1); have f2 := cf (k * 6 + 2); have f3 := cf (k * 6 + 3); have f4 := cf (k * 6 + 4); have f5 := cf (k * 6 + 5)
        clear h1 h2 hon hg hrow hpg hb4 hah hnx hl3 cf
        go_wp2_with fail
        exact ⟨⟨k + 1, x1 ++ [q1], a1, by omega, by go_num, HNX.out⟩, by simp [intOf]; omega⟩
    · have hkn : k = n' := by omega
      subst hkn
      have HE : Hid (passF a b = some (x1, cur)) := Lib.hid (by have := HI.out.eq; rw [List.take_of_length_le (by rw [HN'.out]; exact Nat.le_refl _)] at this; exact this)
      have HX1 : Hid (OwnS wr (But wr (Two w.heap.size (.slice Ab k cb) (.slice Aa n ca))) w.heap.size (.slice Ab k cb) x1) := Lib.hid (by have := HI.out.ahead; rw [List.drop_of_length_le (by rw [HN'.out]; exact Nat.le_refl _), List.append_nil] at this; exact this)
      go_wp2
      go_ret3
      exact lpassH_some HE.out HO.out HS.out HI.out.lenx HI.out.len HX1.out HI.out.behind (fun b hb => ⟨Nat.le_of_not_lt fun e => hb.2 (.inl e), hb.1⟩) (fun b hb => ⟨Nat.le_of_not_lt fun e => hb.2 (.inl e), hb.1⟩) (Nat.le_refl _) HI.out.hb HI.out.bw

end Fl
end Go.Proofs.YtfnhjflocfmcoaaGreat

set_option maxRecDepth 100000
namespace Go.Proofs.YtfnhjflocfmcoaaGreat
open Go.RowKit
set_option linter.unusedVariables false
set_option linter.unusedSimpArgs false
namespace Tg
open Tx Df Sq Hk Tr Pr Fl Pn

def outN (o : Option (Nm × Nm)) : Nm × Nm := o.getD (noN, noN)
/-- How a call of Pass ends that tells x, y and bo, in memory that is new. -/
def NPassEnd (w : World) (x y : Nm) (bo : Bool) (e : Ending) (w' : World) : Prop :=
  ∃ D1 d1 e1 A1 n1 c1 D2 d2 e2 A2 n2 c2, e = .returned (.tuple #[nmV x.id D1 d1 e1 x.txt A1 n1 c1, nmV y.id D2 d2 e2 y.txt A2 n2 c2, .bool bo]) ∧ NG w' (Since w w') D1 d1 e1 A1 n1 c1 x ∧ NG w' (Since w w') D2 d2 e2 A2 n2 c2 y ∧ Below w.heap.size w w'

theorem four_blk (w : World) (t0 t1 t2 t3 : TypeId) (c0 c1 c2 c3 : Array Value) : let W := (((w.alloc (.cells c0 t0)).alloc (.cells c1 t1)).alloc (.cells c2 t2)).alloc (.cells c3 t3)
    Blk W w.heap.size t0 c0 ∧ Blk W (w.heap.size + 1) t1 c1 ∧ Blk W (w.heap.size + 1 + 1) t2 c2 ∧ Blk W (w.heap.size + 1 + 1 + 1) t3 c3 ∧ Below w.heap.size w W := by
  intro W
  have b0 := (((Blk.new w t0 c0).alloc (.cells c1 t1)).alloc (.cells c2 t2)).alloc (.cells c3 t3)
  have b1 := ((Blk.new (w.alloc (.cells c0 t0)) t1 c1).alloc (.cells c2 t2)).alloc (.cells c3 t3)
  have b2 := (Blk.new ((w.alloc (.cells c0 t0)).alloc (.cells c1 t1)) t2 c2).alloc (.cells c3 t3)
  have b3 := Blk.new (((w.alloc (.cells c0 t0)).alloc (.cells c1 t1)).alloc (.cells c2 t2)) t3 c3
  simp only [World.size_alloc] at b1 b2 b3
  exact ⟨b0, b1, b2, b3, (((((Below.refl _ _).alloc (Nat.le_refl _) _).alloc (by simp) _).alloc (by simp; omega) _).alloc (by simp; omega) _)⟩
theorem npass_none {w w' : World} {x y : Nm} {bo : Bool} {o : Option (Nm × Nm)} (h : o = none) (ho : outN o = (x, y)) (hb : o.isSome = bo) (hw : Below w.heap.size w w') : NPassEnd w x y bo (.returned (.tuple #[.agg #[.int .i64 0, .int .i64 0, .slice none 0 0, .string ⟨#[]⟩, .slice none 0 0], .agg #[.int .i64 0, .int .i64 0, .slice none 0 0, .string ⟨#[]⟩, .slice none 0 0], .bool false])) w' := by
  subst h
  injection ho with h1 h2
  subst h1 h2 hb
  exact ⟨none, 0, 0, none, 0, 0, none, 0, 0, none, 0, 0, rfl, ng_no _ _, ng_no _ _, hw⟩

/-- Two boxes of five cells are set. -/
theorem two5 {W w : World} {B g : Nat} {t : TypeId} {a0 a1 a2 a3 a4 b0 b1 b2 b3 b4 : Value} (h1 : Blk W g t #[a0, a1, a2, a3, a4]) (h2 : Blk W (g + 1) t #[b0, b1, b2, b3, b4]) (hb : Below B w W) (hg : B ≤ g) (v0 v1 v2 v3 v4 u0 u1 u2 u3 u4 : Value) :
    let W' := (((((((((W.setCell ⟨g, 0, none⟩ v0).setCell ⟨g, 1, none⟩ v1).setCell ⟨g, 2, none⟩ v2).setCell ⟨g, 3, none⟩ v3).setCell ⟨g, 4, none⟩ v4).setCell ⟨g + 1, 0, none⟩ u0).setCell ⟨g + 1, 1, none⟩ u1).setCell ⟨g + 1, 2, none⟩ u2).setCell ⟨g + 1, 3, none⟩ u3).setCell ⟨g + 1, 4, none⟩ u4
    Blk W' g t #[v0, v1, v2, v3, v4] ∧ Blk W' (g + 1) t #[u0, u1, u2, u3, u4] ∧ Below B w W' ∧ W'.heap.size = W.heap.size ∧ Fl.Alike (fun b => b ≠ g ∧ b ≠ g + 1) W W' := by
  intro W'
  refine ⟨blk_set5 (blk5 h1 _ _ _ _ _) (by omega) _ _ _ _ _, blk5 (blk_set5 h2 (by omega) _ _ _ _ _) _ _ _ _ _, below_set5 (below_set5 hb hg _ _ _ _ _) (by omega) _ _ _ _ _, by simp [W'], ?_⟩
  exact ((alike_set5 W g v0 v1 v2 v3 v4).mono fun b hb => hb.1).trans_ ((alike_set5 _ (g + 1) u0 u1 u2 u3 u4).mono fun b hb => hb.2) (by simp)

set_option maxRecDepth 100000 in
set_option maxHeartbeats 2000000 in
theorem PassN (D : Option Addr) (dn dc : Nat) (A : Option Addr) (n c : Nat) (D' : Option Addr) (dn' dc' : Nat) (A' : Option Addr) (n' c' : Nat) (p q x y : Nm) (w : World) (bo : Bool) (hle : n ≤ 1000) (hle' : n' ≤ 1000) (hd : dn ≤ 100000) (hd' : dn' ≤ 100000) (hl : Lt p.l) (hl' : Lt q.l)
    (hv : NV w w.heap.size D dn dc A n c p) (hv' : NV w w.heap.size D' dn' dc' A' n' c' q) (ho : outN (passN p q) = (x, y)) (hs : (passN p q).isSome = bo) :
    Calls Tryz.prog 16 #[nmV p.id D dn dc p.txt A n c, nmV q.id D' dn' dc' q.txt A' n' c'] w (NPassEnd w x y bo) := by
  have HV := Lib.hid hv; have HV' := Lib.hid hv'; have HO := Lib.hid ho; have HS := Lib.hid hs; have HL := Lib.hid hl; have HL' := Lib.hid hl'
  clear hv hv' ho hs hl hl'
  go_enter Tryz.func16, Tryz.ntmps16
  go_upto_region 1 with fail
  obtain ⟨b0, b1, b2, b3, hba⟩ := four_blk w 41 41 41 41 #[.int .i64 p.id.1, .int .i64 p.id.2, .slice D dn dc, strV p.txt, .slice A n c] #[.int .i64 q.id.1, .int .i64 q.id.2, .slice D' dn' dc', strV q.txt, .slice A' n' c'] #[.int .i64 0, .int .i64 0, .slice none 0 0, .string ⟨#[]⟩, .slice none 0 0] #[.int .i64 0, .int .i64 0, .slice none 0 0, .string ⟨#[]⟩, .slice none 0 0]
  generalize ((((w.alloc (.cells #[.int .i64 p.id.1, .int .i64 p.id.2, .slice D dn dc, strV p.txt, .slice A n c] 41)).alloc (.cells #[.int .i64 q.id.1, .int .i64 q.id.2, .slice D' dn' dc', strV q.txt, .slice A' n' c'] 41)).alloc (.cells #[.int .i64 0, .int .i64 0, .slice none 0 0, .string ⟨#[]⟩, .slice none 0 0] 41)).alloc (.cells #[.int .i64 0, .int .i64 0, .slice none 0 0, .string ⟨#[]⟩, .slice none 0 0] 41)) = w1 at b0 b1 b2 b3 hba ⊢
  obtain ⟨z, hz⟩ : ∃ z, w.heap.size = z := ⟨_, rfl⟩
  rw [hz] at b0 b1 b2 b3 ⊢
  have HZ := Lib.hid hz
  have HB0 := Lib.hid b0; have HB1 := Lib.hid b1; have HB2 := Lib.hid b2; have HB3 := Lib.hid b3; have HBW := Lib.hid hba
  replace HV := Lib.hid (HV.out.mv hba); replace HV' := Lib.hid (HV'.out.mv hba)
  clear b0 b1 b2 b3 hba hz
  have x0 := HB0.out.cell 0 rfl; have x1 := HB0.out.cell 1 rfl; have y2 := HB1.out.cell 2 rfl
  have l0 := HB0.out.lt; have l1 := HB1.out.lt
  go_wp2_with fail
  obtain ⟨bm, hbm⟩ : ∃ b, decide (p.id ∈ q.deps) = b := ⟨_, rfl⟩
  refine (ContainsI p.id D' dn' dc' w1.heap.size q.deps w1 bm HV'.out.dl (by omega) (Nat.le_refl _) HV'.out.dr hbm).mono ?_
  rintro e w2 ⟨rfl, hb⟩
  have HM := Lib.hid hbm
  clear hbm x0 x1 y2 l0 l1
  replace HB0 := Lib.hid (HB0.out.below hb HB0.out.lt); replace HB1 := Lib.hid (HB1.out.below hb HB1.out.lt); replace HB2 := Lib.hid (HB2.out.below hb HB2.out.lt); replace HB3 := Lib.hid (HB3.out.below hb HB3.out.lt)
  replace HV := Lib.hid (HV.out.mv hb); replace HV' := Lib.hid (HV'.out.mv hb); replace HBW := Lib.hid (below_mv HBW.out hb)
  clear hb
  have r0 := HB2.out.cell 0 rfl; have r1 := HB2.out.cell 1 rfl; have r2 := HB2.out.cell 2 rfl; have r3 := HB2.out.cell 3 rfl; have r4 := HB2.out.cell 4 rfl
  have s0 := HB3.out.cell 0 rfl; have s1 := HB3.out.cell 1 rfl; have s2 := HB3.out.cell 2 rfl; have s3 := HB3.out.cell 3 rfl; have s4 := HB3.out.cell 4 rfl
  have f0 := HB2.out.frozen 0; have f1 := HB2.out.frozen 1; have f2 := HB2.out.frozen 2; have f3 := HB2.out.frozen 3; have f4 := HB2.out.frozen 4
  have g0 := HB3.out.frozen 0; have g1 := HB3.out.frozen 1; have g2 := HB3.out.frozen 2; have g3 := HB3.out.frozen 3; have g4 := HB3.out.frozen 4
  have x4 := HB0.out.cell 4 rfl; have y4 := HB1.out.cell 4 rfl
  have l0 := HB0.out.lt; have l1 := HB1.out.lt; have l2 := HB2.out.lt; have l3 := HB3.out.lt
  cases bm with
  | true =>
    have HE : Hid (passN p q = none) := Lib.hid (by unfold passN; rw [if_pos (of_decide_eq_true HM.out)])
    go_wp2_with fail
    have hT := two5 HB2.out HB3.out HBW.out (show w.heap.size ≤ z + 1 + 1 by have := HZ.out; omega) (.int .i64 0) (.int .i64 0) (.slice none 0 0) (.string ⟨#[]⟩) (.slice none 0 0) (.int .i64 0) (.int .i64 0) (.slice none 0 0) (.string ⟨#[]⟩) (.slice none 0 0)
    clear r0 r1 r2 r3 r4 s0 s1 s2 s3 s4 f0 f1 f2 f3 f4 g0 g1 g2 g3 g4 x4 y4 l0 l1 l2 l3
    generalize (World.setCell (World.setCell (World.setCell (World.setCell (World.setCell (World.setCell (World.setCell (World.setCell (World.setCell (World.setCell w2 ⟨z + 1 + 1, 0, none⟩ (.int .i64 0)) ⟨z + 1 + 1, 1, none⟩ (.int .i64 0)) ⟨z + 1 + 1, 2, none⟩ (.slice none 0 0)) ⟨z + 1 + 1, 3, none⟩ (.string ⟨#[]⟩)) ⟨z + 1 + 1, 4, none⟩ (.slice none 0 0)) ⟨z + 1 + 1 + 1, 0, none⟩ (.int .i64 0)) ⟨z + 1 + 1 + 1, 1, none⟩ (.int .i64 0)) ⟨z + 1 + 1 + 1, 2, none⟩ (.slice none 0 0)) ⟨z + 1 + 1 + 1, 3, none⟩ (.string ⟨#[]⟩)) ⟨z + 1 + 1 + 1, 4, none⟩ (.slice none 0 0)) = w9 at *
    obtain ⟨t1, t2, t3, t4, t5⟩ := hT
    have u0 := t1.cell 0 rfl; have u1 := t1.cell 1 rfl; have u2 := t1.cell 2 rfl; have u3 := t1.cell 3 rfl; have u4 := t1.cell 4 rfl
    have v0 := t2.cell 0 rfl; have v1 := t2.cell 1 rfl; have v2 := t2.cell 2 rfl; have v3 := t2.cell 3 rfl; have v4 := t2.cell 4 rfl
    refine bodyPost_ret (v := .tuple #[.agg #[.int .i64 0, .int .i64 0, .slice none 0 0, .string ⟨#[]⟩, .slice none 0 0], .agg #[.int .i64 0, .int .i64 0, .slice none 0 0, .string ⟨#[]⟩, .slice none 0 0], .bool false]) (by simp [results, Tryz.results16, go_sem, u0, u1, u2, u3, u4, v0, v1, v2, v3, v4]) rfl ?_
    exact npass_none HE.out HO.out HS.out t3
  | false =>
    have HNM : Hid (p.id ∉ q.deps) := Lib.hid (of_decide_eq_false HM.out)
    go_wp2_with fail
    obtain ⟨⟨lx, ly⟩, hol⟩ : ∃ z, outF (passF p.l q.l) = z := ⟨_, rfl⟩
    obtain ⟨bl, hbl⟩ : ∃ b, (passF p.l q.l).isSome = b := ⟨_, rfl⟩
    refine (PassLH A n c A' n' c' p.l q.l lx ly w2 bl HV.out.l HV'.out.l hle hle' HL.out HL'.out HV.out.r HV'.out.r hol hbl).mono ?_
    rintro e w3 ⟨E1, k1, E2, k2, rfl, hk1, hk2, hr1, hr2, hb⟩
    have HOL := Lib.hid hol; have HBL := Lib.hid hbl
    clear hol hbl r0 r1 r2 r3 r4 s0 s1 s2 s3 s4 f0 f1 f2 f3 f4 g0 g1 g2 g3 g4 x4 y4 l0 l1 l2 l3
    have hsw : z + 4 ≤ w2.heap.size := HB3.out.lt
    have HR1 := Lib.hid (hr1.mono fun b hb => (⟨Nat.le_trans hsw hb.1, hb.2⟩ : z + 4 ≤ b ∧ b < w3.heap.size)); have HR2 := Lib.hid (hr2.mono fun b hb => (⟨Nat.le_trans hsw hb.1, hb.2⟩ : z + 4 ≤ b ∧ b < w3.heap.size)); have HK1 := Lib.hid hk1; have HK2 := Lib.hid hk2
    replace HB0 := Lib.hid (HB0.out.below hb HB0.out.lt); replace HB1 := Lib.hid (HB1.out.below hb HB1.out.lt); replace HB2 := Lib.hid (HB2.out.below hb HB2.out.lt); replace HB3 := Lib.hid (HB3.out.below hb HB3.out.lt)
    replace HV := Lib.hid (HV.out.mv hb); replace HV' := Lib.hid (HV'.out.mv hb); replace HBW := Lib.hid (below_mv HBW.out hb)
    clear hb hr1 hr2 hk1 hk2 hsw
    have r0 := HB2.out.cell 0 rfl; have r1 := HB2.out.cell 1 rfl; have r2 := HB2.out.cell 2 rfl; have r3 := HB2.out.cell 3 rfl; have r4 := HB2.out.cell 4 rfl
    have s0 := HB3.out.cell 0 rfl; have s1 := HB3.out.cell 1 rfl; have s2 := HB3.out.cell 2 rfl; have s3 := HB3.out.cell 3 rfl; have s4 := HB3.out.cell 4 rfl
    have f0 := HB2.out.frozen 0; have f1 := HB2.out.frozen 1; have f2 := HB2.out.frozen 2; have f3 := HB2.out.frozen 3; have f4 := HB2.out.frozen 4
    have g0 := HB3.out.frozen 0; have g1 := HB3.out.frozen 1; have g2 := HB3.out.frozen 2; have g3 := HB3.out.frozen 3; have g4 := HB3.out.frozen 4
    have x4 := HB0.out.cell 4 rfl; have y4 := HB1.out.cell 4 rfl
    have l0 := HB0.out.lt; have l1 := HB1.out.lt; have l2 := HB2.out.lt; have l3 := HB3.out.lt
    cases bl with
    | false =>
      have HE : Hid (passN p q = none) := Lib.hid (by
        unfold passN
        rw [if_neg HNM.out]
        have h := HBL.out
        cases hp : passF p.l q.l with
        | none => rfl
        | some z => rw [hp] at h; cases h)
      go_wp2_with fail
      have hT := two5 HB2.out HB3.out HBW.out (show w.heap.size ≤ z + 1 + 1 by have := HZ.out; omega) (.int .i64 0) (.int .i64 0) (.slice none 0 0) (.string ⟨#[]⟩) (.slice none 0 0) (.int .i64 0) (.int .i64 0) (.slice none 0 0) (.string ⟨#[]⟩) (.slice none 0 0)
      clear r0 r1 r2 r3 r4 s0 s1 s2 s3 s4 f0 f1 f2 f3 f4 g0 g1 g2 g3 g4 x4 y4 l0 l1 l2 l3
      generalize (World.setCell (World.setCell (World.setCell (World.setCell (World.setCell (World.setCell (World.setCell (World.setCell (World.setCell (World.setCell w3 ⟨z + 1 + 1, 0, none⟩ (.int .i64 0)) ⟨z + 1 + 1, 1, none⟩ (.int .i64 0)) ⟨z + 1 + 1, 2, none⟩ (.slice none 0 0)) ⟨z + 1 + 1, 3, none⟩ (.string ⟨#[]⟩)) ⟨z + 1 + 1, 4, none⟩ (.slice none 0 0)) ⟨z + 1 + 1 + 1, 0, none⟩ (.int .i64 0)) ⟨z + 1 + 1 + 1, 1, none⟩ (.int .i64 0)) ⟨z + 1 + 1 + 1, 2, none⟩ (.slice none 0 0)) ⟨z + 1 + 1 + 1, 3, none⟩ (.string ⟨#[]⟩)) ⟨z + 1 + 1 + 1, 4, none⟩ (.slice none 0 0)) = w9 at *
      obtain ⟨t1, t2, t3, t4, t5⟩ := hT
      have u0 := t1.cell 0 rfl; have u1 := t1.cell 1 rfl; have u2 := t1.cell 2 rfl; have u3 := t1.cell 3 rfl; have u4 := t1.cell 4 rfl
      have v0 := t2.cell 0 rfl; have v1 := t2.cell 1 rfl; have v2 := t2.cell 2 rfl; have v3 := t2.cell 3 rfl; have v4 := t2.cell 4 rfl
      refine bodyPost_ret (v := .tuple #[.agg #[.int .i64 0, .int .i64 0, .slice none 0 0, .string ⟨#[]⟩, .slice none 0 0], .agg #[.int .i64 0, .int .i64 0, .slice none 0 0, .string ⟨#[]⟩, .slice none 0 0], .bool false]) (by simp [results, Tryz.results16, go_sem, u0, u1, u2, u3, u4, v0, v1, v2, v3, v4]) rfl ?_
      exact npass_none HE.out HO.out HS.out t3
    | true =>
      have HE : Hid (passN p q = some (⟨q.id, q.deps, q.txt, lx⟩, ⟨p.id, p.deps, p.txt, ly⟩)) := Lib.hid (by
        unfold passN
        rw [if_neg HNM.out, outF_of HOL.out HBL.out]
        rfl)
      have x0 := HB0.out.cell 0 rfl; have x1 := HB0.out.cell 1 rfl; have x2 := HB0.out.cell 2 rfl; have x3 := HB0.out.cell 3 rfl
      have y0 := HB1.out.cell 0 rfl; have y1 := HB1.out.cell 1 rfl; have y2 := HB1.out.cell 2 rfl; have y3 := HB1.out.cell 3 rfl
      go_upto_region 7 with fail
      have HSB : Hid (∀ X : World, Blk X z 41 #[.int .i64 p.id.1, .int .i64 p.id.2, .slice D dn dc, strV p.txt, .slice A n c] → Blk X (z + 1) 41 #[.int .i64 q.id.1, .int .i64 q.id.2, .slice D' dn' dc', strV q.txt, .slice A' n' c'] → X.cell? ⟨z, 0, none⟩ = some (.int .i64 p.id.1) ∧ X.cell? ⟨z, 1, none⟩ = some (.int .i64 p.id.2) ∧ X.cell? ⟨z, 2, none⟩ = some (.slice D dn dc) ∧ X.cell? ⟨z, 3, none⟩ = some (strV p.txt) ∧ X.cell? ⟨z, 4, none⟩ = some (.slice A n c) ∧ X.cell? ⟨z + 1, 0, none⟩ = some (.int .i64 q.id.1) ∧ X.cell? ⟨z + 1, 1, none⟩ = some (.int .i64 q.id.2) ∧ X.cell? ⟨z + 1, 2, none⟩ = some (.slice D' dn' dc') ∧ X.cell? ⟨z + 1, 3, none⟩ = some (strV q.txt) ∧ X.cell? ⟨z + 1, 4, none⟩ = some (.slice A' n' c')) := Lib.hid (fun X h1 h2 => ⟨h1.cell 0 rfl, h1.cell 1 rfl, h1.cell 2 rfl, h1.cell 3 rfl, h1.cell 4 rfl, h2.cell 0 rfl, h2.cell 1 rfl, h2.cell 2 rfl, h2.cell 3 rfl, h2.cell 4 rfl⟩)
      have HC : Hid (∀ X, Below w3.heap.size w3 X → X.cell? ⟨z, 0, none⟩ = some (.int .i64 p.id.1) ∧ X.cell? ⟨z, 1, none⟩ = some (.int .i64 p.id.2) ∧ X.cell? ⟨z, 2, none⟩ = some (.slice D dn dc) ∧ X.cell? ⟨z, 3, none⟩ = some (strV p.txt) ∧ X.cell? ⟨z, 4, none⟩ = some (.slice A n c) ∧ X.cell? ⟨z + 1, 0, none⟩ = some (.int .i64 q.id.1) ∧ X.cell? ⟨z + 1, 1, none⟩ = some (.int .i64 q.id.2) ∧ X.cell? ⟨z + 1, 2, none⟩ = some (.slice D' dn' dc') ∧ X.cell? ⟨z + 1, 3, none⟩ = some (strV q.txt) ∧ X.cell? ⟨z + 1, 4, none⟩ = some (.slice A' n' c')) := Lib.hid (fun X hb => HSB.out X (HB0.out.below hb HB0.out.lt) (HB1.out.below hb HB1.out.lt))
      have HD := Lib.hid (show Below w3.heap.size w3 w3.drew from below_drewN (Below.refl _ _) 1)
      have HKD := Lib.hid (HC.out w3.drew HD.out)
      have PX : Hid (∀ X, Below w3.heap.size w3 X → Calls Tryz.prog 32 #[nmV q.id D' dn' dc' q.txt A' n' c', .slice E1 lx.length k1] X (WithEnd X q dn' E1 lx.length k1)) := Lib.hid (fun X hb => With D' dn' dc' A' n' c' q E1 lx.length k1 X hd' HV'.out.dl (RdI.mv HV'.out.dr hb))
      have PY : Hid (∀ X, Below w3.heap.size w3 X → Calls Tryz.prog 32 #[nmV p.id D dn dc p.txt A n c, .slice E2 ly.length k2] X (WithEnd X p dn E2 ly.length k2)) := Lib.hid (fun X hb => With D dn dc A n c p E2 ly.length k2 X hd HV.out.dl (RdI.mv HV.out.dr hb))
      go_region_held3 (fun X => X.cell? ⟨z, 0, none⟩ = some (.int .i64 p.id.1) ∧ X.cell? ⟨z, 1, none⟩ = some (.int .i64 p.id.2) ∧ X.cell? ⟨z, 2, none⟩ = some (.slice D dn dc) ∧ X.cell? ⟨z, 3, none⟩ = some (strV p.txt) ∧ X.cell? ⟨z, 4, none⟩ = some (.slice A n c) ∧ X.cell? ⟨z + 1, 0, none⟩ = some (.int .i64 q.id.1) ∧ X.cell? ⟨z + 1, 1, none⟩ = some (.int .i64 q.id.2) ∧ X.cell? ⟨z + 1, 2, none⟩ = some (.slice D' dn' dc') ∧ X.cell? ⟨z + 1, 3, none⟩ = some (strV q.txt) ∧ X.cell? ⟨z + 1, 4, none⟩ = some (.slice A' n' c'))
        (first | (with_reducible exact HKD.out) | (with_reducible exact hS5) | (with_reducible exact hS6) | (with_reducible exact HKA.out) | (with_reducible exact HKB.out))
        (first
          | (go_at_call 32; (with_reducible refine (PX.out w3.drew HD.out).mono ?_); rintro e w5 ⟨D5, c5, rfl, hk5, hr5, hb5⟩; have hbu := HD.out.trans (hb5.mono HD.out.size); have hS5 := HC.out w5 hbu; have HU5 := Lib.hid hbu; have HR5 := Lib.hid hr5; have HK5 := Lib.hid hk5; clear hb5 hbu hr5 hk5)
          | (go_at_call 32; (with_reducible refine (PY.out w5 HU5.out).mono ?_); rintro e w6 ⟨D6, c6, rfl, hk6, hr6, hb6⟩; have hbu := HU5.out.trans (hb6.mono HU5.out.size); have hS6 := HC.out w6 hbu; have HU6 := Lib.hid hbu; have HB6 := Lib.hid hb6; have HR6 := Lib.hid hr6; have HK6 := Lib.hid hk6;
              have B0 := HB0.out.below hbu HB0.out.lt; have B1 := HB1.out.below hbu HB1.out.lt; have B2 := HB2.out.below hbu HB2.out.lt; have B3 := HB3.out.below hbu HB3.out.lt;
              have HKA := Lib.hid (HSB.out _ (blk_set5 B0 (show z ≠ z + 1 + 1 by omega) (.int .i64 q.id.1) (.int .i64 q.id.2) (.slice D5 dn' c5) (strV q.txt) (.slice E1 lx.length k1)) (blk_set5 B1 (show z + 1 ≠ z + 1 + 1 by omega) (.int .i64 q.id.1) (.int .i64 q.id.2) (.slice D5 dn' c5) (strV q.txt) (.slice E1 lx.length k1)));
              have HKB := Lib.hid (HSB.out _ (blk_set5 (blk_set5 B0 (show z ≠ z + 1 + 1 by omega) (.int .i64 q.id.1) (.int .i64 q.id.2) (.slice D5 dn' c5) (strV q.txt) (.slice E1 lx.length k1)) (show z ≠ z + 1 + 1 + 1 by omega) (.int .i64 p.id.1) (.int .i64 p.id.2) (.slice D6 dn c6) (strV p.txt) (.slice E2 ly.length k2)) (blk_set5 (blk_set5 B1 (show z + 1 ≠ z + 1 + 1 by omega) (.int .i64 q.id.1) (.int .i64 q.id.2) (.slice D5 dn' c5) (strV q.txt) (.slice E1 lx.length k1)) (show z + 1 ≠ z + 1 + 1 + 1 by omega) (.int .i64 p.id.1) (.int .i64 p.id.2) (.slice D6 dn c6) (strV p.txt) (.slice E2 ly.length k2)));
              have HB2' := Lib.hid B2; have HB3' := Lib.hid B3;
              have r0 := B2.cell 0 rfl; have r1 := B2.cell 1 rfl; have r2 := B2.cell 2 rfl; have r3 := B2.cell 3 rfl; have r4 := B2.cell 4 rfl;
              have s0 := B3.cell 0 rfl; have s1 := B3.cell 1 rfl; have s2 := B3.cell 2 rfl; have s3 := B3.cell 3 rfl; have s4 := B3.cell 4 rfl;
              have f0 := B2.frozen 0; have f1 := B2.frozen 1; have f2 := B2.frozen 2; have f3 := B2.frozen 3; have f4 := B2.frozen 4;
              have g0 := B3.frozen 0; have g1 := B3.frozen 1; have g2 := B3.frozen 2; have g3 := B3.frozen 3; have g4 := B3.frozen 4;
              have l2 := B2.lt; have l3 := B3.lt; clear hb6 hbu hr6 hk6 B0 B1 B2 B3))
      have hsz : w.heap.size = z := HZ.out
      have hz3 : z + 4 ≤ w3.heap.size := by have := HB3.out.lt; omega
      have h56 : w5.heap.size ≤ w6.heap.size := HB6.out.size
      have h35 : w3.heap.size ≤ w5.heap.size := HU5.out.size
      have hT := two5 HB2'.out HB3'.out (below_mv HBW.out HU6.out) (show w.heap.size ≤ z + 1 + 1 by omega) (.int .i64 q.id.1) (.int .i64 q.id.2) (.slice D5 dn' c5) (strV q.txt) (.slice E1 lx.length k1) (.int .i64 p.id.1) (.int .i64 p.id.2) (.slice D6 dn c6) (strV p.txt) (.slice E2 ly.length k2)
      clear r0 r1 r2 r3 r4 s0 s1 s2 s3 s4 f0 f1 f2 f3 f4 g0 g1 g2 g3 g4 x4 y4 l0 l1 l2 l3 x0 x1 x2 x3 y0 y1 y2 y3 hS5 hS6 HKA HKB HSB HC HKD PX PY
      go_wp2_with fail
      generalize (World.setCell (World.setCell (World.setCell (World.setCell (World.setCell (World.setCell (World.setCell (World.setCell (World.setCell (World.setCell w6 ⟨z + 1 + 1, 0, none⟩ (.int .i64 q.id.1)) ⟨z + 1 + 1, 1, none⟩ (.int .i64 q.id.2)) ⟨z + 1 + 1, 2, none⟩ (.slice D5 dn' c5)) ⟨z + 1 + 1, 3, none⟩ (strV q.txt)) ⟨z + 1 + 1, 4, none⟩ (.slice E1 lx.length k1)) ⟨z + 1 + 1 + 1, 0, none⟩ (.int .i64 p.id.1)) ⟨z + 1 + 1 + 1, 1, none⟩ (.int .i64 p.id.2)) ⟨z + 1 + 1 + 1, 2, none⟩ (.slice D6 dn c6)) ⟨z + 1 + 1 + 1, 3, none⟩ (strV p.txt)) ⟨z + 1 + 1 + 1, 4, none⟩ (.slice E2 ly.length k2)) = w9 at *
      obtain ⟨t1, t2, t3, t4, t5⟩ := hT
      have u0 := t1.cell 0 rfl; have u1 := t1.cell 1 rfl; have u2 := t1.cell 2 rfl; have u3 := t1.cell 3 rfl; have u4 := t1.cell 4 rfl
      have v0 := t2.cell 0 rfl; have v1 := t2.cell 1 rfl; have v2 := t2.cell 2 rfl; have v3 := t2.cell 3 rfl; have v4 := t2.cell 4 rfl
      have hv := HV.out; have hv' := HV'.out
      obtain ⟨k4, k5⟩ := passL_len passP (outF_of HOL.out HBL.out)
      have hv0 := HV.out.l; have hv1 := HV'.out.l
      have key : ∀ b, (z + 4 ≤ b ∧ b < w6.heap.size) → b ≠ z + 1 + 1 ∧ b ≠ z + 1 + 1 + 1 := fun b hb => by omega
      have up : ∀ b, (z + 4 ≤ b ∧ b < w6.heap.size) → Since w w9 b := fun b hb => ⟨by omega, by omega⟩
      have a3 : Below w3.heap.size w3 w6 := HU6.out
      have l1 := (((HR1.out.to ((alike_below a3).mono fun b hb => hb.2)).mono fun b hb => (⟨hb.1, by have := hb.2; omega⟩ : z + 4 ≤ b ∧ b < w6.heap.size)).to (t5.mono key)).mono up
      have l2 := (((HR2.out.to ((alike_below a3).mono fun b hb => hb.2)).mono fun b hb => (⟨hb.1, by have := hb.2; omega⟩ : z + 4 ≤ b ∧ b < w6.heap.size)).to (t5.mono key)).mono up
      have hd1 : w3.drew.heap.size = w3.heap.size := rfl
      have d5 := (((HR5.out.to ((alike_below HB6.out).mono fun b hb => hb.2)).mono fun b hb => (⟨by have := hb.1; omega, by have := hb.2; omega⟩ : z + 4 ≤ b ∧ b < w6.heap.size)).to (t5.mono key)).mono up
      have d6 := ((HR6.out.mono fun b hb => (⟨by have := hb.1; omega, hb.2⟩ : z + 4 ≤ b ∧ b < w6.heap.size)).to (t5.mono key)).mono up
      refine bodyPost_ret (v := .tuple #[.agg #[.int .i64 q.id.1, .int .i64 q.id.2, .slice D5 dn' c5, strV q.txt, .slice E1 lx.length k1], .agg #[.int .i64 p.id.1, .int .i64 p.id.2, .slice D6 dn c6, strV p.txt, .slice E2 ly.length k2], .bool true]) (by simp [results, Tryz.results16, go_sem, u0, u1, u2, u3, u4, v0, v1, v2, v3, v4]) rfl ?_
      have ho := HO.out
      have hs := HS.out
      rw [HE.out] at ho hs
      injection ho with e1 e2
      subst e1 e2 hs
      refine ⟨D5, dn', c5, E1, lx.length, k1, D6, dn, c6, E2, ly.length, k2, rfl, ⟨hv'.dl, HK5.out, hv'.dm, d5, hv'.tm, rfl, HK1.out, by unfold maxLen; omega, l1⟩, ⟨hv.dl, HK6.out, hv.dm, d6, hv.tm, rfl, HK2.out, by unfold maxLen; omega, l2⟩, t3⟩

end Tg
end Go.Proofs.YtfnhjflocfmcoaaGreat

set_option maxRecDepth 100000
namespace Go.Proofs.YtfnhjflocfmcoaaGreat
open Go.RowKit Go.Shelf
set_option linter.unusedVariables false
namespace Tg
open Tx Rg Fl Pn
attribute [local go_sem] Oper.semAt_some

section
variable {Bs m : Nat} {A : Option Addr}
end

/-- What is handed over. -/
def EN (m : Nat) (A : Option Addr) (i : Nat) (vals : Array Value) (W : World) : Prop := i < m ∧ ∃ a v0 v1 v2 v3 v4, A = some a ∧ vals = #[.int .i64 (i : Int), .agg #[v0, v1, v2, v3, v4]] ∧
  W.cell? (a.add (i * 5)) = some v0 ∧ W.cell? ⟨(a.add (i * 5)).block, (a.add (i * 5)).off + 1, none⟩ = some v1 ∧ W.cell? ⟨(a.add (i * 5)).block, (a.add (i * 5)).off + 2, none⟩ = some v2 ∧
  W.cell? ⟨(a.add (i * 5)).block, (a.add (i * 5)).off + 3, none⟩ = some v3 ∧ W.cell? ⟨(a.add (i * 5)).block, (a.add (i * 5)).off + 4, none⟩ = some v4

end Tg
end Go.Proofs.YtfnhjflocfmcoaaGreat

set_option maxRecDepth 100000
namespace Go.Proofs.YtfnhjflocfmcoaaGreat
open Go.RowKit Go.Shelf
set_option linter.unusedVariables false
set_option linter.unusedSimpArgs false
namespace Tg
open Tx Df Sq Hk Tr Pr Rg Fl Pn

abbrev noC : Array Value := #[.int .i64 0, .int .i64 0, .slice none 0 0, .string ⟨#[]⟩, .slice none 0 0]
/-- What there was ahead of Over, and the blocks that it keeps for itself: boxes, the first one's box, the row, the row's box. -/
def OvR (z F g : Nat) : Nat → Prop := fun b => b < z + 4 ∨ b = F ∨ b = g ∨ b = g + 1
theorem passN_lt {p q x y : Nm} (h : passN p q = some (x, y)) (hp : Lt p.l) (hq : Lt q.l) : Lt x.l ∧ Lt y.l := passF_lt (passN_inv h).2.1 hp hq
/-- What is told lies at places that patches may have. -/
structure OvI (w : World) (z F g n : Nat) (A : Option Addr) (l : List Nm) (q : Nm) (dn m j : Nat) (x : Nm) (post : List Nm) (D : Option Addr) (dc : Nat) (E : Option Addr) (k : Nat) (W : World) : Prop where
  pos : w.heap.size = z ∧ z + 4 ≤ F ∧ F < g
  eq : overN (l.drop j) q = some (x, post)
  lx : Lt x.l
  row : OwnT W (But W (OvR z F g)) w.heap.size (.slice (some ⟨g, 0, none⟩) n n) (List.replicate j noN ++ post)
  ng : NG W (But W (OvR z F g)) D dn dc E m k x
  bf : Blk W F 41 (nmC x D dn dc E m k)
  r0 : Blk W (z + 1) 41 noC
  r1 : Blk W (z + 1 + 1) 22 #[.slice none 0 0]
  r2 : Blk W (z + 1 + 1 + 1) 4 #[.bool false]
  bb : Blk W (g + 1) 22 #[.slice (some ⟨g, 0, none⟩) n n]
  ls : RdN W z A l
  fr : Below w.heap.size w W
section
variable {W W' : World} {B : Nat} {A D E : Option Addr} {dn dc n c : Nat} {p : Nm} {l : List Nm}
theorem NV.kc_ (h : NV W B D dn dc A n c p) (hk : KeepC (fun _ => True) W W') : NV W' B D dn dc A n c p := ((ng_of h).kc fun b c t f _ hb => hk b c t f trivial hb).nv
theorem RdN.kc_ (h : RdN W B A l) (hk : KeepC (fun _ => True) W W') : RdN W' B A l := h.imp id fun ⟨a, e, h1, h2⟩ => ⟨a, e, h1, fun k x hx => by
  obtain ⟨c0, c1, c3, D, dn, dc, A, n, c, c2, c4, c5⟩ := h2 k x hx
  exact ⟨hk.cell trivial c0, hk.cell trivial c1, hk.cell trivial c3, D, dn, dc, A, n, c, hk.cell trivial c2, hk.cell trivial c4, NV.kc_ c5 hk⟩⟩
end
section
variable {w : World} {z F g n B : Nat} {A : Option Addr} {l : List Nm} {q : Nm} {dn m : Nat}
end
theorem EN.rd {X : World} {B n i : Nat} {A : Option Addr} {l : List Nm} {vals : Array Value} (h : EN n A i vals X) (hr : RdN X B A l) (hl : l.length = n) :
    ∃ p D dn dc E m k, l[i]? = some p ∧ vals = #[.int .i64 (i : Int), .agg (nmC p D dn dc E m k)] ∧ NV X B D dn dc E m k p := by
  obtain ⟨hi, a, v0, v1, v2, v3, v4, rfl, rfl, c0, c1, c2, c3, c4⟩ := h
  obtain ⟨a', p, D, dn, dc, E, m, k, e, _, hp, g0, g1, g2, g3, g4, hv⟩ := hr.elem (k := i) (by omega)
  injection e with e
  subst e
  have e0 := Option.some.inj (c0.symm.trans g0)
  have e1 := Option.some.inj (c1.symm.trans g1)
  have e2 := Option.some.inj (c2.symm.trans g2)
  have e3 := Option.some.inj (c3.symm.trans g3)
  have e4 := Option.some.inj (c4.symm.trans g4)
  subst e0 e1 e2 e3 e4
  exact ⟨p, D, dn, dc, E, m, k, hp, rfl, hv⟩
section
variable {w W W' X : World} {r : Option Nat} {B b g k : Nat} {v0 v1 v2 v3 v4 : Value}
end
theorem OvI.mv {w W W' : World} {z F g n : Nat} {A : Option Addr} {l : List Nm} {q : Nm} {dn m j : Nat} {x : Nm} {post : List Nm} {D : Option Addr} {dc : Nat} {E : Option Addr} {k : Nat} (h : OvI w z F g n A l q dn m j x post D dc E k W) (hb : Below W.heap.size W W') : OvI w z F g n A l q dn m j x post D dc E k W' :=
  ⟨h.pos, h.eq, h.lx, (h.row.below hb).mono (but_up hb.size), (h.ng.to_ (fun b _ hl => hb.block b hl)).mono (but_up hb.size), h.bf.below hb h.bf.lt, h.r0.below hb h.r0.lt, h.r1.below hb h.r1.lt, h.r2.below hb h.r2.lt, h.bb.below hb h.bb.lt, h.ls.below (hb.mono (by have := h.pos; have := h.r0.lt; omega)), below_mv h.fr hb⟩

end Tg
end Go.Proofs.YtfnhjflocfmcoaaGreat

set_option maxRecDepth 100000
namespace Go.Proofs.YtfnhjflocfmcoaaGreat
open Go.RowKit
set_option linter.unusedVariables false
set_option linter.unusedSimpArgs false
namespace Tg
open Tx Df Sq Hk Tr Pr Fl Pn

instance : DecidableEq Nm := fun p q => decidable_of_iff (sameN p q = true) sameN_iff
end Tg
end Go.Proofs.YtfnhjflocfmcoaaGreat

set_option maxRecDepth 100000
namespace Go.Proofs.YtfnhjflocfmcoaaGreat
open Go.RowKit
set_option linter.unusedVariables false
namespace Tg
open Tx Df Sq Hk Tr Pr Fl Pn

theorem lightN_lt {p : Nm} {m : Nat} (h : lightN p m = true) : Lt p.l ∧ p.l.length ≤ m ∧ p.deps.length ≤ 100 := by
  have h0 := h
  unfold lightN fewP at h
  simp only [Bool.and_eq_true, decide_eq_true_eq, List.all_eq_true] at h
  exact ⟨fun x hx => okP_light (h.1.2 x hx), h.1.1, h.2.1⟩
theorem few_all {l : List Nm} {m : Nat} (h : fewN l m = true) : ∀ p ∈ l, Lt p.l ∧ p.l.length ≤ 10 ∧ p.deps.length ≤ 100 := fun p hp => lightN_lt (fewN_all h p hp)
/-- What two patches tell. -/
theorem outN_some {o : Option (Nm × Nm)} {x y : Nm} (h : outN o = (x, y)) (hs : o.isSome = true) : o = some (x, y) := by
  cases o with
  | none => cases hs
  | some z => exact congrArg some h
theorem outN_none {o : Option (Nm × Nm)} {x y : Nm} (h : outN o = (x, y)) (hs : o.isSome = false) : x = noN ∧ y = noN := by
  cases o with
  | none => injection h with h1 h2; exact ⟨h1.symm, h2.symm⟩
  | some z => cases hs
theorem noN_lt : Lt noN.l := fun x hx => by cases hx
/-- What is told is of few changes, and light. -/
theorem out_few {p q x y : Nm} {bo : Bool} (ho : outN (passN p q) = (x, y)) (hs : (passN p q).isSome = bo) (hp : Lt p.l ∧ p.l.length ≤ 10 ∧ p.deps.length ≤ 100) (hq : Lt q.l ∧ q.l.length ≤ 10 ∧ q.deps.length ≤ 100) :
    (Lt x.l ∧ x.l.length ≤ 10 ∧ x.deps.length ≤ 100) ∧ (Lt y.l ∧ y.l.length ≤ 10 ∧ y.deps.length ≤ 100) := by
  cases bo with
  | false =>
    obtain ⟨rfl, rfl⟩ := outN_none ho hs
    exact ⟨⟨noN_lt, Nat.zero_le _, Nat.zero_le _⟩, noN_lt, Nat.zero_le _, Nat.zero_le _⟩
  | true =>
    have h := outN_some ho hs
    obtain ⟨⟨_, a2, _, a4⟩, _, b2, _, b4⟩ := passN_keeps h
    obtain ⟨l1, l2⟩ := passN_lt h hp.1 hq.1
    exact ⟨⟨l1, by rw [a4]; exact hq.2.1, by rw [a2]; exact hq.2.2⟩, l2, by rw [b4]; exact hp.2.1, by rw [b2]; exact hp.2.2⟩

end Tg
end Go.Proofs.YtfnhjflocfmcoaaGreat

set_option maxRecDepth 100000
namespace Go.Proofs.YtfnhjflocfmcoaaGreat
open Go.RowKit
set_option linter.unusedVariables false
namespace Bm
open Tx Df Sq Hk Tr Pr Fl Pn Tg

/-- Origins of light patches are few. -/
theorem org_small {l : List Nm} {r : Int × OR} (hlt : Lt (allN l)) (hle : (allN l).length ≤ 150) (h : orgR l = r) : r.2.length ≤ 150 ∧ ∀ x ∈ r.2, x.2.length ≤ 50000 := by
  subst h
  unfold orgR
  cases hc : orgN ([], []) l with
  | none => exact ⟨Nat.zero_le _, fun x hx => by cases hx⟩
  | some u =>
    obtain ⟨t, o⟩ := u
    have hlen := tagA_len l
    have hL : Like t o := doB_like like_nil hc
    have hM := most_B most_nil (tagA_lt hlt) (by omega) (by omega) hc
    have h1 := (like_at hL).1
    have h2 : t.length ≤ _ := hM.k
    refine ⟨by show o.length ≤ 150; omega, fun x hx => ?_⟩
    obtain ⟨i, hi⟩ := List.getElem?_of_mem (show x ∈ o from hx)
    have hi2 := (List.getElem?_eq_some_iff.1 hi).1
    have hti : i < t.length := by omega
    obtain ⟨g, hg, _, hl, _⟩ := (like_at hL).2 i (t[i]'hti) (List.getElem?_eq_getElem hti)
    rw [hi] at hg
    injection hg with hg
    subst hg
    have hmem : t[i]'hti ∈ t := List.getElem_mem hti
    have h3 : (t[i]'hti).2.length ≤ _ := hM.l _ hmem
    omega
theorem refSelfB (A A' : Option Addr) (n c c' : Nat) (o : OR) (w : World) (hn : o.length = n) (hln : n ≤ 100000) (hm : ∀ x ∈ o, x.2.length ≤ 1000000) (hR : RdO w (· < w.heap.size) A o) (hR' : RdO w (· < w.heap.size) A' o) :
    Calls Tryz.prog 11 #[.slice A n c, .slice A' n c'] w (BoolEnd w true) := by
  have h := refSameB A A' n c n c' o o w hn hn hln hm hR hR'
  rwa [decide_eq_true rfl] at h

end Bm
end Go.Proofs.YtfnhjflocfmcoaaGreat

set_option maxRecDepth 100000
namespace Go.Proofs.YtfnhjflocfmcoaaGreat
namespace Bm
open Tx Sq Hk Tr Pr Fl Pn
set_option linter.unusedVariables false

/-- How many births there are. -/
def sumO : OR → Nat
  | [] => 0
  | x :: o => x.2.length + sumO o
theorem sum_flat : ∀ (o : OR), (o.flatMap (·.2)).length = sumO o
  | [] => rfl
  | x :: o => by rw [List.flatMap_cons, List.length_append, sum_flat o]; rfl
theorem sum_del (s : List UInt8) : ∀ (o : OR), sumO (del o s) + ((get o s).getD []).length = sumO o
  | [] => rfl
  | x :: o => by
    rw [get_cons]
    unfold del
    by_cases e : x.1 = s
    · rw [if_pos e, if_pos e]
      show sumO o + x.2.length = x.2.length + sumO o
      omega
    · rw [if_neg e, if_neg e]
      have := sum_del s o
      show x.2.length + sumO (del o s) + _ = x.2.length + sumO o
      omega
theorem sum_upd (s : List UInt8) (b : List Bi) : ∀ {o : OR} {m : List Bi}, get o s = some m → sumO (upd o s b) + m.length = sumO o + b.length
  | [], m, h => by cases h
  | x :: o, m, h => by
    rw [get_cons] at h
    unfold upd
    by_cases e : x.1 = s
    · rw [if_pos e] at h ⊢
      injection h with h
      subst h
      show b.length + sumO o + x.2.length = x.2.length + sumO o + b.length
      omega
    · rw [if_neg e] at h ⊢
      have := sum_upd s b h
      show x.2.length + sumO (upd o s b) + _ = x.2.length + sumO o + _
      omega
theorem sum_ins (s : List UInt8) (b : List Bi) : ∀ (o : OR), sumO (ins lt o s b) = sumO o + b.length
  | [] => by show b.length + 0 = 0 + b.length; omega
  | x :: o => by
    unfold ins
    split
    · show b.length + (x.2.length + sumO o) = x.2.length + sumO o + b.length
      omega
    · have := sum_ins s b o
      show x.2.length + sumO (ins lt o s b) = x.2.length + sumO o + b.length
      omega
theorem sum_put (o : OR) (s : List UInt8) (b : List Bi) : sumO (put lt o s b) + ((get o s).getD []).length = sumO o + b.length := by
  unfold put
  cases h : get o s with
  | none => exact sum_ins s b o
  | some m => exact sum_upd s b h
theorem born_le (a : Tag) (p : Ch) (m : List Bi) : (born a p m).length ≤ m.length + p.h.new.length := by
  unfold born swp
  simp only [List.length_append, List.length_take, List.length_drop, births_len]
  omega
theorem sum_one (o : OR) (a : Tag) (p : Ch) : sumO (oneB o a p) ≤ sumO o + p.h.new.length := by
  unfold oneB
  split
  · have := sum_put o p.nm []
    simp only [List.length_nil] at this
    omega
  · split
    · have := sum_del p.nm o
      omega
    · split
      · have h1 := sum_put (del o p.nm) p.to ((get o p.nm).getD [])
        have h2 := sum_del p.nm o
        omega
      · have h1 := sum_put o p.nm (born a p ((get o p.nm).getD []))
        have h2 := born_le a p ((get o p.nm).getD [])
        omega
theorem sum_B : ∀ {T : List Tc} {s u : TR × OR}, (∀ c ∈ T, lightP c.2 = true) → doL dB s T = some u → sumO u.2 ≤ sumO s.2 + 300 * T.length
  | [], s, u, _, h => by
    injection h with h
    rw [← h]
    exact Nat.le_add_right _ _
  | c :: T, s, u, hl, h => by
    obtain ⟨v, g1, g2⟩ := doL_cons_inv dB h
    obtain ⟨_, g4⟩ := dB_some.1 (show dB s c = some (v.1, v.2) from g1)
    have h1 := sum_one s.2 c.1 c.2
    rw [← g4] at h1
    have h2 := sum_B (fun d hd => hl d (.tail _ hd)) g2
    have h3 := lightP_h (hl c (.head _))
    rw [List.length_cons]
    omega
/-- Births in all, of light patches. -/
theorem org_sum {l : List Nm} {er : Int} {o : OR} (hlt : Lt (allN l)) (h : orgR l = (er, o)) : (o.flatMap (·.2)).length ≤ 300 * (allN l).length := by
  unfold orgR at h
  rw [sum_flat]
  cases hc : orgN ([], []) l with
  | none =>
    rw [hc] at h
    injection h with _ h
    rw [← h]
    exact Nat.zero_le _
  | some u =>
    rw [hc] at h
    injection h with _ h
    have h1 := sum_B (tagA_lt hlt) hc
    rw [tagA_len] at h1
    rw [← h]
    have h2 : sumO (([], []) : TR × OR).2 = 0 := rfl
    omega
theorem orgR_once {l : List Nm} {er : Int} {o : OR} (hn : (l.map (·.id)).Nodup) (h : orgR l = (er, o)) : (o.flatMap (·.2)).Nodup := by
  unfold orgR at h
  cases hc : orgN ([], []) l with
  | none =>
    rw [hc] at h
    injection h with _ h
    rw [← h]
    exact List.nodup_nil
  | some u =>
    rw [hc] at h
    injection h with _ h
    rw [← h]
    exact org_once (u := u.1) hn hc
/-- Where an id is found. -/
theorem find_iff {l : List Nm} {x : Id_} : 0 ≤ findN l x ↔ x ∈ l.map (·.id) := by
  unfold findN
  cases h : l.findIdx? (fun p => decide (p.id = x)) with
  | none =>
    rw [List.findIdx?_eq_none_iff] at h
    constructor
    · intro h0
      exact absurd h0 (by decide)
    · intro h0
      obtain ⟨p, hp, e⟩ := List.mem_map.1 h0
      have := h p hp
      rw [decide_eq_false_iff_not] at this
      exact absurd e this
  | some i =>
    constructor
    · intro _
      obtain ⟨hi, h1, _⟩ := List.findIdx?_eq_some_iff_getElem.1 h
      exact List.mem_map.2 ⟨_, List.getElem_mem hi, of_decide_eq_true h1⟩
    · intro _
      exact Int.natCast_nonneg i
/-- One patch more, whose id is not there. -/
theorem ids_next {l : List Nm} {k : Nat} {x : Nm} (hx : l[k]? = some x) (hn : ((l.take k).map (·.id)).Nodup) (hf : ¬ 0 ≤ findN (l.take k) x.id) : ((l.take (k + 1)).map (·.id)).Nodup := by
  rw [take_at hx, List.map_append, List.nodup_append]
  refine ⟨hn, by simp, fun y hy z hz e => hf (find_iff.2 ?_)⟩
  rw [← List.mem_singleton.1 (show z ∈ [x.id] from hz), ← e]
  exact hy
/-- Births, file by file: one file more. -/
theorem flat_next {o : OR} {k : Nat} {x : List UInt8 × List Bi} (hx : o[k]? = some x) : (o.take (k + 1)).flatMap (·.2) = (o.take k).flatMap (·.2) ++ x.2 := by
  rw [take_at hx, List.flatMap_append]
  simp
theorem flat_le {o : OR} {k : Nat} : ((o.take k).flatMap (·.2)).length ≤ (o.flatMap (·.2)).length := by
  have h : o.flatMap (·.2) = (o.take k).flatMap (·.2) ++ (o.drop k).flatMap (·.2) := by rw [← List.flatMap_append, List.take_append_drop]
  rw [h, List.length_append]
  omega
theorem nodup_ne {α : Type} {l : List α} {i j : Nat} {a b : α} (h : l.Nodup) (hi : l[i]? = some a) (hj : l[j]? = some b) (hij : i < j) : a ≠ b := fun e => by
  subst e
  obtain ⟨h1, h2⟩ := List.getElem?_eq_some_iff.1 hi
  obtain ⟨h3, h4⟩ := List.getElem?_eq_some_iff.1 hj
  have := (List.nodup_iff_pairwise_ne.1 h)
  exact (List.pairwise_iff_getElem.1 this i j h1 h3 hij) (by rw [h2, h4])

end Bm
end Go.Proofs.YtfnhjflocfmcoaaGreat

set_option maxRecDepth 100000
namespace Go.Proofs.YtfnhjflocfmcoaaGreat
open Go.RowKit
set_option linter.unusedVariables false
set_option linter.unusedSimpArgs false
open Tr Tx Hk Pr Fl Pn Tg Bm
namespace BmL
attribute [local go_sem] eq_id eq_bi

theorem cellK {W X : World} {p : Addr} {u : Value} (hc : W.cell? p = some u) (hb : Below W.heap.size W X) : X.cell? p = some u := cellB hc hb (World.block_lt_of_cell? W _ hc)

set_option maxRecDepth 100000 in
set_option maxHeartbeats 8000000 in
theorem blameLines_walk (A_l : Option Addr) (n_l c_l : Nat) (l : List Nm) (w : World) (h_l : NmsArg w A_l n_l c_l l) :
    Calls Tryz.prog 4 #[.slice A_l n_l c_l] w (LawEnd w) := by
  have HR_l := Lib.hid h_l.rd; have HN_l := Lib.hid h_l.len; have HC_l := Lib.hid h_l.cap; have HM_l := Lib.hid h_l.le
  clear h_l
  have HB := Lib.hid (Below.refl w.heap.size w)
  go_enter Tryz.func4, Tryz.ntmps4
  go_wp2_with fail
  refine (Bm.awake w).mono ?_
  rintro e w_1 ⟨rfl, hb⟩
  replace HR_l := Lib.hid (RdN.mv HR_l.out hb)
  replace HB := Lib.hid (below_mv HB.out hb)
  clear hb
  obtain ⟨bl_l, hbl⟩ : ∃ bb, fewN l 8 = bb := ⟨_, rfl⟩
  have HBL_l := Lib.hid hbl; clear hbl
  go_wp2_with fail
  refine (FewN A_l n_l c_l 8 l w_1 bl_l (by decide) ⟨HN_l.out, HC_l.out, HM_l.out, HR_l.out⟩ HBL_l.out).mono ?_
  rintro e w_2 ⟨rfl, hb⟩
  replace HR_l := Lib.hid (RdN.mv HR_l.out hb)
  replace HB := Lib.hid (below_mv HB.out hb)
  clear hb
  cases bl_l with
  | false =>
    go_wp2
    go_ret
    exact ⟨rfl, HB.out⟩
  | true =>
  have HQ_l : Hid (n_l ≤ 8) := Lib.hid (by have h1 := fewN_len HBL_l.out; rw [HN_l.out] at h1; exact h1)
  have HL_l := Lib.hid (few_all HBL_l.out)
  have HT_l : Hid ((allN l).length ≤ 80 ∧ Lt (allN l)) := Lib.hid (by
    obtain ⟨h1, h2⟩ := allN_few (fewN_all HBL_l.out)
    have h3 := fewN_len HBL_l.out
    exact ⟨by omega, h2⟩)
  go_wp2_with fail
  go_loopw [5] (fun i wr => ∃ k : Nat, k ≤ n_l ∧ i = .int .i64 (k : Int) ∧ ((l.take k).map (·.id)).Nodup ∧ Below w_2.heap.size w_2 wr) (fun i _ => n_l - (intOf i).toNat)
  case atStart => exact ⟨0, Nat.zero_le _, rfl, by simp, Below.refl _ _⟩
  case round =>
    obtain ⟨k, hk, rfl, hall, hb⟩ := hrel
    have HA := Lib.hid hall; have HBR := Lib.hid hb; clear hall
    replace HR_l := Lib.hid (RdN.mv HR_l.out hb)
    replace HB := Lib.hid (below_mv HB.out hb)
    clear hb
    by_cases hlt : k < n_l
    case pos =>
      have hql := HQ_l.out
      have hki : (k : Int) < (n_l : Int) := by omega
      have hki0 : (0 : Int) ≤ (k : Int) := by omega
      have hkc : k ≤ c_l := by have := HC_l.out; omega
      obtain ⟨a, x, D, i, j, E, m, d, ha, hS, hx, c0, c1, c2, c3, c4, c5⟩ := HR_l.out.elem (k := k) (by rw [HN_l.out]; exact hlt)
      subst ha
      have HX := Lib.hid hx
      obtain ⟨f, hf⟩ : ∃ f, findN (l.take k) x.id = f := ⟨_, rfl⟩
      have HF := Lib.hid hf
      have HC : Hid (∀ X, Below wr.heap.size wr X → X.cell? (a.add (k * 5)) = some (.int .i64 x.id.1) ∧ X.cell? ⟨(a.add (k * 5)).block, (a.add (k * 5)).off + 1, none⟩ = some (.int .i64 x.id.2)) := Lib.hid (fun X hb => ⟨cellB c0 hb (by rw [add_block]; exact hS), cellB c1 hb (by rw [add_block]; exact hS)⟩)
      have HD := Lib.hid (show Below wr.heap.size wr wr.drew from below_drewN (Below.refl _ _) 1)
      have HKD := Lib.hid (HC.out wr.drew HD.out)
      have PF := Lib.hid (hf ▸ FindN x.id (some a) k c_l (l.take k) wr.drew (by rw [List.length_take, HN_l.out]; omega) (by have := HQ_l.out; omega) (RdN.mv (HR_l.out.take k) HD.out))
      clear hx hf c0 c1 c2 c3 c4 c5
      go_upto_region 8 with fail
      go_region_held3 (fun X => X.cell? (a.add (k * 5)) = some (.int .i64 x.id.1) ∧ X.cell? ⟨(a.add (k * 5)).block, (a.add (k * 5)).off + 1, none⟩ = some (.int .i64 x.id.2))
        (first | (with_reducible exact HKD.out) | (with_reducible exact hS1))
        (first
          | (go_at_call 14; (with_reducible refine (PF.out).mono ?_); rintro e u1 ⟨rfl, hb⟩; have hb2 := below_mv HD.out hb; have hS1 := HC.out u1 hb2; have HU := Lib.hid hb2; clear hb hb2))
      all_goals
        by_cases h0 : 0 ≤ f
        · have e1 : decide (0 ≤ f) = true := decide_eq_true h0
          have e2 : decide (f < 0) = false := decide_eq_false (by omega)
          go_wp2
          go_ret
          exact ⟨rfl, below_mv HB.out HU.out⟩
        · have e1 : decide (0 ≤ f) = false := decide_eq_false h0
          have e2 : decide (f < 0) = true := decide_eq_true (by omega)
          go_wp2
          refine ⟨⟨k + 1, by omega, by go_num, ids_next HX.out HA.out (by rw [HF.out]; exact h0), below_mv HBR.out HU.out⟩, by simp [intOf]; omega⟩
    have hki : ¬ (k : Int) < (n_l : Int) := by omega
    have HND : Hid ((l.map (·.id)).Nodup) := Lib.hid (by have h := HA.out; rwa [List.take_of_length_le (by rw [HN_l.out]; omega)] at h)
    clear HA HBR
    obtain ⟨⟨er, t⟩, hD⟩ : ∃ z, doN [] l = z := ⟨_, rfl⟩
    have HD := Lib.hid hD
    clear hD
    go_wp2_with fail
    refine (ApplyN 0 0 none 0 0 A_l n_l c_l [] l wr (er, t) most_nil (by decide) (by decide) rfl HN_l.out (by have := HQ_l.out; omega) (by have := HT_l.out.1; omega) HT_l.out.2 (.inl rfl) HR_l.out HD.out).mono ?_
    rintro e w_3 ⟨A_t, n_t, c_t, rfl, hc1, hn1, hr1, hb⟩
    dsimp only at hn1 hr1 ⊢
    have HN_t := Lib.hid hn1; have HC_t := Lib.hid hc1; have HR_t := Lib.hid hr1
    clear hn1 hc1 hr1
    replace HR_l := Lib.hid (RdN.mv HR_l.out hb)
    replace HB := Lib.hid (below_mv HB.out hb)
    clear hb
    by_cases h0 : er = 0
    case neg =>
      have HOR : Hid (orgR l = (er, [])) := Lib.hid (by rw [orgR_no (by rw [HD.out]; exact h0), HD.out])
      have h1 : (er == 0) = false := by rw [beq_eq_false_iff_ne]; exact h0
      have h2 : (er != 0) = true := by rw [bne_iff_ne]; exact h0
      have h3 : (er == er) = true := by simp
      go_wp2_with fail
      refine (OrgsC A_l n_l c_l l w_3 HN_l.out (by have := HQ_l.out; omega) (by have := HT_l.out.1; omega) HT_l.out.2 HR_l.out er [] HOR.out).mono ?_
      rintro e w_4 ⟨A_a, n_a, c_a, rfl, hn1, hc1, hr1, hb⟩
      dsimp only at hn1 hr1 ⊢
      have HN_a := Lib.hid hn1; have HC_a := Lib.hid hc1; have HR_a := Lib.hid hr1
      clear hn1 hc1 hr1
      replace HR_l := Lib.hid (RdN.mv HR_l.out hb)
      replace HR_t := Lib.hid (HR_t.out.mv hb)
      replace HB := Lib.hid (below_mv HB.out hb)
      clear hb
      obtain rfl : 0 = n_a := HN_a.out
      clear h0
      go_wp2
      go_ret
      exact ⟨rfl, HB.out⟩
    subst h0
    obtain ⟨o, ho⟩ := org_of (s := ([], [])) HD.out
    have HOR := Lib.hid (orgR_yes ho)
    have hlk := org_lines HND.out ho
    have HLK := Lib.hid hlk.1
    have HLN := Lib.hid hlk.2
    have hla := like_at hlk.1
    have HLA := Lib.hid hla.2
    have HOT : Hid (o.length = t.length) := Lib.hid hla.1
    have HSO := Lib.hid (org_small HT_l.out.2 (by have := HT_l.out.1; omega) HOR.out)
    clear ho hlk hla HD
    go_wp2_with fail
    refine (OrgsC A_l n_l c_l l w_3 HN_l.out (by have := HQ_l.out; omega) (by have := HT_l.out.1; omega) HT_l.out.2 HR_l.out 0 o HOR.out).mono ?_
    rintro e w_4 ⟨A_a, n_a, c_a, rfl, hn1, hc1, hr1, hb⟩
    dsimp only at hn1 hr1 ⊢
    have HN_a := Lib.hid hn1; have HC_a := Lib.hid hc1; have HR_a := Lib.hid hr1
    clear hn1 hc1 hr1
    replace HR_l := Lib.hid (RdN.mv HR_l.out hb)
    replace HR_t := Lib.hid (HR_t.out.mv hb)
    replace HB := Lib.hid (below_mv HB.out hb)
    clear hb
    obtain rfl : n_t = n_a := by rw [← HN_t.out, ← HN_a.out]; exact HOT.out.symm
    have HNA : Hid (n_t ≤ 150) := Lib.hid (by have h1 := HSO.out.1; have h2 := HN_a.out; omega)
    have hna := HNA.out
    go_wp2_with fail
    go_loopw [10] (fun i wr => ∃ k : Nat, k ≤ n_t ∧ i = .int .i64 (k : Int) ∧ Below w_4.heap.size w_4 wr) (fun i _ => n_t - (intOf i).toNat)
    case atStart => exact ⟨0, Nat.zero_le _, rfl, Below.refl _ _⟩
    case round =>
      obtain ⟨k, hk, rfl, hb⟩ := hrel
      have HBR := Lib.hid hb
      replace HR_a := Lib.hid (RdO.mv HR_a.out hb)
      replace HR_l := Lib.hid (RdN.mv HR_l.out hb)
      replace HR_t := Lib.hid (HR_t.out.mv hb)
      replace HB := Lib.hid (below_mv HB.out hb)
      clear hb
      by_cases hlt : k < n_t
      case pos =>
        have hki : (k : Int) < (n_t : Int) := by omega
        have hki0 : (0 : Int) ≤ (k : Int) := by omega
        obtain ⟨f, hf⟩ : ∃ f, t[k]? = some f := ⟨_, List.getElem?_eq_getElem (by rw [HN_t.out]; exact hlt)⟩
        obtain ⟨g, hg, e1, e2, _, _⟩ := HLA.out k f hf
        obtain ⟨a, ha, hal, hat⟩ := HR_t.out.at_ (k := k) (by rw [HN_t.out]; exact hlt)
        rw [(List.getElem?_eq_some_iff.1 hf).2] at hat
        obtain ⟨c0, A1, c1, h1, hc1, hr1⟩ := hat
        obtain ⟨b, hb, hbl, d0, B1, cb, d1, hcb, hrb⟩ := HR_a.out.elem hg
        obtain ⟨m, hm⟩ : ∃ m, f.2.length = m := ⟨_, rfl⟩
        rw [e1] at d0
        rw [e2, hm] at d1 hcb
        rw [hm] at h1 hc1
        subst ha hb
        have HF := Lib.hid hf; have HG := Lib.hid hg; have HMF := Lib.hid hm; have HMG : Hid (g.2.length = m) := Lib.hid (by rw [e2, hm])
        have HR1 := Lib.hid hr1; have HRB := Lib.hid hrb
        have HCC := Lib.hid (show ∀ X, Below wr.heap.size wr X → X.cell? ⟨(a.add (k * 2)).block, (a.add (k * 2)).off + 1, none⟩ = some (.slice A1 m c1) ∧ X.cell? ⟨(b.add (k * 2)).block, (b.add (k * 2)).off + 1, none⟩ = some (.slice B1 m cb) from fun X hb => ⟨cellB h1 hb (by rw [add_block]; exact hal), cellB d1 hb (by rw [add_block]; exact hbl)⟩)
        have HMM : Hid (m ≤ 50000) := Lib.hid (by rw [← HMG.out]; exact HSO.out.2 g (List.mem_of_getElem? hg))
        have hmm := HMM.out
        clear hf hg e1 e2 hm hr1 hrb hcb hc1 hal hbl
        go_wp2
        go_quiet (fail)
        go_wp2_with fail
        clear c0 d0 h1 d1
        generalize wr = wi at *
        go_loopw [11] (fun j wr => ∃ q : Nat, q ≤ m ∧ j = .int .i64 (q : Int) ∧ Below wi.heap.size wi wr) (fun j _ => m - (intOf j).toNat)
        case atStart => exact ⟨0, Nat.zero_le _, rfl, below_drewN (Below.refl _ _) _⟩
        case round =>
          obtain ⟨q, hq, rfl, hb⟩ := hrel
          have HBI := Lib.hid hb
          replace HBR := Lib.hid (below_mv HBR.out hb)
          replace HCC := Lib.hid (HCC.out _ hb)
          replace HR1 := Lib.hid (rdS_mv HR1.out hb)
          replace HRB := Lib.hid ((HRB.out.to (fun b _ hl => hb.block b hl)).mono fun b h => Nat.lt_of_lt_of_le h hb.size)
          obtain ⟨x1, x2⟩ := HCC.out
          replace HR_a := Lib.hid (RdO.mv HR_a.out hb)
          replace HR_l := Lib.hid (RdN.mv HR_l.out hb)
          replace HR_t := Lib.hid (HR_t.out.mv hb)
          replace HB := Lib.hid (below_mv HB.out hb)
          clear hb
          by_cases hlq : q < m
          case pos =>
            have hqi : (q : Int) < (m : Int) := by omega
            have hqi0 : (0 : Int) ≤ (q : Int) := by omega
            obtain ⟨y, hy⟩ : ∃ y, g.2[q]? = some y := ⟨_, List.getElem?_eq_getElem (by rw [HMG.out]; exact hlq)⟩
            obtain ⟨n, p, cc, j1, j2, j3, j4, j5, j6⟩ := HLN.out k f g HF.out HG.out q y hy
            obtain ⟨b2, hb2, _, d0, d1, d2, d3⟩ := RdB.elem HRB.out hy
            subst hb2
            obtain ⟨a1, ha1, _, l1⟩ := Rd.at_ HR1.out (k := q) (by simp only [List.length_map]; rw [HMF.out]; exact hlq)
            subst ha1
            have hnl : n < l.length := (List.getElem?_eq_some_iff.1 j1).1
            have hyl : y.2 < cc.h.new.length := j6
            have HJL := Lib.hid (show f.2[q]? = some ((f.2.map strV)[q]'(by simp only [List.length_map]; rw [HMF.out]; exact hlq) |> fun _ => f.2[q]'(by rw [HMF.out]; exact hlq)) from List.getElem?_eq_getElem _)
            have hfl : f.2[q]? = some (cc.h.new[y.2]'hyl) := by rw [← j5, List.getElem?_eq_getElem hyl]
            obtain ⟨ln, hln⟩ : ∃ ln, cc.h.new[y.2]'hyl = ln := ⟨_, rfl⟩
            have hl1 : wr.cell? (a1.add q) = some (strV ln) := by
              rw [l1, List.getElem_map]
              rw [hln] at hfl
              rw [(List.getElem?_eq_some_iff.1 hfl).2]
            have HFN : Hid (findN l y.1.1 = (n : Int)) := Lib.hid (findN_at j1 j2 j3)
            have HLX := Lib.hid l1
            obtain ⟨a5, x5, D5, i5, k5, E5, nl, cl, ha5, _, hx5, _, _, _, _, p4, hv5⟩ := RdN.elem HR_l.out (k := n) hnl
            obtain rfl : p = x5 := by rw [j1] at hx5; exact Option.some.inj hx5
            have htl : y.1.2 < p.l.length := (List.getElem?_eq_some_iff.1 j4).1
            obtain ⟨a6, ha6, _, hat6⟩ := hv5.r.at_ (k := y.1.2) htl
            rw [(List.getElem?_eq_some_iff.1 j4).2] at hat6
            obtain ⟨_, _, _, g3, Ap, np, cp, Bp, mp, dp, g4, g5, hpg⟩ := hat6
            have hyc : (cc.h.new.map strV)[y.2]? = some (strV ln) := by rw [List.getElem?_map, List.getElem?_eq_getElem hyl, hln]; rfl
            obtain ⟨b7, hb7, hl7⟩ : ∃ b7, Bp = some b7 ∧ wr.cell? (b7.add y.2) = some (strV ln) := by
              rcases hpg.r' with h | ⟨b7, h, _, hc⟩
              · rw [h] at hyc; simp at hyc
              · exact ⟨b7, h, hc _ _ hyc⟩
            subst ha5 ha6 hb7
            have HNL : Hid ((n : Int) < (n_l : Int)) := Lib.hid (by have := HN_l.out; omega)
            have HTL : Hid ((y.1.2 : Int) < (nl : Int)) := Lib.hid (by have := hv5.l; omega)
            have HYL : Hid ((y.2 : Int) < (mp : Int)) := Lib.hid (by have := hpg.l'; omega)
            have HCX : Hid (∀ X, Below wr.heap.size wr X → X.cell? ⟨(a.add (k * 2)).block, (a.add (k * 2)).off + 1, none⟩ = some (.slice (some a1) m c1) ∧ X.cell? (a1.add q) = some (strV ln) ∧ X.cell? ⟨(a5.add (n * 5)).block, (a5.add (n * 5)).off + 4, none⟩ = some (.slice (some a6) nl cl) ∧ X.cell? ⟨(a6.add (y.1.2 * 6)).block, (a6.add (y.1.2 * 6)).off + 3, none⟩ = some (.int .i64 cc.h.pos) ∧ X.cell? ⟨(a6.add (y.1.2 * 6)).block, (a6.add (y.1.2 * 6)).off + 4, none⟩ = some (.slice Ap np cp) ∧ X.cell? ⟨(a6.add (y.1.2 * 6)).block, (a6.add (y.1.2 * 6)).off + 5, none⟩ = some (.slice (some b7) mp dp) ∧ X.cell? (b7.add y.2) = some (strV ln)) := Lib.hid (fun X hb => ⟨cellK x1 hb, cellK hl1 hb, cellK p4 hb, cellK g3 hb, cellK g4 hb, cellK g5 hb, cellK hl7 hb⟩)
            have HBX := Lib.hid (Below.refl wr.heap.size wr)
            clear l1 HJL HLX p4 hv5 hx5 g3 g4 g5 hpg hyc hl7 hl1 htl hyl j1 j2 j3 j4 j5 j6 hfl hln hnl hy
            go_upto_region 25 with fail
            clear d0 d1 d2 d3 x1 x2
            have b0 := Blk.new wr 33 #[.int .i64 y.1.1.1, .int .i64 y.1.1.2, .int .i64 (y.1.2 : Int), .int .i64 (y.2 : Int)]
            have hb : Below wr.heap.size wr (wr.alloc (.cells #[.int .i64 y.1.1.1, .int .i64 y.1.1.2, .int .i64 (y.1.2 : Int), .int .i64 (y.2 : Int)] 33)) := (Below.refl _ _).alloc (Nat.le_refl _) _
            generalize (wr.alloc (.cells #[.int .i64 y.1.1.1, .int .i64 y.1.1.2, .int .i64 (y.1.2 : Int), .int .i64 (y.2 : Int)] 33)) = w_5 at b0 hb ⊢
            obtain ⟨z_w_5, hz⟩ : ∃ z, wr.heap.size = z := ⟨_, rfl⟩
            rw [hz] at b0 ⊢
            clear hz
            replace HR_a := Lib.hid (RdO.mv HR_a.out hb)
            replace HR_l := Lib.hid (RdN.mv HR_l.out hb)
            replace HR_t := Lib.hid (HR_t.out.mv hb)
            replace HBX := Lib.hid (below_mv HBX.out hb)
            replace HBR := Lib.hid (below_mv HBR.out hb)
            replace HB := Lib.hid (below_mv HB.out hb)
            clear hb
            have B12 := Lib.hid b0
            clear b0
            have b12_0 := B12.out.cell 0 rfl
            have b12_1 := B12.out.cell 1 rfl
            have l_12 := B12.out.lt
            go_wp2_with fail
            refine (FindN y.1.1 (some a5) n_l c_l l w_5 HN_l.out (by have := HQ_l.out; omega) HR_l.out).mono ?_
            rintro e w_6 ⟨rfl, hb⟩
            replace HR_a := Lib.hid (RdO.mv HR_a.out hb)
            replace HR_l := Lib.hid (RdN.mv HR_l.out hb)
            replace HR_t := Lib.hid (HR_t.out.mv hb)
            replace HBX := Lib.hid (below_mv HBX.out hb)
            replace HBR := Lib.hid (below_mv HBR.out hb)
            replace B12 := Lib.hid (B12.out.below hb B12.out.lt)
            replace HB := Lib.hid (below_mv HB.out hb)
            clear hb
            rw [HFN.out]
            clear b12_0 b12_1 l_12
            obtain ⟨v1, v2, v3, v4, v5, v6, v7⟩ := HCX.out _ HBX.out
            have i1 := HNL.out; have i2 := HTL.out; have i3 := HYL.out
            have i4 : (0 : Int) ≤ (n : Int) := by omega
            have i5' : (0 : Int) ≤ (y.1.2 : Int) := by omega
            have i6 : (0 : Int) ≤ (y.2 : Int) := by omega
            have i7 : ¬ (n : Int) < 0 := by omega
            have i8 : ¬ (y.1.2 : Int) < 0 := by omega
            have i9 : ¬ (y.2 : Int) < 0 := by omega
            have i10 : ¬ (nl : Int) ≤ (y.1.2 : Int) := by omega
            have i11 : ¬ (mp : Int) ≤ (y.2 : Int) := by omega
            have j11 : decide ((mp : Int) ≤ (y.2 : Int)) = false := decide_eq_false i11
            have j10 : decide ((nl : Int) ≤ (y.1.2 : Int)) = false := decide_eq_false i10
            have j9 : decide ((y.2 : Int) < 0) = false := decide_eq_false i9
            have j8 : decide ((y.1.2 : Int) < 0) = false := decide_eq_false i8
            have j12 : decide ((y.2 : Int) < (mp : Int)) = true := decide_eq_true i3
            have j13 : decide ((y.1.2 : Int) < (nl : Int)) = true := decide_eq_true i2
            have j14 : decide (mp ≤ y.2) = false := decide_eq_false (by omega)
            have j15 : decide (nl ≤ y.1.2) = false := decide_eq_false (by omega)
            have b12_1 := B12.out.cell 1 rfl
            have b12_2 := B12.out.cell 2 rfl
            have b12_3 := B12.out.cell 3 rfl
            have l_12 := B12.out.lt
            go_upto_region 26 with fail
            go_quiet (fail)
            go_upto_region 28 with fail
            clear v1 v2 v3 v4 v5 v6 v7 b12_1 b12_2 b12_3 l_12
            have hb := below_drewN (Below.refl w_6.heap.size w_6) nq
            generalize w_6.drewN nq = w_7 at hb ⊢
            replace HR_a := Lib.hid (RdO.mv HR_a.out hb)
            replace HR_l := Lib.hid (RdN.mv HR_l.out hb)
            replace HR_t := Lib.hid (HR_t.out.mv hb)
            replace HBX := Lib.hid (below_mv HBX.out hb)
            replace HBR := Lib.hid (below_mv HBR.out hb)
            replace B12 := Lib.hid (B12.out.below hb B12.out.lt)
            replace HB := Lib.hid (below_mv HB.out hb)
            clear hb
            obtain ⟨v1, v2, v3, v4, v5, v6, v7⟩ := HCX.out _ HBX.out
            have b12_1 := B12.out.cell 1 rfl
            have b12_2 := B12.out.cell 2 rfl
            have b12_3 := B12.out.cell 3 rfl
            have l_12 := B12.out.lt
            have m5 : (a5.add (n * 5)).block < w_7.heap.size := by have h := World.block_lt_of_cell? w_7 _ v3; exact h
            have m6 : (a6.add (y.1.2 * 6)).block < w_7.heap.size := by have h := World.block_lt_of_cell? w_7 _ v4; exact h
            have v5' : w_7.cell? ⟨(a6.add (y.1.2 * 6)).block, (a6.add (y.1.2 * 6)).off + 3 + 1, none⟩ = some (.slice Ap np cp) := by rw [Nat.add_assoc]; exact v5
            have v6' : w_7.cell? ⟨(a6.add (y.1.2 * 6)).block, (a6.add (y.1.2 * 6)).off + 3 + 2, none⟩ = some (.slice (some b7) mp dp) := by rw [Nat.add_assoc]; exact v6
            go_region
            clear v1 v2 v3 v4 v5 v6 v7 v5' v6' m5 m6 b12_1 b12_2 b12_3 l_12
            have b14 : Blk (w_7.alloc (.cells #[.int .i64 cc.h.pos, .slice Ap np cp, .slice (some b7) mp dp] 53)).drew w_7.heap.size 53 #[.int .i64 cc.h.pos, .slice Ap np cp, .slice (some b7) mp dp] := (Blk.new w_7 _ _).drewN 1
            have hb : Below w_7.heap.size w_7 (w_7.alloc (.cells #[.int .i64 cc.h.pos, .slice Ap np cp, .slice (some b7) mp dp] 53)).drew := below_drewN ((Below.refl _ _).alloc (Nat.le_refl _) _) 1
            generalize (w_7.alloc (.cells #[.int .i64 cc.h.pos, .slice Ap np cp, .slice (some b7) mp dp] 53)).drew = w_8 at b14 hb ⊢
            obtain ⟨z14, hz14⟩ : ∃ z, w_7.heap.size = z := ⟨_, rfl⟩
            have hbb := hb
            rw [hz14] at b14 ⊢
            clear hz14 hbb
            replace HR_a := Lib.hid (RdO.mv HR_a.out hb)
            replace HR_l := Lib.hid (RdN.mv HR_l.out hb)
            replace HR_t := Lib.hid (HR_t.out.mv hb)
            replace HBX := Lib.hid (below_mv HBX.out hb)
            replace HBR := Lib.hid (below_mv HBR.out hb)
            replace B12 := Lib.hid (B12.out.below hb B12.out.lt)
            replace HB := Lib.hid (below_mv HB.out hb)
            clear hb
            have B14 := Lib.hid b14; clear b14
            obtain ⟨v1, v2, v3, v4, v5, v6, v7⟩ := HCX.out _ HBX.out
            have b12_2 := B12.out.cell 2 rfl
            have b12_3 := B12.out.cell 3 rfl
            have b14_2 := B14.out.cell 2 rfl
            have l_12 := B12.out.lt; have l_14 := B14.out.lt
            have HEND := Lib.hid (below_mv HBI.out HBX.out)
            go_wp2
            go_quiet (fail)
            go_wp2
            refine ⟨⟨q + 1, by omega, by go_num, below_drewN HEND.out _⟩, by simp [intOf]; omega⟩
          obtain rfl : q = m := by omega
          have hqi : ¬ (q : Int) < (q : Int) := by omega
          go_wp2
          refine ⟨⟨k + 1, by omega, by go_num, HBR.out⟩, by simp [intOf]; omega⟩
      have hki : ¬ (k : Int) < (n_t : Int) := by omega
      go_wp2
      go_ret
      exact ⟨rfl, HB.out⟩

end BmL
open BmL
open Tx
open Go.ChangeShapes Go.WideShapes Go.ChangeAt

theorem blameLines_own : ownKnob Tryz.prog.godebug = none := by kernel_rfl
theorem blameLines_laidOut : laidOutB Tryz.prog = true := by kernel_rfl

set_option maxRecDepth 100000 in
theorem blameLines_lifted (os : Os) (started : os.Started) (H : Type) (enc : TypeId × Value → H) :
    ReturnsInHanded {} Tryz.checked os 4 .any (Rows.blameLinesSpec.pre6 enc Tryz.prog Tryz.f4 Rows.blameLinesRow.domain false) (Rows.blameLinesSpec.post enc Tryz.prog Tryz.f4 false true false false) := by
  refine returnsInHanded_of_change (C := Tryz.checked) blameLines_own started (by kernel_rfl) Tryz.func4
    (ChangeSpec.witness6 (enc := enc) (C := Tryz.checked) false ⟨#[], #[.slice none 0 0], []⟩ 8 (by kernel_rfl) (by kernel_rfl) (by kernel_rfl) (by kernel_rfl)) ?_
  intro W base args ds gs before hval0 hW hcnd _
  have hval : ∀ (j : Nat) t v, Tryz.f4.params[j]? = some t → args[j]? = some v → Value.okWide Tryz.prog W .any base t v := hval0
  have hW' := hW
  obtain ⟨p, q, hA0, hV, rfl, hfz, hnd⟩ := hW
  have hA : DataW.TrodAll enc Tryz.prog W 0 (fun _ => true) true Tryz.f4.params.toList args.toList ds p := hA0
  rw [Tryz.params4] at hA hval
  obtain ⟨v0, vs0, d0, ds0, p0, q0, hargs, rfl, rfl, h0, r0⟩ := trodAll_cons hA
  obtain ⟨rfl, rfl, rfl⟩ := trodAll_nil r0
  obtain rfl : args = #[v0] := by cases args; simp_all
  obtain ⟨rfl, rfl⟩ := trodVars_none hV
  obtain ⟨a0, n0, c0, rfl⟩ := okWide_slice Tryz.underlying22 (hval 0 22 v0 rfl rfl)
  have k0 := h0
  have lt0 : ∀ x ∈ p0, x.block < W.heap.size := by obtain ⟨m, hm⟩ := k0; exact DataW.trod_lt m _ _ _ hm
  obtain ⟨l0, s0⟩ : ∃ l, NmsArg W a0 n0 c0 l := by
    obtain ⟨fuel, hf⟩ := h0
    exact nms_in hf (by simp [Value.cells])
  clear hA0 hval0
  refine (blameLines_walk a0 n0 c0 l0 W s0).mono fun e W' ⟨he, bel⟩ => ?_
  subst he
  exact ⟨_, rfl, _, _, _, [], _, [], hW', trodAll_mk1 (shut_bool Tryz.underlying4 _), (trodAll_cons_mk (Below.trod blameLines_laidOut (by kernel_rfl) (of_decide_eq_true (by kernel_rfl)) k0 bel lt0) trodAll_mk0), rfl, bel.frame _, fun h => by cases h⟩

/-- The statement. -/
theorem blameLines_proved : Rows.BlameLinesSaid :=
  OpenClaim.holds_of_wide 4 Tryz.f4 rfl rfl rfl rfl rfl rfl rfl ⟨rfl, rfl, rfl, rfl, rfl⟩ rfl rfl rfl rfl rfl (by kernel_rfl) Tryz.func4 (by kernel_rfl)
    (of_decide_eq_true (by kernel_rfl)) (by unfold Func.isWrapper; first | (rw [if_pos (by decide +kernel)]; kernel_rfl) | (rw [if_neg (by decide +kernel)]; exact ⟨rfl, rfl⟩))
    (fun os started H enc _ => blameLines_lifted os started H enc)

#print axioms blameLines_proved
end Go.Proofs.YtfnhjflocfmcoaaGreat

set_option maxRecDepth 100000
namespace Go.Proofs.YtfnhjflocfmcoaaGreat
open Go.RowKit
set_option linter.unusedVariables false
set_option linter.unusedSimpArgs false
open Tr Tx Hk Pr Fl Pn Tg Bm
namespace BmL
attribute [local go_sem] eq_id eq_bi

set_option maxRecDepth 100000 in
set_option maxHeartbeats 8000000 in
theorem blameOnce_walk (A_l : Option Addr) (n_l c_l : Nat) (l : List Nm) (w : World) (h_l : NmsArg w A_l n_l c_l l) :
    Calls Tryz.prog 5 #[.slice A_l n_l c_l] w (LawEnd w) := by
  have HR_l := Lib.hid h_l.rd; have HN_l := Lib.hid h_l.len; have HC_l := Lib.hid h_l.cap; have HM_l := Lib.hid h_l.le
  clear h_l
  have HB := Lib.hid (Below.refl w.heap.size w)
  go_enter Tryz.func5, Tryz.ntmps5
  go_wp2_with fail
  refine (Bm.awake w).mono ?_
  rintro e w_1 ⟨rfl, hb⟩
  replace HR_l := Lib.hid (RdN.mv HR_l.out hb)
  replace HB := Lib.hid (below_mv HB.out hb)
  clear hb
  obtain ⟨bl_l, hbl⟩ : ∃ bb, fewN l 8 = bb := ⟨_, rfl⟩
  have HBL_l := Lib.hid hbl; clear hbl
  go_wp2_with fail
  refine (FewN A_l n_l c_l 8 l w_1 bl_l (by decide) ⟨HN_l.out, HC_l.out, HM_l.out, HR_l.out⟩ HBL_l.out).mono ?_
  rintro e w_2 ⟨rfl, hb⟩
  replace HR_l := Lib.hid (RdN.mv HR_l.out hb)
  replace HB := Lib.hid (below_mv HB.out hb)
  clear hb
  cases bl_l with
  | false =>
    go_wp2
    go_ret
    exact ⟨rfl, HB.out⟩
  | true =>
  have HQ_l : Hid (n_l ≤ 8) := Lib.hid (by have h1 := fewN_len HBL_l.out; rw [HN_l.out] at h1; exact h1)
  have HL_l := Lib.hid (few_all HBL_l.out)
  have HT_l : Hid ((allN l).length ≤ 80 ∧ Lt (allN l)) := Lib.hid (by
    obtain ⟨h1, h2⟩ := allN_few (fewN_all HBL_l.out)
    have h3 := fewN_len HBL_l.out
    exact ⟨by omega, h2⟩)
  go_wp2_with fail
  go_loopw [5] (fun i wr => ∃ k : Nat, k ≤ n_l ∧ i = .int .i64 (k : Int) ∧ ((l.take k).map (·.id)).Nodup ∧ Below w_2.heap.size w_2 wr) (fun i _ => n_l - (intOf i).toNat)
  case atStart => exact ⟨0, Nat.zero_le _, rfl, by simp, Below.refl _ _⟩
  case round =>
    obtain ⟨k, hk, rfl, hall, hb⟩ := hrel
    have HA := Lib.hid hall; have HBR := Lib.hid hb; clear hall
    replace HR_l := Lib.hid (RdN.mv HR_l.out hb)
    replace HB := Lib.hid (below_mv HB.out hb)
    clear hb
    by_cases hlt : k < n_l
    case pos =>
      have hql := HQ_l.out
      have hki : (k : Int) < (n_l : Int) := by omega
      have hki0 : (0 : Int) ≤ (k : Int) := by omega
      have hkc : k ≤ c_l := by have := HC_l.out; omega
      obtain ⟨a, x, D, i, j, E, m, d, ha, hS, hx, c0, c1, c2, c3, c4, c5⟩ := HR_l.out.elem (k := k) (by rw [HN_l.out]; exact hlt)
      subst ha
      have HX := Lib.hid hx
      obtain ⟨f, hf⟩ : ∃ f, findN (l.take k) x.id = f := ⟨_, rfl⟩
      have HF := Lib.hid hf
      have HC : Hid (∀ X, Below wr.heap.size wr X → X.cell? (a.add (k * 5)) = some (.int .i64 x.id.1) ∧ X.cell? ⟨(a.add (k * 5)).block, (a.add (k * 5)).off + 1, none⟩ = some (.int .i64 x.id.2)) := Lib.hid (fun X hb => ⟨cellB c0 hb (by rw [add_block]; exact hS), cellB c1 hb (by rw [add_block]; exact hS)⟩)
      have HD := Lib.hid (show Below wr.heap.size wr wr.drew from below_drewN (Below.refl _ _) 1)
      have HKD := Lib.hid (HC.out wr.drew HD.out)
      have PF := Lib.hid (hf ▸ FindN x.id (some a) k c_l (l.take k) wr.drew (by rw [List.length_take, HN_l.out]; omega) (by have := HQ_l.out; omega) (RdN.mv (HR_l.out.take k) HD.out))
      clear hx hf c0 c1 c2 c3 c4 c5
      go_upto_region 8 with fail
      go_region_held3 (fun X => X.cell? (a.add (k * 5)) = some (.int .i64 x.id.1) ∧ X.cell? ⟨(a.add (k * 5)).block, (a.add (k * 5)).off + 1, none⟩ = some (.int .i64 x.id.2))
        (first | (with_reducible exact HKD.out) | (with_reducible exact hS1))
        (first
          | (go_at_call 14; (with_reducible refine (PF.out).mono ?_); rintro e u1 ⟨rfl, hb⟩; have hb2 := below_mv HD.out hb; have hS1 := HC.out u1 hb2; have HU := Lib.hid hb2; clear hb hb2))
      all_goals
        by_cases h0 : 0 ≤ f
        · have e1 : decide (0 ≤ f) = true := decide_eq_true h0
          have e2 : decide (f < 0) = false := decide_eq_false (by omega)
          go_wp2
          go_ret
          exact ⟨rfl, below_mv HB.out HU.out⟩
        · have e1 : decide (0 ≤ f) = false := decide_eq_false h0
          have e2 : decide (f < 0) = true := decide_eq_true (by omega)
          go_wp2
          refine ⟨⟨k + 1, by omega, by go_num, ids_next HX.out HA.out (by rw [HF.out]; exact h0), below_mv HBR.out HU.out⟩, by simp [intOf]; omega⟩
    have hki : ¬ (k : Int) < (n_l : Int) := by omega
    have HND : Hid ((l.map (·.id)).Nodup) := Lib.hid (by have h := HA.out; rwa [List.take_of_length_le (by rw [HN_l.out]; omega)] at h)
    clear HA HBR
    obtain ⟨⟨er, o⟩, hor⟩ : ∃ z, orgR l = z := ⟨_, rfl⟩
    have HOR := Lib.hid hor; have HSO := Lib.hid (org_small HT_l.out.2 (by have := HT_l.out.1; omega) hor)
    clear hor
    have HON := Lib.hid (orgR_once HND.out HOR.out)
    have HSM : Hid ((o.flatMap (·.2)).length ≤ 24000) := Lib.hid (by have h1 := org_sum HT_l.out.2 HOR.out; have h2 := HT_l.out.1; omega)
    go_wp2_with fail
    refine (OrgsC A_l n_l c_l l wr HN_l.out (by have := HQ_l.out; omega) (by have := HT_l.out.1; omega) HT_l.out.2 HR_l.out er o HOR.out).mono ?_
    rintro e w_3 ⟨A_a, n_a, c_a, rfl, hn1, hc1, hr1, hb⟩
    dsimp only at hn1 hr1 ⊢
    have HN_a := Lib.hid hn1; have HC_a := Lib.hid hc1; have HR_a := Lib.hid hr1
    clear hn1 hc1 hr1
    replace HR_l := Lib.hid (RdN.mv HR_l.out hb)
    replace HB := Lib.hid (below_mv HB.out hb)
    clear hb
    go_wp2_with fail
    have HNA : Hid (n_a ≤ 150) := Lib.hid (by have h1 := HSO.out.1; have h2 := HN_a.out; omega)
    have hna := HNA.out
    go_loopw [8, 9] (fun v i wr => ∃ (k : Nat) (A1 : Option Addr) (m c1 : Nat), k ≤ n_a ∧ i = .int .i64 (k : Int) ∧ v = .slice A1 m c1 ∧ OwnB wr w_3.heap.size (.slice A1 m c1) ((o.take k).flatMap (·.2)) ∧ Below w_3.heap.size w_3 wr) (fun _ i _ => n_a - (intOf i).toNat)
    case atStart => exact ⟨0, none, 0, 0, Nat.zero_le _, rfl, rfl, ownB_nil _ _, Below.refl _ _⟩
    case round =>
      obtain ⟨k2, A1, m, c1, hk2, rfl, rfl, hO, hbw⟩ := hrel
      have HO2 := Lib.hid hO; have HBW := Lib.hid hbw
      clear hO hbw
      by_cases hlt2 : k2 < n_a
      case pos =>
        have hki2 : (k2 : Int) < (n_a : Int) := by omega
        obtain ⟨y, hy⟩ : ∃ y, o[k2]? = some y := ⟨_, List.getElem?_eq_getElem (by rw [HN_a.out]; exact hlt2)⟩
        obtain ⟨b, hb, hab, c0, B, cb, c1', hcb, hrb⟩ := HR_a.out.elem hy
        subst hb
        have HY := Lib.hid hy
        have HRB := Lib.hid (hrb.to (fun b _ hl => HBW.out.block b hl))
        obtain ⟨nb, hnb⟩ : ∃ nb, y.2.length = nb := ⟨_, rfl⟩
        rw [hnb] at c1'
        have HNB := Lib.hid hnb
        have q1 := cellB c1' HBW.out (by rw [add_block]; exact hab)
        have HL := Lib.hid (show ((o.take k2).flatMap (·.2)).length + nb ≤ 100000 by
          have h1 := flat_le (o := o) (k := k2 + 1)
          rw [flat_next hy, List.length_append, hnb] at h1
          have := HSM.out
          omega)
        clear hy hrb hcb c0 c1' hnb
        go_wp2_with (at_builtin; refine wpList_ownB rfl (.tmp 49) (.tmp 54) rfl (· < w_3.heap.size) w_3.heap.size nb cb (.slice A1 m c1) B ((o.take k2).flatMap (·.2)) y.2 rfl rfl HO2.out HRB.out HNB.out HL.out HBW.out.size ?_; intro v' W' ho hg)
        rw [← flat_next HY.out] at ho
        obtain ⟨A9, c9, hv9, _, _⟩ := rdB_own ho
        subst hv9
        refine ⟨⟨k2 + 1, A9, _, c9, by omega, by go_num, rfl, ho, bis_grown HBW.out HO2.out hg⟩, by simp [intOf]; omega⟩
      have hki2 : ¬ (k2 : Int) < (n_a : Int) := by omega
      obtain ⟨A9, c9, e9, h9, h10⟩ := rdB_own HO2.out
      injection e9 with e1 e2 e3
      subst e1 e2 e3
      have ef : (o.take k2).flatMap (·.2) = o.flatMap (·.2) := by rw [List.take_of_length_le (by rw [HN_a.out]; omega)]
      rw [ef] at h10 h9 ⊢
      have HBE := Lib.hid (below_mv HB.out HBW.out)
      have HSM2 := HSM.out
      have HON2 := HON.out
      clear HO2 ef
      obtain ⟨N, hN⟩ : ∃ N, (o.flatMap (·.2)).length = N := ⟨_, rfl⟩
      rw [hN] at h9 HSM2 ⊢
      generalize o.flatMap (·.2) = FL at *
      have HNN := Lib.hid hN; have HFB := Lib.hid h10; have HOO := Lib.hid HON2
      clear hN h10 HON2 HON HSM
      generalize wr = wi at *
      go_wp2_with fail
      go_loopw [10] (fun i wr => ∃ k : Nat, k ≤ N ∧ i = .int .i64 (k : Int) ∧ ∃ d, wr = wi.drewN d) (fun i _ => N - (intOf i).toNat)
      case atStart => exact ⟨0, Nat.zero_le _, rfl, 0, rfl⟩
      case round =>
        obtain ⟨k3, hk3, rfl, d, rfl⟩ := hrel
        by_cases hlt3 : k3 < N
        case pos =>
          have hki3 : (k3 : Int) < (N : Int) := by omega
          have hki30 : (0 : Int) ≤ (k3 : Int) := by omega
          go_wp2_with fail
          go_loopw [11] (fun j wr => ∃ q : Nat, q ≤ k3 ∧ j = .int .i64 (q : Int) ∧ ∃ d, wr = wi.drewN d) (fun j _ => k3 - (intOf j).toNat)
          case atStart => exact ⟨0, Nat.zero_le _, rfl, _, rfl⟩
          case round =>
            obtain ⟨q, hq, rfl, d2, rfl⟩ := hrel
            by_cases hlt4 : q < k3
            case pos =>
              have hki4 : (q : Int) < (k3 : Int) := by omega
              have hki5 : (q : Int) < (N : Int) := by omega
              have hki40 : (0 : Int) ≤ (q : Int) := by omega
              obtain ⟨p, hp⟩ : ∃ p, FL[q]? = some p := ⟨_, List.getElem?_eq_getElem (by rw [HNN.out]; omega)⟩
              obtain ⟨r, hr⟩ : ∃ r, FL[k3]? = some r := ⟨_, List.getElem?_eq_getElem (by rw [HNN.out]; omega)⟩
              have hdif := bi_ne (nodup_ne HOO.out hp hr hlt4)
              obtain ⟨b, hb, _, d0, d1, d2', d3⟩ := RdB.elem HFB.out hp
              obtain ⟨b', hb', _, e0, e1, e2, e3⟩ := RdB.elem HFB.out hr
              subst hb
              injection hb' with hb'
              subst hb'
              clear hp hr
              generalize p.1.1.1 = p1 at *
              generalize p.1.1.2 = p2 at *
              generalize ((p.1.2 : Nat) : Int) = p3 at *
              generalize ((p.2 : Nat) : Int) = p4 at *
              generalize r.1.1.1 = r1 at *
              generalize r.1.1.2 = r2 at *
              generalize ((r.1.2 : Nat) : Int) = r3 at *
              generalize ((r.2 : Nat) : Int) = r4 at *
              have hdd : ¬ (p1 = r1 ∧ p2 = r2 ∧ p3 = r3 ∧ p4 = r4) := fun ⟨e1, e2, e3, e4⟩ => by rcases hdif with h | h | h | h <;> exact h ‹_›
              rcases hdif with h | h | h | h
              all_goals
                go_wp2
                go_quiet (fail)
                go_wp2
                refine ⟨⟨q + 1, by omega, by go_num, _, rfl⟩, by simp [intOf]; omega⟩
            have hki4 : ¬ (q : Int) < (k3 : Int) := by omega
            go_wp2
            refine ⟨⟨k3 + 1, by omega, by go_num, _, rfl⟩, by simp [intOf]; omega⟩
        have hki3 : ¬ (k3 : Int) < (N : Int) := by omega
        go_wp2
        go_ret
        exact ⟨rfl, below_drewN HBE.out _⟩

end BmL
open BmL
open Tx
open Go.ChangeShapes Go.WideShapes Go.ChangeAt

theorem blameOnce_own : ownKnob Tryz.prog.godebug = none := by kernel_rfl
theorem blameOnce_laidOut : laidOutB Tryz.prog = true := by kernel_rfl

set_option maxRecDepth 100000 in
theorem blameOnce_lifted (os : Os) (started : os.Started) (H : Type) (enc : TypeId × Value → H) :
    ReturnsInHanded {} Tryz.checked os 5 .any (Rows.blameOnceSpec.pre6 enc Tryz.prog Tryz.f5 Rows.blameOnceRow.domain false) (Rows.blameOnceSpec.post enc Tryz.prog Tryz.f5 false true false false) := by
  refine returnsInHanded_of_change (C := Tryz.checked) blameOnce_own started (by kernel_rfl) Tryz.func5
    (ChangeSpec.witness6 (enc := enc) (C := Tryz.checked) false ⟨#[], #[.slice none 0 0], []⟩ 8 (by kernel_rfl) (by kernel_rfl) (by kernel_rfl) (by kernel_rfl)) ?_
  intro W base args ds gs before hval0 hW hcnd _
  have hval : ∀ (j : Nat) t v, Tryz.f5.params[j]? = some t → args[j]? = some v → Value.okWide Tryz.prog W .any base t v := hval0
  have hW' := hW
  obtain ⟨p, q, hA0, hV, rfl, hfz, hnd⟩ := hW
  have hA : DataW.TrodAll enc Tryz.prog W 0 (fun _ => true) true Tryz.f5.params.toList args.toList ds p := hA0
  rw [Tryz.params5] at hA hval
  obtain ⟨v0, vs0, d0, ds0, p0, q0, hargs, rfl, rfl, h0, r0⟩ := trodAll_cons hA
  obtain ⟨rfl, rfl, rfl⟩ := trodAll_nil r0
  obtain rfl : args = #[v0] := by cases args; simp_all
  obtain ⟨rfl, rfl⟩ := trodVars_none hV
  obtain ⟨a0, n0, c0, rfl⟩ := okWide_slice Tryz.underlying22 (hval 0 22 v0 rfl rfl)
  have k0 := h0
  have lt0 : ∀ x ∈ p0, x.block < W.heap.size := by obtain ⟨m, hm⟩ := k0; exact DataW.trod_lt m _ _ _ hm
  obtain ⟨l0, s0⟩ : ∃ l, NmsArg W a0 n0 c0 l := by
    obtain ⟨fuel, hf⟩ := h0
    exact nms_in hf (by simp [Value.cells])
  clear hA0 hval0
  refine (blameOnce_walk a0 n0 c0 l0 W s0).mono fun e W' ⟨he, bel⟩ => ?_
  subst he
  exact ⟨_, rfl, _, _, _, [], _, [], hW', trodAll_mk1 (shut_bool Tryz.underlying4 _), (trodAll_cons_mk (Below.trod blameOnce_laidOut (by kernel_rfl) (of_decide_eq_true (by kernel_rfl)) k0 bel lt0) trodAll_mk0), rfl, bel.frame _, fun h => by cases h⟩

/-- The statement. -/
theorem blameOnce_proved : Rows.BlameOnceSaid :=
  OpenClaim.holds_of_wide 5 Tryz.f5 rfl rfl rfl rfl rfl rfl rfl ⟨rfl, rfl, rfl, rfl, rfl⟩ rfl rfl rfl rfl rfl (by kernel_rfl) Tryz.func5 (by kernel_rfl)
    (of_decide_eq_true (by kernel_rfl)) (by unfold Func.isWrapper; first | (rw [if_pos (by decide +kernel)]; kernel_rfl) | (rw [if_neg (by decide +kernel)]; exact ⟨rfl, rfl⟩))
    (fun os started H enc _ => blameOnce_lifted os started H enc)

#print axioms blameOnce_proved
end Go.Proofs.YtfnhjflocfmcoaaGreat

set_option maxRecDepth 100000
namespace Go.Proofs.YtfnhjflocfmcoaaGreat
open Go.RowKit
set_option linter.unusedVariables false
set_option linter.unusedSimpArgs false
namespace Tg
open Tx Df Sq Hk Tr Pr Fl Pn

/-- A light patch of few changes. -/
abbrev Lit (p : Nm) : Prop := Lt p.l ∧ p.l.length ≤ 10 ∧ p.deps.length ≤ 100
end Tg
end Go.Proofs.YtfnhjflocfmcoaaGreat

set_option maxRecDepth 100000
namespace Go.Proofs.YtfnhjflocfmcoaaGreat
open Go.ChangeShapes Go.WideShapes Go.ChangeAt Go.RowKit Go.Deep
set_option linter.unusedVariables false
namespace Tg
open Tx Df Sq Hk Tr Pr Fl Pn

theorem bytes_named : Tryz.prog.bytesOf 41 = 80 := by kernel_rfl
section
variable {H : Type} {enc : TypeId × Value → H} {W : World} {base : Nat} {spare : Nat → Bool} {held : Bool}
theorem nms_wide {fuel : Nat} {cs : List Value} {x : DataW H × List MemPlace} {A : Option Addr} {n c : Nat} (h : DataW.trod enc Tryz.prog W base spare held fuel 22 cs = some x) (hcs : cs = [.slice A n c]) (hz : ∀ k ∈ x.1.weights Tryz.prog 22, k ≤ reachBytes) : ∃ t : List Nm, NmsArg W A n c t ∧ n ≤ 1759218604390 := by
  obtain ⟨t, ht⟩ := nms_in h hcs
  subst hcs
  refine ⟨t, ht, ?_⟩
  rcases open_slice Tryz.underlying22 h with ⟨h', _⟩ | ⟨a, len, cap, m, nn, D, Pl, h', _, hl, _, hmm, rfl, _⟩
  · simp at h'
    obtain ⟨_, rfl, _⟩ := h'
    omega
  · simp at h'
    obtain ⟨_, rfl, _⟩ := h'
    have := hz ((n + (m - n)) * 80) (by simp [DataW.weights, Tryz.underlying22, bytes_named])
    unfold reachBytes at this
    omega
end

section
variable {W W' : World} {N base : Nat} {v : Value} {l u : List Nm}
/-- Patches appended onto a row of one's own, of whatever length. -/
theorem run_ownMW {ty : TypeId} {m c : Nat} {A : Option Addr} (h : OwnM W N base v l) (hu : RdN W N A u) (hm : u.length = m) (hn : l.length + m ≤ 1759218604440) (hN : N ≤ base) (hbase : base ≤ W.heap.size) :
    ∃ v' W', (Builtin.append_ #[22, 22] ty #[v, .slice A m c]).run Tryz.prog W = .ok v' W' ∧ OwnM W' N base v' (l ++ u) ∧ W.grownBy W' v.ownBlock := by
  obtain ⟨i0, hi0, hz0, hz1, hz2⟩ := info_parts info_named
  obtain ⟨ys, hyl, hU, hsrc⟩ := flatN hu
  have h0 := h
  obtain ⟨xs, hrow, hF⟩ := h
  have h1 := one5 hU hyl
  by_cases hm0 : m = 0
  · have hu0 : u = [] := List.eq_nil_of_length_eq_zero (by omega)
    subst hu0
    obtain ⟨A0, c0, rfl, hc0, _⟩ := rdN_own h0 (Nat.le_trans hN hbase)
    subst hm0
    exact ⟨_, W, run_append_none Tryz.underlying22 hi0 hc0, by rw [List.append_nil]; exact ⟨xs, hrow, hF⟩, ⟨rfl, rfl, rfl, Nat.le_refl _, fun _ _ _ => rfl⟩⟩
  · obtain ⟨a, rfl, hcell⟩ : ∃ a, A = some a ∧ ∀ (j : Nat) x, ys[j]? = some x → W.cell? (a.add j) = some x := by
      rcases hsrc with hy | h
      · rw [hy] at hyl; simp at hyl; omega
      · exact h
    obtain ⟨g, cap, W', hr, r1, r2, r3, r4⟩ := run_append_lies (P := Tryz.prog) (w := W) 22 ty base 41 i0 _ 5 80 Tryz.underlying22 hi0 hz0 hz1 hz2 rfl (by decide) v l.length xs hrow a m c ys (by rw [hyl, hm]) hcell h1 (by omega) (by unfold maxLen; omega) (by omega) hbase W.heap.size rfl
    refine ⟨_, W', hr, ⟨xs ++ ys, by rw [List.length_append, hm]; exact r1, ?_⟩, r2⟩
    have hb : Below N W W' := (Below.refl N W).grown r2 (Nat.le_trans hN hbase) (fun k e => Nat.le_trans hN (own_ge hrow k e))
    exact (hF.append hrow.1 hU).below hb
/-- Patches whose cells lie anywhere appended onto a row of one's own. -/
theorem run_ownMC {ty : TypeId} {m c : Nat} {A : Option Addr} {ys : List Value} (h : OwnM W N base v l) (hU : NCells W N u ys) (hyl : ys.length = u.length * 5) (hsrc : ∃ a, A = some a ∧ ∀ (j : Nat) x, ys[j]? = some x → W.cell? (a.add j) = some x) (hm : u.length = m) (h0 : 0 < m) (hn : l.length + m ≤ 1759218604440) (hN : N ≤ base) (hbase : base ≤ W.heap.size) :
    ∃ v' W', (Builtin.append_ #[22, 22] ty #[v, .slice A m c]).run Tryz.prog W = .ok v' W' ∧ OwnM W' N base v' (l ++ u) ∧ W.grownBy W' v.ownBlock := by
  obtain ⟨i0, hi0, hz0, hz1, hz2⟩ := info_parts info_named
  obtain ⟨xs, hrow, hF⟩ := h
  have h1 := one5 hU hyl
  obtain ⟨a, rfl, hcell⟩ := hsrc
  obtain ⟨g, cap, W', hr, r1, r2, r3, r4⟩ := run_append_lies (P := Tryz.prog) (w := W) 22 ty base 41 i0 _ 5 80 Tryz.underlying22 hi0 hz0 hz1 hz2 rfl (by decide) v l.length xs hrow a m c ys (by rw [hyl, hm]) hcell h1 (by omega) (by unfold maxLen; omega) (by omega) hbase W.heap.size rfl
  refine ⟨_, W', hr, ⟨xs ++ ys, by rw [List.length_append, hm]; exact r1, ?_⟩, r2⟩
  have hb : Below N W W' := (Below.refl N W).grown r2 (Nat.le_trans hN hbase) (fun k e => Nat.le_trans hN (own_ge hrow k e))
  exact (hF.append hrow.1 hU).below hb
theorem step_ownMC {m c : Nat} {A : Option Addr} {ys : List Value} {ops : Array Oper} {o : Oper} {a : Act} {K : Act → World → Prop} {Q : Exit → Act → World → Prop} {E : Prop} (hgd : o.guard = none) (s x : Operand)
    (ho : o.op = .call { callee := .builtin .append, args := #[s, x], argTypes := #[22, 22] }) (hs : a.eval s = v) (hx : a.eval x = .slice A m c)
    (h : OwnM W N base v l) (hU : NCells W N u ys) (hyl : ys.length = u.length * 5) (hsrc : ∃ a, A = some a ∧ ∀ (j : Nat) x, ys[j]? = some x → W.cell? (a.add j) = some x) (hm : u.length = m) (h0 : 0 < m) (hn : l.length + m ≤ 1759218604440) (hN : N ≤ base) (hbase : base ≤ W.heap.size)
    (hK : ∀ v' W', OwnM W' N base v' (l ++ u) → W.grownBy W' v.ownBlock → K (a.put o.dst v') W') : if Region.wanted o (yielded ops a.tmps) = true then Oper.wp Tryz.prog o a W K Q else E := by
  have hw : Region.wanted o (yielded ops a.tmps) = true := by simp [Region.wanted, hgd]
  rw [if_pos hw]
  obtain ⟨v', W', hrun, h4, h5⟩ := run_ownMC (ty := o.type) (c := c) h hU hyl hsrc hm h0 hn hN hbase
  unfold Oper.wp execOp
  simp only [ho, resolve, invoke, builtin, Sem.run_bind, Sem.run_pure, Result.andThen_ok, List.map_toArray, List.map_cons, List.map_nil, hs, hx, hrun]
  exact hK v' W' h4 h5
/-- The same as a step of a drawn region. -/
theorem step_ownMW {m c : Nat} {A : Option Addr} {ops : Array Oper} {o : Oper} {a : Act} {K : Act → World → Prop} {Q : Exit → Act → World → Prop} {E : Prop} (hgd : o.guard = none) (s x : Operand)
    (ho : o.op = .call { callee := .builtin .append, args := #[s, x], argTypes := #[22, 22] }) (hs : a.eval s = v) (hx : a.eval x = .slice A m c)
    (h : OwnM W N base v l) (hu : RdN W N A u) (hm : u.length = m) (hn : l.length + m ≤ 1759218604440) (hN : N ≤ base) (hbase : base ≤ W.heap.size)
    (hK : ∀ v' W', OwnM W' N base v' (l ++ u) → W.grownBy W' v.ownBlock → K (a.put o.dst v') W') : if Region.wanted o (yielded ops a.tmps) = true then Oper.wp Tryz.prog o a W K Q else E := by
  have hw : Region.wanted o (yielded ops a.tmps) = true := by simp [Region.wanted, hgd]
  rw [if_pos hw]
  obtain ⟨v', W', hrun, h4, h5⟩ := run_ownMW (ty := o.type) (c := c) h hu hm hn hN hbase
  unfold Oper.wp execOp
  simp only [ho, resolve, invoke, builtin, Sem.run_bind, Sem.run_pure, Result.andThen_ok, List.map_toArray, List.map_cons, List.map_nil, hs, hx, hrun]
  exact hK v' W' h4 h5
end

theorem lit_all : ∀ {l : List Nm}, (∀ p ∈ l, Lit p) → (allN l).length ≤ l.length * 10 ∧ Lt (allN l)
  | [], _ => ⟨Nat.le_refl _, fun x hx => by cases hx⟩
  | p :: l, h => by
    obtain ⟨h1, h2⟩ := lit_all fun x hx => h x (.tail _ hx)
    have hp := h p (.head _)
    have hl := hp.2.1
    rw [allN_cons]
    exact ⟨by rw [List.length_append, List.length_cons]; omega, hp.1.app h2⟩
end Tg
end Go.Proofs.YtfnhjflocfmcoaaGreat

set_option maxRecDepth 100000
namespace Go.Proofs.YtfnhjflocfmcoaaGreat
open Go.RowKit
set_option linter.unusedVariables false
namespace Bm
open Tx Df Sq Hk Tr Pr Fl Pn Tg

/-- The cells of a block of its own are a source. -/
theorem blk_srcN {W : World} {b : Nat} {t : TypeId} {cs : Array Value} {ys : List Value} (h : Blk W b t cs) (hy : cs.toList = ys) : ∃ a, some (⟨b, 0, none⟩ : Addr) = some a ∧ ∀ (j : Nat) u, ys[j]? = some u → W.cell? (a.add j) = some u :=
  ⟨_, rfl, fun j u hu => by
    have e : ∀ k, (⟨b, 0, none⟩ : Addr).add k = ⟨b, k, none⟩ := fun k => by unfold Addr.add; split <;> simp_all
    rw [e]
    subst hy
    rw [Array.getElem?_toList] at hu
    exact h.cell j hu⟩
theorem jn_le {l us : List Nm} {n n_l : Nat} (h : List.length ([] ++ l ++ us) = n) (hl : l.length = n_l) (hz : n_l ≤ 1759218604390) (hu : us.length ≤ 2) : n ≤ maxLen := by
  rw [List.nil_append, List.length_append] at h
  unfold maxLen
  omega
theorem jn_len {l us : List Nm} {n n_l : Nat} (h : List.length ([] ++ l ++ us) = n) (hl : l.length = n_l) (hz : n_l ≤ 8) (hu : us.length ≤ 2) : n ≤ 1000 := by
  rw [List.nil_append, List.length_append] at h
  omega
theorem jn_all {l us : List Nm} (hl : ∀ p ∈ l, Tg.Lit p) (hu : ∀ p ∈ us, Tg.Lit p) (hn : l.length ≤ 8) (hm : us.length ≤ 2) : (allN ([] ++ l ++ us)).length ≤ 150 ∧ Lt (allN ([] ++ l ++ us)) := by
  obtain ⟨h1, h2⟩ := lit_all (l := [] ++ l ++ us) (fun p hp => by
    rw [List.nil_append] at hp
    rcases List.mem_append.1 hp with h | h
    · exact hl p h
    · exact hu p h)
  refine ⟨Nat.le_trans h1 ?_, h2⟩
  rw [List.nil_append, List.length_append]
  omega

end Bm
end Go.Proofs.YtfnhjflocfmcoaaGreat
