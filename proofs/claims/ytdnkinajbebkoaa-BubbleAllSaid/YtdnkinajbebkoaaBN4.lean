/-
  Words and contracts, joined: PnRefSame TgList BbKeep BbUnder BbBehW BbAll BbRef BbSpW BbSplit BbBeh BbRev BbCode BbAwake BbLaw BbLNone BbLHangs BbLNeeds.
-/
import Derived.Deep.RegionHeld3
import Derived.Deep.RegionWith
import Derived.Laws.StructEq
import Derived.BigQuiet
import Derived.OwnWalkIn
import Derived.Deep.Cut
import Derived.OpenShut
import Derived.ShutString
import Derived.Test.YtdnkinajbebkoaaBN3
set_option maxRecDepth 100000
namespace Go.Proofs.Ytdnkinajbebkoaa
open Go.RowKit
set_option linter.unusedVariables false
set_option linter.unusedSimpArgs false
namespace Pn
open Tx Df Sq Hk Tr Pr Fl
attribute [local go_sem] eq_id

theorem sameN_ref (p q : Nm) : sameN p q = (listP p.l q.l && (decide (p.id = q.id) && (decide (p.txt = q.txt) && decide (p.deps = q.deps)))) := by
  have h : listP p.l q.l = decide (p.l = q.l) := by rw [Bool.eq_iff_iff, listP_iff, decide_eq_true_eq]
  unfold sameN
  rw [h]

set_option maxHeartbeats 4000000 in
theorem refSameN (D : Option Addr) (dn dc : Nat) (A : Option Addr) (n c : Nat) (D' : Option Addr) (dn' dc' : Nat) (A' : Option Addr) (n' c' : Nat) (p q : Nm) (w : World) (b : Bool) (hv : NV w w.heap.size D dn dc A n c p) (hv' : NV w w.heap.size D' dn' dc' A' n' c' q) (hle : n ≤ 1000) (hd : dn ≤ 100000) (hb : sameN p q = b) :
    Calls Try.prog 34 #[nmV p.id D dn dc p.txt A n c, nmV q.id D' dn' dc' q.txt A' n' c'] w (BoolEnd w b) := by
  have hbe := hb.symm.trans (sameN_ref p q)
  clear hb
  obtain ⟨⟨o1, o2⟩, ds, t, l⟩ := p
  obtain ⟨⟨v1, v2⟩, ds', t', l'⟩ := q
  dsimp only at hbe hv hv' ⊢
  have HV := Lib.hid hv; have HV' := Lib.hid hv'; have HB := Lib.hid hbe
  have B0 := Lib.hid ((Blk.new w 45 #[.int .i64 o1, .int .i64 o2, .slice D dn dc, strV t, .slice A n c]).alloc (.cells #[.int .i64 v1, .int .i64 v2, .slice D' dn' dc', strV t', .slice A' n' c'] 45))
  have b1 := Blk.new (w.alloc (.cells #[.int .i64 o1, .int .i64 o2, .slice D dn dc, strV t, .slice A n c] 45)) 45 #[.int .i64 v1, .int .i64 v2, .slice D' dn' dc', strV t', .slice A' n' c']
  simp only [World.size_alloc] at b1
  have B1 := Lib.hid b1
  have HBA := Lib.hid (two_box w (.cells #[.int .i64 o1, .int .i64 o2, .slice D dn dc, strV t, .slice A n c] 45) (.cells #[.int .i64 v1, .int .i64 v2, .slice D' dn' dc', strV t', .slice A' n' c'] 45))
  have HN := Lib.hid (show ds.length = dn from hv.dl); have HN' := Lib.hid (show ds'.length = dn' from hv'.dl)
  clear hv hv' hbe b1
  go_enter Try.func34, Try.ntmps34
  go_upto_region 1 with fail
  generalize ((w.alloc (.cells #[.int .i64 o1, .int .i64 o2, .slice D dn dc, strV t, .slice A n c] 45)).alloc (.cells #[.int .i64 v1, .int .i64 v2, .slice D' dn' dc', strV t', .slice A' n' c'] 45)) = w1 at B0 B1 HBA ⊢
  obtain ⟨z, hz⟩ : ∃ z, w.heap.size = z := ⟨_, rfl⟩
  rw [hz] at B0 B1 ⊢
  clear hz
  have x4 := B0.out.cell 4 rfl; have y4 := B1.out.cell 4 rfl
  go_wp2_with fail
  obtain ⟨bl, hbl⟩ : ∃ b, listP l l' = b := ⟨_, rfl⟩
  have hvm := HV.out.mv HBA.out
  have hvm' := HV'.out.mv HBA.out
  refine (refListL A n c A' n' c' l l' w1 bl hvm.l hvm'.l (by omega) hvm.r hvm'.r hbl).mono ?_
  rintro e w2 ⟨rfl, hb3⟩
  have HL := Lib.hid hbl
  replace HBA := Lib.hid (below_mv HBA.out hb3); replace B0 := Lib.hid (B0.out.below hb3 B0.out.lt); replace B1 := Lib.hid (B1.out.below hb3 B1.out.lt)
  clear x4 y4 hbl hvm hvm' hb3
  cases bl with
  | false =>
    go_wp2
    go_ret
    exact ⟨ret_bool (by rw [HB.out, HL.out]; simp), HBA.out⟩
  | true =>
    have x0 := B0.out.cell 0 rfl; have x1 := B0.out.cell 1 rfl; have y0 := B1.out.cell 0 rfl; have y1 := B1.out.cell 1 rfl
    by_cases h1 : o1 = v1
    · subst h1
      by_cases h2 : o2 = v2
      · subst h2
        have x3 := B0.out.cell 3 rfl; have y3 := B1.out.cell 3 rfl
        by_cases h3 : t = t'
        · subst h3
          have x2 := B0.out.cell 2 rfl; have y2 := B1.out.cell 2 rfl
          by_cases h4 : dn = dn'
          · subst h4
            replace HB := Lib.hid (show b = decide (ds = ds') by rw [HB.out, HL.out]; simp)
            clear HL
            go_wp2_with fail
            clear x0 x1 y0 y1 x3 y3 x2 y2
            have z2 := B0.out.cell 2 rfl; have y2 := B1.out.cell 2 rfl
            go_loopw [6] (fun i wr => ∃ k : Nat, k ≤ dn ∧ i = .int .i64 k ∧ ds.take k = ds'.take k ∧ ∃ d, wr = w2.drewN d) (fun i _ => dn - (intOf i).toNat)
            case atStart => exact ⟨0, Nat.zero_le _, rfl, by simp, 0, rfl⟩
            case round =>
              obtain ⟨k, hk, rfl, hall, d, rfl⟩ := hrel
              have HA := Lib.hid hall; clear hall
              by_cases hlt : k < dn
              · obtain ⟨a, x, rfl, _, hx, c0, c1⟩ := (RdI.mv HV.out.dr HBA.out).elem (k := k) (by rw [HN.out]; exact hlt)
                obtain ⟨a', y, rfl, _, hy, g0, g1⟩ := (RdI.mv HV'.out.dr HBA.out).elem (k := k) (by rw [HN'.out]; exact hlt)
                have HX := Lib.hid hx; have HY := Lib.hid hy
                clear hx hy
                obtain ⟨x1, x2⟩ := x
                obtain ⟨y1, y3⟩ := y
                dsimp only at c0 c1 g0 g1
                have hki : (k : Int) < (dn : Int) := by omega
                by_cases he : x1 = y1 ∧ x2 = y3
                · obtain ⟨rfl, rfl⟩ := he
                  have HE : Hid (ds.take (k + 1) = ds'.take (k + 1)) := Lib.hid (by rw [take_at HX.out, take_at HY.out, HA.out])
                  go_wp2
                  go_quiet (fail)
                  go_wp2
                  refine ⟨⟨k + 1, by omega, by go_num, HE.out, _, rfl⟩, by simp [intOf]; omega⟩
                · have HD : Hid (decide (ds = ds') = false) := Lib.hid (decide_eq_false (fun e => he (by
                    subst e
                    have h2 := HX.out
                    rw [HY.out] at h2
                    injection h2 with h2
                    injection h2 with h3 h4
                    exact ⟨h3.symm, h4.symm⟩)))
                  by_cases h1 : x1 = y1
                  · have h2 : (x2 == y3) = false := by rw [beq_eq_false_iff_ne]; exact fun e => he ⟨h1, e⟩
                    subst h1
                    clear he
                    go_wp2
                    go_quiet (fail)
                    go_wp2
                    go_ret
                    exact ⟨ret_bool (by rw [HB.out, HD.out]), below_drewN (below_drewN HBA.out _) _⟩
                  · have h2 : (x1 == y1) = false := by rw [beq_eq_false_iff_ne]; exact h1
                    clear he h1
                    go_wp2
                    go_quiet (fail)
                    go_wp2
                    go_ret
                    exact ⟨ret_bool (by rw [HB.out, HD.out]), below_drewN (below_drewN HBA.out _) _⟩
              · have HD : Hid (decide (ds = ds') = true) := Lib.hid (by
                  have := HA.out
                  rw [List.take_of_length_le (by rw [HN.out]; omega), List.take_of_length_le (by rw [HN'.out]; omega)] at this
                  exact decide_eq_true this)
                go_wp2
                go_ret
                exact ⟨ret_bool (by rw [HB.out, HD.out]), below_drewN HBA.out _⟩
          · have e4 : ((dn : Int) != (dn' : Int)) = true := by rw [bne_iff_ne]; omega
            have HD : Hid (decide (ds = ds') = false) := Lib.hid (decide_eq_false (fun e => h4 (by rw [← HN.out, ← HN'.out, e])))
            clear h4
            go_wp2
            go_ret
            exact ⟨ret_bool (by rw [HB.out, HD.out]; simp), HBA.out⟩
        · have e3 : (t == t') = false := by simpa using h3
          have HT := Lib.hid (decide_eq_false h3)
          clear h3
          go_wp2
          go_ret
          exact ⟨ret_bool (by rw [HB.out, HT.out]; simp), HBA.out⟩
      · have e2 : (o2 == v2) = false := by rw [beq_eq_false_iff_ne]; exact h2
        have HI : Hid (decide ((o1, o2) = (o1, v2)) = false) := Lib.hid (decide_eq_false (fun e => h2 (by injection e)))
        clear h2
        go_wp2
        go_ret
        exact ⟨ret_bool (by rw [HB.out, HI.out]; simp), HBA.out⟩
    · have e1 : (o1 == v1) = false := by rw [beq_eq_false_iff_ne]; exact h1
      have HI : Hid (decide ((o1, o2) = (v1, v2)) = false) := Lib.hid (decide_eq_false (fun e => h1 (by injection e)))
      clear h1
      go_wp2
      go_ret
      exact ⟨ret_bool (by rw [HB.out, HI.out]; simp), HBA.out⟩

end Pn
end Go.Proofs.Ytdnkinajbebkoaa

set_option maxRecDepth 100000
namespace Go.Proofs.Ytdnkinajbebkoaa
open Go.RowKit
set_option linter.unusedVariables false
set_option linter.unusedSimpArgs false
namespace Tg
open Tx Df Sq Hk Tr Pr Fl Pn

set_option maxHeartbeats 2000000 in
theorem refListN (A : Option Addr) (n c : Nat) (A' : Option Addr) (c' : Nat) (l : List Nm) (w : World) (hn : l.length = n) (hle : n ≤ 1000000) (hall : ∀ p ∈ l, Lt p.l ∧ p.l.length ≤ 10 ∧ p.deps.length ≤ 100) (hR : RdN w w.heap.size A l) (hR' : RdN w w.heap.size A' l) :
    Calls Try.prog 14 #[.slice A n c, .slice A' n c'] w (BoolEnd w true) := by
  have HN := Lib.hid hn; have HR := Lib.hid hR; have HR' := Lib.hid hR'; have HA := Lib.hid hall
  clear hn hR hR' hall
  go_enter Try.func14, Try.ntmps14
  go_wp2_with fail
  go_loopw [5] (fun i wr => ∃ k : Nat, k ≤ n ∧ i = .int .i64 (k : Int) ∧ Below w.heap.size w wr) (fun i _ => n - (intOf i).toNat)
  case atStart => exact ⟨0, Nat.zero_le _, rfl, Below.refl _ _⟩
  case round =>
    obtain ⟨k, hk, rfl, hbw⟩ := hrel
    have HBW := Lib.hid hbw; clear hbw
    by_cases hlt : k < n
    · have hki : (k : Int) < (n : Int) := by omega
      obtain ⟨a, x, D, i, j, E, m, d, rfl, hS, hx, c0, c1, c2, c3, c4, c5⟩ := ((HR.out.mv HBW.out).elem (k := k) (by rw [HN.out]; exact hlt))
      obtain ⟨a', x', D', i', j', E', m', d', rfl, hS', hx', g0, g1, g2, g3, g4, g5⟩ := ((HR'.out.mv HBW.out).elem (k := k) (by rw [HN.out]; exact hlt))
      obtain rfl : x = x' := by rw [hx] at hx'; exact Option.some.inj hx'
      have HX := Lib.hid (HA.out x (List.mem_of_getElem? hx)); have HP := Lib.hid c5; have HP' := Lib.hid g5
      clear hx hx' c5 g5
      have hba : (a.add (k * 5)).block < wr.heap.size := by rw [add_block]; exact hS
      have hba' : (a'.add (k * 5)).block < wr.heap.size := by rw [add_block]; exact hS'
      have HC : Hid (∀ W, Below wr.heap.size wr W → W.cell? (a.add (k * 5)) = some (.int .i64 x.id.1) ∧ W.cell? (⟨(a.add (k * 5)).block, (a.add (k * 5)).off + 1, none⟩) = some (.int .i64 x.id.2) ∧ W.cell? (⟨(a.add (k * 5)).block, (a.add (k * 5)).off + 2, none⟩) = some (.slice D i j) ∧ W.cell? (⟨(a.add (k * 5)).block, (a.add (k * 5)).off + 3, none⟩) = some (strV x.txt) ∧ W.cell? (⟨(a.add (k * 5)).block, (a.add (k * 5)).off + 4, none⟩) = some (.slice E m d) ∧ W.cell? (a'.add (k * 5)) = some (.int .i64 x.id.1) ∧ W.cell? (⟨(a'.add (k * 5)).block, (a'.add (k * 5)).off + 1, none⟩) = some (.int .i64 x.id.2) ∧ W.cell? (⟨(a'.add (k * 5)).block, (a'.add (k * 5)).off + 2, none⟩) = some (.slice D' i' j') ∧ W.cell? (⟨(a'.add (k * 5)).block, (a'.add (k * 5)).off + 3, none⟩) = some (strV x.txt) ∧ W.cell? (⟨(a'.add (k * 5)).block, (a'.add (k * 5)).off + 4, none⟩) = some (.slice E' m' d')) := Lib.hid (fun W hb => ⟨cellB c0 hb hba, cellB c1 hb hba, cellB c2 hb hba, cellB c3 hb hba, cellB c4 hb hba, cellB g0 hb hba', cellB g1 hb hba', cellB g2 hb hba', cellB g3 hb hba', cellB g4 hb hba'⟩)
      have HD := Lib.hid (show Below wr.heap.size wr wr.drew from below_drewN (Below.refl _ _) 1)
      have HKD := Lib.hid (HC.out wr.drew HD.out)
      have PX : Hid (∀ W, Below wr.heap.size wr W → Calls Try.prog 34 #[nmV x.id D i j x.txt E m d, nmV x.id D' i' j' x.txt E' m' d'] W (BoolEnd W true)) := Lib.hid (fun W hb => refSameN D i j E m d D' i' j' E' m' d' x x W true (HP.out.mv hb) (HP'.out.mv hb) (by have h1 := HP.out.l; have := HX.out; omega) (by have h1 := HP.out.dl; have := HX.out; omega) (sameN_self _))
      go_upto_region 6 with fail
      go_region_held3 (fun W => W.cell? (a.add (k * 5)) = some (.int .i64 x.id.1) ∧ W.cell? (⟨(a.add (k * 5)).block, (a.add (k * 5)).off + 1, none⟩) = some (.int .i64 x.id.2) ∧ W.cell? (⟨(a.add (k * 5)).block, (a.add (k * 5)).off + 2, none⟩) = some (.slice D i j) ∧ W.cell? (⟨(a.add (k * 5)).block, (a.add (k * 5)).off + 3, none⟩) = some (strV x.txt) ∧ W.cell? (⟨(a.add (k * 5)).block, (a.add (k * 5)).off + 4, none⟩) = some (.slice E m d) ∧ W.cell? (a'.add (k * 5)) = some (.int .i64 x.id.1) ∧ W.cell? (⟨(a'.add (k * 5)).block, (a'.add (k * 5)).off + 1, none⟩) = some (.int .i64 x.id.2) ∧ W.cell? (⟨(a'.add (k * 5)).block, (a'.add (k * 5)).off + 2, none⟩) = some (.slice D' i' j') ∧ W.cell? (⟨(a'.add (k * 5)).block, (a'.add (k * 5)).off + 3, none⟩) = some (strV x.txt) ∧ W.cell? (⟨(a'.add (k * 5)).block, (a'.add (k * 5)).off + 4, none⟩) = some (.slice E' m' d'))
        (first | (with_reducible exact HKD.out) | (with_reducible exact hS1))
        (first
          | (go_at_call 34; (with_reducible refine (PX.out wr.drew HD.out).mono ?_); rintro e w2 ⟨rfl, hb2⟩; have hbu := HD.out.trans (hb2.mono HD.out.size); have hS1 := HC.out w2 hbu; have HBW2 := Lib.hid (below_mv HBW.out hbu); clear hb2 hbu))
      clear hS1 HKD HC PX HD c0 c1 c2 c3 c4 g0 g1 g2 g3 g4
      go_wp2_with fail
      exact ⟨⟨k + 1, by omega, by go_num, HBW2.out⟩, by simp [intOf]; omega⟩
    · go_wp2
      go_ret
      exact ⟨rfl, HBW.out⟩

/-- A light patch of few changes. -/
abbrev Lit (p : Nm) : Prop := Lt p.l ∧ p.l.length ≤ 10 ∧ p.deps.length ≤ 100
theorem pass_lit {p q x y : Nm} (h : passN p q = some (x, y)) (hp : Lit p) (hq : Lit q) : Lit x ∧ Lit y := out_few (bo := true) (by rw [h]; rfl) (by rw [h]; rfl) hp hq
theorem over_lit {l m : List Nm} {q x : Nm} {bo : Bool} (ho : outO (overN l q) = (x, m)) (hs : (overN l q).isSome = bo) (hl : ∀ p ∈ l, Lit p) (hq : Lit q) : Lit x ∧ ∀ y ∈ m, Lit y := by
  cases h : overN l q with
  | none =>
    rw [h] at ho
    injection ho with h1 h2
    subst h1 h2
    exact ⟨⟨noN_lt, Nat.zero_le _, Nat.zero_le _⟩, fun y hy => by cases hy⟩
  | some z =>
    rw [h] at ho
    have e : overN l q = some (x, m) := by rw [h]; exact congrArg some ho
    exact one_all (Q := Lit) passN (fun h hp hq => pass_lit h hp hq) e hl hq
theorem over_all {l : List Nm} (hl : ∀ p ∈ l, Lit p) : ∀ p ∈ l, Lt p.l ∧ p.l.length ≤ 1000 ∧ p.deps.length ≤ 100000 := fun p hp => ⟨(hl p hp).1, by have := (hl p hp).2.1; omega, by have := (hl p hp).2.2; omega⟩

end Tg
end Go.Proofs.Ytdnkinajbebkoaa

set_option maxRecDepth 100000
namespace Go.Proofs.Ytdnkinajbebkoaa
open Go.RowKit
set_option linter.unusedVariables false
set_option linter.unusedSimpArgs false
namespace Bb
open Tx Df Sq Hk Tr Pr Fl Pn Tg

section
variable {R : Nat → Prop} {w W W' : World} {v u : Value} {s g : List Nm}
/-- What is new lies in no row, and in no box. -/
theorem pr_since (h : Rows3 R w W v u g s) : ∀ b, Since W W' b → PR R W' v u b := fun b hb =>
  ⟨hb.2, fun e => by have := (h.rl b e).2; have := hb.1; omega, fun e => by have := Tg.ownT_lt h.a b e.symm; have := hb.1; omega, fun e => by have := Tg.ownT_lt h.b b e.symm; have := hb.1; omega⟩
end

set_option maxRecDepth 100000 in
set_option maxHeartbeats 4000000 in
theorem KeepC {R : Nat → Prop} {w W : World} {v u : Value} {s g : List Nm} (K : Nat) (D : Option Addr) (dn dc : Nat) (E : Option Addr) (m k : Nat) (p : Nm) (hR : R K) (h : Rows3 R w W v u g s) (hb : Blk W K 58 #[v]) (hm : m ≤ 1000) (hd : dn ≤ 100000) (hl : Lt p.l) (hg : g.length ≤ 1000) (hv : NV W W.heap.size D dn dc E m k p) :
    Calls Try.prog 31 #[.pointer (some ⟨K, 0, none⟩), nmV p.id D dn dc p.txt E m k] W (KeepEnd R K w v u (g ++ [p]) s W) := by
  obtain ⟨Av, cv, rfl, hcv⟩ := Tg.ownT_slice h.a
  obtain ⟨nv, hnv⟩ : ∃ nv, g.length = nv := ⟨_, rfl⟩
  rw [hnv] at h hb hcv hg ⊢
  have HNV := Lib.hid hnv
  have hba : Below W.heap.size W (W.alloc (.cells #[.int .i64 p.id.1, .int .i64 p.id.2, .slice D dn dc, strV p.txt, .slice E m k] 45)) := (Below.refl _ _).alloc (Nat.le_refl _) _
  have HBZ := Lib.hid (Blk.new W 45 #[.int .i64 p.id.1, .int .i64 p.id.2, .slice D dn dc, strV p.txt, .slice E m k])
  have HB := Lib.hid (hb.below hba hb.lt); have HO := Lib.hid (h.below hba); have HV := Lib.hid (NV.mv hv hba); have HBA := Lib.hid hba
  have HLK : Hid (K < W.heap.size) := Lib.hid hb.lt
  have HM := Lib.hid hm; have HD := Lib.hid hd; have HLP := Lib.hid hl; have HRK := Lib.hid hR
  have HN1 : Hid (nv + 1 ≤ 100000) := Lib.hid (by omega)
  have HBW := Lib.hid h.bw.size
  clear hba hb h hv hnv hcv hm hd hl hR hg
  go_enter Try.func31, Try.ntmps31
  go_upto_region 1 with fail
  generalize (W.alloc (.cells #[.int .i64 p.id.1, .int .i64 p.id.2, .slice D dn dc, strV p.txt, .slice E m k] 45)) = W1 at HBZ HB HO HV HBA ⊢
  obtain ⟨z, hz⟩ : ∃ z, W.heap.size = z := ⟨_, rfl⟩
  rw [hz] at HBZ ⊢
  have HZ := Lib.hid hz
  clear hz
  have b0 := HB.out.cell 0 rfl; have bl := HB.out.lt
  have z0 := HBZ.out.cell 0 rfl; have z1 := HBZ.out.cell 1 rfl; have z2 := HBZ.out.cell 2 rfl; have z3 := HBZ.out.cell 3 rfl; have z4 := HBZ.out.cell 4 rfl; have zl := HBZ.out.lt
  have HDR := Lib.hid (show Below W1.heap.size W1 W1.drew from below_drewN (Below.refl _ _) 1)
  have PO := Lib.hid (OwnNC D dn dc E m k p W1.drew HM.out HD.out HLP.out (HV.out.mv HDR.out))
  go_region_law (first
    | (go_simp; go_at_call 53; (with_reducible refine (PO.out).mono ?_); rintro e u1 ⟨D1, c1, A1, k1, rfl, hn, hb1⟩; have HU1 := Lib.hid (below_mv HDR.out hb1); have hx : Below u1.heap.size u1 (u1.alloc (.cells #[.int .i64 p.id.1, .int .i64 p.id.2, .slice D1 dn c1, strV p.txt, .slice A1 m k1] 45)) := (Below.refl _ _).alloc (Nat.le_refl _) _; have HU2 := Lib.hid (below_mv HU1.out hx); have HO2 := Lib.hid (HO.out.below HU2.out); have HNG := Lib.hid ((hn.to_ (fun b _ hl => hx.block b hl)).mono fun b hb => pr_since HO.out b (⟨Nat.le_trans HDR.out.size hb.1, Nat.lt_of_lt_of_le hb.2 hx.size⟩ : Since W1 (u1.alloc (.cells #[.int .i64 p.id.1, .int .i64 p.id.2, .slice D1 dn c1, strV p.txt, .slice A1 m k1] 45)) b)); have HSR := Lib.hid (one_src (Blk.new u1 45 (Tg.nmC p D1 dn c1 A1 m k1)) HNG.out); have HSS : Hid (∀ b, PR R (u1.alloc (.cells #[.int .i64 p.id.1, .int .i64 p.id.2, .slice D1 dn c1, strV p.txt, .slice A1 m k1] 45)) (.slice Av nv cv) u b → b < (u1.alloc (.cells #[.int .i64 p.id.1, .int .i64 p.id.2, .slice D1 dn c1, strV p.txt, .slice A1 m k1] 45)).heap.size ∧ some b ≠ (Value.slice Av nv cv).ownBlock) := Lib.hid (fun b hb => ⟨hb.1, hb.2.2.1⟩); have HBS := Lib.hid HO2.out.bw.size; have HLL : Hid (g.length + 1 ≤ 100000) := Lib.hid (by rw [HNV.out]; exact HN1.out); have B1 := HB.out.below HU1.out HB.out.lt; have b01 := B1.cell 0 rfl; have bl1 := B1.lt; have HB1 := Lib.hid (HB.out.below HU2.out HB.out.lt); clear hn hb1 hx B1)
    | ((with_reducible refine step_ownT (W := (u1.alloc (.cells #[.int .i64 p.id.1, .int .i64 p.id.2, .slice D1 dn c1, strV p.txt, .slice A1 m k1] 45))) (base := w.heap.size) (c := 1) ?_ (.tmp 8) (.tmp 11) ?_ ?_ ?_ HO2.out.a HSR.out ?_ HLL.out HSS.out HBS.out ?_); rfl; rfl; rfl; rfl; rfl; intro v' W' ho hg hw; obtain ⟨A2, c2, hv2, hc2⟩ := Tg.ownT_slice ho; obtain ⟨n2, hn2⟩ : ∃ n, List.length (g ++ [p]) = n := ⟨_, rfl⟩; rw [hn2] at hv2; clear hn2 hc2; subst hv2; have HR3 := Lib.hid (HO2.out.app ho hg hw); have HB3 := Lib.hid (HB1.out.gr hg (fun e => HO2.out.na K e.symm HRK.out)); have HMI := Lib.hid (((mine_below HBA.out : Mine (RK K (.slice Av nv cv)) W W1).trans (mine_below HU2.out : Mine (RK K (.slice Av nv cv)) W1 (u1.alloc (.cells #[.int .i64 p.id.1, .int .i64 p.id.2, .slice D1 dn c1, strV p.txt, .slice A1 m k1] 45))) (fun b hb => .inl hb)).trans (mine_grown hg (fun k e => .inr e.symm) : Mine (RK K (.slice Av nv cv)) (u1.alloc (.cells #[.int .i64 p.id.1, .int .i64 p.id.2, .slice D1 dn c1, strV p.txt, .slice A1 m k1] 45)) W') (fun b hb => .inl hb)); have b1 := HB3.out.cell 0 rfl; have bf1 := HB3.out.frozen 0; have bl3 := HB3.out.lt; clear ho hg hw))
  all_goals
    go_end0
    exact ⟨_, rfl, HR3.out.set HRK.out 0 _, HB3.out.set 0 _, HMI.out.trans (mine_set _ (.inl rfl : RK K (.slice Av nv cv) K) 0 _) (fun b hb => .inl hb)⟩

/-- What stands when Over has told: the patch in a box of its own. -/
def OverLay (w : World) (x : Nm) (ys : List Nm) (v : Value) (F : Nat) (W : World) : Prop :=
  ∃ D d e E m k, Blk W F 45 (Tg.nmC x D d e E m k) ∧ NG W (fun b => (Since w W b ∧ some b ≠ v.ownBlock) ∧ b ≠ F) D d e E m k x ∧ Tg.OwnT W (fun b => (Since w W b ∧ some b ≠ v.ownBlock) ∧ b ≠ F) w.heap.size v ys ∧ w.heap.size ≤ F ∧ v.ownBlock ≠ some F ∧ Below w.heap.size w W
theorem over_lay_a {w u1 : World} {x : Nm} {ys : List Nm} {D E : Option Addr} {d c m k : Nat} {v : Value} (hn : NG u1 (fun b => Since w u1 b ∧ some b ≠ v.ownBlock) D d c E m k x) (ho : Tg.OwnT u1 (fun b => Since w u1 b ∧ some b ≠ v.ownBlock) w.heap.size v ys) (hb : Below w.heap.size w u1) :
    OverLay w x ys v u1.heap.size (u1.alloc (.cells (Tg.nmC x D d c E m k) 45)) := by
  have hx : Below u1.heap.size u1 (u1.alloc (.cells (Tg.nmC x D d c E m k) 45)) := (Below.refl _ _).alloc (Nat.le_refl _) _
  have up : ∀ b, (Since w u1 b ∧ some b ≠ v.ownBlock) → ((Since w (u1.alloc (.cells (Tg.nmC x D d c E m k) 45)) b ∧ some b ≠ v.ownBlock) ∧ b ≠ u1.heap.size) := fun b h => ⟨⟨⟨h.1.1, Nat.lt_of_lt_of_le h.1.2 hx.size⟩, h.2⟩, Nat.ne_of_lt h.1.2⟩
  exact ⟨D, d, c, E, m, k, Blk.new _ _ _, (hn.to_ (fun b _ hl => hx.block b hl)).mono up, (ho.below hx).mono up, hb.size, fun e => absurd (Tg.ownT_lt ho _ e) (Nat.lt_irrefl _), below_mv hb hx⟩
theorem over_lay_b {w w0 u1 : World} {x : Nm} {ys : List Nm} {D E : Option Addr} {d c m k F : Nat} {v : Value} (hn : NG u1 (fun b => Since w0 u1 b ∧ some b ≠ v.ownBlock) D d c E m k x) (ho : Tg.OwnT u1 (fun b => Since w0 u1 b ∧ some b ≠ v.ownBlock) w0.heap.size v ys) (hb : Below w0.heap.size w0 u1) (hw : Below w.heap.size w w0) (hF : w.heap.size ≤ F) (hf : Blk w0 F 45 #[.int .i64 0, .int .i64 0, .slice none 0 0, .string ⟨#[]⟩, .slice none 0 0]) :
    OverLay w x ys v F (((((u1.setCell ⟨F, 0, none⟩ (.int .i64 x.id.1)).setCell ⟨F, 1, none⟩ (.int .i64 x.id.2)).setCell ⟨F, 2, none⟩ (.slice D d c)).setCell ⟨F, 3, none⟩ (strV x.txt)).setCell ⟨F, 4, none⟩ (.slice E m k)) := by
  have hlt := hf.lt
  have al := alike_set5 u1 F (.int .i64 x.id.1) (.int .i64 x.id.2) (.slice D d c) (strV x.txt) (.slice E m k)
  have hs : u1.heap.size = (((((u1.setCell ⟨F, 0, none⟩ (.int .i64 x.id.1)).setCell ⟨F, 1, none⟩ (.int .i64 x.id.2)).setCell ⟨F, 2, none⟩ (.slice D d c)).setCell ⟨F, 3, none⟩ (strV x.txt)).setCell ⟨F, 4, none⟩ (.slice E m k)).heap.size := by simp
  have hne : ∀ b, (Since w0 u1 b ∧ some b ≠ v.ownBlock) → b ≠ F := fun b h e => by have := h.1.1; omega
  have ge := fun k e => Tg.ownT_ge ho k e
  have hv : v.ownBlock ≠ some F := fun e => by have := ge F e; omega
  have hsz := hw.size
  have up : ∀ b, (Since w0 u1 b ∧ some b ≠ v.ownBlock) → ((Since w (((((u1.setCell ⟨F, 0, none⟩ (.int .i64 x.id.1)).setCell ⟨F, 1, none⟩ (.int .i64 x.id.2)).setCell ⟨F, 2, none⟩ (.slice D d c)).setCell ⟨F, 3, none⟩ (strV x.txt)).setCell ⟨F, 4, none⟩ (.slice E m k)) b ∧ some b ≠ v.ownBlock) ∧ b ≠ F) := fun b h => ⟨⟨⟨Nat.le_trans hsz h.1.1, by rw [← hs]; exact h.1.2⟩, h.2⟩, hne b h⟩
  exact ⟨D, d, c, E, m, k, Tg.blk5 (hf.below hb hlt) _ _ _ _ _, (hn.to_ (al.mono hne)).mono up, ((ho.set5 (fun e => hv e.symm) (fun h => hne F h rfl) _ _ _ _ _).mono up).base hsz, hF, hv, below_set5 (below_mv hw hb) hF _ _ _ _ _⟩
set_option maxRecDepth 100000 in
set_option maxHeartbeats 8000000 in
theorem AheadC {R : Nat → Prop} {w W : World} {v u : Value} {s g : List Nm} (K : Nat) (D : Option Addr) (dn dc : Nat) (E : Option Addr) (m k : Nat) (p : Nm) (hR : R K) (h : Rows3 R w W v u g s) (hb : Blk W K 58 #[v]) (hp : Tg.Lit p) (hg : ∀ x ∈ g, Tg.Lit x) (hgl : g.length ≤ 1000) (hv : NV W W.heap.size D dn dc E m k p) :
    Calls Try.prog 30 #[.pointer (some ⟨K, 0, none⟩), nmV p.id D dn dc p.txt E m k] W (GoneEnd R K w v u g s (overN g p) W) := by
  obtain ⟨Av, cv, rfl, hcv, hrd⟩ := Tg.rdN_ownT h.a pr_lt
  obtain ⟨nv, hnv⟩ : ∃ nv, g.length = nv := ⟨_, rfl⟩
  rw [hnv] at h hb hcv hgl ⊢
  have HNV := Lib.hid hnv
  obtain ⟨⟨x, ys⟩, hoo⟩ : ∃ z, outO (overN g p) = z := ⟨_, rfl⟩
  obtain ⟨bo, hbo⟩ : ∃ b, (overN g p).isSome = b := ⟨_, rfl⟩
  have HOO := Lib.hid hoo; have HBO := Lib.hid hbo
  have hba := two_box W (.cells #[.int .i64 p.id.1, .int .i64 p.id.2, .slice D dn dc, strV p.txt, .slice E m k] 45) (.cells #[.int .i64 0, .int .i64 0, .slice none 0 0, .string ⟨#[]⟩, .slice none 0 0] 45)
  have b0 := (Blk.new W 45 #[.int .i64 p.id.1, .int .i64 p.id.2, .slice D dn dc, strV p.txt, .slice E m k]).alloc (.cells #[.int .i64 0, .int .i64 0, .slice none 0 0, .string ⟨#[]⟩, .slice none 0 0] 45)
  have b1 := Blk.new (W.alloc (.cells #[.int .i64 p.id.1, .int .i64 p.id.2, .slice D dn dc, strV p.txt, .slice E m k] 45)) 45 #[.int .i64 0, .int .i64 0, .slice none 0 0, .string ⟨#[]⟩, .slice none 0 0]
  simp only [World.size_alloc] at b1
  have hs1 : ((W.alloc (.cells #[.int .i64 p.id.1, .int .i64 p.id.2, .slice D dn dc, strV p.txt, .slice E m k] 45)).alloc (.cells #[.int .i64 0, .int .i64 0, .slice none 0 0, .string ⟨#[]⟩, .slice none 0 0] 45)).heap.size = W.heap.size + 2 := by simp
  have HLK : Hid (K < W.heap.size) := Lib.hid hb.lt
  have HRK := Lib.hid hR; have HROW := Lib.hid h; have HBK := Lib.hid hb; have HV := Lib.hid hv; have HRD := Lib.hid hrd
  have HLP := Lib.hid hp; have HLG := Lib.hid hg
  clear hoo hbo hnv hb h hv hcv hR hp hg hrd
  go_enter Try.func30, Try.ntmps30
  go_upto_region 1 with fail
  generalize ((W.alloc (.cells #[.int .i64 p.id.1, .int .i64 p.id.2, .slice D dn dc, strV p.txt, .slice E m k] 45)).alloc (.cells #[.int .i64 0, .int .i64 0, .slice none 0 0, .string ⟨#[]⟩, .slice none 0 0] 45)) = W1 at b0 b1 hba hs1 ⊢
  obtain ⟨z, hz⟩ : ∃ z, W.heap.size = z := ⟨_, rfl⟩
  rw [hz] at b0 b1 hs1 ⊢
  have HZ := Lib.hid hz; have HB0 := Lib.hid b0; have HB1 := Lib.hid b1; have HBA := Lib.hid hba; have HS1 := Lib.hid hs1
  have HK1 := Lib.hid (HBK.out.below hba HBK.out.lt)
  have HR1 : Hid (Rows3 (fun b => R b ∨ b = z ∨ b = z + 1) w W1 (.slice Av nv cv) u g s) := Lib.hid (HROW.out.more (fun b e => e.imp id fun e => by rcases e with e | e <;> omega) hba (fun b e => by rcases e with e | e | e; (have := (HROW.out.rl b e).2; omega); omega; omega))
  have PO : Hid (∀ X, Below W1.heap.size W1 X → Calls Try.prog 25 #[.slice Av nv cv, nmV p.id D dn dc p.txt E m k] X (NOverEnd X x ys bo)) := Lib.hid (fun X hX => OverN Av nv cv g D dn dc E m k p X hgl (by have h1 := HV.out.l; have h2 := HLP.out.2.1; omega) (by have h1 := HV.out.dl; have h2 := HLP.out.2.2; omega) HLP.out.1 (RdN.mv (RdN.mv HRD.out HBA.out) hX) HNV.out (over_all HLG.out) ((HV.out.mv HBA.out).mv hX) x ys bo HOO.out HBO.out)
  have HC : Hid (∀ X, Below W1.heap.size W1 X → X.cell? ⟨K, 0, none⟩ = some (.slice Av nv cv) ∧ X.cell? ⟨z, 0, none⟩ = some (.int .i64 p.id.1) ∧ X.cell? ⟨z, 1, none⟩ = some (.int .i64 p.id.2) ∧ X.cell? ⟨z, 2, none⟩ = some (.slice D dn dc) ∧ X.cell? ⟨z, 3, none⟩ = some (strV p.txt) ∧ X.cell? ⟨z, 4, none⟩ = some (.slice E m k)) := Lib.hid (fun X hX => have h1 := HB0.out.below hX HB0.out.lt; ⟨(HK1.out.below hX HK1.out.lt).cell 0 rfl, h1.cell 0 rfl, h1.cell 1 rfl, h1.cell 2 rfl, h1.cell 3 rfl, h1.cell 4 rfl⟩)
  have HF : Hid (∀ (X : World) (F : Nat) (v0 v1 v2 v3 v4 : Value), Below W1.heap.size W1 X → W1.heap.size ≤ F → (((((X.setCell ⟨F, 0, none⟩ v0).setCell ⟨F, 1, none⟩ v1).setCell ⟨F, 2, none⟩ v2).setCell ⟨F, 3, none⟩ v3).setCell ⟨F, 4, none⟩ v4).cell? ⟨K, 0, none⟩ = some (.slice Av nv cv) ∧ (((((X.setCell ⟨F, 0, none⟩ v0).setCell ⟨F, 1, none⟩ v1).setCell ⟨F, 2, none⟩ v2).setCell ⟨F, 3, none⟩ v3).setCell ⟨F, 4, none⟩ v4).cell? ⟨z, 0, none⟩ = some (.int .i64 p.id.1) ∧ (((((X.setCell ⟨F, 0, none⟩ v0).setCell ⟨F, 1, none⟩ v1).setCell ⟨F, 2, none⟩ v2).setCell ⟨F, 3, none⟩ v3).setCell ⟨F, 4, none⟩ v4).cell? ⟨z, 1, none⟩ = some (.int .i64 p.id.2) ∧ (((((X.setCell ⟨F, 0, none⟩ v0).setCell ⟨F, 1, none⟩ v1).setCell ⟨F, 2, none⟩ v2).setCell ⟨F, 3, none⟩ v3).setCell ⟨F, 4, none⟩ v4).cell? ⟨z, 2, none⟩ = some (.slice D dn dc) ∧ (((((X.setCell ⟨F, 0, none⟩ v0).setCell ⟨F, 1, none⟩ v1).setCell ⟨F, 2, none⟩ v2).setCell ⟨F, 3, none⟩ v3).setCell ⟨F, 4, none⟩ v4).cell? ⟨z, 3, none⟩ = some (strV p.txt) ∧ (((((X.setCell ⟨F, 0, none⟩ v0).setCell ⟨F, 1, none⟩ v1).setCell ⟨F, 2, none⟩ v2).setCell ⟨F, 3, none⟩ v3).setCell ⟨F, 4, none⟩ v4).cell? ⟨z, 4, none⟩ = some (.slice E m k)) := Lib.hid (fun X F v0 v1 v2 v3 v4 hX hF => HC.out _ (below_set5 hX hF v0 v1 v2 v3 v4))
  have HKB := Lib.hid (show Below W1.heap.size W1 W1.drew from below_drewN (Below.refl _ _) 1)
  have HKD := Lib.hid (HC.out W1.drew HKB.out)
  have HDZ := Lib.hid (first_d0 W1 #[.int .i64 0, .int .i64 0, .slice none 0 0, .string ⟨#[]⟩, .slice none 0 0])
  have HLE := Lib.hid (Nat.le_refl W1.heap.size)
  have HS0 := Lib.hid (HC.out W1 (Below.refl _ _))
  clear hz b0 b1 hba hs1
  go_cut [6, 7, 8] from 9 (fun s6 s7 s8 wx => ∃ F v', s6 = .pointer (some ⟨F, 0, none⟩) ∧ s7 = v' ∧ s8 = .bool bo ∧ OverLay W1 x ys v' F wx)
  case first =>
    obtain ⟨k0, z0, z1, z2, z3, z4⟩ := HS0.out
    have hlk := HK1.out.lt; have hlz := HB0.out.lt
    go_region_held3 (fun X => X.cell? ⟨K, 0, none⟩ = some (.slice Av nv cv) ∧ X.cell? ⟨z, 0, none⟩ = some (.int .i64 p.id.1) ∧ X.cell? ⟨z, 1, none⟩ = some (.int .i64 p.id.2) ∧ X.cell? ⟨z, 2, none⟩ = some (.slice D dn dc) ∧ X.cell? ⟨z, 3, none⟩ = some (strV p.txt) ∧ X.cell? ⟨z, 4, none⟩ = some (.slice E m k))
      (first | (with_reducible exact HKD.out) | (with_reducible exact HC.out _ HDZ.out.1) | (with_reducible exact hS1) | (with_reducible exact HC.out _ HE1.out) | (with_reducible exact HC.out _ HE2.out) | (with_reducible exact HF.out _ _ _ _ _ _ _ HU.out HLE.out))
      (first
        | (go_at_call 25; (with_reducible refine (PO.out W1.drew HKB.out).mono ?_); rintro e u1 ⟨D1, d1, e1, E1, m1, k1, v1, rfl, hn, ho, hb⟩; have hbu := below_mv HKB.out hb; have hS1 := HC.out u1 hbu; have HU := Lib.hid hbu; have HE1 := Lib.hid (hbu.alloc hbu.size (.cells #[.int .i64 0, .int .i64 0, .slice none 0 0, .string ⟨#[]⟩, .slice none 0 0] 45)); have HE2 := Lib.hid (hbu.alloc hbu.size (.cells #[.int .i64 x.id.1, .int .i64 x.id.2, .slice D1 d1 e1, strV x.txt, .slice E1 m1 k1] 45)); have HN := Lib.hid (show NG u1 (fun b => Since W1 u1 b ∧ some b ≠ v1.ownBlock) D1 d1 e1 E1 m1 k1 x from hn); have HO := Lib.hid (show Tg.OwnT u1 (fun b => Since W1 u1 b ∧ some b ≠ v1.ownBlock) W1.heap.size v1 ys from ho); clear hn ho hb hbu)
        | (go_at_call 25; (with_reducible refine (PO.out (W1.alloc (.cells #[.int .i64 0, .int .i64 0, .slice none 0 0, .string ⟨#[]⟩, .slice none 0 0] 45)).drew HDZ.out.1).mono ?_); rintro e u1 ⟨D1, d1, e1, E1, m1, k1, v1, rfl, hn, ho, hb⟩; have hbu := below_mv HDZ.out.1 hb; have hS1 := HC.out u1 hbu; have HU := Lib.hid hbu; have tf2 := HDZ.out.2.below hb HDZ.out.2.lt; have y0 := tf2.cell 0 rfl; have y1 := tf2.cell 1 rfl; have y2 := tf2.cell 2 rfl; have y3 := tf2.cell 3 rfl; have y4 := tf2.cell 4 rfl; have fz0 := tf2.frozen 0; have fz1 := tf2.frozen 1; have fz2 := tf2.frozen 2; have fz3 := tf2.frozen 3; have fz4 := tf2.frozen 4; have ylt := tf2.lt; have HN := Lib.hid hn; have HO := Lib.hid ho; have HB := Lib.hid hb; clear hn ho hb hbu))
    all_goals (try go_wp2_with fail)
    all_goals go_meet
    (with_reducible exact ⟨_, _, rfl, rfl, rfl, over_lay_a HN.out HO.out HU.out⟩)
    (with_reducible exact ⟨_, _, rfl, rfl, rfl, over_lay_b HN.out HO.out HB.out HDZ.out.1 HLE.out HDZ.out.2⟩)
  case rest =>
    obtain ⟨F, v', rfl, rfl, rfl, D1, d1, e1, E1, m1, k1, hbf, hng, hot, hF, hvF, hb⟩ := hcut
    clear HC HF HKD HKB HDZ HLE HS0 PO
    have HBF := Lib.hid hbf; have HNG := Lib.hid hng; have HOT := Lib.hid hot; have HFW := Lib.hid hF; have HBW := Lib.hid hb
    have HK2 := Lib.hid (HK1.out.below hb HK1.out.lt); have HY := Lib.hid (HB1.out.below hb HB1.out.lt)
    have hy := HY.out
    have y0 := hy.cell 0 rfl; have y1 := hy.cell 1 rfl; have y2 := hy.cell 2 rfl; have y3 := hy.cell 3 rfl; have y4 := hy.cell 4 rfl; have f0 := hy.frozen 0; have f1 := hy.frozen 1; have f2 := hy.frozen 2; have f3 := hy.frozen 3; have f4 := hy.frozen 4; have hyl := hy.lt; have hyl0 := Nat.lt_of_succ_lt hyl
    have hzw := HZ.out; have hs1 := HS1.out
    cases bo with
    | false =>
      clear hbf hng hot hF hvF hb hy
      have HE : Hid (overN g p = none) := Lib.hid (by have h := HBO.out; cases ho : overN g p with | none => rfl | some q => rw [ho] at h; cases h)
      go_wp2_with fail
      have b4 := Tg.blk5 HY.out (.int .i64 0) (.int .i64 0) (.slice none 0 0) (.string ⟨#[]⟩) (.slice none 0 0)
      have hr4 := ((HR1.out.below HBW.out).set5 (b := z + 1) (.inr (.inr rfl)) (.int .i64 0) (.int .i64 0) (.slice none 0 0) (.string ⟨#[]⟩) (.slice none 0 0)).less (fun b hb => .inl hb)
      have hk4 := blk_set5 HK2.out (g := z + 1) (by have := HLK.out; omega) (.int .i64 0) (.int .i64 0) (.slice none 0 0) (.string ⟨#[]⟩) (.slice none 0 0)
      have hm4 := (mine_below (below_mv HBA.out HBW.out) : Mine (fun b => b = K) W wc).set5 (b := z + 1) (.inr (by omega)) (.int .i64 0) (.int .i64 0) (.slice none 0 0) (.string ⟨#[]⟩) (.slice none 0 0)
      generalize (World.setCell (World.setCell (World.setCell (World.setCell (World.setCell wc ⟨z + 1, 0, none⟩ (.int .i64 0)) ⟨z + 1, 1, none⟩ (.int .i64 0)) ⟨z + 1, 2, none⟩ (.slice none 0 0)) ⟨z + 1, 3, none⟩ (.string ⟨#[]⟩)) ⟨z + 1, 4, none⟩ (.slice none 0 0)) = w9 at *
      have t0 := b4.cell 0 rfl; have t1 := b4.cell 1 rfl; have t2 := b4.cell 2 rfl; have t3 := b4.cell 3 rfl; have t4 := b4.cell 4 rfl
      refine bodyPost_ret (v := .tuple #[.agg #[.int .i64 0, .int .i64 0, .slice none 0 0, .string ⟨#[]⟩, .slice none 0 0], .bool false]) (by simp [results, Try.results30, go_sem, t0, t1, t2, t3, t4]) rfl ?_
      rw [HE.out]
      exact ⟨none, 0, 0, none, 0, 0, _, rfl, ng_no _ _, hr4, hk4, hm4⟩
    | true =>
      have HE : Hid (overN g p = some (x, ys)) := Lib.hid (by have h := HBO.out; have h2 := HOO.out; cases ho : overN g p with | none => rw [ho] at h; cases h | some q => rw [ho] at h2; exact congrArg some h2)
      obtain ⟨A2, c2, rfl, hc2⟩ := Tg.ownT_slice hot
      obtain ⟨n2, hn2⟩ : ∃ n, ys.length = n := ⟨_, rfl⟩
      rw [hn2] at HNG HOT hvF ⊢
      have HVF := Lib.hid hvF
      clear hng hot hc2 hn2 hvF
      have kk0 := HK2.out.cell 0 rfl; have kf := HK2.out.frozen 0; have hkl := HK2.out.lt
      have q0 := hbf.cell 0 rfl; have q1 := hbf.cell 1 rfl; have q2 := hbf.cell 2 rfl; have q3 := hbf.cell 3 rfl; have q4 := hbf.cell 4 rfl; have hfl := hbf.lt
      have HKZ : Hid (K < z) := Lib.hid (by have := HLK.out; omega)
      have hne1 : ¬ K = z + 1 := by have := HKZ.out; omega
      have hne2 : ¬ F = z + 1 := by omega
      have hne3 : ¬ F = K := by have := HKZ.out; omega
      clear hbf hy
      go_wp2_with fail
      have hup : ∀ b, ((Since W1 wc b ∧ some b ≠ (Value.slice A2 n2 c2).ownBlock) ∧ b ≠ F) → b ≠ K ∧ b ≠ z + 1 := fun b hb => by have h1 := hb.1.1.1; have := HKZ.out; omega
      have hn3 := HNG.out.to_ ((alike_set wc K 0 (.slice A2 n2 c2)).mono fun b hb => (hup b hb).1)
      have hr3 := (HR1.out.over (HOT.out.mono fun b hb => hb.1) HBW.out).set (b := K) (.inl HRK.out) 0 (.slice A2 n2 c2)
      have hk3 := HK2.out.set 0 (.slice A2 n2 c2)
      have hy3 := HY.out.set_ne (b' := K) (by omega) 0 (.slice A2 n2 c2)
      have hm3 := (mine_below (below_mv HBA.out HBW.out) : Mine (fun b => b = K) W wc).setn (b := K) (.inl rfl) 0 (.slice A2 n2 c2)
      have hs3 : (wc.setCell ⟨K, 0, none⟩ (.slice A2 n2 c2)).heap.size = wc.heap.size := by simp
      generalize (wc.setCell ⟨K, 0, none⟩ (.slice A2 n2 c2)) = w3 at *
      have b4 := Tg.blk5 hy3 (.int .i64 x.id.1) (.int .i64 x.id.2) (.slice D1 d1 e1) (strV x.txt) (.slice E1 m1 k1)
      have hn4 := hn3.to_ ((alike_set5 w3 (z + 1) (.int .i64 x.id.1) (.int .i64 x.id.2) (.slice D1 d1 e1) (strV x.txt) (.slice E1 m1 k1)).mono fun b hb => (hup b hb).2)
      have hr4 := hr3.set5 (b := z + 1) (.inr (.inr rfl)) (.int .i64 x.id.1) (.int .i64 x.id.2) (.slice D1 d1 e1) (strV x.txt) (.slice E1 m1 k1)
      have hk4 := blk_set5 hk3 (g := z + 1) (by omega) (.int .i64 x.id.1) (.int .i64 x.id.2) (.slice D1 d1 e1) (strV x.txt) (.slice E1 m1 k1)
      have hm4 := hm3.set5 (b := z + 1) (.inr (by omega)) (.int .i64 x.id.1) (.int .i64 x.id.2) (.slice D1 d1 e1) (strV x.txt) (.slice E1 m1 k1)
      have hs4 : (World.setCell (World.setCell (World.setCell (World.setCell (World.setCell w3 ⟨z + 1, 0, none⟩ (.int .i64 x.id.1)) ⟨z + 1, 1, none⟩ (.int .i64 x.id.2)) ⟨z + 1, 2, none⟩ (.slice D1 d1 e1)) ⟨z + 1, 3, none⟩ (strV x.txt)) ⟨z + 1, 4, none⟩ (.slice E1 m1 k1)).heap.size = w3.heap.size := by simp
      generalize (World.setCell (World.setCell (World.setCell (World.setCell (World.setCell w3 ⟨z + 1, 0, none⟩ (.int .i64 x.id.1)) ⟨z + 1, 1, none⟩ (.int .i64 x.id.2)) ⟨z + 1, 2, none⟩ (.slice D1 d1 e1)) ⟨z + 1, 3, none⟩ (strV x.txt)) ⟨z + 1, 4, none⟩ (.slice E1 m1 k1)) = w9 at *
      have t0 := b4.cell 0 rfl; have t1 := b4.cell 1 rfl; have t2 := b4.cell 2 rfl; have t3 := b4.cell 3 rfl; have t4 := b4.cell 4 rfl
      refine bodyPost_ret (v := .tuple #[.agg #[.int .i64 x.id.1, .int .i64 x.id.2, .slice D1 d1 e1, strV x.txt, .slice E1 m1 k1], .bool true]) (by simp [results, Try.results30, go_sem, t0, t1, t2, t3, t4]) rfl ?_
      rw [HE.out]
      refine ⟨D1, d1, e1, E1, m1, k1, _, rfl, hn4.mono fun b hb => ?_, hr4.less (fun b hb => .inl hb), hk4, hm4⟩
      have h1 := hb.1.1.1; have h2 := hb.1.1.2
      refine ⟨by omega, fun e => ?_, hb.1.2, fun e => ?_⟩
      · have := (HROW.out.rl b e).2; omega
      · have := Tg.ownT_lt HROW.out.b b e.symm; omega

end Bb
end Go.Proofs.Ytdnkinajbebkoaa

set_option maxRecDepth 100000
namespace Go.Proofs.Ytdnkinajbebkoaa
open Go.RowKit
set_option linter.unusedVariables false
set_option linter.unusedSimpArgs false
namespace Bb
open Tx Df Sq Hk Tr Pr Fl Pn Tg

/-- A patch behind others that stood behind it: what they are, what it is. -/
def undN : Nm → List Nm → Option (List Nm × Nm)
  | p, [] => some ([], p)
  | p, q :: l => (passN p q).bind fun y => (undN y.2 l).map fun z => (y.1 :: z.1, z.2)
theorem und_eq : ∀ (l : List Nm) (p : Nm), underN p l = (undN p l).map fun z => (z.1, [z.2])
  | [], p => rfl
  | q :: l, p => by
    show passL passN [p] (q :: l) = _
    rw [passL, undN, Fl.one, Fl.one, Option.bind_some]
    cases h : passN p q with
    | none => rfl
    | some y =>
      have := und_eq l y.2
      show (passL passN [y.2] l).map _ = ((undN y.2 l).map _).map _
      rw [show passL passN [y.2] l = _ from this]
      cases undN y.2 l with
      | none => rfl
      | some z => rfl
section
variable {p q x : Nm} {k o l : List Nm}
theorem und_none (h : undN p k = none) : underN p k = none := by rw [und_eq, h]; rfl
theorem und_some (h : undN p k = some (o, q)) : underN p k = some (o, [q]) := by rw [und_eq, h]; rfl
theorem und_lit : ∀ {k o : List Nm} {p q : Nm}, Tg.Lit p → (∀ x ∈ k, Tg.Lit x) → undN p k = some (o, q) → (∀ x ∈ o, Tg.Lit x) ∧ Tg.Lit q
  | [], o, p, q, hp, hk, h => by
    injection h with h
    injection h with h1 h2
    subst h1 h2
    exact ⟨fun x hx => (by cases hx), hp⟩
  | x :: k, o, p, q, hp, hk, h => by
    rw [undN] at h
    cases h1 : passN p x with
    | none => rw [h1] at h; cases h
    | some y =>
      rw [h1, Option.bind_some] at h
      cases h2 : undN y.2 k with
      | none => rw [h2] at h; cases h
      | some z =>
        rw [h2] at h
        injection h with h
        injection h with e1 e2
        have hl := pass_lit h1 hp (hk x (.head _))
        have := und_lit (q := z.2) hl.2 (fun x hx => hk x (.tail _ hx)) h2
        subst e1 e2
        refine ⟨fun w hw => ?_, this.2⟩
        rcases List.mem_cons.1 hw with h | h
        · rw [h]; exact hl.1
        · exact this.1 w h
theorem und_len : ∀ {k o : List Nm} {p q : Nm}, undN p k = some (o, q) → o.length = k.length
  | [], o, p, q, h => by
    injection h with h
    injection h with h1 h2
    subst h1
    rfl
  | x :: k, o, p, q, h => by
    rw [undN] at h
    cases h1 : passN p x with
    | none => rw [h1] at h; cases h
    | some y =>
      rw [h1, Option.bind_some] at h
      cases h2 : undN y.2 k with
      | none => rw [h2] at h; cases h
      | some z =>
        rw [h2] at h
        injection h with h
        injection h with e1 e2
        have := und_len (q := z.2) h2
        subst e1
        rw [List.length_cons, List.length_cons, this]
end
/-- The blocks that S names and those made behind z + 1, but for a row's own. -/
def UP (S : Nat → Prop) (z : Nat) (W : World) (v : Value) : Nat → Prop := fun b => (S b ∨ (z + 2 ≤ b ∧ b < W.heap.size)) ∧ some b ≠ v.ownBlock
/-- Between two rounds of under: x lies in the box z, o in a row. -/
structure UO (W : World) (S : Nat → Prop) (z : Nat) (v : Value) (o : List Nm) (x : Nm) (D : Option Addr) (dn dc : Nat) (E : Option Addr) (m k : Nat) : Prop where
  lo : ∀ b, S b → b < z
  row : Tg.OwnT W (UP S z W v) (z + 2) v o
  bq : Blk W z 45 (Tg.nmC x D dn dc E m k)
  br : Blk W (z + 1) 45 noC
  ng : NG W (UP S z W v) D dn dc E m k x
section
variable {W wc w9 : World} {S : Nat → Prop} {z g : Nat} {v v' : Value} {o o' : List Nm} {x y1 : Nm} {D E D3 E3 : Option Addr} {dn dc m k d3 e3 n3 k3 : Nat}
theorem UO.lt (h : UO W S z v o x D dn dc E m k) : ∀ b, UP S z W v b → b < W.heap.size := fun b hb => by
  rcases hb.1 with h1 | h1
  · have := h.lo b h1; have := h.bq.lt; omega
  · exact h1.2
/-- What a call of Pass told, made since W, is none of the row's. -/
theorem UO.new (h : UO W S z v o x D dn dc E m k) (hg : g + 1 = W.heap.size) {w5 : World} (hs : wc.heap.size ≤ w5.heap.size) (hb : Below W.heap.size W wc) : ∀ b, QS (UP S z W v) g wc b → UP S z w5 v b := fun b hq => by
  have hs0 := hb.size
  have hz := h.br.lt
  rcases hq with h1 | h1
  · refine ⟨h1.1.imp id fun h2 => ⟨h2.1, by omega⟩, h1.2⟩
  · exact ⟨.inr ⟨by omega, by omega⟩, fun e => by have := Tg.ownT_lt h.row b e.symm; omega⟩
theorem UO.up (h : UO W S z v o x D dn dc E m k) {w5 : World} (hs : W.heap.size ≤ w5.heap.size) : ∀ b, UP S z W v b → UP S z w5 v b := fun b hb => ⟨hb.1.imp id fun h2 => ⟨h2.1, by omega⟩, hb.2⟩
end
end Bb
end Go.Proofs.Ytdnkinajbebkoaa

set_option maxRecDepth 100000
namespace Go.Proofs.Ytdnkinajbebkoaa
open Go.RowKit
set_option linter.unusedVariables false
namespace Bb
open Tx Df Sq Hk Tr Pr Rg Fl Pn Tg

section
variable {p x q x1 y1 : Nm} {k o : List Nm}
theorem und_cons {a : Nm} (h : undN p (a :: k) = some (o, x)) : ∃ z o', passN p a = some z ∧ undN z.2 k = some (o', x) ∧ o = z.1 :: o' := by
  unfold undN at h
  cases ha : passN p a with
  | none => rw [ha] at h; cases h
  | some z =>
    rw [ha] at h
    have h : (undN z.2 k).map (fun y => (z.1 :: y.1, y.2)) = some (o, x) := h
    cases hk : undN z.2 k with
    | none => rw [hk] at h; cases h
    | some t =>
      rw [hk] at h
      injection h with h
      injection h with h1 h2
      subst h1 h2
      exact ⟨z, t.1, rfl, hk, rfl⟩
theorem und_put {a : Nm} {z : Nm × Nm} (ha : passN p a = some z) : undN p (a :: k) = (undN z.2 k).map fun y => (z.1 :: y.1, y.2) := by
  rw [undN, ha]; rfl
theorem und_snoc : ∀ {k : List Nm} {p : Nm} {o : List Nm}, undN p k = some (o, x) → passN x q = some (x1, y1) → undN p (k ++ [q]) = some (o ++ [x1], y1)
  | [], p, o, h, hp => by
    injection h with h
    injection h with h1 h2
    subst h1 h2
    show undN p [q] = _
    rw [und_put hp]
    rfl
  | a :: k, p, o, h, hp => by
    obtain ⟨z, o', ha, hk, rfl⟩ := und_cons h
    rw [List.cons_append, und_put ha, und_snoc hk hp]
    rfl
theorem und_snoc_none : ∀ {k : List Nm} {p : Nm} {o : List Nm}, undN p k = some (o, x) → passN x q = none → ∀ t, undN p (k ++ q :: t) = none
  | [], p, o, h, hp, t => by
    injection h with h
    injection h with h1 h2
    subst h1 h2
    show undN p (q :: t) = _
    rw [undN, hp]
    rfl
  | a :: k, p, o, h, hp, t => by
    obtain ⟨z, o', ha, hk, rfl⟩ := und_cons h
    rw [List.cons_append, und_put ha, und_snoc_none hk hp t]
    rfl
end
theorem drop_rev {l : List Nm} {i : Nat} {q : Nm} (h : l[i]? = some q) : (l.drop i).reverse = (l.drop (i + 1)).reverse ++ [q] := by
  have hi := (List.getElem?_eq_some_iff.1 h).1
  rw [List.drop_eq_getElem_cons hi, List.reverse_cons, (List.getElem?_eq_some_iff.1 h).2]
theorem rev_split {l : List Nm} {i : Nat} {q : Nm} (h : l[i]? = some q) : ∃ t, l.reverse = (l.drop (i + 1)).reverse ++ q :: t := by
  have hi := (List.getElem?_eq_some_iff.1 h).1
  refine ⟨(l.take i).reverse, ?_⟩
  have : l = l.take i ++ q :: l.drop (i + 1) := by
    rw [← (List.getElem?_eq_some_iff.1 h).2, ← List.drop_eq_getElem_cons hi, List.take_append_drop]
  rw (config := { occs := .pos [1] }) [this]
  simp

/-- What there was, and the blocks that the walk keeps for itself: the patch's box, the row, the row's box. -/
def UvR (w : World) (F g : Nat) : Nat → Prop := fun b => b < w.heap.size ∨ b = F ∨ b = g ∨ b = g + 1
structure UvI (w : World) (F g n : Nat) (l : List Nm) (p : Nm) (dn m j : Nat) (x : Nm) (post : List Nm) (D : Option Addr) (dc : Nat) (E : Option Addr) (k : Nat) (W : World) : Prop where
  pos : w.heap.size ≤ F ∧ F < g
  eq : undN p (l.drop j).reverse = some (post.reverse, x)
  pl : j + post.length = n
  lx : Tg.Lit x
  row : Tg.OwnT W (But W (UvR w F g)) w.heap.size (.slice (some ⟨g, 0, none⟩) n n) (List.replicate j noN ++ post)
  ng : NG W (But W (UvR w F g)) D dn dc E m k x
  bf : Blk W F 45 (Tg.nmC x D dn dc E m k)
  bb : Blk W (g + 1) 22 #[.slice (some ⟨g, 0, none⟩) n n]
  fr : Below w.heap.size w W
def UvJ (w : World) (F g n : Nat) (l : List Nm) (p : Nm) (dn m : Nat) (pre : List Nat) (W : World) : Prop := ∃ x post D dc E k, UvI w F g n l p dn m (n - pre.length) x post D dc E k W
/-- What holds when the patch can't pass: two boxes have noughts. -/
def UvX (R : Nat → Prop) (K z : Nat) (w we : World) (v u : Value) (gl s : List Nm) (p : Nm) (c : Code) (_ : List Nat) (W : World) : Prop :=
  c = .ret ∧ undN p gl.reverse = none ∧ Blk W (z + 1) 45 noC ∧ Blk W (z + 1 + 1) 4 #[.bool false] ∧ Rows3 R w W v u gl s ∧ Blk W K 58 #[v] ∧ Mine (fun b => b = K) we W
section
variable {w we W : World} {F g n B K z : Nat} {l gl s : List Nm} {p : Nm} {dn m : Nat} {R : Nat → Prop} {v u : Value}
theorem uvJ_ab (hB : w.heap.size ≤ B) : Ab Plain B (UvJ w F g n l p dn m) := fun s W W' row hs hg hr => by
  obtain ⟨x, post, D, dc, E, k, h⟩ := hs
  have bl : ∀ {b : Nat} {t : TypeId} {cs : Array Value}, Blk W b t cs → Blk W' b t cs := fun h => ab_blk (β := Unit) (B := B) (fun _ => _) () W W' row h hg hr
  exact ⟨x, post, D, dc, E, k, h.pos, h.eq, h.pl, h.lx, (h.row.plain hg (fun r e => (hr r e).2)).mono (but_up hg.size), (h.ng.kc (keepC_plain hg (fun r e => (hr r e).2))).mono (but_up hg.size), bl h.bf, bl h.bb, h.fr.grown hg h.fr.size (fun r e => Nat.le_trans hB (hr r e).1)⟩
theorem uvX_ab (hB : w.heap.size ≤ B) (hE : we.heap.size ≤ B) (c : Code) : Ab Plain B (UvX R K z w we v u gl s p c) := fun _ W W' row hs hg hr => by
  obtain ⟨h1, h2, h3, h4, h5, h6, h7⟩ := hs
  have bl : ∀ {b : Nat} {t : TypeId} {cs : Array Value}, Blk W b t cs → Blk W' b t cs := fun h => ab_blk (β := Unit) (B := B) (fun _ => _) () W W' row h hg hr
  exact ⟨h1, h2, bl h3, bl h4, h5.plain hg (fun r e => (hr r e).2) (fun r e => Nat.le_trans hB (hr r e).1), bl h6, h7.trans (mine_grown (R := fun b => B ≤ b) hg (fun k e => (hr k e).1)) (fun b hb => .inr (Nat.le_trans hE hb))⟩
end
theorem UvI.mv {w W W' : World} {F g n : Nat} {l : List Nm} {p : Nm} {dn m j : Nat} {x : Nm} {post : List Nm} {D : Option Addr} {dc : Nat} {E : Option Addr} {k : Nat} (h : UvI w F g n l p dn m j x post D dc E k W) (hb : Below W.heap.size W W') : UvI w F g n l p dn m j x post D dc E k W' :=
  ⟨h.pos, h.eq, h.pl, h.lx, (h.row.below hb).mono (but_up hb.size), (h.ng.to_ (fun b _ hl => hb.block b hl)).mono (but_up hb.size), h.bf.below hb h.bf.lt, h.bb.below hb h.bb.lt, below_mv h.fr hb⟩

/-- A round in which both pass: first the one that is kept is stored, then the patch. -/
theorem uv_step {w X w2 w4 : World} {F g n i : Nat} {l : List Nm} {p x q x1 y1 : Nm} {dn m : Nat} {post : List Nm} {D : Option Addr} {dc : Nat} {E : Option Addr} {k : Nat} {D1 E1 D2 E2 : Option Addr} {d1 c1 m1 k1 c2 k2 : Nat}
    (hI : UvI w F g n l p dn m (i + 1) x post D dc E k X) (hb2 : Below X.heap.size X w2) (hb4 : Below w2.heap.size w2 w4) (n1 : NG w2 (Since X w2) D1 d1 c1 E1 m1 k1 x1) (n2 : NG w2 (Since X w2) D2 dn c2 E2 m k2 y1) (hx : l[i]? = some q) (hq : Tg.Lit q) (hs : passN x q = some (x1, y1)) :
    let w6 := ((((w4.setCell ⟨g, i * 5, none⟩ (.int .i64 x1.id.1)).setCell ⟨g, i * 5 + 1, none⟩ (.int .i64 x1.id.2)).setCell ⟨g, i * 5 + 2, none⟩ (.slice D1 d1 c1)).setCell ⟨g, i * 5 + 3, none⟩ (strV x1.txt)).setCell ⟨g, i * 5 + 4, none⟩ (.slice E1 m1 k1)
    let w9 := ((((w6.setCell ⟨F, 0, none⟩ (.int .i64 y1.id.1)).setCell ⟨F, 1, none⟩ (.int .i64 y1.id.2)).setCell ⟨F, 2, none⟩ (.slice D2 dn c2)).setCell ⟨F, 3, none⟩ (strV y1.txt)).setCell ⟨F, 4, none⟩ (.slice E2 m k2)
    UvI w F g n l p dn m i y1 (x1 :: post) D2 c2 E2 k2 w9 ∧ (∀ B, KeepsFrom B X w9) ∧ (∀ Bs v, Bs ≠ F → Bs ≠ g → Boxed X Bs 22 v → Boxed w9 Bs 22 v) ∧ Blk w6 F 45 (Tg.nmC x D dn dc E m k) := by
  intro w6 w9
  obtain ⟨hF, hFg⟩ := hI.pos
  have hb : Below X.heap.size X w4 := hb2.trans (hb4.mono hb2.size)
  have hX : g + 1 < X.heap.size := hI.bb.lt
  have hs4 : w4.heap.size = w6.heap.size := by simp [w6]
  have hs6 : w6.heap.size = w9.heap.size := by simp [w9]
  have h2 : w2.heap.size ≤ w4.heap.size := hb4.size
  have hS : ∀ b, Since X w2 b → But w4 (UvR w F g) b := fun b h => ⟨by have := h.2; omega, fun e => by have := h.1; have := hI.fr.size; rcases e with e | e | e | e <;> omega⟩
  have ne1 : ∀ b, But w4 (UvR w F g) b → b ≠ g := fun b h e => h.2 (.inr (.inr (.inl e)))
  have ne2 : ∀ b, But w4 (UvR w F g) b → b ≠ F := fun b h e => h.2 (.inr (.inl e))
  have al1 := alike_row5 w4 g i (.int .i64 x1.id.1) (.int .i64 x1.id.2) (.slice D1 d1 c1) (strV x1.txt) (.slice E1 m1 k1)
  have al2 := alike_set5 w6 F (.int .i64 y1.id.1) (.int .i64 y1.id.2) (.slice D2 dn c2) (strV y1.txt) (.slice E2 m k2)
  have up : ∀ b, But w4 (UvR w F g) b → But w9 (UvR w F g) b := but_up (Nat.le_of_eq (hs4.trans hs6))
  have hl3 := hI.bf.lt
  have r4 := (hI.row.below hb).mono (but_up hb.size)
  have m4 := (n1.to_ (fun b h hl => hb4.block b hl)).mono hS
  have n4 := (n2.to_ (fun b h hl => hb4.block b hl)).mono hS
  have hlen : (List.replicate (i + 1) noN ++ post).length = n := by rw [List.length_append, List.length_replicate]; exact hI.pl
  have r6 := r4.store (k := i) hlen (fun h => ne1 g h rfl) m4
  rw [rep_set] at r6
  have b6 := blk_row5 (hI.bf.below hb hl3) (show F ≠ g by omega) i (.int .i64 x1.id.1) (.int .i64 x1.id.2) (.slice D1 d1 c1) (strV x1.txt) (.slice E1 m1 k1)
  refine ⟨⟨⟨hF, hFg⟩, ?_, ?_, ?_, ?_, ?_, ?_, ?_, ?_⟩, fun B => ?_, fun Bs v h1 h2 hv => ?_, b6⟩
  · rw [drop_rev hx, List.reverse_cons]
    exact und_snoc hI.eq hs
  · have := hI.pl
    rw [List.length_cons]; omega
  · exact (pass_lit hs hI.lx hq).2
  · exact (r6.set5 (b := F) (fun e => by injection e with e; have e : F = g := e; omega) (fun h => ne2 F h rfl) _ _ _ _ _).mono up
  · exact ((n4.to_ (al1.mono ne1)).to_ (al2.mono ne2)).mono up
  · exact Tg.blk5 b6 _ _ _ _ _
  · exact blk_set5 (blk_row5 (hI.bb.below hb hX) (by omega) i _ _ _ _ _) (by omega) _ _ _ _ _
  · exact below_set5 (below_row5 (below_mv hI.fr hb) (by omega) i _ _ _ _ _) (by omega) _ _ _ _ _
  · exact ((keepsFrom_below B hb).trans (keeps_row5 w4 B g i _ _ _ _ _)).trans (keeps_set5 w6 B F _ _ _ _ _)
  · exact blk_set5 (blk_row5 (Blk.below (show Blk X Bs 22 #[v] from hv) hb hv.lt) h2 i _ _ _ _ _) h1 _ _ _ _ _

/-- The memory in which the range begins. -/
theorem uv_start {w u1 : World} {n dn m c k : Nat} {A D E : Option Addr} {l : List Nm} {p : Nm} (hng : NG u1 (Since w u1) D dn c E m k p) (hb : Below w.heap.size w u1) (hls : RdN w w.heap.size A l) (hl : l.length = n) (hn : n ≤ 1000) (hlp : Tg.Lit p) (c' : Nat) :
    let wc := u1.alloc (.cells (Tg.nmC p D dn c E m k) 45)
    let w5 := ((wc.alloc (.cells (madeCells noC (n * 5)) 45)).alloc (.cells #[.slice (some ⟨u1.heap.size + 1, 0, none⟩) n n] 22)).alloc (.cells #[.slice A n c'] 22)
    UvJ w u1.heap.size (u1.heap.size + 1) n l p dn m [] w5 ∧ Boxed w5 (u1.heap.size + 1 + 1 + 1) 22 (.slice A n c') ∧ w5.heap.size = u1.heap.size + 4 ∧ Cells5 w5 A n := by
  intro wc w5
  have hsc : wc.heap.size = u1.heap.size + 1 := by simp [wc]
  have hbc : Below u1.heap.size u1 wc := (Below.refl _ _).alloc (Nat.le_refl _) _
  have h5 : Below wc.heap.size wc w5 := (((Below.refl _ _).alloc (Nat.le_refl _) _).alloc (by simp) _).alloc (by simp; omega) _
  have hsz : w5.heap.size = u1.heap.size + 4 := by simp [w5, hsc]
  have hall : Below w.heap.size w w5 := below_mv (below_mv hb hbc) h5
  have hbb := (Blk.new (wc.alloc (.cells (madeCells noC (n * 5)) 45)) 22 #[.slice (some ⟨u1.heap.size + 1, 0, none⟩) n n]).alloc (.cells #[.slice A n c'] 22)
  have hbx := Boxed.new ((wc.alloc (.cells (madeCells noC (n * 5)) 45)).alloc (.cells #[.slice (some ⟨u1.heap.size + 1, 0, none⟩) n n] 22)) 22 (.slice A n c')
  simp only [World.size_alloc, hsc] at hbb hbx
  have hmd := ownT_made wc n (But w5 (UvR w u1.heap.size (u1.heap.size + 1))) hn
  rw [hsc] at hmd
  have hm2 : Below (wc.alloc (.cells (madeCells noC (n * 5)) 45)).heap.size (wc.alloc (.cells (madeCells noC (n * 5)) 45)) w5 := ((Below.refl _ _).alloc (Nat.le_refl _) _).alloc (by simp) _
  have hbf : Blk w5 u1.heap.size 45 (Tg.nmC p D dn c E m k) := (Blk.new u1 45 (Tg.nmC p D dn c E m k)).below h5 (by rw [hsc]; omega)
  refine ⟨⟨p, [], D, c, E, k, ⟨hb.size, by omega⟩, ?_, by simp, hlp, ?_, ?_, hbf, hbb, hall⟩, hbx, hsz, cells5_rd (RdN.below hls hall) hl⟩
  · rw [List.length_nil, Nat.sub_zero, List.drop_of_length_le (by rw [hl]; exact Nat.le_refl _)]; rfl
  · rw [List.length_nil, Nat.sub_zero, List.append_nil]
    obtain ⟨xs, x1, x2⟩ := hmd.below hm2
    exact ⟨xs, own_mono x1 (Nat.le_trans hb.size (Nat.le_succ _)), x2⟩
  · refine ((hng.to_ (fun b _ hl => hbc.block b hl)).to_ ((alike_below h5).mono fun b h => by have := h.2; omega)).mono fun b h => ⟨by have := h.2; omega, fun e => ?_⟩
    have h1 := h.1; have h2 := h.2
    rcases e with e | e | e | e <;> omega

/-- The patch can't pass: two boxes get noughts. -/
theorem uv_no {w we w1 X w2 : World} {T : Nat → Prop} {K z : Nat} {v u : Value} {gl s : List Nm} {p : Nm} {pre : List Nat} {B : Nat} (hR : Rows3 T w w1 v u gl s) (hK : Blk w1 K 58 #[v]) (hKz : K < z) (h1 : T (z + 1)) (h2 : T (z + 1 + 1)) (hz : we.heap.size = z) (hbe : Below we.heap.size we w1) (r0 : Blk w1 (z + 1) 45 noC) (r1 : Blk w1 (z + 1 + 1) 4 #[.bool false])
    (hb1 : Below w1.heap.size w1 X) (hb2 : Below X.heap.size X w2) (hn : undN p gl.reverse = none) (o o' : Obj) :
    KeepsFrom B X (((((((((w2.setCell ⟨z + 1, 0, none⟩ (.int .i64 0)).setCell ⟨z + 1, 1, none⟩ (.int .i64 0)).setCell ⟨z + 1, 2, none⟩ (.slice none 0 0)).setCell ⟨z + 1, 3, none⟩ (.string ⟨#[]⟩)).setCell ⟨z + 1, 4, none⟩ (.slice none 0 0)).setCell ⟨z + 1 + 1, 0, none⟩ (.bool false)).alloc o).alloc o')) ∧
    UvX T K z w we v u gl s p .ret pre (((((((((w2.setCell ⟨z + 1, 0, none⟩ (.int .i64 0)).setCell ⟨z + 1, 1, none⟩ (.int .i64 0)).setCell ⟨z + 1, 2, none⟩ (.slice none 0 0)).setCell ⟨z + 1, 3, none⟩ (.string ⟨#[]⟩)).setCell ⟨z + 1, 4, none⟩ (.slice none 0 0)).setCell ⟨z + 1 + 1, 0, none⟩ (.bool false)).alloc o).alloc o')) := by
  have hb := below_mv hb1 hb2
  have hr := ((hR.below hb).set5 h1 (.int .i64 0) (.int .i64 0) (.slice none 0 0) (.string ⟨#[]⟩) (.slice none 0 0)).set h2 0 (.bool false)
  have hk := (blk_set5 (hK.below hb hK.lt) (g := z + 1) (by omega) (.int .i64 0) (.int .i64 0) (.slice none 0 0) (.string ⟨#[]⟩) (.slice none 0 0)).set_ne (b' := z + 1 + 1) (by omega) 0 (.bool false)
  have h0 := (Tg.blk5 (r0.below hb r0.lt) (.int .i64 0) (.int .i64 0) (.slice none 0 0) (.string ⟨#[]⟩) (.slice none 0 0)).set_ne (b' := z + 1 + 1) (by omega) 0 (.bool false)
  have h4 := (blk_set5 (r1.below hb r1.lt) (g := z + 1) (by omega) (.int .i64 0) (.int .i64 0) (.slice none 0 0) (.string ⟨#[]⟩) (.slice none 0 0)).set 0 (.bool false)
  have hm := ((mine_below (below_mv hbe hb) : Mine (fun b => b = K) we w2).set5 (b := z + 1) (.inr (by omega)) (.int .i64 0) (.int .i64 0) (.slice none 0 0) (.string ⟨#[]⟩) (.slice none 0 0)).setn (b := z + 1 + 1) (.inr (by omega)) 0 (.bool false)
  have hk1 : KeepsFrom B X ((((((w2.setCell ⟨z + 1, 0, none⟩ (.int .i64 0)).setCell ⟨z + 1, 1, none⟩ (.int .i64 0)).setCell ⟨z + 1, 2, none⟩ (.slice none 0 0)).setCell ⟨z + 1, 3, none⟩ (.string ⟨#[]⟩)).setCell ⟨z + 1, 4, none⟩ (.slice none 0 0)).setCell ⟨z + 1 + 1, 0, none⟩ (.bool false)) := ((keepsFrom_below B hb2).trans (keeps_set5 w2 B (z + 1) _ _ _ _ _)).trans ((KeepsOthers.setCell _ _ _).from B)
  generalize ((((((w2.setCell ⟨z + 1, 0, none⟩ (.int .i64 0)).setCell ⟨z + 1, 1, none⟩ (.int .i64 0)).setCell ⟨z + 1, 2, none⟩ (.slice none 0 0)).setCell ⟨z + 1, 3, none⟩ (.string ⟨#[]⟩)).setCell ⟨z + 1, 4, none⟩ (.slice none 0 0)).setCell ⟨z + 1 + 1, 0, none⟩ (.bool false)) = w3 at *
  have h5 : Below w3.heap.size w3 ((w3.alloc o).alloc o') := two_box w3 o o'
  exact ⟨(hk1.trans ((KeepsOthers.alloc _ o).from B)).trans ((KeepsOthers.alloc _ o').from B), rfl, hn, (h0.alloc o).alloc o', (h4.alloc o).alloc o', hr.below h5, (hk.alloc o).alloc o', hm.trans (mine_below (R := fun _ => False) h5) (fun b e => e.elim)⟩

/-- The patch has passed all. -/
theorem uv_done {w we w1 W : World} {T : Nat → Prop} {K z F g n dn m E : Nat} {v u : Value} {gl s post : List Nm} {p x : Nm} {D : Option Addr} {dc : Nat} {Ad : Option Addr} {k : Nat} (hI : UvI w1 F g n gl p dn m 0 x post D dc Ad k W) (hR : Rows3 T w w1 v u gl s) (hK : Blk w1 K 58 #[v]) (hKz : K < z) (h0 : T K) (h1 : T (z + 1)) (h2 : T (z + 1 + 1)) (hz : we.heap.size = z) (hz1 : w1.heap.size = z + 3) (hbe : Below we.heap.size we w1) (r0 : Blk w1 (z + 1) 45 noC) (r1 : Blk w1 (z + 1 + 1) 4 #[.bool false])
    (hE : w1.heap.size ≤ E) (hKE : W.heap[E]? = some (.deferred (some []))) :
    let W9 := ((((((W.setCell ⟨K, 0, none⟩ (.slice (some ⟨g, 0, none⟩) n n)).setCell ⟨z + 1, 0, none⟩ (.int .i64 x.id.1)).setCell ⟨z + 1, 1, none⟩ (.int .i64 x.id.2)).setCell ⟨z + 1, 2, none⟩ (.slice D dn dc)).setCell ⟨z + 1, 3, none⟩ (strV x.txt)).setCell ⟨z + 1, 4, none⟩ (.slice Ad m k)).setCell ⟨z + 1 + 1, 0, none⟩ (.bool true)
    W9.heap[E]? = some (.deferred (some [])) ∧ Blk (W9.putObj E (.deferred none)) (z + 1) 45 (Tg.nmC x D dn dc Ad m k) ∧ Blk (W9.putObj E (.deferred none)) (z + 1 + 1) 4 #[.bool true] ∧ NG (W9.putObj E (.deferred none)) (PR T (W9.putObj E (.deferred none)) (.slice (some ⟨g, 0, none⟩) n n) u) D dn dc Ad m k x ∧
      Rows3 T w (W9.putObj E (.deferred none)) (.slice (some ⟨g, 0, none⟩) n n) u post s ∧ Blk (W9.putObj E (.deferred none)) K 58 #[.slice (some ⟨g, 0, none⟩) n n] ∧ Mine (fun b => b = K) we (W9.putObj E (.deferred none)) := by
  intro W9
  obtain ⟨hF, hFg⟩ := hI.pos
  have hrow := hI.row
  rw [List.replicate_zero, List.nil_append] at hrow
  have hx : Tg.OwnT W (fun b => Since w1 W b ∧ some b ≠ (Value.slice (some ⟨g, 0, none⟩) n n).ownBlock) w1.heap.size (.slice (some ⟨g, 0, none⟩) n n) post := hrow.mono fun b hb => ⟨⟨Nat.le_of_not_lt fun e => hb.2 (.inl e), hb.1⟩, fun e => hb.2 (.inr (.inr (.inl (by injection e))))⟩
  have hr : Rows3 T w W9 (.slice (some ⟨g, 0, none⟩) n n) u post s := (((hR.over hx hI.fr).set h0 0 (.slice (some ⟨g, 0, none⟩) n n)).set5 h1 (.int .i64 x.id.1) (.int .i64 x.id.2) (.slice D dn dc) (strV x.txt) (.slice Ad m k)).set h2 0 (.bool true)
  have hk : Blk W9 K 58 #[.slice (some ⟨g, 0, none⟩) n n] := (blk_set5 ((hK.below hI.fr hK.lt).set 0 (.slice (some ⟨g, 0, none⟩) n n)) (g := z + 1) (by omega) (.int .i64 x.id.1) (.int .i64 x.id.2) (.slice D dn dc) (strV x.txt) (.slice Ad m k)).set_ne (b' := z + 1 + 1) (by omega) 0 (.bool true)
  have b0 : Blk W9 (z + 1) 45 (Tg.nmC x D dn dc Ad m k) := (Tg.blk5 ((r0.below hI.fr r0.lt).set_ne (b' := K) (by omega) 0 (.slice (some ⟨g, 0, none⟩) n n)) (.int .i64 x.id.1) (.int .i64 x.id.2) (.slice D dn dc) (strV x.txt) (.slice Ad m k)).set_ne (b' := z + 1 + 1) (by omega) 0 (.bool true)
  have b1 : Blk W9 (z + 1 + 1) 4 #[.bool true] := (blk_set5 ((r1.below hI.fr r1.lt).set_ne (b' := K) (by omega) 0 (.slice (some ⟨g, 0, none⟩) n n)) (g := z + 1) (by omega) (.int .i64 x.id.1) (.int .i64 x.id.2) (.slice D dn dc) (strV x.txt) (.slice Ad m k)).set 0 (.bool true)
  have hm : Mine (fun b => b = K) we W9 := (((mine_below (below_mv hbe hI.fr) : Mine (fun b => b = K) we W).setn (b := K) (.inl rfl) 0 (.slice (some ⟨g, 0, none⟩) n n)).set5 (b := z + 1) (.inr (by omega)) (.int .i64 x.id.1) (.int .i64 x.id.2) (.slice D dn dc) (strV x.txt) (.slice Ad m k)).setn (b := z + 1 + 1) (.inr (by omega)) 0 (.bool true)
  have ge : ∀ b, But W (UvR w1 F g) b → w1.heap.size ≤ b := fun b hb => Nat.le_of_not_lt fun e => hb.2 (.inl e)
  have hng : NG W9 (But W (UvR w1 F g)) D dn dc Ad m k x := ((hI.ng.to_ ((alike_set W K 0 (.slice (some ⟨g, 0, none⟩) n n)).mono fun b hb e => by have := ge b hb; omega)).to_ ((alike_set5 _ (z + 1) (.int .i64 x.id.1) (.int .i64 x.id.2) (.slice D dn dc) (strV x.txt) (.slice Ad m k)).mono fun b hb e => by have := ge b hb; omega)).to_ ((alike_set _ (z + 1 + 1) 0 (.bool true)).mono fun b hb e => by have := ge b hb; omega)
  have k9 : W9.heap[E]? = some (.deferred (some [])) := ((((KeepsOthers.setCell W _ _).from E).trans (keeps_set5 _ E (z + 1) _ _ _ _ _)).trans ((KeepsOthers.setCell _ _ _).from E)).same E _ (Nat.le_refl _) hKE rfl
  have hs : W.heap.size = W9.heap.size := by simp [W9]
  clear_value W9
  have hp := grownBy_putObj' W9 E (.deferred none)
  have hpr : ∀ r, some E = some r → ∃ o : Obj, W9.heap[r]? = some o ∧ o.isCells = false := fun r e => by injection e with e; subst e; exact ⟨_, k9, rfl⟩
  have bp : ∀ {b : Nat} {t : TypeId} {cs : Array Value}, Blk W9 b t cs → Blk (W9.putObj E (.deferred none)) b t cs := fun {b t cs} h => h.gr hp (fun e => by
    injection e with e
    subst e
    rw [show W9.heap[b]? = _ from h] at k9
    cases k9)
  have hsz : W.heap.size = (W9.putObj E (.deferred none)).heap.size := by rw [hs]; simp
  have hr9 := hr.plain hp hpr (fun r e => by injection e with e; have := hR.bw.size; omega)
  refine ⟨k9, bp b0, bp b1, ((hng.kc (keepC_plain hp hpr)).mono fun b hb => ?_), hr9, bp hk, hm.trans (mine_grown (R := fun b => b = E) hp (fun j e => by injection e with e; exact e.symm)) (fun b e => .inr (by have := hbe.size; omega))⟩
  have h3 := ge b hb
  refine ⟨by have := hb.1; omega, fun e => ?_, fun e => hb.2 (.inr (.inr (.inl (by injection e)))), fun e => ?_⟩
  · have := (hR.rl b e).2; omega
  · have := Tg.ownT_lt hR.b b e.symm; omega

end Bb
end Go.Proofs.Ytdnkinajbebkoaa

set_option maxRecDepth 100000
namespace Go.Proofs.Ytdnkinajbebkoaa
open Go.RowKit Go.Shelf
set_option linter.unusedVariables false
namespace Bb
open Tx Rg Fl Pn Tg
attribute [local go_sem] Oper.semAt_some

theorem allN_in (n : Nat) (A : Option Addr) (l c : Nat) (w : World) :
    CallsIn Fence.wide n Try.prog 29 #[.slice A l c] w fun e w' => e = .returned (.func (.func 52) #[] #[.pointer (some ⟨w.heap.size, 0, none⟩)]) ∧ w' = w.alloc (.cells #[.slice A l c] 22) := by
  refine callsIn_of_wp Try.func29 rfl trivial ?_ rfl
  simp only [Try.ntmps29, List.size_toArray, List.length_cons, List.length_nil, Nat.reduceAdd, Nat.reduceSub, Array.replicate_succ, Array.replicate_zero, List.push_toArray, List.append_toArray, List.nil_append, List.cons_append]
  gi_wp2
  go_ret
  exact ⟨rfl, rfl⟩
/-- The cells of m patches, in their forms. -/
def CellsN (W : World) (A : Option Addr) (m : Nat) : Prop := ∀ i, i < m → ∃ a x y D dn dc t E n c, A = some a ∧ W.cell? (a.add (i * 5)) = some (.int .i64 x) ∧ W.cell? ⟨(a.add (i * 5)).block, (a.add (i * 5)).off + 1, none⟩ = some (.int .i64 y) ∧ W.cell? ⟨(a.add (i * 5)).block, (a.add (i * 5)).off + 2, none⟩ = some (.slice D dn dc) ∧
  W.cell? ⟨(a.add (i * 5)).block, (a.add (i * 5)).off + 3, none⟩ = some (strV t) ∧ W.cell? ⟨(a.add (i * 5)).block, (a.add (i * 5)).off + 4, none⟩ = some (.slice E n c)
/-- What a round must keep: the box in which the slice lies, and the cells of its row. -/
def KpA (Bs : Nat) (A : Option Addr) (W W' : World) : Prop := (∀ v, Boxed W Bs 22 v → Boxed W' Bs 22 v) ∧ (∀ a, A = some a → ∀ (p : Addr) u, p.block = a.block → W.cell? p = some u → W'.cell? p = some u)
section
variable {Bs m : Nat} {A : Option Addr} {W W' : World}
theorem CellsN.kp (h : CellsN W A m) (hk : ∀ a, A = some a → ∀ (p : Addr) u, p.block = a.block → W.cell? p = some u → W'.cell? p = some u) : CellsN W' A m := fun i hi => by
  obtain ⟨a, x, y, D, dn, dc, t, E, n, c, rfl, c0, c1, c2, c3, c4⟩ := h i hi
  exact ⟨a, x, y, D, dn, dc, t, E, n, c, rfl, hk a rfl _ _ (add_block _ _) c0, hk a rfl _ _ (add_block _ _) c1, hk a rfl _ _ (add_block _ _) c2, hk a rfl _ _ (add_block _ _) c3, hk a rfl _ _ (add_block _ _) c4⟩
theorem CellsN.cells5 (h : CellsN W A m) : Cells5 W A m := fun i hi => by
  obtain ⟨a, x, y, D, dn, dc, t, E, n, c, rfl, c0, c1, c2, c3, c4⟩ := h i hi
  exact ⟨a, _, _, _, _, _, rfl, c0, c1, c2, c3, c4⟩
theorem cellsN_rd {B : Nat} {l : List Nm} (h : RdN W B A l) (hm : l.length = m) : CellsN W A m := fun i hi => by
  obtain ⟨a, x, D, dn, dc, E, n, c, e, _, _, c0, c1, c2, c3, c4, _⟩ := h.elem (k := i) (by omega)
  exact ⟨a, _, _, _, _, _, _, _, _, _, e, c0, c1, c2, c3, c4⟩
theorem kpA_gr {row : Option Nat} (hg : W.grownBy W' row) (hr : ∀ r, row = some r → ∃ o : Obj, W.heap[r]? = some o ∧ o.isCells = false) : KpA Bs A W W' :=
  ⟨fun v hv => hv.kept hg (fun e => by obtain ⟨o, ho, hf⟩ := hr Bs e.symm; rw [show W.heap[Bs]? = _ from hv] at ho; cases ho; cases hf), fun a _ p u _ hu => (keepC_plain (S := fun _ => True) hg hr).cell trivial hu⟩
theorem kpA_t {W W1 W2 : World} (h : KpA Bs A W W1) (k : KpA Bs A W1 W2) : KpA Bs A W W2 := ⟨fun v hv => k.1 v (h.1 v hv), fun a e p u hp hu => k.2 a e p u hp (h.2 a e p u hp hu)⟩
theorem kpA_b {l : Nat} (W : World) (o o' : Obj) (h : W.heap[l]? = some o) (ho : o.isCells = false) : KpA Bs A W (W.putObj l o') := kpA_gr (grownBy_putObj' W l o') (fun r e => by cases e; exact ⟨o, h, ho⟩)
theorem kpA_new (hg : W.grownBy W' none) : KpA Bs A W W' := kpA_gr hg (fun r e => by cases e)
theorem kpA_below (hb : Below W.heap.size W W') : KpA Bs A W W' := kpA_gr (row := none) ⟨hb.os, hb.tape, hb.output, hb.size, fun k hk _ => hb.block k hk⟩ (fun r e => by cases e)
theorem KpA.kpN (h : KpA Bs A W W') : KpN Bs A m W W' := ⟨h.1, fun hc i hi => by
  obtain ⟨a, v0, v1, v2, v3, v4, rfl, c0, c1, c2, c3, c4⟩ := hc i hi
  exact ⟨a, v0, v1, v2, v3, v4, rfl, h.2 a rfl _ _ (add_block _ _) c0, h.2 a rfl _ _ (add_block _ _) c1, h.2 a rfl _ _ (add_block _ _) c2, h.2 a rfl _ _ (add_block _ _) c3, h.2 a rfl _ _ (add_block _ _) c4⟩⟩
end
theorem gives_kp {α : Type} {P : Program} {Free : Obj → Prop} {n g : Nat} {lb : Array Value} {E : α → Array Value → World → Prop} {full : List α} {Kp Kp' : World → World → Prop} {w : World} (h : GivesE P Free n g lb E full Kp w) (hk : ∀ W W', Kp' W W' → Kp W W') : GivesE P Free n g lb E full Kp' w := fun J Jx W h1 h2 h3 h4 h5 h6 =>
  h J Jx W h1 h2 h3 h4 (fun pre x post vals W1 a b c => by
    obtain ⟨fn, tmps, assign, body, hy, hR⟩ := h5 pre x post vals W1 a b c
    exact ⟨fn, tmps, assign, body, hy, hR.mono fun e w' h => h.imp (fun h => ⟨h.1, h.2.1, hk _ _ h.2.2⟩) id⟩) h6
theorem up_succ {m k : Nat} (h : k < m) : List.range' k (m - k) = k :: List.range' (k + 1) (m - (k + 1)) := by
  rw [show m - k = (m - (k + 1)) + 1 by omega, List.range'_succ]

set_option maxRecDepth 100000 in
set_option maxHeartbeats 2000000 in
theorem allN1_in (n l Bs cap m : Nat) (A : Option Addr) (hle : m ≤ 1000000) (J Jx : List Nat → World → Prop) (hJ : ∀ pre (W : World) (o : Obj), J pre W → J pre (W.alloc o))
    (hY : ∀ pre x post vals W1, List.range' 0 m = pre ++ x :: post → J pre W1 → EN m A x vals W1 → YieldAt Fence.wide (n - 1) Try.prog l vals W1 fun e W' =>
      (e = .returned (.bool true) ∧ J (pre ++ [x]) W' ∧ KpA Bs A W1 W') ∨ (e = .returned (.bool false) ∧ Jx (pre ++ [x]) W'))
    (W : World) (hBs : Boxed W Bs 22 (.slice A m cap)) (hR : CellsN W A m) (h0 : J [] W) :
    CallsIn Fence.wide n Try.prog 52 #[.func (.yield l) #[] #[], .pointer (some ⟨Bs, 0, none⟩)] W fun e W' => (∃ v, e = .returned v) ∧ (J (List.range' 0 m) W' ∨ ∃ pre post, List.range' 0 m = pre ++ post ∧ Jx pre W') := by
  have hc := hBs.cell
  refine callsIn_of_wp Try.func52 rfl trivial ?_ rfl
  simp only [Try.ntmps52, List.size_toArray, List.length_cons, List.length_nil, Nat.reduceAdd, Nat.reduceSub, Array.replicate_succ, Array.replicate_zero, List.push_toArray, List.append_toArray, List.nil_append, List.cons_append]
  gi_wp2
  gi_loopw [7] (fun i wr => ∃ k pre, k ≤ m ∧ i = .int .i64 (k : Int) ∧ List.range' 0 m = pre ++ List.range' k (m - k) ∧ J pre wr ∧ Boxed wr Bs 22 (.slice A m cap) ∧ CellsN wr A m) (fun i _ => m - (intOf i).toNat)
  case atStart => exact ⟨0, [], Nat.zero_le _, rfl, rfl, h0, hBs, hR⟩
  case round =>
    clear hc
    obtain ⟨k, pre, hk, rfl, hb, hJs, hBs', hR'⟩ := hrel
    have HB := Lib.hid hb; clear hb
    have HR := Lib.hid hR'; clear hR'
    have hc := hBs'.cell
    by_cases hlt : k < m
    · have hki : (k : Int) < (m : Int) := by omega
      have HB2 : Hid (List.range' 0 m = pre ++ k :: List.range' (k + 1) (m - (k + 1))) := Lib.hid (by rw [HB.out, up_succ hlt])
      clear HB
      obtain ⟨a, x, y, D, dn, dc, t, E, en, ec, rfl, c0, c1, c2, c3, c4⟩ := HR.out k hlt
      obtain ⟨fn, tmps, assign, body, hy, hRR⟩ := hY pre k _ #[.int .i64 (k : Int), .agg #[.int .i64 x, .int .i64 y, .slice D dn dc, strV t, .slice E en ec]] (wr.alloc (.cells #[.int .i64 x, .int .i64 y, .slice D dn dc, strV t, .slice E en ec] 45)) HB2.out (hJ _ _ _ hJs) (ab_EN.alloc (s := ()) (B := 0) _ ⟨hlt, a, _, _, _, _, _, rfl, rfl, c0, c1, c2, c3, c4⟩)
      gi_wp2
      refine ⟨(fun h => by cases h), ?_⟩
      refine hRR.mono ?_
      rintro e W3 (⟨rfl, hJ3, hk3⟩ | ⟨rfl, hJx3⟩)
      · have hk0 := kpA_new (Bs := Bs) (A := some a) (World.grownBy_alloc wr (.cells #[.int .i64 x, .int .i64 y, .slice D dn dc, strV t, .slice E en ec] 45) none)
        have hB2 := hk3.1 _ (hk0.1 _ hBs')
        have hR2 := (HR.out.kp hk0.2).kp hk3.2
        have hc3 := hB2.cell
        clear c0 c1 c2 c3 c4
        gi_wp2
        go_roundw
        case rel => exact ⟨k + 1, pre ++ [k], by omega, rfl, by rw [HB2.out]; simp, hJ3, hB2, hR2⟩
        case measure => simp [intOf]; omega
      · gi_wp2
        refine bodyPost_ret (results_none rfl _ _ _) rfl ?_
        exact ⟨⟨_, rfl⟩, .inr ⟨pre ++ [k], List.range' (k + 1) (m - (k + 1)), by rw [HB2.out]; simp, hJx3⟩⟩
    · have hki : ¬ (k : Int) < (m : Int) := by omega
      gi_wp2
      go_end0
      exact ⟨⟨_, rfl⟩, .inl (by have := HB.out; rw [show m - k = 0 by omega] at this; rw [this, List.range'_zero, List.append_nil]; exact hJs)⟩

theorem allN_gives (n Bs cap m : Nat) (A : Option Addr) (hle : m ≤ 1000000) (w : World) (hBs : Boxed w Bs 22 (.slice A m cap)) (hR : CellsN w A m) :
    GivesE Try.prog Plain n 52 #[.pointer (some ⟨Bs, 0, none⟩)] (EN m A) (List.range' 0 m) (KpA Bs A) w := fun J Jx W hW hs hA _ hY h0 =>
  allN1_in n _ Bs cap m A hle J Jx (fun pre W o h => hA.alloc o h) (fun pre x post vals W1 h1 h2 h3 => yield_less (hY pre x post vals W1 h1 h2 h3)) W ((hW.block Bs hBs.lt).trans hBs) (hR.kp (kpA_below hW (Bs := Bs)).2) h0

end Bb
end Go.Proofs.Ytdnkinajbebkoaa

set_option maxRecDepth 100000
namespace Go.Proofs.Ytdnkinajbebkoaa
open Go.RowKit
set_option linter.unusedVariables false
set_option linter.unusedSimpArgs false
namespace Bb
open Tx Df Sq Hk Tr Pr Fl Pn Tg
attribute [local go_sem] eq_id

/-- Is an id one of some? -/
def isIn (l : List Id_) (x : Id_) : Bool := decide (x ∈ l)
/-- How a function ends that tells ids: a row of one's own. -/
def IdsEnd (w : World) (l : List Id_) (e : Ending) (w' : World) : Prop := ∃ A n c, e = .returned (.slice A n c) ∧ l.length = n ∧ n ≤ c ∧ RdI w' w'.heap.size A l ∧ Below w.heap.size w w'
theorem ids_take {l : List Nm} {k : Nat} {p : Nm} (h : l[k]? = some p) : idsN (l.take (k + 1)) = idsN (l.take k) ++ [p.id] := by
  unfold idsN
  rw [List.take_add_one, h, List.map_append]
  rfl

end Bb
end Go.Proofs.Ytdnkinajbebkoaa

set_option maxRecDepth 100000
namespace Go.Proofs.Ytdnkinajbebkoaa
open Go.RowKit
set_option linter.unusedVariables false
namespace Bb
open Tx Df Sq Hk Tr Pr Rg Fl Pn Tg

theorem lit_snoc {l : List Nm} {p : Nm} (h : ∀ x ∈ l, Tg.Lit x) (hp : Tg.Lit p) : ∀ x ∈ l ++ [p], Tg.Lit x := fun x hx => by
  rcases List.mem_append.1 hx with h1 | h1
  · exact h x h1
  · cases List.mem_singleton.1 h1; exact hp
/-- Patches, one by one: which are told to pass, which are kept. -/
def bubG (ids : List Id_) (step : List Nm → Nm → Option (Nm × List Nm)) : List Nm → List Nm → List Nm → List Nm × List Nm
  | [], s, g => (s, g)
  | p :: l, s, g => if isIn ids p.id = true then bubG ids step l s (g ++ [p]) else match step g p with
    | some z => bubG ids step l (s ++ [z.1]) z.2
    | none => bubG ids step l s (g ++ [p])
section
variable {ids : List Id_} {step : List Nm → Nm → Option (Nm × List Nm)} {l s g : List Nm} {p : Nm} {z : Nm × List Nm}
theorem bub_in (h : isIn ids p.id = true) : bubG ids step (p :: l) s g = bubG ids step l s (g ++ [p]) := by rw [bubG, if_pos h]
theorem bub_no (h : step g p = none) : bubG ids step (p :: l) s g = bubG ids step l s (g ++ [p]) := by rw [bubG, h]; simp
theorem bub_go (hi : isIn ids p.id = false) (h : step g p = some z) : bubG ids step (p :: l) s g = bubG ids step l (s ++ [z.1]) z.2 := by rw [bubG, hi, h]; rfl
theorem part_bub : ∀ {l s g : List Nm}, partG ids l s g = bubG ids overN l s g
  | [], s, g => by rw [partG, bubG]
  | p :: l, s, g => by
    by_cases hi : p.id ∈ ids
    · rw [partG_in hi, bub_in (decide_eq_true hi)]; exact part_bub
    · cases ho : overN g p with
      | none => rw [partG_no ho, bub_no ho]; exact part_bub
      | some z => rw [partG_over hi ho, bub_go (decide_eq_false hi) ho]; exact part_bub
/-- A patch behind those that are kept, which stand the other way round. -/
def behN (g : List Nm) (p : Nm) : Option (Nm × List Nm) := (undN p g.reverse).map fun z => (z.2, z.1.reverse)
theorem bub_app : ∀ {a b s g : List Nm}, bubG ids step (a ++ b) s g = bubG ids step b (bubG ids step a s g).1 (bubG ids step a s g).2
  | [], b, s, g => rfl
  | p :: a, b, s, g => by
    rw [List.cons_append]
    cases hi : isIn ids p.id with
    | true => rw [bub_in hi, bub_in hi]; exact bub_app
    | false =>
      cases ho : step g p with
      | none => rw [bub_no ho, bub_no ho]; exact bub_app
      | some z => rw [bub_go hi ho, bub_go hi ho]; exact bub_app
theorem pick_bub : ∀ {l : List Nm}, bubG ids behN l.reverse [] [] = ((pickN ids l).2.reverse, (pickN ids l).1.reverse)
  | [] => rfl
  | p :: l => by
    rw [List.reverse_cons, bub_app, pick_bub]
    by_cases hi : p.id ∈ ids
    · rw [bub_in (decide_eq_true hi)]
      rcases h : pickN ids l with ⟨k, r⟩
      rw [pickN, if_pos hi, h]
      simp [bubG]
    · rcases h : pickN ids l with ⟨k, r⟩
      cases ho : undN p k with
      | none =>
        have : behN k.reverse p = none := by unfold behN; rw [List.reverse_reverse, ho]; rfl
        rw [bub_no this, pickN, if_neg hi, h, und_none ho]
        simp [bubG]
      | some z =>
        have : behN k.reverse p = some (z.2, z.1.reverse) := by unfold behN; rw [List.reverse_reverse, ho]; rfl
        rw [bub_go (decide_eq_false hi) this, pickN, if_neg hi, h, und_some (o := z.1) (q := z.2) ho]
        simp [bubG]
theorem over_step {g g' : List Nm} {p x : Nm} (h : overN g p = some (x, g')) (hp : Tg.Lit p) (hg : ∀ y ∈ g, Tg.Lit y) : g'.length = g.length ∧ ∀ y ∈ g', Tg.Lit y :=
  ⟨overN_len h, (over_lit (bo := true) (by rw [h]; rfl) (by rw [h]; rfl) hg hp).2⟩
theorem beh_step {g g' : List Nm} {p x : Nm} (h : behN g p = some (x, g')) (hp : Tg.Lit p) (hg : ∀ y ∈ g, Tg.Lit y) : g'.length = g.length ∧ ∀ y ∈ g', Tg.Lit y := by
  unfold behN at h
  cases hu : undN p g.reverse with
  | none => rw [hu] at h; cases h
  | some z =>
    rw [hu] at h
    injection h with h
    injection h with h1 h2
    subst h1 h2
    refine ⟨?_, fun y hy => ?_⟩
    · rw [List.length_reverse, und_len (o := z.1) (q := z.2) hu, List.length_reverse]
    · exact (und_lit (o := z.1) (q := z.2) hp (fun x hx => hg x (List.mem_reverse.1 hx)) hu).1 y (List.mem_reverse.1 hy)
end

/-- Append onto a row of patches, in a fenced walk. -/
theorem wpListIn_ownT {F : Fence} {n : Nat} {W : World} {ops : Array Oper} {rest : List Oper} {o : Oper} {a : Act} {Q : Exit → Act → World → Prop} (hgd : o.guard = none) (s x : Operand)
    (ho : o.op = .call { callee := .builtin .append, args := #[s, x], argTypes := #[22, 22] })
    (S : Nat → Prop) (base m c : Nat) (v : Value) (A : Option Addr) (l u : List Nm) (hs : a.eval s = v) (hx : a.eval x = .slice A m c) (h : Tg.OwnT W S base v l) (hu : Tg.Src W S A u)
    (hm : u.length = m) (hn : l.length + m ≤ 100000) (hS : ∀ b, S b → b < W.heap.size ∧ some b ≠ v.ownBlock) (hbase : base ≤ W.heap.size)
    (hK : ∀ v' W', Tg.OwnT W' S base v' (l ++ u) → W.grownBy W' v.ownBlock → (∀ b, v'.ownBlock = some b → v.ownBlock = some b ∨ W.heap.size ≤ b) → wpListIn F n Try.prog ops Q rest (a.put o.dst v') W') : wpListIn F n Try.prog ops Q (o :: rest) a W := by
  refine wpListIn_plain hgd fun K hK' => ?_
  obtain ⟨v', W', hrun, h2, h3, h4⟩ := run_ownT (ty := o.type) (c := c) h hu hm hn hS hbase
  unfold Oper.wpIn
  refine ⟨?_, ?_⟩
  · simp [Oper.about, ho, resolve, Target.leads, Sem.run_pure]
  · rw [Oper.semAt_plain F _ _ (by rw [ho]; intro c hc'; cases hc')]
    simp [execOp, ho, resolve, invoke, builtin, hs, hx, hrun, Result.andThen]
    exact hK' _ _ (hK _ _ h2 h3 h4)

/-- The two boxes that split writes. -/
abbrev RS (K z : Nat) : Nat → Prop := fun b => b = K ∨ b = z + 3
/-- What holds while patches are split. -/
structure SpI (w : World) (K z : Nat) (iv pv kv : Value) (v u : Value) (g s : List Nm) (W : World) : Prop where
  row : Rows3 (RS K z) w W v u g s
  bk : Blk W K 58 #[v]
  bf : Blk W (z + 3) 22 #[u]
  b0 : Blk W z 23 #[iv]
  b1 : Blk W (z + 1) 63 #[pv]
  b2 : Blk W (z + 2) 64 #[kv]
def SpJ (w : World) (K z : Nat) (iv pv kv : Value) (ids : List Id_) (step : List Nm → Nm → Option (Nm × List Nm)) (L S G : List Nm) (pre : List Nat) (W : World) : Prop :=
  ∃ v u g s, SpI w K z iv pv kv v u g s W ∧ bubG ids step (L.drop pre.length) s g = (S, G) ∧ s.length + g.length = pre.length ∧ ∀ x ∈ g, Tg.Lit x
section
variable {w W W' : World} {K z : Nat} {iv pv kv v u v' u' : Value} {g s g' s' : List Nm}
theorem SpI.plain {row : Option Nat} (h : SpI w K z iv pv kv v u g s W) (hg : W.grownBy W' row) (hr : ∀ r, row = some r → ∃ o : Obj, W.heap[r]? = some o ∧ o.isCells = false) (hB : ∀ r, row = some r → w.heap.size ≤ r) : SpI w K z iv pv kv v u g s W' := by
  have bl : ∀ {b : Nat} {t : TypeId} {cs : Array Value}, Blk W b t cs → Blk W' b t cs := fun {b t cs} h => h.gr hg (fun e => by
    obtain ⟨o, ho, hf⟩ := hr b e.symm
    rw [show W.heap[b]? = _ from h] at ho; cases ho; cases hf)
  exact ⟨h.row.plain hg hr hB, bl h.bk, bl h.bf, bl h.b0, bl h.b1, bl h.b2⟩
theorem SpI.below (h : SpI w K z iv pv kv v u g s W) (hb : Below W.heap.size W W') : SpI w K z iv pv kv v u g s W' :=
  ⟨h.row.below hb, h.bk.below hb h.bk.lt, h.bf.below hb h.bf.lt, h.b0.below hb h.b0.lt, h.b1.below hb h.b1.lt, h.b2.below hb h.b2.lt⟩
theorem rk_not {t : TypeId} {cs : Array Value} {b : Nat} (h : Rows3 (RS K z) w W v u g s) (hk : Blk W K 58 #[v]) (hb : Blk W b t cs) (h1 : t ≠ 58) (h2 : t ≠ 45) : ¬ RK K v b := fun e => by
  rcases e with rfl | e
  · have h3 := (show W.heap[b]? = _ from hb).symm.trans hk
    simp at h3
    exact h1 h3.2
  · obtain ⟨xs, hr, _⟩ := h.a
    exact hb.not_row h2 hr e
/-- Behind a step of those that are kept. -/
theorem SpI.to (h : SpI w K z iv pv kv v u g s W) (hr : Rows3 (RS K z) w W' v' u g' s) (hk : Blk W' K 58 #[v']) (hm : Mine (RK K v) W W') : SpI w K z iv pv kv v' u g' s W' :=
  ⟨hr, hk, hm.blk h.bf (rk_not h.row h.bk h.bf (by decide) (by decide)), hm.blk h.b0 (rk_not h.row h.bk h.b0 (by decide) (by decide)), hm.blk h.b1 (rk_not h.row h.bk h.b1 (by decide) (by decide)), hm.blk h.b2 (rk_not h.row h.bk h.b2 (by decide) (by decide))⟩
theorem SpI.kpA {Bs : Nat} {A : Option Addr} (h : SpI w K z iv pv kv v u g s W) (hm : Mine (RK K v) W W') (hA : ∀ a, A = some a → a.block < w.heap.size) : KpA Bs A W W' :=
  ⟨fun x hx => hm.blk (show Blk W Bs 22 #[x] from hx) (rk_not h.row h.bk (show Blk W Bs 22 #[x] from hx) (by decide) (by decide)), fun a e p c hp hc => by
    have hl := hA a e
    refine (World.cell?_of_block (hm.block p.block (World.block_lt_of_cell? W p hc) fun e => ?_)).trans hc
    rw [hp] at e
    rcases e with e | e
    · have := (h.row.rl K (.inl rfl)).1; omega
    · have := Tg.ownT_ge h.row.a _ e.symm; omega⟩
/-- The row of those that pass grows, and its box is written. -/
theorem SpI.free {t : List Nm} (h : SpI w K z iv pv kv v u g s W) (ho : Tg.OwnT W' (PR (RS K z) W u v) w.heap.size u' t) (hg : W.grownBy W' u.ownBlock) (hw : ∀ b, u'.ownBlock = some b → u.ownBlock = some b ∨ W.heap.size ≤ b) (hKz : K < z) : SpI w K z iv pv kv v u' g t (W'.setCell ⟨z + 3, 0, none⟩ u') := by
  have hr := ((h.row.swap.app ho hg hw).swap).set (b := z + 3) (.inr rfl) 0 u'
  have nr : ∀ {b : Nat} {t : TypeId} {cs : Array Value}, Blk W b t cs → t ≠ 45 → some b ≠ u.ownBlock := fun {b t cs} hb ht => by
    obtain ⟨xs, hx, _⟩ := h.row.b
    exact hb.not_row ht hx
  exact ⟨hr, (h.bk.gr hg (nr h.bk (by decide))).set_ne (by omega) 0 u', (h.bf.gr hg (nr h.bf (by decide))).set 0 u', (h.b0.gr hg (nr h.b0 (by decide))).set_ne (by omega) 0 u', (h.b1.gr hg (nr h.b1 (by decide))).set_ne (by omega) 0 u', (h.b2.gr hg (nr h.b2 (by decide))).set_ne (by omega) 0 u'⟩
theorem SpI.free_box (h : SpI w K z iv pv kv v u g s W) (hg : W.grownBy W' u.ownBlock) : Blk W' (z + 3) 22 #[u] := h.bf.gr hg (by
  obtain ⟨xs, hx, _⟩ := h.row.b
  exact h.bf.not_row (by decide) hx)
/-- What is older than all this reads as it did. -/
theorem nv_base {X Y : World} {D E : Option Addr} {dn dc n c : Nat} {q : Nm} (h : NV X w.heap.size D dn dc E n c q) (hx : Below w.heap.size w X) (hy : Below w.heap.size w Y) : NV Y Y.heap.size D dn dc E n c q :=
  (((ng_of h).to_ (fun b hb _ => (hy.block b hb).trans (hx.block b hb).symm)).nv).up hy.size
theorem SpI.mine_free (h : SpI w K z iv pv kv v u g s W) (hg : W.grownBy W' u.ownBlock) : Mine (RK (z + 3) u) W (W'.setCell ⟨z + 3, 0, none⟩ u') :=
  (mine_grown hg (fun k e => .inr e.symm) : Mine (RK (z + 3) u) W W').setn (.inl (.inl rfl)) 0 u'
theorem SpI.free_cells (h : SpI w K z iv pv kv v u g s W) : ∀ b, RK (z + 3) u b → ∃ c t f, W.heap[b]? = some (.cells c t f) := rk_cells h.row.swap h.bf
theorem SpI.kpF {Bs : Nat} {A : Option Addr} (h : SpI w K z iv pv kv v u g s W) (hm : Mine (RK (z + 3) u) W W') (hA : ∀ a, A = some a → a.block < w.heap.size) (hB : Bs < z) : KpA Bs A W W' :=
  ⟨fun x hx => hm.blk (show Blk W Bs 22 #[x] from hx) (fun e => by
    rcases e with e | e
    · omega
    · obtain ⟨xs, hr, _⟩ := h.row.b
      exact (show Blk W Bs 22 #[x] from hx).not_row (by decide) hr e), fun a e p c hp hc => by
    have hl := hA a e
    refine (World.cell?_of_block (hm.block p.block (World.block_lt_of_cell? W p hc) fun e => ?_)).trans hc
    rw [hp] at e
    rcases e with e | e
    · have := (h.row.rl (z + 3) (.inr rfl)).1; omega
    · have := Tg.ownT_ge h.row.b _ e.symm; omega⟩
theorem spJ_ab {B : Nat} {ids : List Id_} {step : List Nm → Nm → Option (Nm × List Nm)} {L S G : List Nm} (hB : w.heap.size ≤ B) : Ab Plain B (SpJ w K z iv pv kv ids step L S G) := fun pre W W' row hs hg hr => by
  obtain ⟨v, u, g, s, h, h2⟩ := hs
  exact ⟨v, u, g, s, h.plain hg (fun r e => (hr r e).2) (fun r e => Nat.le_trans hB (hr r e).1), h2⟩
/-- Two blocks of different types. -/
theorem blk_two {b b' : Nat} {t t' : TypeId} {cs cs' : Array Value} (h : Blk W b t cs) (h' : Blk W b' t' cs') (ht : t ≠ t') : b ≠ b' := fun e => by
  subst e
  have h3 := (show W.heap[b]? = _ from h).symm.trans h'
  simp at h3
  exact ht h3.2
end

/-- How split ends. -/
def SplitEnd (w : World) (K : Nat) (S G : List Nm) (e : Ending) (W' : World) : Prop := ∃ v u, e = .returned u ∧ Rows3 (fun b => b = K) w W' v u G S ∧ Blk W' K 58 #[v]

end Bb
end Go.Proofs.Ytdnkinajbebkoaa

set_option maxRecDepth 100000
namespace Go.Proofs.Ytdnkinajbebkoaa
open Go.RowKit Go.Shelf
set_option linter.unusedVariables false
set_option linter.unusedSimpArgs false
namespace Bb
open Tx Df Sq Hk Tr Pr Rg Fl Pn Tg
attribute [local go_sem] Oper.semAt_some

/-- A patch is kept: what holds behind the round. -/
theorem sp_keep {w X W' : World} {K z Bs : Nat} {iv pv kv v u : Value} {ids : List Id_} {step : List Nm → Nm → Option (Nm × List Nm)} {L S G g s : List Nm} {pre : List Nat} {i : Nat} {q : Nm} {A : Option Addr} {e : Ending}
    (hI : SpI w K z iv pv kv v u g s X) (hb : bubG ids step (L.drop pre.length) s g = (S, G)) (hl : s.length + g.length = pre.length) (hg : ∀ x ∈ g, Tg.Lit x) (hq : L[pre.length]? = some q) (hlq : Tg.Lit q) (hk : isIn ids q.id = true ∨ step g q = none) (hA : ∀ a, A = some a → a.block < w.heap.size)
    (hE : KeepEnd (RS K z) K w v u (g ++ [q]) s X e W') : e = .returned (.tuple #[]) ∧ (∀ B, KeepsFrom B X W') ∧ KpA Bs A X W' ∧ SpJ w K z iv pv kv ids step L S G (pre ++ [i]) W' := by
  obtain ⟨v', he, hr, hbk, hm⟩ := hE
  refine ⟨he, hm.keeps (rk_cells hI.row hI.bk), hI.kpA hm hA, v', u, g ++ [q], s, hI.to hr hbk hm, ?_, ?_, lit_snoc hg hlq⟩
  · rw [List.length_append, List.length_singleton]
    rw [drop_at hq] at hb
    rcases hk with h | h
    · rw [bub_in h] at hb; exact hb
    · rw [bub_no h] at hb; exact hb
  · rw [List.length_append, List.length_append, List.length_singleton, List.length_singleton]; omega

set_option maxRecDepth 100000 in
set_option maxHeartbeats 8000000 in
theorem SplitC (gf pf Bs K : Nat) (A : Option Addr) (n c : Nat) (l L : List Nm) (full : List Nat) (A' : Option Addr) (n' c' : Nat) (ids : List Id_) (step : List Nm → Nm → Option (Nm × List Nm)) (S G : List Nm) (w W : World)
    (hge : ∀ args w, (callFunc gf args).run Try.prog w = .ok (.enter gf args) w) (hpe : ∀ args w, (callFunc pf args).run Try.prog w = .ok (.enter pf args) w)
    (hG : ∀ w5, Boxed w5 Bs 22 (.slice A n c) → CellsN w5 A n → GivesE Try.prog Plain 3 gf #[.pointer (some ⟨Bs, 0, none⟩)] (EN n A) full (KpA Bs A) w5)
    (hP : ∀ (R : Nat → Prop) (X : World) (v u : Value) (g s : List Nm) (D : Option Addr) (dn dc : Nat) (E : Option Addr) (m k : Nat) (p : Nm), R K → Rows3 R w X v u g s → Blk X K 58 #[v] → Tg.Lit p → (∀ x ∈ g, Tg.Lit x) → g.length ≤ 1000 → NV X X.heap.size D dn dc E m k p →
      Calls Try.prog pf #[.pointer (some ⟨K, 0, none⟩), nmV p.id D dn dc p.txt E m k] X (GoneEnd R K w v u g s (step g p) X))
    (hSt : ∀ g p x g', step g p = some (x, g') → Tg.Lit p → (∀ y ∈ g, Tg.Lit y) → g'.length = g.length ∧ ∀ y ∈ g', Tg.Lit y)
    (hln : l.length = n) (hle : n ≤ 100) (hfull : ∀ k i : Nat, full[k]? = some i → k < n ∧ L[k]? = l[i]?) (hLn : L.length = n) (hfn : full.length = n) (hll : ∀ p ∈ l, Tg.Lit p) (hls : RdN w w.heap.size A l) (hin : ids.length = n') (hile : n' ≤ 1000000) (his : RdI w w.heap.size A' ids)
    (hBs : Boxed W Bs 22 (.slice A n c)) (hbw : Below w.heap.size w W) (hK : Blk W K 58 #[.slice none 0 0]) (hKw : w.heap.size ≤ K) (hSG : bubG ids step L [] [] = (S, G)) :
    Calls Try.prog 28 #[.func (.func gf) #[] #[.pointer (some ⟨Bs, 0, none⟩)], .slice A' n' c', .func (.func pf) #[.pointer (some ⟨K, 0, none⟩)] #[], .func (.func 31) #[.pointer (some ⟨K, 0, none⟩)] #[]] W (SplitEnd w K S G) := by
  have HGE := Lib.hid hge; have HPE := Lib.hid hpe; have HP := Lib.hid hP; have HST := Lib.hid hSt; have HFULL := Lib.hid hfull; have HLL := Lib.hid hll; have HLS := Lib.hid hls; have HIS := Lib.hid his; have HIN := Lib.hid hin; have HLN := Lib.hid hln; have HLLN := Lib.hid hLn; have HFN := Lib.hid hfn; have HKW := Lib.hid hKw; have HG := Lib.hid hG
  have HKL : Hid (K < W.heap.size) := Lib.hid hK.lt
  have HBL : Hid (Bs < W.heap.size) := Lib.hid hBs.lt
  have HSG := Lib.hid hSG
  obtain ⟨b0, b1, b2, b3, hba⟩ := four_blk W 23 63 64 22 #[(.slice A' n' c')] #[(.func (.func pf) #[.pointer (some ⟨K, 0, none⟩)] #[])] #[(.func (.func 31) #[.pointer (some ⟨K, 0, none⟩)] #[])] #[.slice none 0 0]
  have hs1 : ((((W.alloc (.cells #[(.slice A' n' c')] 23)).alloc (.cells #[(.func (.func pf) #[.pointer (some ⟨K, 0, none⟩)] #[])] 63)).alloc (.cells #[(.func (.func 31) #[.pointer (some ⟨K, 0, none⟩)] #[])] 64)).alloc (.cells #[.slice none 0 0] 22)).heap.size = W.heap.size + 4 := by simp
  have hk1 := hK.below hba hK.lt
  have hbs1 : Boxed ((((W.alloc (.cells #[(.slice A' n' c')] 23)).alloc (.cells #[(.func (.func pf) #[.pointer (some ⟨K, 0, none⟩)] #[])] 63)).alloc (.cells #[(.func (.func 31) #[.pointer (some ⟨K, 0, none⟩)] #[])] 64)).alloc (.cells #[.slice none 0 0] 22)) Bs 22 (.slice A n c) := (hba.block Bs hBs.lt).trans hBs
  have hbw1 := below_mv hbw hba
  have hwW := hbw.size
  clear hge hpe hP hSt hfull hll hls his hin hln hLn hfn hKw hG hBs hbw hK hSG
  refine (callsIn_wide (n := 4)).1 ?_
  refine callsIn_of_wp_marks Try.func28 rfl trivial ?_ rfl
  simp only [Try.ntmps28, List.size_toArray, List.length_cons, List.length_nil, Nat.reduceAdd, Nat.reduceSub, Array.replicate_succ, Array.replicate_zero, List.push_toArray, List.append_toArray, List.nil_append, List.cons_append]
  gi_wp2
  generalize ((((W.alloc (.cells #[(.slice A' n' c')] 23)).alloc (.cells #[(.func (.func pf) #[.pointer (some ⟨K, 0, none⟩)] #[])] 63)).alloc (.cells #[(.func (.func 31) #[.pointer (some ⟨K, 0, none⟩)] #[])] 64)).alloc (.cells #[.slice none 0 0] 22)) = w5 at *
  obtain ⟨z, hz⟩ : ∃ z, W.heap.size = z := ⟨_, rfl⟩
  rw [hz] at b0 b1 b2 b3 hs1 hwW ⊢
  have HZ := Lib.hid hz; have HSZ := Lib.hid hs1
  have hrow : Rows3 (RS K z) w w5 (.slice none 0 0) (.slice none 0 0) [] [] := rows3_nil w hbw1 (fun k e => by have h1 := HKW.out; have h2 := HKL.out; have h3 := HZ.out; rcases e with e | e <;> omega)
  have hst : (SpJ w K z (.slice A' n' c') (.func (.func pf) #[.pointer (some ⟨K, 0, none⟩)] #[]) (.func (.func 31) #[.pointer (some ⟨K, 0, none⟩)] #[]) ids step L S G) [] w5 := ⟨_, _, [], [], ⟨hrow, hk1, b3, b0, b1, b2⟩, HSG.out, rfl, fun x hx => (by cases hx)⟩
  have hc5 := cellsN_rd (RdN.below HLS.out hbw1) HLN.out
  have HA : Hid (∀ a, A = some a → a.block < w.heap.size ∨ n = 0) := Lib.hid (fun a e => by
    rcases HLS.out with h | ⟨a', e', h1, _⟩
    · right; rw [← HLN.out, h]; rfl
    · rw [e] at e'; injection e' with e'; subst e'; exact .inl h1)
  clear b0 b1 b2 b3 hba hk1 hbw1 hrow hz
  refine range_law (n := 4) (gf := gf) (lb := #[.pointer (some ⟨Bs, 0, none⟩)]) rfl HGE.out (Free := Plain) (fun _ h => h)
    (HG.out w5 hbs1 hc5) kpA_t (fun W o o' h ho => kpA_b W o o' h ho) (fun x vals W h => by obtain ⟨_, _, _, _, _, _, _, _, rfl, _⟩ := h; rfl)
    (SpJ w K z (.slice A' n' c') (.func (.func pf) #[.pointer (some ⟨K, 0, none⟩)] #[]) (.func (.func 31) #[.pointer (some ⟨K, 0, none⟩)] #[]) ids step L S G) (fun _ _ _ => False) (spJ_ab (by rw [hs1]; omega)) (fun c => ab_pure _ _ _) hst
    (fun i a' X => ∃ b v0 v1 v2 v3 v4, a' = { tmps := #[.func (.func gf) #[] #[.pointer (some ⟨Bs, 0, none⟩)], .slice A' n' c', .func (.func pf) #[.pointer (some ⟨K, 0, none⟩)] #[], .func (.func 31) #[.pointer (some ⟨K, 0, none⟩)] #[], undef, .pointer (some ⟨z, 0, none⟩), .pointer (some ⟨z + 1, 0, none⟩), .pointer (some ⟨z + 1 + 1, 0, none⟩), .slice none 0 0, .pointer (some ⟨z + 1 + 1 + 1, 0, none⟩), undef, .pointer (some ⟨b, 0, none⟩), undef, undef, .func (.func gf) #[] #[.pointer (some ⟨Bs, 0, none⟩)], .int .i64 (i : Int), .agg #[v0, v1, v2, v3, v4], undef, undef, undef, undef, undef, undef, undef, undef, undef, undef, undef, undef, undef, undef, undef, undef, undef, undef, undef, undef, undef, undef], defers := [] } ∧ EN n A i #[.int .i64 (i : Int), .agg #[v0, v1, v2, v3, v4]] X ∧ Blk X b 45 #[v0, v1, v2, v3, v4])
    (fun i a' => ab_ex fun b => ab_ex fun v0 => ab_ex fun v1 => ab_ex fun v2 => ab_ex fun v3 => ab_ex fun v4 => Ab.and (ab_pure _ _ _) (Ab.and ab_EN (ab_blk fun _ => _))) ?assign ?body ?done ?stop
  case assign =>
    rintro y pre i vals X Kc hi hEL hK
    obtain ⟨v, u, g, s, hI, _⟩ := id hi
    obtain ⟨q, D', dn', dc', E', m', k', hq, rfl, hv⟩ := EN.rd hEL (RdN.below HLS.out hI.row.bw) HLN.out
    clear hI hq hv
    gi_wp2
    exact hK _ _ ((KeepsOthers.alloc X _).from _) (kpA_new (World.grownBy_alloc X _ none)) ((spJ_ab (Nat.le_refl _)).alloc _ hi) ⟨_, _, _, _, _, _, rfl, ab_EN.alloc (s := ()) (B := 0) _ hEL, Blk.new _ _ _⟩
  case body =>
    rintro y pre pst i a' X hfl hI ⟨b, v0, v1, v2, v3, v4, rfl, hEL, hb⟩
    obtain ⟨v, u, g, s, hI, hbub, hlen, hlg⟩ := hI
    have hfk : full[pre.length]? = some i := by rw [hfl, List.getElem?_append_right (Nat.le_refl _), Nat.sub_self]; rfl
    obtain ⟨hkn, hLk⟩ := HFULL.out _ _ hfk
    have hrx := RdN.below HLS.out hI.row.bw
    obtain ⟨q, D, dn, dc, E, m, k, hq, hv, hqv⟩ := EN.rd hEL hrx HLN.out
    obtain ⟨rfl, rfl, rfl, rfl, rfl⟩ := valsN_eq hv
    have HLQ := Lib.hid (HLL.out q (List.mem_of_getElem? hq))
    have HAB : Hid (∀ a, A = some a → a.block < w.heap.size) := Lib.hid (fun a e => (HA.out a e).resolve_right (by omega))
    have HQL := Lib.hid (hLk.trans hq); have HI := Lib.hid hI; have HB := Lib.hid hb; have HBUB := Lib.hid hbub; have HLEN := Lib.hid hlen; have HLG := Lib.hid hlg
    have HPV := Lib.hid (hqv.up hI.row.bw.size); have HPV0 := Lib.hid hqv
    have HGL : Hid (g.length ≤ 99) := Lib.hid (by omega)
    have HSL : Hid (s.length ≤ 99) := Lib.hid (by omega)
    clear hfl hfk hLk hrx hq hv hqv hEL hbub hlen hlg hkn
    obtain ⟨bi, hbi⟩ : ∃ b, isIn ids q.id = b := ⟨_, rfl⟩
    have HBI := Lib.hid hbi
    clear hbi
    have e0 := hb.cell 0 rfl; have e1 := hb.cell 1 rfl; have e2 := hb.cell 2 rfl; have e3 := hb.cell 3 rfl; have e4 := hb.cell 4 rfl; have el := hb.lt
    have z0 := hI.b0.cell 0 rfl; have zl := hI.b0.lt
    clear hI hb
    gi_wp2_with fail
    refine ⟨trivial, CallsIn.inRound y (callsIn_wide.2 ((ContainsI q.id A' n' c' X.heap.size ids X bi HIN.out hile (Nat.le_refl _) (RdI.mv HIS.out HI.out.row.bw) HBI.out).mono ?_))⟩
    rintro e w2 ⟨rfl, hb2⟩
    have HI2 := Lib.hid (HI.out.below hb2); have HBX2 := Lib.hid (HB.out.below hb2 HB.out.lt); have HPV2 := Lib.hid (HPV.out.mv hb2); have HB2 := Lib.hid hb2
    clear e0 e1 e2 e3 e4 el z0 zl hb2
    have e0 := HBX2.out.cell 0 rfl; have e1 := HBX2.out.cell 1 rfl; have e2 := HBX2.out.cell 2 rfl; have e3 := HBX2.out.cell 3 rfl; have e4 := HBX2.out.cell 4 rfl; have el := HBX2.out.lt
    cases bi with
    | true =>
      have z2 : w2.cell? ⟨z + 1 + 1, 0, none⟩ = some (.func (.func 31) #[.pointer (some ⟨K, 0, none⟩)] #[]) := HI2.out.b2.cell 0 rfl; have zl := HI2.out.b2.lt
      gi_wp2_with fail
      refine ⟨trivial, CallsIn.inRound y (callsIn_wide.2 ((KeepC K D dn dc E m k q (.inl rfl) HI2.out.row HI2.out.bk (by have h1 := HPV2.out.l; have h2 := HLQ.out.2.1; omega) (by have h1 := HPV2.out.dl; have h2 := HLQ.out.2.2; omega) HLQ.out.1 (by have := HGL.out; omega) HPV2.out).mono ?_))⟩
      rintro e w3 he
      obtain ⟨rfl, h1, h2, h3⟩ := sp_keep (Bs := Bs) (i := i) HI2.out HBUB.out HLEN.out HLG.out HQL.out HLQ.out (.inl HBI.out) HAB.out he
      clear e0 e1 e2 e3 e4 el z2 zl he
      gi_wp2_with fail
      exact ⟨(keepsFrom_below _ HB2.out).trans (h1 _), kpA_t (kpA_below HB2.out) h2, h3⟩
    | false =>
      obtain ⟨os, hos⟩ : ∃ o, step g q = o := ⟨_, rfl⟩
      have HOS := Lib.hid hos
      have PC := Lib.hid (HP.out (RS K z) w2 v u g s D dn dc E m k q (.inl rfl) HI2.out.row HI2.out.bk HLQ.out HLG.out (by have := HGL.out; omega) HPV2.out)
      rw [hos] at PC
      have z1 := HI2.out.b1.cell 0 rfl; have zl := HI2.out.b1.lt
      have hpe := HPE.out
      clear hos
      gi_wp2_with fail
      clear hpe
      refine ⟨trivial, CallsIn.inRound y (callsIn_wide.2 (PC.out.mono ?_))⟩
      rintro e w3 ⟨D1, d1, c1, E1, m1, k1, v3, he, hnx, hr3, hk3, hm3⟩
      have HNX := Lib.hid hnx
      have HBX3 := Lib.hid (hm3.blk HBX2.out (blk_two HBX2.out HI2.out.bk (by decide)))
      have HI3 := Lib.hid (HI2.out.to hr3 hk3 (hm3.mono fun b e => .inl e))
      have HKF3 : Hid (∀ B, KeepsFrom B X w3) := Lib.hid (fun B => (keepsFrom_below B HB2.out).trans (hm3.keeps (fun b e => by subst e; exact ⟨_, _, _, HI2.out.bk⟩) B))
      have HKP3 : Hid (KpA Bs A X w3) := Lib.hid (kpA_t (kpA_below HB2.out) (HI2.out.kpA (hm3.mono fun b e => .inl e) HAB.out))
      clear e0 e1 e2 e3 e4 el z1 zl hm3 hr3 hk3 hnx PC
      cases os with
      | none =>
        obtain rfl : e = .returned (.tuple #[.agg #[.int .i64 0, .int .i64 0, .slice D1 d1 c1, .string ⟨#[]⟩, .slice E1 m1 k1], .bool false]) := he
        replace HI3 : Hid (SpI w K z (.slice A' n' c') (.func (.func pf) #[.pointer (some ⟨K, 0, none⟩)] #[]) (.func (.func 31) #[.pointer (some ⟨K, 0, none⟩)] #[]) v3 u g s w3) := HI3
        have e0 := HBX3.out.cell 0 rfl; have e1 := HBX3.out.cell 1 rfl; have e2 := HBX3.out.cell 2 rfl; have e3 := HBX3.out.cell 3 rfl; have e4 := HBX3.out.cell 4 rfl; have el := HBX3.out.lt
        have z2 : w3.cell? ⟨z + 1 + 1, 0, none⟩ = some (.func (.func 31) #[.pointer (some ⟨K, 0, none⟩)] #[]) := HI3.out.b2.cell 0 rfl; have zl : z + 1 + 1 < w3.heap.size := HI3.out.b2.lt
        gi_wp2_with fail
        have hba : Below w3.heap.size w3 (w3.alloc (.cells #[.int .i64 0, .int .i64 0, .slice D1 d1 c1, .string ⟨#[]⟩, .slice E1 m1 k1] 45)) := (Below.refl _ _).alloc (Nat.le_refl _) _
        have HI4 := Lib.hid (HI3.out.below hba); have HBA := Lib.hid hba
        have HPV4 := Lib.hid (nv_base HPV0.out HI.out.row.bw HI4.out.row.bw)
        clear e0 e1 e2 e3 e4 el z2 zl hba
        generalize (w3.alloc (.cells #[.int .i64 0, .int .i64 0, .slice D1 d1 c1, .string ⟨#[]⟩, .slice E1 m1 k1] 45)) = w4 at HBA HI4 HPV4 ⊢
        refine ⟨trivial, CallsIn.inRound y (callsIn_wide.2 ((KeepC K D dn dc E m k q (.inl rfl) HI4.out.row HI4.out.bk (by have h1 := HPV4.out.l; have h2 := HLQ.out.2.1; omega) (by have h1 := HPV4.out.dl; have h2 := HLQ.out.2.2; omega) HLQ.out.1 (by have := HGL.out; omega) HPV4.out).mono ?_))⟩
        rintro e w9 he
        obtain ⟨rfl, h1, h2, h3⟩ := sp_keep (Bs := Bs) (i := i) HI4.out HBUB.out HLEN.out HLG.out HQL.out HLQ.out (.inr HOS.out) HAB.out he
        clear he
        gi_wp2_with fail
        exact ⟨((HKF3.out _).trans (keepsFrom_below _ HBA.out)).trans (h1 _), kpA_t (kpA_t HKP3.out (kpA_below HBA.out)) h2, h3⟩
      | some zx =>
        obtain ⟨x, g'⟩ := zx
        obtain rfl : e = .returned (.tuple #[nmV x.id D1 d1 c1 x.txt E1 m1 k1, .bool true]) := he
        replace HI3 : Hid (SpI w K z (.slice A' n' c') (.func (.func pf) #[.pointer (some ⟨K, 0, none⟩)] #[]) (.func (.func 31) #[.pointer (some ⟨K, 0, none⟩)] #[]) v3 u g' s w3) := HI3
        replace HNX : Hid (NG w3 (PR (RS K z) w3 v3 u) D1 d1 c1 E1 m1 k1 x) := HNX
        have hbb := two_box w3 (.cells #[.int .i64 x.id.1, .int .i64 x.id.2, .slice D1 d1 c1, strV x.txt, .slice E1 m1 k1] 45) (.cells #[.int .i64 x.id.1, .int .i64 x.id.2, .slice D1 d1 c1, strV x.txt, .slice E1 m1 k1] 45)
        have HI5 := Lib.hid (HI3.out.below hbb); have HBB := Lib.hid hbb
        have b5 := Blk.new (w3.alloc (.cells #[.int .i64 x.id.1, .int .i64 x.id.2, .slice D1 d1 c1, strV x.txt, .slice E1 m1 k1] 45)) 45 (Tg.nmC x D1 d1 c1 E1 m1 k1)
        rw [World.size_alloc] at b5
        have HSR := Lib.hid (one_src b5 ((HNX.out.to_ ((alike_below hbb).mono pr_lt)).mono fun b hb => pr_swap b (pr_size hbb.size b hb)))
        have HSS : Hid (∀ b, PR (RS K z) ((w3.alloc (.cells #[.int .i64 x.id.1, .int .i64 x.id.2, .slice D1 d1 c1, strV x.txt, .slice E1 m1 k1] 45)).alloc (.cells #[.int .i64 x.id.1, .int .i64 x.id.2, .slice D1 d1 c1, strV x.txt, .slice E1 m1 k1] 45)) u v3 b → b < ((w3.alloc (.cells #[.int .i64 x.id.1, .int .i64 x.id.2, .slice D1 d1 c1, strV x.txt, .slice E1 m1 k1] 45)).alloc (.cells #[.int .i64 x.id.1, .int .i64 x.id.2, .slice D1 d1 c1, strV x.txt, .slice E1 m1 k1] 45)).heap.size ∧ some b ≠ u.ownBlock) := Lib.hid (fun b hb => ⟨hb.1, hb.2.2.1⟩)
        have HBS := Lib.hid HI5.out.row.bw.size
        have HSN : Hid (s.length + 1 ≤ 100000) := Lib.hid (by have := HSL.out; omega)
        have HOW := Lib.hid HI5.out.row.swap.a
        have z3 : w3.cell? ⟨z + 1 + 1 + 1, 0, none⟩ = some u := HI3.out.bf.cell 0 rfl; have zl : z + 1 + 1 + 1 < w3.heap.size := HI3.out.bf.lt
        have zl1 := Nat.lt_succ_of_lt zl
        clear hbb b5
        gi_wp2_with (gi_at_builtin; refine wpListIn_ownT rfl (.tmp 31) (.tmp 33) rfl (PR (RS K z) ((w3.alloc (.cells #[.int .i64 x.id.1, .int .i64 x.id.2, .slice D1 d1 c1, strV x.txt, .slice E1 m1 k1] 45)).alloc (.cells #[.int .i64 x.id.1, .int .i64 x.id.2, .slice D1 d1 c1, strV x.txt, .slice E1 m1 k1] 45)) u v3) w.heap.size 1 1 u (some ⟨w3.heap.size + 1, 0, none⟩) s [x] rfl rfl HOW.out HSR.out rfl HSN.out HSS.out HBS.out ?_; intro u9 w9 ho hg hw; obtain ⟨A9, c9, hv9, hc9⟩ := Tg.ownT_slice ho; obtain ⟨n9, hn9⟩ : ∃ n, List.length (s ++ [x]) = n := ⟨_, rfl⟩; rw [hn9] at hv9; clear hn9 hc9; subst hv9; have HO9 := Lib.hid ho; have HG9 := Lib.hid hg; have HW9 := Lib.hid hw; have bF := HI5.out.free_box hg; have y3 : w9.cell? ⟨z + 1 + 1 + 1, 0, none⟩ = some u := bF.cell 0 rfl; have yf : w9.frozen? ⟨z + 1 + 1 + 1, 0, none⟩ = false := bF.frozen 0; have yl : z + 1 + 1 + 1 < w9.heap.size := bF.lt; clear ho hg hw bF)
        have hst := HST.out g q x g' HOS.out HLQ.out HLG.out
        refine ⟨((HKF3.out _).trans (keepsFrom_below _ HBB.out)).trans ((HI5.out.mine_free HG9.out).keeps HI5.out.free_cells _), kpA_t (kpA_t HKP3.out (kpA_below HBB.out)) (HI5.out.kpF (HI5.out.mine_free HG9.out) HAB.out (by have := HBL.out; have := HZ.out; omega)), v3, _, g', s ++ [x], HI5.out.free HO9.out HG9.out HW9.out (by have := HKL.out; have := HZ.out; omega), ?_, ?_, hst.2⟩
        · have hb := HBUB.out
          rw [drop_at HQL.out, bub_go HBI.out HOS.out] at hb
          rw [List.length_append, List.length_singleton]
          exact hb
        · have := HLEN.out
          rw [List.length_append, List.length_append, List.length_singleton, List.length_singleton, hst.1]; omega
  case done =>
    rintro E9 W9 hE hI hK
    obtain ⟨v, u, g, s, hI, hbub, _⟩ := hI
    rw [HFN.out, List.drop_of_length_le (by rw [HLLN.out]; exact Nat.le_refl _)] at hbub
    have hbub : (s, g) = (S, G) := hbub
    injection hbub with h1 h2
    subst h1 h2
    have f0 := hI.bf.cell 0 rfl; have fl := hI.bf.lt
    have HI := Lib.hid hI
    clear hI
    gi_wp2
    refine ⟨by simp, .inl ⟨_, _, rfl, run_takeDeferred hK, ?_⟩⟩
    have hpg := grownBy_putObj' W9 E9 (.deferred none)
    have hpr : ∀ r, some E9 = some r → ∃ o : Obj, W9.heap[r]? = some o ∧ o.isCells = false := fun r e => by injection e with e; subst e; exact ⟨_, hK, rfl⟩
    have h9 := HI.out.plain hpg hpr (fun r e => by injection e with e; have := HSZ.out; omega)
    clear hK hpr hpg f0 fl
    generalize (World.putObj W9 E9 (.deferred none)) = Wf at *
    refine ⟨u, by simp [results, Try.results28, go_sem], v, u, rfl, h9.row.less (fun b e => .inl e), h9.bk⟩
  case stop =>
    rintro E9 c' pre post W9 hE hpp hf
    exact hf.elim

end Bb
end Go.Proofs.Ytdnkinajbebkoaa

set_option maxRecDepth 100000
namespace Go.Proofs.Ytdnkinajbebkoaa
open Go.RowKit Go.Shelf
set_option linter.unusedVariables false
set_option linter.unusedSimpArgs false
namespace Bb
open Tx Df Sq Hk Tr Pr Rg Fl Pn Tg
attribute [local go_sem] Oper.semAt_some

set_option maxRecDepth 100000 in
set_option maxHeartbeats 8000000 in
theorem BehindC {R : Nat → Prop} {w W : World} {v u : Value} {s gl : List Nm} (K : Nat) (D : Option Addr) (dn dc : Nat) (E : Option Addr) (m k : Nat) (p : Nm) (hR : R K) (h : Rows3 R w W v u gl s) (hb : Blk W K 58 #[v]) (hp : Tg.Lit p) (hg : ∀ x ∈ gl, Tg.Lit x) (hgl : gl.length ≤ 1000) (hv : NV W W.heap.size D dn dc E m k p) :
    Calls Try.prog 36 #[.pointer (some ⟨K, 0, none⟩), nmV p.id D dn dc p.txt E m k] W (GoneEnd R K w v u gl s ((undN p gl.reverse).map fun z => (z.2, z.1.reverse)) W) := by
  obtain ⟨Av, cv, rfl, hcv, hrd⟩ := Tg.rdN_ownT h.a pr_lt
  obtain ⟨nv, hnv⟩ : ∃ nv, gl.length = nv := ⟨_, rfl⟩
  rw [hnv] at h hb hcv hgl ⊢
  have HLN := Lib.hid hnv
  obtain ⟨b0, b1, b2, hba⟩ := three_blk W 45 45 4 #[.int .i64 p.id.1, .int .i64 p.id.2, .slice D dn dc, strV p.txt, .slice E m k] #[.int .i64 0, .int .i64 0, .slice none 0 0, .string ⟨#[]⟩, .slice none 0 0] #[.bool false]
  have hs1 : (((W.alloc (.cells #[.int .i64 p.id.1, .int .i64 p.id.2, .slice D dn dc, strV p.txt, .slice E m k] 45)).alloc (.cells #[.int .i64 0, .int .i64 0, .slice none 0 0, .string ⟨#[]⟩, .slice none 0 0] 45)).alloc (.cells #[.bool false] 4)).heap.size = W.heap.size + 3 := by simp
  have HRK := Lib.hid hR; have HROW := Lib.hid h; have HBK := Lib.hid hb
  have HLK : Hid (K < W.heap.size) := Lib.hid hb.lt
  have HLP := Lib.hid hp; have HLG := Lib.hid hg
  have HRD := Lib.hid (RdN.mv hrd hba); have HV := Lib.hid (NV.mv hv hba)
  clear hnv hb h hcv hR hp hg hrd hv
  refine (callsIn_wide (n := 4)).1 ?_
  refine callsIn_of_wp_marks Try.func36 rfl trivial ?_ rfl
  simp only [Try.ntmps36, List.size_toArray, List.length_cons, List.length_nil, Nat.reduceAdd, Nat.reduceSub, Array.replicate_succ, Array.replicate_zero, List.push_toArray, List.append_toArray, List.nil_append, List.cons_append]
  gi_wp2_with fail
  generalize (((W.alloc (.cells #[.int .i64 p.id.1, .int .i64 p.id.2, .slice D dn dc, strV p.txt, .slice E m k] 45)).alloc (.cells #[.int .i64 0, .int .i64 0, .slice none 0 0, .string ⟨#[]⟩, .slice none 0 0] 45)).alloc (.cells #[.bool false] 4)) = w1 at b0 b1 b2 hba hs1 HRD HV ⊢
  obtain ⟨z, hz⟩ : ∃ z, W.heap.size = z := ⟨_, rfl⟩
  rw [hz] at b0 b1 b2 hs1 ⊢
  have HZ := Lib.hid hz; have HB0 := Lib.hid b0; have HB1 := Lib.hid b1; have HB2 := Lib.hid b2; have HBA := Lib.hid hba; have HS1 := Lib.hid hs1
  have HK1 := Lib.hid (HBK.out.below hba HBK.out.lt)
  have HKZ : Hid (K < z) := Lib.hid (by have := HLK.out; omega)
  have HR1 : Hid (Rows3 (fun b => R b ∨ b = z ∨ b = z + 1 ∨ b = z + 1 + 1) w w1 (.slice Av nv cv) u gl s) := Lib.hid (HROW.out.more (fun b e => e.imp id fun e => by rcases e with e | e | e <;> omega) hba (fun b e => by rcases e with e | e | e | e; (have := (HROW.out.rl b e).2; omega); omega; omega; omega))
  clear hz b0 b1 b2 hba hs1
  refine ⟨trivial, callsIn_wide.2 ((OwnNC D dn dc E m k p w1 (by have h1 := HV.out.l; have h2 := HLP.out.2.1; omega) (by have h1 := HV.out.dl; have h2 := HLP.out.2.2; omega) HLP.out.1 HV.out).mono ?_)⟩
  rintro e u1 ⟨D1, c1, A1, k1, rfl, hn, hb1⟩
  have HN := Lib.hid hn; have HU1 := Lib.hid hb1
  have kk := HK1.out.below hb1 HK1.out.lt
  have kk0 := kk.cell 0 rfl; have kkl := kk.lt; have kkl1 := Nat.lt_succ_of_lt kkl; have kkl2 := Nat.lt_succ_of_lt kkl1
  clear hn hb1 kk
  obtain ⟨j0, hj, hy0, hy1, hy2⟩ := info_parts info_named
  have hmk : ∀ W : World, (Instr.makeSlice 22 (.int .i64 (nv : Int)) (.int .i64 (nv : Int))).run Try.prog W = .ok (.slice (some ⟨W.heap.size, 0, none⟩) nv nv) (W.alloc (.cells (madeCells #[.int .i64 0, .int .i64 0, .slice none 0 0, .string ⟨#[]⟩, .slice none 0 0] (nv * 5)) 45)) := by
    intro W
    have := run_make (P := Try.prog) W 22 45 j0 _ Try.underlying22 hj hy0 .i64 .i64 (nv : Int) (nv : Int) (by omega) (by omega) (by rw [hy2]; omega) (by omega)
    simp only [Int.toNat_natCast, hy1] at this
    exact this
  gi_wp2_with fail
  refine ⟨trivial, ?_⟩
  refine (backN_in 3 Av nv cv _).mono ?_
  rintro e w' ⟨rfl, rfl⟩
  gi_wp2
  have hst := uv_start HN.out HU1.out HRD.out HLN.out hgl HLP.out cv
  dsimp only [Tg.nmC, noC] at hst
  have HF0 := Lib.hid (HU1.out.size)
  obtain ⟨F, hF⟩ : ∃ F, u1.heap.size = F := ⟨_, rfl⟩
  rw [hF] at hst HF0
  rw [hF]
  obtain ⟨g, hg⟩ : ∃ g, F + 1 = g := ⟨_, rfl⟩
  rw [hg] at hst
  rw [hg]
  generalize ((((u1.alloc (.cells #[.int .i64 p.id.1, .int .i64 p.id.2, .slice D1 dn c1, strV p.txt, .slice A1 m k1] 45)).alloc (.cells (madeCells #[.int .i64 0, .int .i64 0, .slice none 0 0, .string ⟨#[]⟩, .slice none 0 0] (nv * 5)) 45)).alloc (.cells #[.slice (some ⟨g, 0, none⟩) nv nv] 22)).alloc (.cells #[.slice Av nv cv] 22)) = w5 at hst ⊢
  obtain ⟨hst, hbs, hsz, hc5⟩ := hst
  have HSZ := Lib.hid hsz; have HFG := Lib.hid hg; have HC5 := Lib.hid hc5
  have hzf : z + 3 ≤ F := by rw [← HS1.out]; exact HF0.out
  clear hmk hF hg hj hy0 hy1 hy2 kk0 kkl kkl1 kkl2 HN HU1 hc5
  refine range_law (n := 4) (gf := 56) (lb := #[.pointer (some ⟨g + 1 + 1, 0, none⟩)]) rfl (enters_of Try.func56 (by kernel_rfl) rfl) (Free := Plain) (fun _ h => h)
    (backN_gives 3 (g + 1 + 1) cv nv Av (by omega) w5 hbs HC5.out) kpN_t (kpN_b (by rw [hsz]; have := HFG.out; omega)) (fun x vals W h => by obtain ⟨_, _, _, _, _, _, _, _, rfl, _⟩ := h; rfl)
    (UvJ w1 F g nv gl p dn m) (UvX (fun b => R b ∨ b = z ∨ b = z + 1 ∨ b = z + 1 + 1) K z w W (.slice Av nv cv) u gl s p) (uvJ_ab (by rw [hsz]; have := HS1.out; omega)) (uvX_ab (by rw [hsz]; have := HROW.out.bw.size; have := HZ.out; omega) (by rw [hsz]; have := HZ.out; omega)) hst
    (fun i a' X => ∃ b v0 v1 v2 v3 v4, a' = { tmps := #[.pointer (some ⟨K, 0, none⟩), nmV p.id D dn dc p.txt E m k, undef, .pointer (some ⟨z, 0, none⟩), .pointer (some ⟨z + 1, 0, none⟩), .pointer (some ⟨z + 1 + 1, 0, none⟩), .pointer (some ⟨F, 0, none⟩), .pointer (some ⟨g + 1, 0, none⟩), .int .i64 (i : Int), .pointer (some ⟨b, 0, none⟩), undef, undef, undef, nmV p.id D dn dc p.txt E m k, nmV p.id D1 dn c1 p.txt A1 m k1, .pointer (some ⟨K, 0, none⟩), .pointer (some ⟨K, 0, none⟩), .pointer (some ⟨K, 0, none⟩), .slice Av nv cv, .int .i64 (nv : Int), .slice (some ⟨g, 0, none⟩) nv nv, .pointer (some ⟨K, 0, none⟩), .pointer (some ⟨K, 0, none⟩), .pointer (some ⟨K, 0, none⟩), .slice Av nv cv, .func (.func 56) #[] #[.pointer (some ⟨g + 1 + 1, 0, none⟩)], .int .i64 (i : Int), .agg #[v0, v1, v2, v3, v4], undef, undef, undef, undef, undef, undef, undef, undef, undef, undef, undef, undef, undef, undef, undef, undef, undef, undef, undef, undef], defers := [] } ∧ EN nv Av i #[.int .i64 (i : Int), .agg #[v0, v1, v2, v3, v4]] X ∧ Blk X b 45 #[v0, v1, v2, v3, v4])
    (fun i a' => ab_ex fun b => ab_ex fun v0 => ab_ex fun v1 => ab_ex fun v2 => ab_ex fun v3 => ab_ex fun v4 => Ab.and (ab_pure _ _ _) (Ab.and ab_EN (ab_blk fun _ => _))) ?assign ?body ?done ?stop
  case assign =>
    rintro y pre i vals X Kc hi hEL hK
    obtain ⟨x, post, Dx, dcx, Ex, kx, hI⟩ := id hi
    obtain ⟨q, D', dn', dc', E', m', k', hq, rfl, hv⟩ := EN.rd hEL (RdN.below HRD.out hI.fr) HLN.out
    clear hI hq hv
    gi_wp2
    exact hK _ _ ((KeepsOthers.alloc X _).from _) (kpN_new (World.grownBy_alloc X _ none)) ((uvJ_ab (Nat.le_refl _)).alloc _ hi) ⟨_, _, _, _, _, _, rfl, ab_EN.alloc (s := ()) (B := 0) _ hEL, Blk.new _ _ _⟩
  case body =>
    rintro y pre pst i a' X hfull hI ⟨b, v0, v1, v2, v3, v4, rfl, hEL, hb⟩
    have hi := dn_split hfull
    clear hfull
    obtain ⟨x, post, Dx, dcx, Ex, kx, hI⟩ := hI
    rw [show nv - pre.length = i + 1 by omega] at hI
    have hrx := RdN.below HRD.out hI.fr
    obtain ⟨q, D', dn', dc', E', m', k', hq, hv, hqv⟩ := EN.rd hEL hrx HLN.out
    obtain ⟨rfl, rfl, rfl, rfl, rfl⟩ := valsN_eq hv
    have HPL := Lib.hid hq; have HI := Lib.hid hI; have HB := Lib.hid hb
    have HLQ := Lib.hid (HLG.out q (List.mem_of_getElem? hq))
    have HPV := Lib.hid (hqv.up hI.fr.size)
    clear hqv hq hv hEL hrx
    obtain ⟨x1, y1, ho⟩ : ∃ x1 y1, outN (passN x q) = (x1, y1) := ⟨_, _, rfl⟩
    obtain ⟨bo, hbo⟩ : ∃ bo, (passN x q).isSome = bo := ⟨_, rfl⟩
    have HO := Lib.hid ho; have HBO := Lib.hid hbo
    clear ho hbo
    have PC := Lib.hid (PassN Dx dn dcx Ex m kx D' dn' dc' E' m' k' x q x1 y1 X bo (by have h1 := hI.ng.l; have h2 := hI.lx.2.1; omega) (by have h1 := HPV.out.l; have h2 := HLQ.out.2.1; omega) (by have h1 := hI.ng.dl; have h2 := hI.lx.2.2; omega) (by have h1 := HPV.out.dl; have h2 := HLQ.out.2.2; omega) hI.lx.1 HLQ.out.1 (hI.ng.mono but_lt).nv HPV.out HO.out HBO.out)
    have e0 := hb.cell 0 rfl; have e1 := hb.cell 1 rfl; have e2 := hb.cell 2 rfl; have e3 := hb.cell 3 rfl; have e4 := hb.cell 4 rfl
    have hbf := hI.bf
    have q0 := hbf.cell 0 (u := .int .i64 x.id.1) rfl; have q1 := hbf.cell 1 (u := .int .i64 x.id.2) rfl; have q2 := hbf.cell 2 (u := .slice Dx dn dcx) rfl; have q3 := hbf.cell 3 (u := strV x.txt) rfl; have q4 := hbf.cell 4 (u := .slice Ex m kx) rfl
    have l0 := hbf.lt; have l9 := hb.lt
    clear hI hb hbf
    gi_wp2_with fail
    refine ⟨trivial, CallsIn.inRound y (callsIn_wide.2 (PC.out.mono ?_))⟩
    rintro e w2 ⟨D1, d1, c1, E1, m1, k1, D2, d2, c2, E2, m2, k2, rfl, n1, n2, hb2⟩
    clear e0 e1 e2 e3 e4 q0 q1 q2 q3 q4 PC l0 l9
    have hbx := below_mv HI.out.fr hb2
    have HB2' := Lib.hid hb2; have HN1 := Lib.hid n1; have HN2 := Lib.hid n2; have HBX := Lib.hid hbx
    clear n1 n2 hb2 hbx
    cases bo with
    | false =>
      have hr0 := HB1.out.below HBX.out HB1.out.lt; have hr2 := HB2.out.below HBX.out HB2.out.lt
      have r0 := hr0.cell 0 (u := .int .i64 0) rfl; have r1 := hr0.cell 1 (u := .int .i64 0) rfl; have r2 := hr0.cell 2 (u := .slice none 0 0) rfl; have r3 := hr0.cell 3 (u := .string ⟨#[]⟩) rfl; have r4 := hr0.cell 4 (u := .slice none 0 0) rfl; have f0 := hr0.frozen 0; have f1 := hr0.frozen 1; have f2 := hr0.frozen 2; have f3 := hr0.frozen 3; have f4 := hr0.frozen 4
      have t0 := hr2.cell 0 (u := .bool false) rfl; have h0 := hr2.frozen 0
      have hlt1 := hr0.lt; have hlt2 := hr2.lt; have hltz := Nat.lt_of_succ_lt hr0.lt
      clear hr0 hr2
      gi_wp2_with fail
      have HNN : Hid (passN x q = none) := Lib.hid (by
        have h := HBO.out
        cases hp : passN x q with
        | none => rfl
        | some z => rw [hp] at h; cases h)
      clear r0 r1 r2 r3 r4 f0 f1 f2 f3 f4 t0 h0 hlt1 hlt2 hltz
      have HUN : Hid (undN p gl.reverse = none) := Lib.hid (by
        obtain ⟨t, ht⟩ := rev_split HPL.out
        rw [ht]
        exact und_snoc_none HI.out.eq HNN.out t)
      exact uv_no HR1.out HK1.out HKZ.out (.inr (.inr (.inl rfl))) (.inr (.inr (.inr rfl))) HZ.out HBA.out HB1.out HB2.out HI.out.fr HB2'.out HUN.out _ _
    | true =>
      have HSM : Hid (passN x q = some (x1, y1)) := Lib.hid (by
        have h := HBO.out; have ho := HO.out
        cases hp : passN x q with
        | none => rw [hp] at h; cases h
        | some z => rw [hp] at ho; exact congrArg some ho)
      obtain ⟨hid, hdp, htx, hll⟩ := (passN_keeps HSM.out).2
      obtain rfl : dn = d2 := by rw [← HN2.out.dl, hdp, HI.out.ng.dl]
      obtain rfl : m = m2 := by rw [← HN2.out.l, hll, HI.out.ng.l]
      clear hid hdp htx hll
      gi_wp2_with fail
      have b3 := (Blk.new w2 45 #[.int .i64 x1.id.1, .int .i64 x1.id.2, .slice D1 d1 c1, strV x1.txt, .slice E1 m1 k1]).alloc (.cells #[.int .i64 y1.id.1, .int .i64 y1.id.2, .slice D2 dn c2, strV y1.txt, .slice E2 m k2] 45)
      have b4 := Blk.new (w2.alloc (.cells #[.int .i64 x1.id.1, .int .i64 x1.id.2, .slice D1 d1 c1, strV x1.txt, .slice E1 m1 k1] 45)) 45 #[.int .i64 y1.id.1, .int .i64 y1.id.2, .slice D2 dn c2, strV y1.txt, .slice E2 m k2]
      have hb4 : Below w2.heap.size w2 ((w2.alloc (.cells #[.int .i64 x1.id.1, .int .i64 x1.id.2, .slice D1 d1 c1, strV x1.txt, .slice E1 m1 k1] 45)).alloc (.cells #[.int .i64 y1.id.1, .int .i64 y1.id.2, .slice D2 dn c2, strV y1.txt, .slice E2 m k2] 45)) := two_box _ _ _
      simp only [World.size_alloc] at b4
      generalize ((w2.alloc (.cells #[.int .i64 x1.id.1, .int .i64 x1.id.2, .slice D1 d1 c1, strV x1.txt, .slice E1 m1 k1] 45)).alloc (.cells #[.int .i64 y1.id.1, .int .i64 y1.id.2, .slice D2 dn c2, strV y1.txt, .slice E2 m k2] 45)) = w4 at b3 b4 hb4 ⊢
      have hw4 := hb4.size
      have HBB := Lib.hid (HI.out.bb.below HB2'.out HI.out.bb.lt); have HBF := Lib.hid (HI.out.bf.below HB2'.out HI.out.bf.lt)
      generalize hz2 : w2.heap.size = z2 at b3 b4 hw4 ⊢
      have hz0 : g + 1 < z2 := by rw [← hz2]; exact HBB.out.lt
      have HB4 := Lib.hid hb4
      have k4 := HBB.out.below hb4 HBB.out.lt
      have HSB : Hid (∀ Y : World, Blk Y (g + 1) 22 #[.slice (some ⟨g, 0, none⟩) nv nv] → Blk Y z2 45 #[.int .i64 x1.id.1, .int .i64 x1.id.2, .slice D1 d1 c1, strV x1.txt, .slice E1 m1 k1] → Blk Y (z2 + 1) 45 #[.int .i64 y1.id.1, .int .i64 y1.id.2, .slice D2 dn c2, strV y1.txt, .slice E2 m k2] → Y.cell? ⟨g + 1, 0, none⟩ = some (.slice (some ⟨g, 0, none⟩) nv nv) ∧ Y.cell? ⟨z2, 0, none⟩ = some (.int .i64 x1.id.1) ∧ Y.cell? ⟨z2, 1, none⟩ = some (.int .i64 x1.id.2) ∧ Y.cell? ⟨z2, 2, none⟩ = some (.slice D1 d1 c1) ∧ Y.cell? ⟨z2, 3, none⟩ = some (strV x1.txt) ∧ Y.cell? ⟨z2, 4, none⟩ = some (.slice E1 m1 k1) ∧ Y.cell? ⟨z2 + 1, 0, none⟩ = some (.int .i64 y1.id.1) ∧ Y.cell? ⟨z2 + 1, 1, none⟩ = some (.int .i64 y1.id.2) ∧ Y.cell? ⟨z2 + 1, 2, none⟩ = some (.slice D2 dn c2) ∧ Y.cell? ⟨z2 + 1, 3, none⟩ = some (strV y1.txt) ∧ Y.cell? ⟨z2 + 1, 4, none⟩ = some (.slice E2 m k2)) := Lib.hid (fun Y h1 h2 h3 => ⟨h1.cell 0 rfl, h2.cell 0 rfl, h2.cell 1 rfl, h2.cell 2 rfl, h2.cell 3 rfl, h2.cell 4 rfl, h3.cell 0 rfl, h3.cell 1 rfl, h3.cell 2 rfl, h3.cell 3 rfl, h3.cell 4 rfl⟩)
      have hfg := HI.out.pos.2
      have STEP := Lib.hid (uv_step HI.out HB2'.out hb4 HN1.out HN2.out HPL.out HLQ.out HSM.out)
      have HK6 := Lib.hid (blk_row5 k4 (g := g) (by omega) i (.int .i64 x1.id.1) (.int .i64 x1.id.2) (.slice D1 d1 c1) (strV x1.txt) (.slice E1 m1 k1))
      have HX6 := Lib.hid (blk_row5 b3 (g := g) (by omega) i (.int .i64 x1.id.1) (.int .i64 x1.id.2) (.slice D1 d1 c1) (strV x1.txt) (.slice E1 m1 k1))
      have HY6 := Lib.hid (blk_row5 b4 (g := g) (by omega) i (.int .i64 x1.id.1) (.int .i64 x1.id.2) (.slice D1 d1 c1) (strV x1.txt) (.slice E1 m1 k1))
      obtain ⟨kk0, e0, e1, e2, e3, e4, yy0, yy1, yy2, yy3, yy4⟩ := HSB.out w4 k4 b3 b4
      have hrow4 := HI.out.row.below (HB2'.out.trans (hb4.mono HB2'.out.size))
      obtain ⟨_, _, _, _, _, _, c0, c1', c2', c3', c4', cf, _⟩ := hrow4.elem (k := i) (x := noN) (by rw [List.length_append, List.length_replicate]; exact HI.out.pl) (by rw [List.getElem?_append_left (by simp), List.getElem?_replicate, if_pos (by omega)])
      have f0 := cf (i * 5); have f1 := cf (i * 5 + 1); have f2 := cf (i * 5 + 2); have f3 := cf (i * 5 + 3); have f4 := cf (i * 5 + 4)
      have hin : (i : Int) < (nv : Int) := by omega
      have hg4 : g < w4.heap.size := by omega
      clear k4 b3 b4 hb4 hrow4 cf
      refine round_held (S := fun Y : World => Y.cell? ⟨g + 1, 0, none⟩ = some (.slice (some ⟨g, 0, none⟩) nv nv) ∧ Y.cell? ⟨z2, 0, none⟩ = some (.int .i64 x1.id.1) ∧ Y.cell? ⟨z2, 1, none⟩ = some (.int .i64 x1.id.2) ∧ Y.cell? ⟨z2, 2, none⟩ = some (.slice D1 d1 c1) ∧ Y.cell? ⟨z2, 3, none⟩ = some (strV x1.txt) ∧ Y.cell? ⟨z2, 4, none⟩ = some (.slice E1 m1 k1) ∧ Y.cell? ⟨z2 + 1, 0, none⟩ = some (.int .i64 y1.id.1) ∧ Y.cell? ⟨z2 + 1, 1, none⟩ = some (.int .i64 y1.id.2) ∧ Y.cell? ⟨z2 + 1, 2, none⟩ = some (.slice D2 dn c2) ∧ Y.cell? ⟨z2 + 1, 3, none⟩ = some (strV y1.txt) ∧ Y.cell? ⟨z2 + 1, 4, none⟩ = some (.slice E2 m k2)) (by kernel_rfl) (by kernel_rfl) ?hq ?hS (fun hS0 => ?_)
      case hq => rintro ⟨_, _, h⟩; exact h
      case hS => exact ⟨kk0, e0, e1, e2, e3, e4, yy0, yy1, yy2, yy3, yy4⟩
      refine wpAnyH_take (i := 0) (v := ?_) rfl (by kernel_rfl) (by kernel_rfl) (by kernel_rfl) (fun _ _ _ h => h) (Or.inl ⟨by rfl, ?_⟩) hS0 ?_
      rotate_left
      · intro Y hY
        obtain ⟨s0, s1, s2, s3, s4, s5, s6, s7, s8, s9, s10⟩ := hY
        go_simp
        try with_reducible rfl
      simp only [Act.put, List.getElem_toArray, List.getElem_cons_succ, List.getElem_cons_zero, List.setIfInBounds_toArray, List.set_cons_succ, List.set_cons_zero]
      refine wpAnyH_take (i := 1) (v := ?_) rfl (by kernel_rfl) (by kernel_rfl) (by kernel_rfl) (fun _ _ _ h => h) (Or.inl ⟨by rfl, ?_⟩) hS0 ?_
      rotate_left
      · intro Y hY
        obtain ⟨s0, s1, s2, s3, s4, s5, s6, s7, s8, s9, s10⟩ := hY
        go_simp
        try with_reducible rfl
      simp only [Act.put, List.getElem_toArray, List.getElem_cons_succ, List.getElem_cons_zero, List.setIfInBounds_toArray, List.set_cons_succ, List.set_cons_zero]
      refine wpAnyH_take (i := 2) (v := ?_) rfl (by kernel_rfl) (by kernel_rfl) (by kernel_rfl) (fun _ _ _ h => h) (Or.inl ⟨by rfl, ?_⟩) hS0 ?_
      rotate_left
      · intro Y hY
        obtain ⟨s0, s1, s2, s3, s4, s5, s6, s7, s8, s9, s10⟩ := hY
        go_simp
        try with_reducible rfl
      simp only [Act.put, List.getElem_toArray, List.getElem_cons_succ, List.getElem_cons_zero, List.setIfInBounds_toArray, List.set_cons_succ, List.set_cons_zero]
      refine wpAnyH_take (i := 3) (v := ?_) rfl (by kernel_rfl) (by kernel_rfl) (by kernel_rfl) (fun _ _ _ h => h) (Or.inl ⟨by rfl, ?_⟩) hS0 ?_
      rotate_left
      · intro Y hY
        obtain ⟨s0, s1, s2, s3, s4, s5, s6, s7, s8, s9, s10⟩ := hY
        go_simp
        try with_reducible rfl
      simp only [Act.put, List.getElem_toArray, List.getElem_cons_succ, List.getElem_cons_zero, List.setIfInBounds_toArray, List.set_cons_succ, List.set_cons_zero]
      refine wpAnyH_take (i := 4) (v := ?_) rfl (by kernel_rfl) (by kernel_rfl) (by kernel_rfl) (fun _ _ _ h => h) (Or.inl ⟨by rfl, ?_⟩) hS0 ?_
      rotate_left
      · intro Y hY
        obtain ⟨s0, s1, s2, s3, s4, s5, s6, s7, s8, s9, s10⟩ := hY
        go_simp
        try with_reducible rfl
      simp only [Act.put, List.getElem_toArray, List.getElem_cons_succ, List.getElem_cons_zero, List.setIfInBounds_toArray, List.set_cons_succ, List.set_cons_zero]
      refine wpAnyH_ready (rs := [5]) (by kernel_rfl) (by simp) ?_
      refine AllReadyH.cons rfl (fun K1 hK => ?_) AllReadyH.nil
      go_simp
      obtain ⟨t1, t2, t3, t4⟩ := STEP.out
      clear hS0 kk0 e0 e1 e2 e3 e4 yy0 yy1 yy2 yy3 yy4 c0 c1' c2' c3' c4' f0 f1 f2 f3 f4 hg4 STEP
      generalize (World.setCell (World.setCell (World.setCell (World.setCell (World.setCell w4 ⟨g, i * 5, none⟩ (.int .i64 x1.id.1)) ⟨g, i * 5 + 1, none⟩ (.int .i64 x1.id.2)) ⟨g, i * 5 + 2, none⟩ (.slice D1 d1 c1)) ⟨g, i * 5 + 3, none⟩ (strV x1.txt)) ⟨g, i * 5 + 4, none⟩ (.slice E1 m1 k1)) = w6 at t1 t2 t3 t4 HK6 HX6 HY6 hK ⊢
      refine hK.out _ _ (HSB.out w6.drew (HK6.out.drewN 1) (HX6.out.drewN 1) (HY6.out.drewN 1)) (fun hS1 => ?_)
      clear hK K1
      have q0 := t4.cell 0 (u := .int .i64 x.id.1) rfl; have q1 := t4.cell 1 (u := .int .i64 x.id.2) rfl; have q2 := t4.cell 2 (u := .slice Dx dn dcx) rfl; have q3 := t4.cell 3 (u := strV x.txt) rfl; have q4 := t4.cell 4 (u := .slice Ex m kx) rfl; have f0 := t4.frozen 0; have f1 := t4.frozen 1; have f2 := t4.frozen 2; have f3 := t4.frozen 3; have f4 := t4.frozen 4; have hqlt := t4.lt
      have T1 := Lib.hid t1; have T2 := Lib.hid t2; have T3 := Lib.hid t3
      have hk9 := blk_set5 HK6.out (g := F) (by omega) (.int .i64 y1.id.1) (.int .i64 y1.id.2) (.slice D2 dn c2) (strV y1.txt) (.slice E2 m k2)
      have hx9 := blk_set5 HX6.out (g := F) (by omega) (.int .i64 y1.id.1) (.int .i64 y1.id.2) (.slice D2 dn c2) (strV y1.txt) (.slice E2 m k2)
      have hy9 := blk_set5 HY6.out (g := F) (by omega) (.int .i64 y1.id.1) (.int .i64 y1.id.2) (.slice D2 dn c2) (strV y1.txt) (.slice E2 m k2)
      clear t1 t2 t3 t4
      refine wpAnyH_ready (rs := [6]) (by kernel_rfl) (by simp) ?_
      refine AllReadyH.cons rfl (fun K1 hK => ?_) AllReadyH.nil
      go_simp
      clear q0 q1 q2 q3 q4 f0 f1 f2 f3 f4 hqlt
      generalize (World.setCell (World.setCell (World.setCell (World.setCell (World.setCell w6 ⟨F, 0, none⟩ (.int .i64 y1.id.1)) ⟨F, 1, none⟩ (.int .i64 y1.id.2)) ⟨F, 2, none⟩ (.slice D2 dn c2)) ⟨F, 3, none⟩ (strV y1.txt)) ⟨F, 4, none⟩ (.slice E2 m k2)) = w9 at hk9 hx9 hy9 T1 T2 T3 hK ⊢
      refine hK.out _ _ (HSB.out w9.drew (hk9.drewN 1) (hx9.drewN 1) (hy9.drewN 1)) (fun _ => wpAnyH_done (by kernel_rfl) ?_ _)
      clear hK K1 hS1
      have hj : nv - (pre ++ [i]).length = i := by rw [List.length_append, List.length_singleton]; omega
      have hd : Below w9.heap.size w9 w9.drew := below_drewN (Below.refl _ _) 1
      refine ⟨(T2.out _).trans (keepsFrom_below _ hd), ⟨fun v hv => T3.out _ v (by omega) (by omega) hv, fun _ => cells5_below (cells5_rd (RdN.below HRD.out T1.out.fr) HLN.out) hd⟩, y1, x1 :: post, D2, c2, E2, k2, ?_⟩
      rw [hj]
      exact T1.out.mv hd
  case done =>
    rintro E9 W9 hE hI hK
    obtain ⟨x, post, Dx, dcx, Ex, kx, hI⟩ := hI
    rw [dn_length, Nat.sub_self] at hI
    have hbf := hI.bf; have hbb := hI.bb
    have hr0 := HB1.out.below hI.fr HB1.out.lt; have hr2 := HB2.out.below hI.fr HB2.out.lt; have hkb := HK1.out.below hI.fr HK1.out.lt
    have q0 := hbf.cell 0 (u := .int .i64 x.id.1) rfl; have q1 := hbf.cell 1 (u := .int .i64 x.id.2) rfl; have q2 := hbf.cell 2 (u := .slice Dx dn dcx) rfl; have q3 := hbf.cell 3 (u := strV x.txt) rfl; have q4 := hbf.cell 4 (u := .slice Ex m kx) rfl
    have bb0 := hbb.cell 0 (u := .slice (some ⟨g, 0, none⟩) nv nv) rfl
    have r0 := hr0.cell 0 (u := .int .i64 0) rfl; have r1 := hr0.cell 1 (u := .int .i64 0) rfl; have r2 := hr0.cell 2 (u := .slice none 0 0) rfl; have r3 := hr0.cell 3 (u := .string ⟨#[]⟩) rfl; have r4 := hr0.cell 4 (u := .slice none 0 0) rfl; have f0 := hr0.frozen 0; have f1 := hr0.frozen 1; have f2 := hr0.frozen 2; have f3 := hr0.frozen 3; have f4 := hr0.frozen 4
    have t0 := hr2.cell 0 (u := .bool false) rfl; have h0 := hr2.frozen 0
    have kk0 := hkb.cell 0 rfl; have kf := hkb.frozen 0
    have hlt0 := hbf.lt; have hlt1 := hr0.lt; have hlt2 := hr2.lt; have hltz := Nat.lt_of_succ_lt hr0.lt; have hltb := hbb.lt; have hkl := hkb.lt
    have hne1 : ¬ F = K := by have := HKZ.out; omega
    have hne2 : ¬ K = z + 1 := by have := HKZ.out; omega
    have hne5 : ¬ K = z + 1 + 1 := by have := HKZ.out; omega
    have hne6 : ¬ z + 1 = K := by have := HKZ.out; omega
    have hne7 : ¬ z + 1 + 1 = K := by have := HKZ.out; omega
    have hne3 : ¬ F = z + 1 := by omega
    have hne4 : ¬ g + 1 = K := by have := HKZ.out; have := hI.pos; omega
    have HI := Lib.hid hI
    have HD := Lib.hid (uv_done hI HR1.out HK1.out HKZ.out (.inl HRK.out) (.inr (.inr (.inl rfl))) (.inr (.inr (.inr rfl))) HZ.out HS1.out HBA.out HB1.out HB2.out (show w1.heap.size ≤ E9 by have := HSZ.out; have := HS1.out; omega) hK)
    clear hI hbf hbb hr0 hr2 hkb
    gi_wp2
    obtain ⟨d1, d2, d3, d4, d5, d6, d7⟩ := HD.out
    clear bb0 q0 q1 q2 q3 q4 r0 r1 r2 r3 r4 f0 f1 f2 f3 f4 t0 h0 kk0 kf hlt0 hlt1 hlt2 hltz hltb hkl hK HD
    refine ⟨by simp, .inl ⟨_, _, rfl, run_takeDeferred d1, ?_⟩⟩
    clear d1
    generalize (World.putObj (World.setCell (World.setCell (World.setCell (World.setCell (World.setCell (World.setCell (World.setCell W9 ⟨K, 0, none⟩ (.slice (some ⟨g, 0, none⟩) nv nv)) ⟨z + 1, 0, none⟩ (.int .i64 x.id.1)) ⟨z + 1, 1, none⟩ (.int .i64 x.id.2)) ⟨z + 1, 2, none⟩ (.slice Dx dn dcx)) ⟨z + 1, 3, none⟩ (strV x.txt)) ⟨z + 1, 4, none⟩ (.slice Ex m kx)) ⟨z + 1 + 1, 0, none⟩ (.bool true)) E9 (.deferred none)) = Wf at *
    have u0 := d2.cell 0 (u := .int .i64 x.id.1) rfl; have u1 := d2.cell 1 (u := .int .i64 x.id.2) rfl; have u2 := d2.cell 2 (u := .slice Dx dn dcx) rfl; have u3 := d2.cell 3 (u := strV x.txt) rfl; have u4 := d2.cell 4 (u := .slice Ex m kx) rfl; have z0 := d3.cell 0 (u := .bool true) rfl
    refine ⟨.tuple #[.agg #[.int .i64 x.id.1, .int .i64 x.id.2, .slice Dx dn dcx, strV x.txt, .slice Ex m kx], .bool true], by simp [results, Try.results36, go_sem, u0, u1, u2, u3, u4, z0], ?_⟩
    have he := HI.out.eq
    rw [List.drop_zero] at he
    have hm : ((undN p gl.reverse).map fun z => (z.2, z.1.reverse)) = some (x, post) := by rw [he]; simp
    rw [hm]
    exact ⟨Dx, dn, dcx, Ex, m, kx, _, rfl, d4.mono fun b hb => ⟨hb.1, fun e => hb.2.1 (.inl e), hb.2.2⟩, d5.less (fun b hb => .inl hb), d6, d7⟩
  case stop =>
    rintro E9 c' pre post W9 hE hpp ⟨rfl, ho, r0, r2, r3, r4, r5⟩ hK
    gi_wp2
    refine ⟨by simp, .inl ⟨_, _, rfl, run_takeDeferred hK, ?_⟩⟩
    have hpg := grownBy_putObj' W9 E9 (.deferred none)
    have hpr : ∀ r, some E9 = some r → ∃ o : Obj, W9.heap[r]? = some o ∧ o.isCells = false := fun r e => by injection e with e; subst e; exact ⟨_, hK, rfl⟩
    have bp : ∀ {b : Nat} {t : TypeId} {cs : Array Value}, Blk W9 b t cs → Blk (W9.putObj E9 (.deferred none)) b t cs := fun {b t cs} h => h.gr hpg (fun e => by
      injection e with e
      subst e
      rw [show W9.heap[b]? = _ from h] at hK
      cases hK)
    have d2 := bp r0; have d3 := bp r2; have d6 := bp r4
    have d5 := r3.plain hpg hpr (fun r e => by injection e with e; have := HROW.out.bw.size; have := HZ.out; have := HSZ.out; omega)
    have d7 := r5.trans (mine_grown (R := fun b => b = E9) hpg (fun j e => by injection e with e; exact e.symm)) (fun b e => .inr (by have := HZ.out; have := HSZ.out; omega))
    clear hK r0 r2 r3 r4 r5 bp hpr hpg
    generalize (World.putObj W9 E9 (.deferred none)) = Wf at *
    have u0 := d2.cell 0 (u := .int .i64 0) rfl; have u1 := d2.cell 1 (u := .int .i64 0) rfl; have u2 := d2.cell 2 (u := .slice none 0 0) rfl; have u3 := d2.cell 3 (u := .string ⟨#[]⟩) rfl; have u4 := d2.cell 4 (u := .slice none 0 0) rfl; have z0 := d3.cell 0 (u := .bool false) rfl
    refine ⟨.tuple #[.agg #[.int .i64 0, .int .i64 0, .slice none 0 0, .string ⟨#[]⟩, .slice none 0 0], .bool false], by simp [results, Try.results36, go_sem, u0, u1, u2, u3, u4, z0], ?_⟩
    rw [ho]
    exact ⟨none, 0, 0, none, 0, 0, _, rfl, ng_no _ _, d5.less (fun b hb => .inl hb), d6, d7⟩

end Bb
end Go.Proofs.Ytdnkinajbebkoaa

set_option maxRecDepth 100000
namespace Go.Proofs.Ytdnkinajbebkoaa
open Go.RowKit
set_option linter.unusedVariables false
set_option linter.unusedSimpArgs false
namespace Bb
open Tx Df Sq Hk Tr Pr Fl Pn Tg

/-- The first k, and the last k, have changed places. -/
def RevK (l : List Nm) (k : Nat) (cur : List Nm) : Prop := cur.length = l.length ∧ ∀ i, i < l.length → cur[i]? = if i < k ∨ l.length ≤ i + k then l[l.length - 1 - i]? else l[i]?
theorem revK_zero (l : List Nm) : RevK l 0 l := ⟨rfl, fun i hi => by rw [if_neg (by omega)]⟩
theorem revK_end {l cur : List Nm} {k : Nat} (h : RevK l k cur) (hk : l.length ≤ 2 * k + 1) : cur = l.reverse := by
  refine List.ext_getElem? fun i => ?_
  by_cases hi : i < l.length
  · rw [h.2 i hi, List.getElem?_reverse hi]
    split
    · rfl
    · rw [show l.length - 1 - i = i by omega]
  · rw [List.getElem?_eq_none (by rw [h.1]; omega), List.getElem?_eq_none (by rw [List.length_reverse]; omega)]
theorem revK_step {l cur : List Nm} {k j : Nat} {x y : Nm} (h : RevK l k cur) (hj : j + k + 1 = l.length) (hkj : k < j) (hx : cur[k]? = some x) (hy : cur[j]? = some y) : RevK l (k + 1) ((cur.set k y).set j x) := by
  refine ⟨by rw [List.length_set, List.length_set]; exact h.1, fun i hi => ?_⟩
  have ex := h.2 k (by omega)
  have ey := h.2 j (by omega)
  rw [if_neg (by omega), hx] at ex
  rw [if_neg (by omega), hy] at ey
  by_cases h1 : i = j
  · subst h1
    rw [List.getElem?_set_self (by rw [List.length_set, h.1]; exact hi), if_pos (by omega), show l.length - 1 - i = k by omega]
    exact ex
  · rw [List.getElem?_set_ne (fun e => h1 e.symm)]
    by_cases h2 : i = k
    · subst h2
      rw [List.getElem?_set_self (by rw [h.1]; exact hi), if_pos (by omega), show l.length - 1 - i = j by omega]
      exact ey
    · rw [List.getElem?_set_ne (fun e => h2 e.symm), h.2 i hi]
      by_cases h3 : i < k ∨ l.length ≤ i + k
      · rw [if_pos h3, if_pos (by omega)]
      · rw [if_neg h3, if_neg (by omega)]

theorem grown_row5 (W : World) (g k : Nat) (v0 v1 v2 v3 v4 : Value) : W.grownBy (((((W.setCell ⟨g, k * 5, none⟩ v0).setCell ⟨g, k * 5 + 1, none⟩ v1).setCell ⟨g, k * 5 + 2, none⟩ v2).setCell ⟨g, k * 5 + 3, none⟩ v3).setCell ⟨g, k * 5 + 4, none⟩ v4) (some g) := by
  have t : ∀ {X : World} (j : Nat) (v : Value), W.grownBy X (some g) → W.grownBy (X.setCell ⟨g, j, none⟩ v) (some g) := fun {X} j v h => Rg.grow_trans h (grownBy_set X g j v) (fun i e => .inr e)
  exact t _ _ (t _ _ (t _ _ (t _ _ (grownBy_set W g _ _))))
def RevEnd (w : World) (S : Nat → Prop) (base : Nat) (v : Value) (l : List Nm) (e : Ending) (w' : World) : Prop := e = .returned (.tuple #[]) ∧ Tg.OwnT w' S base v l.reverse ∧ w.grownBy w' v.ownBlock

set_option maxRecDepth 100000 in
set_option maxHeartbeats 4000000 in
theorem ReverseC (S : Nat → Prop) (base : Nat) (v : Value) (l : List Nm) (w : World) (hl : l.length ≤ 1000) (hS : ∀ b, S b → some b ≠ v.ownBlock) (h : Tg.OwnT w S base v l) :
    Calls Try.prog 37 #[v] w (RevEnd w S base v l) := by
  obtain ⟨A, c, rfl, hc⟩ := Tg.ownT_slice h
  obtain ⟨n, hn⟩ : ∃ n, l.length = n := ⟨_, rfl⟩
  rw [hn] at h hc hl hS ⊢
  have HN := Lib.hid hn; have HH := Lib.hid h; have HS := Lib.hid hS
  clear hn h hc hS
  go_enter Try.func37, Try.ntmps37
  go_wp2_with fail
  go_loopw [2, 3] (fun i j wr => ∃ (k : Nat) (cur : List Nm), 2 * k ≤ n ∧ i = .int .i64 (k : Int) ∧ j = .int .i64 ((n : Int) - 1 - (k : Int)) ∧ RevK l k cur ∧ Tg.OwnT wr S base (.slice A n c) cur ∧ w.grownBy wr (Value.slice A n c).ownBlock) (fun i _ _ => n - (intOf i).toNat)
  case atStart => exact ⟨0, l, by omega, rfl, by go_num, revK_zero l, HH.out, ⟨rfl, rfl, rfl, Nat.le_refl _, fun _ _ _ => rfl⟩⟩
  case round =>
    obtain ⟨k, cur, hk, rfl, rfl, hcur, hrow, hgr⟩ := hrel
    have HC := Lib.hid hcur; have HR := Lib.hid hrow; have HG := Lib.hid hgr
    clear hcur hrow hgr
    by_cases hlt : 2 * k + 1 < n
    · obtain ⟨j, hj⟩ : ∃ j : Nat, (n : Int) - 1 - (k : Int) = (j : Int) := ⟨n - 1 - k, by omega⟩
      have hkj : k < j := by omega
      have hjn : j < n := by omega
      have hki : (k : Int) < (j : Int) := by omega
      have hki2 : (k : Int) < (n : Int) := by omega
      have hji2 : (j : Int) < (n : Int) := by omega
      have HCL : Hid (cur.length = n) := Lib.hid (HC.out.1.trans HN.out)
      obtain ⟨g, cap, hvv, hbg, hgl⟩ := Tg.ownT_addr HR.out (by rw [HCL.out]; omega)
      injection hvv with ha hb hc
      subst ha hc
      clear hb
      obtain ⟨x, hx⟩ : ∃ x, cur[k]? = some x := ⟨_, List.getElem?_eq_getElem (by rw [HCL.out]; omega)⟩
      obtain ⟨y, hy⟩ : ∃ y, cur[j]? = some y := ⟨_, List.getElem?_eq_getElem (by rw [HCL.out]; omega)⟩
      obtain ⟨D, dn, dc, E, m, e, x0, x1, x2, x3, x4, hf, hnx⟩ := HR.out.elem HCL.out hx
      obtain ⟨D', dn', dc', E', m', e', y0, y1, y2, y3, y4, _, hny⟩ := HR.out.elem HCL.out hy
      have HX := Lib.hid hx; have HY := Lib.hid hy; have HNX := Lib.hid hnx; have HNY := Lib.hid hny
      have f0 := hf (k * 5); have f1 := hf (k * 5 + 1); have f2 := hf (k * 5 + 2); have f3 := hf (k * 5 + 3); have f4 := hf (k * 5 + 4)
      have g0 := hf (j * 5); have g1 := hf (j * 5 + 1); have g2 := hf (j * 5 + 2); have g3 := hf (j * 5 + 3); have g4 := hf (j * 5 + 4)
      clear hx hy hnx hny hf
      rw [hj]
      go_wp2_with fail
      go_region
      have hSg : ¬ S g := fun h => HS.out g h rfl
      have r6 := HR.out.store (k := k) HCL.out hSg HNY.out
      have n6 := HNX.out.to_ ((alike_row5 wr g k (.int .i64 y.id.1) (.int .i64 y.id.2) (.slice D' dn' dc') (strV y.txt) (.slice E' m' e')).mono fun b hb e => hSg (e ▸ hb))
      have q6 := Rg.grow_trans HG.out (grown_row5 wr g k (.int .i64 y.id.1) (.int .i64 y.id.2) (.slice D' dn' dc') (strV y.txt) (.slice E' m' e')) (fun i e => .inr e)
      clear x0 x1 x2 x3 x4 y0 y1 y2 y3 y4 f0 f1 f2 f3 f4 g0 g1 g2 g3 g4
      generalize (World.setCell (World.setCell (World.setCell (World.setCell (World.setCell wr ⟨g, k * 5, none⟩ (.int .i64 y.id.1)) ⟨g, k * 5 + 1, none⟩ (.int .i64 y.id.2)) ⟨g, k * 5 + 2, none⟩ (.slice D' dn' dc')) ⟨g, k * 5 + 3, none⟩ (strV y.txt)) ⟨g, k * 5 + 4, none⟩ (.slice E' m' e')) = w6 at *
      have r9 := r6.store (k := j) (by rw [List.length_set]; exact HCL.out) hSg n6
      have q9 := Rg.grow_trans q6 (grown_row5 w6 g j (.int .i64 x.id.1) (.int .i64 x.id.2) (.slice D dn dc) (strV x.txt) (.slice E m e)) (fun i e => .inr e)
      generalize (World.setCell (World.setCell (World.setCell (World.setCell (World.setCell w6 ⟨g, j * 5, none⟩ (.int .i64 x.id.1)) ⟨g, j * 5 + 1, none⟩ (.int .i64 x.id.2)) ⟨g, j * 5 + 2, none⟩ (.slice D dn dc)) ⟨g, j * 5 + 3, none⟩ (strV x.txt)) ⟨g, j * 5 + 4, none⟩ (.slice E m e)) = w9 at *
      have r10 := r9.below (below_drewN (Below.refl _ _) 1)
      have q10 := gr_drewN q9 1
      have hi1 : (k : Int) + 1 ≤ 1000 := by omega
      go_wp2_with fail
      go_roundw
      case rel => exact ⟨k + 1, _, by omega, by go_num, by first | (congr 1; omega) | (go_num), revK_step HC.out (by rw [HN.out]; omega) hkj HX.out HY.out, r10, q10⟩
      case measure => simp [intOf]; omega
    · have hki : ¬ (k : Int) < (n : Int) - 1 - (k : Int) := by omega
      go_wp2_with fail
      go_end0
      have hrv := revK_end HC.out (by rw [HN.out]; omega)
      exact ⟨rfl, hrv ▸ HR.out, HG.out⟩

end Bb
end Go.Proofs.Ytdnkinajbebkoaa

set_option maxRecDepth 100000
namespace Go.Proofs.Ytdnkinajbebkoaa
open Go.RowKit Go.Shelf
set_option linter.unusedVariables false
set_option linter.unusedSimpArgs false
namespace Bb
open Tx Df Sq Hk Tr Pr Rg Fl Pn Tg

theorem up_full {l : List Nm} {n : Nat} (hn : l.length = n) : ∀ k i : Nat, (List.range' 0 n)[k]? = some i → k < n ∧ l[k]? = l[i]? := fun k i h => by
  obtain ⟨hk, e⟩ := List.getElem?_eq_some_iff.1 h
  rw [List.length_range'] at hk
  rw [List.getElem_range'] at e
  have e : k = i := by omega
  exact ⟨hk, by rw [e]⟩
theorem dn_full {l : List Nm} {n : Nat} (hn : l.length = n) : ∀ k i : Nat, (dn n)[k]? = some i → k < n ∧ l.reverse[k]? = l[i]? := fun k i h => by
  have hk : k < n := by
    have := (List.getElem?_eq_some_iff.1 h).1
    rw [dn_length] at this
    exact this
  refine ⟨hk, ?_⟩
  unfold dn at h
  rw [List.getElem?_reverse (by rw [List.length_range]; exact hk), List.length_range, List.getElem?_range (by omega)] at h
  injection h with h
  rw [List.getElem?_reverse (by omega), hn, h]

set_option maxRecDepth 100000 in
set_option maxHeartbeats 4000000 in
theorem PartC (A : Option Addr) (n c : Nat) (l : List Nm) (A' : Option Addr) (n' c' : Nat) (ids : List Id_) (w : World) (hn : l.length = n) (hle : n ≤ 100) (hn' : ids.length = n') (hle' : n' ≤ 1000000) (hall : ∀ p ∈ l, Tg.Lit p) (hR : RdN w w.heap.size A l) (hR' : RdI w w.heap.size A' ids) (s g : List Nm) (ho : partN l ids = (s, g)) :
    Calls Try.prog 12 #[.slice A n c, .slice A' n' c'] w (PartEnd w s g) := by
  have HN := Lib.hid hn; have HN' := Lib.hid hn'; have HALL := Lib.hid hall; have HR := Lib.hid hR; have HR' := Lib.hid hR'; have HO := Lib.hid ho
  have bk := (Blk.new w 58 #[.slice none 0 0]).alloc (.cells #[.slice A n c] 22)
  have bs : Boxed ((w.alloc (.cells #[.slice none 0 0] 58)).alloc (.cells #[.slice A n c] 22)) (w.heap.size + 1) 22 (.slice A n c) := by
    have h := Boxed.new (w.alloc (.cells #[.slice none 0 0] 58)) 22 (.slice A n c)
    rw [World.size_alloc] at h
    exact h
  have hba := two_box w (.cells #[.slice none 0 0] 58) (.cells #[.slice A n c] 22)
  have HBK := Lib.hid bk; have HBS := Lib.hid bs; have HBA := Lib.hid hba
  clear hn hn' hall hR hR' ho bk bs hba
  go_enter Try.func12, Try.ntmps12
  go_wp2_with fail
  refine (callsIn_wide.1 (allN_in 3 A n c _)).mono ?_
  rintro e w' ⟨rfl, rfl⟩
  go_wp2_with fail
  refine (SplitC 52 30 (w.heap.size + 1) w.heap.size A n c l l (List.range' 0 n) A' n' c' ids overN s g w _ (enters_of Try.func52 (by kernel_rfl) rfl) (enters_of Try.func30 (by kernel_rfl) rfl) (fun w5 h1 h2 => allN_gives 3 (w.heap.size + 1) c n A (by omega) w5 h1 h2) (fun R X v u g s D dn dc E m k p hR h hb hp hg hgl hv => AheadC w.heap.size D dn dc E m k p hR h hb hp hg hgl hv) (fun g p x g' h hp hg => over_step h hp hg) HN.out hle (up_full HN.out) HN.out List.length_range' HALL.out HR.out HN'.out hle' HR'.out HBS.out HBA.out HBK.out (Nat.le_refl _) ?_).mono ?_
  · rw [← part_bub]; exact HO.out
  rintro e w9 ⟨v, u, rfl, hrow, hk⟩
  obtain ⟨A1, c1, rfl, _⟩ := Tg.ownT_slice hrow.a
  obtain ⟨A2, c2, rfl, _⟩ := Tg.ownT_slice hrow.b
  have HROW := Lib.hid (fun q => hrow.below (below_drewN (Below.refl w9.heap.size w9) q))
  have kk := hk.cell 0 rfl
  have kl := hk.lt
  clear hrow hk
  go_wp2_with fail
  go_quiet (fail)
  go_wp2_with fail
  go_ret2
  exact (HROW.out _).swap.rows.end_

set_option maxRecDepth 100000 in
set_option maxHeartbeats 4000000 in
theorem PickC (A : Option Addr) (n c : Nat) (l : List Nm) (A' : Option Addr) (n' c' : Nat) (ids : List Id_) (w : World) (hn : l.length = n) (hle : n ≤ 100) (hn' : ids.length = n') (hle' : n' ≤ 1000000) (hall : ∀ p ∈ l, Tg.Lit p) (hR : RdN w w.heap.size A l) (hR' : RdI w w.heap.size A' ids) (s g : List Nm) (ho : pickN ids l = (s, g)) :
    Calls Try.prog 15 #[.slice A n c, .slice A' n' c'] w (PartEnd w s g) := by
  have HN := Lib.hid hn; have HN' := Lib.hid hn'; have HALL := Lib.hid hall; have HR := Lib.hid hR; have HR' := Lib.hid hR'; have HO := Lib.hid ho
  have bk := (Blk.new w 58 #[.slice none 0 0]).alloc (.cells #[.slice A n c] 22)
  have bs : Boxed ((w.alloc (.cells #[.slice none 0 0] 58)).alloc (.cells #[.slice A n c] 22)) (w.heap.size + 1) 22 (.slice A n c) := by
    have h := Boxed.new (w.alloc (.cells #[.slice none 0 0] 58)) 22 (.slice A n c)
    rw [World.size_alloc] at h
    exact h
  have hba := two_box w (.cells #[.slice none 0 0] 58) (.cells #[.slice A n c] 22)
  have HBK := Lib.hid bk; have HBS := Lib.hid bs; have HBA := Lib.hid hba
  clear hn hn' hall hR hR' ho bk bs hba
  go_enter Try.func15, Try.ntmps15
  go_wp2_with fail
  refine (callsIn_wide.1 (backN_in 3 A n c _)).mono ?_
  rintro e w' ⟨rfl, rfl⟩
  go_wp2_with fail
  refine (SplitC 56 36 (w.heap.size + 1) w.heap.size A n c l l.reverse (dn n) A' n' c' ids behN g.reverse s.reverse w _ (enters_of Try.func56 (by kernel_rfl) rfl) (enters_of Try.func36 (by kernel_rfl) rfl) (fun w5 h1 h2 => gives_kp (backN_gives 3 (w.heap.size + 1) c n A (by omega) w5 h1 h2.cells5) (fun W W' h => h.kpN)) (fun R X v u g s D dn dc E m k p hR h hb hp hg hgl hv => BehindC w.heap.size D dn dc E m k p hR h hb hp hg hgl hv) (fun g p x g' h hp hg => beh_step h hp hg) HN.out hle (dn_full HN.out) (by rw [List.length_reverse]; exact HN.out) (dn_length n) HALL.out HR.out HN'.out hle' HR'.out HBS.out HBA.out HBK.out (Nat.le_refl _) ?_).mono ?_
  · rw [pick_bub, HO.out]
  rintro e w9 ⟨v, u, rfl, hrow, hk⟩
  have kk := hk.cell 0 rfl
  have kl := hk.lt
  have HROW := Lib.hid hrow; have HK := Lib.hid hk
  clear hrow hk
  have hsl : s.reverse.length + g.reverse.length = n := by
    have h := pick_len l ids
    rw [HO.out, HN.out] at h
    rw [List.length_reverse, List.length_reverse]; exact h
  go_wp2_with fail
  refine (ReverseC (PR (fun b => b = w.heap.size) w9 v u) w.heap.size v s.reverse w9 (by omega) (fun b hb => hb.2.2.1) HROW.out.a).mono ?_
  rintro e w10 ⟨rfl, ho, hg⟩
  have HROW2 := Lib.hid (HROW.out.app ho hg (fun b e => .inl e))
  have HK2 := Lib.hid (HK.out.gr hg (fun e => HROW.out.na _ e.symm rfl))
  clear ho hg kk kl
  have kk := HK2.out.cell 0 rfl
  have kl := HK2.out.lt
  go_wp2_with fail
  refine (ReverseC (PR (fun b => b = w.heap.size) w10 u v) w.heap.size u g.reverse w10 (by omega) (fun b hb => hb.2.2.1) HROW2.out.swap.a).mono ?_
  rintro e w11 ⟨rfl, ho, hg⟩
  have hrow3 := (HROW2.out.swap.app ho hg (fun b e => .inl e)).swap
  have hk3 := HK2.out.gr hg (fun e => HROW2.out.nb _ e.symm rfl)
  rw [List.reverse_reverse, List.reverse_reverse] at hrow3
  obtain ⟨A1, c1, rfl, _⟩ := Tg.ownT_slice hrow3.a
  obtain ⟨A2, c2, rfl, _⟩ := Tg.ownT_slice hrow3.b
  have HROW3 := Lib.hid hrow3
  clear ho hg kk kl hrow3
  have kk := hk3.cell 0 rfl
  have kl := hk3.lt
  clear hk3
  go_wp2_with fail
  go_ret2
  exact HROW3.out.rows.end_

set_option maxHeartbeats 2000000 in
theorem IdsC (A : Option Addr) (n c : Nat) (l : List Nm) (w : World) (hn : l.length = n) (hle : n ≤ 10000) (hR : RdN w w.heap.size A l) :
    Calls Try.prog 18 #[.slice A n c] w (IdsEnd w (idsN l)) := by
  have HN := Lib.hid hn; have HR := Lib.hid hR
  clear hn hR
  go_enter Try.func18, Try.ntmps18
  go_wp2_with fail
  go_loopw [3, 8] (fun v i wr => ∃ (k : Nat) (A1 : Option Addr) (m c1 : Nat), k ≤ n ∧ i = .int .i64 (k : Int) ∧ v = .slice A1 m c1 ∧ OwnI wr w.heap.size (.slice A1 m c1) (idsN (l.take k)) ∧ Below w.heap.size w wr) (fun _ i _ => n - (intOf i).toNat)
  case atStart => exact ⟨0, none, 0, 0, Nat.zero_le _, rfl, rfl, ownI_nil _ _, Below.refl _ _⟩
  case round =>
    obtain ⟨k, A1, m, c1, hk, rfl, rfl, hO, hbw⟩ := hrel
    have HBW := Lib.hid hbw; have HO := Lib.hid hO; clear hbw hO
    by_cases hlt : k < n
    · have hki : (k : Int) < (n : Int) := by omega
      obtain ⟨a, p, D, i, j, E, mp, d, rfl, hS, hp, c0, c1', c2, c3, c4, hv⟩ := RdN.elem (RdN.mv HR.out HBW.out) (k := k) (by rw [HN.out]; exact hlt)
      have HP := Lib.hid hp
      have hba := two_box wr (.cells #[.int .i64 p.id.1, .int .i64 p.id.2, .slice D i j, strV p.txt, .slice E mp d] 45) (.cells #[.int .i64 p.id.1, .int .i64 p.id.2] 42)
      have b0 := Blk.new (wr.alloc (.cells #[.int .i64 p.id.1, .int .i64 p.id.2, .slice D i j, strV p.txt, .slice E mp d] 45)) 42 #[.int .i64 p.id.1, .int .i64 p.id.2]
      rw [World.size_alloc] at b0
      have HS1 := Lib.hid (rdI_lone (x := p.id) b0 b0.lt)
      have HO1 := Lib.hid (own_gr HO.out (below_gr_row hba))
      have HB1 := Lib.hid (below_mv HBW.out hba)
      have HL := Lib.hid (show (idsN (l.take k)).length + 1 ≤ 100000 by unfold idsN; rw [List.length_map, List.length_take]; omega)
      clear hv hp hS hba b0
      go_wp2_with (at_builtin; refine wpList_ownI rfl (.tmp 12) (.tmp 15) rfl w.heap.size 1 1 (.slice A1 m c1) (some ⟨wr.heap.size + 1, 0, none⟩) (idsN (l.take k)) [p.id] rfl rfl HO1.out HS1.out rfl HL.out HB1.out.size ?_; intro v' W' ho hg)
      obtain ⟨A9, c9, hv9, _, _⟩ := rdI_own ho
      subst hv9
      refine ⟨⟨k + 1, A9, _, c9, by omega, by go_num, rfl, ?_, HB1.out.grown hg HB1.out.size (fun g e => ownI_ge HO1.out g e)⟩, by simp [intOf]; omega⟩
      rw [ids_take HP.out]
      exact ho
    · have hki : ¬ (k : Int) < (n : Int) := by omega
      go_wp2
      go_ret
      have e : l.take k = l := List.take_of_length_le (by rw [HN.out]; omega)
      have ho := HO.out
      rw [e] at ho
      obtain ⟨A9, c9, e9, h9, h10⟩ := rdI_own ho
      injection e9 with e1 e2 e3
      subst e1 e2 e3
      exact ⟨_, _, _, rfl, rfl, h9, h10, HBW.out⟩

end Bb
end Go.Proofs.Ytdnkinajbebkoaa

set_option maxRecDepth 100000
namespace Go.Proofs.Ytdnkinajbebkoaa
open Go.RowKit
set_option linter.unusedVariables false
set_option linter.unusedSimpArgs false
namespace Bb
open Tx Df Sq Hk Tr Pr Fl Pn Tg

def exC : Ch := ⟨3, [97], [], ⟨0, [], [[120]]⟩⟩
def exS : Nm := ⟨(0, 3), [], [], [exC]⟩
theorem part_ex : partN [exN, exQ, exS] [(0, 1)] = ([exQ], [exN, exS]) := by decide
theorem pick_ex : pickN [(0, 3)] [exN, exQ, exS] = ([exN, exS], [exQ]) := by decide
theorem pg_exC {W : World} {S : Nat → Prop} {b : Nat} (h : Blk W b 9 #[strV [120]]) (hS : S b) : PG W S none 0 0 (some ⟨b, 0, none⟩) 1 1 exC :=
  ⟨rfl, rfl, Nat.le_refl _, Nat.le_refl _, by decide, by decide, .inl rfl, .inr ⟨_, rfl, hS, fun j u hu => by
    cases j with
    | zero => injection hu with hu; subst hu; exact h.cell 0 rfl
    | succ j => simp [exC] at hu⟩, by unfold I64; decide, by unfold I64; decide, by decide, by decide, (fun x hx => by cases hx), (fun x hx => by
      have : x = [120] := by simpa [exC] using hx
      rw [this]; decide)⟩
theorem nv_exS {W : World} {N b : Nat} (h : RdP W (· < N) (some ⟨b, 0, none⟩) [exC]) : NV W N none 0 0 (some ⟨b, 0, none⟩) 1 1 exS :=
  ⟨rfl, Nat.le_refl _, by decide, .inl rfl, by decide, rfl, Nat.le_refl _, by decide, h⟩
theorem lit_ex : ∀ p ∈ [exN, exQ, exS], Tg.Lit p := by
  have h : Lt [exC] := fun x hx => by
    have : x = exC := by simpa using hx
    rw [this]
    decide
  intro p hp
  simp only [List.mem_cons, List.not_mem_nil, or_false] at hp
  rcases hp with rfl | rfl | rfl
  · exact ⟨lt_exN, by decide, by decide⟩
  · exact ⟨lt_exQ, by decide, by decide⟩
  · exact ⟨h, by decide, by decide⟩
/-- Three patches in a block of their own are read as a list. -/
theorem rdN_three {W : World} {b : Nat} {D A D' A' D3 A3 : Option Addr} {dn dc n c dn' dc' n' c' d3 e3 n3 c3 : Nat} {p q r : Nm} (h : Blk W b 45 #[.int .i64 p.id.1, .int .i64 p.id.2, .slice D dn dc, strV p.txt, .slice A n c, .int .i64 q.id.1, .int .i64 q.id.2, .slice D' dn' dc', strV q.txt, .slice A' n' c', .int .i64 r.id.1, .int .i64 r.id.2, .slice D3 d3 e3, strV r.txt, .slice A3 n3 c3])
    (hp : NV W W.heap.size D dn dc A n c p) (hq : NV W W.heap.size D' dn' dc' A' n' c' q) (hr : NV W W.heap.size D3 d3 e3 A3 n3 c3 r) (hb : b < W.heap.size) : RdN W W.heap.size (some ⟨b, 0, none⟩) [p, q, r] :=
  .inr ⟨_, rfl, hb, fun k y hy => by
    have e0 : (⟨b, 0, none⟩ : Addr).add (0 * 5) = ⟨b, 0, none⟩ := rfl
    have e1 : (⟨b, 0, none⟩ : Addr).add (1 * 5) = ⟨b, 5, none⟩ := rfl
    have e2 : (⟨b, 0, none⟩ : Addr).add (2 * 5) = ⟨b, 10, none⟩ := rfl
    match k, hy with
    | 0, hy =>
      injection hy with hy
      subst hy
      exact ⟨by rw [e0]; exact h.cell 0 rfl, by rw [e0]; exact h.cell 1 rfl, by rw [e0]; exact h.cell 3 rfl, D, dn, dc, A, n, c, by rw [e0]; exact h.cell 2 rfl, by rw [e0]; exact h.cell 4 rfl, hp⟩
    | 1, hy =>
      injection hy with hy
      subst hy
      exact ⟨by rw [e1]; exact h.cell 5 rfl, by rw [e1]; exact h.cell 6 rfl, by rw [e1]; exact h.cell 8 rfl, D', dn', dc', A', n', c', by rw [e1]; exact h.cell 7 rfl, by rw [e1]; exact h.cell 9 rfl, hq⟩
    | 2, hy =>
      injection hy with hy
      subst hy
      exact ⟨by rw [e2]; exact h.cell 10 rfl, by rw [e2]; exact h.cell 11 rfl, by rw [e2]; exact h.cell 13 rfl, D3, d3, e3, A3, n3, c3, by rw [e2]; exact h.cell 12 rfl, by rw [e2]; exact h.cell 14 rfl, hr⟩
    | k + 3, hy => simp at hy⟩
theorem blk_five (w : World) (t0 t1 t2 t3 t4 : TypeId) (c0 c1 c2 c3 c4 : Array Value) : let W := ((((w.alloc (.cells c0 t0)).alloc (.cells c1 t1)).alloc (.cells c2 t2)).alloc (.cells c3 t3)).alloc (.cells c4 t4)
    Blk W w.heap.size t0 c0 ∧ Blk W (w.heap.size + 1) t1 c1 ∧ Blk W (w.heap.size + 1 + 1) t2 c2 ∧ Blk W (w.heap.size + 1 + 1 + 1) t3 c3 ∧ Blk W (w.heap.size + 1 + 1 + 1 + 1) t4 c4 ∧ Below w.heap.size w W := by
  intro W
  obtain ⟨b0, b1, b2, b3, hb⟩ := four_blk w t0 t1 t2 t3 c0 c1 c2 c3
  have b4 := Blk.new ((((w.alloc (.cells c0 t0)).alloc (.cells c1 t1)).alloc (.cells c2 t2)).alloc (.cells c3 t3)) t4 c4
  simp only [World.size_alloc] at b4
  exact ⟨b0.alloc _, b1.alloc _, b2.alloc _, b3.alloc _, b4, hb.alloc hb.size _⟩

set_option maxRecDepth 100000 in
set_option maxHeartbeats 4000000 in
theorem awake (w : World) : Calls Try.prog 10 #[] w (BoolEnd w true) := by
  go_enter Try.func10, Try.ntmps10
  go_upto_region 2 with fail
  obtain ⟨b0, b1, b2, b3, b4, hb⟩ := blk_five w 54 54 9 54 45 #[.int .i64 0, strV [97], strV [], .int .i64 0, .slice none 0 0, .slice none 0 0] #[.int .i64 0, strV [98], strV [], .int .i64 0, .slice none 0 0, .slice none 0 0] #[strV [120]] #[.int .i64 3, strV [97], strV [], .int .i64 0, .slice none 0 0, .slice (some ⟨w.heap.size + 1 + 1, 0, none⟩) 1 1]
    #[.int .i64 0, .int .i64 1, .slice none 0 0, strV [], .slice (some ⟨w.heap.size, 0, none⟩) 1 1, .int .i64 0, .int .i64 2, .slice none 0 0, strV [], .slice (some ⟨w.heap.size + 1, 0, none⟩) 1 1, .int .i64 0, .int .i64 3, .slice none 0 0, strV [], .slice (some ⟨w.heap.size + 1 + 1 + 1, 0, none⟩) 1 1]
  generalize (World.alloc (World.alloc (World.alloc (World.alloc (World.alloc w (.cells #[.int .i64 0, strV [97], strV [], .int .i64 0, .slice none 0 0, .slice none 0 0] 54)) (.cells #[.int .i64 0, strV [98], strV [], .int .i64 0, .slice none 0 0, .slice none 0 0] 54)) (.cells #[strV [120]] 9)) (.cells #[.int .i64 3, strV [97], strV [], .int .i64 0, .slice none 0 0, .slice (some ⟨w.heap.size + 1 + 1, 0, none⟩) 1 1] 54))
    (.cells #[.int .i64 0, .int .i64 1, .slice none 0 0, strV [], .slice (some ⟨w.heap.size, 0, none⟩) 1 1, .int .i64 0, .int .i64 2, .slice none 0 0, strV [], .slice (some ⟨w.heap.size + 1, 0, none⟩) 1 1, .int .i64 0, .int .i64 3, .slice none 0 0, strV [], .slice (some ⟨w.heap.size + 1 + 1 + 1, 0, none⟩) 1 1] 45)) = w1 at b0 b1 b2 b3 b4 hb ⊢
  obtain ⟨z, hz⟩ : ∃ z, w.heap.size = z := ⟨_, rfl⟩
  rw [hz] at b0 b1 b2 b3 b4 ⊢
  have RA : RdP w1 (· < w1.heap.size) (some ⟨z, 0, none⟩) [exA] := rdP_lone b0 (pg_ex _ _) b0.lt
  have RB : RdP w1 (· < w1.heap.size) (some ⟨z + 1, 0, none⟩) [exB] := rdP_lone b1 (pg_exB _ _) b1.lt
  have RC : RdP w1 (· < w1.heap.size) (some ⟨z + 1 + 1 + 1, 0, none⟩) [exC] := rdP_lone b3 (pg_exC b2 b2.lt) b3.lt
  have RL := Lib.hid (rdN_three (p := exN) (q := exQ) (r := exS) b4 (nv_ex RA) (nv_exQ RB) (nv_exS RC) b4.lt)
  have HB := Lib.hid hb
  clear b0 b1 b2 b3 b4 hb hz RA RB RC
  go_wp2_with fail
  have hb2 : Below w1.heap.size w1 (w1.alloc (.cells #[.int .i64 0, .int .i64 1] 42)) := (Below.refl _ _).alloc (Nat.le_refl _) _
  have b2 := Blk.new w1 42 #[.int .i64 0, .int .i64 1]
  replace RL := Lib.hid (RdN.mv RL.out hb2); replace HB := Lib.hid (below_mv HB.out hb2)
  clear hb2
  obtain ⟨N, hN⟩ : ∃ N, w1.heap.size = N := ⟨_, rfl⟩
  rw [hN] at b2 ⊢
  clear hN
  generalize (w1.alloc (.cells #[.int .i64 0, .int .i64 1] 42)) = w2 at *
  refine (PartC (some ⟨z + 1 + 1 + 1 + 1, 0, none⟩) 3 3 [exN, exQ, exS] (some ⟨N, 0, none⟩) 1 1 [(0, 1)] w2 rfl (by decide) rfl (by decide) lit_ex RL.out (rdI_lone (x := (0, 1)) b2 b2.lt) [exQ] [exN, exS] part_ex).mono ?_
  rintro e w3 ⟨A1, n1, c1, A2, n2, c2, rfl, hn1, hc1, hr1, hn2, hc2, hr2, hb3⟩
  obtain rfl : 1 = n1 := hn1
  obtain rfl : 2 = n2 := hn2
  have HR1 := Lib.hid hr1
  replace RL := Lib.hid (RdN.mv RL.out hb3); replace HB := Lib.hid (below_mv HB.out hb3)
  clear hr1 hr2 hb3 b2 hc1 hc2
  go_wp2_with fail
  have hb2 : Below w3.heap.size w3 (w3.alloc (.cells #[.int .i64 0, .int .i64 3] 42)) := (Below.refl _ _).alloc (Nat.le_refl _) _
  have b2 := Blk.new w3 42 #[.int .i64 0, .int .i64 3]
  replace RL := Lib.hid (RdN.mv RL.out hb2); replace HR1 := Lib.hid (RdN.mv HR1.out hb2); replace HB := Lib.hid (below_mv HB.out hb2)
  clear hb2
  obtain ⟨M, hM⟩ : ∃ M, w3.heap.size = M := ⟨_, rfl⟩
  rw [hM] at b2 ⊢
  clear hM
  generalize (w3.alloc (.cells #[.int .i64 0, .int .i64 3] 42)) = w4 at *
  refine (PickC (some ⟨z + 1 + 1 + 1 + 1, 0, none⟩) 3 3 [exN, exQ, exS] (some ⟨M, 0, none⟩) 1 1 [(0, 3)] w4 rfl (by decide) rfl (by decide) lit_ex RL.out (rdI_lone (x := (0, 3)) b2 b2.lt) [exN, exS] [exQ] pick_ex).mono ?_
  rintro e w5 ⟨A3, n3, c3, A4, n4, c4, rfl, hn3, hc3, hr3, hn4, hc4, hr4, hb5⟩
  obtain rfl : 2 = n3 := hn3
  obtain rfl : 1 = n4 := hn4
  replace RL := Lib.hid (RdN.mv RL.out hb5); replace HR1 := Lib.hid (RdN.mv HR1.out hb5); replace HB := Lib.hid (below_mv HB.out hb5)
  have HR4 := Lib.hid hr4
  clear hr3 hr4 hb5 b2 hc3 hc4
  obtain ⟨a, q, D, i, j, E, mp, d, rfl, hS, hp, x0, x1, x2, x3, x4, hv⟩ := RdN.elem HR1.out (k := 0) (by decide)
  obtain rfl : exQ = q := Option.some.inj hp
  obtain ⟨a', q', D', i', j', E', mp', d', rfl, hS', hp', y0, y1, y2, y3, y4, hv'⟩ := RdN.elem HR4.out (k := 0) (by decide)
  obtain rfl : exQ = q' := Option.some.inj hp'
  clear x0 x2 x3 x4 y0 y2 y3 y4 hv hv' hp hp'
  rw [Nat.zero_mul, add_zero'] at x1 y1
  have x1 : w5.cell? ⟨a.block, a.off + 1, none⟩ = some (.int .i64 2) := x1
  have y1 : w5.cell? ⟨a'.block, a'.off + 1, none⟩ = some (.int .i64 2) := y1
  go_wp2_with fail
  refine (IdsC (some ⟨z + 1 + 1 + 1 + 1, 0, none⟩) 3 3 [exN, exQ, exS] w5 rfl (by decide) RL.out).mono ?_
  rintro e w6 ⟨A6, n6, c6, rfl, hn6, _, _, hb6⟩
  obtain rfl : 3 = n6 := hn6
  replace HB := Lib.hid (below_mv HB.out hb6)
  clear hb6 x1 y1
  go_wp2_with fail
  go_ret
  exact ⟨rfl, HB.out⟩

end Bb
end Go.Proofs.Ytdnkinajbebkoaa

set_option maxRecDepth 100000
namespace Go.Proofs.Ytdnkinajbebkoaa
open Go.ChangeShapes Go.WideShapes Go.ChangeAt Go.RowKit
set_option linter.unusedVariables false
namespace Bb
open Tx Df Sq Hk Tr Pr Fl Pn Tg

structure IdsArg (w : World) (A : Option Addr) (n c : Nat) (l : List Id_) : Prop where
  len : l.length = n
  cap : n ≤ c
  le : n ≤ maxLen
  rd : RdI w w.heap.size A l
section
variable {H : Type} {enc : TypeId × Value → H} {W : World} {base : Nat} {spare : Nat → Bool} {held : Bool}
theorem ids_in {fuel : Nat} {cs : List Value} {x : DataW H × List MemPlace} {A : Option Addr} {l c : Nat} (h : DataW.trod enc Try.prog W base spare held fuel 23 cs = some x) (hcs : cs = [.slice A l c]) : ∃ t : List Id_, IdsArg W A l c t := by
  subst hcs
  obtain ⟨A', n', c', t, e, h1, h2, h3, h4⟩ := ids_any h
  injection e with e1 e2 e3
  subst e1 e2 e3
  exact ⟨t, h1, h2, h3, h4⟩
end
/-- Where an id is found. -/
theorem find_iff {l : List Nm} {x : Id_} : 0 ≤ findN l x ↔ x ∈ idsN l := by
  unfold findN idsN
  cases h : l.findIdx? (fun p => decide (p.id = x)) with
  | none =>
    rw [List.findIdx?_eq_none_iff] at h
    constructor
    · intro h0
      exact absurd h0 (by decide)
    · intro h0
      obtain ⟨p, hp, e⟩ := List.mem_map.1 h0
      have := h p hp
      rw [decide_eq_false_iff_not] at this
      exact absurd e this
  | some i =>
    constructor
    · intro _
      obtain ⟨hi, h1, _⟩ := List.findIdx?_eq_some_iff_getElem.1 h
      exact List.mem_map.2 ⟨_, List.getElem_mem hi, of_decide_eq_true h1⟩
    · intro _
      exact Int.natCast_nonneg i
theorem find_no {l : List Nm} {x : Id_} (h : ¬ 0 ≤ findN l x) : ∀ p ∈ l, p.id ≠ x := fun p hp e => h (find_iff.2 (List.mem_map.2 ⟨p, hp, e⟩))
/-- Of ids that are not there. -/
theorem no_ids {l : List Nm} {ids : List Id_} {n : Nat} (hn : ids.length = n) (h : ∀ (j : Nat) (y : Id_), ids[j]? = some y → j < n → ¬ 0 ≤ findN l y) : ∀ p ∈ l, p.id ∉ ids := fun p hp hi => by
  obtain ⟨j, hj⟩ := List.getElem?_of_mem hi
  exact find_no (h j _ hj (by rw [← hn]; exact (List.getElem?_eq_some_iff.1 hj).1)) p hp rfl
theorem part_no {l : List Nm} {ids : List Id_} (h : ∀ p ∈ l, p.id ∉ ids) : partN l ids = (l, []) := by
  have := part_none (s := []) h
  rw [List.nil_append] at this
  exact this

/-- One id more. -/
theorem in_next {ids : List Id_} {m : Nat} {x y : Id_} (h : ids[m]? = some y) : isIn (ids.take (m + 1)) x = (isIn (ids.take m) x || decide (x = y)) := by
  have hm := (List.getElem?_eq_some_iff.1 h).1
  have e : ids.take (m + 1) = ids.take m ++ [y] := by
    rw [← List.take_append_getElem hm, (List.getElem?_eq_some_iff.1 h).2]
  unfold isIn
  rw [e]
  by_cases h1 : x ∈ ids.take m
  · rw [decide_eq_true h1, decide_eq_true (List.mem_append_left _ h1)]; rfl
  · by_cases h2 : x = y
    · rw [decide_eq_true h2, Bool.or_true, decide_eq_true (by rw [h2]; simp)]
    · rw [decide_eq_false h1, decide_eq_false h2, decide_eq_false (by simp [h1, h2])]; rfl
theorem nodup_snoc {a : List Id_} {x : Id_} (h : a.Nodup) (hx : x ∉ a) : (a ++ [x]).Nodup := by
  rw [List.nodup_append]
  exact ⟨h, by simp, fun y hy z hz e => by rw [List.mem_singleton.1 hz] at e; exact hx (e ▸ hy)⟩
theorem few_gn {l : List Nm} {m : Nat} (h : fewN l m = true) : ∀ z ∈ l, GN 18 z := fun z hz => by
  obtain ⟨h1, h2, _⟩ := few_all h z hz
  have h3 := fewN_all h z hz
  unfold lightN fewP at h3
  simp only [Bool.and_eq_true, decide_eq_true_eq, List.all_eq_true] at h3
  exact gn_light h2 (fun y hy => by
    have h4 := h3.1.2 y hy
    unfold okP at h4
    simp only [Bool.and_eq_true, decide_eq_true_eq] at h4
    omega)
theorem part_lits {ids : List Id_} : ∀ {l s g : List Nm}, (∀ x ∈ l, Tg.Lit x) → (∀ x ∈ s, Tg.Lit x) → (∀ x ∈ g, Tg.Lit x) → (∀ x ∈ (partG ids l s g).1, Tg.Lit x) ∧ ∀ x ∈ (partG ids l s g).2, Tg.Lit x
  | [], s, g, _, hs, hg => by rw [partG]; exact ⟨hs, hg⟩
  | p :: l, s, g, hl, hs, hg => by
    have hp := hl p (.head _)
    have hl' : ∀ x ∈ l, Tg.Lit x := fun x hx => hl x (.tail _ hx)
    have sn : ∀ {t : List Nm} {x : Nm}, (∀ y ∈ t, Tg.Lit y) → Tg.Lit x → ∀ y ∈ t ++ [x], Tg.Lit y := fun {t x} ht hx y hy => by
      rcases List.mem_append.1 hy with h | h
      · exact ht y h
      · rw [List.mem_singleton.1 h]; exact hx
    rcases partG_cases (ids := ids) (p := p) (l := l) (s := s) (g := g) with ⟨h, _⟩ | ⟨x, g', _, ho, h⟩
    · rw [h]; exact part_lits hl' hs (sn hg hp)
    · rw [h]
      have hx := over_lit (bo := true) (show outO (overN g p) = (x, g') by rw [ho]; rfl) (by rw [ho]; rfl) hg hp
      exact part_lits hl' (sn hs hx.1) hx.2
theorem partN_lits {l s g : List Nm} {ids : List Id_} (h : partN l ids = (s, g)) (hl : ∀ x ∈ l, Tg.Lit x) : (∀ x ∈ s, Tg.Lit x) ∧ ∀ x ∈ g, Tg.Lit x := by
  have := part_lits (ids := ids) hl (s := []) (g := []) (fun x hx => by cases hx) (fun x hx => by cases hx)
  rw [show partG ids l [] [] = (s, g) from h] at this
  exact this
theorem partN_len {l s g : List Nm} {ids : List Id_} {n : Nat} (h : partN l ids = (s, g)) (hn : l.length = n) : s.length + g.length = n := by
  have := part_len l ids
  rw [h] at this
  exact this.trans hn
theorem pick_lits {ids : List Id_} : ∀ {l : List Nm}, (∀ x ∈ l, Tg.Lit x) → (∀ x ∈ (pickN ids l).1, Tg.Lit x) ∧ ∀ x ∈ (pickN ids l).2, Tg.Lit x
  | [], _ => ⟨fun x hx => (by cases hx), fun x hx => (by cases hx)⟩
  | p :: l, hl => by
    have hp := hl p (.head _)
    obtain ⟨h1, h2⟩ := pick_lits (ids := ids) (l := l) (fun x hx => hl x (.tail _ hx))
    rcases pickN_cases (ids := ids) (p := p) (l := l) with ⟨h, _⟩ | ⟨k', r', _, hu, h⟩
    · rw [h]
      exact ⟨fun x hx => by
        rcases List.mem_cons.1 hx with rfl | hx
        · exact hp
        · exact h1 x hx, h2⟩
    · rw [h]
      cases hn : undN p (pickN ids l).1 with
      | none => rw [und_none hn] at hu; cases hu
      | some z =>
        rw [und_some (o := z.1) (q := z.2) hn] at hu
        injection hu with hu
        injection hu with e1 e2
        subst e1 e2
        obtain ⟨l1, l2⟩ := und_lit (o := z.1) (q := z.2) hp h1 hn
        exact ⟨l1, fun x hx => by
          rcases List.mem_append.1 hx with hx | hx
          · rw [List.mem_singleton.1 hx]; exact l2
          · exact h2 x hx⟩
theorem pickN_lits {l s g : List Nm} {ids : List Id_} (h : pickN ids l = (s, g)) (hl : ∀ x ∈ l, Tg.Lit x) : (∀ x ∈ s, Tg.Lit x) ∧ ∀ x ∈ g, Tg.Lit x := by
  have := pick_lits (ids := ids) hl
  rw [h] at this
  exact this
theorem pickN_len {l s g : List Nm} {ids : List Id_} {n : Nat} (h : pickN ids l = (s, g)) (hn : l.length = n) : s.length + g.length = n := by
  have := pick_len l ids
  rw [h] at this
  exact this.trans hn

end Bb
end Go.Proofs.Ytdnkinajbebkoaa

set_option maxRecDepth 100000
namespace Go.Proofs.Ytdnkinajbebkoaa
open Go.RowKit
set_option linter.unusedVariables false
set_option linter.unusedSimpArgs false
open Tr Tx Hk Pr Fl Pn Tg Bb
namespace BbL
attribute [local go_sem] eq_id

set_option maxRecDepth 100000 in
set_option maxHeartbeats 8000000 in
theorem bubbleNone_walk (A_l : Option Addr) (n_l c_l : Nat) (l : List Nm) (A_ids : Option Addr) (n_ids c_ids : Nat) (ids : List Id_) (w : World) (h_l : NmsArg w A_l n_l c_l l) (h_ids : IdsArg w A_ids n_ids c_ids ids) :
    Calls Try.prog 9 #[.slice A_l n_l c_l, .slice A_ids n_ids c_ids] w (LawEnd w) := by
  have HR_l := Lib.hid h_l.rd; have HN_l := Lib.hid h_l.len; have HC_l := Lib.hid h_l.cap; have HM_l := Lib.hid h_l.le
  clear h_l
  have HR_ids := Lib.hid h_ids.rd; have HN_ids := Lib.hid h_ids.len; have HC_ids := Lib.hid h_ids.cap; have HM_ids := Lib.hid h_ids.le
  clear h_ids
  have HB := Lib.hid (Below.refl w.heap.size w)
  go_enter Try.func9, Try.ntmps9
  go_wp2_with fail
  refine (Bb.awake w).mono ?_
  rintro e w_1 ⟨rfl, hb⟩
  replace HR_l := Lib.hid (RdN.mv HR_l.out hb)
  replace HR_ids := Lib.hid (RdI.mv HR_ids.out hb)
  replace HB := Lib.hid (below_mv HB.out hb)
  clear hb
  obtain ⟨bl_l, hbl⟩ : ∃ bb, fewN l 8 = bb := ⟨_, rfl⟩
  have HBL_l := Lib.hid hbl; clear hbl
  go_wp2_with fail
  refine (FewN A_l n_l c_l 8 l w_1 bl_l (by decide) ⟨HN_l.out, HC_l.out, HM_l.out, HR_l.out⟩ HBL_l.out).mono ?_
  rintro e w_2 ⟨rfl, hb⟩
  replace HR_l := Lib.hid (RdN.mv HR_l.out hb)
  replace HR_ids := Lib.hid (RdI.mv HR_ids.out hb)
  replace HB := Lib.hid (below_mv HB.out hb)
  clear hb
  have hle_ids := HM_ids.out
  unfold maxLen at hle_ids
  by_cases hbig : (30 : Int) < (n_ids : Int)
  case pos =>
    cases bl_l <;> (go_wp2; go_ret; exact ⟨rfl, HB.out⟩)
  have HQ_ids : Hid (n_ids ≤ 30) := Lib.hid (by omega)
  clear hle_ids
  cases bl_l with
  | false =>
    go_wp2
    go_ret
    exact ⟨rfl, HB.out⟩
  | true =>
  have HQ_l : Hid (n_l ≤ 8) := Lib.hid (by have h1 := fewN_len HBL_l.out; rw [HN_l.out] at h1; exact h1)
  have HL_l := Lib.hid (few_all HBL_l.out)
  go_upto_region 6 with fail
  go_loopw [7] (fun i wr => ∃ k : Nat, k ≤ n_ids ∧ i = .int .i64 (k : Int) ∧ (∀ (j : Nat) (y : Id_), ids[j]? = some y → j < k → ¬ 0 ≤ findN l y) ∧ Below w_2.heap.size w_2 wr) (fun i _ => n_ids - (intOf i).toNat)
  case atStart => exact ⟨0, Nat.zero_le _, rfl, fun j _ _ hj => by omega, Below.refl _ _⟩
  case round =>
    obtain ⟨k, hk, rfl, hall, hb⟩ := hrel
    have HA := Lib.hid hall; have HBR := Lib.hid hb; clear hall
    replace HR_l := Lib.hid (RdN.mv HR_l.out hb)
    replace HR_ids := Lib.hid (RdI.mv HR_ids.out hb)
    replace HB := Lib.hid (below_mv HB.out hb)
    clear hb
    by_cases hlt : k < n_ids
    case pos =>
      have hki : (k : Int) < (n_ids : Int) := by omega
      obtain ⟨a, y, ha, _, hy, c0, c1⟩ := RdI.elem HR_ids.out (k := k) (by rw [HN_ids.out]; exact hlt)
      subst ha
      have HY := Lib.hid hy
      clear hy
      go_wp2_with fail
      refine (FindN y A_l n_l c_l l wr HN_l.out (by have := HQ_l.out; omega) HR_l.out).mono ?_
      rintro e w_3 ⟨rfl, hb⟩
      replace HR_l := Lib.hid (RdN.mv HR_l.out hb)
      replace HR_ids := Lib.hid (RdI.mv HR_ids.out hb)
      replace HBR := Lib.hid (below_mv HBR.out hb)
      replace HB := Lib.hid (below_mv HB.out hb)
      clear hb
      clear c0 c1
      obtain ⟨f, hf⟩ : ∃ f, findN l y = f := ⟨_, rfl⟩
      have HF := Lib.hid hf
      rw [hf]
      clear hf
      by_cases h0 : 0 ≤ f
      case pos =>
        have e1 : decide (0 ≤ f) = true := decide_eq_true h0
        have e2 : decide (f < 0) = false := decide_eq_false (by omega)
        go_wp2
        go_ret
        exact ⟨rfl, HB.out⟩
      have e1 : decide (0 ≤ f) = false := decide_eq_false h0
      have e2 : decide (f < 0) = true := decide_eq_true (by omega)
      go_wp2
      refine ⟨⟨k + 1, by omega, by go_num, fun j z hz hj => ?_, HBR.out⟩, by simp [intOf]; omega⟩
      by_cases e : j = k
      · subst e
        have h1 := HY.out
        rw [h1] at hz
        injection hz with hz
        subst hz
        rw [HF.out]
        omega
      · have := HA.out j z hz (by omega)
        omega
    have hki : ¬ (k : Int) < (n_ids : Int) := by omega
    have HNI := Lib.hid (no_ids (l := l) HN_ids.out (fun j y hy hj => by have := HA.out j y hy (by omega); omega))
    clear HA HBR
    go_wp2_with fail
    refine (PartC A_l n_l c_l l A_ids n_ids c_ids ids wr HN_l.out (by have := HQ_l.out; omega) HN_ids.out (by have := HQ_ids.out; omega) HL_l.out HR_l.out HR_ids.out l [] (part_no HNI.out)).mono ?_
    rintro e w_3 ⟨A_s, n_s, c_s, A_g, n_g, c_g, rfl, hn1, hc1, hr1, hn2, hc2, hr2, hb⟩
    have HN_s := Lib.hid hn1; have HC_s := Lib.hid hc1; have HR_s := Lib.hid hr1; have HN_g := Lib.hid hn2; have HC_g := Lib.hid hc2; have HR_g := Lib.hid hr2
    clear hn1 hc1 hr1 hn2 hc2 hr2
    replace HR_l := Lib.hid (RdN.mv HR_l.out hb)
    replace HR_ids := Lib.hid (RdI.mv HR_ids.out hb)
    replace HB := Lib.hid (below_mv HB.out hb)
    clear hb
    obtain rfl : 0 = n_g := HN_g.out
    go_wp2_with fail
    refine (PickC A_l n_l c_l l A_ids n_ids c_ids ids w_3 HN_l.out (by have := HQ_l.out; omega) HN_ids.out (by have := HQ_ids.out; omega) HL_l.out HR_l.out HR_ids.out [] l (pick_none HNI.out)).mono ?_
    rintro e w_4 ⟨A_p, n_p, c_p, A_r, n_r, c_r, rfl, hn1, hc1, hr1, hn2, hc2, hr2, hb⟩
    have HN_p := Lib.hid hn1; have HC_p := Lib.hid hc1; have HR_p := Lib.hid hr1; have HN_r := Lib.hid hn2; have HC_r := Lib.hid hc2; have HR_r := Lib.hid hr2
    clear hn1 hc1 hr1 hn2 hc2 hr2
    replace HR_l := Lib.hid (RdN.mv HR_l.out hb)
    replace HR_ids := Lib.hid (RdI.mv HR_ids.out hb)
    replace HR_s := Lib.hid (RdN.mv HR_s.out hb)
    replace HR_g := Lib.hid (RdN.mv HR_g.out hb)
    replace HB := Lib.hid (below_mv HB.out hb)
    clear hb
    obtain rfl : 0 = n_p := HN_p.out
    go_wp2
    go_ret
    exact ⟨rfl, HB.out⟩

end BbL
open BbL
open Tx
open Go.ChangeShapes Go.WideShapes Go.ChangeAt

theorem bubbleNone_own : ownKnob Try.prog.godebug = none := by kernel_rfl
theorem bubbleNone_laidOut : laidOutB Try.prog = true := by kernel_rfl

set_option maxRecDepth 100000 in
theorem bubbleNone_lifted (os : Os) (started : os.Started) (H : Type) (enc : TypeId × Value → H) :
    ReturnsInHanded {} Try.checked os 9 .any (Rows.bubbleNoneSpec.pre6 enc Try.prog Try.f9 Rows.bubbleNoneRow.domain false) (Rows.bubbleNoneSpec.post enc Try.prog Try.f9 false true false false) := by
  refine returnsInHanded_of_change (C := Try.checked) bubbleNone_own started (by kernel_rfl) Try.func9
    (ChangeSpec.witness6 (enc := enc) (C := Try.checked) false ⟨#[], #[.slice none 0 0, .slice none 0 0], []⟩ 8 (by kernel_rfl) (by kernel_rfl) (by kernel_rfl) (by kernel_rfl)) ?_
  intro W base args ds gs before hval0 hW hcnd _
  have hval : ∀ (j : Nat) t v, Try.f9.params[j]? = some t → args[j]? = some v → Value.okWide Try.prog W .any base t v := hval0
  have hW' := hW
  obtain ⟨p, q, hA0, hV, rfl, hfz, hnd⟩ := hW
  have hA : DataW.TrodAll enc Try.prog W 0 (fun _ => true) true Try.f9.params.toList args.toList ds p := hA0
  rw [Try.params9] at hA hval
  obtain ⟨v0, vs0, d0, ds0, p0, q0, hargs, rfl, rfl, h0, r0⟩ := trodAll_cons hA
  obtain ⟨v1, vs1, d1, ds1, p1, q1, rfl, rfl, rfl, h1, r1⟩ := trodAll_cons r0
  obtain ⟨rfl, rfl, rfl⟩ := trodAll_nil r1
  obtain rfl : args = #[v0, v1] := by cases args; simp_all
  obtain ⟨rfl, rfl⟩ := trodVars_none hV
  obtain ⟨a0, n0, c0, rfl⟩ := okWide_slice Try.underlying22 (hval 0 22 v0 rfl rfl)
  have k0 := h0
  have lt0 : ∀ x ∈ p0, x.block < W.heap.size := by obtain ⟨m, hm⟩ := k0; exact DataW.trod_lt m _ _ _ hm
  obtain ⟨l0, s0⟩ : ∃ l, NmsArg W a0 n0 c0 l := by
    obtain ⟨fuel, hf⟩ := h0
    exact nms_in hf (by simp [Value.cells])
  obtain ⟨a1, n1, c1, rfl⟩ := okWide_slice Try.underlying23 (hval 1 23 v1 rfl rfl)
  have k1 := h1
  have lt1 : ∀ x ∈ p1, x.block < W.heap.size := by obtain ⟨m, hm⟩ := k1; exact DataW.trod_lt m _ _ _ hm
  obtain ⟨l1, s1⟩ : ∃ l, IdsArg W a1 n1 c1 l := by
    obtain ⟨fuel, hf⟩ := h1
    exact ids_in hf (by simp [Value.cells])
  clear hA0 hval0
  refine (bubbleNone_walk a0 n0 c0 l0 a1 n1 c1 l1 W s0 s1).mono fun e W' ⟨he, bel⟩ => ?_
  subst he
  exact ⟨_, rfl, _, _, _, [], _, [], hW', trodAll_mk1 (shut_bool Try.underlying4 _), (trodAll_cons_mk (Below.trod bubbleNone_laidOut (by kernel_rfl) (of_decide_eq_true (by kernel_rfl)) k0 bel lt0) (trodAll_cons_mk (Below.trod bubbleNone_laidOut (by kernel_rfl) (of_decide_eq_true (by kernel_rfl)) k1 bel lt1) trodAll_mk0)), rfl, bel.frame _, fun h => by cases h⟩

/-- The statement. -/
theorem bubbleNone_proved : Rows.BubbleNoneSaid :=
  OpenClaim.holds_of_wide 9 Try.f9 rfl rfl rfl rfl rfl rfl rfl ⟨rfl, rfl, rfl, rfl, rfl⟩ rfl rfl rfl rfl rfl (by kernel_rfl) Try.func9 (by kernel_rfl)
    (of_decide_eq_true (by kernel_rfl)) (by unfold Func.isWrapper; first | (rw [if_pos (by decide +kernel)]; kernel_rfl) | (rw [if_neg (by decide +kernel)]; exact ⟨rfl, rfl⟩))
    (fun os started H enc _ => bubbleNone_lifted os started H enc)

#print axioms bubbleNone_proved
end Go.Proofs.Ytdnkinajbebkoaa

set_option maxRecDepth 100000
namespace Go.Proofs.Ytdnkinajbebkoaa
open Go.RowKit
set_option linter.unusedVariables false
set_option linter.unusedSimpArgs false
open Tr Tx Hk Pr Fl Pn Tg Bb
namespace BbL
attribute [local go_sem] eq_id

set_option maxRecDepth 100000 in
set_option maxHeartbeats 8000000 in
theorem bubbleHangs_walk (A_l : Option Addr) (n_l c_l : Nat) (l : List Nm) (A_ids : Option Addr) (n_ids c_ids : Nat) (ids : List Id_) (w : World) (h_l : NmsArg w A_l n_l c_l l) (h_ids : IdsArg w A_ids n_ids c_ids ids) :
    Calls Try.prog 6 #[.slice A_l n_l c_l, .slice A_ids n_ids c_ids] w (LawEnd w) := by
  have HR_l := Lib.hid h_l.rd; have HN_l := Lib.hid h_l.len; have HC_l := Lib.hid h_l.cap; have HM_l := Lib.hid h_l.le
  clear h_l
  have HR_ids := Lib.hid h_ids.rd; have HN_ids := Lib.hid h_ids.len; have HC_ids := Lib.hid h_ids.cap; have HM_ids := Lib.hid h_ids.le
  clear h_ids
  have HB := Lib.hid (Below.refl w.heap.size w)
  go_enter Try.func6, Try.ntmps6
  go_wp2_with fail
  refine (Bb.awake w).mono ?_
  rintro e w_1 ⟨rfl, hb⟩
  replace HR_l := Lib.hid (RdN.mv HR_l.out hb)
  replace HR_ids := Lib.hid (RdI.mv HR_ids.out hb)
  replace HB := Lib.hid (below_mv HB.out hb)
  clear hb
  obtain ⟨bl_l, hbl⟩ : ∃ bb, fewN l 8 = bb := ⟨_, rfl⟩
  have HBL_l := Lib.hid hbl; clear hbl
  go_wp2_with fail
  refine (FewN A_l n_l c_l 8 l w_1 bl_l (by decide) ⟨HN_l.out, HC_l.out, HM_l.out, HR_l.out⟩ HBL_l.out).mono ?_
  rintro e w_2 ⟨rfl, hb⟩
  replace HR_l := Lib.hid (RdN.mv HR_l.out hb)
  replace HR_ids := Lib.hid (RdI.mv HR_ids.out hb)
  replace HB := Lib.hid (below_mv HB.out hb)
  clear hb
  have hle_ids := HM_ids.out
  unfold maxLen at hle_ids
  by_cases hbig : (30 : Int) < (n_ids : Int)
  case pos =>
    cases bl_l <;> (go_wp2; go_ret; exact ⟨rfl, HB.out⟩)
  have HQ_ids : Hid (n_ids ≤ 30) := Lib.hid (by omega)
  clear hle_ids
  cases bl_l with
  | false =>
    go_wp2
    go_ret
    exact ⟨rfl, HB.out⟩
  | true =>
  have HQ_l : Hid (n_l ≤ 8) := Lib.hid (by have h1 := fewN_len HBL_l.out; rw [HN_l.out] at h1; exact h1)
  have HL_l := Lib.hid (few_all HBL_l.out)
  have HGN := Lib.hid (few_gn HBL_l.out)
  obtain ⟨⟨sx, gx⟩, hpp⟩ : ∃ z, partN l ids = z := ⟨_, rfl⟩
  have HP1 := Lib.hid hpp; have HLS1 := Lib.hid (partN_lits hpp HL_l.out); have HLN1 := Lib.hid (partN_len hpp HN_l.out)
  clear hpp
  have HHG : Hid (Hangs ids gx) := Lib.hid (by
    have h := partN_hangs (ids := ids) (l := l) (by rw [HN_l.out]; exact HQ_l.out) (fun z hz => tellsN.mono (HGN.out z hz) (by omega))
    rw [HP1.out] at h
    exact h)
  clear HGN
  go_wp2_with fail
  refine (PartC A_l n_l c_l l A_ids n_ids c_ids ids w_2 HN_l.out (by have := HQ_l.out; omega) HN_ids.out (by have := HQ_ids.out; omega) HL_l.out HR_l.out HR_ids.out sx gx HP1.out).mono ?_
  rintro e w_3 ⟨A_a, n_a, c_a, A_b, n_b, c_b, rfl, hn1, hc1, hr1, hn2, hc2, hr2, hb⟩
  have HN_a := Lib.hid hn1; have HC_a := Lib.hid hc1; have HR_a := Lib.hid hr1; have HN_b := Lib.hid hn2; have HC_b := Lib.hid hc2; have HR_b := Lib.hid hr2
  clear hn1 hc1 hr1 hn2 hc2 hr2
  replace HR_l := Lib.hid (RdN.mv HR_l.out hb)
  replace HR_ids := Lib.hid (RdI.mv HR_ids.out hb)
  replace HB := Lib.hid (below_mv HB.out hb)
  clear hb
  have HQ_b : Hid (n_b ≤ 8) := Lib.hid (by have h1 := HLN1.out; have h2 := HN_b.out; have h3 := HQ_l.out; omega)
  go_upto_region 7 with fail
  go_loopw [9] (fun i wr => ∃ k : Nat, k ≤ n_b ∧ i = .int .i64 (k : Int) ∧ Below w_3.heap.size w_3 wr) (fun i _ => n_b - (intOf i).toNat)
  case atStart => exact ⟨0, Nat.zero_le _, rfl, Below.refl _ _⟩
  case round =>
    obtain ⟨k, hk, rfl, hb⟩ := hrel
    have HBR_k := Lib.hid hb
    replace HR_l := Lib.hid (RdN.mv HR_l.out hb)
    replace HR_ids := Lib.hid (RdI.mv HR_ids.out hb)
    replace HR_a := Lib.hid (RdN.mv HR_a.out hb)
    replace HR_b := Lib.hid (RdN.mv HR_b.out hb)
    replace HB := Lib.hid (below_mv HB.out hb)
    clear hb
    by_cases hlt : k < n_b
    case neg =>
      have hki : ¬ (k : Int) < (n_b : Int) := by omega
      go_wp2
      go_ret
      exact ⟨rfl, HB.out⟩
    have hki : (k : Int) < (n_b : Int) := by omega
    have hb8 := HQ_b.out
    obtain ⟨p, hpe⟩ : ∃ p, gx[k]? = some p := ⟨_, List.getElem?_eq_getElem (by rw [HN_b.out]; exact hlt)⟩
    have HPE := Lib.hid hpe
    clear hpe
    go_upto_region 11 with fail
    go_loopw [10, 11] (fun v j wi => ∃ m : Nat, m ≤ n_ids ∧ v = .bool (isIn (ids.take m) p.id) ∧ j = .int .i64 (m : Int) ∧ Below wr.heap.size wr wi) (fun _ j _ => n_ids - (intOf j).toNat)
    case atStart => exact ⟨0, Nat.zero_le _, rfl, rfl, Below.refl _ _⟩
    case round =>
      obtain ⟨m, hm, rfl, rfl, hb⟩ := hrel
      have HBI_m := Lib.hid hb
      replace HR_l := Lib.hid (RdN.mv HR_l.out hb)
      replace HR_ids := Lib.hid (RdI.mv HR_ids.out hb)
      replace HR_a := Lib.hid (RdN.mv HR_a.out hb)
      replace HR_b := Lib.hid (RdN.mv HR_b.out hb)
      replace HBR_k := Lib.hid (below_mv HBR_k.out hb)
      replace HB := Lib.hid (below_mv HB.out hb)
      clear hb
      obtain ⟨bi, hbi⟩ : ∃ b, isIn (ids.take m) p.id = b := ⟨_, rfl⟩
      rw [hbi]
      have HBI := Lib.hid hbi
      clear hbi
      by_cases hlm : m < n_ids
      case pos =>
        have hmi : (m : Int) < (n_ids : Int) := by omega
        obtain ⟨a, y, ha, _, hy, c0, c1⟩ := RdI.elem HR_ids.out (k := m) (by rw [HN_ids.out]; exact hlm)
        subst ha
        obtain ⟨a', p', D', dn', dc', E', mp', kp', ha', _, hp', x0, x1, x2, x3, x4, _⟩ := RdN.elem HR_b.out (k := k) (by rw [HN_b.out]; exact hlt)
        subst ha'
        obtain rfl : p = p' := Option.some.inj (HPE.out.symm.trans hp')
        have HNX := Lib.hid (in_next (x := p.id) hy)
        have HBJ := HBI_m
        clear hy hp' x2 x3 x4
        cases bi with
        | true =>
          go_wp2
          go_quiet (fail)
          go_wp2
          refine ⟨⟨m + 1, by omega, by rw [HNX.out, HBI.out]; rfl, by go_num, below_drewN HBJ.out _⟩, by simp [intOf]; omega⟩
        | false =>
          obtain ⟨i1, i2⟩ := y
          obtain ⟨P1, hP1⟩ : ∃ v, p.id.1 = v := ⟨_, rfl⟩
          obtain ⟨P2, hP2⟩ : ∃ v, p.id.2 = v := ⟨_, rfl⟩
          have HP : Hid (p.id = (P1, P2)) := Lib.hid (Prod.ext hP1 hP2)
          rw [hP1] at x0
          rw [hP2] at x1
          dsimp only at c0 c1
          clear hP1 hP2
          by_cases e1 : i1 = P1
          · by_cases e2 : i2 = P2
            · subst e1 e2
              go_wp2
              go_quiet (fail)
              go_wp2
              refine ⟨⟨m + 1, by omega, by rw [HNX.out, HBI.out, HP.out]; simp, by go_num, below_drewN HBJ.out _⟩, by simp [intOf]; omega⟩
            · subst e1
              have e3 : (i2 == P2) = false := by rw [beq_eq_false_iff_ne]; exact e2
              have HE2 := Lib.hid e2
              clear e2
              go_wp2
              go_quiet (fail)
              go_wp2
              refine ⟨⟨m + 1, by omega, by rw [HNX.out, HBI.out, HP.out]; simp [show ¬ P2 = i2 from fun e => HE2.out e.symm], by go_num, below_drewN HBJ.out _⟩, by simp [intOf]; omega⟩
          · have e3 : (i1 == P1) = false := by rw [beq_eq_false_iff_ne]; exact e1
            have HE1 := Lib.hid e1
            clear e1
            go_wp2
            go_quiet (fail)
            go_wp2
            refine ⟨⟨m + 1, by omega, by rw [HNX.out, HBI.out, HP.out]; simp [show ¬ P1 = i1 from fun e => HE1.out e.symm], by go_num, below_drewN HBJ.out _⟩, by simp [intOf]; omega⟩
      have hmi : ¬ (m : Int) < (n_ids : Int) := by omega
      replace HBI := Lib.hid (show isIn ids p.id = bi by rw [← HBI.out, List.take_of_length_le (by rw [HN_ids.out]; omega)])
      clear HBI_m
      obtain ⟨a, p', D, dn, dc, E, mp, kp, ha, hS, hp', x0, x1, x2, x3, x4, hv⟩ := RdN.elem HR_b.out (k := k) (by rw [HN_b.out]; exact hlt)
      subst ha
      obtain rfl : p = p' := Option.some.inj (HPE.out.symm.trans hp')
      have HV := Lib.hid hv; have HLP := Lib.hid (HLS1.out.2 p (List.mem_of_getElem? hp'))
      have HC : Hid (∀ X, Below wr.heap.size wr X → X.cell? (a.add (k * 5)) = some (.int .i64 p.id.1) ∧ X.cell? ⟨(a.add (k * 5)).block, (a.add (k * 5)).off + 1, none⟩ = some (.int .i64 p.id.2) ∧ X.cell? ⟨(a.add (k * 5)).block, (a.add (k * 5)).off + 2, none⟩ = some (.slice D dn dc) ∧ X.cell? ⟨(a.add (k * 5)).block, (a.add (k * 5)).off + 3, none⟩ = some (strV p.txt) ∧ X.cell? ⟨(a.add (k * 5)).block, (a.add (k * 5)).off + 4, none⟩ = some (.slice E mp kp)) := Lib.hid (fun X hb => ⟨cellB x0 hb (by rw [add_block]; exact hS), cellB x1 hb (by rw [add_block]; exact hS), cellB x2 hb (by rw [add_block]; exact hS), cellB x3 hb (by rw [add_block]; exact hS), cellB x4 hb (by rw [add_block]; exact hS)⟩)
      have HF : Hid (∀ (X : World) (F : Nat) (v0 v1 v2 v3 v4 : Value), Below wr.heap.size wr X → wr.heap.size ≤ F → (((((X.setCell ⟨F, 0, none⟩ v0).setCell ⟨F, 1, none⟩ v1).setCell ⟨F, 2, none⟩ v2).setCell ⟨F, 3, none⟩ v3).setCell ⟨F, 4, none⟩ v4).cell? (a.add (k * 5)) = some (.int .i64 p.id.1) ∧ (((((X.setCell ⟨F, 0, none⟩ v0).setCell ⟨F, 1, none⟩ v1).setCell ⟨F, 2, none⟩ v2).setCell ⟨F, 3, none⟩ v3).setCell ⟨F, 4, none⟩ v4).cell? ⟨(a.add (k * 5)).block, (a.add (k * 5)).off + 1, none⟩ = some (.int .i64 p.id.2) ∧ (((((X.setCell ⟨F, 0, none⟩ v0).setCell ⟨F, 1, none⟩ v1).setCell ⟨F, 2, none⟩ v2).setCell ⟨F, 3, none⟩ v3).setCell ⟨F, 4, none⟩ v4).cell? ⟨(a.add (k * 5)).block, (a.add (k * 5)).off + 2, none⟩ = some (.slice D dn dc) ∧ (((((X.setCell ⟨F, 0, none⟩ v0).setCell ⟨F, 1, none⟩ v1).setCell ⟨F, 2, none⟩ v2).setCell ⟨F, 3, none⟩ v3).setCell ⟨F, 4, none⟩ v4).cell? ⟨(a.add (k * 5)).block, (a.add (k * 5)).off + 3, none⟩ = some (strV p.txt) ∧ (((((X.setCell ⟨F, 0, none⟩ v0).setCell ⟨F, 1, none⟩ v1).setCell ⟨F, 2, none⟩ v2).setCell ⟨F, 3, none⟩ v3).setCell ⟨F, 4, none⟩ v4).cell? ⟨(a.add (k * 5)).block, (a.add (k * 5)).off + 4, none⟩ = some (.slice E mp kp)) := Lib.hid (fun X F v0 v1 v2 v3 v4 hX hF => HC.out _ (below_set5 hX hF v0 v1 v2 v3 v4))
      obtain ⟨⟨x, ys⟩, hoo⟩ : ∃ z, outO (overN (gx.take k) p) = z := ⟨_, rfl⟩
      obtain ⟨bo, hbo⟩ : ∃ b, (overN (gx.take k) p).isSome = b := ⟨_, rfl⟩
      have HOO := Lib.hid hoo; have HBO := Lib.hid hbo
      have HTL : Hid ((gx.take k).length = k) := Lib.hid (by rw [List.length_take, HN_b.out]; omega)
      have PO : Hid (∀ X, Below wr.heap.size wr X → Calls Try.prog 25 #[.slice (some a) k c_b, nmV p.id D dn dc p.txt E mp kp] X (NOverEnd X x ys bo)) := Lib.hid (fun X hX => OverN (some a) k c_b (gx.take k) D dn dc E mp kp p X (by have := HQ_b.out; omega) (by have h1 := HV.out.l; have h2 := HLP.out.2.1; omega) (by have h1 := HV.out.dl; have h2 := HLP.out.2.2; omega) HLP.out.1 ((RdN.mv HR_b.out hX).take k) HTL.out (over_all fun y hy => HLS1.out.2 y (List.mem_of_mem_take hy)) (HV.out.mv hX) x ys bo HOO.out HBO.out)
      have HKB := Lib.hid (show Below wr.heap.size wr wr.drew from below_drewN (Below.refl _ _) 1)
      have HKD := Lib.hid (HC.out wr.drew HKB.out)
      have HDZ := Lib.hid (first_d0 wr #[.int .i64 0, .int .i64 0, .slice none 0 0, .string ⟨#[]⟩, .slice none 0 0])
      have HLE := Lib.hid (Nat.le_refl wr.heap.size)
      have k0 : (0 : Int) ≤ (k : Int) := by omega
      have k1 : (k : Int) ≤ (c_b : Int) := by have := HC_b.out; omega
      have k2 : (k : Int) ≤ (n_b : Int) := by omega
      have HS0 := Lib.hid (HC.out wr (Below.refl _ _))
      clear hv hp' hoo hbo x0 x1 x2 x3 x4 hS
      go_upto_region 14 with fail
      go_cut [12, 13, 14] from 61 (fun s12 s13 s14 wx => s14 = .bool bo ∧ Below wr.heap.size wr wx)
      case first =>
        obtain ⟨z0, z1, z2, z3, z4⟩ := HS0.out
        go_region_held3 (fun X => X.cell? (a.add (k * 5)) = some (.int .i64 p.id.1) ∧ X.cell? ⟨(a.add (k * 5)).block, (a.add (k * 5)).off + 1, none⟩ = some (.int .i64 p.id.2) ∧ X.cell? ⟨(a.add (k * 5)).block, (a.add (k * 5)).off + 2, none⟩ = some (.slice D dn dc) ∧ X.cell? ⟨(a.add (k * 5)).block, (a.add (k * 5)).off + 3, none⟩ = some (strV p.txt) ∧ X.cell? ⟨(a.add (k * 5)).block, (a.add (k * 5)).off + 4, none⟩ = some (.slice E mp kp))
          (first | (with_reducible exact HKD.out) | (with_reducible exact HC.out _ HDZ.out.1) | (with_reducible exact hS1) | (with_reducible exact HC.out _ HE1.out) | (with_reducible exact HC.out _ HE2.out) | (with_reducible exact HF.out _ _ _ _ _ _ _ HU.out HLE.out))
          (first
            | (go_at_call 25; (with_reducible refine (PO.out wr.drew HKB.out).mono ?_); rintro e u1 ⟨D1, d1, e1, E1, m1, k1, v1, rfl, hn, ho, hb⟩; have hbu := below_mv HKB.out hb; have hS1 := HC.out u1 hbu; have HU := Lib.hid hbu; have HE1 := Lib.hid (hbu.alloc hbu.size (.cells #[.int .i64 0, .int .i64 0, .slice none 0 0, .string ⟨#[]⟩, .slice none 0 0] 45)); have HE2 := Lib.hid (hbu.alloc hbu.size (.cells #[.int .i64 x.id.1, .int .i64 x.id.2, .slice D1 d1 e1, strV x.txt, .slice E1 m1 k1] 45)); clear hn ho hb hbu)
            | (go_at_call 25; (with_reducible refine (PO.out (wr.alloc (.cells #[.int .i64 0, .int .i64 0, .slice none 0 0, .string ⟨#[]⟩, .slice none 0 0] 45)).drew HDZ.out.1).mono ?_); rintro e u1 ⟨D1, d1, e1, E1, m1, k1, v1, rfl, hn, ho, hb⟩; have hbu := below_mv HDZ.out.1 hb; have hS1 := HC.out u1 hbu; have HU := Lib.hid hbu; have tf2 := HDZ.out.2.below hb HDZ.out.2.lt; have y0 := tf2.cell 0 rfl; have y1 := tf2.cell 1 rfl; have y2 := tf2.cell 2 rfl; have y3 := tf2.cell 3 rfl; have y4 := tf2.cell 4 rfl; have fz0 := tf2.frozen 0; have fz1 := tf2.frozen 1; have fz2 := tf2.frozen 2; have fz3 := tf2.frozen 3; have fz4 := tf2.frozen 4; have ylt := tf2.lt; clear hn ho hb hbu tf2))
        all_goals (try go_wp2_with fail)
        all_goals go_meet
        (with_reducible exact ⟨rfl, HE2.out⟩)
        (with_reducible exact ⟨rfl, below_set5 HU.out HLE.out _ _ _ _ _⟩)
      case rest =>
        obtain ⟨rfl, hb⟩ := hcut
        clear HC HF PO HKB HKD HDZ HLE HS0 HV HLP
        replace HR_l := Lib.hid (RdN.mv HR_l.out hb)
        replace HR_ids := Lib.hid (RdI.mv HR_ids.out hb)
        replace HR_a := Lib.hid (RdN.mv HR_a.out hb)
        replace HR_b := Lib.hid (RdN.mv HR_b.out hb)
        replace HBR_k := Lib.hid (below_mv HBR_k.out hb)
        replace HB := Lib.hid (below_mv HB.out hb)
        clear hb
        cases bi with
        | true =>
          go_wp2
          refine ⟨⟨k + 1, by omega, by go_num, HBR_k.out⟩, by simp [intOf]; omega⟩
        | false =>
          obtain rfl : false = bo := by
            have hh := HHG.out (gx.take k) p (gx.drop (k + 1)) (by
              have hi := (List.getElem?_eq_some_iff.1 HPE.out).1
              rw [← (List.getElem?_eq_some_iff.1 HPE.out).2, ← List.drop_eq_getElem_cons hi, List.take_append_drop])
            rw [← HBO.out]
            rcases hh with h | h
            · exact absurd h (of_decide_eq_false HBI.out)
            · rw [h]; rfl
          go_wp2
          refine ⟨⟨k + 1, by omega, by go_num, HBR_k.out⟩, by simp [intOf]; omega⟩

end BbL
open BbL
open Tx
open Go.ChangeShapes Go.WideShapes Go.ChangeAt

theorem bubbleHangs_own : ownKnob Try.prog.godebug = none := by kernel_rfl
theorem bubbleHangs_laidOut : laidOutB Try.prog = true := by kernel_rfl

set_option maxRecDepth 100000 in
theorem bubbleHangs_lifted (os : Os) (started : os.Started) (H : Type) (enc : TypeId × Value → H) :
    ReturnsInHanded {} Try.checked os 6 .any (Rows.bubbleHangsSpec.pre6 enc Try.prog Try.f6 Rows.bubbleHangsRow.domain false) (Rows.bubbleHangsSpec.post enc Try.prog Try.f6 false true false false) := by
  refine returnsInHanded_of_change (C := Try.checked) bubbleHangs_own started (by kernel_rfl) Try.func6
    (ChangeSpec.witness6 (enc := enc) (C := Try.checked) false ⟨#[], #[.slice none 0 0, .slice none 0 0], []⟩ 8 (by kernel_rfl) (by kernel_rfl) (by kernel_rfl) (by kernel_rfl)) ?_
  intro W base args ds gs before hval0 hW hcnd _
  have hval : ∀ (j : Nat) t v, Try.f6.params[j]? = some t → args[j]? = some v → Value.okWide Try.prog W .any base t v := hval0
  have hW' := hW
  obtain ⟨p, q, hA0, hV, rfl, hfz, hnd⟩ := hW
  have hA : DataW.TrodAll enc Try.prog W 0 (fun _ => true) true Try.f6.params.toList args.toList ds p := hA0
  rw [Try.params6] at hA hval
  obtain ⟨v0, vs0, d0, ds0, p0, q0, hargs, rfl, rfl, h0, r0⟩ := trodAll_cons hA
  obtain ⟨v1, vs1, d1, ds1, p1, q1, rfl, rfl, rfl, h1, r1⟩ := trodAll_cons r0
  obtain ⟨rfl, rfl, rfl⟩ := trodAll_nil r1
  obtain rfl : args = #[v0, v1] := by cases args; simp_all
  obtain ⟨rfl, rfl⟩ := trodVars_none hV
  obtain ⟨a0, n0, c0, rfl⟩ := okWide_slice Try.underlying22 (hval 0 22 v0 rfl rfl)
  have k0 := h0
  have lt0 : ∀ x ∈ p0, x.block < W.heap.size := by obtain ⟨m, hm⟩ := k0; exact DataW.trod_lt m _ _ _ hm
  obtain ⟨l0, s0⟩ : ∃ l, NmsArg W a0 n0 c0 l := by
    obtain ⟨fuel, hf⟩ := h0
    exact nms_in hf (by simp [Value.cells])
  obtain ⟨a1, n1, c1, rfl⟩ := okWide_slice Try.underlying23 (hval 1 23 v1 rfl rfl)
  have k1 := h1
  have lt1 : ∀ x ∈ p1, x.block < W.heap.size := by obtain ⟨m, hm⟩ := k1; exact DataW.trod_lt m _ _ _ hm
  obtain ⟨l1, s1⟩ : ∃ l, IdsArg W a1 n1 c1 l := by
    obtain ⟨fuel, hf⟩ := h1
    exact ids_in hf (by simp [Value.cells])
  clear hA0 hval0
  refine (bubbleHangs_walk a0 n0 c0 l0 a1 n1 c1 l1 W s0 s1).mono fun e W' ⟨he, bel⟩ => ?_
  subst he
  exact ⟨_, rfl, _, _, _, [], _, [], hW', trodAll_mk1 (shut_bool Try.underlying4 _), (trodAll_cons_mk (Below.trod bubbleHangs_laidOut (by kernel_rfl) (of_decide_eq_true (by kernel_rfl)) k0 bel lt0) (trodAll_cons_mk (Below.trod bubbleHangs_laidOut (by kernel_rfl) (of_decide_eq_true (by kernel_rfl)) k1 bel lt1) trodAll_mk0)), rfl, bel.frame _, fun h => by cases h⟩

/-- The statement. -/
theorem bubbleHangs_proved : Rows.BubbleHangsSaid :=
  OpenClaim.holds_of_wide 6 Try.f6 rfl rfl rfl rfl rfl rfl rfl ⟨rfl, rfl, rfl, rfl, rfl⟩ rfl rfl rfl rfl rfl (by kernel_rfl) Try.func6 (by kernel_rfl)
    (of_decide_eq_true (by kernel_rfl)) (by unfold Func.isWrapper; first | (rw [if_pos (by decide +kernel)]; kernel_rfl) | (rw [if_neg (by decide +kernel)]; exact ⟨rfl, rfl⟩))
    (fun os started H enc _ => bubbleHangs_lifted os started H enc)

#print axioms bubbleHangs_proved
end Go.Proofs.Ytdnkinajbebkoaa

set_option maxRecDepth 100000
namespace Go.Proofs.Ytdnkinajbebkoaa
open Go.RowKit
set_option linter.unusedVariables false
set_option linter.unusedSimpArgs false
open Tr Tx Hk Pr Fl Pn Tg Bb
namespace BbL
attribute [local go_sem] eq_id

/-- Where the second one lies that a round tells. -/
theorem layP {w X u W : World} {T U : Nat} {x y : Nm} {D2 E2 D3 E3 : Option Addr} {d2 e2 n2 k2 d3 e3 n3 k3 : Nat} (h : Lay5 w u W T U (Tg.nmC x D2 d2 e2 E2 n2 k2) (Tg.nmC y D3 d3 e3 E3 n3 k3)) (h2 : NG u (Since X u) D3 d3 e3 E3 n3 k3 y) (hX : w.heap.size ≤ X.heap.size) (hT : T < X.heap.size ∨ u.heap.size ≤ T) (hU : U < X.heap.size ∨ u.heap.size ≤ U) :
    Blk W U 45 (Tg.nmC y D3 d3 e3 E3 n3 k3) ∧ NG W (Since w W) D3 d3 e3 E3 n3 k3 y ∧ Below w.heap.size w W ∧ w.heap.size ≤ U :=
  ⟨h.2.1, (h2.to_ (h.2.2.2.2.2.2.mono fun b hb => by have h1 := hb.1; have h3 := hb.2; refine ⟨h3, ?_, ?_⟩ <;> omega)).mono fun b hb => ⟨Nat.le_trans hX hb.1, Nat.lt_of_lt_of_le hb.2 h.2.2.2.2.2.1⟩, h.2.2.2.2.1, h.2.2.2.1⟩
theorem andP {w W : World} {U : Nat} {y : Nm} {D3 E3 : Option Addr} {d3 e3 n3 k3 : Nat} {bq : Bool} {v1 v2 v3 v4 v5 u1 u2 u3 u4 u5 : Value} (h : Blk W U 45 (Tg.nmC y D3 d3 e3 E3 n3 k3) ∧ NG W (Since w W) D3 d3 e3 E3 n3 k3 y ∧ Below w.heap.size w W ∧ w.heap.size ≤ U) (h1 : v1 = u1) (h2 : v2 = u2) (h3 : v3 = u3) (h4 : v4 = u4) (h5 : v5 = u5) :
    ∃ (U' : Nat) (D3 : Option Addr) (d3 e3 : Nat) (E3 : Option Addr) (n3 k3 : Nat), Value.pointer (some ⟨U, 0, none⟩) = .pointer (some ⟨U', 0, none⟩) ∧ Value.bool bq = .bool bq ∧ Blk W U' 45 (Tg.nmC y D3 d3 e3 E3 n3 k3) ∧ NG W (Since w W) D3 d3 e3 E3 n3 k3 y ∧ Below w.heap.size w W ∧ w.heap.size ≤ U' ∧ v1 = u1 ∧ v2 = u2 ∧ v3 = u3 ∧ v4 = u4 ∧ v5 = u5 :=
  ⟨U, D3, d3, e3, E3, n3, k3, rfl, rfl, h.1, h.2.1, h.2.2.1, h.2.2.2, h1, h2, h3, h4, h5⟩
/-- A patch that goes behind others, one by one: what it is so far, in a box of its own; or it could not. -/
def NdJ (px : List Nm) (p : Nm) (k t bp : Nat) (v : Value) (W : World) : Prop := ∃ (b : Bool) (x : Nm) (D : Option Addr) (dn dc : Nat) (E : Option Addr) (mp kp : Nat) (o : List Nm), v = .bool b ∧ Blk W bp 45 (Tg.nmC x D dn dc E mp kp) ∧ NV W W.heap.size D dn dc E mp kp x ∧ Tg.Lit x ∧ (b = true → undN p ((px.drop k).take t) = some (o, x)) ∧ (b = false → undN p (px.drop k) = none)
theorem nd_step {px : List Nm} {p x q x1 y1 : Nm} {k t bp : Nat} {W : World} {o : List Nm} {bq : Bool} {D E : Option Addr} {dn dc mp kp : Nat} (h1 : undN p ((px.drop k).take t) = some (o, x)) (hq : px[k + t]? = some q) (hlx : Tg.Lit x) (hlq : Tg.Lit q) (ho : outN (passN x q) = (x1, y1)) (hs : (passN x q).isSome = bq) (hb : Blk W bp 45 (Tg.nmC y1 D dn dc E mp kp)) (hv : NV W W.heap.size D dn dc E mp kp y1) : NdJ px p k (t + 1) bp (.bool bq) W := by
  have hd : (px.drop k)[t]? = some q := by rw [List.getElem?_drop]; exact hq
  have ht := (List.getElem?_eq_some_iff.1 hd).1
  cases bq with
  | true =>
    have hp := outN_some ho hs
    refine ⟨true, y1, D, dn, dc, E, mp, kp, o ++ [x1], rfl, hb, hv, (pass_lit hp hlx hlq).2, fun _ => ?_, fun h => (by cases h)⟩
    have e : (px.drop k).take (t + 1) = (px.drop k).take t ++ [q] := by rw [← List.take_append_getElem ht, (List.getElem?_eq_some_iff.1 hd).2]
    rw [e]
    exact und_snoc h1 hp
  | false =>
    obtain ⟨rfl, rfl⟩ := outN_none ho hs
    refine ⟨false, noN, D, dn, dc, E, mp, kp, o, rfl, hb, hv, ⟨noN_lt, by decide, by decide⟩, fun h => (by cases h), fun _ => ?_⟩
    have hp : passN x q = none := by
      cases h : passN x q with
      | none => rfl
      | some z => rw [h] at hs; cases hs
    have e : px.drop k = (px.drop k).take t ++ q :: (px.drop k).drop (t + 1) := by
      have h := (List.take_append_drop t (px.drop k)).symm
      rw [List.drop_eq_getElem_cons ht, (List.getElem?_eq_some_iff.1 hd).2] at h
      exact h
    rw [e]
    exact und_snoc_none h1 hp _

set_option maxRecDepth 100000 in
set_option maxHeartbeats 8000000 in
theorem bubbleNeeds_walk (A_l : Option Addr) (n_l c_l : Nat) (l : List Nm) (A_ids : Option Addr) (n_ids c_ids : Nat) (ids : List Id_) (w : World) (h_l : NmsArg w A_l n_l c_l l) (h_ids : IdsArg w A_ids n_ids c_ids ids) :
    Calls Try.prog 8 #[.slice A_l n_l c_l, .slice A_ids n_ids c_ids] w (LawEnd w) := by
  have HR_l := Lib.hid h_l.rd; have HN_l := Lib.hid h_l.len; have HC_l := Lib.hid h_l.cap; have HM_l := Lib.hid h_l.le
  clear h_l
  have HR_ids := Lib.hid h_ids.rd; have HN_ids := Lib.hid h_ids.len; have HC_ids := Lib.hid h_ids.cap; have HM_ids := Lib.hid h_ids.le
  clear h_ids
  have HB := Lib.hid (Below.refl w.heap.size w)
  go_enter Try.func8, Try.ntmps8
  go_wp2_with fail
  refine (Bb.awake w).mono ?_
  rintro e w_1 ⟨rfl, hb⟩
  replace HR_l := Lib.hid (RdN.mv HR_l.out hb)
  replace HR_ids := Lib.hid (RdI.mv HR_ids.out hb)
  replace HB := Lib.hid (below_mv HB.out hb)
  clear hb
  obtain ⟨bl_l, hbl⟩ : ∃ bb, fewN l 8 = bb := ⟨_, rfl⟩
  have HBL_l := Lib.hid hbl; clear hbl
  go_wp2_with fail
  refine (FewN A_l n_l c_l 8 l w_1 bl_l (by decide) ⟨HN_l.out, HC_l.out, HM_l.out, HR_l.out⟩ HBL_l.out).mono ?_
  rintro e w_2 ⟨rfl, hb⟩
  replace HR_l := Lib.hid (RdN.mv HR_l.out hb)
  replace HR_ids := Lib.hid (RdI.mv HR_ids.out hb)
  replace HB := Lib.hid (below_mv HB.out hb)
  clear hb
  have hle_ids := HM_ids.out
  unfold maxLen at hle_ids
  by_cases hbig : (30 : Int) < (n_ids : Int)
  case pos =>
    cases bl_l <;> (go_wp2; go_ret; exact ⟨rfl, HB.out⟩)
  have HQ_ids : Hid (n_ids ≤ 30) := Lib.hid (by omega)
  clear hle_ids
  cases bl_l with
  | false =>
    go_wp2
    go_ret
    exact ⟨rfl, HB.out⟩
  | true =>
  have HQ_l : Hid (n_l ≤ 8) := Lib.hid (by have h1 := fewN_len HBL_l.out; rw [HN_l.out] at h1; exact h1)
  have HL_l := Lib.hid (few_all HBL_l.out)
  have HGN := Lib.hid (few_gn HBL_l.out)
  obtain ⟨⟨px, rx⟩, hpp⟩ : ∃ z, pickN ids l = z := ⟨_, rfl⟩
  have HP1 := Lib.hid hpp; have HLS1 := Lib.hid (pickN_lits hpp HL_l.out); have HLN1 := Lib.hid (pickN_len hpp HN_l.out)
  clear hpp
  have HND : Hid (Needs ids px) := Lib.hid (by
    have h := pickN_needs (ids := ids) (l := l) (by rw [HN_l.out]; exact HQ_l.out) HGN.out
    rw [HP1.out] at h
    exact h)
  clear HGN
  go_wp2_with fail
  refine (PickC A_l n_l c_l l A_ids n_ids c_ids ids w_2 HN_l.out (by have := HQ_l.out; omega) HN_ids.out (by have := HQ_ids.out; omega) HL_l.out HR_l.out HR_ids.out px rx HP1.out).mono ?_
  rintro e w_3 ⟨A_a, n_a, c_a, A_b, n_b, c_b, rfl, hn1, hc1, hr1, hn2, hc2, hr2, hb⟩
  have HN_a := Lib.hid hn1; have HC_a := Lib.hid hc1; have HR_a := Lib.hid hr1; have HN_b := Lib.hid hn2; have HC_b := Lib.hid hc2; have HR_b := Lib.hid hr2
  clear hn1 hc1 hr1 hn2 hc2 hr2
  replace HR_l := Lib.hid (RdN.mv HR_l.out hb)
  replace HR_ids := Lib.hid (RdI.mv HR_ids.out hb)
  replace HB := Lib.hid (below_mv HB.out hb)
  clear hb
  have HQ_a : Hid (n_a ≤ 8) := Lib.hid (by have h1 := HLN1.out; have h2 := HN_a.out; have h3 := HQ_l.out; omega)
  go_upto_region 7 with fail
  go_loopw [9] (fun i wr => ∃ k : Nat, k ≤ n_a ∧ i = .int .i64 (k : Int) ∧ Below w_3.heap.size w_3 wr) (fun i _ => n_a - (intOf i).toNat)
  case atStart => exact ⟨0, Nat.zero_le _, rfl, Below.refl _ _⟩
  case round =>
    obtain ⟨k, hk, rfl, hb⟩ := hrel
    have HBR_k := Lib.hid hb
    replace HR_l := Lib.hid (RdN.mv HR_l.out hb)
    replace HR_ids := Lib.hid (RdI.mv HR_ids.out hb)
    replace HR_a := Lib.hid (RdN.mv HR_a.out hb)
    replace HR_b := Lib.hid (RdN.mv HR_b.out hb)
    replace HB := Lib.hid (below_mv HB.out hb)
    clear hb
    by_cases hlt : k < n_a
    case neg =>
      have hki : ¬ (k : Int) < (n_a : Int) := by omega
      go_wp2
      go_ret
      exact ⟨rfl, HB.out⟩
    have hki : (k : Int) < (n_a : Int) := by omega
    have hb8 := HQ_a.out
    obtain ⟨p, hpe⟩ : ∃ p, px[k]? = some p := ⟨_, List.getElem?_eq_getElem (by rw [HN_a.out]; exact hlt)⟩
    have HPE := Lib.hid hpe
    clear hpe
    go_upto_region 11 with fail
    go_loopw [10, 11] (fun v j wi => ∃ m : Nat, m ≤ n_ids ∧ v = .bool (isIn (ids.take m) p.id) ∧ j = .int .i64 (m : Int) ∧ Below wr.heap.size wr wi) (fun _ j _ => n_ids - (intOf j).toNat)
    case atStart => exact ⟨0, Nat.zero_le _, rfl, rfl, Below.refl _ _⟩
    case round =>
      obtain ⟨m, hm, rfl, rfl, hb⟩ := hrel
      have HBI_m := Lib.hid hb
      replace HR_l := Lib.hid (RdN.mv HR_l.out hb)
      replace HR_ids := Lib.hid (RdI.mv HR_ids.out hb)
      replace HR_a := Lib.hid (RdN.mv HR_a.out hb)
      replace HR_b := Lib.hid (RdN.mv HR_b.out hb)
      replace HBR_k := Lib.hid (below_mv HBR_k.out hb)
      replace HB := Lib.hid (below_mv HB.out hb)
      clear hb
      obtain ⟨bi, hbi⟩ : ∃ b, isIn (ids.take m) p.id = b := ⟨_, rfl⟩
      rw [hbi]
      have HBI := Lib.hid hbi
      clear hbi
      by_cases hlm : m < n_ids
      case pos =>
        have hmi : (m : Int) < (n_ids : Int) := by omega
        obtain ⟨a, y, ha, _, hy, c0, c1⟩ := RdI.elem HR_ids.out (k := m) (by rw [HN_ids.out]; exact hlm)
        subst ha
        obtain ⟨a', p', D', dn', dc', E', mp', kp', ha', _, hp', x0, x1, x2, x3, x4, _⟩ := RdN.elem HR_a.out (k := k) (by rw [HN_a.out]; exact hlt)
        subst ha'
        obtain rfl : p = p' := Option.some.inj (HPE.out.symm.trans hp')
        have HNX := Lib.hid (in_next (x := p.id) hy)
        have HBJ := HBI_m
        clear hy hp' x2 x3 x4
        cases bi with
        | true =>
          go_wp2
          go_quiet (fail)
          go_wp2
          refine ⟨⟨m + 1, by omega, by rw [HNX.out, HBI.out]; rfl, by go_num, below_drewN HBJ.out _⟩, by simp [intOf]; omega⟩
        | false =>
          obtain ⟨i1, i2⟩ := y
          obtain ⟨P1, hP1⟩ : ∃ v, p.id.1 = v := ⟨_, rfl⟩
          obtain ⟨P2, hP2⟩ : ∃ v, p.id.2 = v := ⟨_, rfl⟩
          have HP : Hid (p.id = (P1, P2)) := Lib.hid (Prod.ext hP1 hP2)
          rw [hP1] at x0
          rw [hP2] at x1
          dsimp only at c0 c1
          clear hP1 hP2
          by_cases e1 : i1 = P1
          · by_cases e2 : i2 = P2
            · subst e1 e2
              go_wp2
              go_quiet (fail)
              go_wp2
              refine ⟨⟨m + 1, by omega, by rw [HNX.out, HBI.out, HP.out]; simp, by go_num, below_drewN HBJ.out _⟩, by simp [intOf]; omega⟩
            · subst e1
              have e3 : (i2 == P2) = false := by rw [beq_eq_false_iff_ne]; exact e2
              have HE2 := Lib.hid e2
              clear e2
              go_wp2
              go_quiet (fail)
              go_wp2
              refine ⟨⟨m + 1, by omega, by rw [HNX.out, HBI.out, HP.out]; simp [show ¬ P2 = i2 from fun e => HE2.out e.symm], by go_num, below_drewN HBJ.out _⟩, by simp [intOf]; omega⟩
          · have e3 : (i1 == P1) = false := by rw [beq_eq_false_iff_ne]; exact e1
            have HE1 := Lib.hid e1
            clear e1
            go_wp2
            go_quiet (fail)
            go_wp2
            refine ⟨⟨m + 1, by omega, by rw [HNX.out, HBI.out, HP.out]; simp [show ¬ P1 = i1 from fun e => HE1.out e.symm], by go_num, below_drewN HBJ.out _⟩, by simp [intOf]; omega⟩
      have hmi : ¬ (m : Int) < (n_ids : Int) := by omega
      replace HBI := Lib.hid (show isIn ids p.id = bi by rw [← HBI.out, List.take_of_length_le (by rw [HN_ids.out]; omega)])
      clear HBI_m
      obtain ⟨a, p', D, dn, dc, E, mp, kp, ha, hS, hp', x0, x1, x2, x3, x4, hv⟩ := RdN.elem HR_a.out (k := k) (by rw [HN_a.out]; exact hlt)
      subst ha
      obtain rfl : p = p' := Option.some.inj (HPE.out.symm.trans hp')
      have HV := Lib.hid hv; have HLP := Lib.hid (HLS1.out.1 p (List.mem_of_getElem? hp'))
      clear hv hp' hS
      go_upto_region 17 with fail
      clear x0 x1 x2 x3 x4
      have hba : Below wr.heap.size wr (wr.alloc (.cells #[.int .i64 p.id.1, .int .i64 p.id.2, .slice D dn dc, strV p.txt, .slice E mp kp] 45)) := (Below.refl _ _).alloc (Nat.le_refl _) _
      have bnew := Blk.new wr 45 #[.int .i64 p.id.1, .int .i64 p.id.2, .slice D dn dc, strV p.txt, .slice E mp kp]
      generalize (wr.alloc (.cells #[.int .i64 p.id.1, .int .i64 p.id.2, .slice D dn dc, strV p.txt, .slice E mp kp] 45)) = w5 at hba bnew ⊢
      obtain ⟨bp, hbp⟩ : ∃ z, wr.heap.size = z := ⟨_, rfl⟩
      have HBA := Lib.hid hba; have HZP := Lib.hid hbp; have HV5 := Lib.hid (HV.out.mv hba)
      rw [hbp] at bnew ⊢
      have HBP := Lib.hid bnew
      clear bnew hba hbp HV
      go_loopw [13, 14] (fun v j wi => ∃ jj : Nat, k + 1 ≤ jj ∧ jj ≤ n_a ∧ j = .int .i64 (jj : Int) ∧ NdJ px p (k + 1) (jj - (k + 1)) bp v wi ∧ Below wr.heap.size wr wi) (fun _ j _ => n_a - (intOf j).toNat)
      case atStart => exact ⟨k + 1, Nat.le_refl _, by omega, by go_num, ⟨true, p, D, dn, dc, E, mp, kp, [], rfl, HBP.out, HV5.out, HLP.out, fun _ => by rw [Nat.sub_self]; rfl, fun h => (by cases h)⟩, HBA.out⟩
      case round =>
        clear HBP HV5 HBA
        obtain ⟨jj, hj1, ht, rfl, ⟨b, x, D, dn, dc, E, mp, kp, o, rfl, hbx, hv, hlx, hu1, hu2⟩, hb⟩ := hrel
        obtain ⟨t, htt⟩ : ∃ t, jj - (k + 1) = t := ⟨_, rfl⟩
        rw [htt] at hu1
        have HTT := Lib.hid (show jj = k + 1 + t by omega)
        clear htt
        have HBX := Lib.hid hbx; have HVX := Lib.hid hv; have HLX := Lib.hid hlx; have HU1 := Lib.hid hu1; have HU2 := Lib.hid hu2; have HBL := Lib.hid hb
        clear hbx hv hlx hu1 hu2
        replace HR_l := Lib.hid (RdN.mv HR_l.out hb)
        replace HR_ids := Lib.hid (RdI.mv HR_ids.out hb)
        replace HR_a := Lib.hid (RdN.mv HR_a.out hb)
        replace HR_b := Lib.hid (RdN.mv HR_b.out hb)
        replace HBR_k := Lib.hid (below_mv HBR_k.out hb)
        replace HB := Lib.hid (below_mv HB.out hb)
        clear hb
        by_cases hjn : jj < n_a
        case neg =>
          have hji : ¬ (jj : Int) < (n_a : Int) := by omega
          cases b with
          | false =>
            cases bi with
            | true =>
              go_wp2
              refine ⟨⟨k + 1, by omega, by go_num, HBR_k.out⟩, by simp [intOf]; omega⟩
            | false =>
              go_wp2
              refine ⟨⟨k + 1, by omega, by go_num, HBR_k.out⟩, by simp [intOf]; omega⟩
          | true =>
            have hu := HU1.out rfl
            rw [List.take_of_length_le (by rw [List.length_drop, HN_a.out]; have := HTT.out; omega)] at hu
            have hh := HND.out (px.take k) p (px.drop (k + 1)) (by
              have hi := (List.getElem?_eq_some_iff.1 HPE.out).1
              rw [← (List.getElem?_eq_some_iff.1 HPE.out).2, ← List.drop_eq_getElem_cons hi, List.take_append_drop])
            obtain rfl : true = bi := by
              rcases hh with h | h
              · rw [← HBI.out]; exact (decide_eq_true h).symm
              · rw [und_some hu] at h; cases h
            clear hu hh
            go_wp2
            refine ⟨⟨k + 1, by omega, by go_num, HBR_k.out⟩, by simp [intOf]; omega⟩
        have hji : (jj : Int) < (n_a : Int) := by omega
        cases b with
        | false =>
          cases bi with
          | true =>
            go_wp2
            refine ⟨⟨k + 1, by omega, by go_num, HBR_k.out⟩, by simp [intOf]; omega⟩
          | false =>
            go_wp2
            refine ⟨⟨k + 1, by omega, by go_num, HBR_k.out⟩, by simp [intOf]; omega⟩
        | true =>
          obtain ⟨a', q, Dq, dq, cq, Eq, nq, kq, ha, hS, hq, x0, x1, x2, x3, x4, hvq⟩ := RdN.elem HR_a.out (k := jj) (by rw [HN_a.out]; exact hjn)
          injection ha with ha
          subst ha
          have HQE := Lib.hid hq; have HLQ := Lib.hid (HLS1.out.1 q (List.mem_of_getElem? hq)); have HVQ := Lib.hid hvq
          have HC : Hid (∀ X, Below wr.heap.size wr X → X.cell? (a.add (jj * 5)) = some (.int .i64 q.id.1) ∧ X.cell? ⟨(a.add (jj * 5)).block, (a.add (jj * 5)).off + 1, none⟩ = some (.int .i64 q.id.2) ∧ X.cell? ⟨(a.add (jj * 5)).block, (a.add (jj * 5)).off + 2, none⟩ = some (.slice Dq dq cq) ∧ X.cell? ⟨(a.add (jj * 5)).block, (a.add (jj * 5)).off + 3, none⟩ = some (strV q.txt) ∧ X.cell? ⟨(a.add (jj * 5)).block, (a.add (jj * 5)).off + 4, none⟩ = some (.slice Eq nq kq) ∧ X.cell? ⟨bp, 0, none⟩ = some (.int .i64 x.id.1) ∧ X.cell? ⟨bp, 1, none⟩ = some (.int .i64 x.id.2) ∧ X.cell? ⟨bp, 2, none⟩ = some (.slice D dn dc) ∧ X.cell? ⟨bp, 3, none⟩ = some (strV x.txt) ∧ X.cell? ⟨bp, 4, none⟩ = some (.slice E mp kp)) := Lib.hid (fun X hb => by
            have z := HBX.out.below hb HBX.out.lt
            exact ⟨cellB x0 hb (by rw [add_block]; exact hS), cellB x1 hb (by rw [add_block]; exact hS), cellB x2 hb (by rw [add_block]; exact hS), cellB x3 hb (by rw [add_block]; exact hS), cellB x4 hb (by rw [add_block]; exact hS), z.cell 0 rfl, z.cell 1 rfl, z.cell 2 rfl, z.cell 3 rfl, z.cell 4 rfl⟩)
          clear hq hvq x0 x1 x2 x3 x4 hS
          obtain ⟨x1, y1, ho⟩ : ∃ x1 y1, outN (passN x q) = (x1, y1) := ⟨_, _, rfl⟩
          obtain ⟨bq, hbo⟩ : ∃ bo, (passN x q).isSome = bo := ⟨_, rfl⟩
          have HOO := Lib.hid ho; have HBO := Lib.hid hbo
          have H1 : Hid (∀ X, Below wr.heap.size wr X → Calls Try.prog 26 #[nmV x.id D dn dc x.txt E mp kp, nmV q.id Dq dq cq q.txt Eq nq kq] X (NPassEnd X x1 y1 bq)) := Lib.hid (fun X h =>
            PassN D dn dc E mp kp Dq dq cq Eq nq kq x q x1 y1 X bq (by have h1 := HVX.out.l; have h2 := HLX.out.2.1; omega) (by have h1 := HVQ.out.l; have h2 := HLQ.out.2.1; omega) (by have h1 := HVX.out.dl; have h2 := HLX.out.2.2; omega) (by have h1 := HVQ.out.dl; have h2 := HLQ.out.2.2; omega) HLX.out.1 HLQ.out.1 (HVX.out.mv h) (HVQ.out.mv h) HOO.out HBO.out)
          clear ho hbo
          have hss : ∀ X, Below wr.heap.size wr X → Below wr.heap.size wr X ∧ X.cell? (a.add (jj * 5)) = some (.int .i64 q.id.1) ∧ X.cell? ⟨(a.add (jj * 5)).block, (a.add (jj * 5)).off + 1, none⟩ = some (.int .i64 q.id.2) ∧ X.cell? ⟨(a.add (jj * 5)).block, (a.add (jj * 5)).off + 2, none⟩ = some (.slice Dq dq cq) ∧ X.cell? ⟨(a.add (jj * 5)).block, (a.add (jj * 5)).off + 3, none⟩ = some (strV q.txt) ∧ X.cell? ⟨(a.add (jj * 5)).block, (a.add (jj * 5)).off + 4, none⟩ = some (.slice Eq nq kq) ∧ X.cell? ⟨bp, 0, none⟩ = some (.int .i64 x.id.1) ∧ X.cell? ⟨bp, 1, none⟩ = some (.int .i64 x.id.2) ∧ X.cell? ⟨bp, 2, none⟩ = some (.slice D dn dc) ∧ X.cell? ⟨bp, 3, none⟩ = some (strV x.txt) ∧ X.cell? ⟨bp, 4, none⟩ = some (.slice E mp kp) := fun X hb => ⟨hb, HC.out X hb⟩
          have HSS := Lib.hid hss; have HPL := Lib.hid HBX.out.lt
          have HKD := Lib.hid (hss wr.drew (Cut2.belD0 wr))
          have HKA : Hid (∀ X o, (Below wr.heap.size wr X ∧ X.cell? (a.add (jj * 5)) = some (.int .i64 q.id.1) ∧ X.cell? ⟨(a.add (jj * 5)).block, (a.add (jj * 5)).off + 1, none⟩ = some (.int .i64 q.id.2) ∧ X.cell? ⟨(a.add (jj * 5)).block, (a.add (jj * 5)).off + 2, none⟩ = some (.slice Dq dq cq) ∧ X.cell? ⟨(a.add (jj * 5)).block, (a.add (jj * 5)).off + 3, none⟩ = some (strV q.txt) ∧ X.cell? ⟨(a.add (jj * 5)).block, (a.add (jj * 5)).off + 4, none⟩ = some (.slice Eq nq kq) ∧ X.cell? ⟨bp, 0, none⟩ = some (.int .i64 x.id.1) ∧ X.cell? ⟨bp, 1, none⟩ = some (.int .i64 x.id.2) ∧ X.cell? ⟨bp, 2, none⟩ = some (.slice D dn dc) ∧ X.cell? ⟨bp, 3, none⟩ = some (strV x.txt) ∧ X.cell? ⟨bp, 4, none⟩ = some (.slice E mp kp)) → Below wr.heap.size wr (X.alloc o) ∧ (X.alloc o).cell? (a.add (jj * 5)) = some (.int .i64 q.id.1) ∧ (X.alloc o).cell? ⟨(a.add (jj * 5)).block, (a.add (jj * 5)).off + 1, none⟩ = some (.int .i64 q.id.2) ∧ (X.alloc o).cell? ⟨(a.add (jj * 5)).block, (a.add (jj * 5)).off + 2, none⟩ = some (.slice Dq dq cq) ∧ (X.alloc o).cell? ⟨(a.add (jj * 5)).block, (a.add (jj * 5)).off + 3, none⟩ = some (strV q.txt) ∧ (X.alloc o).cell? ⟨(a.add (jj * 5)).block, (a.add (jj * 5)).off + 4, none⟩ = some (.slice Eq nq kq) ∧ (X.alloc o).cell? ⟨bp, 0, none⟩ = some (.int .i64 x.id.1) ∧ (X.alloc o).cell? ⟨bp, 1, none⟩ = some (.int .i64 x.id.2) ∧ (X.alloc o).cell? ⟨bp, 2, none⟩ = some (.slice D dn dc) ∧ (X.alloc o).cell? ⟨bp, 3, none⟩ = some (strV x.txt) ∧ (X.alloc o).cell? ⟨bp, 4, none⟩ = some (.slice E mp kp)) := Lib.hid (fun X o h => hss _ (h.1.alloc h.1.size o))
          have HKS : Hid (∀ X T v0 v1 v2 v3 v4, (Below wr.heap.size wr X ∧ X.cell? (a.add (jj * 5)) = some (.int .i64 q.id.1) ∧ X.cell? ⟨(a.add (jj * 5)).block, (a.add (jj * 5)).off + 1, none⟩ = some (.int .i64 q.id.2) ∧ X.cell? ⟨(a.add (jj * 5)).block, (a.add (jj * 5)).off + 2, none⟩ = some (.slice Dq dq cq) ∧ X.cell? ⟨(a.add (jj * 5)).block, (a.add (jj * 5)).off + 3, none⟩ = some (strV q.txt) ∧ X.cell? ⟨(a.add (jj * 5)).block, (a.add (jj * 5)).off + 4, none⟩ = some (.slice Eq nq kq) ∧ X.cell? ⟨bp, 0, none⟩ = some (.int .i64 x.id.1) ∧ X.cell? ⟨bp, 1, none⟩ = some (.int .i64 x.id.2) ∧ X.cell? ⟨bp, 2, none⟩ = some (.slice D dn dc) ∧ X.cell? ⟨bp, 3, none⟩ = some (strV x.txt) ∧ X.cell? ⟨bp, 4, none⟩ = some (.slice E mp kp)) → wr.heap.size ≤ T → Below wr.heap.size wr (((((X.setCell ⟨T, 0, none⟩ v0).setCell ⟨T, 1, none⟩ v1).setCell ⟨T, 2, none⟩ v2).setCell ⟨T, 3, none⟩ v3).setCell ⟨T, 4, none⟩ v4) ∧ (((((X.setCell ⟨T, 0, none⟩ v0).setCell ⟨T, 1, none⟩ v1).setCell ⟨T, 2, none⟩ v2).setCell ⟨T, 3, none⟩ v3).setCell ⟨T, 4, none⟩ v4).cell? (a.add (jj * 5)) = some (.int .i64 q.id.1) ∧ (((((X.setCell ⟨T, 0, none⟩ v0).setCell ⟨T, 1, none⟩ v1).setCell ⟨T, 2, none⟩ v2).setCell ⟨T, 3, none⟩ v3).setCell ⟨T, 4, none⟩ v4).cell? ⟨(a.add (jj * 5)).block, (a.add (jj * 5)).off + 1, none⟩ = some (.int .i64 q.id.2) ∧ (((((X.setCell ⟨T, 0, none⟩ v0).setCell ⟨T, 1, none⟩ v1).setCell ⟨T, 2, none⟩ v2).setCell ⟨T, 3, none⟩ v3).setCell ⟨T, 4, none⟩ v4).cell? ⟨(a.add (jj * 5)).block, (a.add (jj * 5)).off + 2, none⟩ = some (.slice Dq dq cq) ∧ (((((X.setCell ⟨T, 0, none⟩ v0).setCell ⟨T, 1, none⟩ v1).setCell ⟨T, 2, none⟩ v2).setCell ⟨T, 3, none⟩ v3).setCell ⟨T, 4, none⟩ v4).cell? ⟨(a.add (jj * 5)).block, (a.add (jj * 5)).off + 3, none⟩ = some (strV q.txt) ∧ (((((X.setCell ⟨T, 0, none⟩ v0).setCell ⟨T, 1, none⟩ v1).setCell ⟨T, 2, none⟩ v2).setCell ⟨T, 3, none⟩ v3).setCell ⟨T, 4, none⟩ v4).cell? ⟨(a.add (jj * 5)).block, (a.add (jj * 5)).off + 4, none⟩ = some (.slice Eq nq kq) ∧ (((((X.setCell ⟨T, 0, none⟩ v0).setCell ⟨T, 1, none⟩ v1).setCell ⟨T, 2, none⟩ v2).setCell ⟨T, 3, none⟩ v3).setCell ⟨T, 4, none⟩ v4).cell? ⟨bp, 0, none⟩ = some (.int .i64 x.id.1) ∧ (((((X.setCell ⟨T, 0, none⟩ v0).setCell ⟨T, 1, none⟩ v1).setCell ⟨T, 2, none⟩ v2).setCell ⟨T, 3, none⟩ v3).setCell ⟨T, 4, none⟩ v4).cell? ⟨bp, 1, none⟩ = some (.int .i64 x.id.2) ∧ (((((X.setCell ⟨T, 0, none⟩ v0).setCell ⟨T, 1, none⟩ v1).setCell ⟨T, 2, none⟩ v2).setCell ⟨T, 3, none⟩ v3).setCell ⟨T, 4, none⟩ v4).cell? ⟨bp, 2, none⟩ = some (.slice D dn dc) ∧ (((((X.setCell ⟨T, 0, none⟩ v0).setCell ⟨T, 1, none⟩ v1).setCell ⟨T, 2, none⟩ v2).setCell ⟨T, 3, none⟩ v3).setCell ⟨T, 4, none⟩ v4).cell? ⟨bp, 3, none⟩ = some (strV x.txt) ∧ (((((X.setCell ⟨T, 0, none⟩ v0).setCell ⟨T, 1, none⟩ v1).setCell ⟨T, 2, none⟩ v2).setCell ⟨T, 3, none⟩ v3).setCell ⟨T, 4, none⟩ v4).cell? ⟨bp, 4, none⟩ = some (.slice E mp kp)) := Lib.hid (fun X T v0 v1 v2 v3 v4 h hT => hss _ (below_set5 h.1 hT v0 v1 v2 v3 v4))
          clear hss
          go_upto_region 19 with fail
          go_cut [15, 16, 17, 91, 92, 93, 94, 95] from 79 (fun s15 s16 s17 s91 s92 s93 s94 s95 wx => ∃ (U : Nat) (D3 : Option Addr) (d3 e3 : Nat) (E3 : Option Addr) (n3 k3 : Nat), s16 = .pointer (some ⟨U, 0, none⟩) ∧ s17 = .bool bq ∧ Blk wx U 45 (Tg.nmC y1 D3 d3 e3 E3 n3 k3) ∧ NG wx (Since wr wx) D3 d3 e3 E3 n3 k3 y1 ∧ Below wr.heap.size wr wx ∧ wr.heap.size ≤ U ∧ s91 = u91 ∧ s92 = u92 ∧ s93 = u93 ∧ s94 = u94 ∧ s95 = u95)
          case first =>
            obtain ⟨_, z0, z1, z2, z3, z4, y0, y1', y2, y3, y4⟩ := HSS.out wr (Below.refl _ _)
            go_region_held3 (fun X => Below wr.heap.size wr X ∧ X.cell? (a.add (jj * 5)) = some (.int .i64 q.id.1) ∧ X.cell? ⟨(a.add (jj * 5)).block, (a.add (jj * 5)).off + 1, none⟩ = some (.int .i64 q.id.2) ∧ X.cell? ⟨(a.add (jj * 5)).block, (a.add (jj * 5)).off + 2, none⟩ = some (.slice Dq dq cq) ∧ X.cell? ⟨(a.add (jj * 5)).block, (a.add (jj * 5)).off + 3, none⟩ = some (strV q.txt) ∧ X.cell? ⟨(a.add (jj * 5)).block, (a.add (jj * 5)).off + 4, none⟩ = some (.slice Eq nq kq) ∧ X.cell? ⟨bp, 0, none⟩ = some (.int .i64 x.id.1) ∧ X.cell? ⟨bp, 1, none⟩ = some (.int .i64 x.id.2) ∧ X.cell? ⟨bp, 2, none⟩ = some (.slice D dn dc) ∧ X.cell? ⟨bp, 3, none⟩ = some (strV x.txt) ∧ X.cell? ⟨bp, 4, none⟩ = some (.slice E mp kp))
              (first
                | (with_reducible exact HKD.out)
                | (with_reducible exact HSS.out _ (Cut2.belD1 wr _))
                | (with_reducible exact HSS.out _ (Cut2.belD2 wr _ _))
                | (with_reducible exact hS1)
                | (with_reducible exact HKA.out _ _ hS1)
                | (with_reducible exact HKA.out _ _ (HKA.out _ _ hS1))
                | (with_reducible exact HKS.out _ _ _ _ _ _ _ hS1 tlp)
                | (with_reducible exact HKS.out _ _ _ _ _ _ _ hS1 tlq)
                | (with_reducible exact HKA.out _ _ (HKS.out _ _ _ _ _ _ _ hS1 tlp))
                | (with_reducible exact HKS.out _ _ _ _ _ _ _ (HKS.out _ _ _ _ _ _ _ hS1 tlp) tlq)
                | (with_reducible exact HKS.out _ _ _ _ _ _ _ (HKS.out _ _ _ _ _ _ _ hS1 tlq) tlp))
              (first
              | (go_at_call 26; (with_reducible refine (H1.out (wr.drew) (Cut2.belD0 wr )).mono ?_); rintro e u1 ⟨D2, d2, e2, E2, n2, k2, D3, d3, e3, E3, n3, k3, rfl, _, hn2, hb⟩; have hbc := Cut2.thrD0 hb; have HN2 := Lib.hid hn2; have hS1 := HSS.out u1 hbc; have HUU := Lib.hid hbc; have tl1 := HUU.out.size; clear hb hbc hn2)
              | (go_at_call 26; (with_reducible refine (H1.out ((wr.alloc (.cells #[.int .i64 0, .int .i64 0, .slice none 0 0, .string ⟨#[]⟩, .slice none 0 0] 45)).drew) (Cut2.belD1 wr (.cells #[.int .i64 0, .int .i64 0, .slice none 0 0, .string ⟨#[]⟩, .slice none 0 0] 45))).mono ?_); rintro e u1 ⟨D2, d2, e2, E2, n2, k2, D3, d3, e3, E3, n3, k3, rfl, _, hn2, hb⟩; have hbc := Cut2.thrD1 hb; have HN2 := Lib.hid hn2; have zp := Cut2.newD1 hb; have tlp := Nat.le_refl wr.heap.size; have hS1 := HSS.out u1 hbc; have HUU := Lib.hid hbc; have tl1 := HUU.out.size; have pp0 := zp.cell 0 (u := .int .i64 0) rfl; have ppf0 := zp.frozen 0; have pp1 := zp.cell 1 (u := .int .i64 0) rfl; have ppf1 := zp.frozen 1; have pp2 := zp.cell 2 (u := .slice none 0 0) rfl; have ppf2 := zp.frozen 2; have pp3 := zp.cell 3 (u := .string ⟨#[]⟩) rfl; have ppf3 := zp.frozen 3; have pp4 := zp.cell 4 (u := .slice none 0 0) rfl; have ppf4 := zp.frozen 4; have ppl := zp.lt; clear hb hbc hn2)
              | (go_at_call 26; (with_reducible refine (H1.out (((wr.alloc (.cells #[.int .i64 0, .int .i64 0, .slice none 0 0, .string ⟨#[]⟩, .slice none 0 0] 45)).alloc (.cells #[.int .i64 0, .int .i64 0, .slice none 0 0, .string ⟨#[]⟩, .slice none 0 0] 45)).drew) (Cut2.belD2 wr (.cells #[.int .i64 0, .int .i64 0, .slice none 0 0, .string ⟨#[]⟩, .slice none 0 0] 45) (.cells #[.int .i64 0, .int .i64 0, .slice none 0 0, .string ⟨#[]⟩, .slice none 0 0] 45))).mono ?_); rintro e u1 ⟨D2, d2, e2, E2, n2, k2, D3, d3, e3, E3, n3, k3, rfl, _, hn2, hb⟩; have hbc := Cut2.thrD2 hb; have HN2 := Lib.hid hn2; obtain ⟨zp, zq⟩ := Cut2.newD2 hb; have tlp := Nat.le_refl wr.heap.size; have zpq := Nat.lt_succ_self wr.heap.size; have tlq := Nat.le_succ wr.heap.size; have hS1 := HSS.out u1 hbc; have HUU := Lib.hid hbc; have tl1 := HUU.out.size; have pp0 := zp.cell 0 (u := .int .i64 0) rfl; have ppf0 := zp.frozen 0; have pp1 := zp.cell 1 (u := .int .i64 0) rfl; have ppf1 := zp.frozen 1; have pp2 := zp.cell 2 (u := .slice none 0 0) rfl; have ppf2 := zp.frozen 2; have pp3 := zp.cell 3 (u := .string ⟨#[]⟩) rfl; have ppf3 := zp.frozen 3; have pp4 := zp.cell 4 (u := .slice none 0 0) rfl; have ppf4 := zp.frozen 4; have ppl := zp.lt; have rr0 := zq.cell 0 (u := .int .i64 0) rfl; have rrf0 := zq.frozen 0; have rr1 := zq.cell 1 (u := .int .i64 0) rfl; have rrf1 := zq.frozen 1; have rr2 := zq.cell 2 (u := .slice none 0 0) rfl; have rrf2 := zq.frozen 2; have rr3 := zq.cell 3 (u := .string ⟨#[]⟩) rfl; have rrf3 := zq.frozen 3; have rr4 := zq.cell 4 (u := .slice none 0 0) rfl; have rrf4 := zq.frozen 4; have rrl := zq.lt; clear hb hbc hn2))
            all_goals (try go_wp2_with fail)
            all_goals go_meet
            (with_reducible exact andP (layP (lay5_aa HUU.out) HN2.out (Nat.le_refl _) (.inr (Nat.le_refl _)) (.inr (Nat.le_succ _))) rfl rfl rfl rfl rfl)
            (with_reducible exact andP (layP (lay5_aa HUU.out).swap HN2.out (Nat.le_refl _) (.inr (Nat.le_succ _)) (.inr (Nat.le_refl _))) rfl rfl rfl rfl rfl)
            (with_reducible exact andP (layP (lay5_sa HUU.out zp tlp) HN2.out (Nat.le_of_lt (size_lt1 wr _)) (.inl (size_lt1 wr _)) (.inr (Nat.le_refl _))) rfl rfl rfl rfl rfl)
            (with_reducible exact andP (layP (lay5_ss HUU.out zp zq (Nat.ne_of_lt zpq) tlp tlq) HN2.out (Nat.le_of_lt (size_lt2 wr _ _)) (.inl (size_lt2 wr _ _)) (.inl (size_lt2' wr _ _))) rfl rfl rfl rfl rfl)
            (with_reducible exact andP (layP (lay5_sa HUU.out zp tlp).swap HN2.out (Nat.le_of_lt (size_lt1 wr _)) (.inr (Nat.le_refl _)) (.inl (size_lt1 wr _))) rfl rfl rfl rfl rfl)
            (with_reducible exact andP (layP (lay5_ss HUU.out zq zp (Nat.ne_of_gt zpq) tlq tlp) HN2.out (Nat.le_of_lt (size_lt2 wr _ _)) (.inl (size_lt2' wr _ _)) (.inl (size_lt2 wr _ _))) rfl rfl rfl rfl rfl)
          case rest =>
            obtain ⟨U, D3, d3, e3, E3, n3, k3, rfl, rfl, hby, hvy, hb, hU, rfl, rfl, rfl, rfl, rfl⟩ := hcut
            clear HC HSS HKD HKA HKS H1
            replace HR_l := Lib.hid (RdN.mv HR_l.out hb)
            replace HR_ids := Lib.hid (RdI.mv HR_ids.out hb)
            replace HR_a := Lib.hid (RdN.mv HR_a.out hb)
            replace HR_b := Lib.hid (RdN.mv HR_b.out hb)
            replace HBR_k := Lib.hid (below_mv HBR_k.out hb)
            replace HBL := Lib.hid (below_mv HBL.out hb)
            replace HBX := Lib.hid (HBX.out.below hb HBX.out.lt)
            replace HB := Lib.hid (below_mv HB.out hb)
            clear hb
            have hbx := HBX.out
            have z0 := hbx.cell 0 rfl; have z1 := hbx.cell 1 rfl; have z2 := hbx.cell 2 rfl; have z3 := hbx.cell 3 rfl; have z4 := hbx.cell 4 rfl
            have f0 := hbx.frozen 0; have f1 := hbx.frozen 1; have f2 := hbx.frozen 2; have f3 := hbx.frozen 3; have f4 := hbx.frozen 4
            have yy0 := hby.cell 0 rfl; have yy1 := hby.cell 1 rfl; have yy2 := hby.cell 2 rfl; have yy3 := hby.cell 3 rfl; have yy4 := hby.cell 4 rfl
            have hyl := hby.lt; have hxl := hbx.lt
            have hb9 := Tg.blk5 hbx (.int .i64 y1.id.1) (.int .i64 y1.id.2) (.slice D3 d3 e3) (strV y1.txt) (.slice E3 n3 k3)
            have hs9 : (World.setCell (World.setCell (World.setCell (World.setCell (World.setCell wc ⟨bp, 0, none⟩ (.int .i64 y1.id.1)) ⟨bp, 1, none⟩ (.int .i64 y1.id.2)) ⟨bp, 2, none⟩ (.slice D3 d3 e3)) ⟨bp, 3, none⟩ (strV y1.txt)) ⟨bp, 4, none⟩ (.slice E3 n3 k3)).heap.size = wc.heap.size := by simp
            have al9 := alike_set5 wc bp (.int .i64 y1.id.1) (.int .i64 y1.id.2) (.slice D3 d3 e3) (strV y1.txt) (.slice E3 n3 k3)
            have HV9 := Lib.hid (hvy.to_ (al9.mono fun b hb e => by have h1 := hb.1; have h2 := HPL.out; omega))
            have hbl9 := below_set5 HBL.out (Nat.le_of_eq HZP.out) (.int .i64 y1.id.1) (.int .i64 y1.id.2) (.slice D3 d3 e3) (strV y1.txt) (.slice E3 n3 k3)
            clear hbx hby al9
            have HB9 := Lib.hid hb9; have HS9 := Lib.hid hs9; have HBL9 := Lib.hid hbl9
            clear hb9 hs9 hbl9
            go_wp2_with fail
            generalize (World.setCell (World.setCell (World.setCell (World.setCell (World.setCell wc ⟨bp, 0, none⟩ (.int .i64 y1.id.1)) ⟨bp, 1, none⟩ (.int .i64 y1.id.2)) ⟨bp, 2, none⟩ (.slice D3 d3 e3)) ⟨bp, 3, none⟩ (strV y1.txt)) ⟨bp, 4, none⟩ (.slice E3 n3 k3)) = W9 at HB9 HS9 HV9 HBL9 ⊢
            refine ⟨⟨jj + 1, by omega, by omega, by go_num, by rw [show jj + 1 - (k + 1) = t + 1 by have := HTT.out; omega]; exact nd_step (HU1.out (by simp)) (by rw [← HTT.out]; exact HQE.out) HLX.out HLQ.out HOO.out HBO.out HB9.out (HV9.out.mono fun b hb => by have h1 := hb.2; have h2 := HS9.out; omega).nv, HBL9.out⟩, by simp [intOf]; omega⟩

end BbL
open BbL
open Tx
open Go.ChangeShapes Go.WideShapes Go.ChangeAt

theorem bubbleNeeds_own : ownKnob Try.prog.godebug = none := by kernel_rfl
theorem bubbleNeeds_laidOut : laidOutB Try.prog = true := by kernel_rfl

set_option maxRecDepth 100000 in
theorem bubbleNeeds_lifted (os : Os) (started : os.Started) (H : Type) (enc : TypeId × Value → H) :
    ReturnsInHanded {} Try.checked os 8 .any (Rows.bubbleNeedsSpec.pre6 enc Try.prog Try.f8 Rows.bubbleNeedsRow.domain false) (Rows.bubbleNeedsSpec.post enc Try.prog Try.f8 false true false false) := by
  refine returnsInHanded_of_change (C := Try.checked) bubbleNeeds_own started (by kernel_rfl) Try.func8
    (ChangeSpec.witness6 (enc := enc) (C := Try.checked) false ⟨#[], #[.slice none 0 0, .slice none 0 0], []⟩ 8 (by kernel_rfl) (by kernel_rfl) (by kernel_rfl) (by kernel_rfl)) ?_
  intro W base args ds gs before hval0 hW hcnd _
  have hval : ∀ (j : Nat) t v, Try.f8.params[j]? = some t → args[j]? = some v → Value.okWide Try.prog W .any base t v := hval0
  have hW' := hW
  obtain ⟨p, q, hA0, hV, rfl, hfz, hnd⟩ := hW
  have hA : DataW.TrodAll enc Try.prog W 0 (fun _ => true) true Try.f8.params.toList args.toList ds p := hA0
  rw [Try.params8] at hA hval
  obtain ⟨v0, vs0, d0, ds0, p0, q0, hargs, rfl, rfl, h0, r0⟩ := trodAll_cons hA
  obtain ⟨v1, vs1, d1, ds1, p1, q1, rfl, rfl, rfl, h1, r1⟩ := trodAll_cons r0
  obtain ⟨rfl, rfl, rfl⟩ := trodAll_nil r1
  obtain rfl : args = #[v0, v1] := by cases args; simp_all
  obtain ⟨rfl, rfl⟩ := trodVars_none hV
  obtain ⟨a0, n0, c0, rfl⟩ := okWide_slice Try.underlying22 (hval 0 22 v0 rfl rfl)
  have k0 := h0
  have lt0 : ∀ x ∈ p0, x.block < W.heap.size := by obtain ⟨m, hm⟩ := k0; exact DataW.trod_lt m _ _ _ hm
  obtain ⟨l0, s0⟩ : ∃ l, NmsArg W a0 n0 c0 l := by
    obtain ⟨fuel, hf⟩ := h0
    exact nms_in hf (by simp [Value.cells])
  obtain ⟨a1, n1, c1, rfl⟩ := okWide_slice Try.underlying23 (hval 1 23 v1 rfl rfl)
  have k1 := h1
  have lt1 : ∀ x ∈ p1, x.block < W.heap.size := by obtain ⟨m, hm⟩ := k1; exact DataW.trod_lt m _ _ _ hm
  obtain ⟨l1, s1⟩ : ∃ l, IdsArg W a1 n1 c1 l := by
    obtain ⟨fuel, hf⟩ := h1
    exact ids_in hf (by simp [Value.cells])
  clear hA0 hval0
  refine (bubbleNeeds_walk a0 n0 c0 l0 a1 n1 c1 l1 W s0 s1).mono fun e W' ⟨he, bel⟩ => ?_
  subst he
  exact ⟨_, rfl, _, _, _, [], _, [], hW', trodAll_mk1 (shut_bool Try.underlying4 _), (trodAll_cons_mk (Below.trod bubbleNeeds_laidOut (by kernel_rfl) (of_decide_eq_true (by kernel_rfl)) k0 bel lt0) (trodAll_cons_mk (Below.trod bubbleNeeds_laidOut (by kernel_rfl) (of_decide_eq_true (by kernel_rfl)) k1 bel lt1) trodAll_mk0)), rfl, bel.frame _, fun h => by cases h⟩

/-- The statement. -/
theorem bubbleNeeds_proved : Rows.BubbleNeedsSaid :=
  OpenClaim.holds_of_wide 8 Try.f8 rfl rfl rfl rfl rfl rfl rfl ⟨rfl, rfl, rfl, rfl, rfl⟩ rfl rfl rfl rfl rfl (by kernel_rfl) Try.func8 (by kernel_rfl)
    (of_decide_eq_true (by kernel_rfl)) (by unfold Func.isWrapper; first | (rw [if_pos (by decide +kernel)]; kernel_rfl) | (rw [if_neg (by decide +kernel)]; exact ⟨rfl, rfl⟩))
    (fun os started H enc _ => bubbleNeeds_lifted os started H enc)

#print axioms bubbleNeeds_proved
end Go.Proofs.Ytdnkinajbebkoaa
