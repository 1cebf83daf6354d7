/-
  What Edits of layer 4 returns (walk): the edits of two lists, in memory of its own.
-/
import Derived.Test.YtjhjmfodpnipiaaDfTell
import Derived.Test.YtjhjmfodpnipiaaGL
import Derived.Deep.LoopGhost
import Derived.WalkMore
import Derived.StillTailTactics
set_option maxRecDepth 100000
namespace Go.Proofs.Ytjhjmfodpnipiaa
open Go.RowKit
set_option linter.unusedVariables false
namespace Df
open Tx Lc

section
variable {α : Type}
theorem one_self (b : List α) (i j : Nat) : one b i j i j = [] := by unfold one; rw [if_neg (by omega)]
theorem step_tell {a b : List α} {i j : Nat} {p : Nat × Nat} {l e : List (Nat × Nat)} {es X : List (Ed α)} (hr : Ris a b i j (p :: l)) (h : es ++ eds b i j (p :: l ++ e) = X) :
    Ris a b p.1 p.2 (p :: l) ∧ (es ++ one b i j p.1 p.2) ++ eds b p.1 p.2 (p :: l ++ e) = X := by
  refine ⟨⟨Nat.le_refl _, Nat.le_refl _, hr.2.2.1, hr.2.2.2⟩, ?_⟩
  rw [← h, List.cons_append, eds, eds, one_self, List.nil_append, List.append_assoc]
theorem step_pair {a b : List α} {p : Nat × Nat} {l e : List (Nat × Nat)} {es X : List (Ed α)} (hr : Ris a b p.1 p.2 (p :: l)) (h : es ++ eds b p.1 p.2 (p :: l ++ e) = X) :
    Ris a b (p.1 + 1) (p.2 + 1) l ∧ es ++ eds b (p.1 + 1) (p.2 + 1) (l ++ e) = X := by
  refine ⟨hr.2.2.2, ?_⟩
  rw [← h, List.cons_append, eds, one_self, List.nil_append]
theorem step_end {b : List α} {i j n m : Nat} {es X : List (Ed α)} (h : es ++ eds b i j ([] ++ [(n, m)]) = X) : (es ++ one b i j n m) ++ eds b n m ([] ++ [(n, m)]) = X := by
  rw [← h, List.nil_append, eds, eds, one_self, eds, eds, List.append_nil, List.append_nil, List.append_nil]
theorem step_exit {a b : List α} {l : List (Nat × Nat)} {n m : Nat} {es X : List (Ed α)} (hr : Ris a b n m l) (hn : a.length = n) (h : es ++ eds b n m (l ++ [(n, m)]) = X) : es = X := by
  cases l with
  | nil => rw [← h, List.nil_append, eds, eds, one_self, List.append_nil, List.append_nil]
  | cons p l => have := (ris_le hr).1; have := hr.1; omega
end

/-- The block of the pairs. -/
def PB (w : World) (g : Nat) (pl : List (Nat × Nat)) : Prop :=
  ∃ cur, w.heap[g]? = some (.cells cur 103 (0, 0)) ∧ ∀ (k : Nat) p, pl[k]? = some p → cur[k * 2]? = some (.int .i64 (p.1 : Int)) ∧ cur[k * 2 + 1]? = some (.int .i64 (p.2 : Int))
theorem PB.kept {w w' : World} {g : Nat} {pl : List (Nat × Nat)} (h : PB w g pl) (hk : KpE w w') : PB w' g pl := by
  obtain ⟨cur, h1, h2⟩ := h
  exact ⟨cur, hk g _ _ _ h1 (by decide) (by decide) (by decide), h2⟩
theorem PB.at_ {w : World} {g : Nat} {pl : List (Nat × Nat)} (h : PB w g pl) {k : Nat} (hk : k < pl.length) :
    w.cell? ⟨g, k * 2, none⟩ = some (.int .i64 (pl[k].1 : Int)) ∧ w.cell? ⟨g, k * 2 + 1, none⟩ = some (.int .i64 (pl[k].2 : Int)) := by
  obtain ⟨cur, h1, h2⟩ := h
  obtain ⟨c0, c1⟩ := h2 k _ (List.getElem?_eq_getElem hk)
  exact ⟨cell_of h1 _ c0, cell_of h1 _ c1⟩
theorem cellsP_at : ∀ (pl : List (Nat × Nat)) (k : Nat) (p : Nat × Nat), pl[k]? = some p → (cellsP pl)[k * 2]? = some (.int .i64 (p.1 : Int)) ∧ (cellsP pl)[k * 2 + 1]? = some (.int .i64 (p.2 : Int))
  | [], k, p, h => by simp at h
  | q :: l, 0, p, h => by cases h; exact ⟨rfl, rfl⟩
  | q :: l, k + 1, p, h => by
    have := cellsP_at l k p (by simpa using h)
    rw [show (k + 1) * 2 = k * 2 + 1 + 1 by omega]
    exact this
theorem pb_own {w : World} {base N : Nat} {v : Value} {pl : List (Nat × Nat)} (h : w.ownsRow base 103 2 v N (cellsP pl)) (hN : pl.length = N) :
    ∃ A c g, v = .slice A N c ∧ N ≤ c ∧ (0 < N → A = some ⟨g, 0, none⟩) ∧ (0 < N → PB w g pl) := by
  rcases h.2 with ⟨rfl, rfl⟩ | ⟨g, cap, cur, rfl, _, hg, hc, hcap, hsz, ht⟩
  · exact ⟨none, 0, 0, rfl, Nat.le_refl _, fun h => absurd h (by omega), fun h => absurd h (by omega)⟩
  · refine ⟨_, cap, g, rfl, hc, fun _ => rfl, fun _ => ⟨cur, hg, fun k p hp => ?_⟩⟩
    have hk : k < pl.length := (List.getElem?_eq_some_iff.1 hp).1
    obtain ⟨c0, c1⟩ := cellsP_at pl k p hp
    have e0 := h.cellAt (k * 2) (by omega)
    have e1 := h.cellAt (k * 2 + 1) (by omega)
    rw [c0, cell_of_row w g (k * 2) cur _ (0, 0) hg] at e0
    rw [c1, cell_of_row w g (k * 2 + 1) cur _ (0, 0) hg] at e1
    exact ⟨e0, e1⟩

theorem frozen_al {W : World} {p : Addr} {u : Value} (o : Obj) (h : W.cell? p = some u) (hf : W.frozen? p = false) : (W.alloc o).frozen? p = false := (((Below.refl _ W).alloc (Nat.le_refl _) o).frozen (p := p) (World.block_lt_of_cell? W p h)).trans hf

/-- tell, in one. -/
theorem tell (h i j p q m c : Nat) (A : Option Addr) (bs : List (List UInt8)) (es : List E) (W : World) (hv : Vars W h (.slice A m c) i j es) (hm : bs.length = m) (hmc : m ≤ c) (hip : i ≤ p) (hjq : j ≤ q) (hqm : q ≤ m) (hp : p ≤ 1000) (hm1 : m ≤ 1000) (hes : es.length ≤ 10000) (hh : h ≤ W.heap.size)
    (hR : RdS W h A bs) :
    Calls Try.prog 82 #[.int .i64 (p : Int), .int .i64 (q : Int), .pointer (some ⟨h + 2, 0, none⟩), .pointer (some ⟨h + 3, 0, none⟩), .pointer (some ⟨h + 1, 0, none⟩), .pointer (some ⟨h, 0, none⟩)] W (TellEnd W h (.slice A m c) p q (es ++ one bs i j p q)) := by
  by_cases hor : i < p ∨ j < q
  · rw [one, if_pos hor]
    by_cases hcj : c = j
    · subst hcj
      exact tell_at h i c p q m A bs es W hv hm hmc hip hjq hqm hp hm1 hes hh hR hor
    · exact tell_un h i j p q m c A bs es W hv hm hmc hip hjq hqm hp hm1 hes hh hR hor hcj
  · obtain rfl : i = p := by omega
    obtain rfl : j = q := by omega
    rw [one_self, List.append_nil]
    exact tell_no h i j _ es W hv (by omega) (by omega)

/-- How Edits ends. -/
def EditsEnd (w : World) (es : List E) (e : Ending) (w' : World) : Prop :=
  ∃ A c, e = .returned (.slice A es.length c) ∧ es.length ≤ c ∧ RdE w' w'.heap.size A es ∧ Below w.heap.size w w'

/-- The same, the new lines in memory that is new. -/
def EditsEndH (w : World) (es : List E) (e : Ending) (w' : World) : Prop :=
  ∃ A c, e = .returned (.slice A es.length c) ∧ es.length ≤ c ∧ RdE w' w'.heap.size A es ∧ NewHi w' w.heap.size A es ∧ Below w.heap.size w w'
theorem EditsEndH.end_ {w w' : World} {es : List E} {e : Ending} (h : EditsEndH w es e w') : EditsEnd w es e w' := by
  obtain ⟨A, c, h1, h2, h3, _, h4⟩ := h
  exact ⟨A, c, h1, h2, h3, h4⟩

/-- What holds between the stretches. -/
structure EInv (w w1 : World) (h : Nat) (vb : Value) (a b : List (List UInt8)) (pl : List (Nat × Nat)) (k i j : Nat) (es : List E) (wr : World) : Prop where
  v : Vars wr h vb i j es
  kp : KpE w1 wr
  bl : Below h w wr
  ri : Ris a b i j (pl.drop k)
  le : i ≤ a.length
  le' : j ≤ b.length
  lk : k ≤ pl.length
  eq : es ++ eds b i j (pl.drop k ++ [(a.length, b.length)]) = edits a b

/-- The rest of the pairs. -/
def Rest (g N k : Nat) (v : Value) : Prop := ∃ A c, v = .slice A (N - k) c ∧ N - k ≤ c ∧ (k < N → A = some ⟨g, k * 2, none⟩)

theorem EInv.few {w w1 : World} {h : Nat} {vb : Value} {a b : List (List UInt8)} {pl : List (Nat × Nat)} {k i j : Nat} {es : List E} {wr : World} (I : EInv w w1 h vb a b pl k i j es wr) : es.length ≤ a.length + b.length := by
  have h1 := edits_len_le a b
  rw [← I.eq, List.length_append] at h1
  omega

theorem Vars.below {W W' : World} {h : Nat} {vb : Value} {i j : Nat} {es : List E} (hv : Vars W h vb i j es) (hb : Below W.heap.size W W') : Vars W' h vb i j es := by
  obtain ⟨h0, h2, h3, v, xs, h1, hr, hE⟩ := hv
  have up : ∀ {b t u}, Boxed W b t u → Boxed W' b t u := fun {b t u} hx => (hb.block b hx.lt).trans hx
  have ur : ∀ {base e size v n xs}, W.ownsRow base e size v n xs → W'.ownsRow base e size v n xs := fun {base e size v n xs} hx => ⟨hx.1, by
    rcases hx.2 with h | ⟨g, cap, cur, k1, k2, k3, k4⟩
    · exact .inl h
    · exact .inr ⟨g, cap, cur, k1, k2, (hb.block g (Array.getElem?_eq_some_iff.1 k3).1).trans k3, k4⟩⟩
  refine ⟨up h0, up h2, up h3, v, xs, up h1, ur hr, hE.1, fun k x hx => ?_⟩
  obtain ⟨A, c, g1, g2, g3, g4, g5⟩ := hE.2 k x hx
  exact ⟨A, c, g1, g2, g3, ur g4, g5⟩

set_option maxRecDepth 100000 in
set_option maxHeartbeats 4000000 in
theorem EditsH (A A' : Option Addr) (c c' n m B : Nat) (a b : List (List UInt8)) (w : World) (hn : a.length = n) (hm : b.length = m) (hnc : n ≤ c) (hmc : m ≤ c') (hln : n ≤ 1000) (hlm : m ≤ 1000) (hB : B ≤ w.heap.size)
    (hR : RdS w B A a) (hR' : RdS w B A' b) :
    Calls Try.prog 67 #[.slice A n c, .slice A' m c'] w (EditsEndH w (edits a b)) := by
  have HN := Lib.hid hn; clear hn
  have HM := Lib.hid hm; clear hm
  go_enter Try.func67, Try.ntmps67
  have hb0 := ((Boxed.new w 33 (.slice A' m c')).alloc (.cells #[.slice none 0 0] 87)).alloc (.cells #[.int .i64 0] 3) |>.alloc (.cells #[.int .i64 0] 3)
  have hb1 := ((Boxed.new (w.alloc (.cells #[.slice A' m c'] 33)) 87 (.slice none 0 0)).alloc (.cells #[.int .i64 0] 3)).alloc (.cells #[.int .i64 0] 3)
  have hb2 := (Boxed.new ((w.alloc (.cells #[.slice A' m c'] 33)).alloc (.cells #[.slice none 0 0] 87)) 3 (.int .i64 0)).alloc (.cells #[.int .i64 0] 3)
  have hb3 := Boxed.new (((w.alloc (.cells #[.slice A' m c'] 33)).alloc (.cells #[.slice none 0 0] 87)).alloc (.cells #[.int .i64 0] 3)) 3 (.int .i64 0)
  have hw4 : Below w.heap.size w ((((w.alloc (.cells #[.slice A' m c'] 33)).alloc (.cells #[.slice none 0 0] 87)).alloc (.cells #[.int .i64 0] 3)).alloc (.cells #[.int .i64 0] 3)) := ((((Below.refl _ _).alloc (Nat.le_refl _) _).alloc (by simp) _).alloc (by simp; omega) _).alloc (by simp; omega) _
  simp only [World.size_alloc] at hb1 hb2 hb3
  go_wp2_with fail
  go_step3
  go_wp2_with fail
  generalize hW0 : ((((w.alloc (.cells #[.slice A' m c'] 33)).alloc (.cells #[.slice none 0 0] 87)).alloc (.cells #[.int .i64 0] 3)).alloc (.cells #[.int .i64 0] 3)) = w0 at *
  clear hW0
  refine (Pairs A A' c c' n m B a b w0 HN.out HM.out hnc hln hlm (Nat.le_trans hB hw4.size) (hR.below (hw4.mono hB)) (hR'.below (hw4.mono hB))).mono ?_
  obtain ⟨pl, hPL⟩ : ∃ pl, pairs a b = pl := ⟨_, rfl⟩
  obtain ⟨N, hNN⟩ : ∃ N, pl.length = N := ⟨_, rfl⟩
  have hris := pairs_ris a b
  have heds : ([] : List E) ++ eds b 0 0 (pl ++ [(a.length, b.length)]) = edits a b := by rw [← hPL]; rfl
  rw [hPL] at hris ⊢
  rintro e w1 ⟨v, rfl, hrow, hbw⟩
  rw [hNN] at hrow
  obtain ⟨Ap, cp, g, rfl, hcp, hAp, hPB⟩ := pb_own hrow hNN
  have hv0 : Vars w1 w.heap.size (.slice A' m c') 0 0 [] := Vars.below (W := w0) ⟨hb0, hb2, hb3, .slice none 0 0, [], hb1, World.ownsRow_nil _ _ _ _, ecells_nil _ _⟩ hbw
  have I0 : EInv w w1 w.heap.size (.slice A' m c') a b pl 0 0 0 [] w1 := ⟨hv0, KpE.refl _, hw4.trans (hbw.mono hw4.size), hris, Nat.zero_le _, Nat.zero_le _, Nat.zero_le _, heds⟩
  have hR1 : RdS w w.heap.size A' b := Rd.up hR' hB
  clear hb0 hb1 hb2 hb3 hv0 hris heds hrow hbw hPL hw4 hR hR'
  have HNN := Lib.hid hNN; clear hNN
  have HAp := Lib.hid hAp; clear hAp
  have HPB := Lib.hid hPB; clear hPB
  have hs0 := I0.bl.size
  have HI0 := Lib.hid I0; clear I0
  generalize hh : w.heap.size = h at *
  rw [show h + 1 + 1 + 1 = h + 3 from rfl, show h + 1 + 1 = h + 2 from rfl]
  have HH := Lib.hid hh; clear hh
  go_wp2_with fail
  go_step3
  go_wp2_with fail
  go_loopg [9] (n + m) (fun gk v9 wr => ∃ (k i j : Nat) (es : List E), EInv w w1 h (.slice A' m c') a b pl k i j es wr ∧ Rest g N k v9 ∧ gk = (n - i) + (m - j))
  case atStart => exact ⟨0, 0, 0, [], HI0.out, ⟨Ap, cp, rfl, hcp, fun hlt => by rw [Nat.zero_mul]; exact HAp.out hlt⟩, rfl⟩
  case round =>
    obtain ⟨k, i, j, es, I, hrest, hgk⟩ := hrel
    have hi := I.le
    have hj := I.le'
    rw [HN.out] at hi
    rw [HM.out] at hj
    have ci := I.v.i.cell
    have cj := I.v.j.cell
    have cb := I.v.b.cell
    have HG := Lib.hid hgk; clear hgk
    by_cases hlt : i < n ∨ j < m
    · have hgp : 0 < gk := by have := HG.out; omega
      have HI := Lib.hid I; have HRS := Lib.hid hrest; clear I hrest
      obtain ⟨go, hgo⟩ : ∃ go, go = gk := ⟨_, rfl⟩
      subst hgo
      by_cases hin : i < n
      all_goals
        go_wp2_with fail
        go_loopg [9] N (fun gi v9 wr => ∃ (k i j : Nat), EInv w w1 h (.slice A' m c') a b pl k i j es wr ∧ Rest g N k v9 ∧ (n - i) + (m - j) ≤ go ∧ N - k ≤ gi)
        case atStart => exact ⟨k, i, j, HI.out, HRS.out, by have := HG.out; omega, by omega⟩
        case round =>
          clear ci cj cb HI HRS hi hj hlt HG
          obtain ⟨k2, i2, j2, I, ⟨A9, c9, rfl, hc9, hA9⟩, hgk2, hgi⟩ := hrel
          have hi := I.le
          have hj := I.le'
          have hlk := I.lk
          rw [HN.out] at hi
          rw [HM.out] at hj
          rw [HNN.out] at hlk
          have ci := I.v.i.cell
          have cj := I.v.j.cell
          have cb := I.v.b.cell
          have fi := I.v.i.frozen
          have fj := I.v.j.frozen
          have hfew := I.few
          rw [HN.out, HM.out] at hfew
          have hsz : h ≤ wr.heap.size := by have := I.bl.size; rw [HH.out] at this; exact this
          by_cases hk : k2 < N
          · have hA := hA9 hk
            subst hA
            clear hA9
            have hkl : k2 < pl.length := by rw [HNN.out]; exact hk
            obtain ⟨hp0, hp1⟩ := ((HPB.out (by omega)).kept I.kp).at_ hkl
            have hri := I.ri
            have heq := I.eq
            have HD := Lib.hid (drop_at hkl)
            rw [drop_at hkl] at hri heq
            generalize pl[k2] = pr at *
            obtain ⟨p0, p1⟩ := pr
            simp only at hp0 hp1
            have hle := ris_le hri
            rw [HN.out, HM.out] at hle
            obtain ⟨hle1, hle2⟩ := hle
            have hg1 := hri.1
            have hg2 := hri.2.1
            simp only at hle1 hle2 hg1 hg2
            have ci' := fun o => cell_al o ci
            have cj' := fun o => cell_al o cj
            have HI := Lib.hid I; have HRI := Lib.hid hri; have HEQ := Lib.hid heq; clear I hri heq
            have hv1 := fun o => Vars.below HI.out.v ((Below.refl _ wr).alloc (Nat.le_refl _) o)
            have HV1 := Lib.hid hv1; clear hv1
            by_cases hor : i2 < p0 ∨ j2 < p1
            · by_cases h1 : i2 < p0
              all_goals
                go_wp2_with fail
                refine (tell h i2 j2 p0 p1 m c' A' b es _ (HV1.out _) HM.out hmc hg1 hg2 (by omega) (by omega) hlm (by omega) (by simp; omega) (Rd.below hR1 (HI.out.bl.alloc hsz _))).mono ?_
                rintro e w2 ⟨rfl, hv2, hb2, hk2⟩
                have hI2 : EInv w w1 h (.slice A' m c') a b pl k2 p0 p1 (es ++ one b i2 j2 p0 p1) w2 := by
                  obtain ⟨r1, r2⟩ := step_tell HRI.out HEQ.out
                  rw [← HD.out] at r1 r2
                  exact ⟨hv2, (HI.out.kp.trans (kpE_none (World.grownBy_alloc wr _ none))).trans hk2, (HI.out.bl.alloc hsz _).trans hb2, r1, by rw [HN.out]; omega, by rw [HM.out]; omega, HI.out.lk, r2⟩
                have HI2 := Lib.hid hI2; clear hI2 hv2 hb2 hk2
                go_wp2
                go_roundg ((n - p0) + (m - p1))
                case measure => omega
                case rel => exact ⟨k2, p0, p1, _, HI2.out, ⟨_, c9, rfl, hc9, fun _ => rfl⟩, rfl⟩
            · obtain rfl : i2 = p0 := by omega
              obtain rfl : j2 = p1 := by omega
              have hm1 : ∀ o, EInv w w1 h (.slice A' m c') a b pl (k2 + 1) (i2 + 1) (j2 + 1) es ((((wr.alloc o).setCell ⟨h + 2, 0, none⟩ (.int .i64 ((i2 + 1 : Nat) : Int))).setCell ⟨h + 3, 0, none⟩ (.int .i64 ((j2 + 1 : Nat) : Int))).drewN 1) := fun o => by
                obtain ⟨m1, m2, m3⟩ := moved2 (W := wr) ⟨Vars.below HI.out.v ((Below.refl _ wr).alloc (Nat.le_refl _) o), (Below.refl h wr).alloc hsz o, kpE_none (World.grownBy_alloc wr o none)⟩ (i2 + 1) (j2 + 1)
                obtain ⟨r1, r2⟩ := step_pair (p := (i2, j2)) HRI.out HEQ.out
                exact ⟨Vars.below m1 (below_drewN (Below.refl _ _) 1), (HI.out.kp.trans m3).trans (kpE_none ⟨rfl, rfl, rfl, Nat.le_refl _, fun _ _ _ => rfl⟩), below_drewN (HI.out.bl.trans m2) 1, r1, by rw [HN.out]; omega, by rw [HM.out]; omega, by rw [HNN.out]; omega, r2⟩
              have HM1 := Lib.hid hm1; clear hm1
              have fi' := fun o => frozen_al o ci fi
              have fj' := fun o => frozen_al o cj fj
              by_cases hc1 : c9 = 1
              all_goals
                go_wp2_with fail
                go_region
                all_goals
                  go_wp2
                  go_roundg (N - (k2 + 1))
                  case measure => omega
                  case rel => exact ⟨k2 + 1, i2 + 1, j2 + 1, HM1.out _, ⟨_, _, by rw [Nat.sub_add_eq], by omega, fun hlt => by first | omega | (rw [Nat.add_mul])⟩, by omega, by omega⟩
          · obtain rfl : k2 = N := by omega
            have heq := I.eq
            rw [List.drop_of_length_le (by rw [HNN.out]; omega), HN.out, HM.out] at heq
            have HEQ := Lib.hid (step_end heq)
            have HI := Lib.hid I; clear I heq
            go_wp2_with fail
            refine (tell h i2 j2 n m m c' A' b es _ HI.out.v HM.out hmc hi hj (by omega) (by omega) hlm (by omega) hsz (Rd.below hR1 HI.out.bl)).mono ?_
            rintro e w2 ⟨rfl, hv2, hb2, hk2⟩
            have hI2 : EInv w w1 h (.slice A' m c') a b pl k2 n m (es ++ one b i2 j2 n m) w2 := by
              have hd : pl.drop k2 = [] := List.drop_of_length_le (by rw [HNN.out]; omega)
              exact ⟨hv2, HI.out.kp.trans hk2, HI.out.bl.trans hb2, by rw [hd]; trivial, by rw [HN.out]; omega, by rw [HM.out]; omega, HI.out.lk, by rw [hd, HN.out, HM.out]; exact HEQ.out⟩
            have HI2 := Lib.hid hI2; clear hI2 hv2 hb2 hk2
            go_wp2
            go_roundg 0
            case measure => omega
            case rel => exact ⟨k2, n, m, _, HI2.out, ⟨A9, c9, by rw [Nat.sub_self], hc9, hA9⟩, by omega⟩
    · obtain rfl : i = n := by omega
      obtain rfl : j = m := by omega
      have hes := step_exit (X := edits a b) I.ri HN.out (by have := I.eq; rw [HN.out, HM.out] at this; exact this)
      obtain ⟨_, _, _, v, xs, hl, hrow, hE⟩ := I.v
      obtain ⟨Av, cv, rfl, hcv, hrd⟩ := rdE_own hrow hE rfl
      have HNH := Lib.hid (newHi_own hrow hE rfl)
      have cl := hl.cell
      have hbl := I.bl
      clear I hl hrow hE HG hrest
      rw [hes] at cl hcv hrd
      go_wp2
      rw [Exit.noGoto_ret]
      go_ret
      exact ⟨Av, cv, rfl, hcv, hrd, by have h1 := HNH.out; rw [hes] at h1; rw [HH.out]; exact h1, by rw [HH.out]; exact hbl⟩

theorem Edits (A A' : Option Addr) (c c' n m B : Nat) (a b : List (List UInt8)) (w : World) (hn : a.length = n) (hm : b.length = m) (hnc : n ≤ c) (hmc : m ≤ c') (hln : n ≤ 1000) (hlm : m ≤ 1000) (hB : B ≤ w.heap.size)
    (hR : RdS w B A a) (hR' : RdS w B A' b) :
    Calls Try.prog 67 #[.slice A n c, .slice A' m c'] w (EditsEnd w (edits a b)) :=
  (EditsH A A' c c' n m B a b w hn hm hnc hmc hln hlm hB hR hR').mono fun e w' h => h.end_

end Df
end Go.Proofs.Ytjhjmfodpnipiaa
