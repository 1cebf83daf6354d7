/-
  What package flow's ownLines, ownTree, May, Same and Apply return (walks).
-/
import Derived.Test.YtbiiabfhngdeiaaFlSteps
import Derived.Test.YtbiiabfhngdeiaaPsCode
import Derived.Test.YtbiiabfhngdeiaaFlRef2
import Derived.Test.YtbiiabfhngdeiaaGT
import Derived.Test.YtbiiabfhngdeiaaGQ
set_option maxRecDepth 100000
namespace Go.Proofs.Ytbiiabfhngdeiaa
open Go.RowKit
set_option linter.unusedVariables false
set_option linter.unusedSimpArgs false
namespace Fl
open Tx Df Sq Hk Tr Pr

/-- How a copy of lines ends: in memory of its own. -/
def CopyLEnd (w : World) (n : Nat) (ls : List (List UInt8)) (e : Ending) (w' : World) : Prop :=
  ∃ D d, e = .returned (.slice D n d) ∧ n ≤ d ∧ RdS w' w'.heap.size D ls ∧ Hi w.heap.size D ∧ w.grownBy w' none

theorem ownLines (A : Option Addr) (n c B : Nat) (ls : List (List UInt8)) (w : World) (hn : ls.length = n) (hle : n ≤ 100000) (hB : B ≤ w.heap.size) (hR : RdS w B A ls) :
    Calls Try.prog 53 #[.slice A n c] w (CopyLEnd w n ls) := by
  obtain ⟨j0, hj, hy0, hy1, hy2⟩ := info_parts info_str
  have HR := Lib.hid hR; have HN := Lib.hid hn
  clear hR hn
  go_enter Try.func53, Try.ntmps53
  go_wp2_with (at_builtin; refine wpList_nil' rfl (.const (.slice none 0 0)) (.tmp 3) 47 rfl 9 j0 (.string ⟨#[]⟩) 16 Try.underlying47 hj hy0 hy1 hy2 rfl rfl B A n c (ls.map strV) rfl (by rw [List.length_map]; exact HN.out) HR.out (strs_one _) (by unfold maxLen; omega) (by omega) ?_; intro D1 d1 w1 hA hg; have HA := Lib.hid hA; have HG := Lib.hid hg; clear hA hg)
  go_ret
  obtain ⟨A', c', e, hc, hr⟩ := rd_of_own HA.out
  injection e with e1 e2 e3
  subst e1 e3
  exact ⟨D1, d1, rfl, hc, hr, hi_own HA.out, HG.out⟩

/-- One of a row's files. -/
theorem ownT_elem {W : World} {base g n cap k : Nat} {t : TR} {x : FL} (h : OwnT W base (.slice (some ⟨g, 0, none⟩) n cap) t) (hn : t.length = n) (hx : t[k]? = some x) :
    ∃ A m c, W.cell? ⟨g, k * 2, none⟩ = some (strV x.1) ∧ W.cell? ⟨g, k * 2 + 1, none⟩ = some (.slice A m c) ∧ (∀ j, W.frozen? ⟨g, j, none⟩ = false) ∧ x.2.length = m ∧ RdX W (some g) A x.2 := by
  subst hn
  obtain ⟨xs, hr, hF⟩ := h
  obtain ⟨A, c, h0, h1, h2, h3⟩ := hF k x hx
  have hk : k < t.length := (List.getElem?_eq_some_iff.1 hx).1
  exact ⟨A, _, c, by rw [hr.cellAt (k * 2) (by omega)]; exact h0, by rw [hr.cellAt (k * 2 + 1) (by omega)]; exact h1, fun j => hr.frozenAt _, rfl, h3⟩
/-- The lines of one of a row's files are stored anew. -/
theorem ownT_line {W : World} {base g n cap k m d : Nat} {t : TR} {x : FL} {D : Option Addr} (h : OwnT W base (.slice (some ⟨g, 0, none⟩) n cap) t) (hn : t.length = n) (hx : t[k]? = some x) (hm : x.2.length = m) (hd : m ≤ d) (hr : RdX W (some g) D x.2) :
    OwnT (W.setCell ⟨g, k * 2 + 1, none⟩ (.slice D m d)) base (.slice (some ⟨g, 0, none⟩) n cap) t := by
  subst hm hn
  obtain ⟨xs, hrow, hF⟩ := h
  have hk : k < t.length := (List.getElem?_eq_some_iff.1 hx).1
  have hxl := hrow.1
  obtain ⟨h1, g1⟩ := hrow.stored (k * 2 + 1) (.slice D x.2.length d)
  refine ⟨_, h1, ?_⟩
  refine FCells.gr (W := W) (fun j y hy => ?_) g1
  by_cases e : j = k
  · subst e
    rw [hx] at hy
    injection hy with hy
    subst hy
    obtain ⟨A', c', q1, q2, q3, q4⟩ := hF j x hx
    refine ⟨D, d, ?_, ?_, hd, hr⟩
    · rw [List.getElem?_set_ne (by omega)]; exact q1
    · rw [List.getElem?_set_self (by omega)]
  · obtain ⟨A', c', q1, q2, q3, q4⟩ := hF j y hy
    refine ⟨A', c', ?_, ?_, q3, q4⟩
    · rw [List.getElem?_set_ne (by omega)]; exact q1
    · rw [List.getElem?_set_ne (by omega)]; exact q2
theorem ownT_form {W : World} {base : Nat} {v : Value} {t : TR} (h : OwnT W base v t) : t = [] ∧ v = .slice none 0 0 ∨ ∃ g cap, v = .slice (some ⟨g, 0, none⟩) t.length cap ∧ base ≤ g ∧ g < W.heap.size := by
  obtain ⟨xs, hr, hF⟩ := h
  rcases hr.2 with ⟨rfl, h1⟩ | ⟨g, cap, cur, rfl, hbg, hg, hc, _⟩
  · exact .inl ⟨List.eq_nil_of_length_eq_zero h1, rfl⟩
  · exact .inr ⟨g, cap, rfl, hbg, (Array.getElem?_eq_some_iff.1 hg).1⟩

set_option maxHeartbeats 2000000 in
theorem ownTree (A : Option Addr) (n c : Nat) (t : TR) (w : World) (hn : t.length = n) (hle : n ≤ 100000) (hl : ∀ x ∈ t, x.2.length ≤ 100000) (hR : RdT w w.heap.size A t) :
    Calls Try.prog 47 #[.slice A n c] w (TreeEnd w t) := by
  obtain ⟨ys, hy1, hy2, hy3⟩ := flat_cells (row := (Value.slice none 0 0).ownBlock) hR (Nat.le_refl _) (fun g e => by cases e)
  have Y1 := Lib.hid hy1; have Y2 := Lib.hid hy2; have Y3 := Lib.hid hy3; have HN := Lib.hid hn; have HL := Lib.hid hl
  clear hy1 hy2 hy3 hR hn hl
  go_enter Try.func47, Try.ntmps47
  go_wp2_with (at_builtin; refine wpList_ownT rfl (.const (.slice none 0 0)) (.tmp 6) rfl w.heap.size n c (.slice none 0 0) A [] t ys rfl rfl (ownT_nil _ _) Y2.out Y1.out Y3.out HN.out (by simp; omega) (Nat.le_refl _) ?_; intro v w1 ho hg; have HO := Lib.hid ho; have HB := Lib.hid ((Below.refl w.heap.size w).grown hg (Nat.le_refl _) (fun k e => by cases e)); clear ho hg; replace HO := Lib.hid (show OwnT w1 w.heap.size v t from HO.out); obtain ⟨A1, c1, hv1, hc1⟩ : ∃ A1 c1, v = .slice A1 n c1 ∧ n ≤ c1 := (rdT_own HO.out).elim fun A1 h => h.elim fun c1 h => ⟨A1, c1, by rw [← HN.out]; exact h.1, by rw [← HN.out]; exact h.2.1⟩; subst hv1)
  clear Y1 Y2 Y3
  go_loopw [10] (fun i wr => ∃ k : Nat, k ≤ n ∧ i = .int .i64 (k : Int) ∧ OwnT wr w.heap.size (.slice A1 n c1) t ∧ Below w.heap.size w wr) (fun i _ => n - (intOf i).toNat)
  case atStart => exact ⟨0, Nat.zero_le _, rfl, HO.out, HB.out⟩
  case round =>
    clear HO HB
    obtain ⟨k, hk, rfl, ho, hb⟩ := hrel
    have HB := Lib.hid hb
    by_cases hlt : k < n
    · rcases ownT_form ho with ⟨h0, _⟩ | ⟨g, cap, e, hg1, hg2⟩
      · exfalso
        have := HN.out
        rw [h0] at this
        simp at this
        omega
      injection e with e1 e2 e3
      subst e1 e3
      clear e2
      have hki : (k : Int) < (n : Int) := by omega
      obtain ⟨x, hx⟩ : ∃ x, t[k]? = some x := ⟨_, List.getElem?_eq_getElem (by rw [HN.out]; exact hlt)⟩
      obtain ⟨B, m, d, c0, c1', hf, hm, hr⟩ := ownT_elem ho HN.out hx
      have HO := Lib.hid ho; have HX := Lib.hid hx; have HM := Lib.hid hm; have HR := Lib.hid hr
      have hml : m ≤ 100000 := by rw [← HM.out]; exact HL.out x (List.mem_of_getElem? HX.out)
      clear ho hx hm hr hb
      have HBX := Lib.hid (Blk.new wr 66 #[strV x.1, .slice B m d])
      go_wp2_with fail
      refine (ownLines B m d wr.heap.size x.2 _ HM.out hml (by simp) (Rd.below HR.out.1 ((Below.refl _ _).alloc (Nat.le_refl _) _))).mono ?_
      rintro e w2 ⟨D, j, rfl, hj, hrd, hhi, hgr⟩
      have ho2 := (HO.out.below ((Below.refl _ _).alloc (Nat.le_refl _) (.cells #[strV x.1, .slice B m d] 66))).below (below_gr hgr)
      have hrx : RdX w2 (some g) D x.2 := ⟨hrd, by
        cases D with
        | none => exact .inr fun a e => by cases e
        | some a =>
          refine .inr fun a' e hne => ?_
          have := hhi a' e
          rw [World.size_alloc] at this
          injection hne with hne
          omega⟩
      have hb2 : Below w.heap.size w w2 := (HB.out.alloc HB.out.size (.cells #[strV x.1, .slice B m d] 66)).trans ((below_gr hgr).mono (by have := HB.out.size; simp; omega))
      obtain ⟨B', m', d', q0, q1, qf, qm, qr⟩ := ownT_elem ho2 HN.out HX.out
      have f1 := qf (k * 2 + 1)
      have HO2 := Lib.hid ho2; have HRX := Lib.hid hrx; have HB2 := Lib.hid hb2; have HJ := Lib.hid hj; have HG := Lib.hid hg1
      clear ho2 hrx hb2 hrd hhi hgr qr qf qm c0 c1' hf hj hg1 hg2
      go_wp2_with fail
      go_roundw
      case rel => exact ⟨k + 1, by omega, by go_num, ownT_line HO2.out HN.out HX.out HM.out HJ.out HRX.out, HB2.out.setCell (p := ⟨g, k * 2 + 1, none⟩) HG.out _⟩
      case measure => simp [intOf]; omega
    · have HO := Lib.hid ho
      clear ho hb
      go_wp2
      go_ret
      obtain ⟨A2, c2, e, hc2, hr2⟩ := rdT_own HO.out
      exact ⟨A2, c2, by rw [e]; rfl, hc2, hr2, HB.out⟩

set_option maxHeartbeats 4000000 in
theorem EqualP (A : Option Addr) (n c : Nat) (A' : Option Addr) (n' c' : Nat) (l u : List Ch) (w : World) (b : Bool) (hn : l.length = n) (hn' : u.length = n') (hle : n ≤ 100000) (hR : RdP w (· < w.heap.size) A l) (hR' : RdP w (· < w.heap.size) A' u) (hb : listP l u = b) :
    Calls Try.prog 50 #[.slice A n c, .slice A' n' c', .func (.func 51) #[] #[]] w (BoolEnd w b) := by
  have HR := Lib.hid hR; have HR' := Lib.hid hR'; have HN := Lib.hid hn; have HN' := Lib.hid hn'
  have HB := Lib.hid hb.symm
  clear hR hR' hn hn' hb
  go_enter Try.func50, Try.ntmps50
  by_cases h0 : n = n'
  · subst h0
    go_wp2
    go_loopw [17] (fun i wr => ∃ k : Nat, k ≤ n ∧ i = .int .i64 (k : Int) ∧ l.take k = u.take k ∧ Below w.heap.size w wr) (fun i _ => n - (intOf i).toNat)
    case atStart => exact ⟨0, Nat.zero_le _, rfl, rfl, Below.refl _ _⟩
    case round =>
      obtain ⟨k, hk, rfl, hall, hbw⟩ := hrel
      have HBW := Lib.hid hbw; have HAL := Lib.hid hall; clear hbw hall
      by_cases hlt : k < n
      · have hki : (k : Int) < (n : Int) := by omega
        obtain ⟨a, x, B, i, j, D, m, d, rfl, hS, hx, c0, c1, c2, c3, c4, c5, c6⟩ := ((HR.out.mv HBW.out).elem (k := k) (by rw [HN.out]; exact hlt))
        obtain ⟨a', y, B', i', j', D', m', d', rfl, hS', hy, g0, g1, g2, g3, g4, g5, g6⟩ := ((HR'.out.mv HBW.out).elem (k := k) (by rw [HN'.out]; exact hlt))
        have HX := Lib.hid hx; have HP := Lib.hid c6.pv; clear hx c6 hS
        have HY := Lib.hid hy; have HQ := Lib.hid g6.pv; clear hy g6 hS'
        obtain ⟨bl, hbl⟩ : ∃ b, sameP x y = b := ⟨_, rfl⟩
        have hba := two_box wr (.cells #[.int .i64 x.k, strV x.nm, strV x.to, .int .i64 x.h.pos, .slice B i j, .slice D m d] 51) (.cells #[.int .i64 y.k, strV y.nm, strV y.to, .int .i64 y.h.pos, .slice B' i' j', .slice D' m' d'] 51)
        have HBA := Lib.hid hba; clear hba
        have e0 := cell_alc (.cells #[.int .i64 x.k, strV x.nm, strV x.to, .int .i64 x.h.pos, .slice B i j, .slice D m d] 51) g0; have e1 := cell_alc (.cells #[.int .i64 x.k, strV x.nm, strV x.to, .int .i64 x.h.pos, .slice B i j, .slice D m d] 51) g1; have e2 := cell_alc (.cells #[.int .i64 x.k, strV x.nm, strV x.to, .int .i64 x.h.pos, .slice B i j, .slice D m d] 51) g2; have e3 := cell_alc (.cells #[.int .i64 x.k, strV x.nm, strV x.to, .int .i64 x.h.pos, .slice B i j, .slice D m d] 51) g3; have e4 := cell_alc (.cells #[.int .i64 x.k, strV x.nm, strV x.to, .int .i64 x.h.pos, .slice B i j, .slice D m d] 51) g4; have e5 := cell_alc (.cells #[.int .i64 x.k, strV x.nm, strV x.to, .int .i64 x.h.pos, .slice B i j, .slice D m d] 51) g5
        clear g0 g1 g2 g3 g4 g5
        go_wp2_with fail
        refine (SameP B i j D m d B' i' j' D' m' d' x y _ bl (HP.out.mv HBA.out) (HQ.out.mv HBA.out) hbl).mono ?_
        rintro e w2 ⟨rfl, hb2⟩
        have HBL := Lib.hid (sameL_take HAL.out HX.out HY.out)
        have hbw2 := below_mv HBW.out (below_mv HBA.out hb2)
        have HBW2 := Lib.hid hbw2; clear hbw2 c0 c1 c2 c3 c4 c5 e0 e1 e2 e3 e4 e5 hb2
        rw [hbl] at HBL
        clear hbl
        cases bl with
        | false =>
          go_wp2
          go_ret
          exact ⟨ret_bool (by rw [HB.out, listP_no (HBL.out.2 (by simp))]), HBW2.out⟩
        | true =>
          go_wp2_with fail
          exact ⟨⟨k + 1, by omega, by go_num, HBL.out.1 (by simp), HBW2.out⟩, by simp [intOf]; omega⟩
      · go_wp2
        go_ret
        refine ⟨ret_bool ?_, HBW.out⟩
        have h1 := HAL.out
        rw [List.take_of_length_le (by rw [HN.out]; omega), List.take_of_length_le (by rw [HN'.out]; omega)] at h1
        rw [HB.out, listP_iff.2 h1]
  · have e0 : ((n : Int) != (n' : Int)) = true := by rw [bne_iff_ne]; omega
    go_wp2
    go_ret
    exact ⟨ret_bool (by rw [HB.out, listP_no (fun e => h0 (by rw [← HN.out, ← HN'.out, e]))]), Below.refl _ _⟩

theorem SameL (A : Option Addr) (n c : Nat) (A' : Option Addr) (n' c' : Nat) (l u : List Ch) (w : World) (b : Bool) (hn : l.length = n) (hn' : u.length = n') (hle : n ≤ 100000) (hR : RdP w (· < w.heap.size) A l) (hR' : RdP w (· < w.heap.size) A' u) (hb : listP l u = b) :
    Calls Try.prog 36 #[.slice A n c, .slice A' n' c'] w (BoolEnd w b) := by
  have H := Lib.hid (EqualP A n c A' n' c' l u w b hn hn' hle hR hR' hb)
  clear hn hn' hR hR' hb
  go_enter Try.func36, Try.ntmps36
  go_wp2_with fail
  refine H.out.mono ?_
  rintro e w1 ⟨rfl, hb⟩
  go_wp2
  go_ret
  exact ⟨rfl, hb⟩

set_option maxHeartbeats 4000000 in
theorem ApplyL (K L : Nat) (A0 : Option Addr) (n0 c0 : Nat) (A : Option Addr) (n c : Nat) (t : TR) (l : List Ch) (w : World) (R : Int × TR) (ht : Most t K L) (hK : K + n ≤ 99990) (hL : L + 300 * n ≤ 99000) (hn0 : t.length = n0) (hn : l.length = n) (hl : Lt l) (hR0 : RdT w w.heap.size A0 t) (hR : RdP w (· < w.heap.size) A l) (hD : doF t l = R) :
    Calls Try.prog 32 #[.slice A0 n0 c0, .slice A n c] w (DoEnd w R) := by
  have HR := Lib.hid hR; have HN := Lib.hid hn; have HL := Lib.hid hl; have HD := Lib.hid hD; have HT := Lib.hid ht; have HR0 := Lib.hid hR0; have HN0 := Lib.hid hn0
  clear hR hn hl hD ht hn0 hR0
  go_enter Try.func32, Try.ntmps32
  go_wp2_with fail
  refine (ownTree A0 n0 c0 t w HN0.out (by rw [← HN0.out]; exact HT.out.s.len) (fun x hx => (HT.out.s.all x hx).l) HR0.out).mono ?_
  rintro e w0 ⟨B0, d0, rfl, hd0, hr0, hb0⟩
  have HT0 := Lib.hid (show ∃ u : TR, u.length = n0 ∧ n0 ≤ d0 ∧ Most u (K + 0) (L + 300 * 0) ∧ RdT w0 w0.heap.size B0 u ∧ doF t l = doF u (l.drop 0) from ⟨t, HN0.out, by rw [← HN0.out]; exact hd0, HT.out, hr0, rfl⟩)
  have hz : t.length = n0 := HN0.out
  rw [hz]
  have HB0 := Lib.hid hb0
  clear HT HR0 HN0 hd0 hr0 hb0 hz
  go_wp2
  go_loopw [6, 15] (fun v0 i wr => ∃ (k : Nat) (B : Option Addr) (m d : Nat) (u : TR), k ≤ n ∧ i = .int .i64 (k : Int) ∧ v0 = .slice B m d ∧ u.length = m ∧ m ≤ d ∧ Most u (K + k) (L + 300 * k) ∧ RdT wr wr.heap.size B u ∧ doF t l = doF u (l.drop k) ∧ Below w.heap.size w wr) (fun _ i _ => n - (intOf i).toNat)
  case atStart =>
    obtain ⟨u, h1, h2, h3, h4, h5⟩ := HT0.out
    exact ⟨0, B0, n0, d0, u, Nat.zero_le _, rfl, rfl, h1, h2, h3, h4, h5, HB0.out⟩
  case round =>
    clear HT0 HB0
    obtain ⟨k, B, m, d, u, hk, rfl, rfl, hm, hmd, hM, hT, hF, hbw⟩ := hrel
    have HBW := Lib.hid hbw; have HM := Lib.hid hm; have HMM := Lib.hid hM; have HT := Lib.hid hT; have HF := Lib.hid hF; have HMD := Lib.hid hmd
    clear hbw hm hM hT hF hmd
    by_cases hlt : k < n
    · have hki : (k : Int) < (n : Int) := by omega
      obtain ⟨a, x, B1, i, j, D, m1, d1, rfl, hS, hx, c0, c1, c2, c3, c4, c5, c6⟩ := ((HR.out.mv HBW.out).elem (k := k) (by rw [HN.out]; exact hlt))
      have HX := Lib.hid hx; have HP := Lib.hid c6.pv; clear hx c6 hS
      have HLX := Lib.hid (HL.out x (List.mem_of_getElem? HX.out))
      have hba : Below wr.heap.size wr (wr.alloc (.cells #[.int .i64 x.k, strV x.nm, strV x.to, .int .i64 x.h.pos, .slice B1 i j, .slice D m1 d1] 51)) := (Below.refl _ _).alloc (Nat.le_refl _) _
      have HBA := Lib.hid hba; clear hba
      go_wp2_with fail
      refine (ApplyP B m d B1 i j D m1 d1 u x _ HMM.out.s.wide HM.out (HT.out.mv HBA.out) (HP.out.mv HBA.out)).mono ?_
      rintro e w2 hde
      obtain ⟨r, hr⟩ : ∃ r, doP u x = r := ⟨_, rfl⟩
      rw [hr] at hde
      obtain ⟨r, v⟩ := r
      obtain ⟨B2, m2, d2, rfl, hd2, hl2, hT2, hb2⟩ := hde
      dsimp only at hl2 hT2
      have hF := doF_at HX.out HF.out
      have HM2 := Lib.hid (HMM.out.do (by omega) (by omega) HLX.out hr)
      have hbw2 := below_mv HBW.out (below_mv HBA.out hb2)
      have HBW2 := Lib.hid hbw2; have HT2 := Lib.hid hT2; have HL2 := Lib.hid hl2; have HD2 := Lib.hid hd2; have HF2 := Lib.hid hF; have HRR := Lib.hid hr
      clear hbw2 c0 c1 c2 c3 c4 c5 hb2 hT2 hl2 hd2 hF hr
      by_cases h0 : r = 0
      · subst h0
        go_wp2_with fail
        refine ⟨⟨k + 1, B2, m2, d2, v, by omega, by go_num, rfl, HL2.out, HD2.out, ?_, HT2.out, ?_, HBW2.out⟩, by simp [intOf]; omega⟩
        · have h1 := HM2.out
          rw [show L + 300 * k + 300 = L + 300 * (k + 1) by omega] at h1
          exact h1
        · rw [HF2.out, doF_cons_ok HRR.out]
      · have e0 : (r != 0) = true := by rw [bne_iff_ne]; exact h0
        have HO : Hid (R = (r, [])) := Lib.hid (by rw [← HD.out, HF2.out, doF_cons_no (by rw [HRR.out]; exact h0), HRR.out])
        clear h0
        go_wp2
        go_ret2
        exact doEnd_err HO.out HBW2.out
    · have HO : Hid (R = (0, u)) := Lib.hid (by rw [← HD.out, HF.out, List.drop_of_length_le (by rw [HN.out]; omega)]; rfl)
      go_wp2
      go_ret2
      obtain ⟨rfl⟩ := HM.out
      exact doEnd_ok HO.out HMD.out HT.out HBW.out

end Fl
end Go.Proofs.Ytbiiabfhngdeiaa
