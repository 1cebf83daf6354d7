/-
  What package patch's May and Same, slices.Equal of ids, and the document's own Same return (walks).
-/
import Derived.Test.YtbiiabfhngdeiaaPnMay
import Derived.Test.YtbiiabfhngdeiaaGQ
set_option maxRecDepth 100000
namespace Go.Proofs.Ytbiiabfhngdeiaa
open Go.RowKit
set_option linter.unusedVariables false
set_option linter.unusedSimpArgs false
namespace Pn
open Tx Df Sq Hk Tr Pr Fl
attribute [local go_sem] eq_id

set_option maxHeartbeats 1000000 in
theorem EqualI (A A' : Option Addr) (cap cap' n n' B : Nat) (ls ms : List Id_) (w : World) (hn : ls.length = n) (hn' : ms.length = n') (hnm : n ≤ 100000000000) (hR : RdI w B A ls) (hR' : RdI w B A' ms) :
    Calls Try.prog 35 #[.slice A n cap, .slice A' n' cap'] w (SameEnd w (decide (ls = ms))) := by
  have HN := Lib.hid hn; clear hn
  have HN' := Lib.hid hn'; clear hn'
  by_cases h1 : n = n'
  · subst h1
    go_enter Try.func35, Try.ntmps35
    go_wp2
    go_loopw [13] (fun i wr => ∃ k : Nat, k ≤ n ∧ i = .int .i64 k ∧ ls.take k = ms.take k ∧ ∃ d, wr = w.drewN d) (fun i _ => n - (intOf i).toNat)
    case atStart => exact ⟨0, Nat.zero_le _, rfl, by simp, 0, rfl⟩
    case round =>
      obtain ⟨k, hk, rfl, hall, d, rfl⟩ := hrel
      have HA := Lib.hid hall; clear hall
      by_cases hlt : k < n
      · obtain ⟨a, x, rfl, _, hx, c0, c1⟩ := hR.elem (k := k) (by rw [HN.out]; exact hlt)
        obtain ⟨a', y, rfl, _, hy, g0, g1⟩ := hR'.elem (k := k) (by rw [HN'.out]; exact hlt)
        have HX := Lib.hid hx; have HY := Lib.hid hy
        clear hx hy
        obtain ⟨x1, x2⟩ := x
        obtain ⟨y1, y2⟩ := y
        dsimp only at c0 c1 g0 g1
        have hki : (k : Int) < (n : Int) := by omega
        by_cases he : x1 = y1 ∧ x2 = y2
        · obtain ⟨rfl, rfl⟩ := he
          have HE : Hid (ls.take (k + 1) = ms.take (k + 1)) := Lib.hid (by rw [take_at HX.out, take_at HY.out, HA.out])
          go_wp2
          go_quiet (fail)
          go_wp2
          refine ⟨⟨k + 1, by omega, by go_num, HE.out, _, rfl⟩, by simp [intOf]; omega⟩
        · have HD : Hid (decide (ls = ms) = false) := Lib.hid (decide_eq_false (fun e => he (by
            subst e
            have h2 := HX.out
            rw [HY.out] at h2
            injection h2 with h2
            injection h2 with h3 h4
            exact ⟨h3.symm, h4.symm⟩)))
          by_cases h1 : x1 = y1
          · have h2 : (x2 == y2) = false := by rw [beq_eq_false_iff_ne]; exact fun e => he ⟨h1, e⟩
            subst h1
            clear he
            go_wp2
            go_quiet (fail)
            go_wp2
            go_ret
            exact ⟨ret_bool HD.out.symm, d + nq, by simp⟩
          · have h2 : (x1 == y1) = false := by rw [beq_eq_false_iff_ne]; exact h1
            clear he h1
            go_wp2
            go_quiet (fail)
            go_wp2
            go_ret
            exact ⟨ret_bool HD.out.symm, d + nq, by simp⟩
      · have HD : Hid (decide (ls = ms) = true) := Lib.hid (by
          have := HA.out
          rw [List.take_of_length_le (by rw [HN.out]; omega), List.take_of_length_le (by rw [HN'.out]; omega)] at this
          exact decide_eq_true this)
        go_wp2
        go_ret
        exact ⟨ret_bool HD.out.symm, _, rfl⟩
  · have HD : Hid (decide (ls = ms) = false) := Lib.hid (decide_eq_false (fun e => h1 (by rw [← HN.out, ← HN'.out, e])))
    have hne : ((n : Int) != (n' : Int)) = true := by rw [bne_iff_ne]; omega
    go_enter Try.func35, Try.ntmps35
    go_wp2
    go_ret
    exact ⟨ret_bool HD.out.symm, 0, rfl⟩

/-- A patch in a block of its own. -/
abbrev nmC (p : Nm) (D : Option Addr) (dn dc : Nat) (A : Option Addr) (n c : Nat) : Array Value := #[.int .i64 p.id.1, .int .i64 p.id.2, .slice D dn dc, strV p.txt, .slice A n c]

theorem sameN_eq (p q : Nm) : sameN p q = (decide (p.id = q.id) && (decide (p.deps = q.deps) && (decide (p.txt = q.txt) && listP p.l q.l))) := by
  have h : listP p.l q.l = decide (p.l = q.l) := by rw [Bool.eq_iff_iff, listP_iff, decide_eq_true_eq]
  unfold sameN
  rw [h]
  cases decide (p.l = q.l) <;> cases decide (p.id = q.id) <;> cases decide (p.txt = q.txt) <;> cases decide (p.deps = q.deps) <;> rfl
theorem below_sameEnd {w w' : World} {d : Nat} (h : w' = w.drewN d) : Below w.heap.size w w' := h ▸ below_drewN (Below.refl _ _) d

set_option maxHeartbeats 4000000 in
theorem SameN (D : Option Addr) (dn dc : Nat) (A : Option Addr) (n c : Nat) (D' : Option Addr) (dn' dc' : Nat) (A' : Option Addr) (n' c' : Nat) (p q : Nm) (w : World) (b : Bool) (hv : NV w w.heap.size D dn dc A n c p) (hv' : NV w w.heap.size D' dn' dc' A' n' c' q) (hle : n ≤ 100000) (hd : dn ≤ 100000) (hb : sameN p q = b) :
    Calls Try.prog 20 #[nmV p.id D dn dc p.txt A n c, nmV q.id D' dn' dc' q.txt A' n' c'] w (BoolEnd w b) := by
  have hbe := hb.symm.trans (sameN_eq p q)
  clear hb
  obtain ⟨⟨u1, u2⟩, ds, t, l⟩ := p
  obtain ⟨⟨v1, v2⟩, ds', t', l'⟩ := q
  dsimp only at hbe hv hv' ⊢
  have HV := Lib.hid hv; have HV' := Lib.hid hv'; have HB := Lib.hid hbe
  have B0 := Lib.hid ((Blk.new w 28 #[.int .i64 u1, .int .i64 u2, .slice D dn dc, strV t, .slice A n c]).alloc (.cells #[.int .i64 v1, .int .i64 v2, .slice D' dn' dc', strV t', .slice A' n' c'] 28))
  have b1 := Blk.new (w.alloc (.cells #[.int .i64 u1, .int .i64 u2, .slice D dn dc, strV t, .slice A n c] 28)) 28 #[.int .i64 v1, .int .i64 v2, .slice D' dn' dc', strV t', .slice A' n' c']
  simp only [World.size_alloc] at b1
  have B1 := Lib.hid b1
  have HBA := Lib.hid (two_box w (.cells #[.int .i64 u1, .int .i64 u2, .slice D dn dc, strV t, .slice A n c] 28) (.cells #[.int .i64 v1, .int .i64 v2, .slice D' dn' dc', strV t', .slice A' n' c'] 28))
  clear hv hv' hbe b1
  by_cases h1 : u1 = v1
  · subst h1
    by_cases h2 : u2 = v2
    · subst h2
      go_enter Try.func20, Try.ntmps20
      go_upto_region 1 with fail
      generalize ((w.alloc (.cells #[.int .i64 u1, .int .i64 u2, .slice D dn dc, strV t, .slice A n c] 28)).alloc (.cells #[.int .i64 u1, .int .i64 u2, .slice D' dn' dc', strV t', .slice A' n' c'] 28)) = w1 at B0 B1 HBA ⊢
      obtain ⟨z, hz⟩ : ∃ z, w.heap.size = z := ⟨_, rfl⟩
      rw [hz] at B0 B1 ⊢
      clear hz
      have x0 := B0.out.cell 0 rfl; have x1 := B0.out.cell 1 rfl; have x2 := B0.out.cell 2 rfl
      have y0 := B1.out.cell 0 rfl; have y1 := B1.out.cell 1 rfl; have y2 := B1.out.cell 2 rfl
      go_wp2_with fail
      refine (EqualI D D' dc dc' dn dn' _ ds ds' w1 HV.out.dl HV'.out.dl (by omega) (RdI.mv HV.out.dr HBA.out) (Rd.up (Rd.below HV'.out.dr HBA.out) HBA.out.size)).mono ?_
      rintro e w2 ⟨rfl, d, rfl⟩
      clear x0 x1 x2 y0 y1 y2
      replace HBA := Lib.hid (below_mv HBA.out (below_drewN (Below.refl _ _) d))
      obtain ⟨bd, hbd⟩ : ∃ b, decide (ds = ds') = b := ⟨_, rfl⟩
      rw [hbd]
      have HD := Lib.hid hbd
      clear hbd
      cases bd with
      | false =>
        go_wp2
        go_ret
        exact ⟨ret_bool (by rw [HB.out, HD.out, Bool.false_and, Bool.and_false]), HBA.out⟩
      | true =>
        replace B0 := Lib.hid (B0.out.drewN d); replace B1 := Lib.hid (B1.out.drewN d)
        generalize w1.drewN d = w2 at B0 B1 HBA ⊢
        have x3 := B0.out.cell 3 rfl; have x4 := B0.out.cell 4 rfl
        have y3 := B1.out.cell 3 rfl; have y4 := B1.out.cell 4 rfl
        by_cases h3 : t = t'
        · subst h3
          go_wp2_with fail
          obtain ⟨bl, hbl⟩ : ∃ b, listP l l' = b := ⟨_, rfl⟩
          have hvm := HV.out.mv HBA.out
          have hvm' := HV'.out.mv HBA.out
          refine (SameL A n c A' n' c' l l' w2 bl hvm.l hvm'.l hle hvm.r hvm'.r hbl).mono ?_
          rintro e w3 ⟨rfl, hb3⟩
          have HL := Lib.hid hbl
          replace HBA := Lib.hid (below_mv HBA.out hb3)
          clear x3 x4 y3 y4 hbl hvm hvm' hb3
          go_wp2
          all_goals go_ret
          all_goals refine ⟨ret_bool ?_, HBA.out⟩
          all_goals rw [HB.out, HD.out, HL.out]; simp
        · have e3 : (t == t') = false := by simpa using h3
          have HT := Lib.hid (decide_eq_false h3)
          clear h3
          go_wp2
          go_ret
          exact ⟨ret_bool (by rw [HB.out, HT.out, Bool.false_and, Bool.and_false, Bool.and_false]), HBA.out⟩
    · have e2 : (u2 == v2) = false := by rw [beq_eq_false_iff_ne]; exact h2
      have HI : Hid (decide ((u1, u2) = (u1, v2)) = false) := Lib.hid (decide_eq_false (fun e => h2 (by injection e)))
      clear h2
      go_enter Try.func20, Try.ntmps20
      go_wp2
      go_ret
      exact ⟨ret_bool (by rw [HB.out, HI.out]; rfl), HBA.out⟩
  · have e1 : (u1 == v1) = false := by rw [beq_eq_false_iff_ne]; exact h1
    have HI : Hid (decide ((u1, u2) = (v1, v2)) = false) := Lib.hid (decide_eq_false (fun e => h1 (by injection e)))
    clear h1
    go_enter Try.func20, Try.ntmps20
    go_wp2
    go_ret
    exact ⟨ret_bool (by rw [HB.out, HI.out]; rfl), HBA.out⟩

end Pn
end Go.Proofs.Ytbiiabfhngdeiaa
