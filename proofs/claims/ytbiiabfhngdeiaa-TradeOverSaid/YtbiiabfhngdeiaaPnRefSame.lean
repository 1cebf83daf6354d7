/-
  What the document's own Same of patches returns (walk).
-/
import Derived.Test.YtbiiabfhngdeiaaPnSame
import Derived.Test.YtbiiabfhngdeiaaFlRef
set_option maxRecDepth 100000
namespace Go.Proofs.Ytbiiabfhngdeiaa
open Go.RowKit
set_option linter.unusedVariables false
set_option linter.unusedSimpArgs false
namespace Pn
open Tx Df Sq Hk Tr Pr Fl
attribute [local go_sem] eq_id

theorem sameN_ref (p q : Nm) : sameN p q = (listP p.l q.l && (decide (p.id = q.id) && (decide (p.txt = q.txt) && decide (p.deps = q.deps)))) := by
  have h : listP p.l q.l = decide (p.l = q.l) := by rw [Bool.eq_iff_iff, listP_iff, decide_eq_true_eq]
  unfold sameN
  rw [h]

set_option maxHeartbeats 4000000 in
theorem refSameN (D : Option Addr) (dn dc : Nat) (A : Option Addr) (n c : Nat) (D' : Option Addr) (dn' dc' : Nat) (A' : Option Addr) (n' c' : Nat) (p q : Nm) (w : World) (b : Bool) (hv : NV w w.heap.size D dn dc A n c p) (hv' : NV w w.heap.size D' dn' dc' A' n' c' q) (hle : n ≤ 1000) (hd : dn ≤ 100000) (hb : sameN p q = b) :
    Calls Try.prog 12 #[nmV p.id D dn dc p.txt A n c, nmV q.id D' dn' dc' q.txt A' n' c'] w (BoolEnd w b) := by
  have hbe := hb.symm.trans (sameN_ref p q)
  clear hb
  obtain ⟨⟨o1, o2⟩, ds, t, l⟩ := p
  obtain ⟨⟨v1, v2⟩, ds', t', l'⟩ := q
  dsimp only at hbe hv hv' ⊢
  have HV := Lib.hid hv; have HV' := Lib.hid hv'; have HB := Lib.hid hbe
  have B0 := Lib.hid ((Blk.new w 28 #[.int .i64 o1, .int .i64 o2, .slice D dn dc, strV t, .slice A n c]).alloc (.cells #[.int .i64 v1, .int .i64 v2, .slice D' dn' dc', strV t', .slice A' n' c'] 28))
  have b1 := Blk.new (w.alloc (.cells #[.int .i64 o1, .int .i64 o2, .slice D dn dc, strV t, .slice A n c] 28)) 28 #[.int .i64 v1, .int .i64 v2, .slice D' dn' dc', strV t', .slice A' n' c']
  simp only [World.size_alloc] at b1
  have B1 := Lib.hid b1
  have HBA := Lib.hid (two_box w (.cells #[.int .i64 o1, .int .i64 o2, .slice D dn dc, strV t, .slice A n c] 28) (.cells #[.int .i64 v1, .int .i64 v2, .slice D' dn' dc', strV t', .slice A' n' c'] 28))
  have HN := Lib.hid (show ds.length = dn from hv.dl); have HN' := Lib.hid (show ds'.length = dn' from hv'.dl)
  clear hv hv' hbe b1
  go_enter Try.func12, Try.ntmps12
  go_upto_region 1 with fail
  generalize ((w.alloc (.cells #[.int .i64 o1, .int .i64 o2, .slice D dn dc, strV t, .slice A n c] 28)).alloc (.cells #[.int .i64 v1, .int .i64 v2, .slice D' dn' dc', strV t', .slice A' n' c'] 28)) = w1 at B0 B1 HBA ⊢
  obtain ⟨z, hz⟩ : ∃ z, w.heap.size = z := ⟨_, rfl⟩
  rw [hz] at B0 B1 ⊢
  clear hz
  have x4 := B0.out.cell 4 rfl; have y4 := B1.out.cell 4 rfl
  go_wp2_with fail
  obtain ⟨bl, hbl⟩ : ∃ b, listP l l' = b := ⟨_, rfl⟩
  have hvm := HV.out.mv HBA.out
  have hvm' := HV'.out.mv HBA.out
  refine (refListL A n c A' n' c' l l' w1 bl hvm.l hvm'.l (by omega) hvm.r hvm'.r hbl).mono ?_
  rintro e w2 ⟨rfl, hb3⟩
  have HL := Lib.hid hbl
  replace HBA := Lib.hid (below_mv HBA.out hb3); replace B0 := Lib.hid (B0.out.below hb3 B0.out.lt); replace B1 := Lib.hid (B1.out.below hb3 B1.out.lt)
  clear x4 y4 hbl hvm hvm' hb3
  cases bl with
  | false =>
    go_wp2
    go_ret
    exact ⟨ret_bool (by rw [HB.out, HL.out]; simp), HBA.out⟩
  | true =>
    have x0 := B0.out.cell 0 rfl; have x1 := B0.out.cell 1 rfl; have y0 := B1.out.cell 0 rfl; have y1 := B1.out.cell 1 rfl
    by_cases h1 : o1 = v1
    · subst h1
      by_cases h2 : o2 = v2
      · subst h2
        have x3 := B0.out.cell 3 rfl; have y3 := B1.out.cell 3 rfl
        by_cases h3 : t = t'
        · subst h3
          have x2 := B0.out.cell 2 rfl; have y2 := B1.out.cell 2 rfl
          by_cases h4 : dn = dn'
          · subst h4
            replace HB := Lib.hid (show b = decide (ds = ds') by rw [HB.out, HL.out]; simp)
            clear HL
            go_wp2_with fail
            clear x0 x1 y0 y1 x3 y3 x2 y2
            have z2 := B0.out.cell 2 rfl; have y2 := B1.out.cell 2 rfl
            go_loopw [6] (fun i wr => ∃ k : Nat, k ≤ dn ∧ i = .int .i64 k ∧ ds.take k = ds'.take k ∧ ∃ d, wr = w2.drewN d) (fun i _ => dn - (intOf i).toNat)
            case atStart => exact ⟨0, Nat.zero_le _, rfl, by simp, 0, rfl⟩
            case round =>
              obtain ⟨k, hk, rfl, hall, d, rfl⟩ := hrel
              have HA := Lib.hid hall; clear hall
              by_cases hlt : k < dn
              · obtain ⟨a, x, rfl, _, hx, c0, c1⟩ := (RdI.mv HV.out.dr HBA.out).elem (k := k) (by rw [HN.out]; exact hlt)
                obtain ⟨a', y, rfl, _, hy, g0, g1⟩ := (RdI.mv HV'.out.dr HBA.out).elem (k := k) (by rw [HN'.out]; exact hlt)
                have HX := Lib.hid hx; have HY := Lib.hid hy
                clear hx hy
                obtain ⟨x1, x2⟩ := x
                obtain ⟨y1, y3⟩ := y
                dsimp only at c0 c1 g0 g1
                have hki : (k : Int) < (dn : Int) := by omega
                by_cases he : x1 = y1 ∧ x2 = y3
                · obtain ⟨rfl, rfl⟩ := he
                  have HE : Hid (ds.take (k + 1) = ds'.take (k + 1)) := Lib.hid (by rw [take_at HX.out, take_at HY.out, HA.out])
                  go_wp2
                  go_quiet (fail)
                  go_wp2
                  refine ⟨⟨k + 1, by omega, by go_num, HE.out, _, rfl⟩, by simp [intOf]; omega⟩
                · have HD : Hid (decide (ds = ds') = false) := Lib.hid (decide_eq_false (fun e => he (by
                    subst e
                    have h2 := HX.out
                    rw [HY.out] at h2
                    injection h2 with h2
                    injection h2 with h3 h4
                    exact ⟨h3.symm, h4.symm⟩)))
                  by_cases h1 : x1 = y1
                  · have h2 : (x2 == y3) = false := by rw [beq_eq_false_iff_ne]; exact fun e => he ⟨h1, e⟩
                    subst h1
                    clear he
                    go_wp2
                    go_quiet (fail)
                    go_wp2
                    go_ret
                    exact ⟨ret_bool (by rw [HB.out, HD.out]), below_drewN (below_drewN HBA.out _) _⟩
                  · have h2 : (x1 == y1) = false := by rw [beq_eq_false_iff_ne]; exact h1
                    clear he h1
                    go_wp2
                    go_quiet (fail)
                    go_wp2
                    go_ret
                    exact ⟨ret_bool (by rw [HB.out, HD.out]), below_drewN (below_drewN HBA.out _) _⟩
              · have HD : Hid (decide (ds = ds') = true) := Lib.hid (by
                  have := HA.out
                  rw [List.take_of_length_le (by rw [HN.out]; omega), List.take_of_length_le (by rw [HN'.out]; omega)] at this
                  exact decide_eq_true this)
                go_wp2
                go_ret
                exact ⟨ret_bool (by rw [HB.out, HD.out]), below_drewN HBA.out _⟩
          · have e4 : ((dn : Int) != (dn' : Int)) = true := by rw [bne_iff_ne]; omega
            have HD : Hid (decide (ds = ds') = false) := Lib.hid (decide_eq_false (fun e => h4 (by rw [← HN.out, ← HN'.out, e])))
            clear h4
            go_wp2
            go_ret
            exact ⟨ret_bool (by rw [HB.out, HD.out]; simp), HBA.out⟩
        · have e3 : (t == t') = false := by simpa using h3
          have HT := Lib.hid (decide_eq_false h3)
          clear h3
          go_wp2
          go_ret
          exact ⟨ret_bool (by rw [HB.out, HT.out]; simp), HBA.out⟩
      · have e2 : (o2 == v2) = false := by rw [beq_eq_false_iff_ne]; exact h2
        have HI : Hid (decide ((o1, o2) = (o1, v2)) = false) := Lib.hid (decide_eq_false (fun e => h2 (by injection e)))
        clear h2
        go_wp2
        go_ret
        exact ⟨ret_bool (by rw [HB.out, HI.out]; simp), HBA.out⟩
    · have e1 : (o1 == v1) = false := by rw [beq_eq_false_iff_ne]; exact h1
      have HI : Hid (decide ((o1, o2) = (v1, v2)) = false) := Lib.hid (decide_eq_false (fun e => h1 (by injection e)))
      clear h1
      go_wp2
      go_ret
      exact ⟨ret_bool (by rw [HB.out, HI.out]; simp), HBA.out⟩

end Pn
end Go.Proofs.Ytbiiabfhngdeiaa
