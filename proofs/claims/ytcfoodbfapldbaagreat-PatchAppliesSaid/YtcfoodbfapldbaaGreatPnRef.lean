/-
  What the document's own All, Apply and Find of patches return (walks).
-/
import Derived.Test.YtcfoodbfapldbaaGreatPnLeaf
import Derived.Test.YtcfoodbfapldbaaGreatFlRef2
import Derived.Test.YtcfoodbfapldbaaGreatPnAll
set_option maxRecDepth 100000
namespace Go.Proofs.YtcfoodbfapldbaaGreat
open Go.RowKit
set_option linter.unusedVariables false
set_option linter.unusedSimpArgs false
namespace Pn
open Tx Df Sq Hk Tr Pr Fl
attribute [local go_sem] eq_id

set_option maxHeartbeats 2000000 in
theorem refAllN (A : Option Addr) (n c : Nat) (l : List Nm) (w : World) (hn : l.length = n) (hle : n ≤ 100000) (hT : (allN l).length ≤ 1000) (hR : RdN w w.heap.size A l) :
    Calls Tryz.prog 12 #[.slice A n c] w (LPEnd w (allN l)) := by
  have HR := Lib.hid hR; have HN := Lib.hid hn; have HT := Lib.hid hT
  clear hR hn hT
  go_enter Tryz.func12, Tryz.ntmps12
  go_wp2
  go_loopw [3, 4] (fun v3 i wr => ∃ (k : Nat) (A3 : Option Addr) (m3 f3 : Nat), k ≤ n ∧ i = .int .i64 (k : Int) ∧ v3 = .slice A3 m3 f3 ∧ OwnP wr w.heap.size (.slice A3 m3 f3) (allN (l.take k)) ∧ Below w.heap.size w wr) (fun _ i _ => n - (intOf i).toNat)
  case atStart => exact ⟨0, none, 0, 0, Nat.zero_le _, rfl, rfl, ownP_nil _ _, Below.refl _ _⟩
  case round =>
    obtain ⟨k, A3, m3, f3, hk, rfl, rfl, hO, hbw⟩ := hrel
    have HBW := Lib.hid hbw; have HO := Lib.hid hO; clear hbw hO
    by_cases hlt : k < n
    · have hki : (k : Int) < (n : Int) := by omega
      obtain ⟨a, x, D, i, j, E, m, d, rfl, hS, hx, c0, c1, c2, c3, c4, c5⟩ := ((HR.out.below HBW.out).elem (k := k) (by rw [HN.out]; exact hlt))
      have HX := Lib.hid hx
      have HXL := Lib.hid c5.l
      have HXR := Lib.hid c5.r
      have hln := allN_pre (j := x.l.length) hx HT.out
      rw [List.take_length, List.length_append, c5.l] at hln
      have HLN := Lib.hid hln
      clear hx c5 hS hln
      go_wp2_with (at_builtin; refine wpList_ownPL rfl (.tmp 11) (.tmp 16) rfl w.heap.size w.heap.size m d (.slice A3 m3 f3) E (allN (l.take k)) x.l rfl rfl HO.out HXR.out (Nat.le_refl _) HXL.out (by have := HLN.out; omega) HBW.out.size ?_; intro v' W' ho hg)
      obtain ⟨A9, c9, rfl, _⟩ := rdP_own ho
      refine ⟨⟨k + 1, A9, _, c9, by omega, by go_num, rfl, by rw [allN_next HX.out]; exact ho, HBW.out.grown hg HBW.out.size (fun g e => ownP_ge HO.out g e)⟩, by simp [intOf]; omega⟩
    · go_wp2
      go_ret
      have e : l.take k = l := List.take_of_length_le (by rw [HN.out]; omega)
      have ho := HO.out
      rw [e] at ho
      exact lpEnd_own ho HBW.out

set_option maxHeartbeats 1000000 in
theorem refApplyN (K L : Nat) (A0 : Option Addr) (n0 c0 : Nat) (A : Option Addr) (n c : Nat) (t : TR) (l : List Nm) (w : World) (R : Int × TR) (ht : Most t K L) (hK : K ≤ 20000) (hL : L ≤ 2000) (hn0 : t.length = n0) (hc0 : n0 ≤ c0) (hn : l.length = n) (hle : n ≤ 1000) (hT : (allN l).length ≤ 150) (hl : Lt (allN l)) (hR0 : RdT w w.heap.size A0 t) (hR : RdN w w.heap.size A l) (hD : doN t l = R) :
    Calls Tryz.prog 8 #[.slice A0 n0 c0, .slice A n c] w (DoEnd w R) := by
  have HR := Lib.hid hR; have HN := Lib.hid hn; have HL := Lib.hid hl; have HT := Lib.hid hT; have HM := Lib.hid ht; have HR0 := Lib.hid hR0; have HN0 := Lib.hid hn0; have HD := Lib.hid hD; have HC0 := Lib.hid hc0
  clear hR hn hl hT ht hR0 hn0 hD hc0
  go_enter Tryz.func8, Tryz.ntmps8
  go_wp2_with fail
  refine (refAllN A n c l w HN.out (by omega) (by have := HT.out; omega) HR.out).mono ?_
  rintro e w1 ⟨A1, c1, rfl, hc1, hr1, hb1⟩
  obtain ⟨m, hm⟩ : ∃ m, (allN l).length = m := ⟨_, rfl⟩
  rw [hm] at hc1 ⊢
  have HR1 := Lib.hid hr1; have HB1 := Lib.hid hb1; have HMM := Lib.hid hm
  clear hc1 hr1 hb1 hm
  go_wp2_with fail
  refine (refApplyLK K L A0 n0 c0 A1 m c1 t (allN l) w1 R HM.out (by have := HT.out; have := HMM.out; omega) (by have := HT.out; have := HMM.out; omega) HN0.out HC0.out HMM.out HL.out (HR0.out.mv HB1.out) HR1.out HD.out).mono ?_
  rintro e w2 ⟨B, k, d, rfl, h1, h2, h3, h4⟩
  have H1 := Lib.hid h1; have H2 := Lib.hid h2; have H3 := Lib.hid h3; have HB := Lib.hid (below_mv HB1.out h4)
  clear h1 h2 h3 h4
  go_wp2
  go_ret2
  exact ⟨B, k, d, rfl, H1.out, H2.out, H3.out, HB.out⟩

set_option maxHeartbeats 1000000 in
theorem refFindN (id : Id_) (A : Option Addr) (n c : Nat) (l : List Nm) (w : World) (hn : l.length = n) (hln : n ≤ 1000000) (hR : RdN w w.heap.size A l) :
    Calls Tryz.prog 14 #[.slice A n c, .agg #[.int .i64 id.1, .int .i64 id.2]] w (IntEnd w (findN l id)) := by
  have HN := Lib.hid hn; have HR := Lib.hid hR
  clear hn hR
  obtain ⟨iv, hiv⟩ : ∃ iv, findN l id = iv := ⟨_, rfl⟩
  rw [hiv]
  have HIV := Lib.hid hiv; clear hiv
  have b0 := Blk.new w 26 #[.int .i64 id.1, .int .i64 id.2]
  have hba : Below w.heap.size w (w.alloc (.cells #[.int .i64 id.1, .int .i64 id.2] 26)) := (Below.refl _ _).alloc (Nat.le_refl _) _
  have HB0 := Lib.hid b0; have HBA := Lib.hid hba
  clear b0 hba
  go_enter Tryz.func14, Tryz.ntmps14
  go_wp2_with fail
  obtain ⟨z, hz⟩ : ∃ z, w.heap.size = z := ⟨_, rfl⟩
  have HZ := Lib.hid hz
  rw [hz] at HB0 ⊢
  clear hz
  generalize (w.alloc (.cells #[.int .i64 id.1, .int .i64 id.2] 26)) = w1 at HB0 HBA ⊢
  go_loopw [5] (fun i wr => ∃ k : Nat, k ≤ n ∧ i = .int .i64 (k : Int) ∧ (∀ (j : Nat) (y : Nm), l[j]? = some y → j < k → y.id ≠ id) ∧ ∃ d, wr = w1.drewN d) (fun i _ => n - (intOf i).toNat)
  case atStart => exact ⟨0, Nat.zero_le _, rfl, fun j _ _ hj => by omega, 0, rfl⟩
  case round =>
    obtain ⟨k, hk, rfl, hall, d, rfl⟩ := hrel
    have HA := Lib.hid hall; clear hall
    by_cases hlt : k < n
    · have hki : (k : Int) < (n : Int) := by omega
      obtain ⟨a, x, D, i, j, E, m, e1, rfl, hS, hx, c0, c1, c2, c3, c4, c5⟩ := ((HR.out.mv HBA.out).elem (k := k) (by rw [HN.out]; exact hlt))
      have HX := Lib.hid hx
      have z0 := HB0.out.cell 0 rfl; have z1 := HB0.out.cell 1 rfl
      clear hx c5 hS c2 c3 c4
      obtain ⟨⟨x1, x2⟩, ds, tx, lx⟩ := x
      obtain ⟨y1, y2⟩ := id
      dsimp only at c0 c1 z0 z1
      by_cases h1 : x1 = y1
      · by_cases h2 : x2 = y2
        · subst h1 h2
          have HE : Hid (iv = (k : Int)) := Lib.hid (by rw [← HIV.out]; exact findN_at HX.out rfl HA.out)
          go_wp2
          go_quiet (fail)
          go_wp2
          go_ret
          exact ⟨by rw [HE.out]; rfl, below_drewN (below_drewN HBA.out _) _⟩
        · have e2 : (x2 == y2) = false := by rw [beq_eq_false_iff_ne]; exact h2
          have HNE : Hid (∀ (j : Nat) (y : Nm), l[j]? = some y → j < k + 1 → y.id ≠ (y1, y2)) := Lib.hid (fun j y hy hj => by
            by_cases e : j = k
            · subst e
              have h3 := HX.out
              rw [h3] at hy
              injection hy with hy
              subst hy
              exact fun e => h2 (by injection e)
            · exact HA.out j y hy (by omega))
          subst h1
          clear h2
          go_wp2
          go_quiet (fail)
          go_wp2
          refine ⟨⟨k + 1, by omega, by go_num, HNE.out, _, rfl⟩, by simp [intOf]; omega⟩
      · have e2 : (x1 == y1) = false := by rw [beq_eq_false_iff_ne]; exact h1
        have HNE : Hid (∀ (j : Nat) (y : Nm), l[j]? = some y → j < k + 1 → y.id ≠ (y1, y2)) := Lib.hid (fun j y hy hj => by
          by_cases e : j = k
          · subst e
            have h3 := HX.out
            rw [h3] at hy
            injection hy with hy
            subst hy
            exact fun e => h1 (by injection e)
          · exact HA.out j y hy (by omega))
        clear h1
        go_wp2
        go_quiet (fail)
        go_wp2
        refine ⟨⟨k + 1, by omega, by go_num, HNE.out, _, rfl⟩, by simp [intOf]; omega⟩
    · have HE : Hid (iv = -1) := Lib.hid (by
        rw [← HIV.out]
        exact findN_no fun j y hy => HA.out j y hy (by have := (List.getElem?_eq_some_iff.1 hy).1; have := HN.out; omega))
      go_wp2
      go_ret
      exact ⟨by rw [HE.out]; rfl, below_drewN HBA.out _⟩

end Pn
end Go.Proofs.YtcfoodbfapldbaaGreat
