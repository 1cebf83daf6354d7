/-
  The chapter's example of layer 13, and whether files are short (walks).
-/
import Derived.Test.YtjhjmfodpnipiaaNwOf
import Derived.Test.YtjhjmfodpnipiaaFlRef
import Derived.Test.YtjhjmfodpnipiaaGU
set_option maxRecDepth 100000
namespace Go.Proofs.Ytjhjmfodpnipiaa
open Go.RowKit
set_option linter.unusedVariables false
set_option linter.unusedSimpArgs false
namespace Nw
open Tx Df Sq Hk Tr Pr Fl

abbrev exT : TR := [([97], [[120]])]
abbrev exU : TR := [([98], [[121]])]
theorem ex_news : newsP exT exU = (0, [patchP [97] ⟨0, [[120]], []⟩, rmP [97], addP [98], patchP [98] ⟨0, [], [[121]]⟩]) := by decide +kernel
theorem ex_smallT : Small exT := ⟨by simp, fun x hx => by simp at hx; subst hx; exact ⟨by simp, by simp, fun l hl => by simp at hl; subst hl; simp⟩⟩
theorem ex_smallU : Small exU := ⟨by simp, fun x hx => by simp at hx; subst hx; exact ⟨by simp, by simp, fun l hl => by simp at hl; subst hl; simp⟩⟩
theorem ex_few (nm : List UInt8) (l : List UInt8) : Few60 [(nm, [l])] := fun f hf => by simp at hf; subst hf; simp
/-- One file of one line. -/
theorem rdT_one {W : World} {b d : Nat} {nm l : List UInt8} (h : Blk W b 43 #[strV nm, .slice (some ⟨d, 0, none⟩) 1 1]) (h' : Blk W d 9 #[strV l]) : RdT W W.heap.size (some ⟨b, 0, none⟩) [(nm, [l])] :=
  .inr ⟨_, rfl, h.lt, fun k y hy => by
    cases k with
    | zero =>
      injection hy with hy
      subst hy
      have e : (⟨b, 0, none⟩ : Addr).add (0 * 2) = ⟨b, 0, none⟩ := rfl
      refine ⟨by rw [e]; exact h.cell 0 rfl, _, 1, by rw [e]; exact h.cell 1 rfl, Nat.le_refl _, .inr ⟨_, rfl, h'.lt, fun j u hu => ?_⟩⟩
      cases j with
      | zero =>
        injection hu with hu
        subst hu
        rw [add_zero']
        exact h'.cell 0 rfl
      | succ j => simp at hu
    | succ k => simp at hy⟩

set_option maxRecDepth 100000 in
set_option maxHeartbeats 4000000 in
theorem awake (w : World) : Calls Try.prog 6 #[] w (Tr.BoolEnd w true) := by
  go_enter Try.func6, Try.ntmps6
  go_wp2_with fail
  have bf : ∀ (W : World) (o : Obj), Below W.heap.size W (W.alloc o) := fun W o => (Below.refl _ _).alloc (Nat.le_refl _) _
  have k1 := Blk.new (w.alloc (.cells #[strV [120]] 9)) 43 #[strV [97], .slice (some ⟨w.heap.size, 0, none⟩) 1 1]
  have k2 := Blk.new ((w.alloc (.cells #[strV [120]] 9)).alloc (.cells #[strV [97], .slice (some ⟨w.heap.size, 0, none⟩) 1 1] 43)) 9 #[strV [121]]
  have k3 := Blk.new (((w.alloc (.cells #[strV [120]] 9)).alloc (.cells #[strV [97], .slice (some ⟨w.heap.size, 0, none⟩) 1 1] 43)).alloc (.cells #[strV [121]] 9)) 43 #[strV [98], .slice (some ⟨w.heap.size + 1 + 1, 0, none⟩) 1 1]
  rw [World.size_alloc] at k1
  rw [World.size_alloc, World.size_alloc] at k2
  rw [World.size_alloc, World.size_alloc, World.size_alloc] at k3
  have h1 := ((rdT_one k1 ((Blk.new w 9 #[strV [120]]).below (bf _ _) (by simp))).mv (bf _ (.cells #[strV [121]] 9))).mv (bf _ (.cells #[strV [98], .slice (some ⟨w.heap.size + 1 + 1, 0, none⟩) 1 1] 43))
  have h2 := rdT_one k3 (k2.below (bf _ _) k2.lt)
  clear k1 k2 k3
  have hb : Below w.heap.size w ((((w.alloc (.cells #[strV [120]] 9)).alloc (.cells #[strV [97], .slice (some ⟨w.heap.size, 0, none⟩) 1 1] 43)).alloc (.cells #[strV [121]] 9)).alloc (.cells #[strV [98], .slice (some ⟨w.heap.size + 1 + 1, 0, none⟩) 1 1] 43)) := (((bf w _).trans ((bf _ _).mono (by simp))).trans ((bf _ _).mono (by simp; omega))).trans ((bf _ _).mono (by simp; omega))
  have HB := Lib.hid hb
  have h3 := Of _ _ 1 1 1 1 exT exU _ rfl rfl ex_smallT ex_smallU (by decide) (by decide) (ex_few _ _) (ex_few _ _) h1 h2
  rw [ex_news] at h3
  clear h1 h2 hb bf
  refine h3.mono ?_
  rintro e w2 ⟨A, n, c, rfl, hc, hn, hr, hb2⟩
  have HB2 := Lib.hid (below_mv HB.out hb2)
  obtain rfl : 4 = n := hn
  obtain ⟨a, rfl, _, h0⟩ := hr.at_ (k := 0) (by decide)
  obtain ⟨a1, e1, _, h1⟩ := hr.at_ (k := 1) (by decide)
  obtain ⟨a2, e2, _, h2⟩ := hr.at_ (k := 2) (by decide)
  obtain ⟨a3, e4, _, h4⟩ := hr.at_ (k := 3) (by decide)
  injection e1 with e1
  injection e2 with e2
  injection e4 with e4
  subst e1 e2 e4
  have x0 : w2.cell? a = some (.int .i64 3) := by have := h0.c0; rw [Nat.zero_mul, add_zero'] at this; exact this
  have x1 : w2.cell? ⟨a.block, a.off + 6, none⟩ = some (.int .i64 1) := h1.c0
  have x2 : w2.cell? ⟨a.block, a.off + 12, none⟩ = some (.int .i64 0) := h2.c0
  obtain ⟨E, p, q, D, m, d, _, y5, y6⟩ := h4.c4
  obtain rfl : 1 = m := y6.l'
  obtain ⟨g, rfl, _, y7⟩ : ∃ g, D = some g ∧ True ∧ w2.cell? (g.add 0) = some (strV [121]) := by
    rcases y6.r' with h | ⟨g, e, _, hc⟩
    · cases h
    · exact ⟨g, e, trivial, hc 0 _ rfl⟩
  rw [add_zero'] at y7
  have hd := y6.k'
  have x3 : w2.cell? ⟨a.block, a.off + 23, none⟩ = some (.slice (some g) 1 d) := y5
  have x4 : w2.cell? ⟨a.block, a.off + 18 + 5, none⟩ = some (.slice (some g) 1 d) := y5
  have x5 : w2.cell? ⟨a.block, a.off + 18 + 3 + 2, none⟩ = some (.slice (some g) 1 d) := y5
  clear h0 h1 h2 h4 y5 y6 hr hb2 HB h3
  go_wp2
  go_ret
  exact ⟨rfl, HB2.out⟩

/-- Light, and of files of at most 60 lines. -/
def shortT (t : TR) : Bool := lightT t && t.all fun f => decide (f.2.length ≤ 60)
theorem shortT_few {t : TR} (h : shortT t = true) : lightT t = true ∧ ∀ f ∈ t, f.2.length ≤ 60 := by
  unfold shortT at h
  rw [Bool.and_eq_true, List.all_eq_true] at h
  exact ⟨h.1, fun f hf => by have := h.2 f hf; simpa using this⟩
theorem shortT_60 {t : TR} (h : shortT t = true) : Few60 t := fun f hf => Nat.le_trans ((shortT_few h).2 f hf) (by decide)

set_option maxRecDepth 100000 in
set_option maxHeartbeats 2000000 in
theorem ShortT (A : Option Addr) (n c : Nat) (t : TR) (w : World) (b : Bool) (h : TreeArg w A n c t) (hb : shortT t = b) :
    Calls Try.prog 7 #[.slice A n c] w (Tr.BoolEnd w b) := by
  have HT := Lib.hid h.rd; have HN := Lib.hid h.len; have HF := Lib.hid h.fit; have HC := Lib.hid h.le; have HB := Lib.hid hb.symm
  clear h hb
  go_enter Try.func7, Try.ntmps7
  go_wp2_with fail
  refine (LightT A c n _ t _ HN.out HC.out HF.out HT.out).mono ?_
  rintro e w1 ⟨rfl, rfl⟩
  cases hl : lightT t with
  | false =>
    have HE : Hid (b = false) := Lib.hid (by rw [HB.out]; unfold shortT; rw [hl]; rfl)
    clear hl
    go_wp2
    go_ret
    exact ⟨by rw [HE.out]; rfl, Below.refl _ _⟩
  | true =>
    have hle : n ≤ 40 := by rw [← HN.out]; exact (lightT_small hl).1
    have HS := Lib.hid (lightT_small hl).2
    have HL := Lib.hid hl
    clear hl HC HF
    go_wp2_with fail
    go_loopw [4] (fun i wr => ∃ k : Nat, k ≤ n ∧ i = .int .i64 (k : Int) ∧ wr = w ∧ ((t.take k).all fun f => decide (f.2.length ≤ 60)) = true) (fun i _ => n - (intOf i).toNat)
    case atStart => exact ⟨0, Nat.zero_le _, rfl, rfl, rfl⟩
    case round =>
      obtain ⟨k, hk, rfl, rfl, hall⟩ := hrel
      have HA := Lib.hid hall; clear hall
      by_cases hlt : k < n
      · have hkl : k < t.length := by rw [HN.out]; exact hlt
        have hki : (k : Int) < (n : Int) := by omega
        have hki0 : (0 : Int) ≤ (k : Int) := by omega
        obtain ⟨a, rfl, _, hat⟩ := HT.out.at_ hkl
        obtain ⟨c0, D, d, c1, hd, _⟩ := hat
        have hx := List.getElem?_eq_getElem hkl
        have hsm := (HS.out.all _ (List.getElem_mem hkl)).l
        generalize t[k] = x at *
        obtain ⟨m, hm⟩ : ∃ m, x.2.length = m := ⟨_, rfl⟩
        rw [hm] at c1 hd hsm
        have HX := Lib.hid hx; have HM := Lib.hid hm
        clear c0 hd hx hm
        by_cases h60 : 60 < m
        · have HE : Hid (b = false) := Lib.hid (by
            rw [HB.out]; unfold shortT
            have : (t.all fun f => decide (f.2.length ≤ 60)) = false := by
              rw [List.all_eq_false]
              exact ⟨x, List.mem_of_getElem? HX.out, by rw [HM.out]; simp; omega⟩
            rw [this, Bool.and_false])
          go_wp2
          go_ret
          exact ⟨by rw [HE.out]; rfl, Below.refl _ _⟩
        · go_wp2
          go_roundw
          case rel =>
            refine ⟨k + 1, by omega, by go_num, (by first | trivial | rfl), ?_⟩
            rw [List.take_add_one, HX.out, List.all_append, HA.out]
            simp [HM.out]; omega
          case measure => simp [intOf]; omega
      · obtain rfl : k = n := by omega
        have HE : Hid (b = true) := Lib.hid (by
          have ha := HA.out
          rw [List.take_of_length_le (by rw [HN.out]; exact Nat.le_refl _)] at ha
          rw [HB.out]; unfold shortT; rw [HL.out, ha]; rfl)
        go_wp2
        go_ret
        exact ⟨by rw [HE.out]; rfl, Below.refl _ _⟩

end Nw
end Go.Proofs.Ytjhjmfodpnipiaa
