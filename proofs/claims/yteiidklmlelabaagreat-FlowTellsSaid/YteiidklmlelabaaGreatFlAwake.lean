/-
  The chapter's example of layer 10 (walk).
-/
import Derived.Test.YteiidklmlelabaaGreatFlPass
import Derived.Test.YteiidklmlelabaaGreatFlTurn
import Derived.Test.YteiidklmlelabaaGreatFlLeaf
import Derived.Test.YteiidklmlelabaaGreatPsLaw
set_option maxRecDepth 100000
namespace Go.Proofs.YteiidklmlelabaaGreat
open Go.RowKit
set_option linter.unusedVariables false
set_option linter.unusedSimpArgs false
namespace Fl
open Tx Df Sq Hk Tr Pr

def exP : Ch := ⟨0, [97], [], ⟨0, [], []⟩⟩
def exQ : Ch := ⟨0, [98], [], ⟨0, [], []⟩⟩
def exR : Ch := ⟨1, [97], [], ⟨0, [], []⟩⟩
theorem ex_pass : passP exP exQ = some (exQ, exP) := passP_apart (by decide) (by decide) (apartP_iff.1 (by decide))
theorem ex_no : passP exP exR = none := passP_never rfl (.inl ⟨by decide, by decide⟩)
theorem ex_passF : passF [exP] [exQ] = some ([exQ], [exP]) := passL_cons passP (one_cons passP (a := []) (a1 := []) rfl ex_pass) (passL_nil passP _)
theorem ex_noF : passF [exP] [exR] = none := by
  show passL passP [exP] [exR] = none
  rw [passL, one, one, Option.bind_some, ex_no]
  rfl
theorem ex_do : doF [] [exP, exQ] = (0, [([97], []), ([98], [])]) := by decide
theorem ex_lt (x : Ch) (h : lightP x = true) : Lt [x] := fun y hy => by simp at hy; rw [hy]; exact h

/-- One change in a block of its own is read as a list. -/
theorem rdP_one {W : World} {S : Nat → Prop} {b : Nat} {A B : Option Addr} {n c m d : Nat} {x : Ch} (h : Blk W b 40 #[.int .i64 x.k, strV x.nm, strV x.to, .int .i64 x.h.pos, .slice A n c, .slice B m d]) (hp : PG W S A n c B m d x) (hS : S b) : RdP W S (some ⟨b, 0, none⟩) [x] :=
  .inr ⟨_, rfl, hS, fun k y hy => by
    cases k with
    | zero =>
      injection hy with hy
      subst hy
      have e : (⟨b, 0, none⟩ : Addr).add (0 * 6) = ⟨b, 0, none⟩ := rfl
      exact ⟨by rw [e]; exact h.cell 0 rfl, by rw [e]; exact h.cell 1 rfl, by rw [e]; exact h.cell 2 rfl, by rw [e]; exact h.cell 3 rfl, A, n, c, B, m, d, by rw [e]; exact h.cell 4 rfl, by rw [e]; exact h.cell 5 rfl, hp⟩
    | succ k => simp at hy⟩
theorem pg_one (W : World) (k : Int) (nm to : List UInt8) (hk : 0 ≤ k ∧ k ≤ 4) (hn : nm.length ≤ 5) (ht : to.length ≤ 5) : PG W (· < W.heap.size) none 0 0 none 0 0 ⟨k, nm, to, ⟨0, [], []⟩⟩ := pg_of (PsAwake.pv_one W k nm to hk hn ht)

set_option maxRecDepth 100000 in
set_option maxHeartbeats 4000000 in
theorem awake (w : World) : Calls Tryz.prog 4 #[] w (BoolEnd w true) := by
  go_enter Tryz.func4, Tryz.ntmps4
  go_upto_region 3 with fail
  have b0 := (Blk.new w 40 #[.int .i64 0, strV [97], strV [], .int .i64 0, .slice none 0 0, .slice none 0 0]).alloc (.cells #[.int .i64 0, strV [98], strV [], .int .i64 0, .slice none 0 0, .slice none 0 0] 40)
  have b1 := Blk.new (w.alloc (.cells #[.int .i64 0, strV [97], strV [], .int .i64 0, .slice none 0 0, .slice none 0 0] 40)) 40 #[.int .i64 0, strV [98], strV [], .int .i64 0, .slice none 0 0, .slice none 0 0]
  have hb := two_box w (.cells #[.int .i64 0, strV [97], strV [], .int .i64 0, .slice none 0 0, .slice none 0 0] 40) (.cells #[.int .i64 0, strV [98], strV [], .int .i64 0, .slice none 0 0, .slice none 0 0] 40)
  simp only [World.size_alloc] at b1
  generalize ((w.alloc (.cells #[.int .i64 0, strV [97], strV [], .int .i64 0, .slice none 0 0, .slice none 0 0] 40)).alloc (.cells #[.int .i64 0, strV [98], strV [], .int .i64 0, .slice none 0 0, .slice none 0 0] 40)) = w1 at b0 b1 hb ⊢
  obtain ⟨z, hz⟩ : ∃ z, w.heap.size = z := ⟨_, rfl⟩
  rw [hz] at b0 b1 ⊢
  have RP : Hid (RdP w1 (· < w1.heap.size) (some ⟨z, 0, none⟩) [exP]) := Lib.hid (rdP_one b0 (pg_one w1 0 [97] [] (by decide) (by decide) (by decide)) b0.lt)
  have RQ : Hid (RdP w1 (· < w1.heap.size) (some ⟨z + 1, 0, none⟩) [exQ]) := Lib.hid (rdP_one b1 (pg_one w1 0 [98] [] (by decide) (by decide) (by decide)) b1.lt)
  have HB := Lib.hid hb
  clear b0 b1 hb hz
  go_wp2_with (at_builtin; first
    | (refine wpList_ownPL rfl (.const (.slice none 0 0)) (.tmp 16) rfl w1.heap.size w1.heap.size 1 1 (.slice none 0 0) (some ⟨z, 0, none⟩) [] [exP] rfl rfl (ownP_nil _ _) RP.out (Nat.le_refl _) rfl (by decide) (Nat.le_refl _) ?_; intro v w2 ho hg; have hb2 : Below w1.heap.size w1 w2 := (Below.refl _ _).grown hg (Nat.le_refl _) (fun k e => by cases e); have HO := Lib.hid ho; have HB2 := Lib.hid hb2; clear ho hg hb2)
    | (refine wpList_ownPL rfl (.tmp 17) (.tmp 18) rfl w1.heap.size w1.heap.size 1 1 v (some ⟨z + 1, 0, none⟩) [exP] [exQ] rfl rfl HO.out (RQ.out.below HB2.out) (Nat.le_refl _) rfl (by decide) HB2.out.size ?_; intro v3 w3 ho hg; have hb3 : Below w1.heap.size w1 w3 := HB2.out.grown hg HB2.out.size (fun k e => ownP_ge HO.out k e); have HO3 := Lib.hid ho; have HB3 := Lib.hid hb3; clear ho hg hb3 HO HB2; obtain ⟨A3, c3, rfl, hc3, hr3, _⟩ := rdP_own HO3.out; have HR3 := Lib.hid hr3; clear hr3))
  replace RP := Lib.hid ((RP.out.below HB3.out).mono fun b hb => Nat.lt_of_lt_of_le hb HB3.out.size); replace RQ := Lib.hid ((RQ.out.below HB3.out).mono fun b hb => Nat.lt_of_lt_of_le hb HB3.out.size); replace HB := Lib.hid (below_mv HB.out HB3.out)
  clear HB3 HO3
  refine (ApplyL 10 10 none 0 0 A3 2 c3 [] [exP, exQ] w3 _ ⟨⟨by decide, fun x hx => by cases hx⟩, by decide, fun x hx => by cases hx⟩ (by decide) (by decide) rfl rfl (fun x hx => by simp at hx; rcases hx with rfl | rfl <;> decide) (.inl rfl) HR3.out ex_do).mono ?_
  rintro e w4 ⟨B4, k4, d4, rfl, _, hk4, _, hb⟩
  obtain rfl : 2 = k4 := hk4
  replace RP := Lib.hid (RP.out.mv hb); replace RQ := Lib.hid (RQ.out.mv hb); replace HB := Lib.hid (below_mv HB.out hb)
  clear hb hc3 HR3
  go_wp2_with fail
  refine (PassL (some ⟨z, 0, none⟩) 1 1 (some ⟨z + 1, 0, none⟩) 1 1 [exP] [exQ] [exQ] [exP] w4 true rfl rfl (by decide) (by decide) (ex_lt _ (by decide)) (ex_lt _ (by decide)) RP.out RQ.out (outF_some ex_passF) (by rw [ex_passF]; rfl)).mono ?_
  rintro e w5 ⟨A5, c5, B5, d5, rfl, hx, hy, hb⟩
  have RX := Lib.hid hx; have RY := Lib.hid hy
  replace RP := Lib.hid (RP.out.mv hb); replace RQ := Lib.hid (RQ.out.mv hb); replace HB := Lib.hid (below_mv HB.out hb)
  clear hb hx hy
  go_wp2_with fail
  have hb : Below w5.heap.size w5 (w5.alloc (.cells #[.int .i64 1, strV [97], strV [], .int .i64 0, .slice none 0 0, .slice none 0 0] 40)) := (Below.refl _ _).alloc (Nat.le_refl _) _
  have b2 := Blk.new w5 40 #[.int .i64 1, strV [97], strV [], .int .i64 0, .slice none 0 0, .slice none 0 0]
  generalize (w5.alloc (.cells #[.int .i64 1, strV [97], strV [], .int .i64 0, .slice none 0 0, .slice none 0 0] 40)) = w6 at hb b2 ⊢
  replace RP := Lib.hid (RP.out.mv hb); replace RQ := Lib.hid (RQ.out.mv hb); replace RX := Lib.hid (RX.out.mv hb); replace RY := Lib.hid (RY.out.mv hb); replace HB := Lib.hid (below_mv HB.out hb)
  have RR : Hid (RdP w6 (· < w6.heap.size) (some ⟨w5.heap.size, 0, none⟩) [exR]) := Lib.hid (rdP_one b2 (pg_one w6 1 [97] [] (by decide) (by decide) (by decide)) b2.lt)
  clear hb b2
  refine (PassL (some ⟨z, 0, none⟩) 1 1 (some ⟨w5.heap.size, 0, none⟩) 1 1 [exP] [exR] [] [] w6 false rfl rfl (by decide) (by decide) (ex_lt _ (by decide)) (ex_lt _ (by decide)) RP.out RR.out (by rw [ex_noF]; rfl) (by rw [ex_noF]; rfl)).mono ?_
  rintro e w7 ⟨A7, c7, B7, d7, rfl, _, _, hb⟩
  replace RP := Lib.hid (RP.out.mv hb); replace RQ := Lib.hid (RQ.out.mv hb); replace RX := Lib.hid (RX.out.mv hb); replace RY := Lib.hid (RY.out.mv hb); replace HB := Lib.hid (below_mv HB.out hb)
  clear hb RR
  go_wp2_with fail
  refine (SameL A5 1 c5 (some ⟨z + 1, 0, none⟩) 1 1 [exQ] [exQ] w7 true rfl rfl (by decide) RX.out RQ.out (by decide)).mono ?_
  rintro e w8 ⟨rfl, hb⟩
  replace RP := Lib.hid (RP.out.mv hb); replace RQ := Lib.hid (RQ.out.mv hb); replace RX := Lib.hid (RX.out.mv hb); replace RY := Lib.hid (RY.out.mv hb); replace HB := Lib.hid (below_mv HB.out hb)
  clear hb
  go_wp2_with fail
  refine (SameL B5 1 d5 (some ⟨z, 0, none⟩) 1 1 [exP] [exP] w8 true rfl rfl (by decide) RY.out RP.out (by decide)).mono ?_
  rintro e w9 ⟨rfl, hb⟩
  replace RP := Lib.hid (RP.out.mv hb); replace RX := Lib.hid (RX.out.mv hb); replace HB := Lib.hid (below_mv HB.out hb)
  clear hb
  go_wp2_with fail
  refine (MayL (some ⟨z, 0, none⟩) 1 1 [exP] w9 true rfl (by decide) RP.out (by decide)).mono ?_
  rintro e w10 ⟨rfl, hb⟩
  replace RX := Lib.hid (RX.out.mv hb); replace HB := Lib.hid (below_mv HB.out hb)
  clear hb
  go_wp2_with fail
  refine (TurnL A5 1 c5 [exQ] w10 rfl (by decide) (ex_lt _ (by decide)) RX.out).mono ?_
  rintro e w11 ⟨A11, c11, rfl, _, _, hb⟩
  replace HB := Lib.hid (below_mv HB.out hb)
  clear hb
  have hl : (turnF [exQ]).length = 1 := rfl
  rw [hl]
  go_wp2
  go_ret
  exact ⟨rfl, HB.out⟩

end Fl
end Go.Proofs.YteiidklmlelabaaGreat
