/-
  The chapter's example of layer 14 (walk).
-/
import Derived.Test.YtcfoodbfapldbaaPnSame
import Derived.Test.YtcfoodbfapldbaaPnApply
set_option maxRecDepth 100000
namespace Go.Proofs.Ytcfoodbfapldbaa
open Go.RowKit
set_option linter.unusedVariables false
set_option linter.unusedSimpArgs false
namespace Pn
open Tx Df Sq Hk Tr Pr Fl

def exA : Ch := ⟨0, [97], [], ⟨0, [], []⟩⟩
def exN : Nm := ⟨(0, 1), [], [], [exA]⟩
theorem ex_may : mayN exN = true := by decide
theorem ex_do : doN [] [exN] = (0, [([97], [])]) := by decide
theorem ex_find : findN [exN] (0, 1) = 0 := by decide
theorem ex_less : lessI (0, 1) (0, 2) = true := by decide
theorem ex_lt : Lt (allN [exN]) := fun x hx => by
  have : x = exA := by simpa [allN, exN] using hx
  rw [this]
  decide

/-- One change in a block of its own is read as a list. -/
theorem rdP_lone {W : World} {S : Nat → Prop} {b : Nat} {A B : Option Addr} {n c m d : Nat} {x : Ch} (h : Blk W b 54 #[.int .i64 x.k, strV x.nm, strV x.to, .int .i64 x.h.pos, .slice A n c, .slice B m d]) (hp : PG W S A n c B m d x) (hS : S b) : RdP W S (some ⟨b, 0, none⟩) [x] :=
  .inr ⟨_, rfl, hS, fun k y hy => by
    cases k with
    | zero =>
      injection hy with hy
      subst hy
      have e : (⟨b, 0, none⟩ : Addr).add (0 * 6) = ⟨b, 0, none⟩ := rfl
      exact ⟨by rw [e]; exact h.cell 0 rfl, by rw [e]; exact h.cell 1 rfl, by rw [e]; exact h.cell 2 rfl, by rw [e]; exact h.cell 3 rfl, A, n, c, B, m, d, by rw [e]; exact h.cell 4 rfl, by rw [e]; exact h.cell 5 rfl, hp⟩
    | succ k => simp at hy⟩
/-- One patch in a block of its own is read as a list. -/
theorem rdN_lone {W : World} {N b : Nat} {D A : Option Addr} {dn dc n c : Nat} {x : Nm} (h : Blk W b 27 #[.int .i64 x.id.1, .int .i64 x.id.2, .slice D dn dc, strV x.txt, .slice A n c]) (hp : NV W N D dn dc A n c x) (hb : b < N) : RdN W N (some ⟨b, 0, none⟩) [x] :=
  .inr ⟨_, rfl, hb, fun k y hy => by
    cases k with
    | zero =>
      injection hy with hy
      subst hy
      have e : (⟨b, 0, none⟩ : Addr).add (0 * 5) = ⟨b, 0, none⟩ := rfl
      exact ⟨by rw [e]; exact h.cell 0 rfl, by rw [e]; exact h.cell 1 rfl, by rw [e]; exact h.cell 3 rfl, D, dn, dc, A, n, c, by rw [e]; exact h.cell 2 rfl, by rw [e]; exact h.cell 4 rfl, hp⟩
    | succ k => simp at hy⟩
theorem pg_ex (W : World) (S : Nat → Prop) : PG W S none 0 0 none 0 0 exA :=
  ⟨rfl, rfl, Nat.le_refl _, Nat.le_refl _, by decide, by decide, .inl rfl, .inl rfl, by unfold I64; decide, by unfold I64; decide, by decide, by decide, (fun x hx => by cases hx), (fun x hx => by cases hx)⟩
theorem nv_ex {W : World} {N b : Nat} (h : RdP W (· < N) (some ⟨b, 0, none⟩) [exA]) : NV W N none 0 0 (some ⟨b, 0, none⟩) 1 1 exN :=
  ⟨rfl, Nat.le_refl _, by decide, .inl rfl, by decide, rfl, Nat.le_refl _, by decide, h⟩

set_option maxRecDepth 100000 in
set_option maxHeartbeats 4000000 in
theorem awake (w : World) : Calls Try.prog 8 #[] w (BoolEnd w true) := by
  go_enter Try.func8, Try.ntmps8
  go_upto_region 2 with fail
  have b0 := (Blk.new w 54 #[.int .i64 0, strV [97], strV [], .int .i64 0, .slice none 0 0, .slice none 0 0]).alloc (.cells #[.int .i64 0, .int .i64 1, .slice none 0 0, strV [], .slice (some ⟨w.heap.size, 0, none⟩) 1 1] 27)
  have b1 := Blk.new (w.alloc (.cells #[.int .i64 0, strV [97], strV [], .int .i64 0, .slice none 0 0, .slice none 0 0] 54)) 27 #[.int .i64 0, .int .i64 1, .slice none 0 0, strV [], .slice (some ⟨w.heap.size, 0, none⟩) 1 1]
  have hb := two_box w (.cells #[.int .i64 0, strV [97], strV [], .int .i64 0, .slice none 0 0, .slice none 0 0] 54) (.cells #[.int .i64 0, .int .i64 1, .slice none 0 0, strV [], .slice (some ⟨w.heap.size, 0, none⟩) 1 1] 27)
  simp only [World.size_alloc] at b1
  generalize ((w.alloc (.cells #[.int .i64 0, strV [97], strV [], .int .i64 0, .slice none 0 0, .slice none 0 0] 54)).alloc (.cells #[.int .i64 0, .int .i64 1, .slice none 0 0, strV [], .slice (some ⟨w.heap.size, 0, none⟩) 1 1] 27)) = w1 at b0 b1 hb ⊢
  obtain ⟨z, hz⟩ : ∃ z, w.heap.size = z := ⟨_, rfl⟩
  rw [hz] at b0 b1 ⊢
  have RP : Hid (RdP w1 (· < w1.heap.size) (some ⟨z, 0, none⟩) [exA]) := Lib.hid (rdP_lone b0 (pg_ex _ _) b0.lt)
  have B1 := Lib.hid b1; have HB := Lib.hid hb
  clear b0 b1 hb hz
  have x0 := B1.out.cell 0 rfl; have x1 := B1.out.cell 1 rfl; have x2 := B1.out.cell 2 rfl; have x3 := B1.out.cell 3 rfl; have x4 := B1.out.cell 4 rfl
  go_wp2_with fail
  have hb2 : Below w1.heap.size w1 (w1.alloc (.cells #[.int .i64 0, .int .i64 1, .slice none 0 0, strV [], .slice (some ⟨z, 0, none⟩) 1 1] 27)) := (Below.refl _ _).alloc (Nat.le_refl _) _
  have b2 := Blk.new w1 27 #[.int .i64 0, .int .i64 1, .slice none 0 0, strV [], .slice (some ⟨z, 0, none⟩) 1 1]
  generalize (w1.alloc (.cells #[.int .i64 0, .int .i64 1, .slice none 0 0, strV [], .slice (some ⟨z, 0, none⟩) 1 1] 27)) = w2 at hb2 b2 ⊢
  replace RP := Lib.hid (RP.out.mv hb2); replace B1 := Lib.hid (B1.out.below hb2 B1.out.lt); replace HB := Lib.hid (below_mv HB.out hb2)
  have RN : Hid (RdN w2 w2.heap.size (some ⟨w1.heap.size, 0, none⟩) [exN]) := Lib.hid (rdN_lone b2 (nv_ex RP.out) b2.lt)
  clear x0 x1 x2 x3 x4 hb2 b2
  refine (ApplyN 10 10 none 0 0 (some ⟨w1.heap.size, 0, none⟩) 1 1 [] [exN] w2 _ ⟨⟨by decide, fun x hx => by cases hx⟩, by decide, fun x hx => by cases hx⟩ (by decide) (by decide) rfl rfl (by decide) (by decide) ex_lt (.inl rfl) RN.out ex_do).mono ?_
  rintro e w3 ⟨B4, k4, d4, rfl, _, hk4, _, hb⟩
  obtain rfl : 1 = k4 := hk4
  replace RP := Lib.hid (RP.out.mv hb); replace B1 := Lib.hid (B1.out.below hb B1.out.lt); replace HB := Lib.hid (below_mv HB.out hb)
  clear hb RN
  have x0 := B1.out.cell 0 rfl; have x1 := B1.out.cell 1 rfl; have x2 := B1.out.cell 2 rfl; have x3 := B1.out.cell 3 rfl; have x4 := B1.out.cell 4 rfl
  go_wp2_with fail
  refine (MayN none 0 0 (some ⟨z, 0, none⟩) 1 1 exN w3 true (nv_ex RP.out) ex_may).mono ?_
  rintro e w4 ⟨rfl, hb⟩
  replace RP := Lib.hid (RP.out.mv hb); replace B1 := Lib.hid (B1.out.below hb B1.out.lt); replace HB := Lib.hid (below_mv HB.out hb)
  clear hb x0 x1 x2 x3 x4
  have x0 := B1.out.cell 0 rfl; have x1 := B1.out.cell 1 rfl; have x2 := B1.out.cell 2 rfl; have x3 := B1.out.cell 3 rfl; have x4 := B1.out.cell 4 rfl
  have hzl := B1.out.lt
  go_wp2_with fail
  have hb2 : Below w4.heap.size w4 (w4.alloc (.cells #[.int .i64 0, .int .i64 1, .slice none 0 0, strV [], .slice (some ⟨z, 0, none⟩) 1 1] 27)) := (Below.refl _ _).alloc (Nat.le_refl _) _
  have b2 := Blk.new w4 27 #[.int .i64 0, .int .i64 1, .slice none 0 0, strV [], .slice (some ⟨z, 0, none⟩) 1 1]
  generalize (w4.alloc (.cells #[.int .i64 0, .int .i64 1, .slice none 0 0, strV [], .slice (some ⟨z, 0, none⟩) 1 1] 27)) = w5 at hb2 b2 ⊢
  replace RP := Lib.hid (RP.out.mv hb2); replace B1 := Lib.hid (B1.out.below hb2 B1.out.lt); replace HB := Lib.hid (below_mv HB.out hb2)
  have RN : Hid (RdN w5 w5.heap.size (some ⟨w4.heap.size, 0, none⟩) [exN]) := Lib.hid (rdN_lone b2 (nv_ex RP.out) b2.lt)
  clear x0 x1 x2 x3 x4 hb2 b2 hzl
  refine (FindN (0, 1) (some ⟨w4.heap.size, 0, none⟩) 1 1 [exN] w5 rfl (by decide) RN.out).mono ?_
  rintro e w6 ⟨rfl, hb⟩
  rw [ex_find]
  replace RP := Lib.hid (RP.out.mv hb); replace B1 := Lib.hid (B1.out.below hb B1.out.lt); replace HB := Lib.hid (below_mv HB.out hb)
  clear hb RN
  have x0 := B1.out.cell 0 rfl; have x1 := B1.out.cell 1 rfl; have x2 := B1.out.cell 2 rfl; have x3 := B1.out.cell 3 rfl; have x4 := B1.out.cell 4 rfl
  go_wp2_with fail
  refine (SameN none 0 0 (some ⟨z, 0, none⟩) 1 1 none 0 0 (some ⟨z, 0, none⟩) 1 1 exN exN w6 true (nv_ex RP.out) (nv_ex RP.out) (by decide) (by decide) (sameN_self _)).mono ?_
  rintro e w7 ⟨rfl, hb⟩
  replace HB := Lib.hid (below_mv HB.out hb)
  clear hb x0 x1 x2 x3 x4 RP B1
  go_wp2_with fail
  refine (LessC (0, 1) (0, 2) w7 true ex_less).mono ?_
  rintro e w8 ⟨rfl, hb⟩
  replace HB := Lib.hid (below_mv HB.out hb)
  clear hb
  go_wp2
  go_ret
  exact ⟨rfl, HB.out⟩

end Pn
end Go.Proofs.Ytcfoodbfapldbaa
