/-
  The chapter's example of layer 11 (walk).
-/
import Derived.Test.YteiidklmlelabaaTdTidy
import Derived.Test.YteiidklmlelabaaTdTight
set_option maxRecDepth 100000
namespace Go.Proofs.Yteiidklmlelabaa
open Go.RowKit
set_option linter.unusedVariables false
set_option linter.unusedSimpArgs false
namespace Td
open Tx Df Sq Hk Tr Pr Fl

def exA : Ch := ⟨0, [97], [], ⟨0, [], []⟩⟩
def exB : Ch := ⟨0, [98], [], ⟨0, [], []⟩⟩
def exC : Ch := ⟨1, [98], [], ⟨0, [], []⟩⟩
def exD : Ch := ⟨1, [97], [], ⟨0, [], []⟩⟩
theorem ex_tidy : tidyP [exA, exB, exC, exD] = [] := by decide
theorem ex_tight : tightP [exA, exB, exC, exD] = false := by decide
theorem ex_one : tidyP [exA] = [exA] := by decide
theorem ex_two : tightP [exA, exB] = true := by decide

/-- Fewer of a list. -/
theorem rdP_pre {W : World} {S : Nat → Prop} {A : Option Addr} {u v : List Ch} (h : RdP W S A (u ++ v)) : RdP W S A u := by
  cases u with
  | nil => exact .inl rfl
  | cons x u =>
    rcases h with h | ⟨a, e, h1, h2⟩
    · cases h
    · exact .inr ⟨a, e, h1, fun k y hy => h2 k y (by rw [List.getElem?_append_left (List.getElem?_eq_some_iff.1 hy).1]; exact hy)⟩
theorem pg_ex (W : World) (k : Int) (nm : List UInt8) (hk : 0 ≤ k ∧ k ≤ 4) (hn : nm.length ≤ 5) : PG W (· < W.heap.size) none 0 0 none 0 0 ⟨k, nm, [], ⟨0, [], []⟩⟩ :=
  ⟨rfl, rfl, Nat.le_refl _, Nat.le_refl _, Nat.zero_le _, Nat.zero_le _, .inl rfl, .inl rfl, (by unfold I64; dsimp only; omega), (by unfold I64; dsimp only; omega), Nat.le_trans hn (by decide), Nat.zero_le _, (fun x h => by cases h), (fun x h => by cases h)⟩
theorem rd_ex {W : World} {b : Nat} (h : Blk W b 43 #[.int .i64 0, .string ⟨#[97]⟩, .string ⟨#[]⟩, .int .i64 0, .slice none 0 0, .slice none 0 0, .int .i64 0, .string ⟨#[98]⟩, .string ⟨#[]⟩, .int .i64 0, .slice none 0 0, .slice none 0 0, .int .i64 1, .string ⟨#[98]⟩, .string ⟨#[]⟩, .int .i64 0, .slice none 0 0, .slice none 0 0, .int .i64 1, .string ⟨#[97]⟩, .string ⟨#[]⟩, .int .i64 0, .slice none 0 0, .slice none 0 0]) : RdP W (· < W.heap.size) (some ⟨b, 0, none⟩) [exA, exB, exC, exD] := by
  refine .inr ⟨_, rfl, h.lt, fun k y hy => ?_⟩
  match k, hy with
  | 0, hy => cases hy; exact ⟨h.cell 0 rfl, h.cell 1 rfl, h.cell 2 rfl, h.cell 3 rfl, none, 0, 0, none, 0, 0, h.cell 4 rfl, h.cell 5 rfl, pg_ex W 0 [97] (by decide) (by decide)⟩
  | 1, hy => cases hy; exact ⟨h.cell 6 rfl, h.cell 7 rfl, h.cell 8 rfl, h.cell 9 rfl, none, 0, 0, none, 0, 0, h.cell 10 rfl, h.cell 11 rfl, pg_ex W 0 [98] (by decide) (by decide)⟩
  | 2, hy => cases hy; exact ⟨h.cell 12 rfl, h.cell 13 rfl, h.cell 14 rfl, h.cell 15 rfl, none, 0, 0, none, 0, 0, h.cell 16 rfl, h.cell 17 rfl, pg_ex W 1 [98] (by decide) (by decide)⟩
  | 3, hy => cases hy; exact ⟨h.cell 18 rfl, h.cell 19 rfl, h.cell 20 rfl, h.cell 21 rfl, none, 0, 0, none, 0, 0, h.cell 22 rfl, h.cell 23 rfl, pg_ex W 1 [97] (by decide) (by decide)⟩
  | k + 4, hy => simp at hy
theorem lt_ex : Lt [exA, exB, exC, exD] := fun x hx => by
  simp only [List.mem_cons, List.not_mem_nil, or_false] at hx
  rcases hx with rfl | rfl | rfl | rfl <;> decide
theorem lt_ex1 : Lt [exA] := fun x hx => lt_ex x (List.mem_append_left [exB, exC, exD] hx)
theorem lt_ex2 : Lt [exA, exB] := fun x hx => lt_ex x (List.mem_append_left [exC, exD] hx)

set_option maxRecDepth 100000 in
set_option maxHeartbeats 4000000 in
theorem awake (w : World) : Calls Try.prog 17 #[] w (BoolEnd w true) := by
  go_enter Try.func17, Try.ntmps17
  go_upto_region 2 with fail
  have hbw : Below w.heap.size w (w.alloc (.cells #[.int .i64 0, .string ⟨#[97]⟩, .string ⟨#[]⟩, .int .i64 0, .slice none 0 0, .slice none 0 0, .int .i64 0, .string ⟨#[98]⟩, .string ⟨#[]⟩, .int .i64 0, .slice none 0 0, .slice none 0 0, .int .i64 1, .string ⟨#[98]⟩, .string ⟨#[]⟩, .int .i64 0, .slice none 0 0, .slice none 0 0, .int .i64 1, .string ⟨#[97]⟩, .string ⟨#[]⟩, .int .i64 0, .slice none 0 0, .slice none 0 0] 43)) := (Below.refl _ _).alloc (Nat.le_refl _) _
  have hb := Blk.new w 43 #[.int .i64 0, .string ⟨#[97]⟩, .string ⟨#[]⟩, .int .i64 0, .slice none 0 0, .slice none 0 0, .int .i64 0, .string ⟨#[98]⟩, .string ⟨#[]⟩, .int .i64 0, .slice none 0 0, .slice none 0 0, .int .i64 1, .string ⟨#[98]⟩, .string ⟨#[]⟩, .int .i64 0, .slice none 0 0, .slice none 0 0, .int .i64 1, .string ⟨#[97]⟩, .string ⟨#[]⟩, .int .i64 0, .slice none 0 0, .slice none 0 0]
  have HR := Lib.hid (rd_ex hb)
  have HB := Lib.hid hbw
  clear hb hbw
  generalize (w.alloc (.cells #[.int .i64 0, .string ⟨#[97]⟩, .string ⟨#[]⟩, .int .i64 0, .slice none 0 0, .slice none 0 0, .int .i64 0, .string ⟨#[98]⟩, .string ⟨#[]⟩, .int .i64 0, .slice none 0 0, .slice none 0 0, .int .i64 1, .string ⟨#[98]⟩, .string ⟨#[]⟩, .int .i64 0, .slice none 0 0, .slice none 0 0, .int .i64 1, .string ⟨#[97]⟩, .string ⟨#[]⟩, .int .i64 0, .slice none 0 0, .slice none 0 0] 43)) = w1 at *
  obtain ⟨z, hz⟩ : ∃ z, w.heap.size = z := ⟨_, rfl⟩
  rw [hz] at HR ⊢
  clear hz
  have hl0 : (tidyP [exA, exB, exC, exD]).length = 0 := by rw [ex_tidy]; rfl
  have hl1 : (tidyP [exA]).length = 1 := by rw [ex_one]; rfl
  go_wp2_with fail
  refine (TidyL (some ⟨z, 0, none⟩) 4 4 [exA, exB, exC, exD] w1 rfl (by decide) lt_ex HR.out).mono ?_
  rintro e w2 ⟨A2, c2, rfl, _, _, hb⟩
  replace HR := Lib.hid (HR.out.mv hb); replace HB := Lib.hid (below_mv HB.out hb)
  clear hb
  rw [hl0]
  go_wp2_with fail
  refine (TightL (some ⟨z, 0, none⟩) 4 4 [exA, exB, exC, exD] w2 false rfl (by decide) lt_ex HR.out ex_tight).mono ?_
  rintro e w3 ⟨rfl, hb⟩
  replace HR := Lib.hid (HR.out.mv hb); replace HB := Lib.hid (below_mv HB.out hb)
  clear hb
  go_wp2_with fail
  refine (TidyL (some ⟨z, 0, none⟩) 1 4 [exA] w3 rfl (by decide) lt_ex1 (rdP_pre (v := [exB, exC, exD]) HR.out)).mono ?_
  rintro e w4 ⟨A4, c4, rfl, _, _, hb⟩
  replace HR := Lib.hid (HR.out.mv hb); replace HB := Lib.hid (below_mv HB.out hb)
  clear hb
  rw [hl1]
  go_wp2_with fail
  refine (TightL (some ⟨z, 0, none⟩) 2 4 [exA, exB] w4 true rfl (by decide) lt_ex2 (rdP_pre (v := [exC, exD]) HR.out) ex_two).mono ?_
  rintro e w5 ⟨rfl, hb⟩
  replace HB := Lib.hid (below_mv HB.out hb)
  clear hb
  go_wp2
  go_ret
  exact ⟨rfl, HB.out⟩

end Td
end Go.Proofs.Yteiidklmlelabaa
