/-
  Words and contracts, joined: GQ GP GX GS GH GT GR GW.
-/
import Derived.Test.YtdnkinajbebkoaaRows
import Derived.WalkKit
import Derived.WalkSpells
import Derived.WalkLawsBesides
import Derived.Lib.Hide
import Derived.Deep.Draws
import Derived.Laws.OwnMore
import Derived.ArgAppend
import Derived.Below
import Derived.Deep.QuietTactic
import Derived.BigQuiet
import Derived.ProofKit
import Derived.OpenShut
import Derived.ShutString
import Derived.ChangeOld
import Derived.RangeFuncBox
import Derived.Laws.CopyOwn
import Derived.Deep.RegionLaw
import Derived.Lib.Bytealg
import Derived.Lib.Bytes
import Derived.Lib.SmallJoins
import Derived.Deep.RegionHeld3
import Derived.IntWalk
import Derived.Deep.Slices
import Derived.Deep.Strs
import Derived.Deep.AppendLies
import Derived.Laws.Rows
import Derived.SizedLaws
import Derived.Deep.Cut
set_option maxRecDepth 100000
namespace Go.Proofs.Ytdnkinajbebkoaa
open Go.RowKit
set_option linter.unusedVariables false
namespace Tx

/-- The value of a line. -/
abbrev strV (l : List UInt8) : Value := .string ⟨l.toArray⟩
theorem size_strV (l : List UInt8) : (ByteArray.mk l.toArray).size = l.length := by simp [ByteArray.size]
theorem ret_bool {a b : Bool} (h : a = b) : Ending.returned (.bool a) = .returned (.bool b) := by rw [h]
theorem take_snoc' {α : Type} {ls : List α} {k : Nat} (h : k < ls.length) : ls.take (k + 1) = ls.take k ++ [ls[k]] := List.take_succ_eq_append_getElem h

theorem add_block (a : Addr) (n : Nat) : (a.add n).block = a.block := by unfold Addr.add; split <;> rfl
theorem add_add (a : Addr) (i j : Nat) : (a.add i).add j = a.add (i + j) := by
  unfold Addr.add
  by_cases hi : i = 0 <;> by_cases hj : j = 0 <;> simp [hi, hj, Nat.add_assoc]
theorem add_zero' (a : Addr) : a.add 0 = a := by simp [Addr.add]

/-- The address A leads, below block B, to the cells xs; or there are none. -/
def Rd (w : World) (B : Nat) (A : Option Addr) (xs : List Value) : Prop :=
  xs = [] ∨ ∃ a, A = some a ∧ a.block < B ∧ ∀ j u, xs[j]? = some u → w.cell? (a.add j) = some u
def RdS (w : World) (B : Nat) (A : Option Addr) (ls : List (List UInt8)) : Prop := Rd w B A (ls.map strV)

section
variable {w w' : World} {B B' : Nat} {A : Option Addr} {xs : List Value}
theorem Rd.below (h : Rd w B A xs) (hb : Below B w w') : Rd w' B A xs := by
  rcases h with h | ⟨a, e, hlt, hc⟩
  · exact .inl h
  · exact .inr ⟨a, e, hlt, fun j u hu => (hb.cell (p := a.add j) (by rw [add_block]; exact hlt)).trans (hc j u hu)⟩
theorem Rd.up (h : Rd w B A xs) (hB : B ≤ B') : Rd w B' A xs := by
  rcases h with h | ⟨a, e, hlt, hc⟩
  · exact .inl h
  · exact .inr ⟨a, e, by omega, hc⟩
theorem Rd.take (h : Rd w B A xs) (k : Nat) : Rd w B A (xs.take k) := by
  rcases h with rfl | ⟨a, e, hlt, hc⟩
  · exact .inl (by simp)
  · refine .inr ⟨a, e, hlt, fun j u hu => hc j u ?_⟩
    rw [List.getElem?_take] at hu
    split at hu
    · exact hu
    · cases hu
theorem Rd.drop (h : Rd w B A xs) {k cap : Nat} (hc : xs.length ≤ cap) : Rd w B (if cap = k then A else A.map (·.add k)) (xs.drop k) := by
  by_cases e : cap = k
  · subst e; exact .inl (List.drop_of_length_le hc)
  · rw [if_neg e]
    rcases h with rfl | ⟨a, rfl, hlt, hcell⟩
    · exact .inl (by simp)
    · refine .inr ⟨a.add k, rfl, by rw [add_block]; exact hlt, fun j u hu => ?_⟩
      rw [add_add]
      exact hcell _ u (by rw [← hu, List.getElem?_drop])
theorem Rd.at_ (h : Rd w B A xs) {k : Nat} (hk : k < xs.length) : ∃ a, A = some a ∧ a.block < B ∧ w.cell? (a.add k) = some xs[k] := by
  rcases h with rfl | ⟨a, e, hlt, hc⟩
  · exact absurd hk (by simp)
  · exact ⟨a, e, hlt, hc k _ (List.getElem?_eq_getElem hk)⟩
theorem Rd.drewN (h : Rd w B A xs) (d : Nat) : Rd (w.drewN d) B A xs := by
  rcases h with h | ⟨a, e, hlt, hc⟩
  · exact .inl h
  · exact .inr ⟨a, e, hlt, fun j u hu => by simpa using hc j u hu⟩
end

theorem RdS.at' {w : World} {B : Nat} {A : Option Addr} {ls : List (List UInt8)} (h : RdS w B A ls) {k : Nat} (hk : k < ls.length) : ∃ a, A = some a ∧ w.cell? (a.add k) = some (strV ls[k]) := by
  obtain ⟨a, e, _, hc⟩ := h.at_ (k := k) (by simpa using hk)
  exact ⟨a, e, by rw [hc]; simp⟩

theorem strs_one (ls : List (List UInt8)) : ∀ u ∈ ls.map strV, u.oneCell' = true := by
  intro u hu
  obtain ⟨c, _, rfl⟩ := List.mem_map.1 hu
  simp [Value.oneCell']

theorem rd_of_own {w : World} {base : Nat} {e : TypeId} {v : Value} {n : Nat} {xs : List Value} (h : w.ownsRow base e 1 v n xs) : ∃ A cap, v = .slice A n cap ∧ n ≤ cap ∧ Rd w w.heap.size A xs := by
  rcases h.2 with ⟨rfl, rfl⟩ | ⟨g, cap, cur, rfl, hb, hg, hc, _, hcs, ht⟩
  · exact ⟨none, 0, rfl, Nat.le_refl _, .inl (List.eq_nil_of_length_eq_zero (by simpa using h.1))⟩
  · refine ⟨_, cap, rfl, hc, .inr ⟨_, rfl, (Array.getElem?_eq_some_iff.1 hg).1, fun j u hu => ?_⟩⟩
    have e1 : (⟨g, 0, none⟩ : Addr).add j = ⟨g, j, none⟩ := by unfold Addr.add; split <;> simp_all
    rw [e1, cell_of_row w g j cur e (0, 0) hg]
    rw [← ht, List.getElem?_take] at hu
    split at hu
    · simpa using hu
    · cases hu

theorem own_ge {w : World} {base e size n : Nat} {v : Value} {xs : List Value} (h : w.ownsRow base e size v n xs) : ∀ k, v.ownBlock = some k → base ≤ k := by
  intro k hk
  exact (h.lt k hk).1

theorem own_mono {w : World} {base base' e size n : Nat} {v : Value} {xs : List Value} (h : w.ownsRow base e size v n xs) (hb : base' ≤ base) : w.ownsRow base' e size v n xs := by
  refine ⟨h.1, ?_⟩
  rcases h.2 with h | ⟨g, cap, cur, h1, h2, h3⟩
  · exact .inl h
  · exact .inr ⟨g, cap, cur, h1, Nat.le_trans hb h2, h3⟩

theorem below_drewN {B : Nat} {w w' : World} (h : Below B w w') (d : Nat) : Below B w (w'.drewN d) := ⟨h.os, h.tape, h.output, h.size, h.block⟩

section
variable {P : Program} {w : World}

theorem run_app_empty {n c m c' : Nat} {t ty e : TypeId} {i : TypeInfo} {A A' : Option Addr} (ht : P.underlying t = some (.slice e)) (hi : P.info? e = some i) (hsize : i.size = 1) (hnc : n ≤ c) (hm : m = 0) :
    (Builtin.append_ #[t, t] ty #[.slice A n c, .slice A' m c']).run P w = .ok (.slice A n c) w := by
  subst hm
  cases A <;> cases A' <;> simp [Builtin.append_, run_underlying ht, sizeOf, typeInfo, hi, Builtin.lenOf, Builtin.firstCells, hnc, storeCells, loadCells, loadCellsFrom]

end

theorem info_str : (Try.prog.info? 9).map (fun i => (i.zero, i.size, i.bytes)) = some (some (.string ⟨#[]⟩), 1, 16) := by kernel_rfl
/-- What an int holds. -/
def I64 (n : Int) : Prop := -9223372036854775808 ≤ n ∧ n ≤ 9223372036854775807

end Tx
end Go.Proofs.Ytdnkinajbebkoaa

namespace Go.Proofs.Ytdnkinajbebkoaa
open Go.RowKit
set_option linter.unusedVariables false
namespace Tx

def light (ls : List (List UInt8)) (most : Nat) : Bool := decide (ls.length ≤ most) && ls.all fun l => decide (l.length ≤ 200)

theorem light_false {ls : List (List UInt8)} {most : Nat} {x : List UInt8} (hm : x ∈ ls) (h : 200 < x.length) : light ls most = false := by
  have : (ls.all fun l => decide (l.length ≤ 200)) = false := by rw [List.all_eq_false]; exact ⟨x, hm, by simp; omega⟩
  simp [light, this]
theorem light_true {ls : List (List UInt8)} {most : Nat} (hl : ls.length ≤ most) (h : ∀ x ∈ ls, x.length ≤ 200) : light ls most = true := by
  have : (ls.all fun l => decide (l.length ≤ 200)) = true := by rw [List.all_eq_true]; intro x hx; simpa using h x hx
  simp [light, this, hl]

set_option maxHeartbeats 400000 in
theorem Light (A : Option Addr) (cap n B most : Nat) (ls : List (List UInt8)) (w : World) (hn : ls.length = n) (hnm : n ≤ maxLen) (hR : RdS w B A ls) (hm : most ≤ 1000) :
    Calls Try.prog 39 #[.slice A n cap, .int .i64 most] w fun e w' => e = .returned (.bool (light ls most)) ∧ w = w' := by
  unfold maxLen at hnm
  have HN := Lib.hid hn; clear hn
  by_cases h1 : most < n
  · have HF : Hid (light ls most = false) := Lib.hid (by unfold light; rw [HN.out]; simp; omega)
    go_enter Try.func39, Try.ntmps39
    go_wp2
    go_ret
    exact ⟨ret_bool HF.out.symm, rfl⟩
  · go_enter Try.func39, Try.ntmps39
    go_wp2
    go_loop [5] (fun i => ∃ k : Nat, k ≤ n ∧ i = .int .i64 k ∧ ∀ x ∈ ls.take k, x.length ≤ 200) (fun i => n - (intOf i).toNat)
    case atStart => exact ⟨0, Nat.zero_le _, rfl, by simp⟩
    case round =>
      obtain ⟨k, hk, rfl, hall⟩ := hrel
      have HA := Lib.hid hall; clear hall
      by_cases hlt : k < n
      · have hkl : k < ls.length := by rw [HN.out]; exact hlt
        obtain ⟨a, rfl, hcell⟩ := hR.at' hkl
        have hmem := List.getElem_mem hkl
        have HT := Lib.hid (take_snoc' hkl)
        generalize hx : ls[k] = x at *
        have HX := Lib.hid hx; clear hx
        obtain ⟨s, hs, hsl⟩ : ∃ s : ByteArray, strV x = .string s ∧ s.size = x.length := ⟨_, rfl, size_strV x⟩
        rw [hs] at hcell
        have HS := Lib.hid hsl; clear hsl hs
        by_cases hb : 200 < s.size
        · have HF := Lib.hid (light_false (most := most) hmem (by rw [← HS.out]; exact hb))
          go_wp2
          go_ret
          exact ⟨ret_bool HF.out.symm, rfl⟩
        · go_wp2
          go_round
          case rel => exact ⟨k + 1, by omega, by go_num, by rw [HT.out]; intro c hc; rcases List.mem_append.1 hc with h | h; exact HA.out c h; simp at h; rw [h]; have := HS.out; omega⟩
          case measure => simp [intOf]; omega
      · have HF : Hid (light ls most = true) := Lib.hid (light_true (by rw [HN.out]; omega) (by have := HA.out; rw [List.take_of_length_le (by rw [HN.out]; omega)] at this; exact this))
        go_wp2
        go_ret
        exact ⟨ret_bool HF.out.symm, rfl⟩

theorem take_eq_succ {α : Type} {xs ys : List α} {k : Nat} (hx : k < xs.length) (hy : k < ys.length) (h : xs.take k = ys.take k) (e : xs[k] = ys[k]) : xs.take (k + 1) = ys.take (k + 1) := by
  rw [take_snoc' hx, take_snoc' hy, h, e]

end Tx
end Go.Proofs.Ytdnkinajbebkoaa

namespace Go.Proofs.Ytdnkinajbebkoaa
open Go.RowKit
set_option linter.unusedVariables false
namespace Tx

/-- How Same ends: some draws, and whether the lists are one. -/
def SameEnd (w : World) (b : Bool) (e : Ending) (w' : World) : Prop := e = .returned (.bool b) ∧ ∃ k, w' = w.drewN k

theorem same_step {xs ys : List (List UInt8)} {k : Nat} (hx : k < xs.length) (hy : k < ys.length) (h : xs.take k = ys.take k) :
    (¬ xs[k] = ys[k] → decide (xs = ys) = false) ∧ (xs[k] = ys[k] → xs.take (k + 1) = ys.take (k + 1)) :=
  ⟨fun hne => decide_eq_false (fun e => hne (by subst e; rfl)), fun e => take_eq_succ hx hy h e⟩

set_option maxHeartbeats 400000 in
theorem Same (A A' : Option Addr) (cap cap' n n' B : Nat) (ls ms : List (List UInt8)) (w : World) (hn : ls.length = n) (hn' : ms.length = n') (hnm : n ≤ maxLen) (hR : RdS w B A ls) (hR' : RdS w B A' ms) :
    Calls Try.prog 90 #[.slice A n cap, .slice A' n' cap'] w (SameEnd w (decide (ls = ms))) := by
  unfold maxLen at hnm
  have HN := Lib.hid hn; clear hn
  have HN' := Lib.hid hn'; clear hn'
  by_cases h1 : n = n'
  · subst h1
    go_enter Try.func90, Try.ntmps90
    go_wp2
    go_loopw [5] (fun i wr => ∃ k : Nat, k ≤ n ∧ i = .int .i64 k ∧ ls.take k = ms.take k ∧ ∃ d, wr = w.drewN d) (fun i _ => n - (intOf i).toNat)
    case atStart => exact ⟨0, Nat.zero_le _, rfl, by simp, 0, rfl⟩
    case round =>
      obtain ⟨k, hk, rfl, hall, d, rfl⟩ := hrel
      have HA := Lib.hid hall; clear hall
      by_cases hlt : k < n
      · have hkl : k < ls.length := by rw [HN.out]; exact hlt
        have hkm : k < ms.length := by rw [HN'.out]; exact hlt
        obtain ⟨a, rfl, hcell⟩ := hR.at' hkl
        obtain ⟨a', rfl, hcell'⟩ := hR'.at' hkm
        have HD := Lib.hid (same_step hkl hkm HA.out)
        have hki : (k : Int) < (n : Int) := by omega
        go_wp2
        go_quiet (fail)
        go_wp2
        · have hb : (!ls[k] == ms[k]) = true := by assumption
          go_ret
          exact ⟨ret_bool (HD.out.1 (by simpa using hb)).symm, d + nq, by simp⟩
        · have hb : (!ls[k] == ms[k]) = false := by assumption
          refine ⟨⟨k + 1, by omega, by go_num, HD.out.2 (by simpa using hb), _, rfl⟩, by simp [intOf]; omega⟩
      · have HD : Hid (decide (ls = ms) = true) := Lib.hid (by
          have := HA.out
          rw [List.take_of_length_le (by rw [HN.out]; omega), List.take_of_length_le (by rw [HN'.out]; omega)] at this
          exact decide_eq_true this)
        go_wp2
        go_ret
        exact ⟨ret_bool HD.out.symm, _, rfl⟩
  · have HD : Hid (decide (ls = ms) = false) := Lib.hid (decide_eq_false (fun e => h1 (by rw [← HN.out, ← HN'.out, e])))
    have hne : ((n : Int) != (n' : Int)) = true := by rw [bne_iff_ne]; omega
    go_enter Try.func90, Try.ntmps90
    go_wp2
    go_ret
    exact ⟨ret_bool HD.out.symm, 0, rfl⟩

end Tx
end Go.Proofs.Ytdnkinajbebkoaa

namespace Go.Proofs.Ytdnkinajbebkoaa
open Go.ChangeShapes Go.WideShapes Go.ChangeAt Go.RowKit
namespace Tx

theorem lt_of_cell {w : World} {a : Addr} {v : Value} (h : w.cell? a = some v) : a.block < w.heap.size := by
  rcases Nat.lt_or_ge a.block w.heap.size with h' | h'
  · exact h'
  · simp [World.cell?, Array.getElem?_eq_none h'] at h

theorem rd_in {w : World} {a : Addr} {xs : List Value} (h : ∀ j u, xs[j]? = some u → w.cell? (a.add j) = some u) : Rd w w.heap.size (some a) xs := by
  cases xs with
  | nil => exact .inl rfl
  | cons x xs =>
    have h0 := lt_of_cell (h 0 x rfl)
    rw [add_block] at h0
    exact .inr ⟨a, rfl, h0, h⟩

theorem list_of {α : Type} {P : Nat → α → Prop} : ∀ (n : Nat), (∀ i, i < n → ∃ x, P i x) → ∃ l : List α, l.length = n ∧ ∀ i x, l[i]? = some x → P i x
  | 0, _ => ⟨[], rfl, fun i x h => by simp at h⟩
  | n + 1, h => by
    obtain ⟨l, h1, h2⟩ := list_of n fun i hi => h i (by omega)
    obtain ⟨y, hy⟩ := h n (by omega)
    refine ⟨l ++ [y], by simp [h1], fun i x hx => ?_⟩
    rcases Nat.lt_trichotomy i l.length with hi | hi | hi
    · rw [List.getElem?_append_left hi] at hx; exact h2 i x hx
    · subst hi; rw [List.getElem?_append_right (Nat.le_refl _), Nat.sub_self] at hx; cases hx; rw [h1]; exact hy
    · rw [List.getElem?_eq_none (by simp; omega)] at hx; cases hx

theorem i64_wf {n : Int} (h : (Lit.int .i64 n).wf = true) : I64 n := by
  simp only [Lit.wf, Bool.and_eq_true, decide_eq_true_eq] at h
  have h1 : IntKind.i64.min = -9223372036854775808 := by decide
  have h2 : IntKind.i64.max = 9223372036854775807 := by decide
  rw [h1, h2] at h
  exact h

/-- A slice of strings that is handed in: it reads as l. -/
structure StrArg (w : World) (A : Option Addr) (n c : Nat) (l : List (List UInt8)) : Prop where
  len : l.length = n
  cap : n ≤ c
  le : n ≤ maxLen
  rd : RdS w w.heap.size A l
  short : ∀ x ∈ l, x.length ≤ maxLen

section
variable {H : Type} {enc : TypeId × Value → H} {W : World} {base : Nat} {spare : Nat → Bool} {held : Bool}

theorem strs_in {fuel : Nat} {cs : List Value} {x : DataW H × List MemPlace} {A : Option Addr} {l c : Nat} (h : DataW.trod enc Try.prog W base spare held fuel 50 cs = some x) (hcs : cs = [.slice A l c]) :
    ∃ ls : List (List UInt8), StrArg W A l c ls := by
  rcases open_strings Try.underlying50 Try.underlying9 (by kernel_rfl) h with ⟨hcs', _⟩ | ⟨a, l', c', ss, hcs', _, hl, hm, hz, _, hcell, hws⟩
  · rw [hcs] at hcs'
    simp at hcs'
    obtain ⟨rfl, rfl, rfl⟩ := hcs'
    exact ⟨[], rfl, Nat.le_refl _, Nat.zero_le _, .inl rfl, fun x hx => by cases hx⟩
  · rw [hcs] at hcs'
    simp at hcs'
    obtain ⟨rfl, rfl, rfl⟩ := hcs'
    have hzl : l ≤ ss.length := by rw [hz]; split <;> omega
    refine ⟨(ss.take l).map fun s => s.data.toList, by simp; omega, hl, by omega, rd_in fun j u hu => ?_, fun x hx => ?_⟩
    · simp only [List.getElem?_map, Option.map_map] at hu
      rw [List.getElem?_take] at hu
      split at hu
      · have hj : j < ss.length := by omega
        rw [List.getElem?_eq_getElem hj] at hu
        simp at hu
        rw [hcell j hj, ← hu]
        simp [hj]
      · cases hu
    · obtain ⟨s, hs, rfl⟩ := List.mem_map.1 hx
      show s.data.toList.length ≤ maxLen
      rw [Array.length_toList]
      exact hws s (List.mem_of_mem_take hs)
theorem strs_any {fuel : Nat} {v : Value} {x : DataW H × List MemPlace} (h : DataW.trod enc Try.prog W base spare held fuel 50 [v] = some x) : ∃ A n c ls, v = .slice A n c ∧ StrArg W A n c ls := by
  obtain ⟨A, n, c, rfl⟩ : ∃ A n c, v = .slice A n c := by
    rcases open_strings Try.underlying50 Try.underlying9 (by kernel_rfl) h with ⟨h', _⟩ | ⟨a, l', c', ss, h', _⟩
    · injection h' with h'; exact ⟨_, _, _, h'⟩
    · injection h' with h'; exact ⟨_, _, _, h'⟩
  obtain ⟨ls, hs⟩ := strs_in h rfl
  exact ⟨A, n, c, ls, rfl, hs⟩
end

end Tx
end Go.Proofs.Ytdnkinajbebkoaa

namespace Go.Proofs.Ytdnkinajbebkoaa
open Go.RowKit
set_option linter.unusedVariables false
namespace Tx

/-- All blocks of another type than e are as they were. -/
def Typ (e : TypeId) (w w' : World) : Prop := ∀ (k : Nat) c t f, w.heap[k]? = some (.cells c t f) → t ≠ e → w'.heap[k]? = some (.cells c t f)
theorem Typ.refl (e : TypeId) (w : World) : Typ e w w := fun _ _ _ _ h _ => h
theorem Typ.trans {e : TypeId} {w w1 w2 : World} (h : Typ e w w1) (h' : Typ e w1 w2) : Typ e w w2 := fun k c t f hk ht => h' k c t f (h k c t f hk ht) ht
section
variable {P : Program} {w : World}

end

section
variable {P : Program} {w : World}
/-- An append of cells that are read, nil let in, onto nothing: a row of one's own. -/
theorem run_nil {B m c bytes : Nat} {t ty e : TypeId} {i : TypeInfo} {z : Value} {news : List Value} {A : Option Addr} (ht : P.underlying t = some (.slice e)) (hi : P.info? e = some i) (hz : i.zero = some z)
    (hsize : i.size = 1) (hby : i.bytes = bytes) (hzs : z.cells.size = 1) (hl : news.length = m) (hr : Rd w B A news) (h1 : ∀ u ∈ news, u.oneCell' = true) (h63 : m ≤ maxLen) (hbytes : m * bytes ≤ 140737488355328) :
    ∃ A' c' w', (Builtin.append_ #[t, t] ty #[.slice none 0 0, .slice A m c]).run P w = .ok (.slice A' m c') w' ∧ w'.ownsRow w.heap.size e 1 (.slice A' m c') m news ∧ w.grownBy w' none := by
  by_cases hm : m = 0
  · have hnil : news = [] := List.eq_nil_of_length_eq_zero (by omega)
    subst hnil; subst hm
    exact ⟨none, 0, w, run_app_empty ht hi hsize (Nat.le_refl _) rfl, World.ownsRow_nil w _ e 1, World.grownBy.refl w none⟩
  · obtain ⟨a, rfl, hcells⟩ : ∃ a, A = some a ∧ ∀ j u, news[j]? = some u → w.cell? (a.add j) = some u := by
      rcases hr with h | ⟨a, h, _, hc⟩
      · subst h; simp at hl; omega
      · exact ⟨a, h, hc⟩
    obtain ⟨v', w', h2, h3, h4, _⟩ := run_append_own (P := P) w w.heap.size t ty e i z 1 bytes ht hi hz hsize hby hzs (by decide) (.slice none 0 0) 0 [] (World.ownsRow_nil w _ e 1) a m c news (by omega) hcells h1 (by omega) (by rw [Nat.zero_add]; exact hbytes) (Nat.le_refl _)
    rw [Nat.zero_add, List.nil_append] at h3
    obtain ⟨A', c', rfl, _⟩ := rd_of_own h3
    exact ⟨A', c', w', h2, h3, h4⟩

theorem wpList_nil' {ops : Array Oper} {rest : List Oper} {o : Oper} {a : Act} {Q : Exit → Act → World → Prop} (hgd : o.guard = none) (s x : Operand) (t : TypeId)
    (ho : o.op = .call { callee := .builtin .append, args := #[s, x], argTypes := #[t, t] })
    (e : TypeId) (i : TypeInfo) (z : Value) (bytes : Nat) (ht : P.underlying t = some (.slice e)) (hi : P.info? e = some i) (hz : i.zero = some z)
    (hsize : i.size = 1) (hby : i.bytes = bytes) (hzs : z.cells.size = 1) (hs : a.eval s = .slice none 0 0)
    (B : Nat) (A : Option Addr) (m c : Nat) (news : List Value) (hx : a.eval x = .slice A m c) (hl : news.length = m) (hr : Rd w B A news) (h1 : ∀ u ∈ news, u.oneCell' = true)
    (h63 : m ≤ maxLen) (hbytes : m * bytes ≤ 140737488355328)
    (h : ∀ A' c' w', w'.ownsRow w.heap.size e 1 (.slice A' m c') m news → w.grownBy w' none → wpList P ops Q rest (a.put o.dst (.slice A' m c')) w') : wpList P ops Q (o :: rest) a w := by
  refine wpList_plain hgd fun K hK => ?_
  obtain ⟨A', c', w', hr, h2, h3⟩ := run_nil (P := P) (c := c) (ty := o.type) ht hi hz hsize hby hzs hl hr h1 h63 hbytes
  unfold Oper.wp execOp
  simp only [ho, resolve, invoke, builtin, Sem.run_bind, Sem.run_pure, Result.andThen_ok, List.map_toArray, List.map_cons, List.map_nil, hs, hx, hr]
  exact hK _ _ (h A' c' w' h2 h3)

end

def OwnEnd (w : World) (n : Nat) (xs : List Value) (e : Ending) (w' : World) : Prop :=
  ∃ A' c', e = .returned (.slice A' n c') ∧ w'.ownsRow w.heap.size 9 1 (.slice A' n c') n xs ∧ w.grownBy w' none

end Tx
end Go.Proofs.Ytdnkinajbebkoaa

namespace Go.Proofs.Ytdnkinajbebkoaa
open Go.RowKit
set_option linter.unusedVariables false
namespace Tx

/-- The block b holds the cells cs, of type t. -/
def Blk (W : World) (b : Nat) (t : TypeId) (cs : Array Value) : Prop := W.heap[b]? = some (.cells cs t (0, 0))

section
variable {W W' : World} {b : Nat} {t : TypeId} {cs : Array Value}
theorem Blk.lt (h : Blk W b t cs) : b < W.heap.size := (Array.getElem?_eq_some_iff.1 h).1
theorem Blk.new (W : World) (t : TypeId) (cs : Array Value) : Blk (W.alloc (.cells cs t)) W.heap.size t cs := World.alloc_heap_new W _
theorem Blk.gr {row : Option Nat} (h : Blk W b t cs) (hg : W.grownBy W' row) (hne : some b ≠ row) : Blk W' b t cs := (hg.block b h.lt hne).trans h
theorem Blk.alloc (h : Blk W b t cs) (o : Obj) : Blk (W.alloc o) b t cs := h.gr (World.grownBy_alloc W o none) (by simp)
theorem Blk.below {B : Nat} (h : Blk W b t cs) (hb : Below B W W') (hlt : b < B) : Blk W' b t cs := (hb.block b hlt).trans h
theorem Blk.drewN (h : Blk W b t cs) (d : Nat) : Blk (W.drewN d) b t cs := h
theorem Blk.cell (h : Blk W b t cs) (j : Nat) {u : Value} (hu : cs[j]? = some u) : W.cell? ⟨b, j, none⟩ = some u := by
  simp [World.cell?, show W.heap[b]? = _ from h, hu]
theorem Blk.frozen (h : Blk W b t cs) (j : Nat) : W.frozen? ⟨b, j, none⟩ = false := by simp [World.frozen?, show W.heap[b]? = _ from h]
theorem Blk.set (h : Blk W b t cs) (j : Nat) (v : Value) : Blk (W.setCell ⟨b, j, none⟩ v) b t (cs.setIfInBounds j v) := by
  obtain ⟨hlt, hk⟩ := Array.getElem?_eq_some_iff.1 h
  show (W.heap.modify b _)[b]? = _
  rw [Array.getElem?_eq_getElem (by rw [Array.size_modify]; exact hlt), Array.getElem_modify_self, hk]
  rfl
theorem grownBy_set (W : World) (b j : Nat) (v : Value) : W.grownBy (W.setCell ⟨b, j, none⟩ v) (some b) :=
  ⟨rfl, rfl, rfl, (KeepsWalks.setCell W _ v).size, fun k _ hk => Below.heap_setCell _ _ _ k (fun e => hk (by rw [e]))⟩
theorem Blk.set_ne {b' : Nat} (h : Blk W b t cs) (hne : b ≠ b') (j : Nat) (v : Value) : Blk (W.setCell ⟨b', j, none⟩ v) b t cs := h.gr (grownBy_set W b' j v) (by simpa using hne)
end

/-- A row of one's own, and a store to an elder block. -/
theorem own_set {W : World} {base e size n b : Nat} {v : Value} {xs : List Value} (h : W.ownsRow base e size v n xs) (hb : b < base) (j : Nat) (u : Value) : (W.setCell ⟨b, j, none⟩ u).ownsRow base e size v n xs :=
  h.kept (grownBy_set W b j u) (.inr fun e' => absurd (own_ge h b e') (by omega))
theorem own_gr {W W' : World} {base e size n : Nat} {v : Value} {xs : List Value} (h : W.ownsRow base e size v n xs) (hg : W.grownBy W' none) : W'.ownsRow base e size v n xs := h.kept hg (Classical.em _)
/-- A row of one's own is no block of another type. -/
theorem Blk.not_row {W : World} {b : Nat} {t e : TypeId} {cs : Array Value} (h : Blk W b t cs) (hte : t ≠ e) {base size k : Nat} {v : Value} {xs : List Value} (hr : W.ownsRow base e size v k xs) : some b ≠ v.ownBlock := by
  rcases hr.2 with ⟨rfl, _⟩ | ⟨g, cap, cur, rfl, _, hgb, _⟩
  · simp [Value.ownBlock]
  · intro e'
    obtain rfl : b = g := by simpa [Value.ownBlock] using e'
    have := (show W.heap[b]? = _ from h).symm.trans hgb
    simp at this
    exact hte this.2
/-- What lies in another block lies there still. -/
theorem cell_gr {W w1 : World} {row : Option Nat} {p : Addr} {u : Value} (hg : W.grownBy w1 row) (hne : some p.block ≠ row) (hc : W.cell? p = some u) : w1.cell? p = some u :=
  (World.cell?_of_block (hg.block _ (World.block_lt_of_cell? W p hc) hne)).trans hc
theorem cell_set {W : World} {p : Addr} {b : Nat} {u : Value} (hc : W.cell? p = some u) (hne : p.block ≠ b) (j : Nat) (v : Value) : (W.setCell ⟨b, j, none⟩ v).cell? p = some u := cell_gr (grownBy_set W b j v) (fun e => hne (by injection e)) hc
theorem gr_drewN {W W' : World} {row : Option Nat} (h : W.grownBy W' row) (d : Nat) : W.grownBy (W'.drewN d) row := ⟨h.os, h.tape, h.output, h.size, h.block⟩
theorem nn (b : Nat) : some b ≠ (none : Option Nat) := fun h => by cases h
theorem cell_alc {W : World} {p : Addr} {u : Value} (o : Obj) (hc : W.cell? p = some u) : (W.alloc o).cell? p = some u := cell_gr (World.grownBy_alloc W o none) (nn _) hc
theorem below_gr {W w1 : World} (hg : W.grownBy w1 none) : Below W.heap.size W w1 := (Below.refl _ W).grown hg (Nat.le_refl _) (fun k hk => by cases hk)

end Tx
end Go.Proofs.Ytdnkinajbebkoaa

namespace Go.Proofs.Ytdnkinajbebkoaa
open Go.RowKit
set_option linter.unusedVariables false
namespace Tx

section
variable {P : Program} {w : World}
end

end Tx
end Go.Proofs.Ytdnkinajbebkoaa

namespace Go.Proofs.Ytdnkinajbebkoaa
open Go.RowKit
set_option linter.unusedVariables false
namespace Tx

section
variable {P : Program} {w : World}
end

end Tx
end Go.Proofs.Ytdnkinajbebkoaa

namespace Go.Proofs.Ytdnkinajbebkoaa
open Go.RowKit
set_option linter.unusedVariables false
namespace Tx

set_option maxHeartbeats 400000 in
theorem EqualS (A A' : Option Addr) (cap cap' n n' B : Nat) (ls ms : List (List UInt8)) (w : World) (hn : ls.length = n) (hn' : ms.length = n') (hnm : n ≤ maxLen) (hR : RdS w B A ls) (hR' : RdS w B A' ms) :
    Calls Try.prog 62 #[.slice A n cap, .slice A' n' cap'] w (SameEnd w (decide (ls = ms))) := by
  unfold maxLen at hnm
  have HN := Lib.hid hn; clear hn
  have HN' := Lib.hid hn'; clear hn'
  by_cases h1 : n = n'
  · subst h1
    go_enter Try.func62, Try.ntmps62
    go_wp2
    go_loopw [13] (fun i wr => ∃ k : Nat, k ≤ n ∧ i = .int .i64 k ∧ ls.take k = ms.take k ∧ ∃ d, wr = w.drewN d) (fun i _ => n - (intOf i).toNat)
    case atStart => exact ⟨0, Nat.zero_le _, rfl, by simp, 0, rfl⟩
    case round =>
      obtain ⟨k, hk, rfl, hall, d, rfl⟩ := hrel
      have HA := Lib.hid hall; clear hall
      by_cases hlt : k < n
      · have hkl : k < ls.length := by rw [HN.out]; exact hlt
        have hkm : k < ms.length := by rw [HN'.out]; exact hlt
        obtain ⟨a, rfl, hcell⟩ := hR.at' hkl
        obtain ⟨a', rfl, hcell'⟩ := hR'.at' hkm
        have HD := Lib.hid (same_step hkl hkm HA.out)
        have hki : (k : Int) < (n : Int) := by omega
        go_wp2
        go_quiet (fail)
        go_wp2
        · have hb : (!ls[k] == ms[k]) = true := by assumption
          go_ret
          exact ⟨ret_bool (HD.out.1 (by simpa using hb)).symm, d + nq, by simp⟩
        · have hb : (!ls[k] == ms[k]) = false := by assumption
          refine ⟨⟨k + 1, by omega, by go_num, HD.out.2 (by simpa using hb), _, rfl⟩, by simp [intOf]; omega⟩
      · have HD : Hid (decide (ls = ms) = true) := Lib.hid (by
          have := HA.out
          rw [List.take_of_length_le (by rw [HN.out]; omega), List.take_of_length_le (by rw [HN'.out]; omega)] at this
          exact decide_eq_true this)
        go_wp2
        go_ret
        exact ⟨ret_bool HD.out.symm, _, rfl⟩
  · have HD : Hid (decide (ls = ms) = false) := Lib.hid (decide_eq_false (fun e => h1 (by rw [← HN.out, ← HN'.out, e])))
    have hne : ((n : Int) != (n' : Int)) = true := by rw [bne_iff_ne]; omega
    go_enter Try.func62, Try.ntmps62
    go_wp2
    go_ret
    exact ⟨ret_bool HD.out.symm, 0, rfl⟩

end Tx
end Go.Proofs.Ytdnkinajbebkoaa

namespace Go.Proofs.Ytdnkinajbebkoaa
open Go.RowKit
set_option linter.unusedVariables false
namespace Tx

/-- How a law ends: true, and all that was there is as it was. -/
def LawEnd (w : World) (e : Ending) (w' : World) : Prop := e = .returned (.bool true) ∧ Below w.heap.size w w'

end Tx
end Go.Proofs.Ytdnkinajbebkoaa

namespace Go.Proofs.Ytdnkinajbebkoaa
open Go.RowKit
set_option linter.unusedVariables false
namespace Tx

/-- An element of one cell of an array by value. -/
theorem run_index_array {P : Program} {t e : TypeId} {n : Nat} {cs : Array Value} {k : IntKind} {i : Int} {f : Value} {w : World} (h : P.underlying t = some (.array n e)) (hi : 0 ≤ i ∧ i < (n : Int)) (hs : (sizeOf e).run P w = .ok 1 w) (ha : (isAgg e).run P w = .ok false w) (hf : cs[i.toNat]? = some f) :
    (Instr.index t (.agg cs) (.int k i)).run P w = .ok f w := by
  simp [Instr.index, run_underlying h, asIntOf, hi, part, go_sem, hs, ha, hf]

end Tx
end Go.Proofs.Ytdnkinajbebkoaa

namespace Go.Proofs.Ytdnkinajbebkoaa
open Go.RowKit
set_option linter.unusedVariables false
namespace Tx

/-- An address, if there is one, is of memory made behind the first lo blocks. -/
def Hi (lo : Nat) (A : Option Addr) : Prop := ∀ a, A = some a → lo ≤ a.block
theorem hi_none (lo : Nat) : Hi lo none := fun a h => by cases h
theorem Hi.mono {lo lo' : Nat} {A : Option Addr} (h : Hi lo A) (hl : lo' ≤ lo) : Hi lo' A := fun a e => Nat.le_trans hl (h a e)
theorem hi_own {w : World} {base n c e size : Nat} {A : Option Addr} {xs : List Value} (h : w.ownsRow base e size (.slice A n c) n xs) : Hi base A := fun a ha => by
  subst ha
  rcases h.2 with ⟨h1, _⟩ | ⟨g, cap, cur, h1, hb, _⟩
  · cases h1
  · injection h1 with h1 h2
    injection h1 with h1
    subst h1
    exact hb
theorem rdS_hi {W : World} {N lo b : Nat} {A : Option Addr} {ls : List (List UInt8)} (h : RdS W N A ls) (hi : Hi lo A) (hb : b < lo) (j : Nat) (v : Value) : RdS (W.setCell ⟨b, j, none⟩ v) N A ls := by
  rcases h with h | ⟨a, e, hlt, hc⟩
  · exact .inl h
  · refine .inr ⟨a, e, hlt, fun i u hu => ?_⟩
    have := hi a e
    exact cell_set (hc i u hu) (by rw [add_block]; omega) j v

end Tx
end Go.Proofs.Ytdnkinajbebkoaa

set_option maxRecDepth 100000
namespace Go.Proofs.Ytdnkinajbebkoaa
namespace Tx

def may (l : List UInt8) : Bool := decide (l.length ≤ 80) && !l.contains 10
def inName (c : UInt8) : Bool := (decide (97 ≤ c.toNat) && decide (c.toNat ≤ 122)) || (decide (48 ≤ c.toNat) && decide (c.toNat ≤ 57)) || decide (c.toNat = 46)
def name (l : List UInt8) : Bool := decide (1 ≤ l.length) && decide (l.length ≤ 16) && l.all inName
def allMay (ls : List (List UInt8)) : Bool := decide (ls.length ≤ 200) && ls.all may

theorem indexByte_neg (l : List UInt8) (c : UInt8) : decide (Lib.indexByte l c < 0) = !l.contains c := by
  induction l with
  | nil => simp [Lib.indexByte]
  | cons b l ih =>
    have hg := Lib.indexByte_ge l c
    unfold Lib.indexByte
    by_cases hb : b = c
    · subst hb; simp
    · have hb' : ¬ c = b := fun e => hb e.symm
      by_cases hi : Lib.indexByte l c = -1
      · have : c ∉ l := by simpa [hi] using ih
        simp [hb, hi, hb', this]
      · have h1 : ¬ Lib.indexByte l c < 0 := by omega
        have h2 : c ∈ l := by simpa [h1] using ih
        have h3 : ¬ Lib.indexByte l c + 1 < 0 := by omega
        simp [hb, hi, h2, h3]

theorem all_of {ls : List (List UInt8)} (h : ∀ x ∈ ls, may x = true) : ls.all may = true := by rw [List.all_eq_true]; exact h
theorem not_all_of {ls : List (List UInt8)} {x : List UInt8} (hx : x ∈ ls) (h : may x = false) : ls.all may = false := by rw [List.all_eq_false]; exact ⟨x, hx, by simp [h]⟩

end Tx
end Go.Proofs.Ytdnkinajbebkoaa

namespace Go.Proofs.Ytdnkinajbebkoaa
namespace Lc

section
variable {α : Type} [DecidableEq α]

/-- What two lists have in common, from their first places on. -/
def lcs : List α → List α → Nat
  | x :: a, y :: b => if x = y then lcs a b + 1 else if lcs (x :: a) b ≤ lcs a (y :: b) then lcs a (y :: b) else lcs (x :: a) b
  | _, _ => 0
  termination_by a b => a.length + b.length

/-- The pairs, from place i of a and place j of b on. -/
def prs : Nat → Nat → List α → List α → List (Nat × Nat)
  | i, j, x :: a, y :: b => if x = y then (i, j) :: prs (i + 1) (j + 1) a b else if lcs (x :: a) b ≤ lcs a (y :: b) then prs (i + 1) j a (y :: b) else prs i (j + 1) (x :: a) b
  | _, _, _, _ => []
  termination_by _ _ a b => a.length + b.length
/-- The rest of the pairs, from places i and j on. -/
def rest (a b : List α) (i j : Nat) : List (Nat × Nat) := prs i j (a.drop i) (b.drop j)
end
end Lc
end Go.Proofs.Ytdnkinajbebkoaa

namespace Go.Proofs.Ytdnkinajbebkoaa
namespace Sq

section
variable {α : Type}
/-- l with 'now' in the place of what stands at i and is n long. -/
def swp (l : List α) (i n : Nat) (now : List α) : List α := l.take i ++ (now ++ l.drop (i + n))
theorem swp_parts (p s t now : List α) : swp (p ++ (s ++ t)) p.length s.length now = p ++ (now ++ t) := by
  simp [swp, ← List.drop_drop]
end

section
variable {α : Type} [DecidableEq α]

/-- Do 'some' stand in l from 'at' on? -/
def has (l : List α) (i : Int) (s : List α) : Bool := decide (0 ≤ i ∧ i ≤ l.length ∧ (l.drop i.toNat).take s.length = s)
theorem has_len {l s : List α} {i : Int} (h : has l i s = true) : 0 ≤ i ∧ i.toNat + s.length ≤ l.length := by
  simp only [has, decide_eq_true_eq] at h
  obtain ⟨h1, h2, h3⟩ := h
  have h4 := congrArg List.length h3
  simp at h4
  omega
theorem has_split {l s : List α} {i : Int} (h : has l i s = true) : l = l.take i.toNat ++ (s ++ l.drop (i.toNat + s.length)) := by
  have hl := has_len h
  simp only [has, decide_eq_true_eq] at h
  obtain ⟨h1, h2, h3⟩ := h
  conv => lhs; rw [← List.take_append_drop i.toNat l]
  congr 1
  conv => lhs; rw [← List.take_append_drop s.length (l.drop i.toNat), h3, List.drop_drop]
theorem has_of_split (p s t : List α) : has (p ++ (s ++ t)) p.length s = true := by
  simp only [has, decide_eq_true_eq]
  refine ⟨by omega, by simp; omega, by simp⟩
theorem has_parts {l s : List α} {i : Int} (h : has l i s = true) : ∃ p t, l = p ++ (s ++ t) ∧ (p.length : Int) = i := by
  have hl := has_len h
  refine ⟨_, _, has_split h, ?_⟩
  rw [List.length_take]; omega
/-- Two swaps apart. -/
theorem apart {l old now other thn : List α} {i g : Nat} (h1 : has l i old = true) (h2 : has l ((i + old.length + g : Nat) : Int) other = true) :
    has (swp l i old.length now) ((i + now.length + g : Nat) : Int) other = true ∧ has (swp l (i + old.length + g) other.length thn) i old = true ∧
    swp (swp l i old.length now) (i + now.length + g) other.length thn = swp (swp l (i + old.length + g) other.length thn) i old.length now := by
  obtain ⟨p, t, rfl, hp⟩ := has_parts h1
  obtain rfl : p.length = i := by omega
  obtain ⟨q, r, hq, hl⟩ := has_parts h2
  have hql : q.length = p.length + old.length + g := by omega
  have e1 : q = p ++ (old ++ (t.take g)) := by
    have := congrArg (List.take q.length) hq
    rw [List.take_left] at this
    rw [← this, hql]
    simp [List.take_append]
    rw [List.take_of_length_le (by omega), List.take_of_length_le (by omega), show p.length + old.length + g - p.length - old.length = g by omega]
  have hg : g ≤ t.length := by
    have := congrArg List.length e1
    simp at this; omega
  have e2 : t = t.take g ++ (other ++ r) := by
    rw [e1] at hq
    have h3 : p ++ (old ++ t) = p ++ (old ++ (t.take g ++ (other ++ r))) := by rw [hq]; simp
    exact List.append_cancel_left (List.append_cancel_left h3)
  generalize hu : t.take g = u at e2
  have hul : u.length = g := by rw [← hu, List.length_take]; omega
  clear hu e1 hg hq hl hql h1 h2 hp
  subst e2
  subst hul
  have w1 : swp (p ++ (old ++ (u ++ (other ++ r)))) p.length old.length now = p ++ (now ++ (u ++ (other ++ r))) := swp_parts _ _ _ _
  have w2 : swp (p ++ (old ++ (u ++ (other ++ r)))) (p.length + old.length + u.length) other.length thn = p ++ (old ++ (u ++ (thn ++ r))) := by
    have := swp_parts (p ++ (old ++ u)) other r thn
    simpa [Nat.add_assoc] using this
  rw [w1, w2, swp_parts]
  have a1 := has_of_split (p ++ (now ++ u)) other r
  have a2 := swp_parts (p ++ (now ++ u)) other r thn
  refine ⟨by simpa [Nat.add_assoc] using a1, has_of_split _ _ _, by simpa [Nat.add_assoc] using a2⟩

end
end Sq
end Go.Proofs.Ytdnkinajbebkoaa

namespace Go.Proofs.Ytdnkinajbebkoaa
namespace Df
open Lc

/-- An edit: a place, how many lines are gone there, and which ones stand there. -/
structure Ed (α : Type) where
  pos : Int
  old : Int
  new : List α

section
variable {α : Type}

/-- The lines of a list from place i up to place j. -/
def mid (a : List α) (i j : Nat) : List α := (a.drop i).take (j - i)

/-- Does an edit fit, at a list of n lines of which 'at' lines are done (f: none was ahead)? -/
def fits (n k : Nat) (f : Bool) (x : Ed α) : Prop := (k : Int) ≤ x.pos ∧ (f = false → (k : Int) < x.pos) ∧ x.pos ≤ n ∧ 0 ≤ x.old ∧ x.old ≤ n - x.pos
instance (n k : Nat) (f : Bool) (x : Ed α) : Decidable (fits n k f x) := by unfold fits; exact inferInstance

/-- All lines that edits put there, together. -/
def news : List (Ed α) → Nat
  | [] => 0
  | x :: l => x.new.length + news l
/-- The edit of the stretch from the places i and j up to the places p and q, if it has a line. -/
def one (b : List α) (i j p q : Nat) : List (Ed α) := if i < p ∨ j < q then [⟨i, (p : Int) - i, mid b j q⟩] else []

end
end Df
end Go.Proofs.Ytdnkinajbebkoaa

namespace Go.Proofs.Ytdnkinajbebkoaa
namespace Hk
open Lc Df Sq

/-- A hunk: a place, the lines that stand there, and those that stand there then. -/
structure Hu (α : Type) where
  pos : Int
  old : List α
  new : List α

def turn {α : Type} (h : Hu α) : Hu α := ⟨h.pos, h.new, h.old⟩
theorem turn_turn {α : Type} (h : Hu α) : turn (turn h) = h := rfl

section
variable {α : Type}

variable [DecidableEq α]

/-- What a hunk makes of a list. -/
def done (l : List α) (h : Hu α) : Option (List α) := if has l h.pos h.old then some (swp l h.pos.toNat h.old.length h.new) else none
/-- Hunks, one behind the other. -/
def run : List α → List (Hu α) → Option (List α)
  | l, [] => some l
  | l, h :: hs => (done l h).bind fun m => run m hs

end
end Hk
end Go.Proofs.Ytdnkinajbebkoaa

namespace Go.Proofs.Ytdnkinajbebkoaa
namespace Sw
open Sq Hk

section
variable {α : Type}

/-- A hunk at another place. -/
def at_ (h : Hu α) (i : Int) : Hu α := ⟨i, h.old, h.new⟩
/-- Behind one that is not behind it: the second one's lines stand behind the first one's. -/
def ahead (p q : Hu α) : Option (Hu α × Hu α) := if p.pos + p.new.length < q.pos then some (at_ q (q.pos - p.new.length + p.old.length), p) else none
def behind (p q : Hu α) : Option (Hu α × Hu α) := if q.pos + q.old.length < p.pos then some (q, at_ p (p.pos - q.old.length + q.new.length)) else none
/-- What two hunks are when the second one is ahead. -/
def pass (p q : Hu α) : Option (Hu α × Hu α) := (ahead p q).or (behind p q)

theorem hu_ext {g h : Hu α} (h1 : g.pos = h.pos) (h2 : g.old = h.old) (h3 : g.new = h.new) : g = h := by
  cases g; cases h; simp only at h1 h2 h3; subst h1 h2 h3; rfl

/-- The two ways to pass. -/
theorem pass_cases {p q x y : Hu α} (h : pass p q = some (x, y)) :
    (p.pos + p.new.length < q.pos ∧ x = at_ q (q.pos - p.new.length + p.old.length) ∧ y = p) ∨ (q.pos + q.old.length < p.pos ∧ x = q ∧ y = at_ p (p.pos - q.old.length + q.new.length)) := by
  unfold pass ahead behind at h
  split at h
  · rw [Option.some_or] at h
    injection h with h; injection h with h1 h2
    exact .inl ⟨by assumption, h1.symm, h2.symm⟩
  · rw [Option.none_or] at h
    split at h
    · injection h with h; injection h with h1 h2
      exact .inr ⟨by assumption, h1.symm, h2.symm⟩
    · cases h
theorem pass_ahead {p q : Hu α} (h : p.pos + p.new.length < q.pos) : pass p q = some (at_ q (q.pos - p.new.length + p.old.length), p) := by
  unfold pass ahead; rw [if_pos h]; rfl
theorem pass_behind {p q : Hu α} (h : q.pos + q.old.length < p.pos) : pass p q = some (q, at_ p (p.pos - q.old.length + q.new.length)) := by
  unfold pass ahead behind; rw [if_neg (by omega), if_pos h]; rfl
/-- Turned they pass in the other order. -/
theorem pass_turn {p q x y : Hu α} (h : pass p q = some (x, y)) : pass (turn q) (turn p) = some (turn y, turn x) := by
  rcases pass_cases h with ⟨h1, rfl, rfl⟩ | ⟨h1, rfl, rfl⟩
  · rw [pass_behind (by simp only [turn]; omega)]; rfl
  · rw [pass_ahead (by simp only [turn]; omega)]; rfl
/-- Just one moves, and the lines stay. -/
theorem pass_moves {p q x y : Hu α} (h : pass p q = some (x, y)) :
    ((y.pos = p.pos ∧ x.pos = q.pos - p.new.length + p.old.length) ∨ (x.pos = q.pos ∧ y.pos = p.pos - q.old.length + q.new.length)) ∧ x.old = q.old ∧ x.new = q.new ∧ y.old = p.old ∧ y.new = p.new := by
  rcases pass_cases h with ⟨_, rfl, rfl⟩ | ⟨_, rfl, rfl⟩
  · exact ⟨.inl ⟨rfl, rfl⟩, rfl, rfl, rfl, rfl⟩
  · exact ⟨.inr ⟨rfl, rfl⟩, rfl, rfl, rfl, rfl⟩
/-- Where they stand then is not below nought. -/
theorem pass_pos {p q x y : Hu α} (h : pass p q = some (x, y)) (hp : 0 ≤ p.pos) (hq : 0 ≤ q.pos) : 0 ≤ x.pos ∧ 0 ≤ y.pos := by
  rcases pass_cases h with ⟨h1, rfl, rfl⟩ | ⟨h1, rfl, rfl⟩
  · exact ⟨by simp only [at_]; omega, hp⟩
  · exact ⟨hq, by simp only [at_]; omega⟩
/-- Three of which each two pass one another come to the same by either way. -/
theorem pass_three {p q r q1 p1 r1 p2 r2 q2 r3 q3 r4 p3 q4 p4 : Hu α} (i : pass p q = some (q1, p1)) (j : pass p1 r = some (r1, p2)) (k : pass q1 r1 = some (r2, q2))
    (l : pass q r = some (r3, q3)) (m : pass p r3 = some (r4, p3)) (n : pass p3 q3 = some (q4, p4)) : r2 = r4 ∧ q2 = q4 ∧ p2 = p4 := by
  rcases pass_cases i with ⟨i1, rfl, rfl⟩ | ⟨i1, rfl, rfl⟩ <;> rcases pass_cases j with ⟨j1, rfl, rfl⟩ | ⟨j1, rfl, rfl⟩ <;> rcases pass_cases k with ⟨k1, rfl, rfl⟩ | ⟨k1, rfl, rfl⟩ <;>
    rcases pass_cases l with ⟨l1, rfl, rfl⟩ | ⟨l1, rfl, rfl⟩ <;> rcases pass_cases m with ⟨m1, rfl, rfl⟩ | ⟨m1, rfl, rfl⟩ <;> rcases pass_cases n with ⟨n1, rfl, rfl⟩ | ⟨n1, rfl, rfl⟩ <;>
    simp only [at_] at i1 j1 k1 l1 m1 n1 <;>
    first
      | (exfalso; omega)
      | exact ⟨hu_ext (by simp only [at_] <;> omega) rfl rfl, hu_ext (by simp only [at_] <;> omega) rfl rfl, hu_ext (by simp only [at_] <;> omega) rfl rfl⟩

variable [DecidableEq α]

end
end Sw
end Go.Proofs.Ytdnkinajbebkoaa

namespace Go.Proofs.Ytdnkinajbebkoaa
namespace Tr

/-- An order of names: of two that are not the same just one is less; of three that go on so the first one is. -/
structure Lin {κ : Type} (lt : κ → κ → Bool) : Prop where
  irr : ∀ a, lt a a = false
  tr : ∀ {a b c}, lt a b = true → lt b c = true → lt a c = true
  tri : ∀ {a b}, a ≠ b → lt a b = true ∨ lt b a = true
theorem Lin.ne {κ : Type} {lt : κ → κ → Bool} (h : Lin lt) {a b : κ} (hab : lt a b = true) : a ≠ b := fun e => by subst e; rw [h.irr] at hab; cases hab

section
variable {κ β : Type}

/-- The names rise. -/
def Up (lt : κ → κ → Bool) (t : List (κ × β)) : Prop := t.Pairwise fun f g => lt f.1 g.1 = true

theorem up_keys {lt : κ → κ → Bool} {t : List (κ × β)} : Up lt t ↔ (t.map (·.1)).Pairwise fun a b => lt a b = true := by
  unfold Up; rw [List.pairwise_map]
/-- A file ahead of the first one of a greater name. -/
def ins (lt : κ → κ → Bool) : List (κ × β) → κ → β → List (κ × β)
  | [], n, l => [(n, l)]
  | f :: t, n, l => if lt n f.1 then (n, l) :: f :: t else f :: ins lt t n l

theorem ins_mem (lt : κ → κ → Bool) : ∀ (t : List (κ × β)) (n : κ) (l : β) (g : κ × β), g ∈ ins lt t n l ↔ g = (n, l) ∨ g ∈ t
  | [], n, l, g => by simp [ins]
  | f :: t, n, l, g => by
    unfold ins
    split
    · simp
    · rw [List.mem_cons, ins_mem lt t, List.mem_cons]
      constructor
      · rintro (h | h | h)
        · exact .inr (.inl h)
        · exact .inl h
        · exact .inr (.inr h)
      · rintro (h | h | h)
        · exact .inr (.inl h)
        · exact .inl h
        · exact .inr (.inr h)
theorem ins_len (lt : κ → κ → Bool) : ∀ (t : List (κ × β)) (n : κ) (l : β), (ins lt t n l).length = t.length + 1
  | [], n, l => rfl
  | f :: t, n, l => by
    unfold ins
    split
    · rfl
    · rw [List.length_cons, ins_len lt t, List.length_cons]

variable [DecidableEq κ]

/-- The lines of the first file of a name. -/
def get : List (κ × β) → κ → Option β
  | [], _ => none
  | f :: t, n => if f.1 = n then some f.2 else get t n
/-- The first file of a name has other lines. -/
def upd : List (κ × β) → κ → β → List (κ × β)
  | [], _, _ => []
  | f :: t, n, l => if f.1 = n then (n, l) :: t else f :: upd t n l
def put (lt : κ → κ → Bool) (t : List (κ × β)) (n : κ) (l : β) : List (κ × β) := if (get t n).isSome then upd t n l else ins lt t n l
/-- Without the first file of a name. -/
def del : List (κ × β) → κ → List (κ × β)
  | [], _ => []
  | f :: t, n => if f.1 = n then t else f :: del t n

theorem get_cons (f : κ × β) (t : List (κ × β)) (n : κ) : get (f :: t) n = if f.1 = n then some f.2 else get t n := rfl
theorem get_mem : ∀ {t : List (κ × β)} {n : κ} {l : β}, get t n = some l → (n, l) ∈ t
  | [], n, l, h => by cases h
  | f :: t, n, l, h => by
    rw [get_cons] at h
    split at h
    · rename_i e; injection h with h; subst e; subst h; exact List.mem_cons_self
    · exact List.mem_cons_of_mem _ (get_mem h)
theorem upd_keys : ∀ (t : List (κ × β)) (n : κ) (l : β), (upd t n l).map (·.1) = t.map (·.1)
  | [], _, _ => rfl
  | f :: t, n, l => by
    unfold upd
    split
    · rename_i h; rw [List.map_cons, List.map_cons, h]
    · rw [List.map_cons, List.map_cons, upd_keys t]
theorem upd_len (t : List (κ × β)) (n : κ) (l : β) : (upd t n l).length = t.length := by
  have := congrArg List.length (upd_keys t n l)
  simpa using this
theorem del_sub : ∀ (t : List (κ × β)) (n : κ), (del t n).Sublist t
  | [], _ => .slnil
  | f :: t, n => by
    unfold del
    split
    · exact List.sublist_cons_self f t
    · exact (del_sub t n).cons_cons f
theorem put_len (lt : κ → κ → Bool) (t : List (κ × β)) (n : κ) (l : β) : (put lt t n l).length = if (get t n).isSome then t.length else t.length + 1 := by
  unfold put
  split
  · exact upd_len t n l
  · exact ins_len lt t n l
end

section
variable {κ : Type} [DecidableEq κ]
end

end Tr
end Go.Proofs.Ytdnkinajbebkoaa

namespace Go.Proofs.Ytdnkinajbebkoaa
namespace Tr
open Tx

theorem bl_irr : ∀ a : List UInt8, Op.bytesLess a a = false
  | [] => rfl
  | a :: x => by rw [Op.bytesLess, bl_irr x]; simp
theorem bl_tr : ∀ {a b c : List UInt8}, Op.bytesLess a b = true → Op.bytesLess b c = true → Op.bytesLess a c = true
  | _, [], _, h, _ => by simp [Op.bytesLess] at h
  | [], _ :: _, [], _, h => by simp [Op.bytesLess] at h
  | [], _ :: _, _ :: _, _, _ => rfl
  | _ :: _, _ :: _, [], _, h => by simp [Op.bytesLess] at h
  | a :: x, b :: y, c :: z, h, h' => by
    simp only [Op.bytesLess, Bool.or_eq_true, Bool.and_eq_true, decide_eq_true_eq, beq_iff_eq] at h h' ⊢
    rcases h with h | ⟨rfl, h⟩ <;> rcases h' with h' | ⟨rfl, h'⟩
    · exact .inl (UInt8.lt_trans h h')
    · exact .inl h
    · exact .inl h'
    · exact .inr ⟨rfl, bl_tr h h'⟩
theorem bl_tri : ∀ {a b : List UInt8}, a ≠ b → Op.bytesLess a b = true ∨ Op.bytesLess b a = true
  | [], [], h => absurd rfl h
  | [], _ :: _, _ => .inl rfl
  | _ :: _, [], _ => .inr rfl
  | a :: x, b :: y, h => by
    simp only [Op.bytesLess, Bool.or_eq_true, Bool.and_eq_true, decide_eq_true_eq, beq_iff_eq]
    by_cases e : a = b
    · subst e
      rcases bl_tri (a := x) (b := y) (fun e => h (by rw [e])) with h1 | h1
      · exact .inl (.inr ⟨rfl, h1⟩)
      · exact .inr (.inr ⟨rfl, h1⟩)
    · have : a < b ∨ b < a := by
        have h1 : a.toNat ≠ b.toNat := fun h1 => e (UInt8.toNat_inj.1 h1)
        rcases Nat.lt_or_gt_of_ne h1 with h2 | h2
        · exact .inl (UInt8.lt_iff_toNat_lt.2 h2)
        · exact .inr (UInt8.lt_iff_toNat_lt.2 h2)
      rcases this with h1 | h1
      · exact .inl (.inl h1)
      · exact .inr (.inl h1)
/-- Names, byte by byte. -/
theorem lin : Lin Op.bytesLess := ⟨bl_irr, bl_tr, bl_tri⟩

abbrev FL : Type := List UInt8 × List (List UInt8)
abbrev TR : Type := List FL

section
variable {κ β : Type} {lt : κ → κ → Bool}

/-- Names rise, each against the one ahead of it. -/
def upB (lt : κ → κ → Bool) : List κ → Bool
  | [] => true
  | [_] => true
  | a :: b :: t => lt a b && upB lt (b :: t)
theorem upB_iff (hl : Lin lt) : ∀ {l : List κ}, upB lt l = true ↔ l.Pairwise fun a b => lt a b = true
  | [] => by simp [upB]
  | [a] => by simp [upB]
  | a :: b :: t => by
    rw [upB, Bool.and_eq_true, upB_iff hl, List.pairwise_cons (a := a)]
    constructor
    · rintro ⟨h1, h2⟩
      refine ⟨fun c hc => ?_, h2⟩
      rcases List.mem_cons.1 hc with rfl | hc
      · exact h1
      · exact hl.tr h1 ((List.pairwise_cons.1 h2).1 c hc)
    · rintro ⟨h1, h2⟩
      exact ⟨h1 b (by simp), h2⟩
/-- Names rise as far as they have been gone through. -/
theorem upB_take {l : List κ} : ∀ {k : Nat} (hk : k + 1 < l.length), upB lt (l.take (k + 2)) = (upB lt (l.take (k + 1)) && lt (l[k]'(by omega)) l[k + 1]) := by
  induction l with
  | nil => intro k hk; simp at hk
  | cons a l ih =>
    intro k hk
    cases l with
    | nil => simp at hk
    | cons b t =>
      cases k with
      | zero => simp [upB]
      | succ k =>
        have := ih (k := k) (by simpa using hk)
        simp only [List.take_succ_cons, upB, List.getElem_cons_succ] at this ⊢
        rw [this, Bool.and_assoc]
end

/-- A tree may be. -/
def mayT (t : TR) : Bool := decide (t.length ≤ 30) && ((t.all fun f => name f.1 && allMay f.2) && upB Op.bytesLess (t.map (·.1)))
theorem mayT_iff {t : TR} : mayT t = true ↔ t.length ≤ 30 ∧ (∀ f ∈ t, name f.1 = true ∧ allMay f.2 = true) ∧ Up Op.bytesLess t := by
  unfold mayT
  rw [Bool.and_eq_true, Bool.and_eq_true, upB_iff lin, ← up_keys, decide_eq_true_eq, List.all_eq_true]
  simp only [Bool.and_eq_true]
theorem mayT_up {t : TR} (h : mayT t = true) : Up Op.bytesLess t := (mayT_iff.1 h).2.2
section
variable {κ β : Type} [DecidableEq κ] {lt : κ → κ → Bool}
theorem upd_mem : ∀ {t : List (κ × β)} {n : κ} {l : β} {g : κ × β}, g ∈ upd t n l → g = (n, l) ∨ g ∈ t
  | [], _, _, _, h => by cases h
  | f :: t, n, l, g, h => by
    unfold upd at h
    split at h
    · rcases List.mem_cons.1 h with h | h
      · exact .inl h
      · exact .inr (List.mem_cons_of_mem _ h)
    · rcases List.mem_cons.1 h with h | h
      · exact .inr (by rw [h]; exact List.mem_cons_self ..)
      · rcases upd_mem h with h | h
        · exact .inl h
        · exact .inr (List.mem_cons_of_mem _ h)
theorem put_mem {t : List (κ × β)} {n : κ} {l : β} {g : κ × β} (h : g ∈ put lt t n l) : g = (n, l) ∨ g ∈ t := by
  unfold put at h
  split at h
  · exact upd_mem h
  · exact (ins_mem lt t n l g).1 h
end
section
variable {κ : Type} {lt : κ → κ → Bool}
variable [DecidableEq κ]
end

section
variable {κ β : Type} [DecidableEq κ]

end

section
variable {κ β : Type}

end

end Tr
end Go.Proofs.Ytdnkinajbebkoaa

set_option maxRecDepth 100000
namespace Go.Proofs.Ytdnkinajbebkoaa
open Go.RowKit
namespace Tx

set_option maxHeartbeats 400000 in
theorem stringslite_IndexByte (s : ByteArray) (c : Int) (w : World) :
    Calls Try.prog 78 #[.string s, .int .u8 c] w fun e w' => e = .returned (.int .i64 (Lib.indexByte s.data.toList c.toNat.toUInt8)) ∧ w = w' := by
  go_enter Try.func78, Try.ntmps78
  go_wp2
  rw [run_callFunc_extern Try.func91 (by kernel_rfl) (by kernel_rfl) (by kernel_rfl) (e := Extern.BytealgIndexByte.indexByte) (by kernel_rfl), Lib.run_indexByteString]
  simp only [Result.andThen]
  rw [Oper.upon_value]
  go_wp2
  go_ret
  exact ⟨rfl, rfl⟩

set_option maxHeartbeats 400000 in
theorem strings_IndexByte (s : ByteArray) (c : Int) (w : World) :
    Calls Try.prog 69 #[.string s, .int .u8 c] w fun e w' => e = .returned (.int .i64 (Lib.indexByte s.data.toList c.toNat.toUInt8)) ∧ w = w' := by
  go_enter Try.func69, Try.ntmps69
  go_wp2_with (go_at_call 78; refine (stringslite_IndexByte _ _ _).mono ?_; rintro e w' ⟨rfl, rfl⟩)
  go_ret
  exact ⟨rfl, rfl⟩

set_option maxHeartbeats 400000 in
theorem May (s : ByteArray) (w : World) :
    Calls Try.prog 58 #[.string s] w fun e w' => e = .returned (.bool (may s.data.toList)) ∧ w = w' := by
  have hl : s.data.toList.length = s.size := by simp only [ByteArray.size, Array.length_toList]
  have H := Lib.hid hl; clear hl
  have hi := indexByte_neg s.data.toList 10
  have HI := Lib.hid hi; clear hi
  by_cases h : s.size ≤ 80
  · go_enter Try.func58, Try.ntmps58
    go_wp2_with (go_at_call 69; refine (strings_IndexByte _ _ _).mono ?_; rintro e w' ⟨rfl, rfl⟩)
    go_ret
    exact ⟨ret_bool (by unfold may; rw [H.out, ← HI.out]; simp [h]), rfl⟩
  · go_enter Try.func58, Try.ntmps58
    go_wp2
    go_ret
    exact ⟨ret_bool (by unfold may; rw [H.out]; simp [h]), rfl⟩

theorem MayV (x : List UInt8) (w : World) :
    Calls Try.prog 58 #[strV x] w fun e w' => e = .returned (.bool (may x)) ∧ w = w' := by
  unfold strV
  have := May ⟨x.toArray⟩ w
  simpa using this

set_option maxHeartbeats 400000 in
theorem InName (c : UInt8) (w : World) :
    Calls Try.prog 57 #[.int .u8 c.toNat] w fun e w' => e = .returned (.bool (inName c)) ∧ w = w' := by
  have hc : c.toNat < 256 := c.toNat_lt
  generalize hn : c.toNat = n at *
  have H := Lib.hid hn; clear hn
  have hv : inName c = ((decide (97 ≤ n) && decide (n ≤ 122)) || (decide (48 ≤ n) && decide (n ≤ 57)) || decide (n = 46)) := by unfold inName; rw [H.out]
  have HV := Lib.hid hv; clear hv
  go_enter Try.func57, Try.ntmps57
  go_wp2
  all_goals
    go_ret
    exact ⟨ret_bool (by rw [HV.out, Bool.eq_iff_iff]; simp; omega), rfl⟩

theorem name_false {l : List UInt8} {c : UInt8} (hm : c ∈ l) (h : inName c = false) : name l = false := by
  have : l.all inName = false := by rw [List.all_eq_false]; exact ⟨c, hm, by simp [h]⟩
  simp [name, this]
theorem name_true {l : List UInt8} (h1 : 1 ≤ l.length) (h2 : l.length ≤ 16) (h : ∀ c ∈ l, inName c = true) : name l = true := by
  have : l.all inName = true := by rw [List.all_eq_true]; exact h
  simp [name, this, h1, h2]
theorem mem_data (s : ByteArray) (k : Nat) (h : k < s.size) : s[k] ∈ s.data.toList := by
  have : s[k] = s.data[k] := rfl
  rw [this]
  exact Array.getElem_mem_toList _
theorem take_data (s : ByteArray) (k : Nat) (h : k < s.size) : s.data.toList.take (k + 1) = s.data.toList.take k ++ [s[k]] := by
  rw [List.take_succ_eq_append_getElem (by rw [Array.length_toList]; exact h)]; rfl

set_option maxHeartbeats 400000 in
theorem Name (s : ByteArray) (w : World) (hs : s.size ≤ maxLen) :
    Calls Try.prog 40 #[.string s] w fun e w' => e = .returned (.bool (name s.data.toList)) ∧ w = w' := by
  have hl : s.data.toList.length = s.size := by simp only [ByteArray.size, Array.length_toList]
  have H := Lib.hid hl; clear hl
  unfold maxLen at hs
  by_cases h1 : s.size < 1
  · go_enter Try.func40, Try.ntmps40
    go_wp2
    go_ret
    exact ⟨ret_bool (by unfold name; rw [H.out]; simp; omega), rfl⟩
  · by_cases h2 : 16 < s.size
    · go_enter Try.func40, Try.ntmps40
      go_wp2
      go_ret
      exact ⟨ret_bool (by unfold name; rw [H.out]; simp; omega), rfl⟩
    · go_enter Try.func40, Try.ntmps40
      go_wp2
      go_loop [14] (fun i => ∃ k : Nat, k ≤ s.size ∧ i = .int .i64 k ∧ ∀ c ∈ s.data.toList.take k, inName c = true) (fun i => s.size - (intOf i).toNat)
      case atStart => exact ⟨0, Nat.zero_le _, rfl, by simp⟩
      case round =>
        obtain ⟨k, hk, rfl, hall⟩ := hrel
        have HA := Lib.hid hall; clear hall
        by_cases hlt : k < s.size
        · have hm := mem_data s k hlt
          have HT := Lib.hid (take_data s k hlt)
          cases hb : inName s[k] with
          | true =>
            go_wp2_with (go_at_call 57; refine (InName _ _).mono ?_; rintro e w' ⟨rfl, rfl⟩)
            go_round
            case rel => exact ⟨k + 1, by omega, by go_num, by rw [HT.out]; intro c hc; rcases List.mem_append.1 hc with h | h; exact HA.out c h; simp at h; rw [h]; exact hb⟩
            case measure => simp [intOf]; omega
          | false =>
            have HF := Lib.hid (name_false hm hb)
            go_wp2_with (go_at_call 57; refine (InName _ _).mono ?_; rintro e w' ⟨rfl, rfl⟩)
            go_ret
            exact ⟨ret_bool HF.out.symm, rfl⟩
        · have HF : Hid (name s.data.toList = true) := Lib.hid (name_true (by rw [H.out]; omega) (by rw [H.out]; omega) (by have := HA.out; rw [List.take_of_length_le (by rw [H.out]; omega)] at this; exact this))
          go_wp2
          go_ret
          exact ⟨ret_bool HF.out.symm, rfl⟩

end Tx
end Go.Proofs.Ytdnkinajbebkoaa

namespace Go.Proofs.Ytdnkinajbebkoaa
open Go.RowKit
namespace Tx

theorem allMay_false {ls : List (List UInt8)} {x : List UInt8} (hm : x ∈ ls) (h : may x = false) : allMay ls = false := by
  simp [allMay, not_all_of hm h]
theorem allMay_true {ls : List (List UInt8)} (hl : ls.length ≤ 200) (h : ∀ x ∈ ls, may x = true) : allMay ls = true := by
  simp [allMay, all_of h, hl]
set_option maxHeartbeats 400000 in
theorem All (A : Option Addr) (cap n B : Nat) (ls : List (List UInt8)) (w : World) (hn : ls.length = n) (hR : RdS w B A ls) :
    Calls Try.prog 41 #[.slice A n cap] w fun e w' => e = .returned (.bool (allMay ls)) ∧ w = w' := by
  have HN := Lib.hid hn; clear hn
  by_cases h1 : 200 < n
  · have HF : Hid (allMay ls = false) := Lib.hid (by unfold allMay; rw [HN.out]; simp; omega)
    go_enter Try.func41, Try.ntmps41
    go_wp2
    go_ret
    exact ⟨ret_bool HF.out.symm, rfl⟩
  · go_enter Try.func41, Try.ntmps41
    go_wp2
    go_loop [10] (fun i => ∃ k : Nat, k ≤ n ∧ i = .int .i64 k ∧ ∀ x ∈ ls.take k, may x = true) (fun i => n - (intOf i).toNat)
    case atStart => exact ⟨0, Nat.zero_le _, rfl, by simp⟩
    case round =>
      obtain ⟨k, hk, rfl, hall⟩ := hrel
      have HA := Lib.hid hall; clear hall
      by_cases hlt : k < n
      · have hkl : k < ls.length := by rw [HN.out]; exact hlt
        obtain ⟨a, rfl, hcell⟩ := hR.at' hkl
        cases hb : may ls[k] with
        | true =>
          go_wp2_with fail
          refine (MayV ls[k] _).mono ?_
          rintro e w' ⟨rfl, rfl⟩
          go_wp2
          go_round
          case rel => exact ⟨k + 1, by omega, by go_num, by rw [take_snoc' hkl]; intro c hc; rcases List.mem_append.1 hc with h | h; exact HA.out c h; simp at h; rw [h]; exact hb⟩
          case measure => simp [intOf]; omega
        | false =>
          have HF := Lib.hid (allMay_false (List.getElem_mem hkl) hb)
          go_wp2_with fail
          refine (MayV ls[k] _).mono ?_
          rintro e w' ⟨rfl, rfl⟩
          go_wp2
          go_ret
          exact ⟨ret_bool HF.out.symm, rfl⟩
      · have HF : Hid (allMay ls = true) := Lib.hid (allMay_true (by rw [HN.out]; omega) (by have := HA.out; rw [List.take_of_length_le (by rw [HN.out]; omega)] at this; exact this))
        go_wp2
        go_ret
        exact ⟨ret_bool HF.out.symm, rfl⟩

end Tx
end Go.Proofs.Ytdnkinajbebkoaa

namespace Go.Proofs.Ytdnkinajbebkoaa
open Go.RowKit
set_option linter.unusedVariables false
namespace Tx

end Tx
end Go.Proofs.Ytdnkinajbebkoaa

set_option maxRecDepth 100000
namespace Go.Proofs.Ytdnkinajbebkoaa
open Go.RowKit
set_option linter.unusedVariables false
namespace Sq
open Tx

set_option maxHeartbeats 400000 in
theorem Equal (A A' : Option Addr) (cap cap' n n' B : Nat) (ls ms : List (List UInt8)) (w : World) (hn : ls.length = n) (hn' : ms.length = n') (hnm : n ≤ maxLen) (hR : RdS w B A ls) (hR' : RdS w B A' ms) :
    Calls Try.prog 138 #[.slice A n cap, .slice A' n' cap'] w (SameEnd w (decide (ls = ms))) := by
  unfold maxLen at hnm
  have HN := Lib.hid hn; clear hn
  have HN' := Lib.hid hn'; clear hn'
  by_cases h1 : n = n'
  · subst h1
    go_enter Try.func138, Try.ntmps138
    go_wp2
    go_loopw [13] (fun i wr => ∃ k : Nat, k ≤ n ∧ i = .int .i64 k ∧ ls.take k = ms.take k ∧ ∃ d, wr = w.drewN d) (fun i _ => n - (intOf i).toNat)
    case atStart => exact ⟨0, Nat.zero_le _, rfl, by simp, 0, rfl⟩
    case round =>
      obtain ⟨k, hk, rfl, hall, d, rfl⟩ := hrel
      have HA := Lib.hid hall; clear hall
      by_cases hlt : k < n
      · have hkl : k < ls.length := by rw [HN.out]; exact hlt
        have hkm : k < ms.length := by rw [HN'.out]; exact hlt
        obtain ⟨a, rfl, hcell⟩ := hR.at' hkl
        obtain ⟨a', rfl, hcell'⟩ := hR'.at' hkm
        have HD := Lib.hid (same_step hkl hkm HA.out)
        have hki : (k : Int) < (n : Int) := by omega
        go_wp2
        go_quiet (fail)
        go_wp2
        · have hb : (!ls[k] == ms[k]) = true := by assumption
          go_ret
          exact ⟨ret_bool (HD.out.1 (by simpa using hb)).symm, d + nq, by simp⟩
        · have hb : (!ls[k] == ms[k]) = false := by assumption
          refine ⟨⟨k + 1, by omega, by go_num, HD.out.2 (by simpa using hb), _, rfl⟩, by simp [intOf]; omega⟩
      · have HD : Hid (decide (ls = ms) = true) := Lib.hid (by
          have := HA.out
          rw [List.take_of_length_le (by rw [HN.out]; omega), List.take_of_length_le (by rw [HN'.out]; omega)] at this
          exact decide_eq_true this)
        go_wp2
        go_ret
        exact ⟨ret_bool HD.out.symm, _, rfl⟩
  · have HD : Hid (decide (ls = ms) = false) := Lib.hid (decide_eq_false (fun e => h1 (by rw [← HN.out, ← HN'.out, e])))
    have hne : ((n : Int) != (n' : Int)) = true := by rw [bne_iff_ne]; omega
    go_enter Try.func138, Try.ntmps138
    go_wp2
    go_ret
    exact ⟨ret_bool HD.out.symm, 0, rfl⟩

end Sq
end Go.Proofs.Ytdnkinajbebkoaa

namespace Go.Proofs.Ytdnkinajbebkoaa
open Go.RowKit
set_option linter.unusedVariables false
namespace Sq
open Tx

end Sq
end Go.Proofs.Ytdnkinajbebkoaa

namespace Go.Proofs.Ytdnkinajbebkoaa
open Go.RowKit
set_option linter.unusedVariables false
namespace Sq
open Tx

end Sq
end Go.Proofs.Ytdnkinajbebkoaa

namespace Go.Proofs.Ytdnkinajbebkoaa
open Go.RowKit
set_option linter.unusedVariables false
namespace Sq
open Tx

end Sq
end Go.Proofs.Ytdnkinajbebkoaa

namespace Go.Proofs.Ytdnkinajbebkoaa
open Go.RowKit
set_option linter.unusedVariables false
namespace Sq
open Tx

end Sq
end Go.Proofs.Ytdnkinajbebkoaa

namespace Go.Proofs.Ytdnkinajbebkoaa
open Go.RowKit
set_option linter.unusedVariables false
namespace Sq
open Tx

end Sq
end Go.Proofs.Ytdnkinajbebkoaa

set_option maxRecDepth 100000
namespace Go.Proofs.Ytdnkinajbebkoaa
open Go.RowKit
set_option linter.unusedVariables false
namespace Hk
open Tx Df

abbrev HU : Type := Hu (List UInt8)

/-- The value of a hunk. -/
abbrev hkV (p : Int) (A : Option Addr) (n c : Nat) (A' : Option Addr) (n' c' : Nat) : Value := .agg #[.int .i64 p, .slice A n c, .slice A' n' c']

/-- Two slice values that read, below block B, as a hunk's lines. -/
structure HV (w : World) (B : Nat) (A : Option Addr) (n c : Nat) (A' : Option Addr) (n' c' : Nat) (h : HU) : Prop where
  l : h.old.length = n
  l' : h.new.length = n'
  k : n ≤ c
  k' : n' ≤ c'
  m : n ≤ maxLen
  m' : n' ≤ maxLen
  r : RdS w B A h.old
  r' : RdS w B A' h.new
  p : I64 h.pos

/-- The cells of a hunk at the address a, its lines below block B. -/
structure HkAt (w : World) (B : Nat) (a : Addr) (k : Nat) (h : HU) : Prop where
  c0 : w.cell? (a.add (k * 3)) = some (.int .i64 h.pos)
  c1 : ∃ A c A' c', w.cell? ⟨(a.add (k * 3)).block, (a.add (k * 3)).off + 1, none⟩ = some (.slice A h.old.length c) ∧ w.cell? ⟨(a.add (k * 3)).block, (a.add (k * 3)).off + 2, none⟩ = some (.slice A' h.new.length c') ∧ HV w B A h.old.length c A' h.new.length c' h

/-- The address A leads, below block B, to hunks; or there are none. -/
def RdH (w : World) (B : Nat) (A : Option Addr) (hs : List HU) : Prop :=
  hs = [] ∨ ∃ a, A = some a ∧ a.block < B ∧ ∀ (k : Nat) x, hs[k]? = some x → HkAt w B a k x

section
variable {w w' : World} {B B' : Nat} {A A' : Option Addr} {n c n' c' : Nat} {h : HU} {hs : List HU}
theorem HV.below (v : HV w B A n c A' n' c' h) (hb : Below B w w') : HV w' B A n c A' n' c' h := ⟨v.l, v.l', v.k, v.k', v.m, v.m', Rd.below v.r hb, Rd.below v.r' hb, v.p⟩
theorem HV.up (v : HV w B A n c A' n' c' h) (hB : B ≤ B') : HV w B' A n c A' n' c' h := ⟨v.l, v.l', v.k, v.k', v.m, v.m', Rd.up v.r hB, Rd.up v.r' hB, v.p⟩
theorem HV.drewN (v : HV w B A n c A' n' c' h) (d : Nat) : HV (w.drewN d) B A n c A' n' c' h := ⟨v.l, v.l', v.k, v.k', v.m, v.m', Rd.drewN v.r d, Rd.drewN v.r' d, v.p⟩
theorem HV.turn (v : HV w B A n c A' n' c' h) : HV w B A' n' c' A n c (turn h) := ⟨v.l', v.l, v.k', v.k, v.m', v.m, v.r', v.r, v.p⟩
theorem HkAt.below {a : Addr} {k : Nat} (x : HkAt w B a k h) (ha : a.block < B) (hb : Below B w w') : HkAt w' B a k h := by
  obtain ⟨c0, A, c, A', c', c1, c2, v⟩ := x
  exact ⟨(hb.cell (by rw [add_block]; exact ha)).trans c0, A, c, A', c', (hb.cell (by show (a.add (k * 3)).block < B; rw [add_block]; exact ha)).trans c1, (hb.cell (by show (a.add (k * 3)).block < B; rw [add_block]; exact ha)).trans c2, v.below hb⟩
theorem HkAt.up {a : Addr} {k : Nat} (x : HkAt w B a k h) (hB : B ≤ B') : HkAt w B' a k h := by
  obtain ⟨c0, A, c, A', c', c1, c2, v⟩ := x
  exact ⟨c0, A, c, A', c', c1, c2, v.up hB⟩
theorem RdH.below (h : RdH w B A hs) (hb : Below B w w') : RdH w' B A hs := by
  rcases h with h | ⟨a, e, hlt, hc⟩
  · exact .inl h
  · exact .inr ⟨a, e, hlt, fun k x hx => (hc k x hx).below hlt hb⟩
theorem RdH.up (h : RdH w B A hs) (hB : B ≤ B') : RdH w B' A hs := by
  rcases h with h | ⟨a, e, hlt, hc⟩
  · exact .inl h
  · exact .inr ⟨a, e, by omega, fun k x hx => (hc k x hx).up hB⟩
theorem RdH.at_ (h : RdH w B A hs) {k : Nat} (hk : k < hs.length) : ∃ a, A = some a ∧ a.block < B ∧ HkAt w B a k hs[k] := by
  rcases h with rfl | ⟨a, e, hlt, hc⟩
  · exact absurd hk (by simp)
  · exact ⟨a, e, hlt, hc k _ (List.getElem?_eq_getElem hk)⟩
end

def mayH (h : HU) : Bool := decide (0 ≤ h.pos) && decide (h.pos ≤ 1048576) && (allMay h.old && allMay h.new)
def sameH (g h : HU) : Bool := decide (g.pos = h.pos) && (decide (g.old = h.old) && decide (g.new = h.new))

end Hk
end Go.Proofs.Ytdnkinajbebkoaa

namespace Go.Proofs.Ytdnkinajbebkoaa
open Go.ChangeShapes Go.WideShapes Go.ChangeAt Go.RowKit Go.Deep Go.Joins
set_option linter.unusedVariables false
namespace Hk
open Tx Df

section
variable {H : Type} {enc : TypeId × Value → H} {W : World} {base : Nat} {spare : Nat → Bool} {held : Bool}

end

end Hk
end Go.Proofs.Ytdnkinajbebkoaa

namespace Go.Proofs.Ytdnkinajbebkoaa
open Go.RowKit
set_option linter.unusedVariables false
namespace Hk
open Tx Df

set_option maxHeartbeats 400000 in
theorem Equal (A A' : Option Addr) (cap cap' n n' B : Nat) (ls ms : List (List UInt8)) (w : World) (hn : ls.length = n) (hn' : ms.length = n') (hnm : n ≤ maxLen) (hR : RdS w B A ls) (hR' : RdS w B A' ms) :
    Calls Try.prog 62 #[.slice A n cap, .slice A' n' cap'] w (SameEnd w (decide (ls = ms))) := by
  unfold maxLen at hnm
  have HN := Lib.hid hn; clear hn
  have HN' := Lib.hid hn'; clear hn'
  by_cases h1 : n = n'
  · subst h1
    go_enter Try.func62, Try.ntmps62
    go_wp2
    go_loopw [13] (fun i wr => ∃ k : Nat, k ≤ n ∧ i = .int .i64 k ∧ ls.take k = ms.take k ∧ ∃ d, wr = w.drewN d) (fun i _ => n - (intOf i).toNat)
    case atStart => exact ⟨0, Nat.zero_le _, rfl, by simp, 0, rfl⟩
    case round =>
      obtain ⟨k, hk, rfl, hall, d, rfl⟩ := hrel
      have HA := Lib.hid hall; clear hall
      by_cases hlt : k < n
      · have hkl : k < ls.length := by rw [HN.out]; exact hlt
        have hkm : k < ms.length := by rw [HN'.out]; exact hlt
        obtain ⟨a, rfl, hcell⟩ := hR.at' hkl
        obtain ⟨a', rfl, hcell'⟩ := hR'.at' hkm
        have HD := Lib.hid (same_step hkl hkm HA.out)
        have hki : (k : Int) < (n : Int) := by omega
        go_wp2
        go_quiet (fail)
        go_wp2
        · have hb : (!ls[k] == ms[k]) = true := by assumption
          go_ret
          exact ⟨ret_bool (HD.out.1 (by simpa using hb)).symm, d + nq, by simp⟩
        · have hb : (!ls[k] == ms[k]) = false := by assumption
          refine ⟨⟨k + 1, by omega, by go_num, HD.out.2 (by simpa using hb), _, rfl⟩, by simp [intOf]; omega⟩
      · have HD : Hid (decide (ls = ms) = true) := Lib.hid (by
          have := HA.out
          rw [List.take_of_length_le (by rw [HN.out]; omega), List.take_of_length_le (by rw [HN'.out]; omega)] at this
          exact decide_eq_true this)
        go_wp2
        go_ret
        exact ⟨ret_bool HD.out.symm, _, rfl⟩
  · have HD : Hid (decide (ls = ms) = false) := Lib.hid (decide_eq_false (fun e => h1 (by rw [← HN.out, ← HN'.out, e])))
    have hne : ((n : Int) != (n' : Int)) = true := by rw [bne_iff_ne]; omega
    go_enter Try.func62, Try.ntmps62
    go_wp2
    go_ret
    exact ⟨ret_bool HD.out.symm, 0, rfl⟩

/-- How a test of hunks ends. -/
def TestEnd (w : World) (b : Bool) (e : Ending) (w' : World) : Prop := e = .returned (.bool b) ∧ Below w.heap.size w w'

theorem rd_alloc {w : World} {B : Nat} {A : Option Addr} {xs : List Value} (h : Rd w B A xs) (hB : B ≤ w.heap.size) (o : Obj) : Rd (w.alloc o) B A xs := h.below ((Below.refl _ _).alloc hB o)

set_option maxHeartbeats 400000 in
theorem LightH (A : Option Addr) (n c : Nat) (A' : Option Addr) (n' c' B : Nat) (h : HU) (w : World) (hB : B ≤ w.heap.size) (hv : HV w B A n c A' n' c' h) :
    Calls Try.prog 75 #[hkV h.pos A n c A' n' c'] w (TestEnd w (light h.old 300 && light h.new 300)) := by
  obtain ⟨l, l', k, k', m, m', r, r', p⟩ := hv
  have HL := Lib.hid l; have HL' := Lib.hid l'; clear l l'
  obtain ⟨b, hb⟩ : ∃ b, (light h.old 300 && light h.new 300) = b := ⟨_, rfl⟩
  rw [hb]
  have HB := Lib.hid hb; clear hb
  go_enter Try.func75, Try.ntmps75
  go_wp2_with fail
  refine (Light _ _ _ B 300 h.old _ HL.out m (rd_alloc r hB _) (by decide)).mono ?_
  rintro e w' ⟨rfl, rfl⟩
  go_wp2_with fail
  refine (Light _ _ _ B 300 h.new _ HL'.out m' (rd_alloc r' hB _) (by decide)).mono ?_
  rintro e w' ⟨rfl, rfl⟩
  cases ho : light h.old 300 with
  | true =>
    have HO := Lib.hid ho; clear ho
    go_wp2
    go_ret
    exact ⟨ret_bool (by rw [← HB.out, HO.out]; simp), (Below.refl _ _).alloc (Nat.le_refl _) _⟩
  | false =>
    have HO := Lib.hid ho; clear ho
    go_wp2
    go_ret
    exact ⟨ret_bool (by rw [← HB.out, HO.out]; simp), (Below.refl _ _).alloc (Nat.le_refl _) _⟩

set_option maxHeartbeats 400000 in
theorem May (A : Option Addr) (n c : Nat) (A' : Option Addr) (n' c' B : Nat) (h : HU) (w : World) (hB : B ≤ w.heap.size) (hv : HV w B A n c A' n' c' h) :
    Calls Try.prog 101 #[hkV h.pos A n c A' n' c'] w (TestEnd w (mayH h)) := by
  obtain ⟨l, l', k, k', m, m', r, r', p⟩ := hv
  have HL := Lib.hid l; have HL' := Lib.hid l'; clear l l'
  have HM : Hid (mayH h = (decide (0 ≤ h.pos) && decide (h.pos ≤ 1048576) && (allMay h.old && allMay h.new))) := Lib.hid rfl
  have HP := Lib.hid p; clear p
  generalize mayH h = mh at *
  generalize h.pos = q at *
  by_cases h0 : 0 ≤ q
  · by_cases h1 : q ≤ 1048576
    · have HM1 : Hid (mh = (allMay h.old && allMay h.new)) := Lib.hid (by rw [HM.out, decide_eq_true h0, decide_eq_true h1]; rfl)
      clear HM
      cases ho : allMay h.old with
      | true =>
        have HO := Lib.hid ho; clear ho
        go_enter Try.func101, Try.ntmps101
        go_wp2_with fail
        refine (All _ _ _ B h.old _ HL.out (rd_alloc r hB _)).mono ?_
        rw [HO.out]
        rintro e w' ⟨rfl, rfl⟩
        go_wp2_with fail
        refine (All _ _ _ B h.new _ HL'.out (rd_alloc r' hB _)).mono ?_
        rintro e w' ⟨rfl, rfl⟩
        go_wp2
        go_ret
        exact ⟨ret_bool (by rw [HM1.out, HO.out]; simp), (Below.refl _ _).alloc (Nat.le_refl _) _⟩
      | false =>
        have HO := Lib.hid ho; clear ho
        go_enter Try.func101, Try.ntmps101
        go_wp2_with fail
        refine (All _ _ _ B h.old _ HL.out (rd_alloc r hB _)).mono ?_
        rw [HO.out]
        rintro e w' ⟨rfl, rfl⟩
        go_wp2
        go_ret
        exact ⟨ret_bool (by rw [HM1.out, HO.out]; simp), (Below.refl _ _).alloc (Nat.le_refl _) _⟩
    · have HM1 : Hid (mh = false) := Lib.hid (by rw [HM.out, decide_eq_false h1]; simp)
      clear HM
      go_enter Try.func101, Try.ntmps101
      go_wp2
      go_ret
      exact ⟨ret_bool (by rw [HM1.out]), (Below.refl _ _).alloc (Nat.le_refl _) _⟩
  · have HM1 : Hid (mh = false) := Lib.hid (by rw [HM.out, decide_eq_false h0]; simp)
    clear HM
    go_enter Try.func101, Try.ntmps101
    go_wp2
    go_ret
    exact ⟨ret_bool (by rw [HM1.out]), (Below.refl _ _).alloc (Nat.le_refl _) _⟩

/-- Two boxes. -/
theorem below_two (w : World) (o o' : Obj) (d : Nat) : Below w.heap.size w (((w.alloc o).alloc o').drewN d) := below_drewN (((Below.refl _ _).alloc (Nat.le_refl _) o).alloc (by simp) o') d
theorem rd_two {w : World} {B : Nat} {A : Option Addr} {xs : List Value} (h : Rd w B A xs) (hB : B ≤ w.heap.size) (o o' : Obj) (d : Nat) : Rd (((w.alloc o).alloc o').drewN d) B A xs := h.below ((below_two w o o' d).mono hB)

set_option maxHeartbeats 1000000 in
theorem SameH (A : Option Addr) (n c : Nat) (A' : Option Addr) (n' c' : Nat) (D : Option Addr) (m k : Nat) (D' : Option Addr) (m' k' B : Nat) (h g : HU) (w : World) (hB : B ≤ w.heap.size) (hv : HV w B A n c A' n' c' h) (gv : HV w B D m k D' m' k' g) :
    Calls Try.prog 125 #[hkV h.pos A n c A' n' c', hkV g.pos D m k D' m' k'] w (TestEnd w (sameH h g)) := by
  have HL := Lib.hid hv.l; have HL' := Lib.hid hv.l'; have GL := Lib.hid gv.l; have GL' := Lib.hid gv.l'
  have hm := hv.m; have hm' := hv.m'
  have R := Lib.hid hv.r; have R' := Lib.hid hv.r'; have Q := Lib.hid gv.r; have Q' := Lib.hid gv.r'
  clear hv gv
  obtain ⟨b, hb⟩ : ∃ b, sameH h g = b := ⟨_, rfl⟩
  rw [hb]
  have HS : Hid (b = (decide (h.pos = g.pos) && (decide (h.old = g.old) && decide (h.new = g.new)))) := Lib.hid (by rw [← hb]; rfl)
  clear hb
  generalize h.pos = p at *
  generalize g.pos = q at *
  by_cases hp : p = q
  · subst hp
    have HS1 : Hid (b = (decide (h.old = g.old) && decide (h.new = g.new))) := Lib.hid (by rw [HS.out, decide_eq_true rfl]; rfl)
    clear HS
    go_enter Try.func125, Try.ntmps125
    go_wp2_with fail
    refine (Equal _ _ _ _ _ _ B h.old g.old _ HL.out GL.out hm (rd_two R.out hB _ _ 0) (rd_two Q.out hB _ _ 0)).mono ?_
    rintro e w' ⟨rfl, d, rfl⟩
    cases ho : decide (h.old = g.old) with
    | true =>
      have HO := Lib.hid ho; clear ho
      go_wp2_with fail
      refine (Equal _ _ _ _ _ _ B h.new g.new _ HL'.out GL'.out hm' (rd_two R'.out hB _ _ _) (rd_two Q'.out hB _ _ _)).mono ?_
      rintro e w' ⟨rfl, d', rfl⟩
      go_wp2
      go_ret
      exact ⟨ret_bool (by rw [HS1.out, HO.out]; simp), by simpa using below_two w _ _ _⟩
    | false =>
      have HO := Lib.hid ho; clear ho
      go_wp2
      go_ret
      exact ⟨ret_bool (by rw [HS1.out, HO.out]; simp), by simpa using below_two w _ _ _⟩
  · have HS1 : Hid (b = false) := Lib.hid (by rw [HS.out, decide_eq_false hp]; rfl)
    clear HS
    have hne : (p == q) = false := by rw [beq_eq_false_iff_ne]; exact hp
    clear hp
    go_enter Try.func125, Try.ntmps125
    go_wp2
    go_ret
    exact ⟨ret_bool (by rw [HS1.out]), ((Below.refl _ _).alloc (Nat.le_refl _) _).alloc (by simp) _⟩

end Hk
end Go.Proofs.Ytdnkinajbebkoaa

namespace Go.Proofs.Ytdnkinajbebkoaa
open Go.RowKit
set_option linter.unusedVariables false
namespace Hk
open Tx Df Sq

/-- The error that Apply answers, and the list. -/
def applyE (l : List (List UInt8)) (h : HU) : Int := if mayH h then (if has l h.pos h.old then 0 else 5) else 1
def applyL (l : List (List UInt8)) (h : HU) : List (List UInt8) := if mayH h && has l h.pos h.old then swp l h.pos.toNat h.old.length h.new else []
theorem applyL_len {l : List (List UInt8)} {h : HU} : (applyL l h).length ≤ l.length + h.new.length := by
  unfold applyL
  split
  · simp only [swp, List.length_append, List.length_take, List.length_drop]; omega
  · simp

theorem mayH_new {h : HU} (hm : mayH h = true) : h.new.length ≤ 200 := by
  unfold mayH allMay at hm
  simp only [Bool.and_eq_true, decide_eq_true_eq] at hm
  omega
theorem mayH_old {h : HU} (hm : mayH h = true) : h.old.length ≤ 200 := by
  unfold mayH allMay at hm
  simp only [Bool.and_eq_true, decide_eq_true_eq] at hm
  omega

end Hk
end Go.Proofs.Ytdnkinajbebkoaa

namespace Go.Proofs.Ytdnkinajbebkoaa
open Go.RowKit
set_option linter.unusedVariables false
namespace Hk
open Tx Df Sq

theorem mayH_turn (h : HU) : mayH (turn h) = mayH h := by
  unfold mayH turn
  simp only
  rw [Bool.and_comm (allMay h.new)]
theorem sameH_self (h : HU) : sameH h h = true := by simp [sameH]
end Hk
end Go.Proofs.Ytdnkinajbebkoaa

namespace Go.Proofs.Ytdnkinajbebkoaa
open Go.RowKit
set_option linter.unusedVariables false
namespace Hk
open Tx Df

end Hk
end Go.Proofs.Ytdnkinajbebkoaa

namespace Go.Proofs.Ytdnkinajbebkoaa
open Go.RowKit
set_option linter.unusedVariables false
namespace Hk
open Tx Df Sq

set_option maxHeartbeats 1000000 in
theorem refSameH (A : Option Addr) (n c : Nat) (A' : Option Addr) (n' c' : Nat) (D : Option Addr) (m k : Nat) (D' : Option Addr) (m' k' B : Nat) (h g : HU) (w : World) (hB : B ≤ w.heap.size) (hv : HV w B A n c A' n' c' h) (gv : HV w B D m k D' m' k' g) :
    Calls Try.prog 77 #[hkV h.pos A n c A' n' c', hkV g.pos D m k D' m' k'] w (TestEnd w (sameH h g)) := by
  have HL := Lib.hid hv.l; have HL' := Lib.hid hv.l'; have GL := Lib.hid gv.l; have GL' := Lib.hid gv.l'
  have hm := hv.m; have hm' := hv.m'
  have R := Lib.hid hv.r; have R' := Lib.hid hv.r'; have Q := Lib.hid gv.r; have Q' := Lib.hid gv.r'
  clear hv gv
  obtain ⟨b, hb⟩ : ∃ b, sameH h g = b := ⟨_, rfl⟩
  rw [hb]
  have HS : Hid (b = (decide (h.pos = g.pos) && (decide (h.old = g.old) && decide (h.new = g.new)))) := Lib.hid (by rw [← hb]; rfl)
  clear hb
  generalize h.pos = p at *
  generalize g.pos = q at *
  go_enter Try.func77, Try.ntmps77
  go_wp2_with fail
  refine (Same _ _ _ _ _ _ B h.old g.old _ HL.out GL.out hm (rd_two R.out hB _ _ 0) (rd_two Q.out hB _ _ 0)).mono ?_
  rintro e w' ⟨rfl, d, rfl⟩
  go_wp2_with fail
  refine (Same _ _ _ _ _ _ B h.new g.new _ HL'.out GL'.out hm' (rd_two R'.out hB _ _ _) (rd_two Q'.out hB _ _ _)).mono ?_
  rintro e w' ⟨rfl, d', rfl⟩
  cases ho : decide (h.old = g.old) with
  | false =>
    have HO : Hid (b = false) := Lib.hid (by rw [HS.out, ho]; simp)
    clear ho HS
    go_wp2
    go_ret
    exact ⟨ret_bool (by rw [HO.out]), by simpa using below_two w _ _ _⟩
  | true =>
  cases hn : decide (h.new = g.new) with
  | false =>
    have HO : Hid (b = false) := Lib.hid (by rw [HS.out, hn]; simp)
    clear ho hn HS
    go_wp2
    go_ret
    exact ⟨ret_bool (by rw [HO.out]), by simpa using below_two w _ _ _⟩
  | true =>
  by_cases hp : p = q
  · have HO : Hid (b = true) := Lib.hid (by rw [HS.out, ho, hn, decide_eq_true hp]; rfl)
    clear ho hn HS
    subst hp
    go_wp2
    go_ret
    exact ⟨ret_bool (by rw [HO.out]), by simpa using below_two w _ _ _⟩
  · have HO : Hid (b = false) := Lib.hid (by rw [HS.out, decide_eq_false hp]; rfl)
    have hne : (p == q) = false := by rw [beq_eq_false_iff_ne]; exact hp
    clear ho hn HS hp
    go_wp2
    go_ret
    exact ⟨ret_bool (by rw [HO.out]), by simpa using below_two w _ _ _⟩

end Hk
end Go.Proofs.Ytdnkinajbebkoaa

set_option maxRecDepth 100000
namespace Go.Proofs.Ytdnkinajbebkoaa
open Go.RowKit
set_option linter.unusedVariables false
namespace Tr
open Tx

/-- The value of a file. -/
abbrev flV (s : List UInt8) (A : Option Addr) (n c : Nat) : Value := .agg #[strV s, .slice A n c]

/-- The cells of a file at the address a, its lines below block B. -/
structure FlAt (w : World) (B : Nat) (a : Addr) (k : Nat) (x : FL) : Prop where
  c0 : w.cell? (a.add (k * 2)) = some (strV x.1)
  c1 : ∃ A c, w.cell? ⟨(a.add (k * 2)).block, (a.add (k * 2)).off + 1, none⟩ = some (.slice A x.2.length c) ∧ x.2.length ≤ c ∧ RdS w B A x.2

/-- The address A leads, below block B, to files; or there are none. -/
def RdT (w : World) (B : Nat) (A : Option Addr) (t : TR) : Prop :=
  t = [] ∨ ∃ a, A = some a ∧ a.block < B ∧ ∀ (k : Nat) x, t[k]? = some x → FlAt w B a k x

/-- What is small enough for all walks. -/
structure SmallF (x : FL) : Prop where
  n : x.1.length ≤ 100000
  l : x.2.length ≤ 100000
  s : ∀ l ∈ x.2, l.length ≤ 100000
structure Small (t : TR) : Prop where
  len : t.length ≤ 100000
  all : ∀ x ∈ t, SmallF x

/-- What the walks of the program's own functions need: what fits a memory. -/
structure Wide (t : TR) : Prop where
  len : t.length ≤ 3518437208800
  all : ∀ x ∈ t, x.2.length ≤ 8796093021952
theorem Small.wide {t : TR} (h : Small t) : Wide t := ⟨by have := h.len; omega, fun x hx => by have := (h.all x hx).l; omega⟩
section
variable {w w' : World} {B B' : Nat} {A : Option Addr} {t : TR} {x : FL}
theorem FlAt.below {a : Addr} {k : Nat} (h : FlAt w B a k x) (ha : a.block < B) (hb : Below B w w') : FlAt w' B a k x := by
  obtain ⟨c0, A, c, c1, c2, c3⟩ := h
  exact ⟨(hb.cell (by rw [add_block]; exact ha)).trans c0, A, c, (hb.cell (by show (a.add (k * 2)).block < B; rw [add_block]; exact ha)).trans c1, c2, Rd.below c3 hb⟩
theorem FlAt.up {a : Addr} {k : Nat} (h : FlAt w B a k x) (hB : B ≤ B') : FlAt w B' a k x := by
  obtain ⟨c0, A, c, c1, c2, c3⟩ := h
  exact ⟨c0, A, c, c1, c2, Rd.up c3 hB⟩
theorem RdT.below (h : RdT w B A t) (hb : Below B w w') : RdT w' B A t := by
  rcases h with h | ⟨a, e, hlt, hc⟩
  · exact .inl h
  · exact .inr ⟨a, e, hlt, fun k x hx => (hc k x hx).below hlt hb⟩
theorem RdT.up (h : RdT w B A t) (hB : B ≤ B') : RdT w B' A t := by
  rcases h with h | ⟨a, e, hlt, hc⟩
  · exact .inl h
  · exact .inr ⟨a, e, by omega, fun k x hx => (hc k x hx).up hB⟩
theorem RdT.to (h : RdT w B A t) (hB : B ≤ w.heap.size) (hb : Below w.heap.size w w') : RdT w' w'.heap.size A t := ((h.up hB).below hb).up hb.size
theorem RdT.at_ (h : RdT w B A t) {k : Nat} (hk : k < t.length) : ∃ a, A = some a ∧ a.block < B ∧ FlAt w B a k t[k] := by
  rcases h with rfl | ⟨a, e, hlt, hc⟩
  · exact absurd hk (by simp)
  · exact ⟨a, e, hlt, hc k _ (List.getElem?_eq_getElem hk)⟩
theorem RdT.drewN (h : RdT w B A t) (d : Nat) : RdT (w.drewN d) B A t := by
  rcases h with h | ⟨a, e, hlt, hc⟩
  · exact .inl h
  · refine .inr ⟨a, e, hlt, fun k x hx => ?_⟩
    obtain ⟨c0, A, c, c1, c2, c3⟩ := hc k x hx
    exact ⟨by simpa using c0, A, c, by simpa using c1, c2, Rd.drewN c3 d⟩
theorem RdT.nil (w : World) (B : Nat) (A : Option Addr) : RdT w B A [] := .inl rfl
end

/-- How a function ends that tells lines, or that there are none. -/
def GetEnd (w : World) (o : Option (List (List UInt8))) (e : Ending) (w' : World) : Prop :=
  ∃ A c, e = .returned (.tuple #[.slice A (o.getD []).length c, .bool o.isSome]) ∧ (o.getD []).length ≤ c ∧ RdS w' w'.heap.size A (o.getD []) ∧ Below w.heap.size w w'
/-- The same, the lines in memory that is new. -/
def GetEndH (w : World) (o : Option (List (List UInt8))) (e : Ending) (w' : World) : Prop :=
  ∃ A c, e = .returned (.tuple #[.slice A (o.getD []).length c, .bool o.isSome]) ∧ (o.getD []).length ≤ c ∧ RdS w' w'.heap.size A (o.getD []) ∧ Hi w.heap.size A ∧ Below w.heap.size w w'
theorem GetEndH.end_ {w w' : World} {o : Option (List (List UInt8))} {e : Ending} (h : GetEndH w o e w') : GetEnd w o e w' := by
  obtain ⟨A, c, h1, h2, h3, _, h4⟩ := h
  exact ⟨A, c, h1, h2, h3, h4⟩
def BoolEnd (w : World) (b : Bool) (e : Ending) (w' : World) : Prop := e = .returned (.bool b) ∧ Below w.heap.size w w'
def IntEnd (w : World) (i : Int) (e : Ending) (w' : World) : Prop := e = .returned (.int .i64 i) ∧ Below w.heap.size w w'

/-- Lines that are read, in another block than row. -/
def RdX (W : World) (row : Option Nat) (A : Option Addr) (ls : List (List UInt8)) : Prop :=
  RdS W W.heap.size A ls ∧ (ls = [] ∨ ∀ a, A = some a → some a.block ≠ row)
theorem RdX.gr {W W' : World} {row : Option Nat} {A : Option Addr} {ls : List (List UInt8)} (h : RdX W row A ls) (hg : W.grownBy W' row) : RdX W' row A ls := by
  refine ⟨?_, h.2⟩
  rcases h.2 with rfl | hne
  · exact .inl rfl
  · rcases h.1 with hn | ⟨a, e, hlt, hc⟩
    · exact .inl hn
    · exact .inr ⟨a, e, Nat.lt_of_lt_of_le hlt hg.size, fun j u hu => cell_gr hg (by rw [add_block]; exact hne a e) (hc j u hu)⟩
theorem below_gr_row {W W' : World} (hb : Below W.heap.size W W') : W.grownBy W' none := ⟨hb.os, hb.tape, hb.output, hb.size, fun k hk _ => hb.block k hk⟩
theorem gr_none {W W' : World} {row : Option Nat} (hg : W.grownBy W' none) : W.grownBy W' row := ⟨hg.os, hg.tape, hg.output, hg.size, fun k hk _ => hg.block k hk (nn k)⟩
theorem RdX.of {W : World} {B : Nat} {row : Option Nat} {A : Option Addr} {ls : List (List UInt8)} (h : RdS W B A ls) (hB : B ≤ W.heap.size) (hr : ∀ g, row = some g → B ≤ g) : RdX W row A ls := by
  refine ⟨Rd.up h hB, ?_⟩
  rcases h with h | ⟨a, e, hlt, _⟩
  · exact .inl (List.map_eq_nil_iff.1 h)
  · exact .inr fun a' e' hne => by
      rw [e] at e'; injection e' with e'; subst e'
      have := hr a.block hne.symm
      omega
/-- Lines in a row of one's own, behind the row of files. -/
theorem RdX.own {W : World} {base n g : Nat} {A : Option Addr} {c : Nat} {ls : List (List UInt8)} (h : W.ownsRow base 9 1 (.slice A n c) n (ls.map strV)) (hg : g < base) : RdX W (some g) A ls := by
  obtain ⟨A', c', e, _, hr⟩ := rd_of_own h
  cases e
  refine ⟨hr, ?_⟩
  cases A with
  | none => exact .inr fun a e => by cases e
  | some a =>
    refine .inr fun a' e hne => ?_
    have := own_ge h a.block rfl
    injection e with e; subst e
    injection hne with hne
    omega

/-- The cells of files, as far as they go; their lines lie in other blocks than row. -/
def FCells (W : World) (row : Option Nat) (t : TR) (xs : List Value) : Prop :=
  ∀ (k : Nat) x, t[k]? = some x → ∃ A c, xs[k * 2]? = some (strV x.1) ∧ xs[k * 2 + 1]? = some (.slice A x.2.length c) ∧ x.2.length ≤ c ∧ RdX W row A x.2
theorem FCells.gr {W W' : World} {row : Option Nat} {t : TR} {xs : List Value} (h : FCells W row t xs) (hg : W.grownBy W' row) : FCells W' row t xs := fun k x hx => by
  obtain ⟨A, c, h1, h2, h3, h4⟩ := h k x hx
  exact ⟨A, c, h1, h2, h3, h4.gr hg⟩
/-- Where the row turns to a new one. -/
theorem FCells.turn {W W' : World} {row row' : Option Nat} {t : TR} {xs : List Value} (h : FCells W row t xs) (hb : Below W.heap.size W W') (hr : ∀ g, row' = some g → W.heap.size ≤ g) : FCells W' row' t xs := fun k x hx => by
  obtain ⟨A, c, h1, h2, h3, h4⟩ := h k x hx
  exact ⟨A, c, h1, h2, h3, RdX.of (Rd.below h4.1 hb) hb.size hr⟩
theorem FCells.nil (W : World) (row : Option Nat) (xs : List Value) : FCells W row [] xs := fun k x hx => by simp at hx

/-- Files in a row of one's own. -/
def OwnT (W : World) (base : Nat) (v : Value) (t : TR) : Prop := ∃ xs, W.ownsRow base 72 2 v t.length xs ∧ FCells W v.ownBlock t xs

/-- A row of files of one's own is read as files. -/
theorem rdT_own {W : World} {base : Nat} {v : Value} {t : TR} (h : OwnT W base v t) : ∃ A c, v = .slice A t.length c ∧ t.length ≤ c ∧ RdT W W.heap.size A t := by
  obtain ⟨xs, hr, hF⟩ := h
  rcases hr.2 with ⟨rfl, h0⟩ | ⟨g, cap, cur, rfl, _, hg, hc, _⟩
  · have : t = [] := List.eq_nil_of_length_eq_zero h0
    subst this
    exact ⟨none, 0, rfl, Nat.le_refl _, .inl rfl⟩
  · refine ⟨_, cap, rfl, hc, .inr ⟨_, rfl, (Array.getElem?_eq_some_iff.1 hg).1, fun k x hx => ?_⟩⟩
    obtain ⟨A, c, g1, g2, g3, g4⟩ := hF k x hx
    have hk : k < t.length := (List.getElem?_eq_some_iff.1 hx).1
    have ea : (⟨g, 0, none⟩ : Addr).add (k * 2) = ⟨g, k * 2, none⟩ := by unfold Addr.add; split <;> simp_all
    refine ⟨?_, A, c, ?_, g3, g4.1⟩
    · rw [ea, hr.cellAt (k * 2) (by omega)]; exact g1
    · rw [ea]; show W.cell? ⟨g, k * 2 + 1, none⟩ = _; rw [hr.cellAt (k * 2 + 1) (by omega)]; exact g2
theorem info_file : (Try.prog.info? 72).map (fun i => (i.zero, i.size, i.bytes)) = some (some (.agg #[.string ⟨#[]⟩, .slice none 0 0]), 2, 40) := by kernel_rfl

end Tr
end Go.Proofs.Ytdnkinajbebkoaa

namespace Go.Proofs.Ytdnkinajbebkoaa
open Go.RowKit
set_option linter.unusedVariables false
namespace Tr
open Tx

/-- What holds of the files gone through. -/
structure MayT (t : TR) (k : Nat) : Prop where
  m : ∀ x ∈ t.take k, name x.1 = true ∧ allMay x.2 = true
  u : upB Op.bytesLess ((t.take k).map (·.1)) = true
theorem MayT.zero (t : TR) : MayT t 0 := ⟨fun x hx => by simp at hx, rfl⟩
theorem MayT.done {t : TR} (h : MayT t t.length) (hl : t.length ≤ 30) : mayT t = true := by
  obtain ⟨h1, h2⟩ := h
  rw [List.take_length] at h1 h2
  unfold mayT
  rw [h2, Bool.and_true, Bool.and_eq_true, decide_eq_true_eq, List.all_eq_true]
  exact ⟨hl, fun x hx => by rw [Bool.and_eq_true]; exact h1 x hx⟩
theorem mayT_bad {t : TR} {x : FL} (hm : x ∈ t) (h : name x.1 = false ∨ allMay x.2 = false) : mayT t = false := by
  have : (t.all fun f => name f.1 && allMay f.2) = false := by
    rw [List.all_eq_false]
    exact ⟨x, hm, by rcases h with h | h <;> rw [h] <;> simp⟩
  unfold mayT
  rw [this]; simp
theorem mayT_fall {t : TR} {j : Nat} (hj : j + 1 < t.length) (h : Op.bytesLess t[j].1 t[j + 1].1 = false) : mayT t = false := by
  cases hm : mayT t with
  | false => rfl
  | true =>
    have hu := mayT_up hm
    have := List.pairwise_iff_getElem.1 hu j (j + 1) (by omega) hj (by omega)
    rw [h] at this; cases this
theorem MayT.first {t : TR} (hk : 0 < t.length) (h1 : name t[0].1 = true) (h2 : allMay t[0].2 = true) : MayT t 1 := by
  cases t with
  | nil => simp at hk
  | cons x t =>
    refine ⟨fun y hy => ?_, rfl⟩
    simp at hy
    subst hy
    exact ⟨h1, h2⟩
theorem MayT.next {t : TR} {j : Nat} (h : MayT t (j + 1)) (hj : j + 1 < t.length) (h1 : name t[j + 1].1 = true) (h2 : allMay t[j + 1].2 = true) (h3 : Op.bytesLess t[j].1 t[j + 1].1 = true) : MayT t (j + 1 + 1) := by
  refine ⟨fun y hy => ?_, ?_⟩
  · rw [take_snoc' hj] at hy
    rcases List.mem_append.1 hy with hy | hy
    · exact h.m y hy
    · simp at hy; subst hy; exact ⟨h1, h2⟩
  · have := h.u
    rw [List.map_take] at this ⊢
    rw [upB_take (by simpa using hj), this, Bool.true_and]
    simpa using h3

theorem NameV (x : List UInt8) (w : World) (n : Nat) (b : Bool) (hx : x.length ≤ maxLen) (hb : name x = b) : Calls Try.prog 40 #[strV x] (w.drewN n) fun e w' => e = .returned (.bool b) ∧ w' = w.drewN n := by
  have := Name ⟨x.toArray⟩ (w.drewN n) (by rw [size_strV]; exact hx)
  refine this.mono fun e w' ⟨h1, h2⟩ => ⟨?_, h2.symm⟩
  rw [h1, ← hb]
theorem AllV (A : Option Addr) (c n B : Nat) (ls : List (List UInt8)) (w : World) (m : Nat) (b : Bool) (hn : ls.length = n) (hR : RdS w B A ls) (hb : allMay ls = b) : Calls Try.prog 41 #[.slice A n c] (w.drewN m) fun e w' => e = .returned (.bool b) ∧ w' = w.drewN m := by
  refine (All A c n B ls (w.drewN m) hn (Rd.drewN hR m)).mono fun e w' ⟨h1, h2⟩ => ⟨?_, h2.symm⟩
  rw [h1, hb]

set_option maxRecDepth 100000 in
set_option maxHeartbeats 4000000 in
theorem May (A : Option Addr) (c n B : Nat) (t : TR) (w : World) (hn : t.length = n) (hfit : ∀ x ∈ t, x.1.length ≤ maxLen ∧ x.2.length ≤ maxLen) (hB : B ≤ w.heap.size) (hR : RdT w B A t) :
    Calls Try.prog 21 #[.slice A n c] w (BoolEnd w (mayT t)) := by
  have HN := Lib.hid hn; have R := Lib.hid hR; have HFIT := Lib.hid hfit
  clear hn hR hfit
  by_cases h30 : 30 < n
  · have HF : Hid (mayT t = false) := Lib.hid (by unfold mayT; rw [HN.out]; simp; omega)
    go_enter Try.func21, Try.ntmps21
    go_wp2
    go_ret
    exact ⟨ret_bool HF.out.symm, Below.refl _ _⟩
  · go_enter Try.func21, Try.ntmps21
    go_wp2
    go_loopw [10] (fun i wr => ∃ k : Nat, k ≤ n ∧ i = .int .i64 k ∧ MayT t k ∧ Below w.heap.size w wr) (fun i _ => n - (intOf i).toNat)
    case atStart => exact ⟨0, Nat.zero_le _, rfl, MayT.zero t, Below.refl _ _⟩
    case round =>
      obtain ⟨k, hk, rfl, hall, hbw⟩ := hrel
      have HA := Lib.hid hall; have HBW := Lib.hid hbw; clear hall hbw
      by_cases hlt : k < n
      · have hkt : k < t.length := by rw [HN.out]; exact hlt
        have RW := Lib.hid (RdT.below R.out (HBW.out.mono hB))
        have HBB : Hid (B ≤ wr.heap.size) := Lib.hid (Nat.le_trans hB HBW.out.size)
        obtain ⟨a, rfl, hab, hat⟩ := RW.out.at_ hkt
        have hfx := HFIT.out _ (List.getElem_mem hkt)
        obtain ⟨x, hx⟩ : ∃ x, t[k] = x := ⟨_, rfl⟩
        rw [hx] at hat hfx
        have HX := Lib.hid hx
        have HMEM : Hid (x ∈ t) := Lib.hid (by rw [← hx]; exact List.getElem_mem hkt)
        obtain ⟨c0, A1, c1, k1, _, r1⟩ := hat
        obtain ⟨m1, hm1⟩ : ∃ m, x.2.length = m := ⟨_, rfl⟩
        rw [hm1] at k1
        have hbl := Blk.new wr 72 #[strV x.1, .slice A1 m1 c1]
        have hba : Below wr.heap.size wr (wr.alloc (.cells #[strV x.1, .slice A1 m1 c1] 72)) := (Below.refl _ _).alloc (Nat.le_refl _) _
        obtain ⟨W, hW⟩ : ∃ W, wr.alloc (.cells #[strV x.1, .slice A1 m1 c1] 72) = W := ⟨_, rfl⟩
        rw [hW] at hbl hba
        have hnm := fun b d hb => NameV x.1 W d b hfx.1 hb
        have hal := fun b d hb => AllV A1 c1 m1 B x.2 W d b hm1 (Rd.below r1 (hba.mono HBB.out)) hb
        have HBL := Lib.hid hbl; have HBA := Lib.hid hba; have HNM := Lib.hid hnm; have HAL := Lib.hid hal
        have HBD : Hid (∀ d, Below w.heap.size w (W.drewN d)) := Lib.hid (fun d => below_drewN (HBW.out.trans (hba.mono HBW.out.size)) d)
        have HW := Lib.hid hW
        clear hbl hba hnm hal hm1 r1 hfx hW
        go_wp2_with fail
        rw [HW.out]
        clear HW
        obtain ⟨g, hg⟩ : ∃ g, wr.heap.size = g := ⟨_, rfl⟩
        rw [hg] at HBL ⊢
        clear hg
        have x0 : W.cell? ⟨g, 0, none⟩ = some (strV x.1) := HBL.out.cell 0 rfl
        have x1 : W.cell? ⟨g, 1, none⟩ = some (.slice A1 m1 c1) := HBL.out.cell 1 rfl
        cases h1 : name x.1 with
        | false =>
          have HM1 := Lib.hid (fun d => HNM.out false d h1)
          have HF := Lib.hid (mayT_bad HMEM.out (.inl h1))
          clear h1 hx
          go_quiet (with_reducible exact Calls.quiet_of_same (HM1.out _))
          go_wp2
          go_ret
          exact ⟨ret_bool HF.out.symm, HBD.out _⟩
        | true =>
          have HM1 := Lib.hid (fun d => HNM.out true d h1)
          cases h2 : allMay x.2 with
          | false =>
            have HM2 := Lib.hid (fun d => HAL.out false d h2)
            have HF := Lib.hid (mayT_bad HMEM.out (.inr h2))
            clear h1 h2 hx
            go_quiet (first | (with_reducible exact Calls.quiet_of_same (HM1.out _)) | (with_reducible exact Calls.quiet_of_same (HM2.out _)))
            go_wp2
            go_ret
            exact ⟨ret_bool HF.out.symm, HBD.out _⟩
          | true =>
            have HM2 := Lib.hid (fun d => HAL.out true d h2)
            rcases Nat.eq_zero_or_pos k with hk0 | hk0
            · subst hk0
              have HNX := Lib.hid (MayT.first hkt (by rw [hx]; exact h1) (by rw [hx]; exact h2))
              clear h1 h2 hx
              go_quiet (first | (with_reducible exact Calls.quiet_of_same (HM1.out _)) | (with_reducible exact Calls.quiet_of_same (HM2.out _)))
              go_wp2
              go_roundw
              case rel => exact ⟨1, by omega, rfl, HNX.out, HBD.out _⟩
              case measure => simp [intOf]; omega
            · obtain ⟨j, hj⟩ : ∃ j, k = j + 1 := ⟨k - 1, by omega⟩
              subst hj
              obtain ⟨a', ea, _, hat'⟩ := RW.out.at_ (show j < t.length by omega)
              injection ea with ea
              subst ea
              obtain ⟨y, hy⟩ : ∃ y, t[j] = y := ⟨_, rfl⟩
              rw [hy] at hat'
              have c0y := hat'.c0
              have y0 : W.cell? (a.add (j * 2)) = some (strV y.1) := (HBA.out.cell (p := a.add (j * 2)) (World.block_lt_of_cell? wr _ c0y)).trans c0y
              clear hat' c0y
              have w1 : IntKind.i64.wrap (((j + 1 : Nat) : Int) - 1) = (j : Int) := by rw [IntWalk.i64_in _ (by omega)]; omega
              have w1' : IntKind.i64.wrap ((j : Int) + 1 - 1) = (j : Int) := by rw [IntWalk.i64_in _ (by omega)]; omega
              have w2 : (0 : Int) < (j : Int) + 1 := by omega
              have w3 : (j : Int) < (n : Int) := by omega
              have w4 : (0 : Int) ≤ (j : Int) := by omega
              cases h3 : Op.bytesLess y.1 x.1 with
              | true =>
                have HNX := Lib.hid (MayT.next HA.out hkt (by rw [hx]; exact h1) (by rw [hx]; exact h2) (by rw [hx, hy]; exact h3))
                clear h1 h2 hx hy
                go_quiet (first | (with_reducible exact Calls.quiet_of_same (HM1.out _)) | (with_reducible exact Calls.quiet_of_same (HM2.out _)))
                clear w1 w1'
                go_wp2
                go_roundw
                case rel => exact ⟨j + 1 + 1, by omega, by go_num, HNX.out, HBD.out _⟩
                case measure => simp [intOf]; omega
              | false =>
                have HF := Lib.hid (mayT_fall hkt (by rw [hx, hy]; exact h3))
                clear h1 h2 hx hy
                go_quiet (first | (with_reducible exact Calls.quiet_of_same (HM1.out _)) | (with_reducible exact Calls.quiet_of_same (HM2.out _)))
                clear w1 w1'
                go_wp2
                go_ret
                exact ⟨ret_bool HF.out.symm, HBD.out _⟩
      · obtain rfl : k = n := by omega
        have HF : Hid (mayT t = true) := Lib.hid (by have := HA.out; rw [← HN.out] at this; exact this.done (by rw [HN.out]; omega))
        go_wp2
        go_ret
        exact ⟨ret_bool HF.out.symm, HBW.out⟩

end Tr
end Go.Proofs.Ytdnkinajbebkoaa

namespace Go.Proofs.Ytdnkinajbebkoaa
open Go.ChangeShapes Go.WideShapes Go.ChangeAt Go.RowKit Go.Deep
set_option linter.unusedVariables false
namespace Tr
open Tx

section
variable {H : Type} {enc : TypeId × Value → H} {W : World} {base : Nat} {spare : Nat → Bool} {held : Bool}

end

def lightT (t : TR) : Bool := decide (t.length ≤ 40) && t.all fun x => light x.2 300 && decide (x.1.length ≤ 100)
theorem lightT_small {t : TR} (h : lightT t = true) : t.length ≤ 40 ∧ Small t := by
  simp only [lightT, Bool.and_eq_true, decide_eq_true_eq, List.all_eq_true] at h
  refine ⟨h.1, ⟨by omega, fun x hx => ?_⟩⟩
  obtain ⟨h1, h2⟩ := h.2 x hx
  simp only [light, Bool.and_eq_true, decide_eq_true_eq, List.all_eq_true] at h1
  exact ⟨by omega, by omega, fun l hl => by have := h1.2 l hl; omega⟩

end Tr
end Go.Proofs.Ytdnkinajbebkoaa

namespace Go.Proofs.Ytdnkinajbebkoaa
open Go.RowKit
set_option linter.unusedVariables false
namespace Tr
open Tx

end Tr
end Go.Proofs.Ytdnkinajbebkoaa

namespace Go.Proofs.Ytdnkinajbebkoaa
open Go.RowKit
set_option linter.unusedVariables false
namespace Tr
open Tx

theorem FCells.take {W : World} {row : Option Nat} {t : TR} {xs : List Value} (h : FCells W row t xs) (p : Nat) : FCells W row (t.take p) (xs.take (p * 2)) := fun k x hx => by
  rw [List.getElem?_take] at hx
  split at hx
  · rename_i hk
    obtain ⟨A, c, h1, h2, h3, h4⟩ := h k x hx
    exact ⟨A, c, by rw [List.getElem?_take, if_pos (by omega)]; exact h1, by rw [List.getElem?_take, if_pos (by omega)]; exact h2, h3, h4⟩
  · cases hx
theorem FCells.drop {W : World} {row : Option Nat} {t : TR} {xs : List Value} (h : FCells W row t xs) (p : Nat) : FCells W row (t.drop p) (xs.drop (p * 2)) := fun k x hx => by
  rw [List.getElem?_drop] at hx
  obtain ⟨A, c, h1, h2, h3, h4⟩ := h (p + k) x hx
  exact ⟨A, c, by rw [List.getElem?_drop, show p * 2 + k * 2 = (p + k) * 2 by omega]; exact h1, by rw [List.getElem?_drop, show p * 2 + (k * 2 + 1) = (p + k) * 2 + 1 by omega]; exact h2, h3, h4⟩
theorem FCells.append {W : World} {row : Option Nat} {t u : TR} {xs ys : List Value} (h : FCells W row t xs) (hl : xs.length = t.length * 2) (h' : FCells W row u ys) : FCells W row (t ++ u) (xs ++ ys) := fun k x hx => by
  rcases Nat.lt_or_ge k t.length with hk | hk
  · rw [List.getElem?_append_left hk] at hx
    obtain ⟨A, c, h1, h2, h3, h4⟩ := h k x hx
    exact ⟨A, c, by rw [List.getElem?_append_left (by omega)]; exact h1, by rw [List.getElem?_append_left (by omega)]; exact h2, h3, h4⟩
  · rw [List.getElem?_append_right hk] at hx
    obtain ⟨A, c, h1, h2, h3, h4⟩ := h' _ x hx
    refine ⟨A, c, ?_, ?_, h3, h4⟩
    · rw [List.getElem?_append_right (by omega), hl, show k * 2 - t.length * 2 = (k - t.length) * 2 by omega]; exact h1
    · rw [List.getElem?_append_right (by omega), hl, show k * 2 + 1 - t.length * 2 = (k - t.length) * 2 + 1 by omega]; exact h2
theorem FCells.one {W : World} {row : Option Nat} {x : FL} {A : Option Addr} {m c : Nat} (hm : x.2.length = m) (hc : m ≤ c) (hr : RdX W row A x.2) : FCells W row [x] [strV x.1, .slice A m c] := fun k y hy => by
  cases k with
  | zero =>
    cases hy
    subst hm
    exact ⟨A, c, rfl, rfl, hc, hr⟩
  | succ k => simp at hy
/-- One file more. -/
theorem FCells.ins {W : World} {row : Option Nat} {t : TR} {xs : List Value} {s : List UInt8} {l : List (List UInt8)} {A : Option Addr} {m c p : Nat} (h : FCells W row t xs) (hl : xs.length = t.length * 2) (hp : p ≤ t.length) (hm : l.length = m) (hc : m ≤ c) (hr : RdX W row A l) :
    FCells W row (t.take p ++ (s, l) :: t.drop p) (xs.take (p * 2) ++ ([strV s, .slice A m c] ++ xs.drop (p * 2))) :=
  (h.take p).append (by rw [List.length_take, List.length_take, hl]; omega) ((FCells.one (x := (s, l)) hm hc hr).append rfl (h.drop p))
/-- One file less. -/
theorem FCells.del {W : World} {row : Option Nat} {t : TR} {xs : List Value} {p : Nat} (h : FCells W row t xs) (hl : xs.length = t.length * 2) (hp : p ≤ t.length) : FCells W row (t.take p ++ t.drop (p + 1)) (xs.take (p * 2) ++ xs.drop ((p + 1) * 2)) :=
  (h.take p).append (by rw [List.length_take, List.length_take, hl]; omega) (h.drop (p + 1))

theorem FCells.one_cell {W : World} {row : Option Nat} {t : TR} {xs : List Value} (h : FCells W row t xs) (hl : xs.length = t.length * 2) : ∀ u ∈ xs, u.oneCell' = true := by
  intro u hu
  obtain ⟨j, hj, rfl⟩ := List.mem_iff_getElem.1 hu
  have hk : j / 2 < t.length := by omega
  obtain ⟨A, c, h1, h2, _⟩ := h (j / 2) t[j / 2] (List.getElem?_eq_getElem hk)
  rcases Nat.mod_two_eq_zero_or_one j with e | e
  · have : xs[j]? = some (strV t[j / 2].1) := by rw [← h1]; congr 1; omega
    rw [List.getElem?_eq_getElem hj] at this
    injection this with this
    rw [this]; simp [Value.oneCell']
  · have : xs[j]? = some (.slice A t[j / 2].2.length c) := by rw [← h2]; congr 1; omega
    rw [List.getElem?_eq_getElem hj] at this
    injection this with this
    rw [this]; simp [Value.oneCell']

end Tr
end Go.Proofs.Ytdnkinajbebkoaa

namespace Go.Proofs.Ytdnkinajbebkoaa
open Go.RowKit
set_option linter.unusedVariables false
namespace Tr
open Tx

section
variable {P : Program} {w : World}
theorem run_append_none {t ty e : TypeId} {i : TypeInfo} {A A' : Option Addr} {n c c' : Nat} (ht : P.underlying t = some (.slice e)) (hi : P.info? e = some i) (hnc : n ≤ c) :
    (Builtin.append_ #[t, t] ty #[.slice A n c, .slice A' 0 c']).run P w = .ok (.slice A n c) w := by
  have hl : ∀ a : Addr, (loadCells a 0).run P w = .ok #[] w := fun a => by
    have := run_loadCells_list (P := P) w a [] (by simp)
    exact this
  cases A <;> cases A' <;> simp [Builtin.append_, run_underlying ht, sizeOf, typeInfo, hi, Builtin.lenOf, Builtin.firstCells, hnc, storeCells, hl]
end

/-- Files appended onto a row of one's own. -/
theorem run_ownT {W : World} {ty : TypeId} {base m c : Nat} {v : Value} {A : Option Addr} {t u : TR} {ys : List Value} (h : OwnT W base v t) (hu : FCells W v.ownBlock u ys) (hyl : ys.length = u.length * 2) (hsrc : ys = [] ∨ ∃ a, A = some a ∧ ∀ j x, ys[j]? = some x → W.cell? (a.add j) = some x)
    (hm : u.length = m) (hn : t.length + m ≤ 100000) (hbase : base ≤ W.heap.size) :
    ∃ v' W', (Builtin.append_ #[33, 33] ty #[v, .slice A m c]).run Try.prog W = .ok v' W' ∧ OwnT W' base v' (t ++ u) ∧ W.grownBy W' v.ownBlock := by
  obtain ⟨i0, hi0, hz0, hz1, hz2⟩ := info_parts info_file
  obtain ⟨xs, hrow, hF⟩ := h
  have h1 := hu.one_cell hyl
  by_cases h0 : m = 0
  · have hu0 : u = [] := List.eq_nil_of_length_eq_zero (by omega)
    subst hu0
    obtain ⟨A0, c0, rfl, hc0, _⟩ := rdT_own ⟨xs, hrow, hF⟩
    subst h0
    exact ⟨_, W, run_append_none Try.underlying33 hi0 hc0, by rw [List.append_nil]; exact ⟨xs, hrow, hF⟩, ⟨rfl, rfl, rfl, Nat.le_refl _, fun _ _ _ => rfl⟩⟩
  · obtain ⟨a, rfl, hcell⟩ : ∃ a, A = some a ∧ ∀ j x, ys[j]? = some x → W.cell? (a.add j) = some x := by
      rcases hsrc with hy | h
      · rw [hy] at hyl; simp at hyl; omega
      · exact h
    obtain ⟨g, cap, W', hr, r1, r2, r3, r4⟩ := run_append_lies (P := Try.prog) (w := W) 33 ty base 72 i0 _ 2 40 Try.underlying33 hi0 hz0 hz1 hz2 rfl (by decide) v t.length xs hrow a m c ys (by rw [hyl, hm]) hcell h1 (by omega) (by unfold maxLen; omega) (by omega) hbase W.heap.size rfl
    refine ⟨_, W', hr, ⟨xs ++ ys, by rw [List.length_append, hm]; exact r1, ?_⟩, r2⟩
    have hJ := (hF.append hrow.1 hu)
    rcases r3 with r3 | r3
    · rw [r3] at hJ r2
      exact hJ.gr r2
    · have : FCells W (some g) (t ++ u) (xs ++ ys) := fun k x hx => by
        obtain ⟨A, c, h1, h2, h3, h4, h5⟩ := hJ k x hx
        refine ⟨A, c, h1, h2, h3, RdX.of h4 (Nat.le_refl _) fun g' e => by injection e with e; omega⟩
      intro k x hx
      obtain ⟨A, c, h1, h2, h3, h4, h5⟩ := hJ k x hx
      obtain ⟨A', c', h1', h2', h3', h4', h5'⟩ := this k x hx
      obtain ⟨h6, _⟩ := RdX.gr (row := v.ownBlock) ⟨h4, h5⟩ r2
      have e1 : Value.slice A x.2.length c = Value.slice A' x.2.length c' := by rw [h2] at h2'; injection h2'
      injection e1 with e1 _ e2
      subst e1; subst e2
      exact ⟨A, c, h1, h2, h3, h6, h5'⟩

theorem ownT_nil (W : World) (base : Nat) : OwnT W base (.slice none 0 0) [] := ⟨[], World.ownsRow_nil _ _ _ _, FCells.nil _ _ _⟩
theorem ownT_ge {W : World} {base : Nat} {v : Value} {t : TR} (h : OwnT W base v t) : ∀ k, v.ownBlock = some k → base ≤ k := fun k hk => (h.elim fun xs h => own_ge h.1 k hk)
theorem OwnT.below {W W' : World} {base : Nat} {v : Value} {t : TR} (h : OwnT W base v t) (hb : Below W.heap.size W W') : OwnT W' base v t := by
  obtain ⟨xs, h1, h2⟩ := h
  exact ⟨xs, own_gr h1 (below_gr_row hb), h2.gr (gr_none (below_gr_row hb))⟩

end Tr
end Go.Proofs.Ytdnkinajbebkoaa

namespace Go.Proofs.Ytdnkinajbebkoaa
open Go.RowKit
set_option linter.unusedVariables false
namespace Tr
open Tx

/-- One file that is read, appended. -/
theorem one_src {wr : World} {g B : Nat} {v : Value} {D : TR} {x : FL} {A : Option Addr} {m c : Nat} {t : TypeId} (hown : OwnT wr g v D) (hm : x.2.length = m) (hc : m ≤ c) (hr : RdS wr B A x.2) (hB : B ≤ g) (hg : g ≤ wr.heap.size) :
    OwnT (wr.alloc (.cells #[strV x.1, .slice A m c] t)) g v D ∧ FCells (wr.alloc (.cells #[strV x.1, .slice A m c] t)) v.ownBlock [x] [strV x.1, .slice A m c] ∧
      (∀ j u, ([strV x.1, .slice A m c] : List Value)[j]? = some u → (wr.alloc (.cells #[strV x.1, .slice A m c] t)).cell? ((⟨wr.heap.size, 0, none⟩ : Addr).add j) = some u) ∧ g ≤ (wr.alloc (.cells #[strV x.1, .slice A m c] t)).heap.size := by
  have hb : Below wr.heap.size wr (wr.alloc (.cells #[strV x.1, .slice A m c] t)) := (Below.refl _ _).alloc (Nat.le_refl _) _
  have hBW : B ≤ wr.heap.size := Nat.le_trans hB hg
  refine ⟨hown.below hb, FCells.one hm hc (RdX.of (Rd.below hr (hb.mono hBW)) (Nat.le_trans hBW hb.size) fun k hk => Nat.le_trans hB (ownT_ge hown k hk)), ?_, Nat.le_trans hg hb.size⟩
  exact World.news_of_block (cs := #[strV x.1, .slice A m c]) (t := t) (fr := (0, 0)) (Blk.new wr t _)

end Tr
end Go.Proofs.Ytdnkinajbebkoaa

namespace Go.Proofs.Ytdnkinajbebkoaa
open Go.RowKit
set_option linter.unusedVariables false
namespace Tr
open Tx

end Tr
end Go.Proofs.Ytdnkinajbebkoaa

namespace Go.Proofs.Ytdnkinajbebkoaa
open Go.RowKit
set_option linter.unusedVariables false
namespace Tr
open Tx

theorem FCells.set {W : World} {g k c : Nat} {t1 t2 : TR} {xs : List Value} {x : FL} {A : Option Addr} (h : FCells W (some g) t1 xs) (hj : ∀ j y, j ≠ k → t2[j]? = some y → t1[j]? = some y) (hk : ∀ y, t2[k]? = some y → y = x)
    (hlen : k * 2 + 1 < xs.length) (hc : x.2.length ≤ c) (hr : RdX W (some g) A x.2) : FCells W (some g) t2 ((xs.set (k * 2) (strV x.1)).set (k * 2 + 1) (.slice A x.2.length c)) := by
  intro j y hy
  by_cases e : j = k
  · subst e
    obtain rfl := hk y hy
    refine ⟨A, c, ?_, ?_, hc, hr⟩
    · rw [List.getElem?_set_ne (by omega), List.getElem?_set_self (by omega)]
    · rw [List.getElem?_set_self (by rw [List.length_set]; omega)]
  · obtain ⟨A', c', h1, h2, h3, h4⟩ := h j y (hj j y e hy)
    refine ⟨A', c', ?_, ?_, h3, h4⟩
    · rw [List.getElem?_set_ne (by omega), List.getElem?_set_ne (by omega)]; exact h1
    · rw [List.getElem?_set_ne (by omega), List.getElem?_set_ne (by omega)]; exact h2

end Tr
end Go.Proofs.Ytdnkinajbebkoaa

namespace Go.Proofs.Ytdnkinajbebkoaa
open Go.RowKit
set_option linter.unusedVariables false
namespace Tr
open Tx

end Tr
end Go.Proofs.Ytdnkinajbebkoaa

namespace Go.Proofs.Ytdnkinajbebkoaa
open Go.RowKit
set_option linter.unusedVariables false
namespace Tr
open Tx

end Tr
end Go.Proofs.Ytdnkinajbebkoaa

namespace Go.Proofs.Ytdnkinajbebkoaa
open Go.ChangeShapes Go.WideShapes Go.ChangeAt Go.RowKit Go.Deep
set_option linter.unusedVariables false
namespace Tr
open Tx

section
variable {H : Type} {enc : TypeId × Value → H} {W : World} {base : Nat} {spare : Nat → Bool} {held : Bool}

end

end Tr
end Go.Proofs.Ytdnkinajbebkoaa

namespace Go.Proofs.Ytdnkinajbebkoaa
open Go.RowKit
set_option linter.unusedVariables false
namespace Tr
open Tx

theorem find1 (s nm : List UInt8) (A : Option Addr) (n c b : Nat) (W : World) (hb : b < W.heap.size) (hc : W.cell? ⟨b, 0, none⟩ = some (strV nm)) :
    Calls Try.prog 127 #[flV s A n c, .pointer (some ⟨b, 0, none⟩)] W (BoolEnd W (decide (s = nm))) := by
  go_enter Try.func127, Try.ntmps127
  go_wp2
  go_ret
  exact ⟨ret_bool (by rw [Bool.eq_iff_iff]; simp), (Below.refl _ _).alloc (Nat.le_refl _) _⟩

end Tr
end Go.Proofs.Ytdnkinajbebkoaa

namespace Go.Proofs.Ytdnkinajbebkoaa
open Go.RowKit
set_option linter.unusedVariables false
namespace Tr
open Tx

end Tr
end Go.Proofs.Ytdnkinajbebkoaa

set_option maxRecDepth 100000
namespace Go.Proofs.Ytdnkinajbebkoaa
namespace Pr
open Tx Sq Hk Tr
set_option linter.unusedVariables false

/-- A change. -/
structure Ch where
  k : Int
  nm : List UInt8
  to : List UInt8
  h : HU

theorem ch_ext {p q : Ch} (h1 : p.k = q.k) (h2 : p.nm = q.nm) (h3 : p.to = q.to) (h4 : p.h = q.h) : p = q := by
  cases p; cases q; simp only at h1 h2 h3 h4; subst h1 h2 h3 h4; rfl

def noneH : HU := ⟨0, [], []⟩
/-- A hunk without lines, at 0. -/
def noH (h : HU) : Bool := decide (h.pos = 0) && (decide (h.old.length = 0) && decide (h.new.length = 0))
theorem noH_iff {h : HU} : noH h = true ↔ h = noneH := by
  unfold noH
  simp only [Bool.and_eq_true, decide_eq_true_eq, List.length_eq_zero_iff]
  constructor
  · rintro ⟨h1, h2, h3⟩
    cases h; simp only at h1 h2 h3; subst h1 h2 h3; rfl
  · rintro rfl
    exact ⟨rfl, rfl, rfl⟩

def mayP (p : Ch) : Bool :=
  if p.k = 0 ∨ p.k = 1 then name p.nm && (decide (p.to = []) && noH p.h)
  else if p.k = 2 then name p.nm && (name p.to && (decide (p.to ≠ p.nm) && noH p.h))
  else if p.k = 3 then name p.nm && (decide (p.to = []) && mayH p.h)
  else if p.k = 4 then name p.nm && (decide (p.to = []) && (mayH p.h && decide (p.h.pos = 0)))
  else false
theorem mayP_cases {p : Ch} : mayP p = true ↔ name p.nm = true ∧ (((p.k = 0 ∨ p.k = 1) ∧ p.to = [] ∧ p.h = noneH) ∨ (p.k = 2 ∧ name p.to = true ∧ p.to ≠ p.nm ∧ p.h = noneH) ∨ (p.k = 3 ∧ p.to = [] ∧ mayH p.h = true) ∨ (p.k = 4 ∧ p.to = [] ∧ mayH p.h = true ∧ p.h.pos = 0)) := by
  unfold mayP
  by_cases h0 : p.k = 0 ∨ p.k = 1
  · have n2 : ¬ p.k = 2 := by omega
    have n3 : ¬ p.k = 3 := by omega
    have n4 : ¬ p.k = 4 := by omega
    rw [if_pos h0]
    simp [h0, n2, n3, n4, noH_iff]
  · rw [if_neg h0]
    by_cases h2 : p.k = 2
    · simp [h2, noH_iff]
    · rw [if_neg h2]
      by_cases h3 : p.k = 3
      · simp [h3]
      · rw [if_neg h3]
        by_cases h4 : p.k = 4
        · simp [h4]
        · rw [if_neg h4]
          simp [h0, h2, h3, h4]

def sameP (p q : Ch) : Bool := decide (p.k = q.k) && (decide (p.nm = q.nm) && (decide (p.to = q.to) && sameH p.h q.h))
theorem sameP_self (p : Ch) : sameP p p = true := by simp [sameP, sameH_self]
theorem sameP_iff {p q : Ch} : sameP p q = true ↔ p = q := by
  unfold sameP sameH
  simp only [Bool.and_eq_true, decide_eq_true_eq]
  constructor
  · rintro ⟨h1, h2, h3, h4, h5, h6⟩
    refine ch_ext h1 h2 h3 ?_
    generalize p.h = a at *
    generalize q.h = b at *
    cases a; cases b; simp only at h4 h5 h6; subst h4 h5 h6; rfl
  · rintro rfl
    exact ⟨rfl, rfl, rfl, rfl, rfl, rfl⟩

/-- A change turned. -/
def turnP (p : Ch) : Ch :=
  if p.k = 0 then ⟨1, p.nm, p.to, p.h⟩
  else if p.k = 1 then ⟨0, p.nm, p.to, p.h⟩
  else if p.k = 2 then ⟨p.k, p.to, p.nm, p.h⟩
  else ⟨p.k, p.nm, p.to, turn p.h⟩
theorem turnP_0 {p : Ch} (h : p.k = 0) : turnP p = ⟨1, p.nm, p.to, p.h⟩ := by unfold turnP; rw [if_pos h]
theorem turnP_1 {p : Ch} (h : p.k = 1) : turnP p = ⟨0, p.nm, p.to, p.h⟩ := by unfold turnP; rw [if_neg (by omega), if_pos h]
theorem turnP_2 {p : Ch} (h : p.k = 2) : turnP p = ⟨2, p.to, p.nm, p.h⟩ := by unfold turnP; rw [if_neg (by omega), if_neg (by omega), if_pos h, h]
theorem turnP_h {p : Ch} (h0 : p.k ≠ 0) (h1 : p.k ≠ 1) (h2 : p.k ≠ 2) : turnP p = ⟨p.k, p.nm, p.to, turn p.h⟩ := by unfold turnP; rw [if_neg h0, if_neg h1, if_neg h2]
theorem turnP_turnP (p : Ch) : turnP (turnP p) = p := by
  by_cases h0 : p.k = 0
  · rw [turnP_0 h0, turnP_1 rfl]; exact ch_ext h0.symm rfl rfl rfl
  · by_cases h1 : p.k = 1
    · rw [turnP_1 h1, turnP_0 rfl]; exact ch_ext h1.symm rfl rfl rfl
    · by_cases h2 : p.k = 2
      · rw [turnP_2 h2, turnP_2 rfl]; exact ch_ext h2.symm rfl rfl rfl
      · rw [turnP_h h0 h1 h2, turnP_h (p := ⟨p.k, p.nm, p.to, turn p.h⟩) h0 h1 h2]
        exact ch_ext rfl rfl rfl (turn_turn p.h)
theorem mayP_turn1 {p : Ch} (h : mayP p = true) : mayP (turnP p) = true := by
  obtain ⟨hn, h⟩ := mayP_cases.1 h
  rw [mayP_cases]
  rcases h with ⟨h0 | h0, h1, h2⟩ | ⟨h0, h1, h2, h3⟩ | ⟨h0, h1, h2⟩ | ⟨h0, h1, h2, h3⟩
  · rw [turnP_0 h0]; exact ⟨hn, .inl ⟨.inr rfl, h1, h2⟩⟩
  · rw [turnP_1 h0]; exact ⟨hn, .inl ⟨.inl rfl, h1, h2⟩⟩
  · rw [turnP_2 h0]; exact ⟨h1, .inr (.inl ⟨rfl, hn, h2.symm, h3⟩)⟩
  · rw [turnP_h (by omega) (by omega) (by omega)]; exact ⟨hn, .inr (.inr (.inl ⟨h0, h1, by rw [mayH_turn]; exact h2⟩))⟩
  · rw [turnP_h (by omega) (by omega) (by omega)]; exact ⟨hn, .inr (.inr (.inr ⟨h0, h1, by rw [mayH_turn]; exact h2, h3⟩))⟩
abbrev lt : List UInt8 → List UInt8 → Bool := Op.bytesLess

/-- What a file's lines become by a change of lines: an error, or lines. -/
def lineE (l : List (List UInt8)) (p : Ch) : Int := if p.k = 3 then applyE l p.h else if l = p.h.old then 0 else 5
def lineL (l : List (List UInt8)) (p : Ch) : List (List UInt8) := if p.k = 3 then applyL l p.h else p.h.new
/-- What a tree becomes by a change: an error, or a tree. -/
def doP (t : TR) (p : Ch) : Int × TR :=
  if mayP p = false then (1, [])
  else if p.k = 0 then (if (get t p.nm).isSome then (5, []) else (0, put lt t p.nm []))
  else match get t p.nm with
    | none => (5, [])
    | some l =>
      if p.k = 1 then (if l = [] then (0, del t p.nm) else (5, []))
      else if p.k = 2 then (if (get t p.to).isSome then (5, []) else (0, put lt (del t p.nm) p.to l))
      else if lineE l p = 0 then (0, put lt t p.nm (lineL l p)) else (lineE l p, [])

/-- The ways in which a change can be done. -/
theorem doP_cases {t u : TR} {p : Ch} (h : doP t p = (0, u)) : mayP p = true ∧ (
    (p.k = 0 ∧ get t p.nm = none ∧ u = put lt t p.nm []) ∨ (p.k = 1 ∧ get t p.nm = some [] ∧ u = del t p.nm) ∨
    (p.k = 2 ∧ ∃ l, get t p.nm = some l ∧ get t p.to = none ∧ u = put lt (del t p.nm) p.to l) ∨
    ((p.k = 3 ∨ p.k = 4) ∧ ∃ l, get t p.nm = some l ∧ lineE l p = 0 ∧ u = put lt t p.nm (lineL l p))) := by
  unfold doP at h
  split at h
  · injection h with h _; exact absurd h (by decide)
  · rename_i hm
    have hm : mayP p = true := by simpa using hm
    refine ⟨hm, ?_⟩
    split at h
    · rename_i hk
      split at h
      · injection h with h _; exact absurd h (by decide)
      · rename_i hg
        injection h with _ h
        exact .inl ⟨hk, by simpa using hg, h.symm⟩
    · rename_i h0
      split at h
      · injection h with h _; exact absurd h (by decide)
      · rename_i l hg
        split at h
        · rename_i hk
          split at h
          · rename_i hl
            injection h with _ h
            exact .inr (.inl ⟨hk, by rw [hg, hl], h.symm⟩)
          · injection h with h _; exact absurd h (by decide)
        · rename_i h1
          split at h
          · rename_i hk
            split at h
            · injection h with h _; exact absurd h (by decide)
            · rename_i hg2
              injection h with _ h
              exact .inr (.inr (.inl ⟨hk, l, hg, by simpa using hg2, h.symm⟩))
          · rename_i h2
            split at h
            · rename_i he
              injection h with _ h
              refine .inr (.inr (.inr ⟨?_, l, hg, he, h.symm⟩))
              rcases (mayP_cases.1 hm).2 with ⟨h | h, _⟩ | ⟨h, _⟩ | ⟨h, _⟩ | ⟨h, _⟩
              · exact absurd h h0
              · exact absurd h h1
              · exact absurd h h2
              · exact .inl h
              · exact .inr h
            · rename_i he
              injection h with h _
              exact absurd h he
/-- What is told beside an error is nothing. -/
theorem doP_none {t : TR} {p : Ch} (h : (doP t p).1 ≠ 0) : (doP t p).2 = [] := by
  unfold doP at *
  split
  · rfl
  · rename_i h1
    rw [if_neg h1] at h
    split
    · rename_i h2
      rw [if_pos h2] at h
      split
      · rfl
      · rename_i h3; rw [if_neg h3] at h; exact absurd rfl h
    · rename_i h2
      rw [if_neg h2] at h
      split
      · rfl
      · rename_i l hg
        rw [hg] at h
        simp only at h
        split
        · rename_i h3
          rw [if_pos h3] at h
          split
          · rename_i h4; rw [if_pos h4] at h; exact absurd rfl h
          · rfl
        · rename_i h3
          rw [if_neg h3] at h
          split
          · rename_i h4
            rw [if_pos h4] at h
            split
            · rfl
            · rename_i h5; rw [if_neg h5] at h; exact absurd rfl h
          · rename_i h4
            rw [if_neg h4] at h
            split
            · rename_i h5; rw [if_pos h5] at h; exact absurd rfl h
            · rfl

end Pr
end Go.Proofs.Ytdnkinajbebkoaa

namespace Go.Proofs.Ytdnkinajbebkoaa
open Go.ChangeShapes Go.WideShapes Go.ChangeAt Go.RowKit Go.Deep Go.Joins
set_option linter.unusedVariables false
namespace Pr
open Tx Df Sq Hk Tr

/-- The value of a change. -/
abbrev prV (k : Int) (nm to : List UInt8) (p : Int) (A : Option Addr) (n c : Nat) (A' : Option Addr) (n' c' : Nat) : Value := .agg #[.int .i64 k, strV nm, strV to, .int .i64 p, .slice A n c, .slice A' n' c']

/-- Two slice values that read, below block B, as a change's lines. -/
structure PV (w : World) (B : Nat) (A : Option Addr) (n c : Nat) (A' : Option Addr) (n' c' : Nat) (p : Ch) : Prop where
  h : HV w B A n c A' n' c' p.h
  k : I64 p.k
  nm : p.nm.length ≤ maxLen
  to : p.to.length ≤ maxLen
  s : ∀ x ∈ p.h.old, x.length ≤ maxLen
  s' : ∀ x ∈ p.h.new, x.length ≤ maxLen

section
variable {w w' : World} {B B' : Nat} {A A' : Option Addr} {n c n' c' : Nat} {p : Ch}
theorem PV.below (v : PV w B A n c A' n' c' p) (hb : Below B w w') : PV w' B A n c A' n' c' p := ⟨v.h.below hb, v.k, v.nm, v.to, v.s, v.s'⟩
theorem PV.up (v : PV w B A n c A' n' c' p) (hB : B ≤ B') : PV w B' A n c A' n' c' p := ⟨v.h.up hB, v.k, v.nm, v.to, v.s, v.s'⟩
theorem PV.mv (v : PV w w.heap.size A n c A' n' c' p) (hb : Below w.heap.size w w') : PV w' w'.heap.size A n c A' n' c' p := (v.below hb).up hb.size
theorem PV.drewN (v : PV w B A n c A' n' c' p) (d : Nat) : PV (w.drewN d) B A n c A' n' c' p := ⟨v.h.drewN d, v.k, v.nm, v.to, v.s, v.s'⟩
end

section
variable {H : Type} {enc : TypeId × Value → H} {W : World} {base : Nat} {spare : Nat → Bool} {held : Bool}

end

end Pr
end Go.Proofs.Ytdnkinajbebkoaa

namespace Go.Proofs.Ytdnkinajbebkoaa
open Go.RowKit
set_option linter.unusedVariables false
set_option linter.unusedSimpArgs false
namespace Pr
open Tx Df Sq Hk Tr

theorem kinds (k : Int) : k = 0 ∨ k = 1 ∨ k = 2 ∨ k = 3 ∨ k = 4 ∨ ((k == 0) = false ∧ (k == 1) = false ∧ (k == 2) = false ∧ (k == 3) = false ∧ (k == 4) = false) := by
  by_cases h0 : k = 0
  · exact .inl h0
  by_cases h1 : k = 1
  · exact .inr (.inl h1)
  by_cases h2 : k = 2
  · exact .inr (.inr (.inl h2))
  by_cases h3 : k = 3
  · exact .inr (.inr (.inr (.inl h3)))
  by_cases h4 : k = 4
  · exact .inr (.inr (.inr (.inr (.inl h4))))
  exact .inr (.inr (.inr (.inr (.inr ⟨beq_eq_false_iff_ne.2 h0, beq_eq_false_iff_ne.2 h1, beq_eq_false_iff_ne.2 h2, beq_eq_false_iff_ne.2 h3, beq_eq_false_iff_ne.2 h4⟩))))

/-- The box of a change. -/
abbrev box (w : World) (k : Int) (nm to : List UInt8) (q : Int) (A : Option Addr) (n c : Nat) (A' : Option Addr) (n' c' : Nat) : World := w.alloc (.cells #[.int .i64 k, strV nm, strV to, .int .i64 q, .slice A n c, .slice A' n' c'] 54)

end Pr
end Go.Proofs.Ytdnkinajbebkoaa

namespace Go.Proofs.Ytdnkinajbebkoaa
open Go.RowKit
set_option linter.unusedVariables false
set_option linter.unusedSimpArgs false
namespace Pr
open Tx Df Sq Hk Tr

def lightP (p : Ch) : Bool := (light p.h.old 300 && light p.h.new 300) && (decide (p.nm.length ≤ 100) && decide (p.to.length ≤ 100))

set_option maxHeartbeats 2000000 in
theorem LightP (A : Option Addr) (n c : Nat) (A' : Option Addr) (n' c' B : Nat) (p : Ch) (w : World) (b : Bool) (hB : B ≤ w.heap.size) (hv : PV w B A n c A' n' c' p) (hb : lightP p = b) :
    Calls Try.prog 66 #[prV p.k p.nm p.to p.h.pos A n c A' n' c'] w (TestEnd w b) := by
  obtain ⟨k, nm, to, h⟩ := p
  obtain ⟨vh, vk, vn, vt, vs, vs'⟩ := hv
  dsimp only at vh vk vn vt vs vs' ⊢
  obtain ⟨bl, hbl⟩ : ∃ b, (light h.old 300 && light h.new 300) = b := ⟨_, rfl⟩
  have h3 := fun w hB hv => LightH A n c A' n' c' B h w hB hv
  rw [hbl] at h3
  have hbx : Below w.heap.size w (box w k nm to h.pos A n c A' n' c') := (Below.refl _ _).alloc (Nat.le_refl _) _
  have HL : Hid (b = (bl && (decide (nm.length ≤ 100) && decide (to.length ≤ 100)))) := Lib.hid (by rw [← hb, ← hbl]; rfl)
  have HVH := Lib.hid vh; have HBX := Lib.hid hbx; have H3 := Lib.hid h3
  obtain ⟨zn, hzn, hzn2⟩ : ∃ z : ByteArray, strV nm = .string z ∧ z.size = nm.length := ⟨_, rfl, size_strV nm⟩
  obtain ⟨zt, hzt, hzt2⟩ : ∃ z : ByteArray, strV to = .string z ∧ z.size = to.length := ⟨_, rfl, size_strV to⟩
  rw [← hzn2] at HL vn
  rw [← hzt2] at HL vt
  clear vh vs vs' hb hbl h3 hbx hzn2 hzt2
  unfold maxLen at vn vt
  unfold box at HBX
  unfold prV
  rw [hzn, hzt] at HBX ⊢
  clear hzn hzt
  generalize h.pos = q at *
  go_enter Try.func66, Try.ntmps66
  go_wp2_with fail
  refine (H3.out _ (Nat.le_trans hB HBX.out.size) (HVH.out.below (HBX.out.mono hB))).mono ?_
  rintro e w1 ⟨rfl, hb1⟩
  have b1 := (Blk.new w 54 #[.int .i64 k, .string zn, .string zt, .int .i64 q, .slice A n c, .slice A' n' c']).below hb1 (by simp)
  have hb01 : Below w.heap.size w w1 := HBX.out.trans (hb1.mono HBX.out.size)
  have HB01 := Lib.hid hb01
  have x1 : w1.cell? ⟨w.heap.size, 1, none⟩ = some (.string zn) := b1.cell 1 rfl
  have x2 : w1.cell? ⟨w.heap.size, 2, none⟩ = some (.string zt) := b1.cell 2 rfl
  clear b1 hb1 hb01 HBX H3 HVH
  cases bl with
  | false =>
    go_wp2
    go_ret
    exact ⟨ret_bool (by rw [HL.out]; rfl), HB01.out⟩
  | true =>
    by_cases h1 : zn.size ≤ 100
    · by_cases h2 : zt.size ≤ 100
      · go_wp2
        go_ret
        exact ⟨ret_bool (by rw [HL.out, decide_eq_true h1, decide_eq_true h2]; simp; omega), HB01.out⟩
      · go_wp2
        go_ret
        exact ⟨ret_bool (by rw [HL.out, decide_eq_true h1, decide_eq_false h2]; simp; omega), HB01.out⟩
    · go_wp2
      go_ret
      exact ⟨ret_bool (by rw [HL.out, decide_eq_false h1]; simp), HB01.out⟩

/-- Two boxes of changes. -/
abbrev box2 (w : World) (k k2 : Int) (nm to nm2 to2 : List UInt8) (q q2 : Int) (A : Option Addr) (n c : Nat) (A' : Option Addr) (n' c' : Nat) (D : Option Addr) (m e : Nat) (D' : Option Addr) (m' e' : Nat) : World :=
  (w.alloc (.cells #[.int .i64 k, strV nm, strV to, .int .i64 q, .slice A n c, .slice A' n' c'] 54)).alloc (.cells #[.int .i64 k2, strV nm2, strV to2, .int .i64 q2, .slice D m e, .slice D' m' e'] 54)

set_option maxHeartbeats 2000000 in
theorem refSameP (A : Option Addr) (n c : Nat) (A' : Option Addr) (n' c' : Nat) (D : Option Addr) (m e : Nat) (D' : Option Addr) (m' e' B : Nat) (p p2 : Ch) (w : World) (b : Bool) (hB : B ≤ w.heap.size) (hv : PV w B A n c A' n' c' p) (hv2 : PV w B D m e D' m' e' p2) (hb : sameP p p2 = b) :
    Calls Try.prog 68 #[prV p.k p.nm p.to p.h.pos A n c A' n' c', prV p2.k p2.nm p2.to p2.h.pos D m e D' m' e'] w (TestEnd w b) := by
  obtain ⟨k, nm, to, h⟩ := p
  obtain ⟨k2, nm2, to2, h2⟩ := p2
  obtain ⟨vh, vk, vn, vt, vs, vs'⟩ := hv
  obtain ⟨uh, uk, un, ut, us, us'⟩ := hv2
  dsimp only at vh vk vn vt vs vs' uh uk un ut us us' ⊢
  obtain ⟨bh, hbh⟩ : ∃ b, sameH h h2 = b := ⟨_, rfl⟩
  have h3 := fun w hB hv gv => refSameH A n c A' n' c' D m e D' m' e' B h h2 w hB hv gv
  rw [hbh] at h3
  have hbx : Below w.heap.size w (box2 w k k2 nm to nm2 to2 h.pos h2.pos A n c A' n' c' D m e D' m' e') := ((Below.refl _ _).alloc (Nat.le_refl _) _).alloc (by simp) _
  have HL : Hid (b = (decide (k = k2) && (decide (nm = nm2) && (decide (to = to2) && bh)))) := Lib.hid (by rw [← hb, ← hbh]; rfl)
  have HVH := Lib.hid vh; have HUH := Lib.hid uh; have HBX := Lib.hid hbx; have H3 := Lib.hid h3
  clear vh uh vs vs' us us' hb hbh h3 hbx vn vt un ut
  generalize h.pos = q at *
  generalize h2.pos = q2 at *
  go_enter Try.func68, Try.ntmps68
  go_wp2_with fail
  refine (H3.out _ (Nat.le_trans hB HBX.out.size) (HVH.out.below (HBX.out.mono hB)) (HUH.out.below (HBX.out.mono hB))).mono ?_
  rintro e1 w1 ⟨rfl, hb1⟩
  have b1 := ((Blk.new w 54 #[.int .i64 k, strV nm, strV to, .int .i64 q, .slice A n c, .slice A' n' c']).alloc (.cells #[.int .i64 k2, strV nm2, strV to2, .int .i64 q2, .slice D m e, .slice D' m' e'] 54)).below hb1 (by simp; omega)
  have b2 := (Blk.new (w.alloc (.cells #[.int .i64 k, strV nm, strV to, .int .i64 q, .slice A n c, .slice A' n' c'] 54)) 54 #[.int .i64 k2, strV nm2, strV to2, .int .i64 q2, .slice D m e, .slice D' m' e']).below hb1 (by simp)
  have hb01 : Below w.heap.size w w1 := HBX.out.trans (hb1.mono HBX.out.size)
  have HB01 := Lib.hid hb01
  have hs1 : (w.alloc (.cells #[.int .i64 k, strV nm, strV to, .int .i64 q, .slice A n c, .slice A' n' c'] 54)).heap.size = w.heap.size + 1 := by simp
  rw [hs1] at b2
  have x0 : w1.cell? ⟨w.heap.size, 0, none⟩ = some (.int .i64 k) := b1.cell 0 rfl
  have x1 : w1.cell? ⟨w.heap.size, 1, none⟩ = some (strV nm) := b1.cell 1 rfl
  have x2 : w1.cell? ⟨w.heap.size, 2, none⟩ = some (strV to) := b1.cell 2 rfl
  have y0 : w1.cell? ⟨w.heap.size + 1, 0, none⟩ = some (.int .i64 k2) := b2.cell 0 rfl
  have y1 : w1.cell? ⟨w.heap.size + 1, 1, none⟩ = some (strV nm2) := b2.cell 1 rfl
  have y2 : w1.cell? ⟨w.heap.size + 1, 2, none⟩ = some (strV to2) := b2.cell 2 rfl
  clear b1 b2 hb1 hb01 HBX H3 HVH HUH
  cases bh with
  | false =>
    go_wp2
    go_ret
    exact ⟨ret_bool (by rw [HL.out]; simp), HB01.out⟩
  | true =>
    by_cases h1 : k = k2
    · subst h1
      by_cases h2 : nm = nm2
      · subst h2
        by_cases h3 : to = to2
        · subst h3
          go_wp2
          go_ret
          exact ⟨ret_bool (by rw [HL.out]; simp), HB01.out⟩
        · have e3 : (to == to2) = false := by simpa using h3
          go_wp2
          go_ret
          exact ⟨ret_bool (by rw [HL.out]; simp [h3]), HB01.out⟩
      · have e2 : (nm == nm2) = false := by simpa using h2
        go_wp2
        go_ret
        exact ⟨ret_bool (by rw [HL.out]; simp [h2]), HB01.out⟩
    · have e1 : (k == k2) = false := by rw [beq_eq_false_iff_ne]; exact h1
      go_wp2
      go_ret
      exact ⟨ret_bool (by rw [HL.out]; simp [h1]), HB01.out⟩

end Pr
end Go.Proofs.Ytdnkinajbebkoaa

namespace Go.Proofs.Ytdnkinajbebkoaa
open Go.RowKit
set_option linter.unusedVariables false
set_option linter.unusedSimpArgs false
namespace Pr
open Tx Df Sq Hk Tr

/-- How a call ends that makes the change q. -/
def PTEnd (w : World) (q : Ch) (e : Ending) (w' : World) : Prop :=
  ∃ A n c A' n' c', e = .returned (prV q.k q.nm q.to q.h.pos A n c A' n' c') ∧ PV w' w'.heap.size A n c A' n' c' q ∧ q.h.old.length = n ∧ q.h.new.length = n' ∧ Below w.heap.size w w'

theorem two_box (w : World) (o o' : Obj) : Below w.heap.size w ((w.alloc o).alloc o') := ((Below.refl _ _).alloc (Nat.le_refl _) o).alloc (by simp) o'

/-- All six cells are set. -/
theorem blk6 {W : World} {b : Nat} {t : TypeId} {x0 x1 x2 x3 x4 x5 : Value} (h : Blk W b t #[x0, x1, x2, x3, x4, x5]) (v0 v1 v2 v3 v4 v5 : Value) : Blk ((((((World.setCell W ⟨b, 0, none⟩ v0).setCell ⟨b, 1, none⟩ v1).setCell ⟨b, 2, none⟩ v2).setCell ⟨b, 3, none⟩ v3).setCell ⟨b, 4, none⟩ v4).setCell ⟨b, 5, none⟩ v5) b t #[v0, v1, v2, v3, v4, v5] :=
  have b0 : Blk _ b t #[v0, x1, x2, x3, x4, x5] := h.set 0 v0
  have b1 : Blk _ b t #[v0, v1, x2, x3, x4, x5] := b0.set 1 v1
  have b2 : Blk _ b t #[v0, v1, v2, x3, x4, x5] := b1.set 2 v2
  have b3 : Blk _ b t #[v0, v1, v2, v3, x4, x5] := b2.set 3 v3
  have b4 : Blk _ b t #[v0, v1, v2, v3, v4, x5] := b3.set 4 v4
  have b5 : Blk _ b t #[v0, v1, v2, v3, v4, v5] := b4.set 5 v5
  b5
/-- The last three. -/
theorem blk3 {W : World} {b : Nat} {t : TypeId} {x0 x1 x2 x3 x4 x5 : Value} (h : Blk W b t #[x0, x1, x2, x3, x4, x5]) (v3 v4 v5 : Value) : Blk (((World.setCell W ⟨b, 3, none⟩ v3).setCell ⟨b, 4, none⟩ v4).setCell ⟨b, 5, none⟩ v5) b t #[x0, x1, x2, v3, v4, v5] :=
  have b3 : Blk _ b t #[x0, x1, x2, v3, x4, x5] := h.set 3 v3
  have b4 : Blk _ b t #[x0, x1, x2, v3, v4, x5] := b3.set 4 v4
  have b5 : Blk _ b t #[x0, x1, x2, v3, v4, v5] := b4.set 5 v5
  b5

/-- How a call ends that turns a change, its lines as they are handed in. -/
def PTEndE (A : Option Addr) (n c : Nat) (A' : Option Addr) (n' c' : Nat) (p : Ch) (w : World) (e : Ending) (w' : World) : Prop :=
  (((p.k = 0 ∨ p.k = 1 ∨ p.k = 2) ∧ e = .returned (prV (turnP p).k (turnP p).nm (turnP p).to (turnP p).h.pos A n c A' n' c')) ∨ (¬ (p.k = 0 ∨ p.k = 1 ∨ p.k = 2) ∧ e = .returned (prV (turnP p).k (turnP p).nm (turnP p).to (turnP p).h.pos A' n' c' A n c))) ∧ Below w.heap.size w w'
theorem PTEndE.end_ {A A' : Option Addr} {n c n' c' B : Nat} {p : Ch} {w w' : World} {e : Ending} (h : PTEndE A n c A' n' c' p w e w') (hB : B ≤ w.heap.size) (hv : PV w B A n c A' n' c' p) : PTEnd w (turnP p) e w' := by
  obtain ⟨h, hb⟩ := h
  have h1 := (hv.below (hb.mono hB)).up (Nat.le_trans hB hb.size)
  rcases h with ⟨hk, rfl⟩ | ⟨hk, rfl⟩
  · refine ⟨A, n, c, A', n', c', rfl, ?_, ?_, ?_, hb⟩
    · rcases hk with hk | hk | hk
      · rw [turnP_0 hk]; exact ⟨h1.h, by unfold I64; dsimp only; omega, h1.nm, h1.to, h1.s, h1.s'⟩
      · rw [turnP_1 hk]; exact ⟨h1.h, by unfold I64; dsimp only; omega, h1.nm, h1.to, h1.s, h1.s'⟩
      · rw [turnP_2 hk]; exact ⟨h1.h, by unfold I64; dsimp only; omega, h1.to, h1.nm, h1.s, h1.s'⟩
    · rcases hk with hk | hk | hk
      · rw [turnP_0 hk]; exact hv.h.l
      · rw [turnP_1 hk]; exact hv.h.l
      · rw [turnP_2 hk]; exact hv.h.l
    · rcases hk with hk | hk | hk
      · rw [turnP_0 hk]; exact hv.h.l'
      · rw [turnP_1 hk]; exact hv.h.l'
      · rw [turnP_2 hk]; exact hv.h.l'
  · have e1 : turnP p = ⟨p.k, p.nm, p.to, turn p.h⟩ := turnP_h (fun h => hk (.inl h)) (fun h => hk (.inr (.inl h))) (fun h => hk (.inr (.inr h)))
    refine ⟨A', n', c', A, n, c, rfl, ?_, ?_, ?_, hb⟩
    · rw [e1]; exact ⟨h1.h.turn, h1.k, h1.nm, h1.to, h1.s', h1.s⟩
    · rw [e1]; exact hv.h.l'
    · rw [e1]; exact hv.h.l

end Pr
end Go.Proofs.Ytdnkinajbebkoaa

namespace Go.Proofs.Ytdnkinajbebkoaa
open Go.RowKit
set_option linter.unusedVariables false
set_option linter.unusedSimpArgs false
namespace Pr
open Tx Df Sq Hk Tr

theorem lightP_h {p : Ch} (h : lightP p = true) : p.h.old.length ≤ 300 ∧ p.h.new.length ≤ 300 := by
  simp only [lightP, light, Bool.and_eq_true, decide_eq_true_eq] at h
  exact ⟨h.1.1.1, h.1.2.1⟩

end Pr
end Go.Proofs.Ytdnkinajbebkoaa

namespace Go.Proofs.Ytdnkinajbebkoaa
open Go.RowKit
set_option linter.unusedVariables false
set_option linter.unusedSimpArgs false
namespace Pr
open Tx Df Sq Hk Tr

end Pr
end Go.Proofs.Ytdnkinajbebkoaa

set_option maxRecDepth 100000
namespace Go.Proofs.Ytdnkinajbebkoaa
open Go.RowKit
set_option linter.unusedVariables false
namespace Sw
open Tx Df Hk

theorem own (A : Option Addr) (c n B : Nat) (ls : List (List UInt8)) (w : World) (hn : ls.length = n) (hln : n ≤ 1000000) (hR : RdS w B A ls) :
    Calls Try.prog 120 #[.slice A n c] w (OwnEnd w n (ls.map strV)) := by
  obtain ⟨j0, hj, hy0, hy1, hy2⟩ := info_parts info_str
  have HN := Lib.hid hn; clear hn
  go_enter Try.func120, Try.ntmps120
  go_wp2_with (at_builtin; refine wpList_nil' rfl (.const (.slice none 0 0)) (.tmp 3) 50 rfl 9 j0 (.string ⟨#[]⟩) 16 Try.underlying50 hj hy0 hy1 hy2 rfl rfl B A n c (ls.map strV) rfl (by rw [List.length_map]; exact HN.out) hR (strs_one _) (by unfold maxLen; omega) (by omega) ?_; intro A' c' w' hA hg)
  go_ret
  exact ⟨A', c', rfl, hA, hg⟩

/-- How a way to pass ends. -/
def WayEnd (w : World) (x y : Int) (b : Bool) (e : Ending) (w' : World) : Prop := e = .returned (.tuple #[.int .i64 x, .int .i64 y, .bool b]) ∧ ∃ d, w' = w.drewN d

set_option maxHeartbeats 2000000 in
theorem way1 (a b : Nat) (A : Option Addr) (n c : Nat) (A' : Option Addr) (n' c' : Nat) (D : Option Addr) (m k : Nat) (D' : Option Addr) (m' k' : Nat) (p q : Int) (w : World)
    (hp0 : 0 ≤ p) (hp1 : p ≤ 1048576) (hq0 : 0 ≤ q) (hq1 : q ≤ 1048576) (hn : n ≤ 1000) (hn' : n' ≤ 1000) (hm : m ≤ 1000) (hm' : m' ≤ 1000)
    (hp : Blk w a 52 #[.int .i64 p, .slice A n c, .slice A' n' c']) (hq : Blk w b 52 #[.int .i64 q, .slice D m k, .slice D' m' k']) :
    Calls Try.prog 118 #[.pointer (some ⟨b, 0, none⟩), .pointer (some ⟨a, 0, none⟩)] w (WayEnd w (q - n' + n) p (decide (p + n' < q))) := by
  have x0 : w.cell? ⟨a, 0, none⟩ = some (.int .i64 p) := hp.cell 0 rfl
  have x1 : w.cell? ⟨a, 1, none⟩ = some (.slice A n c) := hp.cell 1 rfl
  have x2 : w.cell? ⟨a, 2, none⟩ = some (.slice A' n' c') := hp.cell 2 rfl
  have y0 : w.cell? ⟨b, 0, none⟩ = some (.int .i64 q) := hq.cell 0 rfl
  clear hp hq
  go_enter Try.func118, Try.ntmps118
  go_wp2_with fail
  go_quiet (fail)
  go_wp2
  go_ret3
  exact ⟨rfl, _, rfl⟩

set_option maxHeartbeats 2000000 in
theorem way2 (a b : Nat) (A : Option Addr) (n c : Nat) (A' : Option Addr) (n' c' : Nat) (D : Option Addr) (m k : Nat) (D' : Option Addr) (m' k' : Nat) (p q : Int) (w : World)
    (hp0 : 0 ≤ p) (hp1 : p ≤ 1048576) (hq0 : 0 ≤ q) (hq1 : q ≤ 1048576) (hn : n ≤ 1000) (hn' : n' ≤ 1000) (hm : m ≤ 1000) (hm' : m' ≤ 1000)
    (hp : Blk w a 52 #[.int .i64 p, .slice A n c, .slice A' n' c']) (hq : Blk w b 52 #[.int .i64 q, .slice D m k, .slice D' m' k']) :
    Calls Try.prog 119 #[.pointer (some ⟨b, 0, none⟩), .pointer (some ⟨a, 0, none⟩)] w (WayEnd w q (p - m + m') (decide (q + m < p))) := by
  have x0 : w.cell? ⟨a, 0, none⟩ = some (.int .i64 p) := hp.cell 0 rfl
  have y0 : w.cell? ⟨b, 0, none⟩ = some (.int .i64 q) := hq.cell 0 rfl
  have y1 : w.cell? ⟨b, 1, none⟩ = some (.slice D m k) := hq.cell 1 rfl
  have y2 : w.cell? ⟨b, 2, none⟩ = some (.slice D' m' k') := hq.cell 2 rfl
  clear hp hq
  go_enter Try.func119, Try.ntmps119
  go_wp2_with fail
  go_quiet (fail)
  go_wp2
  go_ret3
  exact ⟨rfl, _, rfl⟩

/-- A way to pass, as a value: it holds where the two lie. -/
abbrev wayV (f : Nat) (a b : Nat) : Value := .func (.func f) #[] #[.pointer (some ⟨b, 0, none⟩), .pointer (some ⟨a, 0, none⟩)]
/-- How ways ends: both ways in a list, each holding the same two boxes. -/
def WaysEnd (w : World) (cp cq : Array Value) (e : Ending) (w' : World) : Prop :=
  e = .returned (.slice (some ⟨w.heap.size + 2, 0, none⟩) 2 2) ∧ Blk w' w.heap.size 52 cp ∧ Blk w' (w.heap.size + 1) 52 cq ∧
    Blk w' (w.heap.size + 2) 133 #[wayV 118 w.heap.size (w.heap.size + 1), wayV 119 w.heap.size (w.heap.size + 1)] ∧ Below w.heap.size w w'

theorem ways (A : Option Addr) (n c : Nat) (A' : Option Addr) (n' c' : Nat) (D : Option Addr) (m k : Nat) (D' : Option Addr) (m' k' : Nat) (p q : Int) (w : World) :
    Calls Try.prog 102 #[hkV p A n c A' n' c', hkV q D m k D' m' k'] w (WaysEnd w #[.int .i64 p, .slice A n c, .slice A' n' c'] #[.int .i64 q, .slice D m k, .slice D' m' k']) := by
  go_enter Try.func102, Try.ntmps102
  go_wp2
  go_ret
  have b0 := ((Blk.new w 52 #[.int .i64 p, .slice A n c, .slice A' n' c']).alloc (.cells #[.int .i64 q, .slice D m k, .slice D' m' k'] 52)).alloc (.cells #[wayV 118 w.heap.size (w.heap.size + 1), wayV 119 w.heap.size (w.heap.size + 1)] 133)
  have b1 := (Blk.new (w.alloc (.cells #[.int .i64 p, .slice A n c, .slice A' n' c'] 52)) 52 #[.int .i64 q, .slice D m k, .slice D' m' k']).alloc (.cells #[wayV 118 w.heap.size (w.heap.size + 1), wayV 119 w.heap.size (w.heap.size + 1)] 133)
  have b2 := Blk.new ((w.alloc (.cells #[.int .i64 p, .slice A n c, .slice A' n' c'] 52)).alloc (.cells #[.int .i64 q, .slice D m k, .slice D' m' k'] 52)) 133 #[wayV 118 w.heap.size (w.heap.size + 1), wayV 119 w.heap.size (w.heap.size + 1)]
  simp only [World.size_alloc] at b1 b2
  exact ⟨rfl, b0, b1, b2, (((Below.refl _ _).alloc (Nat.le_refl _) _).alloc (by simp) _).alloc (by simp; omega) _⟩

/-- How placed ends. -/
def PlacedEnd (w : World) (n n' : Nat) (h : HU) (e : Ending) (w' : World) : Prop :=
  ∃ D k D' k', e = .returned (hkV h.pos D n k D' n' k') ∧ HV w' w'.heap.size D n k D' n' k' h ∧ (Hi w.heap.size D ∧ Hi w.heap.size D') ∧ Below w.heap.size w w'

set_option maxRecDepth 100000 in
set_option maxHeartbeats 2000000 in
theorem placed (A : Option Addr) (n c : Nat) (A' : Option Addr) (n' c' B : Nat) (h : HU) (i : Int) (w : World) (hB : B ≤ w.heap.size) (hn : n ≤ 1000) (hn' : n' ≤ 1000) (hv : HV w B A n c A' n' c' h) (hi : I64 i) :
    Calls Try.prog 103 #[hkV h.pos A n c A' n' c', .int .i64 i] w (PlacedEnd w n n' (at_ h i)) := by
  have HV0 := Lib.hid hv
  have HL := Lib.hid hv.l; have HL' := Lib.hid hv.l'
  have R := Lib.hid hv.r; have R' := Lib.hid hv.r'
  clear hv
  obtain ⟨p, hp⟩ : ∃ p, h.pos = p := ⟨_, rfl⟩
  rw [hp]
  have HI := Lib.hid hi; clear hi hp
  go_enter Try.func103, Try.ntmps103
  go_wp2_with fail
  have b1 := (Blk.new w 52 #[.int .i64 p, .slice A n c, .slice A' n' c']).alloc (.cells #[.int .i64 0, .slice none 0 0, .slice none 0 0] 52)
  have b2 := Blk.new (w.alloc (.cells #[.int .i64 p, .slice A n c, .slice A' n' c'] 52)) 52 #[.int .i64 0, .slice none 0 0, .slice none 0 0]
  have hw : Below w.heap.size w ((w.alloc (.cells #[.int .i64 p, .slice A n c, .slice A' n' c'] 52)).alloc (.cells #[.int .i64 0, .slice none 0 0, .slice none 0 0] 52)) := ((Below.refl _ _).alloc (Nat.le_refl _) _).alloc (by simp) _
  simp only [World.size_alloc] at b2
  generalize hW : (w.alloc (.cells #[.int .i64 p, .slice A n c, .slice A' n' c'] 52)).alloc (.cells #[.int .i64 0, .slice none 0 0, .slice none 0 0] 52) = W at *
  clear hW
  have R1 := Lib.hid (Rd.below R.out (hw.mono hB))
  have R1' := Lib.hid (Rd.below R'.out (hw.mono hB))
  have B1 := Lib.hid b1; have B2 := Lib.hid b2; have HW := Lib.hid hw; clear b1 b2 hw
  have HBW : Hid (B ≤ W.heap.size) := Lib.hid (Nat.le_trans hB HW.out.size)
  obtain ⟨g, hgs⟩ : ∃ g, w.heap.size = g := ⟨_, rfl⟩
  rw [hgs] at HW B1 B2 hB ⊢
  have HGS := Lib.hid hgs; clear hgs
  have x0 : W.cell? ⟨g, 0, none⟩ = some (.int .i64 p) := B1.out.cell 0 rfl
  have x1 : W.cell? ⟨g, 1, none⟩ = some (.slice A n c) := B1.out.cell 1 rfl
  have x2 : W.cell? ⟨g, 2, none⟩ = some (.slice A' n' c') := B1.out.cell 2 rfl
  go_region_held3 (fun w' => w'.cell? ⟨g, 1, none⟩ = some (.slice A n c) ∧ w'.cell? ⟨g, 2, none⟩ = some (.slice A' n' c'))
    (first | go_keep | (exact ⟨y1, y2⟩) | (exact ⟨z1, z2⟩))
    (first
      | (go_at_call 120; refine (own A c n B h.old W.drew HL.out (by omega) (Rd.drewN R1.out 1)).mono ?_; rintro e w1 ⟨D, k, rfl, hr1, hg1⟩;
          have y1 := cell_gr hg1 (nn _) x1; have y2 := cell_gr hg1 (nn _) x2; have HR1 := Lib.hid hr1; have HG1 := Lib.hid hg1; clear hr1 hg1)
      | (go_at_call 120; refine (own A' c' n' B h.new w1 HL'.out (by omega) (Rd.below (Rd.drewN R1'.out 1) ((below_gr HG1.out).mono HBW.out))).mono ?_; rintro e w2 ⟨D', k', rfl, hr2, hg2⟩;
          have z1 := cell_gr hg2 (nn _) y1; have z2 := cell_gr hg2 (nn _) y2;
          have b3 := ((B2.out.drewN 1).gr HG1.out (nn _)).gr hg2 (nn _); have q0 : w2.cell? ⟨g + 1, 0, none⟩ = some (.int .i64 0) := b3.cell 0 rfl; have q1 : w2.cell? ⟨g + 1, 1, none⟩ = some (.slice none 0 0) := b3.cell 1 rfl; have q2 : w2.cell? ⟨g + 1, 2, none⟩ = some (.slice none 0 0) := b3.cell 2 rfl; have f0 := b3.frozen 0; have f1 := b3.frozen 1; have f2 := b3.frozen 2;
          have B3 := Lib.hid b3; clear b3; have HR2 := Lib.hid hr2; have HG2 := Lib.hid hg2; clear hr2 hg2))
  go_wp2_with fail
  have b4 := ((B3.out.set 0 (.int .i64 i)).set 1 (.slice D n k)).set 2 (.slice D' n' k')
  have hg1 : g + 1 < W.heap.size := B2.out.lt
  have hs1 : W.heap.size ≤ w1.heap.size := HG1.out.size
  have o1 := own_set (own_set (own_set (own_gr HR1.out HG2.out) hg1 0 (.int .i64 i)) hg1 1 (.slice D n k)) hg1 2 (.slice D' n' k')
  have o2 := own_set (own_set (own_set HR2.out (Nat.lt_of_lt_of_le hg1 hs1) 0 (.int .i64 i)) (Nat.lt_of_lt_of_le hg1 hs1) 1 (.slice D n k)) (Nat.lt_of_lt_of_le hg1 hs1) 2 (.slice D' n' k')
  have hB3 : Below g w (((w2.setCell ⟨g + 1, 0, none⟩ (.int .i64 i)).setCell ⟨g + 1, 1, none⟩ (.slice D n k)).setCell ⟨g + 1, 2, none⟩ (.slice D' n' k')) := (((HW.out.trans (((below_drewN (Below.refl W.heap.size W) 1).trans (below_gr HG1.out)).mono (Nat.le_trans (by omega) hg1)) |>.trans ((below_gr HG2.out).mono (by omega))).setCell (p := ⟨g + 1, 0, none⟩) (by show g ≤ g + 1; omega) _).setCell (p := ⟨g + 1, 1, none⟩) (by show g ≤ g + 1; omega) _).setCell (p := ⟨g + 1, 2, none⟩) (by show g ≤ g + 1; omega) _
  generalize ((w2.setCell ⟨g + 1, 0, none⟩ (.int .i64 i)).setCell ⟨g + 1, 1, none⟩ (.slice D n k)).setCell ⟨g + 1, 2, none⟩ (.slice D' n' k') = W3 at *
  have q0 : W3.cell? ⟨g + 1, 0, none⟩ = some (.int .i64 i) := b4.cell 0 rfl
  have q1 : W3.cell? ⟨g + 1, 1, none⟩ = some (.slice D n k) := b4.cell 1 rfl
  have q2 : W3.cell? ⟨g + 1, 2, none⟩ = some (.slice D' n' k') := b4.cell 2 rfl
  obtain ⟨_, _, e1, hk1, r1⟩ := rd_of_own o1
  obtain ⟨_, _, e2, hk2, r2⟩ := rd_of_own o2
  cases e1; cases e2
  refine bodyPost_ret (v := hkV i D n k D' n' k') (by simp [results, Try.results103, go_sem, q0, q1, q2]) rfl ?_
  refine ⟨D, k, D', k', rfl, ⟨HL.out, HL'.out, hk1, hk2, HV0.out.m, HV0.out.m', r1, r2, HI.out⟩, ⟨(hi_own o1).mono (show w.heap.size ≤ W.drew.heap.size from HW.out.size), (hi_own o2).mono (Nat.le_trans HW.out.size hs1)⟩, by rw [HGS.out]; exact hB3⟩

end Sw
end Go.Proofs.Ytdnkinajbebkoaa

namespace Go.Proofs.Ytdnkinajbebkoaa
open Go.RowKit
set_option linter.unusedVariables false
namespace Sw
open Tx Df Hk

/-- What Pass tells: nothing if one may not be, or if one would stand above the limit. -/
def passH (p q : HU) : Option (HU × HU) := if mayH p && mayH q then (pass p q).bind (fun z => if z.1.pos ≤ 1048576 ∧ z.2.pos ≤ 1048576 then some z else none) else none
def zeroH : HU := ⟨0, [], []⟩
def outH (o : Option (HU × HU)) : HU × HU := o.getD (zeroH, zeroH)

/-- How Pass ends. -/
def PassEnd (w : World) (o : Option (HU × HU)) (e : Ending) (w' : World) : Prop :=
  ∃ A n c A' n' c' D m k D' m' k', e = .returned (.tuple #[hkV (outH o).1.pos A n c A' n' c', hkV (outH o).2.pos D m k D' m' k', .bool o.isSome]) ∧
    HV w' w'.heap.size A n c A' n' c' (outH o).1 ∧ HV w' w'.heap.size D m k D' m' k' (outH o).2 ∧ Below w.heap.size w w'

/-- The same, of lines in memory of their own. -/
def PassEndH (w : World) (o : Option (HU × HU)) (e : Ending) (w' : World) : Prop :=
  ∃ A n c A' n' c' D m k D' m' k', e = .returned (.tuple #[hkV (outH o).1.pos A n c A' n' c', hkV (outH o).2.pos D m k D' m' k', .bool o.isSome]) ∧
    HV w' w'.heap.size A n c A' n' c' (outH o).1 ∧ HV w' w'.heap.size D m k D' m' k' (outH o).2 ∧ (Hi w.heap.size A ∧ Hi w.heap.size A' ∧ Hi w.heap.size D ∧ Hi w.heap.size D') ∧ Below w.heap.size w w'
theorem PassEndH.end_ {w w' : World} {o : Option (HU × HU)} {e : Ending} (h : PassEndH w o e w') : PassEnd w o e w' := by
  obtain ⟨A, n, c, A', n', c', D, m, k, D', m', k', h1, h2, h3, _, h4⟩ := h
  exact ⟨A, n, c, A', n', c', D, m, k, D', m', k', h1, h2, h3, h4⟩
theorem passH_may {p q : HU} {z : HU × HU} (h : passH p q = some z) : mayH p = true ∧ mayH q = true ∧ pass p q = some z ∧ z.1.pos ≤ 1048576 ∧ z.2.pos ≤ 1048576 := by
  unfold passH at h
  split at h
  · rename_i hm
    rw [Bool.and_eq_true] at hm
    cases hp : pass p q with
    | none => rw [hp] at h; cases h
    | some y =>
      rw [hp, Option.bind_some] at h
      split at h
      · rename_i hl
        cases h
        exact ⟨hm.1, hm.2, rfl, hl.1, hl.2⟩
      · cases h
  · cases h
theorem passH_some {p q : HU} {z : HU × HU} (h1 : mayH p = true) (h2 : mayH q = true) (h : pass p q = some z) (h3 : z.1.pos ≤ 1048576) (h4 : z.2.pos ≤ 1048576) : passH p q = some z := by
  unfold passH
  rw [h1, h2, h, Option.bind_some]
  simp [h3, h4]
theorem passH_no1 {p q : HU} (h : mayH p = false) : passH p q = none := by unfold passH; rw [h]; rfl
theorem passH_no2 {p q : HU} (h : mayH q = false) : passH p q = none := by unfold passH; rw [h, Bool.and_false]; rfl
theorem mayH_pos {h : HU} (hm : mayH h = true) : 0 ≤ h.pos ∧ h.pos ≤ 1048576 := by
  unfold mayH at hm
  simp only [Bool.and_eq_true, decide_eq_true_eq] at hm
  exact hm.1

/-- The first way is shut; the second one is. -/
def Shut1 (p q : HU) (n n' : Nat) : Prop := ¬ (p.pos + n' < q.pos ∧ q.pos - n' + n ≤ 1048576 ∧ p.pos ≤ 1048576)
def Shut2 (p q : HU) (m m' : Nat) : Prop := ¬ (q.pos + m < p.pos ∧ q.pos ≤ 1048576 ∧ p.pos - m + m' ≤ 1048576)
theorem passH_shut {p q : HU} {n n' m m' : Nat} (hn : p.old.length = n) (hn' : p.new.length = n') (hm : q.old.length = m) (hm' : q.new.length = m') (h1 : Shut1 p q n n') (h2 : Shut2 p q m m') : passH p q = none := by
  subst hn hn' hm hm'
  unfold Shut1 at h1
  unfold Shut2 at h2
  cases h : passH p q with
  | none => rfl
  | some z =>
    obtain ⟨_, _, h3, h4, h5⟩ := passH_may h
    rcases pass_cases (x := z.1) (y := z.2) h3 with ⟨a1, a2, a3⟩ | ⟨a1, a2, a3⟩
    · rw [a2] at h4; rw [a3] at h5; exact absurd ⟨a1, h4, h5⟩ h1
    · rw [a2] at h4; rw [a3] at h5; exact absurd ⟨a1, h4, h5⟩ h2
theorem passH_open1 {p q : HU} {n n' : Nat} (hn : p.old.length = n) (hn' : p.new.length = n') (h1 : mayH p = true) (h2 : mayH q = true) (h : p.pos + n' < q.pos) (h3 : q.pos - n' + n ≤ 1048576) (h4 : p.pos ≤ 1048576) : passH p q = some (at_ q (q.pos - n' + n), p) := by
  subst hn hn'
  exact passH_some h1 h2 (pass_ahead h) h3 h4
theorem passH_open2 {p q : HU} {m m' : Nat} (hm : q.old.length = m) (hm' : q.new.length = m') (h1 : mayH p = true) (h2 : mayH q = true) (h : q.pos + m < p.pos) (h3 : q.pos ≤ 1048576) (h4 : p.pos - m + m' ≤ 1048576) : passH p q = some (q, at_ p (p.pos - m + m')) := by
  subst hm hm'
  exact passH_some h1 h2 (pass_behind h) h3 h4

theorem zero_HV (w : World) (B : Nat) : HV w B none 0 0 none 0 0 zeroH := ⟨rfl, rfl, Nat.le_refl _, Nat.le_refl _, Nat.zero_le _, Nat.zero_le _, .inl rfl, .inl rfl, ⟨by decide, by decide⟩⟩
theorem passEnd_none {w w' : World} {o : Option (HU × HU)} (ho : o = none) (hb : Below w.heap.size w w') : PassEnd w o (.returned (.tuple #[hkV 0 none 0 0 none 0 0, hkV 0 none 0 0 none 0 0, .bool false])) w' := by
  subst ho
  exact ⟨none, 0, 0, none, 0, 0, none, 0, 0, none, 0, 0, rfl, zero_HV _ _, zero_HV _ _, hb⟩

theorem passEndH_none {w w' : World} {o : Option (HU × HU)} (ho : o = none) (hb : Below w.heap.size w w') : PassEndH w o (.returned (.tuple #[hkV 0 none 0 0 none 0 0, hkV 0 none 0 0 none 0 0, .bool false])) w' := by
  subst ho
  exact ⟨none, 0, 0, none, 0, 0, none, 0, 0, none, 0, 0, rfl, zero_HV _ _, zero_HV _ _, ⟨hi_none _, hi_none _, hi_none _, hi_none _⟩, hb⟩

/-- Two structs stored, one behind the other. -/
theorem two_set {W : World} {b b' : Nat} {t : TypeId} {x0 x1 x2 y0 y1 y2 : Value} (h : Blk W b t #[x0, x1, x2]) (h' : Blk W b' t #[y0, y1, y2]) (hne : b ≠ b') (v0 v1 v2 u0 u1 u2 : Value) :
    Blk ((((((W.setCell ⟨b, 0, none⟩ v0).setCell ⟨b, 1, none⟩ v1).setCell ⟨b, 2, none⟩ v2).setCell ⟨b', 0, none⟩ u0).setCell ⟨b', 1, none⟩ u1).setCell ⟨b', 2, none⟩ u2) b t #[v0, v1, v2] ∧
    Blk ((((((W.setCell ⟨b, 0, none⟩ v0).setCell ⟨b, 1, none⟩ v1).setCell ⟨b, 2, none⟩ v2).setCell ⟨b', 0, none⟩ u0).setCell ⟨b', 1, none⟩ u1).setCell ⟨b', 2, none⟩ u2) b' t #[u0, u1, u2] :=
  ⟨(((((h.set 0 v0).set 1 v1).set 2 v2).set_ne hne 0 u0).set_ne hne 1 u1).set_ne hne 2 u2,
   (((((h'.set_ne hne.symm 0 v0).set_ne hne.symm 1 v1).set_ne hne.symm 2 v2).set 0 u0).set 1 u1).set 2 u2⟩
theorem below_set6 {B : Nat} {w W : World} {b b' : Nat} (h : Below B w W) (hb : B ≤ b) (hb' : B ≤ b') (v0 v1 v2 u0 u1 u2 : Value) :
    Below B w ((((((W.setCell ⟨b, 0, none⟩ v0).setCell ⟨b, 1, none⟩ v1).setCell ⟨b, 2, none⟩ v2).setCell ⟨b', 0, none⟩ u0).setCell ⟨b', 1, none⟩ u1).setCell ⟨b', 2, none⟩ u2) :=
  (((((h.setCell (p := ⟨b, 0, none⟩) hb v0).setCell (p := ⟨b, 1, none⟩) hb v1).setCell (p := ⟨b, 2, none⟩) hb v2).setCell (p := ⟨b', 0, none⟩) hb' u0).setCell (p := ⟨b', 1, none⟩) hb' u1).setCell (p := ⟨b', 2, none⟩) hb' u2

/-- What reads as lines reads so still where a hunk's variable is set. -/
theorem rdS_hset {W : World} {B b : Nat} {t : TypeId} {x0 : Int} {A1 A2 : Option Addr} {n1 c1 n2 c2 : Nat} {A : Option Addr} {ls : List (List UInt8)} (hb : Blk W b t #[.int .i64 x0, .slice A1 n1 c1, .slice A2 n2 c2]) (j : Nat) (v : Value) (hR : RdS W B A ls) : RdS (W.setCell ⟨b, j, none⟩ v) B A ls := by
  rcases hR with h | ⟨a, e, hlt, hc⟩
  · exact .inl h
  · refine .inr ⟨a, e, hlt, fun i u hu => ?_⟩
    have hcell := hc i u hu
    refine cell_set hcell (fun eq => ?_) j v
    rw [List.getElem?_map, Option.map_eq_some_iff] at hu
    obtain ⟨l, _, rfl⟩ := hu
    unfold World.cell? at hcell
    rw [eq, show W.heap[b]? = _ from hb] at hcell
    simp only at hcell
    split at hcell
    · cases hcell
    · match hi : (a.add i).off with
      | 0 => rw [hi] at hcell; simp [strV] at hcell
      | 1 => rw [hi] at hcell; simp [strV] at hcell
      | 2 => rw [hi] at hcell; simp [strV] at hcell
      | k + 3 => rw [hi] at hcell; simp at hcell
theorem hv_set3 {W : World} {B b : Nat} {t : TypeId} {x0 : Int} {A1 A2 : Option Addr} {n1 c1 n2 c2 : Nat} {A A' : Option Addr} {n c n' c' : Nat} {h : HU} (hb : Blk W b t #[.int .i64 x0, .slice A1 n1 c1, .slice A2 n2 c2]) (i : Int) (D : Option Addr) (m k : Nat) (D' : Option Addr) (m' k' : Nat)
    (hv : HV W B A n c A' n' c' h) : HV (((W.setCell ⟨b, 0, none⟩ (.int .i64 i)).setCell ⟨b, 1, none⟩ (.slice D m k)).setCell ⟨b, 2, none⟩ (.slice D' m' k')) B A n c A' n' c' h :=
  have b1 : Blk (W.setCell ⟨b, 0, none⟩ (.int .i64 i)) b t #[.int .i64 i, .slice A1 n1 c1, .slice A2 n2 c2] := hb.set 0 _
  have b2 : Blk ((W.setCell ⟨b, 0, none⟩ (.int .i64 i)).setCell ⟨b, 1, none⟩ (.slice D m k)) b t #[.int .i64 i, .slice D m k, .slice A2 n2 c2] := b1.set 1 _
  ⟨hv.l, hv.l', hv.k, hv.k', hv.m, hv.m', rdS_hset b2 _ _ (rdS_hset b1 _ _ (rdS_hset hb _ _ hv.r)), rdS_hset b2 _ _ (rdS_hset b1 _ _ (rdS_hset hb _ _ hv.r')), hv.p⟩
theorem hv_set6 {W : World} {B b b' : Nat} {t : TypeId} {x0 y0 : Int} {A1 A2 E1 E2 : Option Addr} {n1 c1 n2 c2 m1 k1 m2 k2 : Nat} {A A' : Option Addr} {n c n' c' : Nat} {h : HU} (hb : Blk W b t #[.int .i64 x0, .slice A1 n1 c1, .slice A2 n2 c2]) (hb' : Blk W b' t #[.int .i64 y0, .slice E1 m1 k1, .slice E2 m2 k2]) (hne : b ≠ b')
    (i : Int) (D : Option Addr) (m k : Nat) (D' : Option Addr) (m' k' : Nat) (j : Int) (G : Option Addr) (o l : Nat) (G' : Option Addr) (o' l' : Nat) (hv : HV W B A n c A' n' c' h) :
    HV ((((((W.setCell ⟨b, 0, none⟩ (.int .i64 i)).setCell ⟨b, 1, none⟩ (.slice D m k)).setCell ⟨b, 2, none⟩ (.slice D' m' k')).setCell ⟨b', 0, none⟩ (.int .i64 j)).setCell ⟨b', 1, none⟩ (.slice G o l)).setCell ⟨b', 2, none⟩ (.slice G' o' l')) B A n c A' n' c' h :=
  hv_set3 (((hb'.set_ne hne.symm 0 _).set_ne hne.symm 1 _).set_ne hne.symm 2 _) j G o l G' o' l' (hv_set3 hb i D m k D' m' k' hv)

set_option maxHeartbeats 4000000 in
theorem PassHi (A : Option Addr) (n c : Nat) (A' : Option Addr) (n' c' : Nat) (D : Option Addr) (m k : Nat) (D' : Option Addr) (m' k' B : Nat) (p q : HU) (w : World) (hB : B ≤ w.heap.size) (hn : n ≤ 1000) (hn' : n' ≤ 1000) (hm : m ≤ 1000) (hm' : m' ≤ 1000)
    (hv : HV w B A n c A' n' c' p) (gv : HV w B D m k D' m' k' q) :
    Calls Try.prog 87 #[hkV p.pos A n c A' n' c', hkV q.pos D m k D' m' k'] w (PassEndH w (passH p q)) := by
  have HV0 := Lib.hid hv; have GV0 := Lib.hid gv
  go_enter Try.func87, Try.ntmps87
  go_wp2_with fail
  have hw0 : Below w.heap.size w ((((w.alloc (.cells #[.int .i64 p.pos, .slice A n c, .slice A' n' c'] 52)).alloc (.cells #[.int .i64 q.pos, .slice D m k, .slice D' m' k'] 52)).alloc (.cells #[.int .i64 0, .slice none 0 0, .slice none 0 0] 52)).alloc (.cells #[.int .i64 0, .slice none 0 0, .slice none 0 0] 52)) :=
    ((((Below.refl _ _).alloc (Nat.le_refl _) _).alloc (by simp) _).alloc (by simp; omega) _).alloc (by simp; omega) _
  have b0 := (((Blk.new w 52 #[.int .i64 p.pos, .slice A n c, .slice A' n' c']).alloc (.cells #[.int .i64 q.pos, .slice D m k, .slice D' m' k'] 52)).alloc (.cells #[.int .i64 0, .slice none 0 0, .slice none 0 0] 52)).alloc (.cells #[.int .i64 0, .slice none 0 0, .slice none 0 0] 52)
  have b1 := ((Blk.new (w.alloc (.cells #[.int .i64 p.pos, .slice A n c, .slice A' n' c'] 52)) 52 #[.int .i64 q.pos, .slice D m k, .slice D' m' k']).alloc (.cells #[.int .i64 0, .slice none 0 0, .slice none 0 0] 52)).alloc (.cells #[.int .i64 0, .slice none 0 0, .slice none 0 0] 52)
  have b2 := (Blk.new ((w.alloc (.cells #[.int .i64 p.pos, .slice A n c, .slice A' n' c'] 52)).alloc (.cells #[.int .i64 q.pos, .slice D m k, .slice D' m' k'] 52)) 52 #[.int .i64 0, .slice none 0 0, .slice none 0 0]).alloc (.cells #[.int .i64 0, .slice none 0 0, .slice none 0 0] 52)
  have b3 := Blk.new (((w.alloc (.cells #[.int .i64 p.pos, .slice A n c, .slice A' n' c'] 52)).alloc (.cells #[.int .i64 q.pos, .slice D m k, .slice D' m' k'] 52)).alloc (.cells #[.int .i64 0, .slice none 0 0, .slice none 0 0] 52)) 52 #[.int .i64 0, .slice none 0 0, .slice none 0 0]
  simp only [World.size_alloc] at b1 b2 b3
  generalize ((((w.alloc (.cells #[.int .i64 p.pos, .slice A n c, .slice A' n' c'] 52)).alloc (.cells #[.int .i64 q.pos, .slice D m k, .slice D' m' k'] 52)).alloc (.cells #[.int .i64 0, .slice none 0 0, .slice none 0 0] 52)).alloc (.cells #[.int .i64 0, .slice none 0 0, .slice none 0 0] 52)) = w0 at *
  clear hv gv
  obtain ⟨g, hgs⟩ : ∃ g, w.heap.size = g := ⟨_, rfl⟩
  rw [hgs] at hw0 b0 b1 b2 b3 ⊢
  rw [show g + 1 + 1 = g + 2 from rfl] at b2 b3 ⊢
  rw [show g + 2 + 1 = g + 3 from rfl] at b3 ⊢
  have HGS := Lib.hid hgs; clear hgs
  refine (May A n c A' n' c' B p w0 (Nat.le_trans hB hw0.size) (HV0.out.below (hw0.mono (by rw [← HGS.out]; exact hB)))).mono ?_
  rintro e w1 ⟨rfl, h1⟩
  have b0 := b0.below h1 b0.lt; have b1 := b1.below h1 b1.lt; have b2 := b2.below h1 b2.lt; have b3 := b3.below h1 b3.lt
  have hw1 := hw0.trans (h1.mono (by rw [← HGS.out]; exact hw0.size))
  clear h1 hw0
  cases hmp : mayH p with
  | false =>
    have HN := Lib.hid (passH_no1 (q := q) hmp)
    clear hmp
    have q20 : w1.cell? ⟨g + 2, 0, none⟩ = some (.int .i64 0) := b2.cell 0 rfl; have q21 : w1.cell? ⟨g + 2, 1, none⟩ = some (.slice none 0 0) := b2.cell 1 rfl; have q22 : w1.cell? ⟨g + 2, 2, none⟩ = some (.slice none 0 0) := b2.cell 2 rfl
    have q30 : w1.cell? ⟨g + 3, 0, none⟩ = some (.int .i64 0) := b3.cell 0 rfl; have q31 : w1.cell? ⟨g + 3, 1, none⟩ = some (.slice none 0 0) := b3.cell 1 rfl; have q32 : w1.cell? ⟨g + 3, 2, none⟩ = some (.slice none 0 0) := b3.cell 2 rfl
    have f20 := b2.frozen 0; have f21 := b2.frozen 1; have f22 := b2.frozen 2; have f30 := b3.frozen 0; have f31 := b3.frozen 1; have f32 := b3.frozen 2
    go_wp2_with fail
    obtain ⟨z2, z3⟩ := two_set b2 b3 (by omega) (.int .i64 0) (.slice none 0 0) (.slice none 0 0) (.int .i64 0) (.slice none 0 0) (.slice none 0 0)
    have hb6 := below_set6 (b := g + 2) (b' := g + 3) hw1 (by omega) (by omega) (.int .i64 0) (.slice none 0 0) (.slice none 0 0) (.int .i64 0) (.slice none 0 0) (.slice none 0 0)
    generalize (((((World.setCell w1 ⟨g + 2, 0, none⟩ (.int .i64 0)).setCell ⟨g + 2, 1, none⟩ (.slice none 0 0)).setCell ⟨g + 2, 2, none⟩ (.slice none 0 0)).setCell ⟨g + 3, 0, none⟩ (.int .i64 0)).setCell ⟨g + 3, 1, none⟩ (.slice none 0 0)).setCell ⟨g + 3, 2, none⟩ (.slice none 0 0) = W3 at *
    have q20 : W3.cell? ⟨g + 2, 0, none⟩ = some (.int .i64 0) := z2.cell 0 rfl; have q21 : W3.cell? ⟨g + 2, 1, none⟩ = some (.slice none 0 0) := z2.cell 1 rfl; have q22 : W3.cell? ⟨g + 2, 2, none⟩ = some (.slice none 0 0) := z2.cell 2 rfl
    have q30 : W3.cell? ⟨g + 3, 0, none⟩ = some (.int .i64 0) := z3.cell 0 rfl; have q31 : W3.cell? ⟨g + 3, 1, none⟩ = some (.slice none 0 0) := z3.cell 1 rfl; have q32 : W3.cell? ⟨g + 3, 2, none⟩ = some (.slice none 0 0) := z3.cell 2 rfl
    refine bodyPost_ret (v := .tuple #[hkV 0 none 0 0 none 0 0, hkV 0 none 0 0 none 0 0, .bool false]) (by simp [results, Try.results87, go_sem, q20, q21, q22, q30, q31, q32]) rfl ?_
    exact passEndH_none HN.out (by rw [HGS.out]; exact hb6)
  | true =>
  have HMP := Lib.hid hmp; clear hmp
  have y0 : w1.cell? ⟨g + 1, 0, none⟩ = some (.int .i64 q.pos) := b1.cell 0 rfl; have y1 : w1.cell? ⟨g + 1, 1, none⟩ = some (.slice D m k) := b1.cell 1 rfl; have y2 : w1.cell? ⟨g + 1, 2, none⟩ = some (.slice D' m' k') := b1.cell 2 rfl
  go_wp2_with fail
  refine (May D m k D' m' k' B q w1 (Nat.le_trans hB hw1.size) (GV0.out.below (hw1.mono (by rw [← HGS.out]; exact hB)))).mono ?_
  rintro e w2 ⟨rfl, h1⟩
  clear y0 y1 y2
  have b0 := b0.below h1 b0.lt; have b1 := b1.below h1 b1.lt; have b2 := b2.below h1 b2.lt; have b3 := b3.below h1 b3.lt
  have hw2 := hw1.trans (h1.mono (by rw [← HGS.out]; exact hw1.size))
  clear h1 hw1
  cases hmq : mayH q with
  | false =>
    have HN := Lib.hid (passH_no2 (p := p) hmq)
    clear hmq
    have q20 : w2.cell? ⟨g + 2, 0, none⟩ = some (.int .i64 0) := b2.cell 0 rfl; have q21 : w2.cell? ⟨g + 2, 1, none⟩ = some (.slice none 0 0) := b2.cell 1 rfl; have q22 : w2.cell? ⟨g + 2, 2, none⟩ = some (.slice none 0 0) := b2.cell 2 rfl
    have q30 : w2.cell? ⟨g + 3, 0, none⟩ = some (.int .i64 0) := b3.cell 0 rfl; have q31 : w2.cell? ⟨g + 3, 1, none⟩ = some (.slice none 0 0) := b3.cell 1 rfl; have q32 : w2.cell? ⟨g + 3, 2, none⟩ = some (.slice none 0 0) := b3.cell 2 rfl
    have f20 := b2.frozen 0; have f21 := b2.frozen 1; have f22 := b2.frozen 2; have f30 := b3.frozen 0; have f31 := b3.frozen 1; have f32 := b3.frozen 2
    go_wp2_with fail
    obtain ⟨z2, z3⟩ := two_set b2 b3 (by omega) (.int .i64 0) (.slice none 0 0) (.slice none 0 0) (.int .i64 0) (.slice none 0 0) (.slice none 0 0)
    have hb6 := below_set6 (b := g + 2) (b' := g + 3) hw2 (by omega) (by omega) (.int .i64 0) (.slice none 0 0) (.slice none 0 0) (.int .i64 0) (.slice none 0 0) (.slice none 0 0)
    generalize (((((World.setCell w2 ⟨g + 2, 0, none⟩ (.int .i64 0)).setCell ⟨g + 2, 1, none⟩ (.slice none 0 0)).setCell ⟨g + 2, 2, none⟩ (.slice none 0 0)).setCell ⟨g + 3, 0, none⟩ (.int .i64 0)).setCell ⟨g + 3, 1, none⟩ (.slice none 0 0)).setCell ⟨g + 3, 2, none⟩ (.slice none 0 0) = W3 at *
    have q20 : W3.cell? ⟨g + 2, 0, none⟩ = some (.int .i64 0) := z2.cell 0 rfl; have q21 : W3.cell? ⟨g + 2, 1, none⟩ = some (.slice none 0 0) := z2.cell 1 rfl; have q22 : W3.cell? ⟨g + 2, 2, none⟩ = some (.slice none 0 0) := z2.cell 2 rfl
    have q30 : W3.cell? ⟨g + 3, 0, none⟩ = some (.int .i64 0) := z3.cell 0 rfl; have q31 : W3.cell? ⟨g + 3, 1, none⟩ = some (.slice none 0 0) := z3.cell 1 rfl; have q32 : W3.cell? ⟨g + 3, 2, none⟩ = some (.slice none 0 0) := z3.cell 2 rfl
    refine bodyPost_ret (v := .tuple #[hkV 0 none 0 0 none 0 0, hkV 0 none 0 0 none 0 0, .bool false]) (by simp [results, Try.results87, go_sem, q20, q21, q22, q30, q31, q32]) rfl ?_
    exact passEndH_none HN.out (by rw [HGS.out]; exact hb6)
  | true =>
  have HMQ := Lib.hid hmq; clear hmq
  have x0 : w2.cell? ⟨g, 0, none⟩ = some (.int .i64 p.pos) := b0.cell 0 rfl; have x1 : w2.cell? ⟨g, 1, none⟩ = some (.slice A n c) := b0.cell 1 rfl; have x2 : w2.cell? ⟨g, 2, none⟩ = some (.slice A' n' c') := b0.cell 2 rfl
  have y0 : w2.cell? ⟨g + 1, 0, none⟩ = some (.int .i64 q.pos) := b1.cell 0 rfl; have y1 : w2.cell? ⟨g + 1, 1, none⟩ = some (.slice D m k) := b1.cell 1 rfl; have y2 : w2.cell? ⟨g + 1, 2, none⟩ = some (.slice D' m' k') := b1.cell 2 rfl
  go_wp2_with fail
  refine (ways A n c A' n' c' D m k D' m' k' p.pos q.pos w2).mono ?_
  rintro e w3 ⟨rfl, r0, r1, r2, h1⟩
  clear x0 x1 x2 y0 y1 y2
  have b0 := b0.below h1 b0.lt; have b1 := b1.below h1 b1.lt; have b2 := b2.below h1 b2.lt; have b3 := b3.below h1 b3.lt
  have hw3 := hw2.trans (h1.mono (by rw [← HGS.out]; exact hw2.size))
  clear h1 hw2
  generalize w2.heap.size = u at *
  go_wp2_with fail
  have HB0 := Lib.hid b0; have HB1 := Lib.hid b1; have HB2 := Lib.hid b2; have HB3 := Lib.hid b3; have HR0 := Lib.hid r0; have HR1 := Lib.hid r1; have HR2 := Lib.hid r2; have HW3 := Lib.hid hw3
  clear b0 b1 b2 b3 r0 r1 r2 hw3
  have PB0 := Lib.hid (mayH_pos HMP.out); have PB1 := Lib.hid (mayH_pos HMQ.out)
  go_loopw [26] (fun i wr => ∃ d, wr = w3.drewN d ∧ (i = .int .i64 0 ∨ (i = .int .i64 1 ∧ Shut1 p q n n') ∨ (i = .int .i64 2 ∧ Shut1 p q n n' ∧ Shut2 p q m m'))) (fun i _ => 2 - (intOf i).toNat)
  case atStart => exact ⟨0, rfl, .inl rfl⟩
  case round =>
    obtain ⟨d, rfl, rfl | ⟨rfl, hs1⟩ | ⟨rfl, hs1, hs2⟩⟩ := hrel
    · have row0 : (w3.drewN d).cell? ⟨u + 2, 0, none⟩ = some (wayV 118 u (u + 1)) := HR2.out.cell 0 rfl
      go_wp2_with fail
      refine (way1 u (u + 1) A n c A' n' c' D m k D' m' k' p.pos q.pos (w3.drewN d) PB0.out.1 PB0.out.2 PB1.out.1 PB1.out.2 hn hn' hm hm' HR0.out HR1.out).mono ?_
      rintro e w4 ⟨rfl, d1, rfl⟩
      clear row0
      by_cases o1 : p.pos + n' < q.pos
      · rw [decide_eq_true o1]
        by_cases o2 : q.pos - n' + n ≤ 1048576
        · have HN := Lib.hid (passH_open1 HV0.out.l HV0.out.l' HMP.out HMQ.out o1 o2 PB0.out.2)
          have HI := Lib.hid (show I64 (q.pos - n' + n) from ⟨by have := PB1.out.1; omega, by omega⟩)
          have HJ := Lib.hid (show I64 (p.pos) from HV0.out.p)
          have o3 := PB0.out.2
          obtain ⟨w4, hw4⟩ : ∃ w4, w4 = (w3.drewN d).drewN d1 := ⟨_, rfl⟩
          rw [← hw4]
          have c0 : Blk w4 g 52 #[.int .i64 p.pos, .slice A n c, .slice A' n' c'] := by rw [hw4]; exact HB0.out
          have c1 : Blk w4 (g + 1) 52 #[.int .i64 q.pos, .slice D m k, .slice D' m' k'] := by rw [hw4]; exact HB1.out
          have c2 : Blk w4 (g + 2) 52 #[.int .i64 0, .slice none 0 0, .slice none 0 0] := by rw [hw4]; exact HB2.out
          have c3 : Blk w4 (g + 3) 52 #[.int .i64 0, .slice none 0 0, .slice none 0 0] := by rw [hw4]; exact HB3.out
          have hw4' : Below g w w4 := by rw [hw4]; exact below_drewN (below_drewN HW3.out d) d1
          have hle : B ≤ w4.heap.size := Nat.le_trans hB hw4'.size
          have hgp : ∀ W, Below w4.heap.size w4 W → HV W B A n c A' n' c' p := fun W hb => (HV0.out.below (hw4'.mono (by rw [← HGS.out]; exact hB))).below (hb.mono hle)
          have hgq : ∀ W, Below w4.heap.size w4 W → HV W B D m k D' m' k' q := fun W hb => (GV0.out.below (hw4'.mono (by rw [← HGS.out]; exact hB))).below (hb.mono hle)
          have C0 := Lib.hid c0; have C1 := Lib.hid c1; have C2 := Lib.hid c2; have C3 := Lib.hid c3; have HW4 := Lib.hid hw4'
          have PP : Hid (∀ W, Below w4.heap.size w4 W → Calls Try.prog 103 #[hkV p.pos A n c A' n' c', .int .i64 (p.pos)] W (fun e u' => ∃ P p1 Q q1, e = .returned (hkV (p.pos) P n p1 Q n' q1) ∧ HV u' u'.heap.size P n p1 Q n' q1 (at_ p (p.pos)) ∧ (Hi W.heap.size P ∧ Hi W.heap.size Q) ∧ Below W.heap.size W u')) := Lib.hid (fun W hb => placed A n c A' n' c' B p (p.pos) W (Nat.le_trans hle hb.size) hn hn' (hgp W hb) HJ.out)
          have PQ : Hid (∀ W, Below w4.heap.size w4 W → Calls Try.prog 103 #[hkV q.pos D m k D' m' k', .int .i64 (q.pos - n' + n)] W (fun e u' => ∃ P p1 Q q1, e = .returned (hkV (q.pos - n' + n) P m p1 Q m' q1) ∧ HV u' u'.heap.size P m p1 Q m' q1 (at_ q (q.pos - n' + n)) ∧ (Hi W.heap.size P ∧ Hi W.heap.size Q) ∧ Below W.heap.size W u')) := Lib.hid (fun W hb => placed D m k D' m' k' B q (q.pos - n' + n) W (Nat.le_trans hle hb.size) hm hm' (hgq W hb) HI.out)
          have HC : Hid (∀ W, Below w4.heap.size w4 W → W.cell? ⟨g, 0, none⟩ = some (.int .i64 p.pos) ∧ W.cell? ⟨g, 1, none⟩ = some (.slice A n c) ∧ W.cell? ⟨g, 2, none⟩ = some (.slice A' n' c') ∧ W.cell? ⟨g + 1, 0, none⟩ = some (.int .i64 q.pos) ∧ W.cell? ⟨g + 1, 1, none⟩ = some (.slice D m k) ∧ W.cell? ⟨g + 1, 2, none⟩ = some (.slice D' m' k')) := Lib.hid (fun W hb => by
            have b := C0.out.below hb C0.out.lt
            have b' := C1.out.below hb C1.out.lt
            exact ⟨b.cell 0 rfl, b.cell 1 rfl, b.cell 2 rfl, b'.cell 0 rfl, b'.cell 1 rfl, b'.cell 2 rfl⟩)
          clear c0 c1 c2 c3 hw4 hw4' hgp hgq hle
          obtain ⟨x0, x1, x2, y0, y1, y2⟩ := HC.out w4 (Below.refl _ _)
          go_wp2_with fail
          go_region_held3 (fun W => W.cell? ⟨g, 0, none⟩ = some (.int .i64 p.pos) ∧ W.cell? ⟨g, 1, none⟩ = some (.slice A n c) ∧ W.cell? ⟨g, 2, none⟩ = some (.slice A' n' c') ∧ W.cell? ⟨g + 1, 0, none⟩ = some (.int .i64 q.pos) ∧ W.cell? ⟨g + 1, 1, none⟩ = some (.slice D m k) ∧ W.cell? ⟨g + 1, 2, none⟩ = some (.slice D' m' k'))
            (first | go_keep | (exact hS5) | (exact hS6))
            (first
              | (go_at_call 103; (with_reducible refine (PQ.out w4.drew (below_drewN (Below.refl _ _) 1)).mono ?_); rintro e w5 ⟨P5, p5, Q5, q5, rfl, hv, hh, hb⟩; have HH5 := Lib.hid hh; clear hh; have hbu := (below_drewN (Below.refl w4.heap.size w4) 1).trans hb; have hS5 := HC.out w5 hbu; have HU5 := Lib.hid hbu; have HV5 := Lib.hid hv; clear hb hbu hv)
              | (go_at_call 103; (with_reducible refine (PP.out w5 HU5.out).mono ?_); rintro e w6 ⟨P6, p6, Q6, q6, rfl, hv, hh, hb⟩; have HH6 := Lib.hid hh; clear hh; have hbu := HU5.out.trans (hb.mono HU5.out.size); have hS6 := HC.out w6 hbu; have HU6 := Lib.hid hbu; have HV6 := Lib.hid hv; have HB6 := Lib.hid hb;
                  have b2 := C2.out.below hbu C2.out.lt; have b3 := C3.out.below hbu C3.out.lt;
                  have q20 : w6.cell? ⟨g + 2, 0, none⟩ = some (.int .i64 0) := b2.cell 0 rfl; have q21 : w6.cell? ⟨g + 2, 1, none⟩ = some (.slice none 0 0) := b2.cell 1 rfl; have q22 : w6.cell? ⟨g + 2, 2, none⟩ = some (.slice none 0 0) := b2.cell 2 rfl;
                  have q30 : w6.cell? ⟨g + 3, 0, none⟩ = some (.int .i64 0) := b3.cell 0 rfl; have q31 : w6.cell? ⟨g + 3, 1, none⟩ = some (.slice none 0 0) := b3.cell 1 rfl; have q32 : w6.cell? ⟨g + 3, 2, none⟩ = some (.slice none 0 0) := b3.cell 2 rfl;
                  have f20 := b2.frozen 0; have f21 := b2.frozen 1; have f22 := b2.frozen 2; have f30 := b3.frozen 0; have f31 := b3.frozen 1; have f32 := b3.frozen 2;
                  have Z2 := Lib.hid b2; have Z3 := Lib.hid b3; clear hb hbu hv b2 b3))
          go_wp2_with fail
          have v5 := hv_set6 Z2.out Z3.out (by omega) (q.pos - n' + n) P5 m p5 Q5 m' q5 (p.pos) P6 n p6 Q6 n' q6 ((HV5.out.below HB6.out).up HB6.out.size)
          have v6 := hv_set6 Z2.out Z3.out (by omega) (q.pos - n' + n) P5 m p5 Q5 m' q5 (p.pos) P6 n p6 Q6 n' q6 HV6.out
          obtain ⟨z2, z3⟩ := two_set Z2.out Z3.out (by omega) (.int .i64 (q.pos - n' + n)) (.slice P5 m p5) (.slice Q5 m' q5) (.int .i64 (p.pos)) (.slice P6 n p6) (.slice Q6 n' q6)
          have hb6 := below_set6 (b := g + 2) (b' := g + 3) (HW4.out.trans (HU6.out.mono (by rw [← HGS.out]; exact HW4.out.size))) (by omega) (by omega) (.int .i64 (q.pos - n' + n)) (.slice P5 m p5) (.slice Q5 m' q5) (.int .i64 (p.pos)) (.slice P6 n p6) (.slice Q6 n' q6)
          have hsz := (below_set6 (b := g + 2) (b' := g + 3) (Below.refl 0 w6) (by omega) (by omega) (.int .i64 (q.pos - n' + n)) (.slice P5 m p5) (.slice Q5 m' q5) (.int .i64 (p.pos)) (.slice P6 n p6) (.slice Q6 n' q6)).size
          generalize (((((World.setCell w6 ⟨g + 2, 0, none⟩ (.int .i64 (q.pos - n' + n))).setCell ⟨g + 2, 1, none⟩ (.slice P5 m p5)).setCell ⟨g + 2, 2, none⟩ (.slice Q5 m' q5)).setCell ⟨g + 3, 0, none⟩ (.int .i64 (p.pos))).setCell ⟨g + 3, 1, none⟩ (.slice P6 n p6)).setCell ⟨g + 3, 2, none⟩ (.slice Q6 n' q6) = W3 at *
          clear q20 q21 q22 q30 q31 q32
          have q20 : W3.cell? ⟨g + 2, 0, none⟩ = some (.int .i64 (q.pos - n' + n)) := z2.cell 0 rfl; have q21 : W3.cell? ⟨g + 2, 1, none⟩ = some (.slice P5 m p5) := z2.cell 1 rfl; have q22 : W3.cell? ⟨g + 2, 2, none⟩ = some (.slice Q5 m' q5) := z2.cell 2 rfl
          have q30 : W3.cell? ⟨g + 3, 0, none⟩ = some (.int .i64 (p.pos)) := z3.cell 0 rfl; have q31 : W3.cell? ⟨g + 3, 1, none⟩ = some (.slice P6 n p6) := z3.cell 1 rfl; have q32 : W3.cell? ⟨g + 3, 2, none⟩ = some (.slice Q6 n' q6) := z3.cell 2 rfl
          refine bodyPost_ret (v := .tuple #[hkV (q.pos - n' + n) P5 m p5 Q5 m' q5, hkV (p.pos) P6 n p6 Q6 n' q6, .bool true]) (by simp [results, Try.results87, go_sem, q20, q21, q22, q30, q31, q32]) rfl ?_
          rw [HN.out]
          exact ⟨P5, m, p5, Q5, m', q5, P6, n, p6, Q6, n', q6, rfl, v5.up hsz, v6.up hsz, (by
            have l4 := HW4.out.size
            have l5 : w4.heap.size ≤ w5.heap.size := HU5.out.size
            rw [HGS.out] at l4 ⊢
            exact ⟨HH5.out.1.mono (show g ≤ w4.drew.heap.size from l4), HH5.out.2.mono (show g ≤ w4.drew.heap.size from l4), HH6.out.1.mono (Nat.le_trans l4 l5), HH6.out.2.mono (Nat.le_trans l4 l5)⟩), by rw [HGS.out]; exact hb6⟩
        · have hs : Shut1 p q n n' := fun h => o2 h.2.1
          go_wp2_with fail
          exact ⟨⟨_, rfl, .inr (.inl ⟨rfl, hs⟩)⟩, by simp [intOf]⟩
      · rw [decide_eq_false o1]
        have hs : Shut1 p q n n' := fun h => o1 h.1
        go_wp2_with fail
        exact ⟨⟨_, rfl, .inr (.inl ⟨rfl, hs⟩)⟩, by simp [intOf]⟩
    · have HS1 := Lib.hid hs1; clear hs1
      have row1 : (w3.drewN d).cell? ⟨u + 2, 1, none⟩ = some (wayV 119 u (u + 1)) := HR2.out.cell 1 rfl
      go_wp2_with fail
      refine (way2 u (u + 1) A n c A' n' c' D m k D' m' k' p.pos q.pos (w3.drewN d) PB0.out.1 PB0.out.2 PB1.out.1 PB1.out.2 hn hn' hm hm' HR0.out HR1.out).mono ?_
      rintro e w4 ⟨rfl, d1, rfl⟩
      clear row1
      by_cases o1 : q.pos + m < p.pos
      · rw [decide_eq_true o1]
        by_cases o2 : p.pos - m + m' ≤ 1048576
        · have HN := Lib.hid (passH_open2 GV0.out.l GV0.out.l' HMP.out HMQ.out o1 PB1.out.2 o2)
          have HI := Lib.hid (show I64 (q.pos) from GV0.out.p)
          have HJ := Lib.hid (show I64 (p.pos - m + m') from ⟨by have := PB0.out.1; omega, by omega⟩)
          have o3 := PB1.out.2
          obtain ⟨w4, hw4⟩ : ∃ w4, w4 = (w3.drewN d).drewN d1 := ⟨_, rfl⟩
          rw [← hw4]
          have c0 : Blk w4 g 52 #[.int .i64 p.pos, .slice A n c, .slice A' n' c'] := by rw [hw4]; exact HB0.out
          have c1 : Blk w4 (g + 1) 52 #[.int .i64 q.pos, .slice D m k, .slice D' m' k'] := by rw [hw4]; exact HB1.out
          have c2 : Blk w4 (g + 2) 52 #[.int .i64 0, .slice none 0 0, .slice none 0 0] := by rw [hw4]; exact HB2.out
          have c3 : Blk w4 (g + 3) 52 #[.int .i64 0, .slice none 0 0, .slice none 0 0] := by rw [hw4]; exact HB3.out
          have hw4' : Below g w w4 := by rw [hw4]; exact below_drewN (below_drewN HW3.out d) d1
          have hle : B ≤ w4.heap.size := Nat.le_trans hB hw4'.size
          have hgp : ∀ W, Below w4.heap.size w4 W → HV W B A n c A' n' c' p := fun W hb => (HV0.out.below (hw4'.mono (by rw [← HGS.out]; exact hB))).below (hb.mono hle)
          have hgq : ∀ W, Below w4.heap.size w4 W → HV W B D m k D' m' k' q := fun W hb => (GV0.out.below (hw4'.mono (by rw [← HGS.out]; exact hB))).below (hb.mono hle)
          have C0 := Lib.hid c0; have C1 := Lib.hid c1; have C2 := Lib.hid c2; have C3 := Lib.hid c3; have HW4 := Lib.hid hw4'
          have PP : Hid (∀ W, Below w4.heap.size w4 W → Calls Try.prog 103 #[hkV p.pos A n c A' n' c', .int .i64 (p.pos - m + m')] W (fun e u' => ∃ P p1 Q q1, e = .returned (hkV (p.pos - m + m') P n p1 Q n' q1) ∧ HV u' u'.heap.size P n p1 Q n' q1 (at_ p (p.pos - m + m')) ∧ (Hi W.heap.size P ∧ Hi W.heap.size Q) ∧ Below W.heap.size W u')) := Lib.hid (fun W hb => placed A n c A' n' c' B p (p.pos - m + m') W (Nat.le_trans hle hb.size) hn hn' (hgp W hb) HJ.out)
          have PQ : Hid (∀ W, Below w4.heap.size w4 W → Calls Try.prog 103 #[hkV q.pos D m k D' m' k', .int .i64 (q.pos)] W (fun e u' => ∃ P p1 Q q1, e = .returned (hkV (q.pos) P m p1 Q m' q1) ∧ HV u' u'.heap.size P m p1 Q m' q1 (at_ q (q.pos)) ∧ (Hi W.heap.size P ∧ Hi W.heap.size Q) ∧ Below W.heap.size W u')) := Lib.hid (fun W hb => placed D m k D' m' k' B q (q.pos) W (Nat.le_trans hle hb.size) hm hm' (hgq W hb) HI.out)
          have HC : Hid (∀ W, Below w4.heap.size w4 W → W.cell? ⟨g, 0, none⟩ = some (.int .i64 p.pos) ∧ W.cell? ⟨g, 1, none⟩ = some (.slice A n c) ∧ W.cell? ⟨g, 2, none⟩ = some (.slice A' n' c') ∧ W.cell? ⟨g + 1, 0, none⟩ = some (.int .i64 q.pos) ∧ W.cell? ⟨g + 1, 1, none⟩ = some (.slice D m k) ∧ W.cell? ⟨g + 1, 2, none⟩ = some (.slice D' m' k')) := Lib.hid (fun W hb => by
            have b := C0.out.below hb C0.out.lt
            have b' := C1.out.below hb C1.out.lt
            exact ⟨b.cell 0 rfl, b.cell 1 rfl, b.cell 2 rfl, b'.cell 0 rfl, b'.cell 1 rfl, b'.cell 2 rfl⟩)
          clear c0 c1 c2 c3 hw4 hw4' hgp hgq hle
          obtain ⟨x0, x1, x2, y0, y1, y2⟩ := HC.out w4 (Below.refl _ _)
          go_wp2_with fail
          go_region_held3 (fun W => W.cell? ⟨g, 0, none⟩ = some (.int .i64 p.pos) ∧ W.cell? ⟨g, 1, none⟩ = some (.slice A n c) ∧ W.cell? ⟨g, 2, none⟩ = some (.slice A' n' c') ∧ W.cell? ⟨g + 1, 0, none⟩ = some (.int .i64 q.pos) ∧ W.cell? ⟨g + 1, 1, none⟩ = some (.slice D m k) ∧ W.cell? ⟨g + 1, 2, none⟩ = some (.slice D' m' k'))
            (first | go_keep | (exact hS5) | (exact hS6))
            (first
              | (go_at_call 103; (with_reducible refine (PQ.out w4.drew (below_drewN (Below.refl _ _) 1)).mono ?_); rintro e w5 ⟨P5, p5, Q5, q5, rfl, hv, hh, hb⟩; have HH5 := Lib.hid hh; clear hh; have hbu := (below_drewN (Below.refl w4.heap.size w4) 1).trans hb; have hS5 := HC.out w5 hbu; have HU5 := Lib.hid hbu; have HV5 := Lib.hid hv; clear hb hbu hv)
              | (go_at_call 103; (with_reducible refine (PP.out w5 HU5.out).mono ?_); rintro e w6 ⟨P6, p6, Q6, q6, rfl, hv, hh, hb⟩; have HH6 := Lib.hid hh; clear hh; have hbu := HU5.out.trans (hb.mono HU5.out.size); have hS6 := HC.out w6 hbu; have HU6 := Lib.hid hbu; have HV6 := Lib.hid hv; have HB6 := Lib.hid hb;
                  have b2 := C2.out.below hbu C2.out.lt; have b3 := C3.out.below hbu C3.out.lt;
                  have q20 : w6.cell? ⟨g + 2, 0, none⟩ = some (.int .i64 0) := b2.cell 0 rfl; have q21 : w6.cell? ⟨g + 2, 1, none⟩ = some (.slice none 0 0) := b2.cell 1 rfl; have q22 : w6.cell? ⟨g + 2, 2, none⟩ = some (.slice none 0 0) := b2.cell 2 rfl;
                  have q30 : w6.cell? ⟨g + 3, 0, none⟩ = some (.int .i64 0) := b3.cell 0 rfl; have q31 : w6.cell? ⟨g + 3, 1, none⟩ = some (.slice none 0 0) := b3.cell 1 rfl; have q32 : w6.cell? ⟨g + 3, 2, none⟩ = some (.slice none 0 0) := b3.cell 2 rfl;
                  have f20 := b2.frozen 0; have f21 := b2.frozen 1; have f22 := b2.frozen 2; have f30 := b3.frozen 0; have f31 := b3.frozen 1; have f32 := b3.frozen 2;
                  have Z2 := Lib.hid b2; have Z3 := Lib.hid b3; clear hb hbu hv b2 b3))
          go_wp2_with fail
          have v5 := hv_set6 Z2.out Z3.out (by omega) (q.pos) P5 m p5 Q5 m' q5 (p.pos - m + m') P6 n p6 Q6 n' q6 ((HV5.out.below HB6.out).up HB6.out.size)
          have v6 := hv_set6 Z2.out Z3.out (by omega) (q.pos) P5 m p5 Q5 m' q5 (p.pos - m + m') P6 n p6 Q6 n' q6 HV6.out
          obtain ⟨z2, z3⟩ := two_set Z2.out Z3.out (by omega) (.int .i64 (q.pos)) (.slice P5 m p5) (.slice Q5 m' q5) (.int .i64 (p.pos - m + m')) (.slice P6 n p6) (.slice Q6 n' q6)
          have hb6 := below_set6 (b := g + 2) (b' := g + 3) (HW4.out.trans (HU6.out.mono (by rw [← HGS.out]; exact HW4.out.size))) (by omega) (by omega) (.int .i64 (q.pos)) (.slice P5 m p5) (.slice Q5 m' q5) (.int .i64 (p.pos - m + m')) (.slice P6 n p6) (.slice Q6 n' q6)
          have hsz := (below_set6 (b := g + 2) (b' := g + 3) (Below.refl 0 w6) (by omega) (by omega) (.int .i64 (q.pos)) (.slice P5 m p5) (.slice Q5 m' q5) (.int .i64 (p.pos - m + m')) (.slice P6 n p6) (.slice Q6 n' q6)).size
          generalize (((((World.setCell w6 ⟨g + 2, 0, none⟩ (.int .i64 (q.pos))).setCell ⟨g + 2, 1, none⟩ (.slice P5 m p5)).setCell ⟨g + 2, 2, none⟩ (.slice Q5 m' q5)).setCell ⟨g + 3, 0, none⟩ (.int .i64 (p.pos - m + m'))).setCell ⟨g + 3, 1, none⟩ (.slice P6 n p6)).setCell ⟨g + 3, 2, none⟩ (.slice Q6 n' q6) = W3 at *
          clear q20 q21 q22 q30 q31 q32
          have q20 : W3.cell? ⟨g + 2, 0, none⟩ = some (.int .i64 (q.pos)) := z2.cell 0 rfl; have q21 : W3.cell? ⟨g + 2, 1, none⟩ = some (.slice P5 m p5) := z2.cell 1 rfl; have q22 : W3.cell? ⟨g + 2, 2, none⟩ = some (.slice Q5 m' q5) := z2.cell 2 rfl
          have q30 : W3.cell? ⟨g + 3, 0, none⟩ = some (.int .i64 (p.pos - m + m')) := z3.cell 0 rfl; have q31 : W3.cell? ⟨g + 3, 1, none⟩ = some (.slice P6 n p6) := z3.cell 1 rfl; have q32 : W3.cell? ⟨g + 3, 2, none⟩ = some (.slice Q6 n' q6) := z3.cell 2 rfl
          refine bodyPost_ret (v := .tuple #[hkV (q.pos) P5 m p5 Q5 m' q5, hkV (p.pos - m + m') P6 n p6 Q6 n' q6, .bool true]) (by simp [results, Try.results87, go_sem, q20, q21, q22, q30, q31, q32]) rfl ?_
          rw [HN.out]
          exact ⟨P5, m, p5, Q5, m', q5, P6, n, p6, Q6, n', q6, rfl, v5.up hsz, v6.up hsz, (by
            have l4 := HW4.out.size
            have l5 : w4.heap.size ≤ w5.heap.size := HU5.out.size
            rw [HGS.out] at l4 ⊢
            exact ⟨HH5.out.1.mono (show g ≤ w4.drew.heap.size from l4), HH5.out.2.mono (show g ≤ w4.drew.heap.size from l4), HH6.out.1.mono (Nat.le_trans l4 l5), HH6.out.2.mono (Nat.le_trans l4 l5)⟩), by rw [HGS.out]; exact hb6⟩
        · have hs : Shut2 p q m m' := fun h => o2 h.2.2
          have o3 := PB1.out.2
          go_wp2_with fail
          exact ⟨⟨_, rfl, .inr (.inr ⟨rfl, HS1.out, hs⟩)⟩, by simp [intOf]⟩
      · rw [decide_eq_false o1]
        have hs : Shut2 p q m m' := fun h => o1 h.1
        go_wp2_with fail
        exact ⟨⟨_, rfl, .inr (.inr ⟨rfl, HS1.out, hs⟩)⟩, by simp [intOf]⟩
    · have HN := Lib.hid (passH_shut HV0.out.l HV0.out.l' GV0.out.l GV0.out.l' hs1 hs2)
      clear hs1 hs2
      have b2 := HB2.out.drewN d; have b3 := HB3.out.drewN d
      have q20 : (w3.drewN d).cell? ⟨g + 2, 0, none⟩ = some (.int .i64 0) := b2.cell 0 rfl; have q21 : (w3.drewN d).cell? ⟨g + 2, 1, none⟩ = some (.slice none 0 0) := b2.cell 1 rfl; have q22 : (w3.drewN d).cell? ⟨g + 2, 2, none⟩ = some (.slice none 0 0) := b2.cell 2 rfl
      have q30 : (w3.drewN d).cell? ⟨g + 3, 0, none⟩ = some (.int .i64 0) := b3.cell 0 rfl; have q31 : (w3.drewN d).cell? ⟨g + 3, 1, none⟩ = some (.slice none 0 0) := b3.cell 1 rfl; have q32 : (w3.drewN d).cell? ⟨g + 3, 2, none⟩ = some (.slice none 0 0) := b3.cell 2 rfl
      have f20 := b2.frozen 0; have f21 := b2.frozen 1; have f22 := b2.frozen 2; have f30 := b3.frozen 0; have f31 := b3.frozen 1; have f32 := b3.frozen 2
      go_wp2_with fail
      obtain ⟨z2, z3⟩ := two_set b2 b3 (by omega) (.int .i64 0) (.slice none 0 0) (.slice none 0 0) (.int .i64 0) (.slice none 0 0) (.slice none 0 0)
      have hb6 := below_set6 (b := g + 2) (b' := g + 3) (below_drewN HW3.out d) (by omega) (by omega) (.int .i64 0) (.slice none 0 0) (.slice none 0 0) (.int .i64 0) (.slice none 0 0) (.slice none 0 0)
      generalize (((((World.setCell (w3.drewN d) ⟨g + 2, 0, none⟩ (.int .i64 0)).setCell ⟨g + 2, 1, none⟩ (.slice none 0 0)).setCell ⟨g + 2, 2, none⟩ (.slice none 0 0)).setCell ⟨g + 3, 0, none⟩ (.int .i64 0)).setCell ⟨g + 3, 1, none⟩ (.slice none 0 0)).setCell ⟨g + 3, 2, none⟩ (.slice none 0 0) = W3 at *
      have q20 : W3.cell? ⟨g + 2, 0, none⟩ = some (.int .i64 0) := z2.cell 0 rfl; have q21 : W3.cell? ⟨g + 2, 1, none⟩ = some (.slice none 0 0) := z2.cell 1 rfl; have q22 : W3.cell? ⟨g + 2, 2, none⟩ = some (.slice none 0 0) := z2.cell 2 rfl
      have q30 : W3.cell? ⟨g + 3, 0, none⟩ = some (.int .i64 0) := z3.cell 0 rfl; have q31 : W3.cell? ⟨g + 3, 1, none⟩ = some (.slice none 0 0) := z3.cell 1 rfl; have q32 : W3.cell? ⟨g + 3, 2, none⟩ = some (.slice none 0 0) := z3.cell 2 rfl
      refine bodyPost_ret (v := .tuple #[hkV 0 none 0 0 none 0 0, hkV 0 none 0 0 none 0 0, .bool false]) (by simp [results, Try.results87, go_sem, q20, q21, q22, q30, q31, q32]) rfl ?_
      exact passEndH_none HN.out (by rw [HGS.out]; exact hb6)

end Sw
end Go.Proofs.Ytdnkinajbebkoaa

namespace Go.Proofs.Ytdnkinajbebkoaa
open Go.RowKit
set_option linter.unusedVariables false
namespace Sw
open Tx Df Sq Hk

theorem mayH_moved {g h : HU} (hm : mayH g = true) (ho : h.old = g.old) (hn : h.new = g.new) (h0 : 0 ≤ h.pos) (h1 : h.pos ≤ 1048576) : mayH h = true := by
  unfold mayH at hm ⊢
  rw [ho, hn]
  simp only [Bool.and_eq_true, decide_eq_true_eq] at hm ⊢
  exact ⟨⟨h0, h1⟩, hm.2⟩
/-- What passed may be. -/
theorem passH_mays {p q x y : HU} (h : passH p q = some (x, y)) : mayH x = true ∧ mayH y = true := by
  obtain ⟨h1, h2, h3, h4, h5⟩ := passH_may h
  obtain ⟨a1, a2⟩ := pass_pos (x := x) (y := y) h3 (mayH_pos h1).1 (mayH_pos h2).1
  obtain ⟨_, b1, b2, b3, b4⟩ := pass_moves (x := x) (y := y) h3
  exact ⟨mayH_moved h2 b1 b2 a1 h4, mayH_moved h1 b3 b4 a2 h5⟩
theorem passH_three {p q r q1 p1 r1 p2 r2 q2 r3 q3 r4 p3 q4 p4 : HU} (i : passH p q = some (q1, p1)) (j : passH p1 r = some (r1, p2)) (k : passH q1 r1 = some (r2, q2))
    (l : passH q r = some (r3, q3)) (m : passH p r3 = some (r4, p3)) (n : passH p3 q3 = some (q4, p4)) : r2 = r4 ∧ q2 = q4 ∧ p2 = p4 :=
  pass_three (passH_may i).2.2.1 (passH_may j).2.2.1 (passH_may k).2.2.1 (passH_may l).2.2.1 (passH_may m).2.2.1 (passH_may n).2.2.1
/-- Turned they pass just if they do, in the other order. -/
theorem passH_turn {p q x y : HU} (h : passH p q = some (x, y)) : passH (turn q) (turn p) = some (turn y, turn x) := by
  obtain ⟨h1, h2, h3, h4, h5⟩ := passH_may h
  exact passH_some (by rw [mayH_turn]; exact h2) (by rw [mayH_turn]; exact h1) (pass_turn (x := x) (y := y) h3) h5 h4
end Sw
end Go.Proofs.Ytdnkinajbebkoaa
