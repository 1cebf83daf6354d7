/-
  Words and contracts, joined: GQ GP GX GS GH GT GR.
-/
import Derived.Test.YtfnhjflocfmcoaaGreatRows
import Derived.WalkKit
import Derived.WalkSpells
import Derived.WalkLawsBesides
import Derived.Lib.Hide
import Derived.Deep.Draws
import Derived.Laws.OwnMore
import Derived.ArgAppend
import Derived.Below
import Derived.Deep.QuietTactic
import Derived.BigQuiet
import Derived.ProofKit
import Derived.OpenShut
import Derived.ShutString
import Derived.ChangeOld
import Derived.RangeFuncBox
import Derived.Laws.CopyOwn
import Derived.Deep.RegionLaw
import Derived.Lib.Bytealg
import Derived.Lib.Bytes
import Derived.Lib.SmallJoins
import Derived.Deep.RegionHeld3
import Derived.IntWalk
import Derived.Deep.Slices
import Derived.Deep.Strs
import Derived.Deep.AppendLies
import Derived.Laws.Rows
import Derived.SizedLaws
import Derived.Deep.Cut
set_option maxRecDepth 100000
namespace Go.Proofs.YtfnhjflocfmcoaaGreat
open Go.RowKit
set_option linter.unusedVariables false
namespace Tx

/-- The value of a line. -/
abbrev strV (l : List UInt8) : Value := .string ⟨l.toArray⟩
theorem size_strV (l : List UInt8) : (ByteArray.mk l.toArray).size = l.length := by simp [ByteArray.size]
theorem ret_bool {a b : Bool} (h : a = b) : Ending.returned (.bool a) = .returned (.bool b) := by rw [h]
theorem take_snoc' {α : Type} {ls : List α} {k : Nat} (h : k < ls.length) : ls.take (k + 1) = ls.take k ++ [ls[k]] := List.take_succ_eq_append_getElem h

theorem add_block (a : Addr) (n : Nat) : (a.add n).block = a.block := by unfold Addr.add; split <;> rfl
theorem add_add (a : Addr) (i j : Nat) : (a.add i).add j = a.add (i + j) := by
  unfold Addr.add
  by_cases hi : i = 0 <;> by_cases hj : j = 0 <;> simp [hi, hj, Nat.add_assoc]
theorem add_zero' (a : Addr) : a.add 0 = a := by simp [Addr.add]

/-- The address A leads, below block B, to the cells xs; or there are none. -/
def Rd (w : World) (B : Nat) (A : Option Addr) (xs : List Value) : Prop :=
  xs = [] ∨ ∃ a, A = some a ∧ a.block < B ∧ ∀ j u, xs[j]? = some u → w.cell? (a.add j) = some u
def RdS (w : World) (B : Nat) (A : Option Addr) (ls : List (List UInt8)) : Prop := Rd w B A (ls.map strV)

section
variable {w w' : World} {B B' : Nat} {A : Option Addr} {xs : List Value}
theorem Rd.below (h : Rd w B A xs) (hb : Below B w w') : Rd w' B A xs := by
  rcases h with h | ⟨a, e, hlt, hc⟩
  · exact .inl h
  · exact .inr ⟨a, e, hlt, fun j u hu => (hb.cell (p := a.add j) (by rw [add_block]; exact hlt)).trans (hc j u hu)⟩
theorem Rd.up (h : Rd w B A xs) (hB : B ≤ B') : Rd w B' A xs := by
  rcases h with h | ⟨a, e, hlt, hc⟩
  · exact .inl h
  · exact .inr ⟨a, e, by omega, hc⟩
theorem Rd.take (h : Rd w B A xs) (k : Nat) : Rd w B A (xs.take k) := by
  rcases h with rfl | ⟨a, e, hlt, hc⟩
  · exact .inl (by simp)
  · refine .inr ⟨a, e, hlt, fun j u hu => hc j u ?_⟩
    rw [List.getElem?_take] at hu
    split at hu
    · exact hu
    · cases hu
theorem Rd.drop (h : Rd w B A xs) {k cap : Nat} (hc : xs.length ≤ cap) : Rd w B (if cap = k then A else A.map (·.add k)) (xs.drop k) := by
  by_cases e : cap = k
  · subst e; exact .inl (List.drop_of_length_le hc)
  · rw [if_neg e]
    rcases h with rfl | ⟨a, rfl, hlt, hcell⟩
    · exact .inl (by simp)
    · refine .inr ⟨a.add k, rfl, by rw [add_block]; exact hlt, fun j u hu => ?_⟩
      rw [add_add]
      exact hcell _ u (by rw [← hu, List.getElem?_drop])
theorem Rd.at_ (h : Rd w B A xs) {k : Nat} (hk : k < xs.length) : ∃ a, A = some a ∧ a.block < B ∧ w.cell? (a.add k) = some xs[k] := by
  rcases h with rfl | ⟨a, e, hlt, hc⟩
  · exact absurd hk (by simp)
  · exact ⟨a, e, hlt, hc k _ (List.getElem?_eq_getElem hk)⟩
theorem Rd.none_nil (h : Rd w B none xs) : xs = [] := by
  rcases h with h | ⟨a, h, _⟩
  · exact h
  · cases h
theorem Rd.drewN (h : Rd w B A xs) (d : Nat) : Rd (w.drewN d) B A xs := by
  rcases h with h | ⟨a, e, hlt, hc⟩
  · exact .inl h
  · exact .inr ⟨a, e, hlt, fun j u hu => by simpa using hc j u hu⟩
end

theorem RdS.at' {w : World} {B : Nat} {A : Option Addr} {ls : List (List UInt8)} (h : RdS w B A ls) {k : Nat} (hk : k < ls.length) : ∃ a, A = some a ∧ w.cell? (a.add k) = some (strV ls[k]) := by
  obtain ⟨a, e, _, hc⟩ := h.at_ (k := k) (by simpa using hk)
  exact ⟨a, e, by rw [hc]; simp⟩

theorem strs_one (ls : List (List UInt8)) : ∀ u ∈ ls.map strV, u.oneCell' = true := by
  intro u hu
  obtain ⟨c, _, rfl⟩ := List.mem_map.1 hu
  simp [Value.oneCell']

theorem rd_of_own {w : World} {base : Nat} {e : TypeId} {v : Value} {n : Nat} {xs : List Value} (h : w.ownsRow base e 1 v n xs) : ∃ A cap, v = .slice A n cap ∧ n ≤ cap ∧ Rd w w.heap.size A xs := by
  rcases h.2 with ⟨rfl, rfl⟩ | ⟨g, cap, cur, rfl, hb, hg, hc, _, hcs, ht⟩
  · exact ⟨none, 0, rfl, Nat.le_refl _, .inl (List.eq_nil_of_length_eq_zero (by simpa using h.1))⟩
  · refine ⟨_, cap, rfl, hc, .inr ⟨_, rfl, (Array.getElem?_eq_some_iff.1 hg).1, fun j u hu => ?_⟩⟩
    have e1 : (⟨g, 0, none⟩ : Addr).add j = ⟨g, j, none⟩ := by unfold Addr.add; split <;> simp_all
    rw [e1, cell_of_row w g j cur e (0, 0) hg]
    rw [← ht, List.getElem?_take] at hu
    split at hu
    · simpa using hu
    · cases hu

theorem own_ge {w : World} {base e size n : Nat} {v : Value} {xs : List Value} (h : w.ownsRow base e size v n xs) : ∀ k, v.ownBlock = some k → base ≤ k := by
  intro k hk
  exact (h.lt k hk).1

theorem own_mono {w : World} {base base' e size n : Nat} {v : Value} {xs : List Value} (h : w.ownsRow base e size v n xs) (hb : base' ≤ base) : w.ownsRow base' e size v n xs := by
  refine ⟨h.1, ?_⟩
  rcases h.2 with h | ⟨g, cap, cur, h1, h2, h3⟩
  · exact .inl h
  · exact .inr ⟨g, cap, cur, h1, Nat.le_trans hb h2, h3⟩

theorem below_drewN {B : Nat} {w w' : World} (h : Below B w w') (d : Nat) : Below B w (w'.drewN d) := ⟨h.os, h.tape, h.output, h.size, h.block⟩

/-- A value that reads as xs and may be appended to without a write below 'base': it is full, or its row is one's own. -/
def App (w : World) (base : Nat) (e : TypeId) (v : Value) (n : Nat) (xs : List Value) : Prop :=
  ∃ A c, v = .slice A n c ∧ n ≤ c ∧ xs.length = n ∧ Rd w w.heap.size A xs ∧ (c = n ∨ w.ownsRow base e 1 v n xs)

theorem app_nil (w : World) (base : Nat) (e : TypeId) : App w base e (.slice none 0 0) 0 [] := ⟨none, 0, rfl, Nat.le_refl _, rfl, .inl rfl, .inl rfl⟩
theorem app_own {w : World} {base : Nat} {e : TypeId} {v : Value} {n : Nat} {xs : List Value} (h : w.ownsRow base e 1 v n xs) : App w base e v n xs := by
  obtain ⟨A, c, rfl, hc, hr⟩ := rd_of_own h
  exact ⟨A, c, rfl, hc, by simpa using h.1, hr, .inr h⟩

theorem app_mono {w : World} {base base' : Nat} {e : TypeId} {v : Value} {n : Nat} {xs : List Value} (h : App w base e v n xs) (hb : base' ≤ base) : App w base' e v n xs := by
  obtain ⟨A, c, h1, h2, h3, h4, h5⟩ := h
  exact ⟨A, c, h1, h2, h3, h4, h5.imp id fun h => own_mono h hb⟩

section
variable {P : Program} {w : World}

theorem run_app_empty {n c m c' : Nat} {t ty e : TypeId} {i : TypeInfo} {A A' : Option Addr} (ht : P.underlying t = some (.slice e)) (hi : P.info? e = some i) (hsize : i.size = 1) (hnc : n ≤ c) (hm : m = 0) :
    (Builtin.append_ #[t, t] ty #[.slice A n c, .slice A' m c']).run P w = .ok (.slice A n c) w := by
  subst hm
  cases A <;> cases A' <;> simp [Builtin.append_, run_underlying ht, sizeOf, typeInfo, hi, Builtin.lenOf, Builtin.firstCells, hnc, storeCells, loadCells, loadCellsFrom]

/-- An append of cells that are read, nil let in, onto a value that may be appended to. -/
theorem run_app {base B n m c bytes : Nat} {t ty e : TypeId} {i : TypeInfo} {z v : Value} {xs news : List Value} {A : Option Addr} (ht : P.underlying t = some (.slice e)) (hi : P.info? e = some i) (hz : i.zero = some z)
    (hsize : i.size = 1) (hby : i.bytes = bytes) (hzs : z.cells.size = 1) (hown : App w base e v n xs) (hl : news.length = m) (hr : Rd w B A news) (h1 : ∀ u ∈ news, u.oneCell' = true)
    (h63 : n + m ≤ maxLen) (hbytes : (n + m) * bytes ≤ 140737488355328) (hbase : base ≤ w.heap.size) :
    ∃ v' w', (Builtin.append_ #[t, t] ty #[v, .slice A m c]).run P w = .ok v' w' ∧ App w' base e v' (n + m) (xs ++ news) ∧ Below base w w' := by
  by_cases hm : m = 0
  · obtain ⟨A0, c0, rfl, hc0, hx0, hr0, hor⟩ := hown
    have hnil : news = [] := List.eq_nil_of_length_eq_zero (by omega)
    subst hnil
    refine ⟨_, w, run_app_empty ht hi hsize hc0 hm, ?_, Below.refl _ _⟩
    subst hm
    rw [List.append_nil, Nat.add_zero]
    exact ⟨A0, c0, rfl, hc0, hx0, hr0, hor⟩
  · obtain ⟨a, rfl, hcells⟩ : ∃ a, A = some a ∧ ∀ j u, news[j]? = some u → w.cell? (a.add j) = some u := by
      rcases hr with h | ⟨a, h, _, hc⟩
      · subst h; simp at hl; omega
      · exact ⟨a, h, hc⟩
    obtain ⟨A0, c0, rfl, hc0, hx0, hr0, hor⟩ := hown
    rcases hor with hcn | hown
    · cases A0 with
      | none =>
        have hx : xs = [] := hr0.none_nil
        subst hx
        simp at hx0
        subst hx0
        subst hcn
        obtain ⟨v', w', h2, h3, h4, _⟩ := run_append_own (P := P) w w.heap.size t ty e i z 1 bytes ht hi hz hsize hby hzs (by decide) (.slice none 0 0) 0 [] (World.ownsRow_nil w _ e 1) a m c news (by omega) hcells h1 h63 hbytes (Nat.le_refl _)
        exact ⟨v', w', h2, app_own (own_mono h3 hbase), (Below.refl base w).grown h4 hbase (fun k hk => by cases hk)⟩
      | some b =>
        have hold : ∀ j u, xs[j]? = some u → w.cell? (b.add j) = some u := by
          rcases hr0 with h | ⟨a', h, _, hc⟩
          · subst h; intro j u hu; simp at hu
          · injection h with h; subst h; exact hc
        obtain ⟨v', w', h2, h3, h4⟩ := run_append_arg_grows (P := P) w t ty e i z 1 bytes ht hi hz hsize hby hzs (by decide) b n c0 xs (by omega) hold a m c news (by omega) hcells (by omega) h63 hbytes
        exact ⟨v', w', h2, app_own (own_mono h3 hbase), (Below.refl base w).grown h4 hbase (fun k hk => by cases hk)⟩
    · obtain ⟨v', w', h2, h3, h4, _⟩ := run_append_own (P := P) w base t ty e i z 1 bytes ht hi hz hsize hby hzs (by decide) _ n xs hown a m c news (by omega) hcells h1 h63 hbytes hbase
      exact ⟨v', w', h2, app_own h3, (Below.refl base w).grown h4 hbase (own_ge hown)⟩

theorem wpList_app {ops : Array Oper} {rest : List Oper} {o : Oper} {a : Act} {Q : Exit → Act → World → Prop} (hgd : o.guard = none) (s x : Operand) (t : TypeId)
    (ho : o.op = .call { callee := .builtin .append, args := #[s, x], argTypes := #[t, t] })
    (base : Nat) (e : TypeId) (i : TypeInfo) (z : Value) (bytes : Nat) (ht : P.underlying t = some (.slice e)) (hi : P.info? e = some i) (hz : i.zero = some z)
    (hsize : i.size = 1) (hby : i.bytes = bytes) (hzs : z.cells.size = 1)
    (v : Value) (n : Nat) (xs : List Value) (hs : a.eval s = v) (hown : App w base e v n xs)
    (B : Nat) (A : Option Addr) (m c : Nat) (news : List Value) (hx : a.eval x = .slice A m c) (hl : news.length = m) (hr : Rd w B A news) (h1 : ∀ u ∈ news, u.oneCell' = true)
    (h63 : n + m ≤ maxLen) (hbytes : (n + m) * bytes ≤ 140737488355328) (hbase : base ≤ w.heap.size)
    (h : ∀ v' w', App w' base e v' (n + m) (xs ++ news) → Below base w w' → wpList P ops Q rest (a.put o.dst v') w') : wpList P ops Q (o :: rest) a w := by
  refine wpList_plain hgd fun K hK => ?_
  obtain ⟨v', w', hr, h2, h3⟩ := run_app (P := P) (c := c) (ty := o.type) ht hi hz hsize hby hzs hown hl hr h1 h63 hbytes hbase
  unfold Oper.wp execOp
  simp only [ho, resolve, invoke, builtin, Sem.run_bind, Sem.run_pure, Result.andThen_ok, List.map_toArray, List.map_cons, List.map_nil, hs, hx, hr]
  exact hK _ _ (h v' w' h2 h3)
end

theorem info_str : (Tryz.prog.info? 9).map (fun i => (i.zero, i.size, i.bytes)) = some (some (.string ⟨#[]⟩), 1, 16) := by kernel_rfl
/-- What an int holds. -/
def I64 (n : Int) : Prop := -9223372036854775808 ≤ n ∧ n ≤ 9223372036854775807

end Tx
end Go.Proofs.YtfnhjflocfmcoaaGreat

namespace Go.Proofs.YtfnhjflocfmcoaaGreat
open Go.RowKit
set_option linter.unusedVariables false
namespace Tx

def light (ls : List (List UInt8)) (most : Nat) : Bool := decide (ls.length ≤ most) && ls.all fun l => decide (l.length ≤ 200)

theorem light_false {ls : List (List UInt8)} {most : Nat} {x : List UInt8} (hm : x ∈ ls) (h : 200 < x.length) : light ls most = false := by
  have : (ls.all fun l => decide (l.length ≤ 200)) = false := by rw [List.all_eq_false]; exact ⟨x, hm, by simp; omega⟩
  simp [light, this]
theorem light_true {ls : List (List UInt8)} {most : Nat} (hl : ls.length ≤ most) (h : ∀ x ∈ ls, x.length ≤ 200) : light ls most = true := by
  have : (ls.all fun l => decide (l.length ≤ 200)) = true := by rw [List.all_eq_true]; intro x hx; simpa using h x hx
  simp [light, this, hl]

set_option maxHeartbeats 400000 in
theorem Light (A : Option Addr) (cap n B most : Nat) (ls : List (List UInt8)) (w : World) (hn : ls.length = n) (hnm : n ≤ maxLen) (hR : RdS w B A ls) (hm : most ≤ 1000) :
    Calls Tryz.prog 81 #[.slice A n cap, .int .i64 most] w fun e w' => e = .returned (.bool (light ls most)) ∧ w = w' := by
  unfold maxLen at hnm
  have HN := Lib.hid hn; clear hn
  by_cases h1 : most < n
  · have HF : Hid (light ls most = false) := Lib.hid (by unfold light; rw [HN.out]; simp; omega)
    go_enter Tryz.func81, Tryz.ntmps81
    go_wp2
    go_ret
    exact ⟨ret_bool HF.out.symm, rfl⟩
  · go_enter Tryz.func81, Tryz.ntmps81
    go_wp2
    go_loop [5] (fun i => ∃ k : Nat, k ≤ n ∧ i = .int .i64 k ∧ ∀ x ∈ ls.take k, x.length ≤ 200) (fun i => n - (intOf i).toNat)
    case atStart => exact ⟨0, Nat.zero_le _, rfl, by simp⟩
    case round =>
      obtain ⟨k, hk, rfl, hall⟩ := hrel
      have HA := Lib.hid hall; clear hall
      by_cases hlt : k < n
      · have hkl : k < ls.length := by rw [HN.out]; exact hlt
        obtain ⟨a, rfl, hcell⟩ := hR.at' hkl
        have hmem := List.getElem_mem hkl
        have HT := Lib.hid (take_snoc' hkl)
        generalize hx : ls[k] = x at *
        have HX := Lib.hid hx; clear hx
        obtain ⟨s, hs, hsl⟩ : ∃ s : ByteArray, strV x = .string s ∧ s.size = x.length := ⟨_, rfl, size_strV x⟩
        rw [hs] at hcell
        have HS := Lib.hid hsl; clear hsl hs
        by_cases hb : 200 < s.size
        · have HF := Lib.hid (light_false (most := most) hmem (by rw [← HS.out]; exact hb))
          go_wp2
          go_ret
          exact ⟨ret_bool HF.out.symm, rfl⟩
        · go_wp2
          go_round
          case rel => exact ⟨k + 1, by omega, by go_num, by rw [HT.out]; intro c hc; rcases List.mem_append.1 hc with h | h; exact HA.out c h; simp at h; rw [h]; have := HS.out; omega⟩
          case measure => simp [intOf]; omega
      · have HF : Hid (light ls most = true) := Lib.hid (light_true (by rw [HN.out]; omega) (by have := HA.out; rw [List.take_of_length_le (by rw [HN.out]; omega)] at this; exact this))
        go_wp2
        go_ret
        exact ⟨ret_bool HF.out.symm, rfl⟩

theorem take_eq_succ {α : Type} {xs ys : List α} {k : Nat} (hx : k < xs.length) (hy : k < ys.length) (h : xs.take k = ys.take k) (e : xs[k] = ys[k]) : xs.take (k + 1) = ys.take (k + 1) := by
  rw [take_snoc' hx, take_snoc' hy, h, e]

end Tx
end Go.Proofs.YtfnhjflocfmcoaaGreat

namespace Go.Proofs.YtfnhjflocfmcoaaGreat
open Go.RowKit
set_option linter.unusedVariables false
namespace Tx

/-- How Same ends: some draws, and whether the lists are one. -/
def SameEnd (w : World) (b : Bool) (e : Ending) (w' : World) : Prop := e = .returned (.bool b) ∧ ∃ k, w' = w.drewN k

theorem same_step {xs ys : List (List UInt8)} {k : Nat} (hx : k < xs.length) (hy : k < ys.length) (h : xs.take k = ys.take k) :
    (¬ xs[k] = ys[k] → decide (xs = ys) = false) ∧ (xs[k] = ys[k] → xs.take (k + 1) = ys.take (k + 1)) :=
  ⟨fun hne => decide_eq_false (fun e => hne (by subst e; rfl)), fun e => take_eq_succ hx hy h e⟩

end Tx
end Go.Proofs.YtfnhjflocfmcoaaGreat

namespace Go.Proofs.YtfnhjflocfmcoaaGreat
open Go.ChangeShapes Go.WideShapes Go.ChangeAt Go.RowKit
namespace Tx

theorem lt_of_cell {w : World} {a : Addr} {v : Value} (h : w.cell? a = some v) : a.block < w.heap.size := by
  rcases Nat.lt_or_ge a.block w.heap.size with h' | h'
  · exact h'
  · simp [World.cell?, Array.getElem?_eq_none h'] at h

theorem rd_in {w : World} {a : Addr} {xs : List Value} (h : ∀ j u, xs[j]? = some u → w.cell? (a.add j) = some u) : Rd w w.heap.size (some a) xs := by
  cases xs with
  | nil => exact .inl rfl
  | cons x xs =>
    have h0 := lt_of_cell (h 0 x rfl)
    rw [add_block] at h0
    exact .inr ⟨a, rfl, h0, h⟩

theorem list_of {α : Type} {P : Nat → α → Prop} : ∀ (n : Nat), (∀ i, i < n → ∃ x, P i x) → ∃ l : List α, l.length = n ∧ ∀ i x, l[i]? = some x → P i x
  | 0, _ => ⟨[], rfl, fun i x h => by simp at h⟩
  | n + 1, h => by
    obtain ⟨l, h1, h2⟩ := list_of n fun i hi => h i (by omega)
    obtain ⟨y, hy⟩ := h n (by omega)
    refine ⟨l ++ [y], by simp [h1], fun i x hx => ?_⟩
    rcases Nat.lt_trichotomy i l.length with hi | hi | hi
    · rw [List.getElem?_append_left hi] at hx; exact h2 i x hx
    · subst hi; rw [List.getElem?_append_right (Nat.le_refl _), Nat.sub_self] at hx; cases hx; rw [h1]; exact hy
    · rw [List.getElem?_eq_none (by simp; omega)] at hx; cases hx

theorem i64_wf {n : Int} (h : (Lit.int .i64 n).wf = true) : I64 n := by
  simp only [Lit.wf, Bool.and_eq_true, decide_eq_true_eq] at h
  have h1 : IntKind.i64.min = -9223372036854775808 := by decide
  have h2 : IntKind.i64.max = 9223372036854775807 := by decide
  rw [h1, h2] at h
  exact h

/-- A slice of strings that is handed in: it reads as l. -/
structure StrArg (w : World) (A : Option Addr) (n c : Nat) (l : List (List UInt8)) : Prop where
  len : l.length = n
  cap : n ≤ c
  le : n ≤ maxLen
  rd : RdS w w.heap.size A l
  short : ∀ x ∈ l, x.length ≤ maxLen

section
variable {H : Type} {enc : TypeId × Value → H} {W : World} {base : Nat} {spare : Nat → Bool} {held : Bool}

theorem strs_in {fuel : Nat} {cs : List Value} {x : DataW H × List MemPlace} {A : Option Addr} {l c : Nat} (h : DataW.trod enc Tryz.prog W base spare held fuel 49 cs = some x) (hcs : cs = [.slice A l c]) :
    ∃ ls : List (List UInt8), StrArg W A l c ls := by
  rcases open_strings Tryz.underlying49 Tryz.underlying9 (by kernel_rfl) h with ⟨hcs', _⟩ | ⟨a, l', c', ss, hcs', _, hl, hm, hz, _, hcell, hws⟩
  · rw [hcs] at hcs'
    simp at hcs'
    obtain ⟨rfl, rfl, rfl⟩ := hcs'
    exact ⟨[], rfl, Nat.le_refl _, Nat.zero_le _, .inl rfl, fun x hx => by cases hx⟩
  · rw [hcs] at hcs'
    simp at hcs'
    obtain ⟨rfl, rfl, rfl⟩ := hcs'
    have hzl : l ≤ ss.length := by rw [hz]; split <;> omega
    refine ⟨(ss.take l).map fun s => s.data.toList, by simp; omega, hl, by omega, rd_in fun j u hu => ?_, fun x hx => ?_⟩
    · simp only [List.getElem?_map, Option.map_map] at hu
      rw [List.getElem?_take] at hu
      split at hu
      · have hj : j < ss.length := by omega
        rw [List.getElem?_eq_getElem hj] at hu
        simp at hu
        rw [hcell j hj, ← hu]
        simp [hj]
      · cases hu
    · obtain ⟨s, hs, rfl⟩ := List.mem_map.1 hx
      show s.data.toList.length ≤ maxLen
      rw [Array.length_toList]
      exact hws s (List.mem_of_mem_take hs)
theorem strs_any {fuel : Nat} {v : Value} {x : DataW H × List MemPlace} (h : DataW.trod enc Tryz.prog W base spare held fuel 49 [v] = some x) : ∃ A n c ls, v = .slice A n c ∧ StrArg W A n c ls := by
  obtain ⟨A, n, c, rfl⟩ : ∃ A n c, v = .slice A n c := by
    rcases open_strings Tryz.underlying49 Tryz.underlying9 (by kernel_rfl) h with ⟨h', _⟩ | ⟨a, l', c', ss, h', _⟩
    · injection h' with h'; exact ⟨_, _, _, h'⟩
    · injection h' with h'; exact ⟨_, _, _, h'⟩
  obtain ⟨ls, hs⟩ := strs_in h rfl
  exact ⟨A, n, c, ls, rfl, hs⟩
end

end Tx
end Go.Proofs.YtfnhjflocfmcoaaGreat

namespace Go.Proofs.YtfnhjflocfmcoaaGreat
open Go.RowKit
set_option linter.unusedVariables false
namespace Tx

/-- All blocks of another type than e are as they were. -/
def Typ (e : TypeId) (w w' : World) : Prop := ∀ (k : Nat) c t f, w.heap[k]? = some (.cells c t f) → t ≠ e → w'.heap[k]? = some (.cells c t f)
theorem Typ.refl (e : TypeId) (w : World) : Typ e w w := fun _ _ _ _ h _ => h
theorem Typ.trans {e : TypeId} {w w1 w2 : World} (h : Typ e w w1) (h' : Typ e w1 w2) : Typ e w w2 := fun k c t f hk ht => h' k c t f (h k c t f hk ht) ht
section
variable {P : Program} {w : World}

end

section
variable {P : Program} {w : World}
/-- An append of cells that are read, nil let in, onto nothing: a row of one's own. -/
theorem run_nil {B m c bytes : Nat} {t ty e : TypeId} {i : TypeInfo} {z : Value} {news : List Value} {A : Option Addr} (ht : P.underlying t = some (.slice e)) (hi : P.info? e = some i) (hz : i.zero = some z)
    (hsize : i.size = 1) (hby : i.bytes = bytes) (hzs : z.cells.size = 1) (hl : news.length = m) (hr : Rd w B A news) (h1 : ∀ u ∈ news, u.oneCell' = true) (h63 : m ≤ maxLen) (hbytes : m * bytes ≤ 140737488355328) :
    ∃ A' c' w', (Builtin.append_ #[t, t] ty #[.slice none 0 0, .slice A m c]).run P w = .ok (.slice A' m c') w' ∧ w'.ownsRow w.heap.size e 1 (.slice A' m c') m news ∧ w.grownBy w' none := by
  by_cases hm : m = 0
  · have hnil : news = [] := List.eq_nil_of_length_eq_zero (by omega)
    subst hnil; subst hm
    exact ⟨none, 0, w, run_app_empty ht hi hsize (Nat.le_refl _) rfl, World.ownsRow_nil w _ e 1, World.grownBy.refl w none⟩
  · obtain ⟨a, rfl, hcells⟩ : ∃ a, A = some a ∧ ∀ j u, news[j]? = some u → w.cell? (a.add j) = some u := by
      rcases hr with h | ⟨a, h, _, hc⟩
      · subst h; simp at hl; omega
      · exact ⟨a, h, hc⟩
    obtain ⟨v', w', h2, h3, h4, _⟩ := run_append_own (P := P) w w.heap.size t ty e i z 1 bytes ht hi hz hsize hby hzs (by decide) (.slice none 0 0) 0 [] (World.ownsRow_nil w _ e 1) a m c news (by omega) hcells h1 (by omega) (by rw [Nat.zero_add]; exact hbytes) (Nat.le_refl _)
    rw [Nat.zero_add, List.nil_append] at h3
    obtain ⟨A', c', rfl, _⟩ := rd_of_own h3
    exact ⟨A', c', w', h2, h3, h4⟩

theorem wpList_nil' {ops : Array Oper} {rest : List Oper} {o : Oper} {a : Act} {Q : Exit → Act → World → Prop} (hgd : o.guard = none) (s x : Operand) (t : TypeId)
    (ho : o.op = .call { callee := .builtin .append, args := #[s, x], argTypes := #[t, t] })
    (e : TypeId) (i : TypeInfo) (z : Value) (bytes : Nat) (ht : P.underlying t = some (.slice e)) (hi : P.info? e = some i) (hz : i.zero = some z)
    (hsize : i.size = 1) (hby : i.bytes = bytes) (hzs : z.cells.size = 1) (hs : a.eval s = .slice none 0 0)
    (B : Nat) (A : Option Addr) (m c : Nat) (news : List Value) (hx : a.eval x = .slice A m c) (hl : news.length = m) (hr : Rd w B A news) (h1 : ∀ u ∈ news, u.oneCell' = true)
    (h63 : m ≤ maxLen) (hbytes : m * bytes ≤ 140737488355328)
    (h : ∀ A' c' w', w'.ownsRow w.heap.size e 1 (.slice A' m c') m news → w.grownBy w' none → wpList P ops Q rest (a.put o.dst (.slice A' m c')) w') : wpList P ops Q (o :: rest) a w := by
  refine wpList_plain hgd fun K hK => ?_
  obtain ⟨A', c', w', hr, h2, h3⟩ := run_nil (P := P) (c := c) (ty := o.type) ht hi hz hsize hby hzs hl hr h1 h63 hbytes
  unfold Oper.wp execOp
  simp only [ho, resolve, invoke, builtin, Sem.run_bind, Sem.run_pure, Result.andThen_ok, List.map_toArray, List.map_cons, List.map_nil, hs, hx, hr]
  exact hK _ _ (h A' c' w' h2 h3)

end

def OwnEnd (w : World) (n : Nat) (xs : List Value) (e : Ending) (w' : World) : Prop :=
  ∃ A' c', e = .returned (.slice A' n c') ∧ w'.ownsRow w.heap.size 9 1 (.slice A' n c') n xs ∧ w.grownBy w' none

end Tx
end Go.Proofs.YtfnhjflocfmcoaaGreat

namespace Go.Proofs.YtfnhjflocfmcoaaGreat
open Go.RowKit
set_option linter.unusedVariables false
namespace Tx

/-- The block b holds the cells cs, of type t. -/
def Blk (W : World) (b : Nat) (t : TypeId) (cs : Array Value) : Prop := W.heap[b]? = some (.cells cs t (0, 0))

section
variable {W W' : World} {b : Nat} {t : TypeId} {cs : Array Value}
theorem Blk.lt (h : Blk W b t cs) : b < W.heap.size := (Array.getElem?_eq_some_iff.1 h).1
theorem Blk.new (W : World) (t : TypeId) (cs : Array Value) : Blk (W.alloc (.cells cs t)) W.heap.size t cs := World.alloc_heap_new W _
theorem Blk.gr {row : Option Nat} (h : Blk W b t cs) (hg : W.grownBy W' row) (hne : some b ≠ row) : Blk W' b t cs := (hg.block b h.lt hne).trans h
theorem Blk.alloc (h : Blk W b t cs) (o : Obj) : Blk (W.alloc o) b t cs := h.gr (World.grownBy_alloc W o none) (by simp)
theorem Blk.below {B : Nat} (h : Blk W b t cs) (hb : Below B W W') (hlt : b < B) : Blk W' b t cs := (hb.block b hlt).trans h
theorem Blk.drewN (h : Blk W b t cs) (d : Nat) : Blk (W.drewN d) b t cs := h
theorem Blk.cell (h : Blk W b t cs) (j : Nat) {u : Value} (hu : cs[j]? = some u) : W.cell? ⟨b, j, none⟩ = some u := by
  simp [World.cell?, show W.heap[b]? = _ from h, hu]
theorem Blk.frozen (h : Blk W b t cs) (j : Nat) : W.frozen? ⟨b, j, none⟩ = false := by simp [World.frozen?, show W.heap[b]? = _ from h]
theorem Blk.set (h : Blk W b t cs) (j : Nat) (v : Value) : Blk (W.setCell ⟨b, j, none⟩ v) b t (cs.setIfInBounds j v) := by
  obtain ⟨hlt, hk⟩ := Array.getElem?_eq_some_iff.1 h
  show (W.heap.modify b _)[b]? = _
  rw [Array.getElem?_eq_getElem (by rw [Array.size_modify]; exact hlt), Array.getElem_modify_self, hk]
  rfl
theorem grownBy_set (W : World) (b j : Nat) (v : Value) : W.grownBy (W.setCell ⟨b, j, none⟩ v) (some b) :=
  ⟨rfl, rfl, rfl, (KeepsWalks.setCell W _ v).size, fun k _ hk => Below.heap_setCell _ _ _ k (fun e => hk (by rw [e]))⟩
theorem Blk.set_ne {b' : Nat} (h : Blk W b t cs) (hne : b ≠ b') (j : Nat) (v : Value) : Blk (W.setCell ⟨b', j, none⟩ v) b t cs := h.gr (grownBy_set W b' j v) (by simpa using hne)
end

/-- A row of one's own, and a store to an elder block. -/
theorem own_set {W : World} {base e size n b : Nat} {v : Value} {xs : List Value} (h : W.ownsRow base e size v n xs) (hb : b < base) (j : Nat) (u : Value) : (W.setCell ⟨b, j, none⟩ u).ownsRow base e size v n xs :=
  h.kept (grownBy_set W b j u) (.inr fun e' => absurd (own_ge h b e') (by omega))
theorem own_gr {W W' : World} {base e size n : Nat} {v : Value} {xs : List Value} (h : W.ownsRow base e size v n xs) (hg : W.grownBy W' none) : W'.ownsRow base e size v n xs := h.kept hg (Classical.em _)
/-- What lies in another block lies there still. -/
theorem cell_gr {W w1 : World} {row : Option Nat} {p : Addr} {u : Value} (hg : W.grownBy w1 row) (hne : some p.block ≠ row) (hc : W.cell? p = some u) : w1.cell? p = some u :=
  (World.cell?_of_block (hg.block _ (World.block_lt_of_cell? W p hc) hne)).trans hc
theorem cell_set {W : World} {p : Addr} {b : Nat} {u : Value} (hc : W.cell? p = some u) (hne : p.block ≠ b) (j : Nat) (v : Value) : (W.setCell ⟨b, j, none⟩ v).cell? p = some u := cell_gr (grownBy_set W b j v) (fun e => hne (by injection e)) hc
theorem gr_of_drewN {W W' : World} {row : Option Nat} {d : Nat} (h : (W.drewN d).grownBy W' row) : W.grownBy W' row := ⟨h.os, h.tape, h.output, h.size, h.block⟩
theorem nn (b : Nat) : some b ≠ (none : Option Nat) := fun h => by cases h
theorem below_gr {W w1 : World} (hg : W.grownBy w1 none) : Below W.heap.size W w1 := (Below.refl _ W).grown hg (Nat.le_refl _) (fun k hk => by cases hk)

end Tx
end Go.Proofs.YtfnhjflocfmcoaaGreat

namespace Go.Proofs.YtfnhjflocfmcoaaGreat
open Go.RowKit
set_option linter.unusedVariables false
namespace Tx

section
variable {P : Program} {w : World}
theorem run_copy_own {dT sT ty e : TypeId} {i : TypeInfo} {base size g f n cap dLen dCap sLen sCap : Nat} {A : Option Addr} {xs cs : List Value} (hu : P.underlying dT = some (.slice e)) (hi : P.info? e = some i) (hsz : i.size = size)
    (hrow : w.ownsRow base e size (.slice (some ⟨g, 0, none⟩) n cap) n xs) (hn : cs.length = Nat.min sLen dLen * size) (hr : cs = [] ∨ ∃ a, A = some a ∧ ∀ j u, cs[j]? = some u → w.cell? (a.add j) = some u) (hfit : f + cs.length ≤ n * size) (h1 : ∀ u ∈ cs, u.oneCell' = true) :
    ∃ w', (Builtin.copy_ #[dT, sT] ty #[.slice (some ⟨g, f, none⟩) dLen dCap, .slice A sLen sCap]).run P w = .ok (goInt (Nat.min sLen dLen)) w' ∧ w'.ownsRow base e size (.slice (some ⟨g, 0, none⟩) n cap) n (splice xs f cs) ∧ w.grownBy w' (some g) := by
  subst hsz
  have hxl := hrow.1
  rcases hrow.2 with ⟨h', _⟩ | ⟨g', cap', cur, h', hb, hg, hc1, hc2, hc3, ht⟩
  · simp at h'
  simp only [Value.slice.injEq, Option.some.injEq, Addr.mk.injEq, and_true, true_and] at h'
  obtain ⟨rfl, rfl⟩ := h'
  have hcn : n * i.size ≤ cap * i.size := Nat.mul_le_mul_right _ hc1
  have hst := run_storeCells_at P g f e cs 0 cur w hg (by omega) h1
  rw [Nat.add_zero] at hst
  have hl : (Builtin.firstCells i.size (Nat.min sLen dLen) (.slice A sLen sCap)).run P w = .ok cs.toArray w := by
    rcases hr with rfl | ⟨a, rfl, hcell⟩
    · cases A with
      | none => simp [Builtin.firstCells]
      | some a =>
        have h0 : Nat.min sLen dLen * i.size = 0 := by rw [← hn]; rfl
        have := run_loadCells_list (P := P) w a [] (by simp)
        simp only [Builtin.firstCells, h0]
        exact this
    · have := run_loadCells_list (P := P) w a cs hcell
      simp only [Builtin.firstCells, ← hn]
      exact this
  refine ⟨w.setRow g (cur.toList.take f ++ cs ++ cur.toList.drop (f + cs.length)).toArray, ?_, ⟨?_, .inr ⟨g, cap, _, rfl, hb, setRow_heap w g cur _ e _ hg, hc1, hc2, ?_, ?_⟩⟩, ⟨rfl, rfl, rfl, by simp [World.setRow], fun k hk hne => setRow_other w g k _ (fun e => hne (by rw [e]))⟩⟩
  · simp [Builtin.copy_, run_underlying hu, Builtin.lenOf, sizeOf, typeInfo, hi, hl, hst]
  · rw [length_splice _ _ _ (by omega)]; exact hxl
  · simp only [List.size_toArray, List.length_append, List.length_take, List.length_drop, Array.length_toList]; omega
  · rw [← ht]
    unfold splice
    rw [List.take_take, Nat.min_eq_left (by omega), List.append_assoc, List.take_append, List.take_take, List.take_append, List.length_take, Array.length_toList, Nat.min_eq_right (by omega), Nat.min_eq_left (by omega), List.take_of_length_le (show cs.length ≤ n * i.size - f by omega), List.drop_take, Nat.sub_sub]

theorem wp_copy_own {o : Oper} {a : Act} {K : Act → World → Prop} {Q : Exit → Act → World → Prop} (d s : Operand) (dT sT : TypeId)
    (ho : o.op = .call { callee := .builtin .copy, args := #[d, s], argTypes := #[dT, sT] }) (e : TypeId) (i : TypeInfo) (base size g f n cap dLen dCap sLen sCap : Nat) (A : Option Addr) (xs cs : List Value) (hu : P.underlying dT = some (.slice e)) (hi : P.info? e = some i) (hsz : i.size = size)
    (hd : a.eval d = .slice (some ⟨g, f, none⟩) dLen dCap) (hs : a.eval s = .slice A sLen sCap)
    (hrow : w.ownsRow base e size (.slice (some ⟨g, 0, none⟩) n cap) n xs) (hn : cs.length = Nat.min sLen dLen * size) (hr : cs = [] ∨ ∃ a, A = some a ∧ ∀ j u, cs[j]? = some u → w.cell? (a.add j) = some u) (hfit : f + cs.length ≤ n * size) (h1 : ∀ u ∈ cs, u.oneCell' = true)
    (h : ∀ w', w'.ownsRow base e size (.slice (some ⟨g, 0, none⟩) n cap) n (splice xs f cs) → w.grownBy w' (some g) → K (a.put o.dst (goInt (Nat.min sLen dLen))) w') : o.wp P a w K Q := by
  obtain ⟨w', hrun, h2, h3⟩ := run_copy_own (P := P) (ty := o.type) (sT := sT) (dCap := dCap) (sCap := sCap) hu hi hsz hrow hn hr hfit h1
  unfold Oper.wp execOp
  simp only [ho, resolve, invoke, builtin, Sem.run_bind, Sem.run_pure, Result.andThen_ok, List.map_toArray, List.map_cons, List.map_nil, hd, hs, hrun]
  exact h w' h2 h3
theorem wpList_copy_own' {ops : Array Oper} {rest : List Oper} {o : Oper} {a : Act} {Q : Exit → Act → World → Prop} (hgd : o.guard = none) (d s : Operand) (dT sT : TypeId)
    (ho : o.op = .call { callee := .builtin .copy, args := #[d, s], argTypes := #[dT, sT] }) (e : TypeId) (i : TypeInfo) (base size g f n cap dLen dCap sLen sCap : Nat) (A : Option Addr) (xs cs : List Value) (hu : P.underlying dT = some (.slice e)) (hi : P.info? e = some i) (hsz : i.size = size)
    (hd : a.eval d = .slice (some ⟨g, f, none⟩) dLen dCap) (hs : a.eval s = .slice A sLen sCap)
    (hrow : w.ownsRow base e size (.slice (some ⟨g, 0, none⟩) n cap) n xs) (hn : cs.length = Nat.min sLen dLen * size) (hr : cs = [] ∨ ∃ a, A = some a ∧ ∀ j u, cs[j]? = some u → w.cell? (a.add j) = some u) (hfit : f + cs.length ≤ n * size) (h1 : ∀ u ∈ cs, u.oneCell' = true)
    (h : ∀ w', w'.ownsRow base e size (.slice (some ⟨g, 0, none⟩) n cap) n (splice xs f cs) → w.grownBy w' (some g) → wpList P ops Q rest (a.put o.dst (goInt (Nat.min sLen dLen))) w') : wpList P ops Q (o :: rest) a w :=
  wpList_plain hgd fun _ hK => wp_copy_own d s dT sT ho e i base size g f n cap dLen dCap sLen sCap A xs cs hu hi hsz hd hs hrow hn hr hfit h1 fun w' h2 h3 => hK _ _ (h w' h2 h3)
theorem step_copy_own {ops : Array Oper} {o : Oper} {a : Act} {K : Act → World → Prop} {Q : Exit → Act → World → Prop} {E : Prop} (hgd : o.guard = none) (d s : Operand) (dT sT : TypeId)
    (ho : o.op = .call { callee := .builtin .copy, args := #[d, s], argTypes := #[dT, sT] }) (e : TypeId) (i : TypeInfo) (base size g f n cap dLen dCap sLen sCap : Nat) (A : Option Addr) (xs cs : List Value) (hu : P.underlying dT = some (.slice e)) (hi : P.info? e = some i) (hsz : i.size = size)
    (hd : a.eval d = .slice (some ⟨g, f, none⟩) dLen dCap) (hs : a.eval s = .slice A sLen sCap)
    (hrow : w.ownsRow base e size (.slice (some ⟨g, 0, none⟩) n cap) n xs) (hn : cs.length = Nat.min sLen dLen * size) (hr : cs = [] ∨ ∃ a, A = some a ∧ ∀ j u, cs[j]? = some u → w.cell? (a.add j) = some u) (hfit : f + cs.length ≤ n * size) (h1 : ∀ u ∈ cs, u.oneCell' = true)
    (h : ∀ w', w'.ownsRow base e size (.slice (some ⟨g, 0, none⟩) n cap) n (splice xs f cs) → w.grownBy w' (some g) → K (a.put o.dst (goInt (Nat.min sLen dLen))) w') :
    if Region.wanted o (yielded ops a.tmps) = true then Oper.wp P o a w K Q else E := by
  have hw : Region.wanted o (yielded ops a.tmps) = true := by simp [Region.wanted, hgd]
  rw [if_pos hw]
  exact wp_copy_own d s dT sT ho e i base size g f n cap dLen dCap sLen sCap A xs cs hu hi hsz hd hs hrow hn hr hfit h1 h
end

end Tx
end Go.Proofs.YtfnhjflocfmcoaaGreat

namespace Go.Proofs.YtfnhjflocfmcoaaGreat
open Go.RowKit
set_option linter.unusedVariables false
namespace Tx

section
variable {P : Program} {w : World}
theorem own_splice {e : TypeId} {base size g n cap : Nat} {xs : List Value} (hrow : w.ownsRow base e size (.slice (some ⟨g, 0, none⟩) n cap) n xs) :
    ∃ cur, w.heap[g]? = some (.cells cur e (0, 0)) ∧ cur.size = cap * size ∧ n * size ≤ cap * size ∧ ∀ f cs, f + cs.length ≤ n * size →
      (w.setRow g (cur.toList.take f ++ cs ++ cur.toList.drop (f + cs.length)).toArray).ownsRow base e size (.slice (some ⟨g, 0, none⟩) n cap) n (splice xs f cs) ∧ w.grownBy (w.setRow g (cur.toList.take f ++ cs ++ cur.toList.drop (f + cs.length)).toArray) (some g) := by
  have hxl := hrow.1
  rcases hrow.2 with ⟨h', _⟩ | ⟨g', cap', cur, h', hb, hg, hc1, hc2, hc3, ht⟩
  · simp at h'
  simp only [Value.slice.injEq, Option.some.injEq, Addr.mk.injEq, and_true, true_and] at h'
  obtain ⟨rfl, rfl⟩ := h'
  have hcn : n * size ≤ cap * size := Nat.mul_le_mul_right _ hc1
  refine ⟨cur, hg, hc3, hcn, fun f cs hfit => ?_⟩
  refine ⟨⟨?_, .inr ⟨g, cap, _, rfl, hb, setRow_heap w g cur _ e _ hg, hc1, hc2, ?_, ?_⟩⟩, ⟨rfl, rfl, rfl, by simp [World.setRow], fun k hk hne => setRow_other w g k _ (fun e => hne (by rw [e]))⟩⟩
  · rw [length_splice _ _ _ (by omega)]; exact hxl
  · simp only [List.size_toArray, List.length_append, List.length_take, List.length_drop, Array.length_toList]; omega
  · rw [← ht]
    unfold splice
    rw [List.take_take, Nat.min_eq_left (by omega), List.append_assoc, List.take_append, List.take_take, List.take_append, List.length_take, Array.length_toList, Nat.min_eq_right (by omega), Nat.min_eq_left (by omega), List.take_of_length_le (show cs.length ≤ n * size - f by omega), List.drop_take, Nat.sub_sub]
/-- Fewer of its elements. -/
theorem own_less {e : TypeId} {base size g n k cap : Nat} {xs : List Value} (hrow : w.ownsRow base e size (.slice (some ⟨g, 0, none⟩) n cap) n xs) (hk : k ≤ n) : w.ownsRow base e size (.slice (some ⟨g, 0, none⟩) k cap) k (xs.take (k * size)) := by
  have hkn : k * size ≤ n * size := Nat.mul_le_mul_right _ hk
  refine ⟨by rw [List.length_take, hrow.1, Nat.min_eq_left hkn], ?_⟩
  rcases hrow.2 with ⟨h', _⟩ | ⟨g', cap', cur, h', hb, hg, hc1, hc2, hc3, ht⟩
  · simp at h'
  simp only [Value.slice.injEq, Option.some.injEq, Addr.mk.injEq, and_true, true_and] at h'
  obtain ⟨rfl, rfl⟩ := h'
  exact .inr ⟨g, cap, cur, rfl, hb, hg, Nat.le_trans hk hc1, hc2, hc3, by rw [← ht, List.take_take, Nat.min_eq_left hkn]⟩

/-- append within the room of a row of one's own. -/
theorem run_append_own_room {t ty e : TypeId} {i : TypeInfo} {base size g n cap k m c : Nat} {a : Addr} {xs news : List Value} (hu : P.underlying t = some (.slice e)) (hi : P.info? e = some i) (hsz : i.size = size)
    (hrow : w.ownsRow base e size (.slice (some ⟨g, 0, none⟩) n cap) n xs) (hl : news.length = m * size) (hr : ∀ j u, news[j]? = some u → w.cell? (a.add j) = some u) (h1 : ∀ u ∈ news, u.oneCell' = true) (hkm : k + m ≤ n) (hn : n ≤ cap) :
    ∃ w', (Builtin.append_ #[t, t] ty #[.slice (some ⟨g, 0, none⟩) k cap, .slice (some a) m c]).run P w = .ok (.slice (some ⟨g, 0, none⟩) (k + m) cap) w' ∧ w'.ownsRow base e size (.slice (some ⟨g, 0, none⟩) n cap) n (splice xs (k * size) news) ∧ w.grownBy w' (some g) := by
  subst hsz
  obtain ⟨cur, hg, hcs, hnc, hs⟩ := own_splice hrow
  have hfit : k * i.size + news.length ≤ n * i.size := by rw [hl, ← Nat.add_mul]; exact Nat.mul_le_mul_right _ hkm
  obtain ⟨h2, h3⟩ := hs (k * i.size) news hfit
  exact ⟨_, run_append_room w t ty e i hu hi g k cap cur hg a m c news hl hr h1 (by omega) (by omega), h2, h3⟩
theorem step_append_own_room {ops : Array Oper} {o : Oper} {a : Act} {K : Act → World → Prop} {Q : Exit → Act → World → Prop} {E : Prop} (hgd : o.guard = none) (s x : Operand) (t : TypeId)
    (ho : o.op = .call { callee := .builtin .append, args := #[s, x], argTypes := #[t, t] }) (e : TypeId) (i : TypeInfo) (base size g n cap k m c : Nat) (ad : Addr) (xs news : List Value) (hu : P.underlying t = some (.slice e)) (hi : P.info? e = some i) (hsz : i.size = size)
    (hs : a.eval s = .slice (some ⟨g, 0, none⟩) k cap) (hx : a.eval x = .slice (some ad) m c)
    (hrow : w.ownsRow base e size (.slice (some ⟨g, 0, none⟩) n cap) n xs) (hl : news.length = m * size) (hr : ∀ j u, news[j]? = some u → w.cell? (ad.add j) = some u) (h1 : ∀ u ∈ news, u.oneCell' = true) (hkm : k + m ≤ n) (hn : n ≤ cap)
    (h : ∀ w', w'.ownsRow base e size (.slice (some ⟨g, 0, none⟩) n cap) n (splice xs (k * size) news) → w.grownBy w' (some g) → K (a.put o.dst (.slice (some ⟨g, 0, none⟩) (k + m) cap)) w') :
    if Region.wanted o (yielded ops a.tmps) = true then Oper.wp P o a w K Q else E := by
  have hw : Region.wanted o (yielded ops a.tmps) = true := by simp [Region.wanted, hgd]
  rw [if_pos hw]
  obtain ⟨w', hrun, h2, h3⟩ := run_append_own_room (P := P) (ty := o.type) (c := c) hu hi hsz hrow hl hr h1 hkm hn
  unfold Oper.wp execOp
  simp only [ho, resolve, invoke, builtin, Sem.run_bind, Sem.run_pure, Result.andThen_ok, List.map_toArray, List.map_cons, List.map_nil, hs, hx, hrun]
  exact h w' h2 h3

/-- clear, within a row of one's own: the cells ahead stay. -/
theorem run_clear_own {t ty e : TypeId} {i : TypeInfo} {z : Value} {base size g f n cap m c : Nat} {xs : List Value} (hu : P.underlying t = some (.slice e)) (hi : P.info? e = some i) (hz : i.zero = some z) (hsz : z.cells.size = size) (hz1 : ∀ j : Nat, Value.oneCell' (z.cells[j % z.cells.size]!) = true) (hm0 : 0 < m)
    (hrow : w.ownsRow base e size (.slice (some ⟨g, 0, none⟩) n cap) n xs) (hfit : f + m * size ≤ n * size) :
    ∃ w', (Builtin.clear_ #[t] ty #[.slice (some ⟨g, f, none⟩) m c]).run P w = .ok (.tuple #[]) w' ∧ (∃ ys, w'.ownsRow base e size (.slice (some ⟨g, 0, none⟩) n cap) n ys ∧ ys.take f = xs.take f) ∧ w.grownBy w' (some g) := by
  obtain ⟨cur, hg, hcs, hnc, hs⟩ := own_splice hrow
  have hl : (Builtin.zeroCells z.cells m).toList.length = m * size := by rw [Array.length_toList, size_zeroCells, hsz]
  obtain ⟨h2, h3⟩ := hs f (Builtin.zeroCells z.cells m).toList (by rw [hl]; exact hfit)
  have hst := run_storeCells_at P g f e (Builtin.zeroCells z.cells m).toList 0 cur w hg (by rw [hl]; omega) (fun v hv => by
    rw [Array.mem_toList_iff] at hv
    simp only [Builtin.zeroCells, Array.mem_map] at hv
    obtain ⟨j, _, rfl⟩ := hv
    exact hz1 _)
  rw [Nat.add_zero] at hst
  obtain ⟨m, rfl⟩ : ∃ m', m = m' + 1 := ⟨m - 1, by omega⟩
  refine ⟨_, ?_, ⟨_, h2, ?_⟩, h3⟩
  · simp [Builtin.clear_, run_underlying hu, zeroValue, typeInfo, hi, hz, hst]
  · unfold splice
    have hxl : f ≤ xs.length := by rw [hrow.1]; omega
    rw [List.take_append_of_le_length (by rw [List.length_take]; omega), List.take_take, Nat.min_self]
theorem wpList_clear_own {ops : Array Oper} {rest : List Oper} {o : Oper} {a : Act} {Q : Exit → Act → World → Prop} (hgd : o.guard = none) (s : Operand) (t : TypeId)
    (ho : o.op = .call { callee := .builtin .clear, args := #[s], argTypes := #[t] }) (e : TypeId) (i : TypeInfo) (z : Value) (base size g f n cap m c : Nat) (xs : List Value) (hu : P.underlying t = some (.slice e)) (hi : P.info? e = some i) (hz : i.zero = some z) (hsz : z.cells.size = size) (hz1 : ∀ j : Nat, Value.oneCell' (z.cells[j % z.cells.size]!) = true) (hm0 : 0 < m)
    (hs : a.eval s = .slice (some ⟨g, f, none⟩) m c) (hrow : w.ownsRow base e size (.slice (some ⟨g, 0, none⟩) n cap) n xs) (hfit : f + m * size ≤ n * size)
    (h : ∀ w' ys, w'.ownsRow base e size (.slice (some ⟨g, 0, none⟩) n cap) n ys → ys.take f = xs.take f → w.grownBy w' (some g) → wpList P ops Q rest (a.put o.dst (.tuple #[])) w') : wpList P ops Q (o :: rest) a w := by
  refine wpList_plain hgd fun K hK => ?_
  obtain ⟨w', hrun, ⟨ys, h2, h4⟩, h3⟩ := run_clear_own (P := P) (ty := o.type) (c := c) hu hi hz hsz hz1 hm0 hrow hfit
  unfold Oper.wp execOp
  simp only [ho, resolve, invoke, builtin, Sem.run_bind, Sem.run_pure, Result.andThen_ok, List.map_toArray, List.map_cons, List.map_nil, hs, hrun]
  exact hK _ _ (h w' ys h2 h4 h3)
end

end Tx
end Go.Proofs.YtfnhjflocfmcoaaGreat

namespace Go.Proofs.YtfnhjflocfmcoaaGreat
open Go.RowKit
set_option linter.unusedVariables false
namespace Tx

end Tx
end Go.Proofs.YtfnhjflocfmcoaaGreat

namespace Go.Proofs.YtfnhjflocfmcoaaGreat
open Go.RowKit
set_option linter.unusedVariables false
namespace Tx

/-- How a law ends: true, and all that was there is as it was. -/
def LawEnd (w : World) (e : Ending) (w' : World) : Prop := e = .returned (.bool true) ∧ Below w.heap.size w w'

end Tx
end Go.Proofs.YtfnhjflocfmcoaaGreat

namespace Go.Proofs.YtfnhjflocfmcoaaGreat
open Go.RowKit
set_option linter.unusedVariables false
namespace Tx

/-- An element of one cell of an array by value. -/
theorem run_index_array {P : Program} {t e : TypeId} {n : Nat} {cs : Array Value} {k : IntKind} {i : Int} {f : Value} {w : World} (h : P.underlying t = some (.array n e)) (hi : 0 ≤ i ∧ i < (n : Int)) (hs : (sizeOf e).run P w = .ok 1 w) (ha : (isAgg e).run P w = .ok false w) (hf : cs[i.toNat]? = some f) :
    (Instr.index t (.agg cs) (.int k i)).run P w = .ok f w := by
  simp [Instr.index, run_underlying h, asIntOf, hi, part, go_sem, hs, ha, hf]

end Tx
end Go.Proofs.YtfnhjflocfmcoaaGreat

namespace Go.Proofs.YtfnhjflocfmcoaaGreat
open Go.RowKit
set_option linter.unusedVariables false
namespace Tx

/-- An address, if there is one, is of memory made behind the first lo blocks. -/
def Hi (lo : Nat) (A : Option Addr) : Prop := ∀ a, A = some a → lo ≤ a.block
theorem hi_none (lo : Nat) : Hi lo none := fun a h => by cases h
theorem Hi.mono {lo lo' : Nat} {A : Option Addr} (h : Hi lo A) (hl : lo' ≤ lo) : Hi lo' A := fun a e => Nat.le_trans hl (h a e)
theorem hi_own {w : World} {base n c e size : Nat} {A : Option Addr} {xs : List Value} (h : w.ownsRow base e size (.slice A n c) n xs) : Hi base A := fun a ha => by
  subst ha
  rcases h.2 with ⟨h1, _⟩ | ⟨g, cap, cur, h1, hb, _⟩
  · cases h1
  · injection h1 with h1 h2
    injection h1 with h1
    subst h1
    exact hb
theorem rdS_hi {W : World} {N lo b : Nat} {A : Option Addr} {ls : List (List UInt8)} (h : RdS W N A ls) (hi : Hi lo A) (hb : b < lo) (j : Nat) (v : Value) : RdS (W.setCell ⟨b, j, none⟩ v) N A ls := by
  rcases h with h | ⟨a, e, hlt, hc⟩
  · exact .inl h
  · refine .inr ⟨a, e, hlt, fun i u hu => ?_⟩
    have := hi a e
    exact cell_set (hc i u hu) (by rw [add_block]; omega) j v

end Tx
end Go.Proofs.YtfnhjflocfmcoaaGreat

set_option maxRecDepth 100000
namespace Go.Proofs.YtfnhjflocfmcoaaGreat
namespace Tx

def may (l : List UInt8) : Bool := decide (l.length ≤ 80) && !l.contains 10
def inName (c : UInt8) : Bool := (decide (97 ≤ c.toNat) && decide (c.toNat ≤ 122)) || (decide (48 ≤ c.toNat) && decide (c.toNat ≤ 57)) || decide (c.toNat = 46)
def name (l : List UInt8) : Bool := decide (1 ≤ l.length) && decide (l.length ≤ 16) && l.all inName
def allMay (ls : List (List UInt8)) : Bool := decide (ls.length ≤ 200) && ls.all may

theorem indexByte_neg (l : List UInt8) (c : UInt8) : decide (Lib.indexByte l c < 0) = !l.contains c := by
  induction l with
  | nil => simp [Lib.indexByte]
  | cons b l ih =>
    have hg := Lib.indexByte_ge l c
    unfold Lib.indexByte
    by_cases hb : b = c
    · subst hb; simp
    · have hb' : ¬ c = b := fun e => hb e.symm
      by_cases hi : Lib.indexByte l c = -1
      · have : c ∉ l := by simpa [hi] using ih
        simp [hb, hi, hb', this]
      · have h1 : ¬ Lib.indexByte l c < 0 := by omega
        have h2 : c ∈ l := by simpa [h1] using ih
        have h3 : ¬ Lib.indexByte l c + 1 < 0 := by omega
        simp [hb, hi, h2, h3]

theorem all_of {ls : List (List UInt8)} (h : ∀ x ∈ ls, may x = true) : ls.all may = true := by rw [List.all_eq_true]; exact h
theorem not_all_of {ls : List (List UInt8)} {x : List UInt8} (hx : x ∈ ls) (h : may x = false) : ls.all may = false := by rw [List.all_eq_false]; exact ⟨x, hx, by simp [h]⟩

end Tx
end Go.Proofs.YtfnhjflocfmcoaaGreat

namespace Go.Proofs.YtfnhjflocfmcoaaGreat
namespace Lc

section
variable {α : Type} [DecidableEq α]

/-- What two lists have in common, from their first places on. -/
def lcs : List α → List α → Nat
  | x :: a, y :: b => if x = y then lcs a b + 1 else if lcs (x :: a) b ≤ lcs a (y :: b) then lcs a (y :: b) else lcs (x :: a) b
  | _, _ => 0
  termination_by a b => a.length + b.length

/-- The pairs, from place i of a and place j of b on. -/
def prs : Nat → Nat → List α → List α → List (Nat × Nat)
  | i, j, x :: a, y :: b => if x = y then (i, j) :: prs (i + 1) (j + 1) a b else if lcs (x :: a) b ≤ lcs a (y :: b) then prs (i + 1) j a (y :: b) else prs i (j + 1) (x :: a) b
  | _, _, _, _ => []
  termination_by _ _ a b => a.length + b.length
/-- The rest of the pairs, from places i and j on. -/
def rest (a b : List α) (i j : Nat) : List (Nat × Nat) := prs i j (a.drop i) (b.drop j)
end
end Lc
end Go.Proofs.YtfnhjflocfmcoaaGreat

namespace Go.Proofs.YtfnhjflocfmcoaaGreat
namespace Sq

section
variable {α : Type}
/-- l with 'now' in the place of what stands at i and is n long. -/
def swp (l : List α) (i n : Nat) (now : List α) : List α := l.take i ++ (now ++ l.drop (i + n))
theorem swp_parts (p s t now : List α) : swp (p ++ (s ++ t)) p.length s.length now = p ++ (now ++ t) := by
  simp [swp, ← List.drop_drop]
end

section
variable {α : Type} [DecidableEq α]

/-- Do 'some' stand in l from 'at' on? -/
def has (l : List α) (i : Int) (s : List α) : Bool := decide (0 ≤ i ∧ i ≤ l.length ∧ (l.drop i.toNat).take s.length = s)
theorem has_len {l s : List α} {i : Int} (h : has l i s = true) : 0 ≤ i ∧ i.toNat + s.length ≤ l.length := by
  simp only [has, decide_eq_true_eq] at h
  obtain ⟨h1, h2, h3⟩ := h
  have h4 := congrArg List.length h3
  simp at h4
  omega
theorem has_split {l s : List α} {i : Int} (h : has l i s = true) : l = l.take i.toNat ++ (s ++ l.drop (i.toNat + s.length)) := by
  have hl := has_len h
  simp only [has, decide_eq_true_eq] at h
  obtain ⟨h1, h2, h3⟩ := h
  conv => lhs; rw [← List.take_append_drop i.toNat l]
  congr 1
  conv => lhs; rw [← List.take_append_drop s.length (l.drop i.toNat), h3, List.drop_drop]
theorem has_of_split (p s t : List α) : has (p ++ (s ++ t)) p.length s = true := by
  simp only [has, decide_eq_true_eq]
  refine ⟨by omega, by simp; omega, by simp⟩
theorem has_parts {l s : List α} {i : Int} (h : has l i s = true) : ∃ p t, l = p ++ (s ++ t) ∧ (p.length : Int) = i := by
  have hl := has_len h
  refine ⟨_, _, has_split h, ?_⟩
  rw [List.length_take]; omega
theorem has_false {l s : List α} {i : Int} (h : i < 0 ∨ (l.length : Int) < i ∨ (l.length : Int) < i + s.length) : has l i s = false := by
  cases hb : has l i s with
  | false => rfl
  | true => have := has_len hb; omega
theorem has_at {l s : List α} {i : Nat} (h : i + s.length ≤ l.length) : has l i s = decide ((l.drop i).take s.length = s) := by
  unfold has
  refine decide_eq_decide.2 ⟨fun h => h.2.2, fun hh => ⟨by omega, by omega, hh⟩⟩

/-- Swapped, and swapped back. -/
theorem back_again {l old now : List α} {i : Int} (h : has l i old = true) :
    has (swp l i.toNat old.length now) i now = true ∧ swp (swp l i.toNat old.length now) i.toNat now.length old = l ∧ ((swp l i.toNat old.length now).length : Int) = l.length - old.length + now.length := by
  obtain ⟨p, t, rfl, rfl⟩ := has_parts h
  simp only [Int.toNat_natCast]
  rw [swp_parts, swp_parts]
  exact ⟨has_of_split _ _ _, rfl, by simp; omega⟩

/-- Two swaps apart. -/
theorem apart {l old now other thn : List α} {i g : Nat} (h1 : has l i old = true) (h2 : has l ((i + old.length + g : Nat) : Int) other = true) :
    has (swp l i old.length now) ((i + now.length + g : Nat) : Int) other = true ∧ has (swp l (i + old.length + g) other.length thn) i old = true ∧
    swp (swp l i old.length now) (i + now.length + g) other.length thn = swp (swp l (i + old.length + g) other.length thn) i old.length now := by
  obtain ⟨p, t, rfl, hp⟩ := has_parts h1
  obtain rfl : p.length = i := by omega
  obtain ⟨q, r, hq, hl⟩ := has_parts h2
  have hql : q.length = p.length + old.length + g := by omega
  have e1 : q = p ++ (old ++ (t.take g)) := by
    have := congrArg (List.take q.length) hq
    rw [List.take_left] at this
    rw [← this, hql]
    simp [List.take_append]
    rw [List.take_of_length_le (by omega), List.take_of_length_le (by omega), show p.length + old.length + g - p.length - old.length = g by omega]
  have hg : g ≤ t.length := by
    have := congrArg List.length e1
    simp at this; omega
  have e2 : t = t.take g ++ (other ++ r) := by
    rw [e1] at hq
    have h3 : p ++ (old ++ t) = p ++ (old ++ (t.take g ++ (other ++ r))) := by rw [hq]; simp
    exact List.append_cancel_left (List.append_cancel_left h3)
  generalize hu : t.take g = u at e2
  have hul : u.length = g := by rw [← hu, List.length_take]; omega
  clear hu e1 hg hq hl hql h1 h2 hp
  subst e2
  subst hul
  have w1 : swp (p ++ (old ++ (u ++ (other ++ r)))) p.length old.length now = p ++ (now ++ (u ++ (other ++ r))) := swp_parts _ _ _ _
  have w2 : swp (p ++ (old ++ (u ++ (other ++ r)))) (p.length + old.length + u.length) other.length thn = p ++ (old ++ (u ++ (thn ++ r))) := by
    have := swp_parts (p ++ (old ++ u)) other r thn
    simpa [Nat.add_assoc] using this
  rw [w1, w2, swp_parts]
  have a1 := has_of_split (p ++ (now ++ u)) other r
  have a2 := swp_parts (p ++ (now ++ u)) other r thn
  refine ⟨by simpa [Nat.add_assoc] using a1, has_of_split _ _ _, by simpa [Nat.add_assoc] using a2⟩

end
end Sq
end Go.Proofs.YtfnhjflocfmcoaaGreat

namespace Go.Proofs.YtfnhjflocfmcoaaGreat
namespace Df
open Lc

/-- An edit: a place, how many lines are gone there, and which ones stand there. -/
structure Ed (α : Type) where
  pos : Int
  old : Int
  new : List α

section
variable {α : Type}

/-- The lines of a list from place i up to place j. -/
def mid (a : List α) (i j : Nat) : List α := (a.drop i).take (j - i)

/-- Does an edit fit, at a list of n lines of which 'at' lines are done (f: none was ahead)? -/
def fits (n k : Nat) (f : Bool) (x : Ed α) : Prop := (k : Int) ≤ x.pos ∧ (f = false → (k : Int) < x.pos) ∧ x.pos ≤ n ∧ 0 ≤ x.old ∧ x.old ≤ n - x.pos
instance (n k : Nat) (f : Bool) (x : Ed α) : Decidable (fits n k f x) := by unfold fits; exact inferInstance

/-- All lines that edits put there, together. -/
def news : List (Ed α) → Nat
  | [] => 0
  | x :: l => x.new.length + news l
/-- The edit of the stretch from the places i and j up to the places p and q, if it has a line. -/
def one (b : List α) (i j p q : Nat) : List (Ed α) := if i < p ∨ j < q then [⟨i, (p : Int) - i, mid b j q⟩] else []

end
end Df
end Go.Proofs.YtfnhjflocfmcoaaGreat

namespace Go.Proofs.YtfnhjflocfmcoaaGreat
namespace Hk
open Lc Df Sq

/-- A hunk: a place, the lines that stand there, and those that stand there then. -/
structure Hu (α : Type) where
  pos : Int
  old : List α
  new : List α

def turn {α : Type} (h : Hu α) : Hu α := ⟨h.pos, h.new, h.old⟩
section
variable {α : Type}

variable [DecidableEq α]

/-- What a hunk makes of a list. -/
def done (l : List α) (h : Hu α) : Option (List α) := if has l h.pos h.old then some (swp l h.pos.toNat h.old.length h.new) else none
theorem done_yes {l : List α} {h : Hu α} (hh : has l h.pos h.old = true) : done l h = some (swp l h.pos.toNat h.old.length h.new) := by rw [done, if_pos hh]
theorem done_no {l : List α} {h : Hu α} (hh : has l h.pos h.old = false) : done l h = none := by rw [done, hh]; rfl
theorem done_some {l m : List α} {h : Hu α} (hd : done l h = some m) : has l h.pos h.old = true ∧ m = swp l h.pos.toNat h.old.length h.new := by
  cases hh : has l h.pos h.old with
  | false => rw [done_no hh] at hd; cases hd
  | true => rw [done_yes hh] at hd; injection hd with hd; exact ⟨rfl, hd.symm⟩

/-- Hunks, one behind the other. -/
def run : List α → List (Hu α) → Option (List α)
  | l, [] => some l
  | l, h :: hs => (done l h).bind fun m => run m hs

end
end Hk
end Go.Proofs.YtfnhjflocfmcoaaGreat

namespace Go.Proofs.YtfnhjflocfmcoaaGreat
namespace Sw
open Sq Hk

section
variable {α : Type}

/-- A hunk at another place. -/
def at_ (h : Hu α) (i : Int) : Hu α := ⟨i, h.old, h.new⟩
/-- Behind one that is not behind it: the second one's lines stand behind the first one's. -/
def ahead (p q : Hu α) : Option (Hu α × Hu α) := if p.pos + p.new.length < q.pos then some (at_ q (q.pos - p.new.length + p.old.length), p) else none
def behind (p q : Hu α) : Option (Hu α × Hu α) := if q.pos + q.old.length < p.pos then some (q, at_ p (p.pos - q.old.length + q.new.length)) else none
/-- What two hunks are when the second one is ahead. -/
def pass (p q : Hu α) : Option (Hu α × Hu α) := (ahead p q).or (behind p q)

/-- The two ways to pass. -/
theorem pass_cases {p q x y : Hu α} (h : pass p q = some (x, y)) :
    (p.pos + p.new.length < q.pos ∧ x = at_ q (q.pos - p.new.length + p.old.length) ∧ y = p) ∨ (q.pos + q.old.length < p.pos ∧ x = q ∧ y = at_ p (p.pos - q.old.length + q.new.length)) := by
  unfold pass ahead behind at h
  split at h
  · rw [Option.some_or] at h
    injection h with h; injection h with h1 h2
    exact .inl ⟨by assumption, h1.symm, h2.symm⟩
  · rw [Option.none_or] at h
    split at h
    · injection h with h; injection h with h1 h2
      exact .inr ⟨by assumption, h1.symm, h2.symm⟩
    · cases h
theorem pass_ahead {p q : Hu α} (h : p.pos + p.new.length < q.pos) : pass p q = some (at_ q (q.pos - p.new.length + p.old.length), p) := by
  unfold pass ahead; rw [if_pos h]; rfl
theorem pass_behind {p q : Hu α} (h : q.pos + q.old.length < p.pos) : pass p q = some (q, at_ p (p.pos - q.old.length + q.new.length)) := by
  unfold pass ahead behind; rw [if_neg (by omega), if_pos h]; rfl
/-- Just one moves, and the lines stay. -/
theorem pass_moves {p q x y : Hu α} (h : pass p q = some (x, y)) :
    ((y.pos = p.pos ∧ x.pos = q.pos - p.new.length + p.old.length) ∨ (x.pos = q.pos ∧ y.pos = p.pos - q.old.length + q.new.length)) ∧ x.old = q.old ∧ x.new = q.new ∧ y.old = p.old ∧ y.new = p.new := by
  rcases pass_cases h with ⟨_, rfl, rfl⟩ | ⟨_, rfl, rfl⟩
  · exact ⟨.inl ⟨rfl, rfl⟩, rfl, rfl, rfl, rfl⟩
  · exact ⟨.inr ⟨rfl, rfl⟩, rfl, rfl, rfl, rfl⟩
/-- Where they stand then is not below nought. -/
theorem pass_pos {p q x y : Hu α} (h : pass p q = some (x, y)) (hp : 0 ≤ p.pos) (hq : 0 ≤ q.pos) : 0 ≤ x.pos ∧ 0 ≤ y.pos := by
  rcases pass_cases h with ⟨h1, rfl, rfl⟩ | ⟨h1, rfl, rfl⟩
  · exact ⟨by simp only [at_]; omega, hp⟩
  · exact ⟨hq, by simp only [at_]; omega⟩
variable [DecidableEq α]

/-- Where two change a list, one behind the other, those that are told do so, to the same. -/
theorem pass_same {l m n : List α} {p q x y : Hu α} (h : pass p q = some (x, y)) (h1 : done l p = some m) (h2 : done m q = some n) : ∃ k, done l x = some k ∧ done k y = some n := by
  obtain ⟨hp, rfl⟩ := done_some h1
  obtain ⟨hq, rfl⟩ := done_some h2
  obtain ⟨b1, b2, _⟩ := back_again (now := p.new) hp
  have z1 := (has_len hp).1
  have z2 := (has_len hq).1
  rcases pass_cases h with ⟨c, rfl, rfl⟩ | ⟨c, rfl, rfl⟩
  · obtain ⟨i, hi⟩ : ∃ i : Nat, y.pos = i := ⟨y.pos.toNat, by omega⟩
    obtain ⟨g, hg⟩ : ∃ g : Nat, q.pos = ((i + y.new.length + g : Nat) : Int) := ⟨(q.pos - i - y.new.length).toNat, by omega⟩
    rw [hi, Int.toNat_natCast] at b1 b2
    rw [hi, Int.toNat_natCast, hg] at hq
    obtain ⟨a1, a2, a3⟩ := apart (now := y.old) (thn := q.new) b1 hq
    rw [b2] at a1 a3
    obtain ⟨e1, e2, _⟩ := back_again (now := y.old) a2
    rw [Int.toNat_natCast] at e1 e2
    rw [← a3] at e1 e2
    have hx : (at_ q (q.pos - y.new.length + y.old.length)).pos = ((i + y.old.length + g : Nat) : Int) := by simp only [at_]; omega
    refine ⟨swp l (i + y.old.length + g) q.old.length q.new, ?_, ?_⟩
    · rw [done_yes (by rw [hx]; exact a1), hx, Int.toNat_natCast]; rfl
    · rw [done_yes (by rw [hi]; exact e1), hi, hg, Int.toNat_natCast, Int.toNat_natCast, e2]
  · obtain ⟨i, hi⟩ : ∃ i : Nat, x.pos = i := ⟨x.pos.toNat, by omega⟩
    obtain ⟨g, hg⟩ : ∃ g : Nat, p.pos = ((i + x.old.length + g : Nat) : Int) := ⟨(p.pos - i - x.old.length).toNat, by omega⟩
    rw [hg, Int.toNat_natCast] at b1 b2 hq
    rw [hi] at hq
    obtain ⟨a1, a2, a3⟩ := apart (now := x.new) (thn := p.old) hq b1
    rw [b2] at a2 a3
    obtain ⟨e1, e2, _⟩ := back_again (now := p.old) a1
    rw [Int.toNat_natCast] at e1 e2
    rw [a3] at e1 e2
    have hx : (at_ p (p.pos - x.old.length + x.new.length)).pos = ((i + x.new.length + g : Nat) : Int) := by simp only [at_]; omega
    refine ⟨swp l i x.old.length x.new, ?_, ?_⟩
    · rw [done_yes (by rw [hi]; exact a2), hi, Int.toNat_natCast]
    · rw [done_yes (by rw [hx]; exact e1), hx, Int.toNat_natCast, hi, hg, Int.toNat_natCast, Int.toNat_natCast]
      exact congrArg some e2

end
end Sw
end Go.Proofs.YtfnhjflocfmcoaaGreat

namespace Go.Proofs.YtfnhjflocfmcoaaGreat
namespace Tr

/-- An order of names: of two that are not the same just one is less; of three that go on so the first one is. -/
structure Lin {κ : Type} (lt : κ → κ → Bool) : Prop where
  irr : ∀ a, lt a a = false
  tr : ∀ {a b c}, lt a b = true → lt b c = true → lt a c = true
  tri : ∀ {a b}, a ≠ b → lt a b = true ∨ lt b a = true
theorem Lin.asym {κ : Type} {lt : κ → κ → Bool} (h : Lin lt) {a b : κ} (hab : lt a b = true) : lt b a = false := by
  cases hb : lt b a with
  | false => rfl
  | true => have := h.tr hab hb; rw [h.irr] at this; cases this
theorem Lin.ne {κ : Type} {lt : κ → κ → Bool} (h : Lin lt) {a b : κ} (hab : lt a b = true) : a ≠ b := fun e => by subst e; rw [h.irr] at hab; cases hab

section
variable {κ β : Type}

/-- The names rise. -/
def Up (lt : κ → κ → Bool) (t : List (κ × β)) : Prop := t.Pairwise fun f g => lt f.1 g.1 = true

theorem up_keys {lt : κ → κ → Bool} {t : List (κ × β)} : Up lt t ↔ (t.map (·.1)).Pairwise fun a b => lt a b = true := by
  unfold Up; rw [List.pairwise_map]
/-- A file ahead of the first one of a greater name. -/
def ins (lt : κ → κ → Bool) : List (κ × β) → κ → β → List (κ × β)
  | [], n, l => [(n, l)]
  | f :: t, n, l => if lt n f.1 then (n, l) :: f :: t else f :: ins lt t n l

theorem ins_mem (lt : κ → κ → Bool) : ∀ (t : List (κ × β)) (n : κ) (l : β) (g : κ × β), g ∈ ins lt t n l ↔ g = (n, l) ∨ g ∈ t
  | [], n, l, g => by simp [ins]
  | f :: t, n, l, g => by
    unfold ins
    split
    · simp
    · rw [List.mem_cons, ins_mem lt t, List.mem_cons]
      constructor
      · rintro (h | h | h)
        · exact .inr (.inl h)
        · exact .inl h
        · exact .inr (.inr h)
      · rintro (h | h | h)
        · exact .inr (.inl h)
        · exact .inl h
        · exact .inr (.inr h)
theorem ins_len (lt : κ → κ → Bool) : ∀ (t : List (κ × β)) (n : κ) (l : β), (ins lt t n l).length = t.length + 1
  | [], n, l => rfl
  | f :: t, n, l => by
    unfold ins
    split
    · rfl
    · rw [List.length_cons, ins_len lt t, List.length_cons]

variable [DecidableEq κ]

/-- The lines of the first file of a name. -/
def get : List (κ × β) → κ → Option β
  | [], _ => none
  | f :: t, n => if f.1 = n then some f.2 else get t n
/-- The first file of a name has other lines. -/
def upd : List (κ × β) → κ → β → List (κ × β)
  | [], _, _ => []
  | f :: t, n, l => if f.1 = n then (n, l) :: t else f :: upd t n l
def put (lt : κ → κ → Bool) (t : List (κ × β)) (n : κ) (l : β) : List (κ × β) := if (get t n).isSome then upd t n l else ins lt t n l
/-- Without the first file of a name. -/
def del : List (κ × β) → κ → List (κ × β)
  | [], _ => []
  | f :: t, n => if f.1 = n then t else f :: del t n

theorem get_cons (f : κ × β) (t : List (κ × β)) (n : κ) : get (f :: t) n = if f.1 = n then some f.2 else get t n := rfl
theorem get_none : ∀ {t : List (κ × β)} {n : κ}, get t n = none ↔ ∀ f ∈ t, f.1 ≠ n
  | [], n => by simp [get]
  | f :: t, n => by
    rw [get_cons]
    split
    · rename_i h; simp [h]
    · rename_i h; rw [get_none]; simp [h]
theorem get_mem : ∀ {t : List (κ × β)} {n : κ} {l : β}, get t n = some l → (n, l) ∈ t
  | [], n, l, h => by cases h
  | f :: t, n, l, h => by
    rw [get_cons] at h
    split at h
    · rename_i e; injection h with h; subst e; subst h; exact List.mem_cons_self
    · exact List.mem_cons_of_mem _ (get_mem h)
theorem get_of_mem {lt : κ → κ → Bool} (hl : Lin lt) : ∀ {t : List (κ × β)} {f : κ × β}, Up lt t → f ∈ t → get t f.1 = some f.2
  | g :: t, f, hu, hf => by
    obtain ⟨h1, h2⟩ := List.pairwise_cons.1 hu
    rw [get_cons]
    rcases List.mem_cons.1 hf with rfl | hf
    · rw [if_pos rfl]
    · rw [if_neg (hl.ne (h1 f hf)), get_of_mem hl h2 hf]

/-- What a rising tree is its files tell. -/
theorem up_ext {lt : κ → κ → Bool} (hl : Lin lt) : ∀ {t u : List (κ × β)}, Up lt t → Up lt u → (∀ n, get t n = get u n) → t = u
  | [], [], _, _, _ => rfl
  | [], g :: u, _, _, h => by have := h g.1; rw [get_cons, if_pos rfl] at this; cases this
  | f :: t, [], _, _, h => by have := h f.1; rw [get_cons, if_pos rfl] at this; cases this
  | f :: t, g :: u, ht, hu, h => by
    obtain ⟨t1, t2⟩ := List.pairwise_cons.1 ht
    obtain ⟨u1, u2⟩ := List.pairwise_cons.1 hu
    have e : f.1 = g.1 := by
      refine Classical.byContradiction fun hne => ?_
      rcases hl.tri hne with hlt | hlt
      · have hf := h f.1
        rw [get_cons, if_pos rfl, get_cons, if_neg (Ne.symm hne)] at hf
        have := get_mem hf.symm
        have := hl.asym (u1 _ this)
        rw [hlt] at this; cases this
      · have hg := h g.1
        rw [get_cons, if_neg hne, get_cons, if_pos rfl] at hg
        have := get_mem hg
        have := hl.asym (t1 _ this)
        rw [hlt] at this; cases this
    have e2 : f = g := by
      have := h f.1
      rw [get_cons, if_pos rfl, get_cons, if_pos e.symm] at this
      injection this with this
      exact Prod.ext e this
    subst e2
    refine congrArg (f :: ·) (up_ext hl t2 u2 fun n => ?_)
    by_cases hn : f.1 = n
    · subst hn
      have ht0 : get t f.1 = none := get_none.2 fun x hx => Ne.symm (hl.ne (t1 x hx))
      have hu0 : get u f.1 = none := get_none.2 fun x hx => Ne.symm (hl.ne (u1 x hx))
      rw [ht0, hu0]
    · have := h n
      rwa [get_cons, if_neg hn, get_cons, if_neg hn] at this

theorem get_upd : ∀ (t : List (κ × β)) (n o : κ) (l : β), get (upd t n l) o = if n = o then (get t n).map (fun _ => l) else get t o
  | [], n, o, l => by simp [upd, get]
  | f :: t, n, o, l => by
    unfold upd
    by_cases h : f.1 = n
    · rw [if_pos h, get_cons, get_cons, get_cons, h]
      by_cases ho : n = o
      · rw [if_pos ho, if_pos ho, if_pos rfl]; rfl
      · rw [if_neg ho, if_neg ho, if_neg ho]
    · rw [if_neg h, get_cons, get_cons, get_cons, get_upd t, if_neg h]
      by_cases ho : n = o
      · rw [if_pos ho, if_pos ho, if_neg (by rw [← ho]; exact h)]
      · rw [if_neg ho, if_neg ho]
theorem get_ins (lt : κ → κ → Bool) : ∀ (t : List (κ × β)) (n o : κ) (l : β), get t n = none → get (ins lt t n l) o = if n = o then some l else get t o
  | [], n, o, l, _ => by simp [ins, get]
  | f :: t, n, o, l, h => by
    rw [get_cons] at h
    split at h
    · cases h
    · rename_i hf
      unfold ins
      split
      · rw [get_cons]
      · rw [get_cons, get_ins lt t n o l h, get_cons]
        by_cases ho : n = o
        · subst ho; rw [if_neg hf, if_pos rfl, if_pos rfl]
        · rw [if_neg ho, if_neg ho]
/-- What is put is got, and changes no other file. -/
theorem get_put (lt : κ → κ → Bool) (t : List (κ × β)) (n o : κ) (l : β) : get (put lt t n l) o = if n = o then some l else get t o := by
  unfold put
  cases h : get t n with
  | none => exact get_ins lt t n o l h
  | some x =>
    rw [Option.isSome_some, if_pos rfl, get_upd, h]
    rfl
theorem get_del {lt : κ → κ → Bool} (hl : Lin lt) : ∀ {t : List (κ × β)}, Up lt t → ∀ (n o : κ), get (del t n) o = if n = o then none else get t o
  | [], _, n, o => by simp [del, get]
  | f :: t, hu, n, o => by
    obtain ⟨h1, h2⟩ := List.pairwise_cons.1 hu
    unfold del
    by_cases h : f.1 = n
    · subst h
      rw [if_pos rfl]
      by_cases ho : f.1 = o
      · subst ho
        rw [if_pos rfl]
        exact get_none.2 fun x hx => Ne.symm (hl.ne (h1 x hx))
      · rw [if_neg ho, get_cons, if_neg ho]
    · rw [if_neg h, get_cons, get_del hl h2, get_cons]
      by_cases ho : n = o
      · rw [if_pos ho, if_neg (by rw [← ho]; exact h), if_pos ho]
      · rw [if_neg ho, if_neg ho]

theorem upd_keys : ∀ (t : List (κ × β)) (n : κ) (l : β), (upd t n l).map (·.1) = t.map (·.1)
  | [], _, _ => rfl
  | f :: t, n, l => by
    unfold upd
    split
    · rename_i h; rw [List.map_cons, List.map_cons, h]
    · rw [List.map_cons, List.map_cons, upd_keys t]
theorem upd_len (t : List (κ × β)) (n : κ) (l : β) : (upd t n l).length = t.length := by
  have := congrArg List.length (upd_keys t n l)
  simpa using this
theorem up_ins {lt : κ → κ → Bool} (hl : Lin lt) : ∀ {t : List (κ × β)} {n : κ} {l : β}, Up lt t → get t n = none → Up lt (ins lt t n l)
  | [], n, l, _, _ => List.pairwise_singleton _ _
  | f :: t, n, l, hu, h => by
    obtain ⟨h1, h2⟩ := List.pairwise_cons.1 hu
    have hf : f.1 ≠ n := fun e => by rw [get_cons, if_pos e] at h; cases h
    rw [get_cons, if_neg hf] at h
    unfold ins
    split
    · rename_i hn
      refine List.pairwise_cons.2 ⟨fun g hg => ?_, hu⟩
      rcases List.mem_cons.1 hg with rfl | hg
      · exact hn
      · exact hl.tr hn (h1 g hg)
    · rename_i hn
      refine List.pairwise_cons.2 ⟨fun g hg => ?_, up_ins hl h2 h⟩
      rcases (ins_mem lt t n l g).1 hg with rfl | hg
      · rcases hl.tri hf with h' | h'
        · exact h'
        · exact absurd h' hn
      · exact h1 g hg
/-- A tree that rises does so with a file, and without one. -/
theorem up_put {lt : κ → κ → Bool} (hl : Lin lt) {t : List (κ × β)} (hu : Up lt t) (n : κ) (l : β) : Up lt (put lt t n l) := by
  unfold put
  cases h : get t n with
  | none => exact up_ins hl hu h
  | some x =>
    rw [Option.isSome_some, if_pos rfl]
    rw [up_keys, upd_keys, ← up_keys]
    exact hu
theorem del_sub : ∀ (t : List (κ × β)) (n : κ), (del t n).Sublist t
  | [], _ => .slnil
  | f :: t, n => by
    unfold del
    split
    · exact List.sublist_cons_self f t
    · exact (del_sub t n).cons_cons f
theorem up_del {lt : κ → κ → Bool} {t : List (κ × β)} (hu : Up lt t) (n : κ) : Up lt (del t n) := List.Pairwise.sublist (del_sub t n) hu
theorem put_len (lt : κ → κ → Bool) (t : List (κ × β)) (n : κ) (l : β) : (put lt t n l).length = if (get t n).isSome then t.length else t.length + 1 := by
  unfold put
  split
  · exact upd_len t n l
  · exact ins_len lt t n l
end

section
variable {κ : Type} [DecidableEq κ]
/-- A rising list of names is told by what is in it. -/
theorem rise_ext {lt : κ → κ → Bool} (hl : Lin lt) : ∀ {a b : List κ}, (a.Pairwise fun x y => lt x y = true) → (b.Pairwise fun x y => lt x y = true) → (∀ x, x ∈ a ↔ x ∈ b) → a = b := fun {a b} ha hb h => by
  have e : ∀ {l : List κ}, (l.Pairwise fun x y => lt x y = true) → Up lt (l.map fun x => (x, ())) := fun {l} h => by
    rw [up_keys, List.map_map]
    exact (List.map_id l).symm ▸ h
  have g : ∀ {l : List κ} {n : κ}, get (l.map fun x => (x, ())) n = if n ∈ l then some () else none := fun {l n} => by
    induction l with
    | nil => simp [get]
    | cons x l ih =>
      rw [List.map_cons, get_cons, ih]
      by_cases hx : x = n
      · subst hx; simp
      · rw [if_neg hx]
        have : (n ∈ x :: l) ↔ n ∈ l := by simp [Ne.symm hx]
        simp only [this]
  have := up_ext hl (e ha) (e hb) fun n => by rw [g, g]; simp only [h n]
  have h2 := congrArg (List.map (·.1)) this
  rw [List.map_map, List.map_map] at h2
  exact (List.map_id a).symm.trans (h2.trans (List.map_id b))
end

end Tr
end Go.Proofs.YtfnhjflocfmcoaaGreat

namespace Go.Proofs.YtfnhjflocfmcoaaGreat
namespace Tr
open Tx

theorem bl_irr : ∀ a : List UInt8, Op.bytesLess a a = false
  | [] => rfl
  | a :: x => by rw [Op.bytesLess, bl_irr x]; simp
theorem bl_tr : ∀ {a b c : List UInt8}, Op.bytesLess a b = true → Op.bytesLess b c = true → Op.bytesLess a c = true
  | _, [], _, h, _ => by simp [Op.bytesLess] at h
  | [], _ :: _, [], _, h => by simp [Op.bytesLess] at h
  | [], _ :: _, _ :: _, _, _ => rfl
  | _ :: _, _ :: _, [], _, h => by simp [Op.bytesLess] at h
  | a :: x, b :: y, c :: z, h, h' => by
    simp only [Op.bytesLess, Bool.or_eq_true, Bool.and_eq_true, decide_eq_true_eq, beq_iff_eq] at h h' ⊢
    rcases h with h | ⟨rfl, h⟩ <;> rcases h' with h' | ⟨rfl, h'⟩
    · exact .inl (UInt8.lt_trans h h')
    · exact .inl h
    · exact .inl h'
    · exact .inr ⟨rfl, bl_tr h h'⟩
theorem bl_tri : ∀ {a b : List UInt8}, a ≠ b → Op.bytesLess a b = true ∨ Op.bytesLess b a = true
  | [], [], h => absurd rfl h
  | [], _ :: _, _ => .inl rfl
  | _ :: _, [], _ => .inr rfl
  | a :: x, b :: y, h => by
    simp only [Op.bytesLess, Bool.or_eq_true, Bool.and_eq_true, decide_eq_true_eq, beq_iff_eq]
    by_cases e : a = b
    · subst e
      rcases bl_tri (a := x) (b := y) (fun e => h (by rw [e])) with h1 | h1
      · exact .inl (.inr ⟨rfl, h1⟩)
      · exact .inr (.inr ⟨rfl, h1⟩)
    · have : a < b ∨ b < a := by
        have h1 : a.toNat ≠ b.toNat := fun h1 => e (UInt8.toNat_inj.1 h1)
        rcases Nat.lt_or_gt_of_ne h1 with h2 | h2
        · exact .inl (UInt8.lt_iff_toNat_lt.2 h2)
        · exact .inr (UInt8.lt_iff_toNat_lt.2 h2)
      rcases this with h1 | h1
      · exact .inl (.inl h1)
      · exact .inr (.inl h1)
/-- Names, byte by byte. -/
theorem lin : Lin Op.bytesLess := ⟨bl_irr, bl_tr, bl_tri⟩

theorem gt_eq (s n : List UInt8) : (!Op.bytesLess s n && !(s == n)) = Op.bytesLess n s := by
  by_cases e : s = n
  · subst e; rw [lin.irr]; simp
  · rcases lin.tri e with h | h
    · rw [h, lin.asym h]; rfl
    · rw [h, lin.asym h]; simp [e]

abbrev FL : Type := List UInt8 × List (List UInt8)
abbrev TR : Type := List FL

section
variable {κ β : Type} {lt : κ → κ → Bool}

/-- Names rise, each against the one ahead of it. -/
def upB (lt : κ → κ → Bool) : List κ → Bool
  | [] => true
  | [_] => true
  | a :: b :: t => lt a b && upB lt (b :: t)
/-- Names rise as far as they have been gone through. -/
theorem upB_take {l : List κ} : ∀ {k : Nat} (hk : k + 1 < l.length), upB lt (l.take (k + 2)) = (upB lt (l.take (k + 1)) && lt (l[k]'(by omega)) l[k + 1]) := by
  induction l with
  | nil => intro k hk; simp at hk
  | cons a l ih =>
    intro k hk
    cases l with
    | nil => simp at hk
    | cons b t =>
      cases k with
      | zero => simp [upB]
      | succ k =>
        have := ih (k := k) (by simpa using hk)
        simp only [List.take_succ_cons, upB, List.getElem_cons_succ] at this ⊢
        rw [this, Bool.and_assoc]
end

/-- A tree may be. -/
def mayT (t : TR) : Bool := decide (t.length ≤ 30) && ((t.all fun f => name f.1 && allMay f.2) && upB Op.bytesLess (t.map (·.1)))
section
variable {κ β : Type} [DecidableEq κ] {lt : κ → κ → Bool}
theorem upd_mem : ∀ {t : List (κ × β)} {n : κ} {l : β} {g : κ × β}, g ∈ upd t n l → g = (n, l) ∨ g ∈ t
  | [], _, _, _, h => by cases h
  | f :: t, n, l, g, h => by
    unfold upd at h
    split at h
    · rcases List.mem_cons.1 h with h | h
      · exact .inl h
      · exact .inr (List.mem_cons_of_mem _ h)
    · rcases List.mem_cons.1 h with h | h
      · exact .inr (by rw [h]; exact List.mem_cons_self ..)
      · rcases upd_mem h with h | h
        · exact .inl h
        · exact .inr (List.mem_cons_of_mem _ h)
theorem put_mem {t : List (κ × β)} {n : κ} {l : β} {g : κ × β} (h : g ∈ put lt t n l) : g = (n, l) ∨ g ∈ t := by
  unfold put at h
  split at h
  · exact upd_mem h
  · exact (ins_mem lt t n l g).1 h
end
section
variable {κ : Type} {lt : κ → κ → Bool}
/-- A name ahead of the first greater one. -/
def insN (lt : κ → κ → Bool) : List κ → κ → List κ
  | [], n => [n]
  | a :: t, n => if lt n a then n :: a :: t else a :: insN lt t n
theorem insN_mem : ∀ {o : List κ} {n x : κ}, x ∈ insN lt o n ↔ x = n ∨ x ∈ o
  | [], n, x => by simp [insN]
  | a :: t, n, x => by
    unfold insN
    split
    · simp
    · rw [List.mem_cons, insN_mem, List.mem_cons]
      constructor
      · rintro (h | h | h)
        · exact .inr (.inl h)
        · exact .inl h
        · exact .inr (.inr h)
      · rintro (h | h | h)
        · exact .inr (.inl h)
        · exact .inl h
        · exact .inr (.inr h)
theorem insN_rise (hl : Lin lt) : ∀ {o : List κ} {n : κ}, (o.Pairwise fun a b => lt a b = true) → n ∉ o → (insN lt o n).Pairwise fun a b => lt a b = true
  | [], n, _, _ => by simp [insN]
  | a :: t, n, h, hn => by
    unfold insN
    rw [List.pairwise_cons] at h
    split
    · rename_i hlt
      rw [List.pairwise_cons, List.pairwise_cons]
      refine ⟨fun c hc => ?_, h⟩
      rcases List.mem_cons.1 hc with rfl | hc
      · exact hlt
      · exact hl.tr hlt (h.1 c hc)
    · rename_i hlt
      rw [List.pairwise_cons]
      refine ⟨fun c hc => ?_, insN_rise hl h.2 (fun hc => hn (List.mem_cons_of_mem _ hc))⟩
      rcases insN_mem.1 hc with rfl | hc
      · rcases hl.tri (a := c) (b := a) (fun e => hn (by rw [e]; exact List.mem_cons_self ..)) with h1 | h1
        · exact absurd h1 hlt
        · exact h1
      · exact h.1 c hc
variable [DecidableEq κ]
def nin (lt : κ → κ → Bool) (o : List κ) (n : κ) : List κ := if n ∈ o then o else insN lt o n
/-- Names, each once, rising. -/
def names (lt : κ → κ → Bool) (l : List κ) : List κ := l.foldl (nin lt) []
theorem nin_mem {o : List κ} {n x : κ} : x ∈ nin lt o n ↔ x ∈ o ∨ x = n := by
  unfold nin
  split
  · rename_i h
    constructor
    · exact .inl
    · rintro (h1 | rfl)
      · exact h1
      · exact h
  · rw [insN_mem]; exact or_comm
theorem nin_rise (hl : Lin lt) {o : List κ} {n : κ} (h : o.Pairwise fun a b => lt a b = true) : (nin lt o n).Pairwise fun a b => lt a b = true := by
  unfold nin
  split
  · exact h
  · rename_i hn; exact insN_rise hl h hn
theorem fold_mem : ∀ {l o : List κ} {x : κ}, x ∈ l.foldl (nin lt) o ↔ x ∈ o ∨ x ∈ l
  | [], o, x => by simp
  | a :: l, o, x => by
    rw [List.foldl_cons, fold_mem, nin_mem, List.mem_cons, or_assoc]
theorem fold_rise (hl : Lin lt) : ∀ {l o : List κ}, (o.Pairwise fun a b => lt a b = true) → (l.foldl (nin lt) o).Pairwise fun a b => lt a b = true
  | [], o, h => h
  | a :: l, o, h => by rw [List.foldl_cons]; exact fold_rise hl (nin_rise hl h)
theorem names_mem {l : List κ} {x : κ} : x ∈ names lt l ↔ x ∈ l := by unfold names; rw [fold_mem]; simp
theorem names_rise (hl : Lin lt) (l : List κ) : (names lt l).Pairwise fun a b => lt a b = true := fold_rise hl List.Pairwise.nil
/-- Just one rising list has just these names. -/
theorem names_uniq (hl : Lin lt) {l r : List κ} (hr : r.Pairwise fun a b => lt a b = true) (hm : ∀ x, x ∈ r ↔ x ∈ l) : r = names lt l :=
  rise_ext hl hr (names_rise hl l) fun x => (hm x).trans names_mem.symm
end

section
variable {κ β : Type} [DecidableEq κ]

theorem get_at : ∀ {t : List (κ × β)} {n : κ} {i : Nat} (hi : i < t.length), t[i].1 = n → (∀ j (hj : j < i), (t[j]'(by omega)).1 ≠ n) → get t n = some t[i].2
  | [], _, _, hi, _, _ => by simp at hi
  | f :: t, n, 0, _, h, _ => by rw [get_cons, if_pos (show f.1 = n from h)]; rfl
  | f :: t, n, i + 1, hi, h, hb => by
    rw [get_cons, if_neg (show ¬ f.1 = n from hb 0 (by omega))]
    exact get_at (by simpa using hi) h fun j hj => hb (j + 1) (by omega)
theorem upd_at : ∀ {t : List (κ × β)} {n : κ} {l : β} {i : Nat} (hi : i < t.length), t[i].1 = n → (∀ j (hj : j < i), (t[j]'(by omega)).1 ≠ n) → upd t n l = t.take i ++ (n, l) :: t.drop (i + 1)
  | [], _, _, _, hi, _, _ => by simp at hi
  | f :: t, n, l, 0, _, h, _ => by unfold upd; rw [if_pos (show f.1 = n from h)]; rfl
  | f :: t, n, l, i + 1, hi, h, hb => by
    unfold upd
    rw [if_neg (show ¬ f.1 = n from hb 0 (by omega)), upd_at (t := t) (n := n) (l := l) (i := i) (by simpa using hi) h fun j hj => hb (j + 1) (by omega)]
    rfl
theorem del_at : ∀ {t : List (κ × β)} {n : κ} {i : Nat} (hi : i < t.length), t[i].1 = n → (∀ j (hj : j < i), (t[j]'(by omega)).1 ≠ n) → del t n = t.take i ++ t.drop (i + 1)
  | [], _, _, hi, _, _ => by simp at hi
  | f :: t, n, 0, _, h, _ => by unfold del; rw [if_pos (show f.1 = n from h)]; rfl
  | f :: t, n, i + 1, hi, h, hb => by
    unfold del
    rw [if_neg (show ¬ f.1 = n from hb 0 (by omega)), del_at (t := t) (n := n) (i := i) (by simpa using hi) h fun j hj => hb (j + 1) (by omega)]
    rfl
theorem del_no : ∀ {t : List (κ × β)} {n : κ}, get t n = none → del t n = t
  | [], _, _ => rfl
  | f :: t, n, h => by
    rw [get_cons] at h
    unfold del
    split at h
    · cases h
    · rename_i hf; rw [if_neg hf, del_no h]

end

section
variable {κ β : Type}

end

end Tr
end Go.Proofs.YtfnhjflocfmcoaaGreat

set_option maxRecDepth 100000
namespace Go.Proofs.YtfnhjflocfmcoaaGreat
open Go.RowKit
namespace Tx

set_option maxHeartbeats 400000 in
theorem stringslite_IndexByte (s : ByteArray) (c : Int) (w : World) :
    Calls Tryz.prog 150 #[.string s, .int .u8 c] w fun e w' => e = .returned (.int .i64 (Lib.indexByte s.data.toList c.toNat.toUInt8)) ∧ w = w' := by
  go_enter Tryz.func150, Tryz.ntmps150
  go_wp2
  rw [run_callFunc_extern Tryz.func151 (by kernel_rfl) (by kernel_rfl) (by kernel_rfl) (e := Extern.BytealgIndexByte.indexByte) (by kernel_rfl), Lib.run_indexByteString]
  simp only [Result.andThen]
  rw [Oper.upon_value]
  go_wp2
  go_ret
  exact ⟨rfl, rfl⟩

set_option maxHeartbeats 400000 in
theorem strings_IndexByte (s : ByteArray) (c : Int) (w : World) :
    Calls Tryz.prog 147 #[.string s, .int .u8 c] w fun e w' => e = .returned (.int .i64 (Lib.indexByte s.data.toList c.toNat.toUInt8)) ∧ w = w' := by
  go_enter Tryz.func147, Tryz.ntmps147
  go_wp2_with (go_at_call 150; refine (stringslite_IndexByte _ _ _).mono ?_; rintro e w' ⟨rfl, rfl⟩)
  go_ret
  exact ⟨rfl, rfl⟩

set_option maxHeartbeats 400000 in
theorem May (s : ByteArray) (w : World) :
    Calls Tryz.prog 143 #[.string s] w fun e w' => e = .returned (.bool (may s.data.toList)) ∧ w = w' := by
  have hl : s.data.toList.length = s.size := by simp only [ByteArray.size, Array.length_toList]
  have H := Lib.hid hl; clear hl
  have hi := indexByte_neg s.data.toList 10
  have HI := Lib.hid hi; clear hi
  by_cases h : s.size ≤ 80
  · go_enter Tryz.func143, Tryz.ntmps143
    go_wp2_with (go_at_call 147; refine (strings_IndexByte _ _ _).mono ?_; rintro e w' ⟨rfl, rfl⟩)
    go_ret
    exact ⟨ret_bool (by unfold may; rw [H.out, ← HI.out]; simp [h]), rfl⟩
  · go_enter Tryz.func143, Tryz.ntmps143
    go_wp2
    go_ret
    exact ⟨ret_bool (by unfold may; rw [H.out]; simp [h]), rfl⟩

theorem MayV (x : List UInt8) (w : World) :
    Calls Tryz.prog 143 #[strV x] w fun e w' => e = .returned (.bool (may x)) ∧ w = w' := by
  unfold strV
  have := May ⟨x.toArray⟩ w
  simpa using this

set_option maxHeartbeats 400000 in
theorem InName (c : UInt8) (w : World) :
    Calls Tryz.prog 98 #[.int .u8 c.toNat] w fun e w' => e = .returned (.bool (inName c)) ∧ w = w' := by
  have hc : c.toNat < 256 := c.toNat_lt
  generalize hn : c.toNat = n at *
  have H := Lib.hid hn; clear hn
  have hv : inName c = ((decide (97 ≤ n) && decide (n ≤ 122)) || (decide (48 ≤ n) && decide (n ≤ 57)) || decide (n = 46)) := by unfold inName; rw [H.out]
  have HV := Lib.hid hv; clear hv
  go_enter Tryz.func98, Tryz.ntmps98
  go_wp2
  all_goals
    go_ret
    exact ⟨ret_bool (by rw [HV.out, Bool.eq_iff_iff]; simp; omega), rfl⟩

theorem name_false {l : List UInt8} {c : UInt8} (hm : c ∈ l) (h : inName c = false) : name l = false := by
  have : l.all inName = false := by rw [List.all_eq_false]; exact ⟨c, hm, by simp [h]⟩
  simp [name, this]
theorem name_true {l : List UInt8} (h1 : 1 ≤ l.length) (h2 : l.length ≤ 16) (h : ∀ c ∈ l, inName c = true) : name l = true := by
  have : l.all inName = true := by rw [List.all_eq_true]; exact h
  simp [name, this, h1, h2]
theorem mem_data (s : ByteArray) (k : Nat) (h : k < s.size) : s[k] ∈ s.data.toList := by
  have : s[k] = s.data[k] := rfl
  rw [this]
  exact Array.getElem_mem_toList _
theorem take_data (s : ByteArray) (k : Nat) (h : k < s.size) : s.data.toList.take (k + 1) = s.data.toList.take k ++ [s[k]] := by
  rw [List.take_succ_eq_append_getElem (by rw [Array.length_toList]; exact h)]; rfl

set_option maxHeartbeats 400000 in
theorem Name (s : ByteArray) (w : World) (hs : s.size ≤ maxLen) :
    Calls Tryz.prog 70 #[.string s] w fun e w' => e = .returned (.bool (name s.data.toList)) ∧ w = w' := by
  have hl : s.data.toList.length = s.size := by simp only [ByteArray.size, Array.length_toList]
  have H := Lib.hid hl; clear hl
  unfold maxLen at hs
  by_cases h1 : s.size < 1
  · go_enter Tryz.func70, Tryz.ntmps70
    go_wp2
    go_ret
    exact ⟨ret_bool (by unfold name; rw [H.out]; simp; omega), rfl⟩
  · by_cases h2 : 16 < s.size
    · go_enter Tryz.func70, Tryz.ntmps70
      go_wp2
      go_ret
      exact ⟨ret_bool (by unfold name; rw [H.out]; simp; omega), rfl⟩
    · go_enter Tryz.func70, Tryz.ntmps70
      go_wp2
      go_loop [14] (fun i => ∃ k : Nat, k ≤ s.size ∧ i = .int .i64 k ∧ ∀ c ∈ s.data.toList.take k, inName c = true) (fun i => s.size - (intOf i).toNat)
      case atStart => exact ⟨0, Nat.zero_le _, rfl, by simp⟩
      case round =>
        obtain ⟨k, hk, rfl, hall⟩ := hrel
        have HA := Lib.hid hall; clear hall
        by_cases hlt : k < s.size
        · have hm := mem_data s k hlt
          have HT := Lib.hid (take_data s k hlt)
          cases hb : inName s[k] with
          | true =>
            go_wp2_with (go_at_call 98; refine (InName _ _).mono ?_; rintro e w' ⟨rfl, rfl⟩)
            go_round
            case rel => exact ⟨k + 1, by omega, by go_num, by rw [HT.out]; intro c hc; rcases List.mem_append.1 hc with h | h; exact HA.out c h; simp at h; rw [h]; exact hb⟩
            case measure => simp [intOf]; omega
          | false =>
            have HF := Lib.hid (name_false hm hb)
            go_wp2_with (go_at_call 98; refine (InName _ _).mono ?_; rintro e w' ⟨rfl, rfl⟩)
            go_ret
            exact ⟨ret_bool HF.out.symm, rfl⟩
        · have HF : Hid (name s.data.toList = true) := Lib.hid (name_true (by rw [H.out]; omega) (by rw [H.out]; omega) (by have := HA.out; rw [List.take_of_length_le (by rw [H.out]; omega)] at this; exact this))
          go_wp2
          go_ret
          exact ⟨ret_bool HF.out.symm, rfl⟩

end Tx
end Go.Proofs.YtfnhjflocfmcoaaGreat

namespace Go.Proofs.YtfnhjflocfmcoaaGreat
open Go.RowKit
namespace Tx

theorem allMay_false {ls : List (List UInt8)} {x : List UInt8} (hm : x ∈ ls) (h : may x = false) : allMay ls = false := by
  simp [allMay, not_all_of hm h]
theorem allMay_true {ls : List (List UInt8)} (hl : ls.length ≤ 200) (h : ∀ x ∈ ls, may x = true) : allMay ls = true := by
  simp [allMay, all_of h, hl]
set_option maxHeartbeats 400000 in
theorem All (A : Option Addr) (cap n B : Nat) (ls : List (List UInt8)) (w : World) (hn : ls.length = n) (hR : RdS w B A ls) :
    Calls Tryz.prog 130 #[.slice A n cap] w fun e w' => e = .returned (.bool (allMay ls)) ∧ w = w' := by
  have HN := Lib.hid hn; clear hn
  by_cases h1 : 200 < n
  · have HF : Hid (allMay ls = false) := Lib.hid (by unfold allMay; rw [HN.out]; simp; omega)
    go_enter Tryz.func130, Tryz.ntmps130
    go_wp2
    go_ret
    exact ⟨ret_bool HF.out.symm, rfl⟩
  · go_enter Tryz.func130, Tryz.ntmps130
    go_wp2
    go_loop [10] (fun i => ∃ k : Nat, k ≤ n ∧ i = .int .i64 k ∧ ∀ x ∈ ls.take k, may x = true) (fun i => n - (intOf i).toNat)
    case atStart => exact ⟨0, Nat.zero_le _, rfl, by simp⟩
    case round =>
      obtain ⟨k, hk, rfl, hall⟩ := hrel
      have HA := Lib.hid hall; clear hall
      by_cases hlt : k < n
      · have hkl : k < ls.length := by rw [HN.out]; exact hlt
        obtain ⟨a, rfl, hcell⟩ := hR.at' hkl
        cases hb : may ls[k] with
        | true =>
          go_wp2_with fail
          refine (MayV ls[k] _).mono ?_
          rintro e w' ⟨rfl, rfl⟩
          go_wp2
          go_round
          case rel => exact ⟨k + 1, by omega, by go_num, by rw [take_snoc' hkl]; intro c hc; rcases List.mem_append.1 hc with h | h; exact HA.out c h; simp at h; rw [h]; exact hb⟩
          case measure => simp [intOf]; omega
        | false =>
          have HF := Lib.hid (allMay_false (List.getElem_mem hkl) hb)
          go_wp2_with fail
          refine (MayV ls[k] _).mono ?_
          rintro e w' ⟨rfl, rfl⟩
          go_wp2
          go_ret
          exact ⟨ret_bool HF.out.symm, rfl⟩
      · have HF : Hid (allMay ls = true) := Lib.hid (allMay_true (by rw [HN.out]; omega) (by have := HA.out; rw [List.take_of_length_le (by rw [HN.out]; omega)] at this; exact this))
        go_wp2
        go_ret
        exact ⟨ret_bool HF.out.symm, rfl⟩

end Tx
end Go.Proofs.YtfnhjflocfmcoaaGreat

namespace Go.Proofs.YtfnhjflocfmcoaaGreat
open Go.RowKit
set_option linter.unusedVariables false
namespace Tx

end Tx
end Go.Proofs.YtfnhjflocfmcoaaGreat

set_option maxRecDepth 100000
namespace Go.Proofs.YtfnhjflocfmcoaaGreat
open Go.RowKit
set_option linter.unusedVariables false
namespace Sq
open Tx

set_option maxHeartbeats 400000 in
theorem Equal (A A' : Option Addr) (cap cap' n n' B : Nat) (ls ms : List (List UInt8)) (w : World) (hn : ls.length = n) (hn' : ms.length = n') (hnm : n ≤ maxLen) (hR : RdS w B A ls) (hR' : RdS w B A' ms) :
    Calls Tryz.prog 149 #[.slice A n cap, .slice A' n' cap'] w (SameEnd w (decide (ls = ms))) := by
  unfold maxLen at hnm
  have HN := Lib.hid hn; clear hn
  have HN' := Lib.hid hn'; clear hn'
  by_cases h1 : n = n'
  · subst h1
    go_enter Tryz.func149, Tryz.ntmps149
    go_wp2
    go_loopw [13] (fun i wr => ∃ k : Nat, k ≤ n ∧ i = .int .i64 k ∧ ls.take k = ms.take k ∧ ∃ d, wr = w.drewN d) (fun i _ => n - (intOf i).toNat)
    case atStart => exact ⟨0, Nat.zero_le _, rfl, by simp, 0, rfl⟩
    case round =>
      obtain ⟨k, hk, rfl, hall, d, rfl⟩ := hrel
      have HA := Lib.hid hall; clear hall
      by_cases hlt : k < n
      · have hkl : k < ls.length := by rw [HN.out]; exact hlt
        have hkm : k < ms.length := by rw [HN'.out]; exact hlt
        obtain ⟨a, rfl, hcell⟩ := hR.at' hkl
        obtain ⟨a', rfl, hcell'⟩ := hR'.at' hkm
        have HD := Lib.hid (same_step hkl hkm HA.out)
        have hki : (k : Int) < (n : Int) := by omega
        go_wp2
        go_quiet (fail)
        go_wp2
        · have hb : (!ls[k] == ms[k]) = true := by assumption
          go_ret
          exact ⟨ret_bool (HD.out.1 (by simpa using hb)).symm, d + nq, by simp⟩
        · have hb : (!ls[k] == ms[k]) = false := by assumption
          refine ⟨⟨k + 1, by omega, by go_num, HD.out.2 (by simpa using hb), _, rfl⟩, by simp [intOf]; omega⟩
      · have HD : Hid (decide (ls = ms) = true) := Lib.hid (by
          have := HA.out
          rw [List.take_of_length_le (by rw [HN.out]; omega), List.take_of_length_le (by rw [HN'.out]; omega)] at this
          exact decide_eq_true this)
        go_wp2
        go_ret
        exact ⟨ret_bool HD.out.symm, _, rfl⟩
  · have HD : Hid (decide (ls = ms) = false) := Lib.hid (decide_eq_false (fun e => h1 (by rw [← HN.out, ← HN'.out, e])))
    have hne : ((n : Int) != (n' : Int)) = true := by rw [bne_iff_ne]; omega
    go_enter Tryz.func149, Tryz.ntmps149
    go_wp2
    go_ret
    exact ⟨ret_bool HD.out.symm, 0, rfl⟩

set_option maxHeartbeats 400000 in
theorem Has (A A' : Option Addr) (cap cap' n n' B : Nat) (i : Int) (ls ms : List (List UInt8)) (w : World) (hn : ls.length = n) (hn' : ms.length = n') (hc : n ≤ cap) (hnm : n ≤ maxLen) (hnm' : n' ≤ maxLen) (hR : RdS w B A ls) (hR' : RdS w B A' ms) :
    Calls Tryz.prog 145 #[.slice A n cap, .int .i64 i, .slice A' n' cap'] w (SameEnd w (has ls i ms)) := by
  have hnm0 := hnm
  unfold maxLen at hnm hnm'
  have HM := Lib.hid hnm0; clear hnm0
  have HN := Lib.hid hn; clear hn
  have HN' := Lib.hid hn'; clear hn'
  by_cases h1 : i < 0
  · have HF : Hid (has ls i ms = false) := Lib.hid (has_false (.inl h1))
    go_enter Tryz.func145, Tryz.ntmps145
    go_wp2
    go_ret
    exact ⟨ret_bool HF.out.symm, 0, rfl⟩
  by_cases h2 : (n : Int) < i
  · have HF : Hid (has ls i ms = false) := Lib.hid (has_false (.inr (.inl (by rw [HN.out]; exact h2))))
    go_enter Tryz.func145, Tryz.ntmps145
    go_wp2
    go_ret
    exact ⟨ret_bool HF.out.symm, 0, rfl⟩
  obtain ⟨k, rfl⟩ : ∃ k : Nat, i = k := ⟨i.toNat, by omega⟩
  by_cases h3 : (n : Int) - k < n'
  · have HF : Hid (has ls k ms = false) := Lib.hid (has_false (.inr (.inr (by rw [HN.out, HN'.out]; omega))))
    go_enter Tryz.func145, Tryz.ntmps145
    go_wp2
    go_ret
    exact ⟨ret_bool HF.out.symm, 0, rfl⟩
  have HF : Hid (has ls k ms = decide ((ls.drop k).take n' = ms)) := Lib.hid (by rw [has_at (by rw [HN.out, HN'.out]; omega), HN'.out])
  go_enter Tryz.func145, Tryz.ntmps145
  have HL : Hid (((ls.drop k).take n').length = n') := Lib.hid (by rw [List.length_take, List.length_drop, HN.out]; omega)
  have hD : RdS w B (if cap = k then A else A.map (·.add k)) ((ls.drop k).take n') := by
    have := (Rd.drop hR (k := k) (cap := cap) (by rw [List.length_map, HN.out]; exact hc)).take n'
    unfold RdS; rw [List.map_take, List.map_drop]; exact this
  have hm' : n' ≤ maxLen := by unfold maxLen; omega
  by_cases hck : cap = k
  · rw [if_pos hck] at hD
    go_wp2_with fail
    refine (Equal _ _ _ _ n' n' B _ ms _ HL.out HN'.out hm' hD hR').mono ?_
    rintro e w' ⟨rfl, d, rfl⟩
    go_wp2
    go_ret
    exact ⟨ret_bool HF.out.symm, _, rfl⟩
  · rw [if_neg hck] at hD
    go_wp2_with fail
    refine (Equal _ _ _ _ n' n' B _ ms _ HL.out HN'.out hm' hD hR').mono ?_
    rintro e w' ⟨rfl, d, rfl⟩
    go_wp2
    go_ret
    exact ⟨ret_bool HF.out.symm, _, rfl⟩

end Sq
end Go.Proofs.YtfnhjflocfmcoaaGreat

namespace Go.Proofs.YtfnhjflocfmcoaaGreat
open Go.RowKit
set_option linter.unusedVariables false
namespace Sq
open Tx

end Sq
end Go.Proofs.YtfnhjflocfmcoaaGreat

namespace Go.Proofs.YtfnhjflocfmcoaaGreat
open Go.RowKit
set_option linter.unusedVariables false
namespace Sq
open Tx

end Sq
end Go.Proofs.YtfnhjflocfmcoaaGreat

namespace Go.Proofs.YtfnhjflocfmcoaaGreat
open Go.RowKit
set_option linter.unusedVariables false
namespace Sq
open Tx

/-- How Clone ends. -/
def CloneEnd (w : World) (ls : List (List UInt8)) (n : Nat) (e : Ending) (w' : World) : Prop :=
  ∃ v, e = .returned v ∧ App w' w.heap.size 9 v n (ls.map strV) ∧ Below w.heap.size w w'

set_option maxHeartbeats 400000 in
theorem CloneW (A : Option Addr) (cap n B : Nat) (ls : List (List UInt8)) (w : World) (hn : ls.length = n) (hnm : n ≤ 8796093022208) (hB : B ≤ w.heap.size) (hR : RdS w B A ls) :
    Calls Tryz.prog 146 #[.slice A n cap] w (CloneEnd w ls n) := by
  obtain ⟨j0, hj, hy0, hy1, hy2⟩ := info_parts info_str
  have q := fun (w : World) (a : Option Addr) (n c n' c' : Nat) => Lib.run_eql_slice_nil (P := Tryz.prog) w 179 9 a n c n' c' Tryz.underlying179
  have HN := Lib.hid hn; clear hn
  cases A with
  | none =>
    have hnil := hR.none_nil
    have hl0 : ls = [] := by simpa using hnil
    have hn0 : n = 0 := by rw [← HN.out, hl0]; rfl
    subst hl0
    subst hn0
    go_enter Tryz.func146, Tryz.ntmps146
    go_wp2
    go_ret
    exact ⟨_, rfl, app_nil _ _ _, Below.refl _ _⟩
  | some a =>
    go_enter Tryz.func146, Tryz.ntmps146
    go_wp2_with (at_builtin; refine wpList_app rfl (.tmp 5) (.tmp 6) 179 rfl w.heap.size 9 j0 (.string ⟨#[]⟩) 16 Tryz.underlying179 hj hy0 hy1 hy2 rfl (.slice (some ⟨w.heap.size, 0, none⟩) 0 0) 0 [] rfl ⟨_, 0, rfl, Nat.le_refl _, rfl, .inl rfl, .inl rfl⟩ B (some a) n cap (ls.map strV) rfl (by rw [List.length_map]; exact HN.out) (hR.below ((Below.refl _ _).alloc hB _)) (strs_one _) (by unfold maxLen; omega) (by omega) (by simp) ?_; intro v' w' hA hBl; simp only [Nat.zero_add, List.nil_append] at hA)
    go_ret
    exact ⟨_, rfl, hA, ((Below.refl _ _).alloc (Nat.le_refl _) _).trans hBl⟩

/-- How a Swap ends that is one: the list, and true. -/
def SwapEnd (w : World) (xs : List (List UInt8)) (e : Ending) (w' : World) : Prop :=
  ∃ v, e = .returned (.tuple #[v, .bool true]) ∧ App w' w.heap.size 9 v xs.length (xs.map strV) ∧ Below w.heap.size w w'
/-- How a Swap ends that is none. -/
def NoneEnd (w : World) (e : Ending) (w' : World) : Prop := e = .returned (.tuple #[.slice none 0 0, .bool false]) ∧ ∃ d, w' = w.drewN d

set_option maxHeartbeats 400000 in
theorem swap_no (A A' A2 : Option Addr) (cap cap' cap2 n n' n2 B : Nat) (i : Int) (ls ms : List (List UInt8)) (w : World) (hn : ls.length = n) (hn' : ms.length = n') (hc : n ≤ cap) (hnm : n ≤ maxLen) (hnm' : n' ≤ maxLen) (hR : RdS w B A ls) (hR' : RdS w B A' ms) (hh : has ls i ms = false) :
    Calls Tryz.prog 142 #[.slice A n cap, .int .i64 i, .slice A' n' cap', .slice A2 n2 cap2] w (NoneEnd w) := by
  have HN := Lib.hid hn; clear hn
  have HN' := Lib.hid hn'; clear hn'
  have HH := Lib.hid hh; clear hh
  go_enter Tryz.func142, Tryz.ntmps142
  go_wp2_with fail
  refine (Has A A' cap cap' n n' B i ls ms w HN.out HN'.out hc hnm hnm' hR hR').mono ?_
  rw [HH.out]
  rintro e w' ⟨rfl, d, rfl⟩
  go_wp2
  go_ret2
  exact ⟨rfl, _, rfl⟩

set_option maxHeartbeats 1000000 in
theorem swap_yesW (A A' A2 : Option Addr) (cap cap' cap2 n n' n2 B k : Nat) (ls ms ns : List (List UInt8)) (w : World) (hn : ls.length = n) (hn' : ms.length = n') (hn2 : ns.length = n2) (hc : n ≤ cap) (hnm2 : n + n2 ≤ 8796093022208) (hB : B ≤ w.heap.size)
    (hR : RdS w B A ls) (hR' : RdS w B A' ms) (hR2 : RdS w B A2 ns) (hh : has ls k ms = true) :
    Calls Tryz.prog 142 #[.slice A n cap, .int .i64 k, .slice A' n' cap', .slice A2 n2 cap2] w (SwapEnd w (swp ls k n' ns)) := by
  obtain ⟨j0, hj, hy0, hy1, hy2⟩ := info_parts info_str
  have hkn := (has_len hh).2
  rw [Int.toNat_natCast, hn, hn'] at hkn
  have HN := Lib.hid hn; clear hn
  have HN' := Lib.hid hn'; clear hn'
  have HN2 := Lib.hid hn2; clear hn2
  have HH := Lib.hid hh; clear hh
  have hm1 : n ≤ maxLen := by unfold maxLen; omega
  have hm2 : n' ≤ maxLen := by unfold maxLen; omega
  go_enter Tryz.func142, Tryz.ntmps142
  go_wp2_with fail
  refine (Has A A' cap cap' n n' B k ls ms w HN.out HN'.out hc hm1 hm2 hR hR').mono ?_
  rw [HH.out]
  rintro e w' ⟨rfl, d, rfl⟩
  go_wp2_with fail
  refine (CloneW A cap n B ls _ HN.out (by omega) (by simpa using hB) (hR.drewN _)).mono ?_
  rintro e w1 ⟨v1, rfl, ⟨A1, c1, rfl, hc1, _, hR1, _⟩, hB1⟩
  have hB0 : Below w.heap.size w w1 := (below_drewN (Below.refl _ w) d).trans hB1
  clear hB1
  go_wp2_with fail
  have HL1 : Hid (((ls.map strV).take k).length = k) := Lib.hid (by rw [List.length_take, List.length_map, HN.out]; omega)
  have HL2 : Hid ((ns.map strV).length = n2) := Lib.hid (by rw [List.length_map]; exact HN2.out)
  have HL3 : Hid (((ls.map strV).drop (k + n')).length = n - (k + n')) := Lib.hid (by rw [List.length_drop, List.length_map, HN.out])
  have HL4 : Hid (∀ u ∈ (ls.map strV).drop (k + n'), u.oneCell' = true) := Lib.hid (fun u hu => strs_one ls u (List.mem_of_mem_drop hu))
  have HL5 : Hid ((swp ls k n' ns).length = k + n2 + (n - (k + n'))) := Lib.hid (by simp only [swp, List.length_append, List.length_take, List.length_drop, HN.out, HN2.out]; omega)
  have HL6 : Hid ((swp ls k n' ns).map strV = (ls.map strV).take k ++ ns.map strV ++ (ls.map strV).drop (k + n')) := Lib.hid (by simp [swp])
  have hT := Rd.drop hR1 (k := k + n') (cap := c1) (by rw [List.length_map, HN.out]; exact hc1)
  by_cases hck : c1 = k + n'
  · rw [if_pos hck] at hT
    go_quiet (fail)
    go_wp2_with (first
      | (at_builtin; refine wpList_app rfl (.tmp 30) (.tmp 31) 179 rfl w1.heap.size 9 j0 (.string ⟨#[]⟩) 16 Tryz.underlying179 hj hy0 hy1 hy2 rfl (.slice A1 k k) k ((ls.map strV).take k) rfl ⟨A1, k, rfl, Nat.le_refl _, HL1.out, (hR1.take k).drewN _, .inl rfl⟩ B A2 n2 cap2 (ns.map strV) rfl HL2.out ((hR2.below (hB0.mono hB)).drewN _) (strs_one _) (by unfold maxLen; omega) (by omega) (Nat.le_refl _) ?_; intro v3 w3 hA3 hB3; have hT3 := (hT.drewN nq).below hB3)
      | (at_builtin; refine wpList_app rfl (.tmp 32) (.tmp 33) 179 rfl w1.heap.size 9 j0 (.string ⟨#[]⟩) 16 Tryz.underlying179 hj hy0 hy1 hy2 rfl v3 (k + n2) _ rfl hA3 w1.heap.size _ (n - (k + n')) _ ((ls.map strV).drop (k + n')) rfl HL3.out hT3 HL4.out (by unfold maxLen; omega) (by omega) hB3.size ?_; intro v4 w4 hA4 hB4))
    go_ret2
    refine ⟨_, rfl, ?_, hB0.trans ((below_drewN (Below.refl _ w1) nq).trans (hB3.trans hB4) |>.mono hB0.size)⟩
    rw [HL5.out, HL6.out]
    exact app_mono hA4 hB0.size
  · rw [if_neg hck] at hT
    go_quiet (fail)
    go_wp2_with (first
      | (at_builtin; refine wpList_app rfl (.tmp 30) (.tmp 31) 179 rfl w1.heap.size 9 j0 (.string ⟨#[]⟩) 16 Tryz.underlying179 hj hy0 hy1 hy2 rfl (.slice A1 k k) k ((ls.map strV).take k) rfl ⟨A1, k, rfl, Nat.le_refl _, HL1.out, (hR1.take k).drewN _, .inl rfl⟩ B A2 n2 cap2 (ns.map strV) rfl HL2.out ((hR2.below (hB0.mono hB)).drewN _) (strs_one _) (by unfold maxLen; omega) (by omega) (Nat.le_refl _) ?_; intro v3 w3 hA3 hB3; have hT3 := (hT.drewN nq).below hB3)
      | (at_builtin; refine wpList_app rfl (.tmp 32) (.tmp 33) 179 rfl w1.heap.size 9 j0 (.string ⟨#[]⟩) 16 Tryz.underlying179 hj hy0 hy1 hy2 rfl v3 (k + n2) _ rfl hA3 w1.heap.size _ (n - (k + n')) _ ((ls.map strV).drop (k + n')) rfl HL3.out hT3 HL4.out (by unfold maxLen; omega) (by omega) hB3.size ?_; intro v4 w4 hA4 hB4))
    go_ret2
    refine ⟨_, rfl, ?_, hB0.trans ((below_drewN (Below.refl _ w1) nq).trans (hB3.trans hB4) |>.mono hB0.size)⟩
    rw [HL5.out, HL6.out]
    exact app_mono hA4 hB0.size

end Sq
end Go.Proofs.YtfnhjflocfmcoaaGreat

namespace Go.Proofs.YtfnhjflocfmcoaaGreat
open Go.RowKit
set_option linter.unusedVariables false
namespace Sq
open Tx

theorem Swap_no (A A' A2 : Option Addr) (cap cap' cap2 n n' n2 B : Nat) (i : Int) (ls ms : List (List UInt8)) (w : World) (hn : ls.length = n) (hn' : ms.length = n') (hc : n ≤ cap) (hnm : n ≤ maxLen) (hnm' : n' ≤ maxLen) (hR : RdS w B A ls) (hR' : RdS w B A' ms) (hh : has ls i ms = false) :
    Calls Tryz.prog 129 #[.slice A n cap, .int .i64 i, .slice A' n' cap', .slice A2 n2 cap2] w (NoneEnd w) := by
  have H := Lib.hid (swap_no A A' A2 cap cap' cap2 n n' n2 B i ls ms w hn hn' hc hnm hnm' hR hR' hh)
  clear hn hn' hh
  go_enter Tryz.func129, Tryz.ntmps129
  go_wp2_with fail
  refine H.out.mono ?_
  rintro e w' ⟨rfl, d, rfl⟩
  go_wp2
  go_ret2
  exact ⟨rfl, _, rfl⟩

theorem Swap_yesW (A A' A2 : Option Addr) (cap cap' cap2 n n' n2 B k : Nat) (ls ms ns : List (List UInt8)) (w : World) (hn : ls.length = n) (hn' : ms.length = n') (hn2 : ns.length = n2) (hc : n ≤ cap) (hnm2 : n + n2 ≤ 8796093022208) (hB : B ≤ w.heap.size)
    (hR : RdS w B A ls) (hR' : RdS w B A' ms) (hR2 : RdS w B A2 ns) (hh : has ls k ms = true) :
    Calls Tryz.prog 129 #[.slice A n cap, .int .i64 k, .slice A' n' cap', .slice A2 n2 cap2] w (SwapEnd w (swp ls k n' ns)) := by
  have H := Lib.hid (swap_yesW A A' A2 cap cap' cap2 n n' n2 B k ls ms ns w hn hn' hn2 hc hnm2 hB hR hR' hR2 hh)
  clear hn hn' hn2 hh
  go_enter Tryz.func129, Tryz.ntmps129
  go_wp2_with fail
  refine H.out.mono ?_
  rintro e w' ⟨v, rfl, hA, hb⟩
  go_wp2
  go_ret2
  exact ⟨v, rfl, hA, hb⟩

end Sq
end Go.Proofs.YtfnhjflocfmcoaaGreat

namespace Go.Proofs.YtfnhjflocfmcoaaGreat
open Go.RowKit
set_option linter.unusedVariables false
namespace Sq
open Tx

end Sq
end Go.Proofs.YtfnhjflocfmcoaaGreat

set_option maxRecDepth 100000
namespace Go.Proofs.YtfnhjflocfmcoaaGreat
open Go.RowKit
set_option linter.unusedVariables false
namespace Hk
open Tx Df

abbrev HU : Type := Hu (List UInt8)

/-- The value of a hunk. -/
abbrev hkV (p : Int) (A : Option Addr) (n c : Nat) (A' : Option Addr) (n' c' : Nat) : Value := .agg #[.int .i64 p, .slice A n c, .slice A' n' c']

/-- Two slice values that read, below block B, as a hunk's lines. -/
structure HV (w : World) (B : Nat) (A : Option Addr) (n c : Nat) (A' : Option Addr) (n' c' : Nat) (h : HU) : Prop where
  l : h.old.length = n
  l' : h.new.length = n'
  k : n ≤ c
  k' : n' ≤ c'
  m : n ≤ maxLen
  m' : n' ≤ maxLen
  r : RdS w B A h.old
  r' : RdS w B A' h.new
  p : I64 h.pos

/-- The cells of a hunk at the address a, its lines below block B. -/
structure HkAt (w : World) (B : Nat) (a : Addr) (k : Nat) (h : HU) : Prop where
  c0 : w.cell? (a.add (k * 3)) = some (.int .i64 h.pos)
  c1 : ∃ A c A' c', w.cell? ⟨(a.add (k * 3)).block, (a.add (k * 3)).off + 1, none⟩ = some (.slice A h.old.length c) ∧ w.cell? ⟨(a.add (k * 3)).block, (a.add (k * 3)).off + 2, none⟩ = some (.slice A' h.new.length c') ∧ HV w B A h.old.length c A' h.new.length c' h

/-- The address A leads, below block B, to hunks; or there are none. -/
def RdH (w : World) (B : Nat) (A : Option Addr) (hs : List HU) : Prop :=
  hs = [] ∨ ∃ a, A = some a ∧ a.block < B ∧ ∀ (k : Nat) x, hs[k]? = some x → HkAt w B a k x

section
variable {w w' : World} {B B' : Nat} {A A' : Option Addr} {n c n' c' : Nat} {h : HU} {hs : List HU}
theorem HV.below (v : HV w B A n c A' n' c' h) (hb : Below B w w') : HV w' B A n c A' n' c' h := ⟨v.l, v.l', v.k, v.k', v.m, v.m', Rd.below v.r hb, Rd.below v.r' hb, v.p⟩
theorem HV.up (v : HV w B A n c A' n' c' h) (hB : B ≤ B') : HV w B' A n c A' n' c' h := ⟨v.l, v.l', v.k, v.k', v.m, v.m', Rd.up v.r hB, Rd.up v.r' hB, v.p⟩
theorem HV.drewN (v : HV w B A n c A' n' c' h) (d : Nat) : HV (w.drewN d) B A n c A' n' c' h := ⟨v.l, v.l', v.k, v.k', v.m, v.m', Rd.drewN v.r d, Rd.drewN v.r' d, v.p⟩
theorem HV.turn (v : HV w B A n c A' n' c' h) : HV w B A' n' c' A n c (turn h) := ⟨v.l', v.l, v.k', v.k, v.m', v.m, v.r', v.r, v.p⟩
theorem HkAt.below {a : Addr} {k : Nat} (x : HkAt w B a k h) (ha : a.block < B) (hb : Below B w w') : HkAt w' B a k h := by
  obtain ⟨c0, A, c, A', c', c1, c2, v⟩ := x
  exact ⟨(hb.cell (by rw [add_block]; exact ha)).trans c0, A, c, A', c', (hb.cell (by show (a.add (k * 3)).block < B; rw [add_block]; exact ha)).trans c1, (hb.cell (by show (a.add (k * 3)).block < B; rw [add_block]; exact ha)).trans c2, v.below hb⟩
theorem HkAt.up {a : Addr} {k : Nat} (x : HkAt w B a k h) (hB : B ≤ B') : HkAt w B' a k h := by
  obtain ⟨c0, A, c, A', c', c1, c2, v⟩ := x
  exact ⟨c0, A, c, A', c', c1, c2, v.up hB⟩
theorem RdH.below (h : RdH w B A hs) (hb : Below B w w') : RdH w' B A hs := by
  rcases h with h | ⟨a, e, hlt, hc⟩
  · exact .inl h
  · exact .inr ⟨a, e, hlt, fun k x hx => (hc k x hx).below hlt hb⟩
theorem RdH.up (h : RdH w B A hs) (hB : B ≤ B') : RdH w B' A hs := by
  rcases h with h | ⟨a, e, hlt, hc⟩
  · exact .inl h
  · exact .inr ⟨a, e, by omega, fun k x hx => (hc k x hx).up hB⟩
theorem RdH.at_ (h : RdH w B A hs) {k : Nat} (hk : k < hs.length) : ∃ a, A = some a ∧ a.block < B ∧ HkAt w B a k hs[k] := by
  rcases h with rfl | ⟨a, e, hlt, hc⟩
  · exact absurd hk (by simp)
  · exact ⟨a, e, hlt, hc k _ (List.getElem?_eq_getElem hk)⟩
end

def mayH (h : HU) : Bool := decide (0 ≤ h.pos) && decide (h.pos ≤ 1048576) && (allMay h.old && allMay h.new)
def sameH (g h : HU) : Bool := decide (g.pos = h.pos) && (decide (g.old = h.old) && decide (g.new = h.new))

theorem below_box {w w' : World} (o : Obj) (h : Below (w.alloc o).heap.size (w.alloc o) w') : Below w.heap.size w w' := ((Below.refl _ _).alloc (Nat.le_refl _) o).trans (h.mono (by simp))

end Hk
end Go.Proofs.YtfnhjflocfmcoaaGreat

namespace Go.Proofs.YtfnhjflocfmcoaaGreat
open Go.ChangeShapes Go.WideShapes Go.ChangeAt Go.RowKit Go.Deep Go.Joins
set_option linter.unusedVariables false
namespace Hk
open Tx Df

section
variable {H : Type} {enc : TypeId × Value → H} {W : World} {base : Nat} {spare : Nat → Bool} {held : Bool}

end

end Hk
end Go.Proofs.YtfnhjflocfmcoaaGreat

namespace Go.Proofs.YtfnhjflocfmcoaaGreat
open Go.RowKit
set_option linter.unusedVariables false
namespace Hk
open Tx Df

set_option maxHeartbeats 400000 in
theorem Equal (A A' : Option Addr) (cap cap' n n' B : Nat) (ls ms : List (List UInt8)) (w : World) (hn : ls.length = n) (hn' : ms.length = n') (hnm : n ≤ maxLen) (hR : RdS w B A ls) (hR' : RdS w B A' ms) :
    Calls Tryz.prog 107 #[.slice A n cap, .slice A' n' cap'] w (SameEnd w (decide (ls = ms))) := by
  unfold maxLen at hnm
  have HN := Lib.hid hn; clear hn
  have HN' := Lib.hid hn'; clear hn'
  by_cases h1 : n = n'
  · subst h1
    go_enter Tryz.func107, Tryz.ntmps107
    go_wp2
    go_loopw [13] (fun i wr => ∃ k : Nat, k ≤ n ∧ i = .int .i64 k ∧ ls.take k = ms.take k ∧ ∃ d, wr = w.drewN d) (fun i _ => n - (intOf i).toNat)
    case atStart => exact ⟨0, Nat.zero_le _, rfl, by simp, 0, rfl⟩
    case round =>
      obtain ⟨k, hk, rfl, hall, d, rfl⟩ := hrel
      have HA := Lib.hid hall; clear hall
      by_cases hlt : k < n
      · have hkl : k < ls.length := by rw [HN.out]; exact hlt
        have hkm : k < ms.length := by rw [HN'.out]; exact hlt
        obtain ⟨a, rfl, hcell⟩ := hR.at' hkl
        obtain ⟨a', rfl, hcell'⟩ := hR'.at' hkm
        have HD := Lib.hid (same_step hkl hkm HA.out)
        have hki : (k : Int) < (n : Int) := by omega
        go_wp2
        go_quiet (fail)
        go_wp2
        · have hb : (!ls[k] == ms[k]) = true := by assumption
          go_ret
          exact ⟨ret_bool (HD.out.1 (by simpa using hb)).symm, d + nq, by simp⟩
        · have hb : (!ls[k] == ms[k]) = false := by assumption
          refine ⟨⟨k + 1, by omega, by go_num, HD.out.2 (by simpa using hb), _, rfl⟩, by simp [intOf]; omega⟩
      · have HD : Hid (decide (ls = ms) = true) := Lib.hid (by
          have := HA.out
          rw [List.take_of_length_le (by rw [HN.out]; omega), List.take_of_length_le (by rw [HN'.out]; omega)] at this
          exact decide_eq_true this)
        go_wp2
        go_ret
        exact ⟨ret_bool HD.out.symm, _, rfl⟩
  · have HD : Hid (decide (ls = ms) = false) := Lib.hid (decide_eq_false (fun e => h1 (by rw [← HN.out, ← HN'.out, e])))
    have hne : ((n : Int) != (n' : Int)) = true := by rw [bne_iff_ne]; omega
    go_enter Tryz.func107, Tryz.ntmps107
    go_wp2
    go_ret
    exact ⟨ret_bool HD.out.symm, 0, rfl⟩

/-- How a test of hunks ends. -/
def TestEnd (w : World) (b : Bool) (e : Ending) (w' : World) : Prop := e = .returned (.bool b) ∧ Below w.heap.size w w'

theorem rd_alloc {w : World} {B : Nat} {A : Option Addr} {xs : List Value} (h : Rd w B A xs) (hB : B ≤ w.heap.size) (o : Obj) : Rd (w.alloc o) B A xs := h.below ((Below.refl _ _).alloc hB o)

set_option maxHeartbeats 400000 in
theorem LightH (A : Option Addr) (n c : Nat) (A' : Option Addr) (n' c' B : Nat) (h : HU) (w : World) (hB : B ≤ w.heap.size) (hv : HV w B A n c A' n' c' h) :
    Calls Tryz.prog 59 #[hkV h.pos A n c A' n' c'] w (TestEnd w (light h.old 300 && light h.new 300)) := by
  obtain ⟨l, l', k, k', m, m', r, r', p⟩ := hv
  have HL := Lib.hid l; have HL' := Lib.hid l'; clear l l'
  obtain ⟨b, hb⟩ : ∃ b, (light h.old 300 && light h.new 300) = b := ⟨_, rfl⟩
  rw [hb]
  have HB := Lib.hid hb; clear hb
  go_enter Tryz.func59, Tryz.ntmps59
  go_wp2_with fail
  refine (Light _ _ _ B 300 h.old _ HL.out m (rd_alloc r hB _) (by decide)).mono ?_
  rintro e w' ⟨rfl, rfl⟩
  go_wp2_with fail
  refine (Light _ _ _ B 300 h.new _ HL'.out m' (rd_alloc r' hB _) (by decide)).mono ?_
  rintro e w' ⟨rfl, rfl⟩
  cases ho : light h.old 300 with
  | true =>
    have HO := Lib.hid ho; clear ho
    go_wp2
    go_ret
    exact ⟨ret_bool (by rw [← HB.out, HO.out]; simp), (Below.refl _ _).alloc (Nat.le_refl _) _⟩
  | false =>
    have HO := Lib.hid ho; clear ho
    go_wp2
    go_ret
    exact ⟨ret_bool (by rw [← HB.out, HO.out]; simp), (Below.refl _ _).alloc (Nat.le_refl _) _⟩

set_option maxHeartbeats 400000 in
theorem May (A : Option Addr) (n c : Nat) (A' : Option Addr) (n' c' B : Nat) (h : HU) (w : World) (hB : B ≤ w.heap.size) (hv : HV w B A n c A' n' c' h) :
    Calls Tryz.prog 109 #[hkV h.pos A n c A' n' c'] w (TestEnd w (mayH h)) := by
  obtain ⟨l, l', k, k', m, m', r, r', p⟩ := hv
  have HL := Lib.hid l; have HL' := Lib.hid l'; clear l l'
  have HM : Hid (mayH h = (decide (0 ≤ h.pos) && decide (h.pos ≤ 1048576) && (allMay h.old && allMay h.new))) := Lib.hid rfl
  have HP := Lib.hid p; clear p
  generalize mayH h = mh at *
  generalize h.pos = q at *
  by_cases h0 : 0 ≤ q
  · by_cases h1 : q ≤ 1048576
    · have HM1 : Hid (mh = (allMay h.old && allMay h.new)) := Lib.hid (by rw [HM.out, decide_eq_true h0, decide_eq_true h1]; rfl)
      clear HM
      cases ho : allMay h.old with
      | true =>
        have HO := Lib.hid ho; clear ho
        go_enter Tryz.func109, Tryz.ntmps109
        go_wp2_with fail
        refine (All _ _ _ B h.old _ HL.out (rd_alloc r hB _)).mono ?_
        rw [HO.out]
        rintro e w' ⟨rfl, rfl⟩
        go_wp2_with fail
        refine (All _ _ _ B h.new _ HL'.out (rd_alloc r' hB _)).mono ?_
        rintro e w' ⟨rfl, rfl⟩
        go_wp2
        go_ret
        exact ⟨ret_bool (by rw [HM1.out, HO.out]; simp), (Below.refl _ _).alloc (Nat.le_refl _) _⟩
      | false =>
        have HO := Lib.hid ho; clear ho
        go_enter Tryz.func109, Tryz.ntmps109
        go_wp2_with fail
        refine (All _ _ _ B h.old _ HL.out (rd_alloc r hB _)).mono ?_
        rw [HO.out]
        rintro e w' ⟨rfl, rfl⟩
        go_wp2
        go_ret
        exact ⟨ret_bool (by rw [HM1.out, HO.out]; simp), (Below.refl _ _).alloc (Nat.le_refl _) _⟩
    · have HM1 : Hid (mh = false) := Lib.hid (by rw [HM.out, decide_eq_false h1]; simp)
      clear HM
      go_enter Tryz.func109, Tryz.ntmps109
      go_wp2
      go_ret
      exact ⟨ret_bool (by rw [HM1.out]), (Below.refl _ _).alloc (Nat.le_refl _) _⟩
  · have HM1 : Hid (mh = false) := Lib.hid (by rw [HM.out, decide_eq_false h0]; simp)
    clear HM
    go_enter Tryz.func109, Tryz.ntmps109
    go_wp2
    go_ret
    exact ⟨ret_bool (by rw [HM1.out]), (Below.refl _ _).alloc (Nat.le_refl _) _⟩

/-- Two boxes. -/
theorem below_two (w : World) (o o' : Obj) (d : Nat) : Below w.heap.size w (((w.alloc o).alloc o').drewN d) := below_drewN (((Below.refl _ _).alloc (Nat.le_refl _) o).alloc (by simp) o') d
theorem rd_two {w : World} {B : Nat} {A : Option Addr} {xs : List Value} (h : Rd w B A xs) (hB : B ≤ w.heap.size) (o o' : Obj) (d : Nat) : Rd (((w.alloc o).alloc o').drewN d) B A xs := h.below ((below_two w o o' d).mono hB)

set_option maxHeartbeats 1000000 in
theorem SameH (A : Option Addr) (n c : Nat) (A' : Option Addr) (n' c' : Nat) (D : Option Addr) (m k : Nat) (D' : Option Addr) (m' k' B : Nat) (h g : HU) (w : World) (hB : B ≤ w.heap.size) (hv : HV w B A n c A' n' c' h) (gv : HV w B D m k D' m' k' g) :
    Calls Tryz.prog 136 #[hkV h.pos A n c A' n' c', hkV g.pos D m k D' m' k'] w (TestEnd w (sameH h g)) := by
  have HL := Lib.hid hv.l; have HL' := Lib.hid hv.l'; have GL := Lib.hid gv.l; have GL' := Lib.hid gv.l'
  have hm := hv.m; have hm' := hv.m'
  have R := Lib.hid hv.r; have R' := Lib.hid hv.r'; have Q := Lib.hid gv.r; have Q' := Lib.hid gv.r'
  clear hv gv
  obtain ⟨b, hb⟩ : ∃ b, sameH h g = b := ⟨_, rfl⟩
  rw [hb]
  have HS : Hid (b = (decide (h.pos = g.pos) && (decide (h.old = g.old) && decide (h.new = g.new)))) := Lib.hid (by rw [← hb]; rfl)
  clear hb
  generalize h.pos = p at *
  generalize g.pos = q at *
  by_cases hp : p = q
  · subst hp
    have HS1 : Hid (b = (decide (h.old = g.old) && decide (h.new = g.new))) := Lib.hid (by rw [HS.out, decide_eq_true rfl]; rfl)
    clear HS
    go_enter Tryz.func136, Tryz.ntmps136
    go_wp2_with fail
    refine (Equal _ _ _ _ _ _ B h.old g.old _ HL.out GL.out hm (rd_two R.out hB _ _ 0) (rd_two Q.out hB _ _ 0)).mono ?_
    rintro e w' ⟨rfl, d, rfl⟩
    cases ho : decide (h.old = g.old) with
    | true =>
      have HO := Lib.hid ho; clear ho
      go_wp2_with fail
      refine (Equal _ _ _ _ _ _ B h.new g.new _ HL'.out GL'.out hm' (rd_two R'.out hB _ _ _) (rd_two Q'.out hB _ _ _)).mono ?_
      rintro e w' ⟨rfl, d', rfl⟩
      go_wp2
      go_ret
      exact ⟨ret_bool (by rw [HS1.out, HO.out]; simp), by simpa using below_two w _ _ _⟩
    | false =>
      have HO := Lib.hid ho; clear ho
      go_wp2
      go_ret
      exact ⟨ret_bool (by rw [HS1.out, HO.out]; simp), by simpa using below_two w _ _ _⟩
  · have HS1 : Hid (b = false) := Lib.hid (by rw [HS.out, decide_eq_false hp]; rfl)
    clear HS
    have hne : (p == q) = false := by rw [beq_eq_false_iff_ne]; exact hp
    clear hp
    go_enter Tryz.func136, Tryz.ntmps136
    go_wp2
    go_ret
    exact ⟨ret_bool (by rw [HS1.out]), ((Below.refl _ _).alloc (Nat.le_refl _) _).alloc (by simp) _⟩

end Hk
end Go.Proofs.YtfnhjflocfmcoaaGreat

namespace Go.Proofs.YtfnhjflocfmcoaaGreat
open Go.RowKit
set_option linter.unusedVariables false
namespace Hk
open Tx Df Sq

/-- The error that Apply answers, and the list. -/
def applyE (l : List (List UInt8)) (h : HU) : Int := if mayH h then (if has l h.pos h.old then 0 else 5) else 1
def applyL (l : List (List UInt8)) (h : HU) : List (List UInt8) := if mayH h && has l h.pos h.old then swp l h.pos.toNat h.old.length h.new else []
theorem applyL_len {l : List (List UInt8)} {h : HU} : (applyL l h).length ≤ l.length + h.new.length := by
  unfold applyL
  split
  · simp only [swp, List.length_append, List.length_take, List.length_drop]; omega
  · simp

def ApplyEnd (w : World) (l : List (List UInt8)) (h : HU) (e : Ending) (w' : World) : Prop :=
  ∃ A k c, e = .returned (.tuple #[.slice A k c, .int .i64 (applyE l h)]) ∧ k ≤ c ∧ (applyL l h).length = k ∧ RdS w' w'.heap.size A (applyL l h) ∧ Below w.heap.size w w'

theorem applyEnd_none {w w' : World} {l : List (List UInt8)} {h : HU} {r : Int} (he : applyE l h = r) (hl : applyL l h = []) (hb : Below w.heap.size w w') : ApplyEnd w l h (.returned (.tuple #[.slice none 0 0, .int .i64 r])) w' :=
  ⟨none, 0, 0, by rw [he], Nat.le_refl _, by rw [hl]; rfl, .inl (by rw [hl]; rfl), hb⟩

theorem mayH_new {h : HU} (hm : mayH h = true) : h.new.length ≤ 200 := by
  unfold mayH allMay at hm
  simp only [Bool.and_eq_true, decide_eq_true_eq] at hm
  omega
set_option maxHeartbeats 1000000 in
theorem ApplyW (A0 : Option Addr) (n0 c0 : Nat) (A : Option Addr) (n c : Nat) (A' : Option Addr) (n' c' B : Nat) (l : List (List UInt8)) (h : HU) (w : World) (hB : B ≤ w.heap.size) (hl : l.length = n0) (hc0 : n0 ≤ c0) (h0 : n0 ≤ 8796093021952)
    (hR : RdS w B A0 l) (hv : HV w B A n c A' n' c' h) :
    Calls Tryz.prog 106 #[.slice A0 n0 c0, hkV h.pos A n c A' n' c'] w (ApplyEnd w l h) := by
  have HV0 := Lib.hid hv
  have HL := Lib.hid hv.l; have HL' := Lib.hid hv.l'; have HL0 := Lib.hid hl
  have R := Lib.hid hv.r; have R' := Lib.hid hv.r'; have R0 := Lib.hid hR
  clear hv hl hR
  obtain ⟨p, hp⟩ : ∃ p, h.pos = p := ⟨_, rfl⟩
  have HM := Lib.hid (May A n c A' n' c' B h (w.alloc (.cells #[.int .i64 h.pos, .slice A n c, .slice A' n' c'] 53)) (Nat.le_trans hB (by simp)) (HV0.out.below ((Below.refl _ w).alloc hB _)))
  rw [hp] at HM ⊢
  have HP := Lib.hid hp; clear hp
  cases hm : mayH h with
  | false =>
    rw [hm] at HM
    have HE := Lib.hid (show applyE l h = 1 by unfold applyE; rw [hm]; rfl)
    have HA := Lib.hid (show applyL l h = [] by unfold applyL; rw [hm]; rfl)
    clear hm
    go_enter Tryz.func106, Tryz.ntmps106
    go_wp2_with fail
    refine HM.out.mono ?_
    rintro e w1 ⟨rfl, hb⟩
    go_wp2
    go_ret2
    exact applyEnd_none HE.out HA.out (below_box _ hb)
  | true =>
  rw [hm] at HM
  cases hh : has l h.pos h.old with
  | false =>
    have HE := Lib.hid (show applyE l h = 5 by unfold applyE; rw [hm, hh]; rfl)
    have HA := Lib.hid (show applyL l h = [] by unfold applyL; rw [hm, hh]; rfl)
    rw [HP.out] at hh
    have HH := Lib.hid hh; clear hm hh
    go_enter Tryz.func106, Tryz.ntmps106
    go_wp2_with fail
    refine HM.out.mono ?_
    rintro e w1 ⟨rfl, hb⟩
    have b1 := (Blk.new w 53 #[.int .i64 p, .slice A n c, .slice A' n' c']).below hb (by simp)
    have x0 : w1.cell? ⟨w.heap.size, 0, none⟩ = some (.int .i64 p) := b1.cell 0 rfl
    have x1 : w1.cell? ⟨w.heap.size, 1, none⟩ = some (.slice A n c) := b1.cell 1 rfl
    have x2 : w1.cell? ⟨w.heap.size, 2, none⟩ = some (.slice A' n' c') := b1.cell 2 rfl
    have HB1 := Lib.hid (below_box _ hb)
    clear b1 hb
    go_wp2_with fail
    refine (Swap_no A0 A A' c0 c c' n0 n n' B p l h.old w1 HL0.out HL.out hc0 (by unfold maxLen; omega) HV0.out.m (Rd.below R0.out (HB1.out.mono hB)) (Rd.below R.out (HB1.out.mono hB)) HH.out).mono ?_
    rintro e w2 ⟨rfl, d, rfl⟩
    go_wp2
    go_ret2
    exact applyEnd_none HE.out HA.out (below_drewN HB1.out d)
  | true =>
    have HE := Lib.hid (show applyE l h = 0 by unfold applyE; rw [hm, hh]; rfl)
    have HA := Lib.hid (show applyL l h = swp l h.pos.toNat n h.new by unfold applyL; rw [hm, hh, HL.out]; rfl)
    rw [HP.out] at hh
    obtain ⟨k, rfl⟩ : ∃ k : Nat, p = k := ⟨p.toNat, by have := (has_len hh).1; omega⟩
    rw [HP.out, Int.toNat_natCast] at HA
    have hn2 : n' ≤ 200 := by rw [← HL'.out]; exact mayH_new hm
    have HH := Lib.hid hh; clear hm hh
    go_enter Tryz.func106, Tryz.ntmps106
    go_wp2_with fail
    refine HM.out.mono ?_
    rintro e w1 ⟨rfl, hb⟩
    have b1 := (Blk.new w 53 #[.int .i64 (k : Int), .slice A n c, .slice A' n' c']).below hb (by simp)
    have x0 : w1.cell? ⟨w.heap.size, 0, none⟩ = some (.int .i64 (k : Int)) := b1.cell 0 rfl
    have x1 : w1.cell? ⟨w.heap.size, 1, none⟩ = some (.slice A n c) := b1.cell 1 rfl
    have x2 : w1.cell? ⟨w.heap.size, 2, none⟩ = some (.slice A' n' c') := b1.cell 2 rfl
    have HB1 := Lib.hid (below_box _ hb)
    clear b1 hb
    go_wp2_with fail
    refine (Swap_yesW A0 A A' c0 c c' n0 n n' B k l h.old h.new w1 HL0.out HL.out HL'.out hc0 (by omega) (Nat.le_trans hB HB1.out.size) (Rd.below R0.out (HB1.out.mono hB)) (Rd.below R.out (HB1.out.mono hB)) (Rd.below R'.out (HB1.out.mono hB)) HH.out).mono ?_
    rintro e w2 ⟨v, rfl, hA, hb2⟩
    obtain ⟨A3, c3, rfl, hc3, _, hr3, _⟩ := hA
    go_wp2
    go_ret2
    exact ⟨A3, (swp l k n h.new).length, c3, by rw [HE.out]; rfl, hc3, by rw [HA.out], by rw [HA.out]; exact hr3, HB1.out.trans (hb2.mono HB1.out.size)⟩

end Hk
end Go.Proofs.YtfnhjflocfmcoaaGreat

namespace Go.Proofs.YtfnhjflocfmcoaaGreat
open Go.RowKit
set_option linter.unusedVariables false
namespace Hk
open Tx Df Sq

theorem applyE_cases (l : List (List UInt8)) (h : HU) : (applyE l h = 1 ∧ applyL l h = [] ∧ mayH h = false) ∨ (applyE l h = 5 ∧ applyL l h = [] ∧ mayH h = true ∧ has l h.pos h.old = false) ∨ (applyE l h = 0 ∧ applyL l h = swp l h.pos.toNat h.old.length h.new ∧ mayH h = true ∧ has l h.pos h.old = true) := by
  unfold applyE applyL
  cases mayH h <;> cases has l h.pos h.old <;> simp
theorem apply_done {l : List (List UInt8)} {h : HU} (he : applyE l h = 0) : done l h = some (applyL l h) := by
  rcases applyE_cases l h with ⟨h1, _⟩ | ⟨h1, _⟩ | ⟨_, h2, _, h4⟩
  · omega
  · omega
  · rw [done_yes h4, h2]
theorem done_apply {l m : List (List UInt8)} {h : HU} (hm : mayH h = true) (hd : done l h = some m) : applyE l h = 0 ∧ applyL l h = m := by
  obtain ⟨h1, h2⟩ := done_some hd
  unfold applyE applyL
  simp [hm, h1, h2]
end Hk
end Go.Proofs.YtfnhjflocfmcoaaGreat

namespace Go.Proofs.YtfnhjflocfmcoaaGreat
open Go.RowKit
set_option linter.unusedVariables false
namespace Hk
open Tx Df

end Hk
end Go.Proofs.YtfnhjflocfmcoaaGreat

namespace Go.Proofs.YtfnhjflocfmcoaaGreat
open Go.RowKit
set_option linter.unusedVariables false
namespace Hk
open Tx Df Sq

end Hk
end Go.Proofs.YtfnhjflocfmcoaaGreat

set_option maxRecDepth 100000
namespace Go.Proofs.YtfnhjflocfmcoaaGreat
open Go.RowKit
set_option linter.unusedVariables false
namespace Tr
open Tx

/-- The value of a file. -/
abbrev flV (s : List UInt8) (A : Option Addr) (n c : Nat) : Value := .agg #[strV s, .slice A n c]

/-- The cells of a file at the address a, its lines below block B. -/
structure FlAt (w : World) (B : Nat) (a : Addr) (k : Nat) (x : FL) : Prop where
  c0 : w.cell? (a.add (k * 2)) = some (strV x.1)
  c1 : ∃ A c, w.cell? ⟨(a.add (k * 2)).block, (a.add (k * 2)).off + 1, none⟩ = some (.slice A x.2.length c) ∧ x.2.length ≤ c ∧ RdS w B A x.2

/-- The address A leads, below block B, to files; or there are none. -/
def RdT (w : World) (B : Nat) (A : Option Addr) (t : TR) : Prop :=
  t = [] ∨ ∃ a, A = some a ∧ a.block < B ∧ ∀ (k : Nat) x, t[k]? = some x → FlAt w B a k x

/-- What is small enough for all walks. -/
structure SmallF (x : FL) : Prop where
  n : x.1.length ≤ 100000
  l : x.2.length ≤ 100000
  s : ∀ l ∈ x.2, l.length ≤ 100000
structure Small (t : TR) : Prop where
  len : t.length ≤ 100000
  all : ∀ x ∈ t, SmallF x

/-- What the walks of the program's own functions need: what fits a memory. -/
structure Wide (t : TR) : Prop where
  len : t.length ≤ 3518437208800
  all : ∀ x ∈ t, x.2.length ≤ 8796093021952
theorem Small.wide {t : TR} (h : Small t) : Wide t := ⟨by have := h.len; omega, fun x hx => by have := (h.all x hx).l; omega⟩
section
variable {w w' : World} {B B' : Nat} {A : Option Addr} {t : TR} {x : FL}
theorem FlAt.below {a : Addr} {k : Nat} (h : FlAt w B a k x) (ha : a.block < B) (hb : Below B w w') : FlAt w' B a k x := by
  obtain ⟨c0, A, c, c1, c2, c3⟩ := h
  exact ⟨(hb.cell (by rw [add_block]; exact ha)).trans c0, A, c, (hb.cell (by show (a.add (k * 2)).block < B; rw [add_block]; exact ha)).trans c1, c2, Rd.below c3 hb⟩
theorem FlAt.up {a : Addr} {k : Nat} (h : FlAt w B a k x) (hB : B ≤ B') : FlAt w B' a k x := by
  obtain ⟨c0, A, c, c1, c2, c3⟩ := h
  exact ⟨c0, A, c, c1, c2, Rd.up c3 hB⟩
theorem RdT.below (h : RdT w B A t) (hb : Below B w w') : RdT w' B A t := by
  rcases h with h | ⟨a, e, hlt, hc⟩
  · exact .inl h
  · exact .inr ⟨a, e, hlt, fun k x hx => (hc k x hx).below hlt hb⟩
theorem RdT.up (h : RdT w B A t) (hB : B ≤ B') : RdT w B' A t := by
  rcases h with h | ⟨a, e, hlt, hc⟩
  · exact .inl h
  · exact .inr ⟨a, e, by omega, fun k x hx => (hc k x hx).up hB⟩
theorem RdT.to (h : RdT w B A t) (hB : B ≤ w.heap.size) (hb : Below w.heap.size w w') : RdT w' w'.heap.size A t := ((h.up hB).below hb).up hb.size
theorem RdT.at_ (h : RdT w B A t) {k : Nat} (hk : k < t.length) : ∃ a, A = some a ∧ a.block < B ∧ FlAt w B a k t[k] := by
  rcases h with rfl | ⟨a, e, hlt, hc⟩
  · exact absurd hk (by simp)
  · exact ⟨a, e, hlt, hc k _ (List.getElem?_eq_getElem hk)⟩
theorem RdT.drewN (h : RdT w B A t) (d : Nat) : RdT (w.drewN d) B A t := by
  rcases h with h | ⟨a, e, hlt, hc⟩
  · exact .inl h
  · refine .inr ⟨a, e, hlt, fun k x hx => ?_⟩
    obtain ⟨c0, A, c, c1, c2, c3⟩ := hc k x hx
    exact ⟨by simpa using c0, A, c, by simpa using c1, c2, Rd.drewN c3 d⟩
theorem RdT.nil (w : World) (B : Nat) (A : Option Addr) : RdT w B A [] := .inl rfl
end

/-- How a function that makes a tree ends. -/
def TreeEnd (w : World) (t : TR) (e : Ending) (w' : World) : Prop :=
  ∃ A c, e = .returned (.slice A t.length c) ∧ t.length ≤ c ∧ RdT w' w'.heap.size A t ∧ Below w.heap.size w w'
/-- How a function that makes lines ends. -/
def LinesEnd (w : World) (l : List (List UInt8)) (e : Ending) (w' : World) : Prop :=
  ∃ A c, e = .returned (.slice A l.length c) ∧ l.length ≤ c ∧ RdS w' w'.heap.size A l ∧ Below w.heap.size w w'
/-- How a function ends that tells lines, or that there are none. -/
def GetEnd (w : World) (o : Option (List (List UInt8))) (e : Ending) (w' : World) : Prop :=
  ∃ A c, e = .returned (.tuple #[.slice A (o.getD []).length c, .bool o.isSome]) ∧ (o.getD []).length ≤ c ∧ RdS w' w'.heap.size A (o.getD []) ∧ Below w.heap.size w w'
/-- The same, the lines in memory that is new. -/
def GetEndH (w : World) (o : Option (List (List UInt8))) (e : Ending) (w' : World) : Prop :=
  ∃ A c, e = .returned (.tuple #[.slice A (o.getD []).length c, .bool o.isSome]) ∧ (o.getD []).length ≤ c ∧ RdS w' w'.heap.size A (o.getD []) ∧ Hi w.heap.size A ∧ Below w.heap.size w w'
theorem GetEndH.end_ {w w' : World} {o : Option (List (List UInt8))} {e : Ending} (h : GetEndH w o e w') : GetEnd w o e w' := by
  obtain ⟨A, c, h1, h2, h3, _, h4⟩ := h
  exact ⟨A, c, h1, h2, h3, h4⟩
def BoolEnd (w : World) (b : Bool) (e : Ending) (w' : World) : Prop := e = .returned (.bool b) ∧ Below w.heap.size w w'
def IntEnd (w : World) (i : Int) (e : Ending) (w' : World) : Prop := e = .returned (.int .i64 i) ∧ Below w.heap.size w w'

/-- Lines that are read, in another block than row. -/
def RdX (W : World) (row : Option Nat) (A : Option Addr) (ls : List (List UInt8)) : Prop :=
  RdS W W.heap.size A ls ∧ (ls = [] ∨ ∀ a, A = some a → some a.block ≠ row)
theorem RdX.gr {W W' : World} {row : Option Nat} {A : Option Addr} {ls : List (List UInt8)} (h : RdX W row A ls) (hg : W.grownBy W' row) : RdX W' row A ls := by
  refine ⟨?_, h.2⟩
  rcases h.2 with rfl | hne
  · exact .inl rfl
  · rcases h.1 with hn | ⟨a, e, hlt, hc⟩
    · exact .inl hn
    · exact .inr ⟨a, e, Nat.lt_of_lt_of_le hlt hg.size, fun j u hu => cell_gr hg (by rw [add_block]; exact hne a e) (hc j u hu)⟩
theorem below_gr_row {W W' : World} (hb : Below W.heap.size W W') : W.grownBy W' none := ⟨hb.os, hb.tape, hb.output, hb.size, fun k hk _ => hb.block k hk⟩
theorem gr_none {W W' : World} {row : Option Nat} (hg : W.grownBy W' none) : W.grownBy W' row := ⟨hg.os, hg.tape, hg.output, hg.size, fun k hk _ => hg.block k hk (nn k)⟩
theorem gr_below {W W' : World} (hb : Below W.heap.size W W') (row : Option Nat) : W.grownBy W' row := ⟨hb.os, hb.tape, hb.output, hb.size, fun k hk _ => hb.block k hk⟩
theorem RdX.of {W : World} {B : Nat} {row : Option Nat} {A : Option Addr} {ls : List (List UInt8)} (h : RdS W B A ls) (hB : B ≤ W.heap.size) (hr : ∀ g, row = some g → B ≤ g) : RdX W row A ls := by
  refine ⟨Rd.up h hB, ?_⟩
  rcases h with h | ⟨a, e, hlt, _⟩
  · exact .inl (List.map_eq_nil_iff.1 h)
  · exact .inr fun a' e' hne => by
      rw [e] at e'; injection e' with e'; subst e'
      have := hr a.block hne.symm
      omega
/-- Lines in a row of one's own, behind the row of files. -/
theorem RdX.own {W : World} {base n g : Nat} {A : Option Addr} {c : Nat} {ls : List (List UInt8)} (h : W.ownsRow base 9 1 (.slice A n c) n (ls.map strV)) (hg : g < base) : RdX W (some g) A ls := by
  obtain ⟨A', c', e, _, hr⟩ := rd_of_own h
  cases e
  refine ⟨hr, ?_⟩
  cases A with
  | none => exact .inr fun a e => by cases e
  | some a =>
    refine .inr fun a' e hne => ?_
    have := own_ge h a.block rfl
    injection e with e; subst e
    injection hne with hne
    omega

/-- The cells of files, as far as they go; their lines lie in other blocks than row. -/
def FCells (W : World) (row : Option Nat) (t : TR) (xs : List Value) : Prop :=
  ∀ (k : Nat) x, t[k]? = some x → ∃ A c, xs[k * 2]? = some (strV x.1) ∧ xs[k * 2 + 1]? = some (.slice A x.2.length c) ∧ x.2.length ≤ c ∧ RdX W row A x.2
theorem FCells.gr {W W' : World} {row : Option Nat} {t : TR} {xs : List Value} (h : FCells W row t xs) (hg : W.grownBy W' row) : FCells W' row t xs := fun k x hx => by
  obtain ⟨A, c, h1, h2, h3, h4⟩ := h k x hx
  exact ⟨A, c, h1, h2, h3, h4.gr hg⟩
/-- Where the row turns to a new one. -/
theorem FCells.turn {W W' : World} {row row' : Option Nat} {t : TR} {xs : List Value} (h : FCells W row t xs) (hb : Below W.heap.size W W') (hr : ∀ g, row' = some g → W.heap.size ≤ g) : FCells W' row' t xs := fun k x hx => by
  obtain ⟨A, c, h1, h2, h3, h4⟩ := h k x hx
  exact ⟨A, c, h1, h2, h3, RdX.of (Rd.below h4.1 hb) hb.size hr⟩
theorem FCells.nil (W : World) (row : Option Nat) (xs : List Value) : FCells W row [] xs := fun k x hx => by simp at hx

/-- Files in a row of one's own. -/
def OwnT (W : World) (base : Nat) (v : Value) (t : TR) : Prop := ∃ xs, W.ownsRow base 51 2 v t.length xs ∧ FCells W v.ownBlock t xs

/-- A row of files of one's own is read as files. -/
theorem rdT_own {W : World} {base : Nat} {v : Value} {t : TR} (h : OwnT W base v t) : ∃ A c, v = .slice A t.length c ∧ t.length ≤ c ∧ RdT W W.heap.size A t := by
  obtain ⟨xs, hr, hF⟩ := h
  rcases hr.2 with ⟨rfl, h0⟩ | ⟨g, cap, cur, rfl, _, hg, hc, _⟩
  · have : t = [] := List.eq_nil_of_length_eq_zero h0
    subst this
    exact ⟨none, 0, rfl, Nat.le_refl _, .inl rfl⟩
  · refine ⟨_, cap, rfl, hc, .inr ⟨_, rfl, (Array.getElem?_eq_some_iff.1 hg).1, fun k x hx => ?_⟩⟩
    obtain ⟨A, c, g1, g2, g3, g4⟩ := hF k x hx
    have hk : k < t.length := (List.getElem?_eq_some_iff.1 hx).1
    have ea : (⟨g, 0, none⟩ : Addr).add (k * 2) = ⟨g, k * 2, none⟩ := by unfold Addr.add; split <;> simp_all
    refine ⟨?_, A, c, ?_, g3, g4.1⟩
    · rw [ea, hr.cellAt (k * 2) (by omega)]; exact g1
    · rw [ea]; show W.cell? ⟨g, k * 2 + 1, none⟩ = _; rw [hr.cellAt (k * 2 + 1) (by omega)]; exact g2
theorem treeEnd_own {w w' : World} {base : Nat} {v : Value} {t : TR} (h : OwnT w' base v t) (hb : Below w.heap.size w w') : TreeEnd w t (.returned v) w' := by
  obtain ⟨A, c, rfl, hc, hr⟩ := rdT_own h
  exact ⟨A, c, rfl, hc, hr, hb⟩

theorem info_file : (Tryz.prog.info? 51).map (fun i => (i.zero, i.size, i.bytes)) = some (some (.agg #[.string ⟨#[]⟩, .slice none 0 0]), 2, 40) := by kernel_rfl

/-- Where a test of files holds first. -/
def ixF (p : FL → Bool) : TR → Option Nat
  | [] => none
  | x :: t => if p x then some 0 else (ixF p t).map (· + 1)
def ixV (o : Option Nat) : Int := match o with | some k => (k : Int) | none => -1
theorem ixF_at {p : FL → Bool} : ∀ {t : TR} {k : Nat} (hk : k < t.length), p t[k] = true → (∀ j (hj : j < k), p (t[j]'(by omega)) = false) → ixF p t = some k
  | x :: t, 0, _, h, _ => by unfold ixF; rw [if_pos (show p x = true from h)]
  | x :: t, k + 1, hk, h, hb => by
    have h0 : p x = false := hb 0 (by omega)
    unfold ixF
    rw [h0, ixF_at (t := t) (k := k) (by simpa using hk) h fun j hj => hb (j + 1) (by omega)]
    rfl
theorem ixF_no {p : FL → Bool} : ∀ {t : TR}, (∀ j (hj : j < t.length), p t[j] = false) → ixF p t = none
  | [], _ => rfl
  | x :: t, h => by
    have h0 : p x = false := h 0 (by simp)
    unfold ixF
    rw [h0, ixF_no (t := t) fun j hj => h (j + 1) (by simpa using hj)]
    rfl
theorem ixF_some {p : FL → Bool} : ∀ {t : TR} {k : Nat}, ixF p t = some k → ∃ hk : k < t.length, p t[k] = true ∧ ∀ j (hj : j < k), p (t[j]'(by omega)) = false
  | [], k, h => by cases h
  | x :: t, k, h => by
    unfold ixF at h
    by_cases h0 : p x = true
    · rw [if_pos h0] at h; cases h; exact ⟨by simp, h0, fun j hj => by omega⟩
    · rw [if_neg h0] at h
      cases h1 : ixF p t with
      | none => rw [h1] at h; cases h
      | some i =>
        rw [h1] at h
        cases h
        obtain ⟨hi, h2, h3⟩ := ixF_some h1
        refine ⟨by simp; omega, h2, fun j hj => ?_⟩
        cases j with
        | zero => simpa using h0
        | succ j => exact h3 j (Nat.lt_of_succ_lt_succ hj)
theorem ixF_none {p : FL → Bool} {t : TR} (h : ixF p t = none) : ∀ x ∈ t, p x = false := by
  induction t with
  | nil => intro x hx; cases hx
  | cons y t ih =>
    unfold ixF at h
    by_cases h0 : p y = true
    · rw [if_pos h0] at h; cases h
    · rw [if_neg h0] at h
      intro x hx
      rcases List.mem_cons.1 hx with rfl | hx
      · simpa using h0
      · exact ih (by cases h1 : ixF p t with | none => rfl | some i => rw [h1] at h; cases h) x hx

/-- A file's name is this one; a file's name is greater. -/
def isN (n : List UInt8) (x : FL) : Bool := decide (x.1 = n)
def gtN (n : List UInt8) (x : FL) : Bool := Op.bytesLess n x.1

theorem get_ix {t : TR} {n : List UInt8} {k : Nat} (h : ixF (isN n) t = some k) : ∃ hk : k < t.length, t[k].1 = n ∧ get t n = some t[k].2 ∧ (∀ j (hj : j < k), (t[j]'(by omega)).1 ≠ n) := by
  obtain ⟨hk, h1, h2⟩ := ixF_some h
  have e : t[k].1 = n := by simpa [isN] using h1
  have hne : ∀ j (hj : j < k), (t[j]'(by omega)).1 ≠ n := fun j hj => by have := h2 j hj; simpa [isN] using this
  exact ⟨hk, e, get_at hk e hne, hne⟩
theorem get_ix_none {t : TR} {n : List UInt8} (h : ixF (isN n) t = none) : get t n = none := by
  rw [get_none]
  intro f hf
  have := ixF_none h f hf
  simpa [isN] using this
/-- A file ahead of the first one of a greater name. -/
theorem ins_ix : ∀ {t : TR} {n : List UInt8} {l : List (List UInt8)}, ins Op.bytesLess t n l = t.take ((ixF (gtN n) t).getD t.length) ++ (n, l) :: t.drop ((ixF (gtN n) t).getD t.length)
  | [], n, l => rfl
  | x :: t, n, l => by
    unfold ins ixF
    by_cases h : Op.bytesLess n x.1 = true
    · rw [if_pos h, if_pos (show gtN n x = true from h)]; rfl
    · rw [if_neg h, if_neg (show ¬ gtN n x = true from h), ins_ix]
      cases ixF (gtN n) t with
      | none => rfl
      | some k => rfl
theorem place_le {t : TR} {n : List UInt8} : (ixF (gtN n) t).getD t.length ≤ t.length := by
  cases h : ixF (gtN n) t with
  | none => exact Nat.le_refl _
  | some k => exact Nat.le_of_lt (ixF_some h).1

end Tr
end Go.Proofs.YtfnhjflocfmcoaaGreat

namespace Go.Proofs.YtfnhjflocfmcoaaGreat
open Go.RowKit
set_option linter.unusedVariables false
namespace Tr
open Tx

/-- What holds of the files gone through. -/
structure MayT (t : TR) (k : Nat) : Prop where
  m : ∀ x ∈ t.take k, name x.1 = true ∧ allMay x.2 = true
  u : upB Op.bytesLess ((t.take k).map (·.1)) = true
theorem MayT.zero (t : TR) : MayT t 0 := ⟨fun x hx => by simp at hx, rfl⟩
theorem MayT.done {t : TR} (h : MayT t t.length) (hl : t.length ≤ 30) : mayT t = true := by
  obtain ⟨h1, h2⟩ := h
  rw [List.take_length] at h1 h2
  unfold mayT
  rw [h2, Bool.and_true, Bool.and_eq_true, decide_eq_true_eq, List.all_eq_true]
  exact ⟨hl, fun x hx => by rw [Bool.and_eq_true]; exact h1 x hx⟩
theorem MayT.first {t : TR} (hk : 0 < t.length) (h1 : name t[0].1 = true) (h2 : allMay t[0].2 = true) : MayT t 1 := by
  cases t with
  | nil => simp at hk
  | cons x t =>
    refine ⟨fun y hy => ?_, rfl⟩
    simp at hy
    subst hy
    exact ⟨h1, h2⟩
theorem MayT.next {t : TR} {j : Nat} (h : MayT t (j + 1)) (hj : j + 1 < t.length) (h1 : name t[j + 1].1 = true) (h2 : allMay t[j + 1].2 = true) (h3 : Op.bytesLess t[j].1 t[j + 1].1 = true) : MayT t (j + 1 + 1) := by
  refine ⟨fun y hy => ?_, ?_⟩
  · rw [take_snoc' hj] at hy
    rcases List.mem_append.1 hy with hy | hy
    · exact h.m y hy
    · simp at hy; subst hy; exact ⟨h1, h2⟩
  · have := h.u
    rw [List.map_take] at this ⊢
    rw [upB_take (by simpa using hj), this, Bool.true_and]
    simpa using h3

end Tr
end Go.Proofs.YtfnhjflocfmcoaaGreat

namespace Go.Proofs.YtfnhjflocfmcoaaGreat
open Go.ChangeShapes Go.WideShapes Go.ChangeAt Go.RowKit Go.Deep
set_option linter.unusedVariables false
namespace Tr
open Tx

section
variable {H : Type} {enc : TypeId × Value → H} {W : World} {base : Nat} {spare : Nat → Bool} {held : Bool}

end

def lightT (t : TR) : Bool := decide (t.length ≤ 40) && t.all fun x => light x.2 300 && decide (x.1.length ≤ 100)
theorem lightT_small {t : TR} (h : lightT t = true) : t.length ≤ 40 ∧ Small t := by
  simp only [lightT, Bool.and_eq_true, decide_eq_true_eq, List.all_eq_true] at h
  refine ⟨h.1, ⟨by omega, fun x hx => ?_⟩⟩
  obtain ⟨h1, h2⟩ := h.2 x hx
  simp only [light, Bool.and_eq_true, decide_eq_true_eq, List.all_eq_true] at h1
  exact ⟨by omega, by omega, fun l hl => by have := h1.2 l hl; omega⟩

end Tr
end Go.Proofs.YtfnhjflocfmcoaaGreat

namespace Go.Proofs.YtfnhjflocfmcoaaGreat
open Go.RowKit
set_option linter.unusedVariables false
namespace Tr
open Tx

end Tr
end Go.Proofs.YtfnhjflocfmcoaaGreat

namespace Go.Proofs.YtfnhjflocfmcoaaGreat
open Go.RowKit
set_option linter.unusedVariables false
namespace Tr
open Tx

theorem FCells.take {W : World} {row : Option Nat} {t : TR} {xs : List Value} (h : FCells W row t xs) (p : Nat) : FCells W row (t.take p) (xs.take (p * 2)) := fun k x hx => by
  rw [List.getElem?_take] at hx
  split at hx
  · rename_i hk
    obtain ⟨A, c, h1, h2, h3, h4⟩ := h k x hx
    exact ⟨A, c, by rw [List.getElem?_take, if_pos (by omega)]; exact h1, by rw [List.getElem?_take, if_pos (by omega)]; exact h2, h3, h4⟩
  · cases hx
theorem FCells.drop {W : World} {row : Option Nat} {t : TR} {xs : List Value} (h : FCells W row t xs) (p : Nat) : FCells W row (t.drop p) (xs.drop (p * 2)) := fun k x hx => by
  rw [List.getElem?_drop] at hx
  obtain ⟨A, c, h1, h2, h3, h4⟩ := h (p + k) x hx
  exact ⟨A, c, by rw [List.getElem?_drop, show p * 2 + k * 2 = (p + k) * 2 by omega]; exact h1, by rw [List.getElem?_drop, show p * 2 + (k * 2 + 1) = (p + k) * 2 + 1 by omega]; exact h2, h3, h4⟩
theorem FCells.append {W : World} {row : Option Nat} {t u : TR} {xs ys : List Value} (h : FCells W row t xs) (hl : xs.length = t.length * 2) (h' : FCells W row u ys) : FCells W row (t ++ u) (xs ++ ys) := fun k x hx => by
  rcases Nat.lt_or_ge k t.length with hk | hk
  · rw [List.getElem?_append_left hk] at hx
    obtain ⟨A, c, h1, h2, h3, h4⟩ := h k x hx
    exact ⟨A, c, by rw [List.getElem?_append_left (by omega)]; exact h1, by rw [List.getElem?_append_left (by omega)]; exact h2, h3, h4⟩
  · rw [List.getElem?_append_right hk] at hx
    obtain ⟨A, c, h1, h2, h3, h4⟩ := h' _ x hx
    refine ⟨A, c, ?_, ?_, h3, h4⟩
    · rw [List.getElem?_append_right (by omega), hl, show k * 2 - t.length * 2 = (k - t.length) * 2 by omega]; exact h1
    · rw [List.getElem?_append_right (by omega), hl, show k * 2 + 1 - t.length * 2 = (k - t.length) * 2 + 1 by omega]; exact h2
theorem FCells.one {W : World} {row : Option Nat} {x : FL} {A : Option Addr} {m c : Nat} (hm : x.2.length = m) (hc : m ≤ c) (hr : RdX W row A x.2) : FCells W row [x] [strV x.1, .slice A m c] := fun k y hy => by
  cases k with
  | zero =>
    cases hy
    subst hm
    exact ⟨A, c, rfl, rfl, hc, hr⟩
  | succ k => simp at hy
/-- One file more. -/
theorem FCells.ins {W : World} {row : Option Nat} {t : TR} {xs : List Value} {s : List UInt8} {l : List (List UInt8)} {A : Option Addr} {m c p : Nat} (h : FCells W row t xs) (hl : xs.length = t.length * 2) (hp : p ≤ t.length) (hm : l.length = m) (hc : m ≤ c) (hr : RdX W row A l) :
    FCells W row (t.take p ++ (s, l) :: t.drop p) (xs.take (p * 2) ++ ([strV s, .slice A m c] ++ xs.drop (p * 2))) :=
  (h.take p).append (by rw [List.length_take, List.length_take, hl]; omega) ((FCells.one (x := (s, l)) hm hc hr).append rfl (h.drop p))
/-- One file less. -/
theorem FCells.del {W : World} {row : Option Nat} {t : TR} {xs : List Value} {p : Nat} (h : FCells W row t xs) (hl : xs.length = t.length * 2) (hp : p ≤ t.length) : FCells W row (t.take p ++ t.drop (p + 1)) (xs.take (p * 2) ++ xs.drop ((p + 1) * 2)) :=
  (h.take p).append (by rw [List.length_take, List.length_take, hl]; omega) (h.drop (p + 1))

theorem FCells.one_cell {W : World} {row : Option Nat} {t : TR} {xs : List Value} (h : FCells W row t xs) (hl : xs.length = t.length * 2) : ∀ u ∈ xs, u.oneCell' = true := by
  intro u hu
  obtain ⟨j, hj, rfl⟩ := List.mem_iff_getElem.1 hu
  have hk : j / 2 < t.length := by omega
  obtain ⟨A, c, h1, h2, _⟩ := h (j / 2) t[j / 2] (List.getElem?_eq_getElem hk)
  rcases Nat.mod_two_eq_zero_or_one j with e | e
  · have : xs[j]? = some (strV t[j / 2].1) := by rw [← h1]; congr 1; omega
    rw [List.getElem?_eq_getElem hj] at this
    injection this with this
    rw [this]; simp [Value.oneCell']
  · have : xs[j]? = some (.slice A t[j / 2].2.length c) := by rw [← h2]; congr 1; omega
    rw [List.getElem?_eq_getElem hj] at this
    injection this with this
    rw [this]; simp [Value.oneCell']

theorem upd_set {t : TR} {n : List UInt8} {l : List (List UInt8)} {k : Nat} (h : ixF (isN n) t = some k) : upd t n l = t.set k (n, l) := by
  obtain ⟨hk, h1, _, h3⟩ := get_ix h
  rw [upd_at hk h1 h3, List.set_eq_take_append_cons_drop, if_pos hk]

end Tr
end Go.Proofs.YtfnhjflocfmcoaaGreat

namespace Go.Proofs.YtfnhjflocfmcoaaGreat
open Go.RowKit
set_option linter.unusedVariables false
namespace Tr
open Tx

theorem add_succ (a : Addr) (i : Nat) : (⟨(a.add i).block, (a.add i).off + 1, none⟩ : Addr) = a.add (i + 1) := by
  unfold Addr.add
  by_cases h : i = 0
  · subst h; simp
  · simp [h, Nat.add_assoc]

/-- The cells of a tree that is read. -/
theorem flat_cells {w : World} {B : Nat} {row : Option Nat} {A : Option Addr} {t : TR} (h : RdT w B A t) (hB : B ≤ w.heap.size) (hr : ∀ g, row = some g → B ≤ g) :
    ∃ xs : List Value, xs.length = t.length * 2 ∧ FCells w row t xs ∧ (xs = [] ∨ ∃ a, A = some a ∧ ∀ j u, xs[j]? = some u → w.cell? (a.add j) = some u) := by
  rcases h with rfl | ⟨a, rfl, hlt, hc⟩
  · exact ⟨[], rfl, FCells.nil _ _ _, .inl rfl⟩
  · have key : ∀ (u : TR) (p : Nat), (∀ (k : Nat) x, u[k]? = some x → FlAt w B a (p + k) x) → ∃ xs : List Value, xs.length = u.length * 2 ∧ FCells w row u xs ∧ ∀ j v, xs[j]? = some v → w.cell? (a.add (p * 2 + j)) = some v := by
      intro u
      induction u with
      | nil => intro p _; exact ⟨[], rfl, FCells.nil _ _ _, fun j v hv => by simp at hv⟩
      | cons x u ih =>
        intro p hu
        obtain ⟨xs, h1, h2, h3⟩ := ih (p + 1) fun k y hy => by
          have := hu (k + 1) y (by simpa using hy)
          rw [show p + 1 + k = p + (k + 1) by omega]; exact this
        obtain ⟨c0, A1, c1, k1, kc, kr⟩ := hu 0 x rfl
        rw [Nat.add_zero] at c0 k1
        rw [add_succ] at k1
        refine ⟨strV x.1 :: .slice A1 x.2.length c1 :: xs, by simp [h1]; omega, ?_, fun j v hv => ?_⟩
        · exact FCells.append (t := [x]) (xs := [strV x.1, .slice A1 x.2.length c1]) (FCells.one rfl kc (RdX.of kr hB hr)) rfl h2
        · rcases j with _ | _ | j
          · cases hv; exact c0
          · cases hv; exact k1
          · have := h3 j v (by simpa using hv)
            rw [show p * 2 + (j + 2) = (p + 1) * 2 + j by omega]; exact this
    obtain ⟨xs, h1, h2, h3⟩ := key t 0 fun k x hx => by rw [Nat.zero_add]; exact hc k x hx
    exact ⟨xs, h1, h2, .inr ⟨a, rfl, fun j u hu => by have := h3 j u hu; rw [Nat.zero_mul, Nat.zero_add] at this; exact this⟩⟩

section
variable {P : Program} {w : World}
theorem run_append_none {t ty e : TypeId} {i : TypeInfo} {A A' : Option Addr} {n c c' : Nat} (ht : P.underlying t = some (.slice e)) (hi : P.info? e = some i) (hnc : n ≤ c) :
    (Builtin.append_ #[t, t] ty #[.slice A n c, .slice A' 0 c']).run P w = .ok (.slice A n c) w := by
  have hl : ∀ a : Addr, (loadCells a 0).run P w = .ok #[] w := fun a => by
    have := run_loadCells_list (P := P) w a [] (by simp)
    exact this
  cases A <;> cases A' <;> simp [Builtin.append_, run_underlying ht, sizeOf, typeInfo, hi, Builtin.lenOf, Builtin.firstCells, hnc, storeCells, hl]
end

/-- Files appended onto a row of one's own. -/
theorem run_ownT {W : World} {ty : TypeId} {base m c : Nat} {v : Value} {A : Option Addr} {t u : TR} {ys : List Value} (h : OwnT W base v t) (hu : FCells W v.ownBlock u ys) (hyl : ys.length = u.length * 2) (hsrc : ys = [] ∨ ∃ a, A = some a ∧ ∀ j x, ys[j]? = some x → W.cell? (a.add j) = some x)
    (hm : u.length = m) (hn : t.length + m ≤ 100000) (hbase : base ≤ W.heap.size) :
    ∃ v' W', (Builtin.append_ #[43, 43] ty #[v, .slice A m c]).run Tryz.prog W = .ok v' W' ∧ OwnT W' base v' (t ++ u) ∧ W.grownBy W' v.ownBlock := by
  obtain ⟨i0, hi0, hz0, hz1, hz2⟩ := info_parts info_file
  obtain ⟨xs, hrow, hF⟩ := h
  have h1 := hu.one_cell hyl
  by_cases h0 : m = 0
  · have hu0 : u = [] := List.eq_nil_of_length_eq_zero (by omega)
    subst hu0
    obtain ⟨A0, c0, rfl, hc0, _⟩ := rdT_own ⟨xs, hrow, hF⟩
    subst h0
    exact ⟨_, W, run_append_none Tryz.underlying43 hi0 hc0, by rw [List.append_nil]; exact ⟨xs, hrow, hF⟩, ⟨rfl, rfl, rfl, Nat.le_refl _, fun _ _ _ => rfl⟩⟩
  · obtain ⟨a, rfl, hcell⟩ : ∃ a, A = some a ∧ ∀ j x, ys[j]? = some x → W.cell? (a.add j) = some x := by
      rcases hsrc with hy | h
      · rw [hy] at hyl; simp at hyl; omega
      · exact h
    obtain ⟨g, cap, W', hr, r1, r2, r3, r4⟩ := run_append_lies (P := Tryz.prog) (w := W) 43 ty base 51 i0 _ 2 40 Tryz.underlying43 hi0 hz0 hz1 hz2 rfl (by decide) v t.length xs hrow a m c ys (by rw [hyl, hm]) hcell h1 (by omega) (by unfold maxLen; omega) (by omega) hbase W.heap.size rfl
    refine ⟨_, W', hr, ⟨xs ++ ys, by rw [List.length_append, hm]; exact r1, ?_⟩, r2⟩
    have hJ := (hF.append hrow.1 hu)
    rcases r3 with r3 | r3
    · rw [r3] at hJ r2
      exact hJ.gr r2
    · have : FCells W (some g) (t ++ u) (xs ++ ys) := fun k x hx => by
        obtain ⟨A, c, h1, h2, h3, h4, h5⟩ := hJ k x hx
        refine ⟨A, c, h1, h2, h3, RdX.of h4 (Nat.le_refl _) fun g' e => by injection e with e; omega⟩
      intro k x hx
      obtain ⟨A, c, h1, h2, h3, h4, h5⟩ := hJ k x hx
      obtain ⟨A', c', h1', h2', h3', h4', h5'⟩ := this k x hx
      obtain ⟨h6, _⟩ := RdX.gr (row := v.ownBlock) ⟨h4, h5⟩ r2
      have e1 : Value.slice A x.2.length c = Value.slice A' x.2.length c' := by rw [h2] at h2'; injection h2'
      injection e1 with e1 _ e2
      subst e1; subst e2
      exact ⟨A, c, h1, h2, h3, h6, h5'⟩

theorem wpList_ownT {W : World} {ops : Array Oper} {rest : List Oper} {o : Oper} {a : Act} {Q : Exit → Act → World → Prop} (hgd : o.guard = none) (s x : Operand)
    (ho : o.op = .call { callee := .builtin .append, args := #[s, x], argTypes := #[43, 43] })
    (base m c : Nat) (v : Value) (A : Option Addr) (t u : TR) (ys : List Value) (hs : a.eval s = v) (hx : a.eval x = .slice A m c) (h : OwnT W base v t) (hu : FCells W v.ownBlock u ys) (hyl : ys.length = u.length * 2) (hsrc : ys = [] ∨ ∃ a, A = some a ∧ ∀ j x, ys[j]? = some x → W.cell? (a.add j) = some x)
    (hm : u.length = m) (hn : t.length + m ≤ 100000) (hbase : base ≤ W.heap.size)
    (hK : ∀ v' W', OwnT W' base v' (t ++ u) → W.grownBy W' v.ownBlock → wpList Tryz.prog ops Q rest (a.put o.dst v') W') : wpList Tryz.prog ops Q (o :: rest) a W := by
  refine wpList_plain hgd fun K hK' => ?_
  obtain ⟨v', W', hrun, h2, h3⟩ := run_ownT (ty := o.type) (c := c) h hu hyl hsrc hm hn hbase
  unfold Oper.wp execOp
  simp only [ho, resolve, invoke, builtin, Sem.run_bind, Sem.run_pure, Result.andThen_ok, List.map_toArray, List.map_cons, List.map_nil, hs, hx, hrun]
  exact hK' _ _ (hK v' W' h2 h3)

theorem ownT_nil (W : World) (base : Nat) : OwnT W base (.slice none 0 0) [] := ⟨[], World.ownsRow_nil _ _ _ _, FCells.nil _ _ _⟩
theorem OwnT.below {W W' : World} {base : Nat} {v : Value} {t : TR} (h : OwnT W base v t) (hb : Below W.heap.size W W') : OwnT W' base v t := by
  obtain ⟨xs, h1, h2⟩ := h
  exact ⟨xs, own_gr h1 (below_gr_row hb), h2.gr (gr_none (below_gr_row hb))⟩

end Tr
end Go.Proofs.YtfnhjflocfmcoaaGreat

namespace Go.Proofs.YtfnhjflocfmcoaaGreat
open Go.RowKit
set_option linter.unusedVariables false
namespace Tr
open Tx

end Tr
end Go.Proofs.YtfnhjflocfmcoaaGreat

namespace Go.Proofs.YtfnhjflocfmcoaaGreat
open Go.RowKit
set_option linter.unusedVariables false
namespace Tr
open Tx

theorem line (s : ByteArray) (w : World) : Calls Tryz.prog 123 #[.string s] w fun e w' => e = .returned (.string s) ∧ w = w' := by
  go_enter Tryz.func123, Tryz.ntmps123
  go_wp2
  go_ret
  exact ⟨rfl, rfl⟩

theorem fill_set {α : Type} {ls : List α} {n k : Nat} (z : α) (hn : ls.length = n) (hk : k < ls.length) : (ls.take k ++ List.replicate (n - k) z).set k ls[k] = ls.take (k + 1) ++ List.replicate (n - (k + 1)) z := by
  have h1 : (ls.take k).length = k := by rw [List.length_take]; omega
  rw [List.set_append_right _ _ (by omega), h1, Nat.sub_self, show n - k = (n - (k + 1)) + 1 by omega, List.replicate_succ, List.set_cons_zero, take_snoc' hk, List.append_assoc]
  rfl
theorem fill_len {α : Type} {ls : List α} {n k : Nat} (z : α) (hn : ls.length = n) (hk : k ≤ n) : (ls.take k ++ List.replicate (n - k) z).length = n := by
  rw [List.length_append, List.length_take, List.length_replicate]; omega

/-- How a copy of lines ends. -/
def CopyEnd (w : World) (n : Nat) (ls : List (List UInt8)) (e : Ending) (w' : World) : Prop :=
  e = .returned (.slice (some ⟨w.heap.size, 0, none⟩) n n) ∧ w'.ownsRow w.heap.size 9 1 (.slice (some ⟨w.heap.size, 0, none⟩) n n) n (ls.map strV) ∧ w.grownBy w' none

set_option maxHeartbeats 1000000 in
theorem againL (A : Option Addr) (c n B : Nat) (ls : List (List UInt8)) (w : World) (hn : ls.length = n) (hln : n ≤ 8796093022208) (hB : B ≤ w.heap.size) (hR : RdS w B A ls) :
    Calls Tryz.prog 122 #[.slice A n c, .func (.func 123) #[] #[]] w (CopyEnd w n ls) := by
  have HN := Lib.hid hn; clear hn
  have hmk : ∀ W : World, (Instr.makeSlice 49 (.int .i64 (n : Int)) (.int .i64 (n : Int))).run Tryz.prog W = .ok (.slice (some ⟨W.heap.size, 0, none⟩) n n) (W.alloc (.cells (madeCells #[strV []] n) 9)) := by
    obtain ⟨i0, hi, hz0, hz1, hz2⟩ := info_parts info_str
    intro W
    have := run_make (P := Tryz.prog) W 49 9 i0 (.string ⟨#[]⟩) Tryz.underlying49 hi hz0 .i64 .i64 (n : Int) (n : Int) (by omega) (by omega) (by rw [hz2]; omega) (by omega)
    simp only [Int.toNat_natCast, hz1, Nat.mul_one] at this
    exact this
  have hrow := World.ownsRow_lit (base := w.heap.size) (e := 9) (size := 1) w (madeCells #[strV []] n) n (Nat.le_refl _) (by unfold maxLen; omega) (by rw [size_madeCells, Nat.mul_one])
  rw [toList_madeCells_one] at hrow
  have hb0 : Below w.heap.size w (w.alloc (.cells (madeCells #[strV []] n) 9)) := (Below.refl _ _).alloc (Nat.le_refl _) _
  obtain ⟨Z, hZ⟩ : ∃ Z, madeCells #[strV []] n = Z := ⟨_, rfl⟩
  rw [hZ] at hrow hb0
  have hmk' : ∀ W : World, (Instr.makeSlice 49 (.int .i64 (n : Int)) (.int .i64 (n : Int))).run Tryz.prog W = .ok (.slice (some ⟨W.heap.size, 0, none⟩) n n) (W.alloc (.cells Z 9)) := fun W => by rw [hmk W, hZ]
  clear hmk hZ
  have HROW := Lib.hid hrow; have HB0 := Lib.hid hb0; clear hrow hb0
  go_enter Tryz.func122, Tryz.ntmps122
  go_wp2_with fail
  clear hmk'
  obtain ⟨g, hg⟩ : ∃ g, w.heap.size = g := ⟨_, rfl⟩
  obtain ⟨w0, hw0⟩ : ∃ w0, w.alloc (.cells Z 9) = w0 := ⟨_, rfl⟩
  rw [hw0] at HROW HB0 ⊢
  rw [hg] at HROW HB0 ⊢
  have HG := Lib.hid hg; clear hg hw0
  go_loopw [13] (fun i wr => ∃ k : Nat, k ≤ n ∧ i = .int .i64 (k : Int) ∧ wr.ownsRow g 9 1 (.slice (some ⟨g, 0, none⟩) n n) n ((ls.map strV).take k ++ List.replicate (n - k) (strV [])) ∧ Below g w wr) (fun i _ => n - (intOf i).toNat)
  case atStart => exact ⟨0, Nat.zero_le _, rfl, HROW.out, HB0.out⟩
  case round =>
    obtain ⟨k, hk, rfl, hrow, hb⟩ := hrel
    have HRW := Lib.hid hrow; have HBW := Lib.hid hb; clear hrow hb
    by_cases hlt : k < n
    · have hkl : k < ls.length := by rw [HN.out]; exact hlt
      obtain ⟨a, rfl, hcell⟩ := RdS.at' (Rd.below hR (HBW.out.mono (by rw [← HG.out]; exact hB))) hkl
      have hst := HRW.out.stored k (strV ls[k])
      have hfs := fill_set (ls := ls.map strV) (n := n) (k := k) (strV []) (by rw [List.length_map]; exact HN.out) (by rw [List.length_map]; exact hkl)
      rw [List.getElem_map] at hfs
      rw [hfs] at hst
      have hc := HRW.out.cellAt k (by omega)
      rw [List.getElem?_eq_getElem (by rw [fill_len _ (by rw [List.length_map]; exact HN.out) hk]; exact hlt)] at hc
      have hf := HRW.out.frozenAt k
      have hst2 := HBW.out.setCell (p := ⟨g, k, none⟩) (Nat.le_refl _) (strV ls[k])
      have HST := Lib.hid hst.1; have HST2 := Lib.hid hst2
      clear hst hst2 hfs
      go_wp2_with fail
      refine (line _ _).mono ?_
      rintro e w' ⟨rfl, rfl⟩
      go_wp2
      go_roundw
      case rel => exact ⟨k + 1, by omega, by go_num, HST.out, HST2.out⟩
      case measure => simp [intOf]; omega
    · obtain rfl : k = n := by omega
      have hrow := HRW.out
      rw [Nat.sub_self, List.replicate_zero, List.append_nil, List.take_of_length_le (by rw [List.length_map, HN.out]; exact Nat.le_refl _)] at hrow
      have HR2 := Lib.hid hrow; clear hrow
      go_wp2
      go_ret
      refine ⟨by rw [HG.out]; rfl, by rw [HG.out]; exact HR2.out, ?_⟩
      have := HBW.out
      rw [← HG.out] at this
      exact gr_below this none

/-- How file ends. -/
def FileEnd (w : World) (s : List UInt8) (n : Nat) (ls : List (List UInt8)) (e : Ending) (w' : World) : Prop :=
  ∃ g, e = .returned (flV s (some ⟨g, 0, none⟩) n n) ∧ w'.ownsRow w.heap.size 9 1 (.slice (some ⟨g, 0, none⟩) n n) n (ls.map strV) ∧ Below w.heap.size w w'

set_option maxHeartbeats 1000000 in
theorem file (s : List UInt8) (A : Option Addr) (c n B : Nat) (ls : List (List UInt8)) (w : World) (hn : ls.length = n) (hln : n ≤ 8796093022208) (hB : B ≤ w.heap.size) (hR : RdS w B A ls) :
    Calls Tryz.prog 125 #[flV s A n c] w (FileEnd w s n ls) := by
  have HN := Lib.hid hn; clear hn
  have R := Lib.hid hR; clear hR
  go_enter Tryz.func125, Tryz.ntmps125
  go_wp2_with fail
  have b1 := (Blk.new w 51 #[strV s, .slice A n c]).alloc (.cells #[.string ⟨#[]⟩, .slice none 0 0] 51)
  have b2 := Blk.new (w.alloc (.cells #[strV s, .slice A n c] 51)) 51 #[.string ⟨#[]⟩, .slice none 0 0]
  have hw : Below w.heap.size w ((w.alloc (.cells #[strV s, .slice A n c] 51)).alloc (.cells #[.string ⟨#[]⟩, .slice none 0 0] 51)) := ((Below.refl _ _).alloc (Nat.le_refl _) _).alloc (by simp) _
  simp only [World.size_alloc] at b2
  generalize hW : (w.alloc (.cells #[strV s, .slice A n c] 51)).alloc (.cells #[.string ⟨#[]⟩, .slice none 0 0] 51) = W at *
  clear hW
  have R1 := Lib.hid (Rd.below R.out (hw.mono hB))
  have B1 := Lib.hid b1; have B2 := Lib.hid b2; have HW := Lib.hid hw; clear b1 b2 hw
  have HBW : Hid (B ≤ W.heap.size) := Lib.hid (Nat.le_trans hB HW.out.size)
  obtain ⟨g, hgs⟩ : ∃ g, w.heap.size = g := ⟨_, rfl⟩
  rw [hgs] at HW B1 B2 hB ⊢
  have HGS := Lib.hid hgs; clear hgs
  have x0 : W.cell? ⟨g, 0, none⟩ = some (strV s) := B1.out.cell 0 rfl
  have x1 : W.cell? ⟨g, 1, none⟩ = some (.slice A n c) := B1.out.cell 1 rfl
  go_region_held3 (fun w' => w'.cell? ⟨g, 0, none⟩ = some (strV s) ∧ w'.cell? ⟨g, 1, none⟩ = some (.slice A n c))
    (first | go_keep | (exact ⟨y0, y1⟩))
    (first
      | (go_at_call 122; refine (againL A c n B ls W.drew HN.out hln HBW.out (Rd.drewN R1.out 1)).mono ?_; rintro e w1 ⟨rfl, hr1, hg1⟩;
          have y0 := cell_gr hg1 (nn _) x0; have y1 := cell_gr hg1 (nn _) x1;
          have b3 := (B2.out.drewN 1).gr hg1 (nn _); have q0 : w1.cell? ⟨g + 1, 0, none⟩ = some (.string ⟨#[]⟩) := b3.cell 0 rfl; have q1 : w1.cell? ⟨g + 1, 1, none⟩ = some (.slice none 0 0) := b3.cell 1 rfl; have f0 := b3.frozen 0; have f1 := b3.frozen 1;
          have B3 := Lib.hid b3; clear b3; have HR1 := Lib.hid hr1; have HG1 := Lib.hid hg1; clear hr1 hg1))
  go_wp2_with fail
  obtain ⟨h, hh⟩ : ∃ h, W.drew.heap.size = h := ⟨_, rfl⟩
  have hh2 : W.heap.size = h := hh
  rw [hh] at HR1
  rw [hh2]
  have hgh : g + 1 < h := by have := B2.out.lt; omega
  have HH := Lib.hid hh2; clear hh hh2
  have b4 := (B3.out.set 0 (strV s)).set 1 (.slice (some ⟨h, 0, none⟩) n n)
  have o1 := own_set (own_set HR1.out hgh 0 (strV s)) hgh 1 (.slice (some ⟨h, 0, none⟩) n n)
  have hB3 : Below g w ((w1.setCell ⟨g + 1, 0, none⟩ (strV s)).setCell ⟨g + 1, 1, none⟩ (.slice (some ⟨h, 0, none⟩) n n)) := ((HW.out.trans (((below_drewN (Below.refl W.heap.size W) 1).trans (below_gr HG1.out)).mono (by rw [HH.out]; omega))).setCell (p := ⟨g + 1, 0, none⟩) (by show g ≤ g + 1; omega) _).setCell (p := ⟨g + 1, 1, none⟩) (by show g ≤ g + 1; omega) _
  generalize (w1.setCell ⟨g + 1, 0, none⟩ (strV s)).setCell ⟨g + 1, 1, none⟩ (.slice (some ⟨h, 0, none⟩) n n) = W3 at *
  have q0 : W3.cell? ⟨g + 1, 0, none⟩ = some (strV s) := b4.cell 0 rfl
  have q1 : W3.cell? ⟨g + 1, 1, none⟩ = some (.slice (some ⟨h, 0, none⟩) n n) := b4.cell 1 rfl
  refine bodyPost_ret (v := flV s (some ⟨h, 0, none⟩) n n) (by simp [results, Tryz.results125, go_sem, q0, q1]) rfl ?_
  exact ⟨h, rfl, own_mono o1 (by rw [HGS.out]; omega), by rw [HGS.out]; exact hB3⟩

end Tr
end Go.Proofs.YtfnhjflocfmcoaaGreat

namespace Go.Proofs.YtfnhjflocfmcoaaGreat
open Go.RowKit
set_option linter.unusedVariables false
namespace Tr
open Tx

theorem FCells.set {W : World} {g k c : Nat} {t1 t2 : TR} {xs : List Value} {x : FL} {A : Option Addr} (h : FCells W (some g) t1 xs) (hj : ∀ j y, j ≠ k → t2[j]? = some y → t1[j]? = some y) (hk : ∀ y, t2[k]? = some y → y = x)
    (hlen : k * 2 + 1 < xs.length) (hc : x.2.length ≤ c) (hr : RdX W (some g) A x.2) : FCells W (some g) t2 ((xs.set (k * 2) (strV x.1)).set (k * 2 + 1) (.slice A x.2.length c)) := by
  intro j y hy
  by_cases e : j = k
  · subst e
    obtain rfl := hk y hy
    refine ⟨A, c, ?_, ?_, hc, hr⟩
    · rw [List.getElem?_set_ne (by omega), List.getElem?_set_self (by omega)]
    · rw [List.getElem?_set_self (by rw [List.length_set]; omega)]
  · obtain ⟨A', c', h1, h2, h3, h4⟩ := h j y (hj j y e hy)
    refine ⟨A', c', ?_, ?_, h3, h4⟩
    · rw [List.getElem?_set_ne (by omega), List.getElem?_set_ne (by omega)]; exact h1
    · rw [List.getElem?_set_ne (by omega), List.getElem?_set_ne (by omega)]; exact h2

theorem store_file {W : World} {base g n cap k c : Nat} {t1 t2 : TR} {xs : List Value} {x : FL} {A : Option Addr} (hrow : W.ownsRow base 51 2 (.slice (some ⟨g, 0, none⟩) n cap) n xs) (hF : FCells W (some g) t1 xs)
    (hj : ∀ j y, j ≠ k → t2[j]? = some y → t1[j]? = some y) (hk : ∀ y, t2[k]? = some y → y = x) (hkn : k < n) (hc : x.2.length ≤ c) (hr : RdX W (some g) A x.2) :
    (∃ xs', ((W.setCell ⟨g, k * 2, none⟩ (strV x.1)).setCell ⟨g, k * 2 + 1, none⟩ (.slice A x.2.length c)).ownsRow base 51 2 (.slice (some ⟨g, 0, none⟩) n cap) n xs' ∧ FCells ((W.setCell ⟨g, k * 2, none⟩ (strV x.1)).setCell ⟨g, k * 2 + 1, none⟩ (.slice A x.2.length c)) (some g) t2 xs') ∧
      W.grownBy ((W.setCell ⟨g, k * 2, none⟩ (strV x.1)).setCell ⟨g, k * 2 + 1, none⟩ (.slice A x.2.length c)) (some g) := by
  obtain ⟨h1, g1⟩ := hrow.stored (k * 2) (strV x.1)
  obtain ⟨h2, g2⟩ := h1.stored (k * 2 + 1) (.slice A x.2.length c)
  have g3 : W.grownBy ((W.setCell ⟨g, k * 2, none⟩ (strV x.1)).setCell ⟨g, k * 2 + 1, none⟩ (.slice A x.2.length c)) (some g) := ⟨g2.os.trans g1.os, g2.tape.trans g1.tape, g2.output.trans g1.output, Nat.le_trans g1.size g2.size, fun i hi hne => (g2.block i (Nat.lt_of_lt_of_le hi g1.size) hne).trans (g1.block i hi hne)⟩
  refine ⟨⟨_, h2, ?_⟩, g3⟩
  exact (hF.set hj hk (by rw [hrow.1]; omega) hc hr).gr g3

/-- The cells where a file is stored. -/
theorem file_cells {W : World} {base g n cap k : Nat} {xs : List Value} (hrow : W.ownsRow base 51 2 (.slice (some ⟨g, 0, none⟩) n cap) n xs) (hkn : k < n) :
    ∃ u v, W.cell? ⟨g, k * 2, none⟩ = some u ∧ W.cell? ⟨g, k * 2 + 1, none⟩ = some v ∧ W.frozen? ⟨g, k * 2, none⟩ = false ∧ W.frozen? ⟨g, k * 2 + 1, none⟩ = false := by
  have h1 := hrow.cellAt (k * 2) (by omega)
  have h2 := hrow.cellAt (k * 2 + 1) (by omega)
  rw [List.getElem?_eq_getElem (by rw [hrow.1]; omega)] at h1 h2
  exact ⟨_, _, h1, h2, hrow.frozenAt _, hrow.frozenAt _⟩

/-- How again ends. -/
def AgainEnd (w : World) (n : Nat) (t : TR) (e : Ending) (w' : World) : Prop :=
  e = .returned (.slice (some ⟨w.heap.size, 0, none⟩) n n) ∧ (∃ xs, w'.ownsRow w.heap.size 51 2 (.slice (some ⟨w.heap.size, 0, none⟩) n n) n xs ∧ FCells w' (some w.heap.size) t xs) ∧ Below w.heap.size w w'

theorem again_next {w wr w2 : World} {g n k m h : Nat} {t : TR} {xs : List Value} {x : FL} {o : Obj} (hrow : wr.ownsRow g 51 2 (.slice (some ⟨g, 0, none⟩) n n) n xs) (hF : FCells wr (some g) (t.take k) xs) (hb : Below g w wr)
    (hk : k < t.length) (hn : t.length = n) (hx : t[k] = x) (hm : x.2.length = m) (hr : w2.ownsRow (wr.alloc o).heap.size 9 1 (.slice (some ⟨h, 0, none⟩) m m) m (x.2.map strV)) (hb2 : Below (wr.alloc o).heap.size (wr.alloc o) w2) :
    ∃ xs', ((w2.setCell ⟨g, k * 2, none⟩ (strV x.1)).setCell ⟨g, k * 2 + 1, none⟩ (.slice (some ⟨h, 0, none⟩) m m)).ownsRow g 51 2 (.slice (some ⟨g, 0, none⟩) n n) n xs' ∧
      FCells ((w2.setCell ⟨g, k * 2, none⟩ (strV x.1)).setCell ⟨g, k * 2 + 1, none⟩ (.slice (some ⟨h, 0, none⟩) m m)) (some g) (t.take (k + 1)) xs' ∧ Below g w ((w2.setCell ⟨g, k * 2, none⟩ (strV x.1)).setCell ⟨g, k * 2 + 1, none⟩ (.slice (some ⟨h, 0, none⟩) m m)) := by
  subst hm
  have hg : g < wr.heap.size := (hrow.lt g rfl).2
  have g1 := World.grownBy_alloc wr o none
  have g2 := below_gr_row hb2
  have hrow2 := own_gr (own_gr hrow g1) g2
  have hF2 := (hF.gr (gr_none g1)).gr (gr_none g2)
  obtain ⟨⟨xs', r1, r2⟩, r3⟩ := store_file (k := k) (t2 := t.take (k + 1)) (x := x) (A := some ⟨h, 0, none⟩) (c := x.2.length) hrow2 hF2 (fun j y hne hy => by
      rw [List.getElem?_take] at hy ⊢
      split at hy
      · rw [if_pos (by omega)]; exact hy
      · cases hy) (fun y hy => by
      rw [List.getElem?_take, if_pos (by omega), List.getElem?_eq_getElem hk] at hy
      injection hy with hy
      rw [← hy, hx]) (by omega) (Nat.le_refl _) (RdX.own hr (by simp; omega))
  refine ⟨xs', r1, r2, ?_⟩
  have hbb : Below g w w2 := (hb.alloc (Nat.le_of_lt hg) o).trans (hb2.mono (by simp; omega))
  exact (hbb.setCell (p := ⟨g, k * 2, none⟩) (Nat.le_refl _) _).setCell (p := ⟨g, k * 2 + 1, none⟩) (Nat.le_refl _) _

set_option maxHeartbeats 2000000 in
theorem againT (A : Option Addr) (c n B : Nat) (t : TR) (w : World) (hn : t.length = n) (hs : Wide t) (hB : B ≤ w.heap.size) (hR : RdT w B A t) :
    Calls Tryz.prog 124 #[.slice A n c, .func (.func 125) #[] #[]] w (AgainEnd w n t) := by
  have hln : n ≤ 3518437208800 := by rw [← hn]; exact hs.len
  have HN := Lib.hid hn; clear hn
  have HS := Lib.hid hs; clear hs
  have hmk : ∀ W : World, (Instr.makeSlice 43 (.int .i64 (n : Int)) (.int .i64 (n : Int))).run Tryz.prog W = .ok (.slice (some ⟨W.heap.size, 0, none⟩) n n) (W.alloc (.cells (madeCells #[.string ⟨#[]⟩, .slice none 0 0] (n * 2)) 51)) := by
    obtain ⟨i0, hi, hz0, hz1, hz2⟩ := info_parts info_file
    intro W
    have := run_make (P := Tryz.prog) W 43 51 i0 _ Tryz.underlying43 hi hz0 .i64 .i64 (n : Int) (n : Int) (by omega) (by omega) (by rw [hz2]; omega) (by omega)
    simp only [Int.toNat_natCast, hz1] at this
    exact this
  have hrow := World.ownsRow_lit (base := w.heap.size) (e := 51) (size := 2) w (madeCells #[.string ⟨#[]⟩, .slice none 0 0] (n * 2)) n (Nat.le_refl _) (by unfold maxLen; omega) (by rw [size_madeCells])
  have hb0 : Below w.heap.size w (w.alloc (.cells (madeCells #[.string ⟨#[]⟩, .slice none 0 0] (n * 2)) 51)) := (Below.refl _ _).alloc (Nat.le_refl _) _
  obtain ⟨Z, hZ⟩ : ∃ Z, madeCells #[.string ⟨#[]⟩, .slice none 0 0] (n * 2) = Z := ⟨_, rfl⟩
  rw [hZ] at hrow hb0
  have hmk' : ∀ W : World, (Instr.makeSlice 43 (.int .i64 (n : Int)) (.int .i64 (n : Int))).run Tryz.prog W = .ok (.slice (some ⟨W.heap.size, 0, none⟩) n n) (W.alloc (.cells Z 51)) := fun W => by rw [hmk W, hZ]
  clear hmk hZ
  have HROW := Lib.hid hrow; have HB0 := Lib.hid hb0; clear hrow hb0
  go_enter Tryz.func124, Tryz.ntmps124
  go_wp2_with fail
  clear hmk'
  obtain ⟨g, hg⟩ : ∃ g, w.heap.size = g := ⟨_, rfl⟩
  obtain ⟨w0, hw0⟩ : ∃ w0, w.alloc (.cells Z 51) = w0 := ⟨_, rfl⟩
  rw [hw0] at HROW HB0 ⊢
  rw [hg] at HROW HB0 ⊢
  have HG := Lib.hid hg; clear hg hw0
  go_loopw [13] (fun i wr => ∃ k : Nat, k ≤ n ∧ i = .int .i64 (k : Int) ∧ (∃ xs, wr.ownsRow g 51 2 (.slice (some ⟨g, 0, none⟩) n n) n xs ∧ FCells wr (some g) (t.take k) xs) ∧ Below g w wr) (fun i _ => n - (intOf i).toNat)
  case atStart => exact ⟨0, Nat.zero_le _, rfl, ⟨_, HROW.out, FCells.nil _ _ _⟩, HB0.out⟩
  case round =>
    obtain ⟨k, hk, rfl, ⟨xs, hrow, hF⟩, hb⟩ := hrel
    have HRW := Lib.hid hrow; have HF := Lib.hid hF; have HBW := Lib.hid hb; clear hrow hb hF
    by_cases hlt : k < n
    · have hkl : k < t.length := by rw [HN.out]; exact hlt
      obtain ⟨a, rfl, hab, hat⟩ := (hR.below (HBW.out.mono (by rw [← HG.out]; exact hB))).at_ hkl
      have hsm := HS.out.all _ (List.getElem_mem hkl)
      obtain ⟨x, hx⟩ : ∃ x, t[k] = x := ⟨_, rfl⟩
      rw [hx] at hat hsm
      have HX := Lib.hid hx; clear hx
      obtain ⟨c0, A1, c1, h1, hc1, hr1⟩ := hat
      obtain ⟨m, hm⟩ : ∃ m, x.2.length = m := ⟨_, rfl⟩
      have hm5 : m ≤ 8796093022208 := by rw [← hm]; exact Nat.le_trans hsm (by decide)
      rw [hm] at h1 hc1
      have HM := Lib.hid hm; have HR1 := Lib.hid hr1
      clear hm hr1 hsm
      have hgs := (HRW.out.lt g rfl).2
      have hBwr : B ≤ wr.heap.size := by rw [HG.out] at hB; omega
      go_wp2_with fail
      refine (file x.1 A1 c1 m B x.2 _ HM.out hm5 (Nat.le_trans hBwr (by simp)) (Rd.below HR1.out ((Below.refl _ _).alloc hBwr _))).mono ?_
      rintro e w2 ⟨h, rfl, hr2, hb2⟩
      have hnx := again_next HRW.out HF.out HBW.out hkl HN.out HX.out HM.out hr2 hb2
      obtain ⟨v0, v1, y0, y1, f0, f1⟩ := file_cells (own_gr (own_gr HRW.out (World.grownBy_alloc wr _ none)) (below_gr_row hb2)) hlt
      have HNX := Lib.hid hnx
      clear hnx hr2 hb2
      go_wp2
      go_roundw
      case rel =>
        obtain ⟨xs', n1, n2, n3⟩ := HNX.out
        exact ⟨k + 1, by omega, by go_num, ⟨xs', n1, n2⟩, n3⟩
      case measure => simp [intOf]; omega
    · obtain rfl : k = n := by omega
      have hF := HF.out
      rw [List.take_of_length_le (by rw [HN.out]; exact Nat.le_refl _)] at hF
      have HF2 := Lib.hid hF; clear hF
      go_wp2
      go_ret
      exact ⟨by rw [HG.out]; rfl, by rw [HG.out]; exact ⟨xs, HRW.out, HF2.out⟩, by rw [HG.out]; exact HBW.out⟩

end Tr
end Go.Proofs.YtfnhjflocfmcoaaGreat

namespace Go.Proofs.YtfnhjflocfmcoaaGreat
open Go.RowKit
set_option linter.unusedVariables false
namespace Tr
open Tx

end Tr
end Go.Proofs.YtfnhjflocfmcoaaGreat

namespace Go.Proofs.YtfnhjflocfmcoaaGreat
open Go.RowKit
set_option linter.unusedVariables false
namespace Tr
open Tx

end Tr
end Go.Proofs.YtfnhjflocfmcoaaGreat

namespace Go.Proofs.YtfnhjflocfmcoaaGreat
open Go.ChangeShapes Go.WideShapes Go.ChangeAt Go.RowKit Go.Deep
set_option linter.unusedVariables false
namespace Tr
open Tx

section
variable {H : Type} {enc : TypeId × Value → H} {W : World} {base : Nat} {spare : Nat → Bool} {held : Bool}

end

end Tr
end Go.Proofs.YtfnhjflocfmcoaaGreat

namespace Go.Proofs.YtfnhjflocfmcoaaGreat
open Go.RowKit
set_option linter.unusedVariables false
namespace Tr
open Tx

theorem find1 (s nm : List UInt8) (A : Option Addr) (n c b : Nat) (W : World) (hb : b < W.heap.size) (hc : W.cell? ⟨b, 0, none⟩ = some (strV nm)) :
    Calls Tryz.prog 138 #[flV s A n c, .pointer (some ⟨b, 0, none⟩)] W (BoolEnd W (decide (s = nm))) := by
  go_enter Tryz.func138, Tryz.ntmps138
  go_wp2
  go_ret
  exact ⟨ret_bool (by rw [Bool.eq_iff_iff]; simp), (Below.refl _ _).alloc (Nat.le_refl _) _⟩

theorem place1 (s nm : List UInt8) (A : Option Addr) (n c b : Nat) (W : World) (hb : b < W.heap.size) (hc : W.cell? ⟨b, 0, none⟩ = some (strV nm)) :
    Calls Tryz.prog 141 #[flV s A n c, .pointer (some ⟨b, 0, none⟩)] W (BoolEnd W (Op.bytesLess nm s)) := by
  go_enter Tryz.func141, Tryz.ntmps141
  go_wp2
  go_ret
  exact ⟨ret_bool (gt_eq s nm), (Below.refl _ _).alloc (Nat.le_refl _) _⟩

set_option maxHeartbeats 1000000 in
/-- slices.IndexFunc at the closure of find. -/
theorem Index_find (nm : List UInt8) (A : Option Addr) (c n b B : Nat) (t : TR) (w : World) (hn : t.length = n) (hln : n ≤ 3518437208800) (hB : B ≤ w.heap.size) (hR : RdT w B A t) (hb : b < w.heap.size) (hcb : w.cell? ⟨b, 0, none⟩ = some (strV nm)) :
    Calls Tryz.prog 137 #[.slice A n c, .func (.func 138) #[] #[.pointer (some ⟨b, 0, none⟩)]] w (IntEnd w (ixV (ixF (isN nm) t))) := by
  have HN := Lib.hid hn; clear hn
  obtain ⟨g, hg⟩ : ∃ g, w.heap.size = g := ⟨_, rfl⟩
  unfold IntEnd
  rw [hg]
  have HG := Lib.hid hg; clear hg
  have HC := Lib.hid hcb; clear hcb
  obtain ⟨iv, hiv⟩ : ∃ iv, ixV (ixF (isN nm) t) = iv := ⟨_, rfl⟩
  rw [hiv]
  have HIV := Lib.hid hiv; clear hiv
  go_enter Tryz.func137, Tryz.ntmps137
  go_wp2_with fail
  go_loopw [8] (fun i wr => ∃ k : Nat, k ≤ n ∧ i = .int .i64 (k : Int) ∧ (∀ j (hj : j < t.length), j < k → isN nm t[j] = false) ∧ Below g w wr) (fun i _ => n - (intOf i).toNat)
  case atStart => exact ⟨0, Nat.zero_le _, rfl, fun j _ hj => by omega, Below.refl _ _⟩
  case round =>
    obtain ⟨k, hk, rfl, hall, hbw⟩ := hrel
    have HA := Lib.hid hall; have HBW := Lib.hid hbw; clear hall hbw
    by_cases hlt : k < n
    · have hkl : k < t.length := by rw [HN.out]; exact hlt
      obtain ⟨a, rfl, hab, hat⟩ := (hR.below (HBW.out.mono (by rw [← HG.out]; exact hB))).at_ hkl
      obtain ⟨x, hx⟩ : ∃ x, t[k] = x := ⟨_, rfl⟩
      rw [hx] at hat
      have HX := Lib.hid hx; clear hx
      obtain ⟨c0, A1, c1, h1, _, _⟩ := hat
      generalize x.2.length = m at h1
      have hsz := HBW.out.size
      have hbwr : b < wr.heap.size := by rw [HG.out] at hb; rw [HG.out] at hsz; omega
      have hcell : wr.cell? ⟨b, 0, none⟩ = some (strV nm) := (HBW.out.cell (p := ⟨b, 0, none⟩) (by rw [← HG.out]; exact hb)).trans HC.out
      have HCELL := Lib.hid hcell
      clear hcell
      cases hq : isN nm x with
      | true =>
        have HE : Hid (iv = (k : Int)) := Lib.hid (by rw [← HIV.out, ixF_at hkl (by rw [HX.out]; exact hq) fun j hj => HA.out j (by omega) hj]; rfl)
        have HQ := Lib.hid hq; clear hq
        go_wp2_with fail
        refine (find1 x.1 nm A1 m c1 b wr hbwr HCELL.out).mono ?_
        rintro e w2 ⟨rfl, hb2⟩
        have hv : decide (x.1 = nm) = true := HQ.out
        rw [hv]
        clear hv
        have HB2 := Lib.hid (HBW.out.trans (hb2.mono (by rw [HG.out] at hsz; exact hsz)))
        clear hb2
        go_wp2
        go_ret
        exact ⟨by rw [HE.out]; rfl, HB2.out⟩
      | false =>
        have HQ := Lib.hid hq; clear hq
        go_wp2_with fail
        refine (find1 x.1 nm A1 m c1 b wr hbwr HCELL.out).mono ?_
        rintro e w2 ⟨rfl, hb2⟩
        have hv : decide (x.1 = nm) = false := HQ.out
        rw [hv]
        clear hv
        have HB2 := Lib.hid (HBW.out.trans (hb2.mono (by rw [HG.out] at hsz; exact hsz)))
        clear hb2
        go_wp2
        go_roundw
        case rel =>
          exact ⟨k + 1, by omega, by go_num, fun j hjl hj => by
            by_cases e : j = k
            · subst e; rw [HX.out]; exact HQ.out
            · exact HA.out j hjl (by omega), HB2.out⟩
        case measure => simp [intOf]; omega
    · obtain rfl : k = n := by omega
      have HE : Hid (iv = -1) := Lib.hid (by rw [← HIV.out, ixF_no fun j hj => HA.out j hj (by rw [← HN.out]; exact hj)]; rfl)
      go_wp2
      go_ret
      exact ⟨by rw [HE.out]; rfl, HBW.out⟩

set_option maxHeartbeats 1000000 in
/-- slices.IndexFunc at the closure of place. -/
theorem Index_place (nm : List UInt8) (A : Option Addr) (c n b B : Nat) (t : TR) (w : World) (hn : t.length = n) (hln : n ≤ 3518437208800) (hB : B ≤ w.heap.size) (hR : RdT w B A t) (hb : b < w.heap.size) (hcb : w.cell? ⟨b, 0, none⟩ = some (strV nm)) :
    Calls Tryz.prog 137 #[.slice A n c, .func (.func 141) #[] #[.pointer (some ⟨b, 0, none⟩)]] w (IntEnd w (ixV (ixF (gtN nm) t))) := by
  have HN := Lib.hid hn; clear hn
  obtain ⟨g, hg⟩ : ∃ g, w.heap.size = g := ⟨_, rfl⟩
  unfold IntEnd
  rw [hg]
  have HG := Lib.hid hg; clear hg
  have HC := Lib.hid hcb; clear hcb
  obtain ⟨iv, hiv⟩ : ∃ iv, ixV (ixF (gtN nm) t) = iv := ⟨_, rfl⟩
  rw [hiv]
  have HIV := Lib.hid hiv; clear hiv
  go_enter Tryz.func137, Tryz.ntmps137
  go_wp2_with fail
  go_loopw [8] (fun i wr => ∃ k : Nat, k ≤ n ∧ i = .int .i64 (k : Int) ∧ (∀ j (hj : j < t.length), j < k → gtN nm t[j] = false) ∧ Below g w wr) (fun i _ => n - (intOf i).toNat)
  case atStart => exact ⟨0, Nat.zero_le _, rfl, fun j _ hj => by omega, Below.refl _ _⟩
  case round =>
    obtain ⟨k, hk, rfl, hall, hbw⟩ := hrel
    have HA := Lib.hid hall; have HBW := Lib.hid hbw; clear hall hbw
    by_cases hlt : k < n
    · have hkl : k < t.length := by rw [HN.out]; exact hlt
      obtain ⟨a, rfl, hab, hat⟩ := (hR.below (HBW.out.mono (by rw [← HG.out]; exact hB))).at_ hkl
      obtain ⟨x, hx⟩ : ∃ x, t[k] = x := ⟨_, rfl⟩
      rw [hx] at hat
      have HX := Lib.hid hx; clear hx
      obtain ⟨c0, A1, c1, h1, _, _⟩ := hat
      generalize x.2.length = m at h1
      have hsz := HBW.out.size
      have hbwr : b < wr.heap.size := by rw [HG.out] at hb; rw [HG.out] at hsz; omega
      have hcell : wr.cell? ⟨b, 0, none⟩ = some (strV nm) := (HBW.out.cell (p := ⟨b, 0, none⟩) (by rw [← HG.out]; exact hb)).trans HC.out
      have HCELL := Lib.hid hcell
      clear hcell
      cases hq : gtN nm x with
      | true =>
        have HE : Hid (iv = (k : Int)) := Lib.hid (by rw [← HIV.out, ixF_at hkl (by rw [HX.out]; exact hq) fun j hj => HA.out j (by omega) hj]; rfl)
        have HQ := Lib.hid hq; clear hq
        go_wp2_with fail
        refine (place1 x.1 nm A1 m c1 b wr hbwr HCELL.out).mono ?_
        rintro e w2 ⟨rfl, hb2⟩
        have hv : Op.bytesLess nm x.1 = true := HQ.out
        rw [hv]
        clear hv
        have HB2 := Lib.hid (HBW.out.trans (hb2.mono (by rw [HG.out] at hsz; exact hsz)))
        clear hb2
        go_wp2
        go_ret
        exact ⟨by rw [HE.out]; rfl, HB2.out⟩
      | false =>
        have HQ := Lib.hid hq; clear hq
        go_wp2_with fail
        refine (place1 x.1 nm A1 m c1 b wr hbwr HCELL.out).mono ?_
        rintro e w2 ⟨rfl, hb2⟩
        have hv : Op.bytesLess nm x.1 = false := HQ.out
        rw [hv]
        clear hv
        have HB2 := Lib.hid (HBW.out.trans (hb2.mono (by rw [HG.out] at hsz; exact hsz)))
        clear hb2
        go_wp2
        go_roundw
        case rel =>
          exact ⟨k + 1, by omega, by go_num, fun j hjl hj => by
            by_cases e : j = k
            · subst e; rw [HX.out]; exact HQ.out
            · exact HA.out j hjl (by omega), HB2.out⟩
        case measure => simp [intOf]; omega
    · obtain rfl : k = n := by omega
      have HE : Hid (iv = -1) := Lib.hid (by rw [← HIV.out, ixF_no fun j hj => HA.out j hj (by rw [← HN.out]; exact hj)]; rfl)
      go_wp2
      go_ret
      exact ⟨by rw [HE.out]; rfl, HBW.out⟩

theorem find (s : List UInt8) (A : Option Addr) (c n B : Nat) (t : TR) (w : World) (hn : t.length = n) (hln : n ≤ 3518437208800) (hB : B ≤ w.heap.size) (hR : RdT w B A t) :
    Calls Tryz.prog 121 #[.slice A n c, strV s] w (IntEnd w (ixV (ixF (isN s) t))) := by
  have HN := Lib.hid hn; clear hn
  obtain ⟨iv, hiv⟩ : ∃ iv, ixV (ixF (isN s) t) = iv := ⟨_, rfl⟩
  have hI := fun W hB hR hb hcb => Index_find s A c n w.heap.size B t W HN.out hln hB hR hb hcb
  rw [hiv] at hI ⊢
  have HI := Lib.hid hI
  clear hiv hI
  go_enter Tryz.func121, Tryz.ntmps121
  go_wp2_with fail
  refine (HI.out (w.alloc (.cells #[strV s] 9)) (Nat.le_trans hB (by simp)) (hR.below ((Below.refl _ _).alloc hB _)) (by simp) ((Blk.new w 9 #[strV s]).cell 0 rfl)).mono ?_
  rintro e w' ⟨rfl, hb⟩
  go_wp2
  go_ret
  exact ⟨rfl, ((Below.refl _ _).alloc (Nat.le_refl _) _).trans (hb.mono (by simp))⟩

theorem place (s : List UInt8) (A : Option Addr) (c n B : Nat) (t : TR) (w : World) (hn : t.length = n) (hln : n ≤ 3518437208800) (hB : B ≤ w.heap.size) (hR : RdT w B A t) :
    Calls Tryz.prog 127 #[.slice A n c, strV s] w (IntEnd w (((ixF (gtN s) t).getD n : Nat) : Int)) := by
  have HN := Lib.hid hn; clear hn
  have hI := fun W hB hR hb hcb => Index_place s A c n w.heap.size B t W HN.out hln hB hR hb hcb
  obtain ⟨o, ho⟩ : ∃ o, ixF (gtN s) t = o := ⟨_, rfl⟩
  rw [ho] at hI ⊢
  have HI := Lib.hid hI
  clear ho hI
  cases o with
  | none =>
    go_enter Tryz.func127, Tryz.ntmps127
    go_wp2_with fail
    refine (HI.out (w.alloc (.cells #[strV s] 9)) (Nat.le_trans hB (by simp)) (hR.below ((Below.refl _ _).alloc hB _)) (by simp) ((Blk.new w 9 #[strV s]).cell 0 rfl)).mono ?_
    rintro e w' ⟨rfl, hb⟩
    simp only [ixV]
    go_wp2
    go_ret
    exact ⟨rfl, ((Below.refl _ _).alloc (Nat.le_refl _) _).trans (hb.mono (by simp))⟩
  | some k =>
    go_enter Tryz.func127, Tryz.ntmps127
    go_wp2_with fail
    refine (HI.out (w.alloc (.cells #[strV s] 9)) (Nat.le_trans hB (by simp)) (hR.below ((Below.refl _ _).alloc hB _)) (by simp) ((Blk.new w 9 #[strV s]).cell 0 rfl)).mono ?_
    rintro e w' ⟨rfl, hb⟩
    simp only [ixV]
    go_wp2
    go_ret
    exact ⟨rfl, ((Below.refl _ _).alloc (Nat.le_refl _) _).trans (hb.mono (by simp))⟩

end Tr
end Go.Proofs.YtfnhjflocfmcoaaGreat

namespace Go.Proofs.YtfnhjflocfmcoaaGreat
open Go.RowKit
set_option linter.unusedVariables false
namespace Tr
open Tx

set_option maxHeartbeats 1000000 in
theorem GetH (s : List UInt8) (A : Option Addr) (c n B : Nat) (t : TR) (w : World) (hn : t.length = n) (hs : Wide t) (hB : B ≤ w.heap.size) (hR : RdT w B A t) :
    Calls Tryz.prog 103 #[.slice A n c, strV s] w (GetEndH w (get t s)) := by
  have hln : n ≤ 3518437208800 := by rw [← hn]; exact hs.len
  have hF := fun w hB hR => find s A c n B t w hn hln hB hR
  have HN := Lib.hid hn; clear hn
  have HS := Lib.hid hs; clear hs
  cases hi : ixF (isN s) t with
  | none =>
    have HE := Lib.hid (get_ix_none hi)
    rw [hi] at hF
    have HF := Lib.hid hF; clear hF hi
    go_enter Tryz.func103, Tryz.ntmps103
    go_wp2_with fail
    refine (HF.out w hB hR).mono ?_
    rintro e w1 ⟨rfl, hb⟩
    simp only [ixV]
    go_wp2
    go_ret2
    rw [HE.out]
    exact ⟨none, 0, rfl, Nat.le_refl _, .inl rfl, hi_none _, hb⟩
  | some k =>
    obtain ⟨hk, h1, h2, h3⟩ := get_ix hi
    have hsm := HS.out.all _ (List.getElem_mem hk)
    rw [hi] at hF
    have HF := Lib.hid hF; clear hF hi h3
    have HE := Lib.hid h2
    obtain ⟨x, hx⟩ : ∃ x, t[k] = x := ⟨_, rfl⟩
    have hkn : k < n := by rw [← HN.out]; exact hk
    rw [hx] at hsm HE h1
    have HX := Lib.hid hx
    have HK := Lib.hid hk
    clear h1 h2 hx
    go_enter Tryz.func103, Tryz.ntmps103
    go_wp2_with fail
    refine (HF.out w hB hR).mono ?_
    rintro e w1 ⟨rfl, hb⟩
    simp only [ixV]
    obtain ⟨a, rfl, hab, hat⟩ := (hR.below (hb.mono hB)).at_ HK.out
    rw [HX.out] at hat
    obtain ⟨c0, A1, c1, k1, hc1, hr1⟩ := hat
    obtain ⟨m, hm⟩ : ∃ m, x.2.length = m := ⟨_, rfl⟩
    have hm5 : m ≤ 8796093022208 := by rw [← hm]; exact Nat.le_trans hsm (by decide)
    rw [hm] at k1 hc1
    have HM := Lib.hid hm; have HR1 := Lib.hid hr1; have HB1 := Lib.hid hb
    clear hm hr1 hsm hb
    go_wp2_with fail
    refine (againL A1 c1 m B x.2 w1 HM.out hm5 (Nat.le_trans hB HB1.out.size) HR1.out).mono ?_
    rintro e w2 ⟨rfl, hr2, hg2⟩
    obtain ⟨A2, c2, e2, hc2, hrd⟩ := rd_of_own hr2
    injection e2 with e2 _ e3
    subst e2; subst e3
    have HRD := Lib.hid hrd; have HG2 := Lib.hid hg2
    clear hr2 hg2 hrd hc2
    go_wp2
    go_ret2
    rw [HE.out]
    refine ⟨some ⟨w1.heap.size, 0, none⟩, m, ?_, ?_, HRD.out, (fun a e => by injection e with e; subst e; exact HB1.out.size), HB1.out.trans ((below_gr HG2.out).mono HB1.out.size)⟩
    · simp only [Option.getD_some, HM.out]; rfl
    · simp only [Option.getD_some, HM.out]; exact Nat.le_refl _

theorem Get (s : List UInt8) (A : Option Addr) (c n B : Nat) (t : TR) (w : World) (hn : t.length = n) (hs : Wide t) (hB : B ≤ w.heap.size) (hR : RdT w B A t) :
    Calls Tryz.prog 103 #[.slice A n c, strV s] w (GetEnd w (get t s)) :=
  (GetH s A c n B t w hn hs hB hR).mono fun e w' h => h.end_

end Tr
end Go.Proofs.YtfnhjflocfmcoaaGreat

set_option maxRecDepth 100000
namespace Go.Proofs.YtfnhjflocfmcoaaGreat
namespace Pr
open Tx Sq Hk Tr
set_option linter.unusedVariables false

/-- A change. -/
structure Ch where
  k : Int
  nm : List UInt8
  to : List UInt8
  h : HU

theorem ch_ext {p q : Ch} (h1 : p.k = q.k) (h2 : p.nm = q.nm) (h3 : p.to = q.to) (h4 : p.h = q.h) : p = q := by
  cases p; cases q; simp only at h1 h2 h3 h4; subst h1 h2 h3 h4; rfl

def noneH : HU := ⟨0, [], []⟩
/-- A hunk without lines, at 0. -/
def noH (h : HU) : Bool := decide (h.pos = 0) && (decide (h.old.length = 0) && decide (h.new.length = 0))
theorem noH_iff {h : HU} : noH h = true ↔ h = noneH := by
  unfold noH
  simp only [Bool.and_eq_true, decide_eq_true_eq, List.length_eq_zero_iff]
  constructor
  · rintro ⟨h1, h2, h3⟩
    cases h; simp only at h1 h2 h3; subst h1 h2 h3; rfl
  · rintro rfl
    exact ⟨rfl, rfl, rfl⟩

def mayP (p : Ch) : Bool :=
  if p.k = 0 ∨ p.k = 1 then name p.nm && (decide (p.to = []) && noH p.h)
  else if p.k = 2 then name p.nm && (name p.to && (decide (p.to ≠ p.nm) && noH p.h))
  else if p.k = 3 then name p.nm && (decide (p.to = []) && mayH p.h)
  else if p.k = 4 then name p.nm && (decide (p.to = []) && (mayH p.h && decide (p.h.pos = 0)))
  else false
theorem mayP_cases {p : Ch} : mayP p = true ↔ name p.nm = true ∧ (((p.k = 0 ∨ p.k = 1) ∧ p.to = [] ∧ p.h = noneH) ∨ (p.k = 2 ∧ name p.to = true ∧ p.to ≠ p.nm ∧ p.h = noneH) ∨ (p.k = 3 ∧ p.to = [] ∧ mayH p.h = true) ∨ (p.k = 4 ∧ p.to = [] ∧ mayH p.h = true ∧ p.h.pos = 0)) := by
  unfold mayP
  by_cases h0 : p.k = 0 ∨ p.k = 1
  · have n2 : ¬ p.k = 2 := by omega
    have n3 : ¬ p.k = 3 := by omega
    have n4 : ¬ p.k = 4 := by omega
    rw [if_pos h0]
    simp [h0, n2, n3, n4, noH_iff]
  · rw [if_neg h0]
    by_cases h2 : p.k = 2
    · simp [h2, noH_iff]
    · rw [if_neg h2]
      by_cases h3 : p.k = 3
      · simp [h3]
      · rw [if_neg h3]
        by_cases h4 : p.k = 4
        · simp [h4]
        · rw [if_neg h4]
          simp [h0, h2, h3, h4]

def sameP (p q : Ch) : Bool := decide (p.k = q.k) && (decide (p.nm = q.nm) && (decide (p.to = q.to) && sameH p.h q.h))
theorem sameP_iff {p q : Ch} : sameP p q = true ↔ p = q := by
  unfold sameP sameH
  simp only [Bool.and_eq_true, decide_eq_true_eq]
  constructor
  · rintro ⟨h1, h2, h3, h4, h5, h6⟩
    refine ch_ext h1 h2 h3 ?_
    generalize p.h = a at *
    generalize q.h = b at *
    cases a; cases b; simp only at h4 h5 h6; subst h4 h5 h6; rfl
  · rintro rfl
    exact ⟨rfl, rfl, rfl, rfl, rfl, rfl⟩

/-- A change turned. -/
def turnP (p : Ch) : Ch :=
  if p.k = 0 then ⟨1, p.nm, p.to, p.h⟩
  else if p.k = 1 then ⟨0, p.nm, p.to, p.h⟩
  else if p.k = 2 then ⟨p.k, p.to, p.nm, p.h⟩
  else ⟨p.k, p.nm, p.to, turn p.h⟩
theorem turnP_0 {p : Ch} (h : p.k = 0) : turnP p = ⟨1, p.nm, p.to, p.h⟩ := by unfold turnP; rw [if_pos h]
theorem turnP_1 {p : Ch} (h : p.k = 1) : turnP p = ⟨0, p.nm, p.to, p.h⟩ := by unfold turnP; rw [if_neg (by omega), if_pos h]
theorem turnP_2 {p : Ch} (h : p.k = 2) : turnP p = ⟨2, p.to, p.nm, p.h⟩ := by unfold turnP; rw [if_neg (by omega), if_neg (by omega), if_pos h, h]
theorem turnP_h {p : Ch} (h0 : p.k ≠ 0) (h1 : p.k ≠ 1) (h2 : p.k ≠ 2) : turnP p = ⟨p.k, p.nm, p.to, turn p.h⟩ := by unfold turnP; rw [if_neg h0, if_neg h1, if_neg h2]
abbrev lt : List UInt8 → List UInt8 → Bool := Op.bytesLess

/-- What a file's lines become by a change of lines: an error, or lines. -/
def lineE (l : List (List UInt8)) (p : Ch) : Int := if p.k = 3 then applyE l p.h else if l = p.h.old then 0 else 5
def lineL (l : List (List UInt8)) (p : Ch) : List (List UInt8) := if p.k = 3 then applyL l p.h else p.h.new
/-- What a tree becomes by a change: an error, or a tree. -/
def doP (t : TR) (p : Ch) : Int × TR :=
  if mayP p = false then (1, [])
  else if p.k = 0 then (if (get t p.nm).isSome then (5, []) else (0, put lt t p.nm []))
  else match get t p.nm with
    | none => (5, [])
    | some l =>
      if p.k = 1 then (if l = [] then (0, del t p.nm) else (5, []))
      else if p.k = 2 then (if (get t p.to).isSome then (5, []) else (0, put lt (del t p.nm) p.to l))
      else if lineE l p = 0 then (0, put lt t p.nm (lineL l p)) else (lineE l p, [])

/-- The ways in which a change can be done. -/
theorem doP_cases {t u : TR} {p : Ch} (h : doP t p = (0, u)) : mayP p = true ∧ (
    (p.k = 0 ∧ get t p.nm = none ∧ u = put lt t p.nm []) ∨ (p.k = 1 ∧ get t p.nm = some [] ∧ u = del t p.nm) ∨
    (p.k = 2 ∧ ∃ l, get t p.nm = some l ∧ get t p.to = none ∧ u = put lt (del t p.nm) p.to l) ∨
    ((p.k = 3 ∨ p.k = 4) ∧ ∃ l, get t p.nm = some l ∧ lineE l p = 0 ∧ u = put lt t p.nm (lineL l p))) := by
  unfold doP at h
  split at h
  · injection h with h _; exact absurd h (by decide)
  · rename_i hm
    have hm : mayP p = true := by simpa using hm
    refine ⟨hm, ?_⟩
    split at h
    · rename_i hk
      split at h
      · injection h with h _; exact absurd h (by decide)
      · rename_i hg
        injection h with _ h
        exact .inl ⟨hk, by simpa using hg, h.symm⟩
    · rename_i h0
      split at h
      · injection h with h _; exact absurd h (by decide)
      · rename_i l hg
        split at h
        · rename_i hk
          split at h
          · rename_i hl
            injection h with _ h
            exact .inr (.inl ⟨hk, by rw [hg, hl], h.symm⟩)
          · injection h with h _; exact absurd h (by decide)
        · rename_i h1
          split at h
          · rename_i hk
            split at h
            · injection h with h _; exact absurd h (by decide)
            · rename_i hg2
              injection h with _ h
              exact .inr (.inr (.inl ⟨hk, l, hg, by simpa using hg2, h.symm⟩))
          · rename_i h2
            split at h
            · rename_i he
              injection h with _ h
              refine .inr (.inr (.inr ⟨?_, l, hg, he, h.symm⟩))
              rcases (mayP_cases.1 hm).2 with ⟨h | h, _⟩ | ⟨h, _⟩ | ⟨h, _⟩ | ⟨h, _⟩
              · exact absurd h h0
              · exact absurd h h1
              · exact absurd h h2
              · exact .inl h
              · exact .inr h
            · rename_i he
              injection h with h _
              exact absurd h he
theorem doP_0 {t : TR} {p : Ch} (hm : mayP p = true) (hk : p.k = 0) (hg : get t p.nm = none) : doP t p = (0, put lt t p.nm []) := by
  unfold doP; rw [if_neg (by rw [hm]; decide), if_pos hk, hg]; rfl
theorem doP_1 {t : TR} {p : Ch} (hm : mayP p = true) (hk : p.k = 1) (hg : get t p.nm = some []) : doP t p = (0, del t p.nm) := by
  unfold doP; rw [if_neg (by rw [hm]; decide), if_neg (by omega), hg]; simp only; rw [if_pos hk, if_pos trivial]
theorem doP_2 {t : TR} {p : Ch} {l : List (List UInt8)} (hm : mayP p = true) (hk : p.k = 2) (hg : get t p.nm = some l) (ht : get t p.to = none) : doP t p = (0, put lt (del t p.nm) p.to l) := by
  unfold doP; rw [if_neg (by rw [hm]; decide), if_neg (by omega), hg]; simp only; rw [if_neg (by omega), if_pos hk, ht]; rfl
theorem doP_h {t : TR} {p : Ch} {l : List (List UInt8)} (hm : mayP p = true) (hk : p.k = 3 ∨ p.k = 4) (hg : get t p.nm = some l) (he : lineE l p = 0) : doP t p = (0, put lt t p.nm (lineL l p)) := by
  unfold doP; rw [if_neg (by rw [hm]; decide), if_neg (by omega), hg]; simp only; rw [if_neg (by omega), if_neg (by omega), if_pos he]

/-- The names of files behind a change rise still. -/
theorem doP_up {t u : TR} {p : Ch} (hu : Up lt t) (h : doP t p = (0, u)) : Up lt u := by
  obtain ⟨_, h⟩ := doP_cases h
  rcases h with ⟨_, _, rfl⟩ | ⟨_, _, rfl⟩ | ⟨_, l, _, _, rfl⟩ | ⟨_, l, _, _, rfl⟩
  · exact up_put lin hu _ _
  · exact up_del hu _
  · exact up_put lin (up_del hu _) _ _
  · exact up_put lin hu _ _

/-- A change changes no other file than those it names. -/
theorem doP_keeps {t u : TR} {p : Ch} (hu : Up lt t) (h : doP t p = (0, u)) {o : List UInt8} (h1 : o ≠ p.nm) (h2 : p.k = 2 → o ≠ p.to) : get u o = get t o := by
  obtain ⟨_, h⟩ := doP_cases h
  rcases h with ⟨_, _, rfl⟩ | ⟨_, _, rfl⟩ | ⟨hk, l, _, _, rfl⟩ | ⟨_, l, _, _, rfl⟩
  · rw [get_put, if_neg h1.symm]
  · rw [get_del lin hu, if_neg h1.symm]
  · rw [get_put, if_neg (h2 hk).symm, get_del lin hu, if_neg h1.symm]
  · rw [get_put, if_neg h1.symm]

/-- What is told beside an error is nothing. -/
theorem doP_none {t : TR} {p : Ch} (h : (doP t p).1 ≠ 0) : (doP t p).2 = [] := by
  unfold doP at *
  split
  · rfl
  · rename_i h1
    rw [if_neg h1] at h
    split
    · rename_i h2
      rw [if_pos h2] at h
      split
      · rfl
      · rename_i h3; rw [if_neg h3] at h; exact absurd rfl h
    · rename_i h2
      rw [if_neg h2] at h
      split
      · rfl
      · rename_i l hg
        rw [hg] at h
        simp only at h
        split
        · rename_i h3
          rw [if_pos h3] at h
          split
          · rename_i h4; rw [if_pos h4] at h; exact absurd rfl h
          · rfl
        · rename_i h3
          rw [if_neg h3] at h
          split
          · rename_i h4
            rw [if_pos h4] at h
            split
            · rfl
            · rename_i h5; rw [if_neg h5] at h; exact absurd rfl h
          · rename_i h4
            rw [if_neg h4] at h
            split
            · rename_i h5; rw [if_pos h5] at h; exact absurd rfl h
            · rfl

end Pr
end Go.Proofs.YtfnhjflocfmcoaaGreat

namespace Go.Proofs.YtfnhjflocfmcoaaGreat
open Go.ChangeShapes Go.WideShapes Go.ChangeAt Go.RowKit Go.Deep Go.Joins
set_option linter.unusedVariables false
namespace Pr
open Tx Df Sq Hk Tr

/-- The value of a change. -/
abbrev prV (k : Int) (nm to : List UInt8) (p : Int) (A : Option Addr) (n c : Nat) (A' : Option Addr) (n' c' : Nat) : Value := .agg #[.int .i64 k, strV nm, strV to, .int .i64 p, .slice A n c, .slice A' n' c']

/-- Two slice values that read, below block B, as a change's lines. -/
structure PV (w : World) (B : Nat) (A : Option Addr) (n c : Nat) (A' : Option Addr) (n' c' : Nat) (p : Ch) : Prop where
  h : HV w B A n c A' n' c' p.h
  k : I64 p.k
  nm : p.nm.length ≤ maxLen
  to : p.to.length ≤ maxLen
  s : ∀ x ∈ p.h.old, x.length ≤ maxLen
  s' : ∀ x ∈ p.h.new, x.length ≤ maxLen

section
variable {w w' : World} {B B' : Nat} {A A' : Option Addr} {n c n' c' : Nat} {p : Ch}
theorem PV.below (v : PV w B A n c A' n' c' p) (hb : Below B w w') : PV w' B A n c A' n' c' p := ⟨v.h.below hb, v.k, v.nm, v.to, v.s, v.s'⟩
theorem PV.up (v : PV w B A n c A' n' c' p) (hB : B ≤ B') : PV w B' A n c A' n' c' p := ⟨v.h.up hB, v.k, v.nm, v.to, v.s, v.s'⟩
theorem PV.mv (v : PV w w.heap.size A n c A' n' c' p) (hb : Below w.heap.size w w') : PV w' w'.heap.size A n c A' n' c' p := (v.below hb).up hb.size
theorem PV.drewN (v : PV w B A n c A' n' c' p) (d : Nat) : PV (w.drewN d) B A n c A' n' c' p := ⟨v.h.drewN d, v.k, v.nm, v.to, v.s, v.s'⟩
end

section
variable {H : Type} {enc : TypeId × Value → H} {W : World} {base : Nat} {spare : Nat → Bool} {held : Bool}

end

end Pr
end Go.Proofs.YtfnhjflocfmcoaaGreat

namespace Go.Proofs.YtfnhjflocfmcoaaGreat
open Go.RowKit
set_option linter.unusedVariables false
set_option linter.unusedSimpArgs false
namespace Pr
open Tx Df Sq Hk Tr

theorem kinds (k : Int) : k = 0 ∨ k = 1 ∨ k = 2 ∨ k = 3 ∨ k = 4 ∨ ((k == 0) = false ∧ (k == 1) = false ∧ (k == 2) = false ∧ (k == 3) = false ∧ (k == 4) = false) := by
  by_cases h0 : k = 0
  · exact .inl h0
  by_cases h1 : k = 1
  · exact .inr (.inl h1)
  by_cases h2 : k = 2
  · exact .inr (.inr (.inl h2))
  by_cases h3 : k = 3
  · exact .inr (.inr (.inr (.inl h3)))
  by_cases h4 : k = 4
  · exact .inr (.inr (.inr (.inr (.inl h4))))
  exact .inr (.inr (.inr (.inr (.inr ⟨beq_eq_false_iff_ne.2 h0, beq_eq_false_iff_ne.2 h1, beq_eq_false_iff_ne.2 h2, beq_eq_false_iff_ne.2 h3, beq_eq_false_iff_ne.2 h4⟩))))

/-- The box of a change. -/
abbrev box (w : World) (k : Int) (nm to : List UInt8) (q : Int) (A : Option Addr) (n c : Nat) (A' : Option Addr) (n' c' : Nat) : World := w.alloc (.cells #[.int .i64 k, strV nm, strV to, .int .i64 q, .slice A n c, .slice A' n' c'] 55)

end Pr
end Go.Proofs.YtfnhjflocfmcoaaGreat

namespace Go.Proofs.YtfnhjflocfmcoaaGreat
open Go.RowKit
set_option linter.unusedVariables false
set_option linter.unusedSimpArgs false
namespace Pr
open Tx Df Sq Hk Tr

def lightP (p : Ch) : Bool := (light p.h.old 300 && light p.h.new 300) && (decide (p.nm.length ≤ 100) && decide (p.to.length ≤ 100))

set_option maxHeartbeats 2000000 in
theorem LightP (A : Option Addr) (n c : Nat) (A' : Option Addr) (n' c' B : Nat) (p : Ch) (w : World) (b : Bool) (hB : B ≤ w.heap.size) (hv : PV w B A n c A' n' c' p) (hb : lightP p = b) :
    Calls Tryz.prog 48 #[prV p.k p.nm p.to p.h.pos A n c A' n' c'] w (TestEnd w b) := by
  obtain ⟨k, nm, to, h⟩ := p
  obtain ⟨vh, vk, vn, vt, vs, vs'⟩ := hv
  dsimp only at vh vk vn vt vs vs' ⊢
  obtain ⟨bl, hbl⟩ : ∃ b, (light h.old 300 && light h.new 300) = b := ⟨_, rfl⟩
  have h3 := fun w hB hv => LightH A n c A' n' c' B h w hB hv
  rw [hbl] at h3
  have hbx : Below w.heap.size w (box w k nm to h.pos A n c A' n' c') := (Below.refl _ _).alloc (Nat.le_refl _) _
  have HL : Hid (b = (bl && (decide (nm.length ≤ 100) && decide (to.length ≤ 100)))) := Lib.hid (by rw [← hb, ← hbl]; rfl)
  have HVH := Lib.hid vh; have HBX := Lib.hid hbx; have H3 := Lib.hid h3
  obtain ⟨zn, hzn, hzn2⟩ : ∃ z : ByteArray, strV nm = .string z ∧ z.size = nm.length := ⟨_, rfl, size_strV nm⟩
  obtain ⟨zt, hzt, hzt2⟩ : ∃ z : ByteArray, strV to = .string z ∧ z.size = to.length := ⟨_, rfl, size_strV to⟩
  rw [← hzn2] at HL vn
  rw [← hzt2] at HL vt
  clear vh vs vs' hb hbl h3 hbx hzn2 hzt2
  unfold maxLen at vn vt
  unfold box at HBX
  unfold prV
  rw [hzn, hzt] at HBX ⊢
  clear hzn hzt
  generalize h.pos = q at *
  go_enter Tryz.func48, Tryz.ntmps48
  go_wp2_with fail
  refine (H3.out _ (Nat.le_trans hB HBX.out.size) (HVH.out.below (HBX.out.mono hB))).mono ?_
  rintro e w1 ⟨rfl, hb1⟩
  have b1 := (Blk.new w 55 #[.int .i64 k, .string zn, .string zt, .int .i64 q, .slice A n c, .slice A' n' c']).below hb1 (by simp)
  have hb01 : Below w.heap.size w w1 := HBX.out.trans (hb1.mono HBX.out.size)
  have HB01 := Lib.hid hb01
  have x1 : w1.cell? ⟨w.heap.size, 1, none⟩ = some (.string zn) := b1.cell 1 rfl
  have x2 : w1.cell? ⟨w.heap.size, 2, none⟩ = some (.string zt) := b1.cell 2 rfl
  clear b1 hb1 hb01 HBX H3 HVH
  cases bl with
  | false =>
    go_wp2
    go_ret
    exact ⟨ret_bool (by rw [HL.out]; rfl), HB01.out⟩
  | true =>
    by_cases h1 : zn.size ≤ 100
    · by_cases h2 : zt.size ≤ 100
      · go_wp2
        go_ret
        exact ⟨ret_bool (by rw [HL.out, decide_eq_true h1, decide_eq_true h2]; simp; omega), HB01.out⟩
      · go_wp2
        go_ret
        exact ⟨ret_bool (by rw [HL.out, decide_eq_true h1, decide_eq_false h2]; simp; omega), HB01.out⟩
    · go_wp2
      go_ret
      exact ⟨ret_bool (by rw [HL.out, decide_eq_false h1]; simp), HB01.out⟩

end Pr
end Go.Proofs.YtfnhjflocfmcoaaGreat

namespace Go.Proofs.YtfnhjflocfmcoaaGreat
open Go.RowKit
set_option linter.unusedVariables false
set_option linter.unusedSimpArgs false
namespace Pr
open Tx Df Sq Hk Tr

/-- How a call ends that makes the change q. -/
def PTEnd (w : World) (q : Ch) (e : Ending) (w' : World) : Prop :=
  ∃ A n c A' n' c', e = .returned (prV q.k q.nm q.to q.h.pos A n c A' n' c') ∧ PV w' w'.heap.size A n c A' n' c' q ∧ q.h.old.length = n ∧ q.h.new.length = n' ∧ Below w.heap.size w w'

theorem two_box (w : World) (o o' : Obj) : Below w.heap.size w ((w.alloc o).alloc o') := ((Below.refl _ _).alloc (Nat.le_refl _) o).alloc (by simp) o'

/-- All six cells are set. -/
theorem blk6 {W : World} {b : Nat} {t : TypeId} {x0 x1 x2 x3 x4 x5 : Value} (h : Blk W b t #[x0, x1, x2, x3, x4, x5]) (v0 v1 v2 v3 v4 v5 : Value) : Blk ((((((World.setCell W ⟨b, 0, none⟩ v0).setCell ⟨b, 1, none⟩ v1).setCell ⟨b, 2, none⟩ v2).setCell ⟨b, 3, none⟩ v3).setCell ⟨b, 4, none⟩ v4).setCell ⟨b, 5, none⟩ v5) b t #[v0, v1, v2, v3, v4, v5] :=
  have b0 : Blk _ b t #[v0, x1, x2, x3, x4, x5] := h.set 0 v0
  have b1 : Blk _ b t #[v0, v1, x2, x3, x4, x5] := b0.set 1 v1
  have b2 : Blk _ b t #[v0, v1, v2, x3, x4, x5] := b1.set 2 v2
  have b3 : Blk _ b t #[v0, v1, v2, v3, x4, x5] := b2.set 3 v3
  have b4 : Blk _ b t #[v0, v1, v2, v3, v4, x5] := b3.set 4 v4
  have b5 : Blk _ b t #[v0, v1, v2, v3, v4, v5] := b4.set 5 v5
  b5
/-- The last three. -/
theorem blk3 {W : World} {b : Nat} {t : TypeId} {x0 x1 x2 x3 x4 x5 : Value} (h : Blk W b t #[x0, x1, x2, x3, x4, x5]) (v3 v4 v5 : Value) : Blk (((World.setCell W ⟨b, 3, none⟩ v3).setCell ⟨b, 4, none⟩ v4).setCell ⟨b, 5, none⟩ v5) b t #[x0, x1, x2, v3, v4, v5] :=
  have b3 : Blk _ b t #[x0, x1, x2, v3, x4, x5] := h.set 3 v3
  have b4 : Blk _ b t #[x0, x1, x2, v3, v4, x5] := b3.set 4 v4
  have b5 : Blk _ b t #[x0, x1, x2, v3, v4, v5] := b4.set 5 v5
  b5

/-- How a call ends that turns a change, its lines as they are handed in. -/
def PTEndE (A : Option Addr) (n c : Nat) (A' : Option Addr) (n' c' : Nat) (p : Ch) (w : World) (e : Ending) (w' : World) : Prop :=
  (((p.k = 0 ∨ p.k = 1 ∨ p.k = 2) ∧ e = .returned (prV (turnP p).k (turnP p).nm (turnP p).to (turnP p).h.pos A n c A' n' c')) ∨ (¬ (p.k = 0 ∨ p.k = 1 ∨ p.k = 2) ∧ e = .returned (prV (turnP p).k (turnP p).nm (turnP p).to (turnP p).h.pos A' n' c' A n c))) ∧ Below w.heap.size w w'
theorem PTEndE.end_ {A A' : Option Addr} {n c n' c' B : Nat} {p : Ch} {w w' : World} {e : Ending} (h : PTEndE A n c A' n' c' p w e w') (hB : B ≤ w.heap.size) (hv : PV w B A n c A' n' c' p) : PTEnd w (turnP p) e w' := by
  obtain ⟨h, hb⟩ := h
  have h1 := (hv.below (hb.mono hB)).up (Nat.le_trans hB hb.size)
  rcases h with ⟨hk, rfl⟩ | ⟨hk, rfl⟩
  · refine ⟨A, n, c, A', n', c', rfl, ?_, ?_, ?_, hb⟩
    · rcases hk with hk | hk | hk
      · rw [turnP_0 hk]; exact ⟨h1.h, by unfold I64; dsimp only; omega, h1.nm, h1.to, h1.s, h1.s'⟩
      · rw [turnP_1 hk]; exact ⟨h1.h, by unfold I64; dsimp only; omega, h1.nm, h1.to, h1.s, h1.s'⟩
      · rw [turnP_2 hk]; exact ⟨h1.h, by unfold I64; dsimp only; omega, h1.to, h1.nm, h1.s, h1.s'⟩
    · rcases hk with hk | hk | hk
      · rw [turnP_0 hk]; exact hv.h.l
      · rw [turnP_1 hk]; exact hv.h.l
      · rw [turnP_2 hk]; exact hv.h.l
    · rcases hk with hk | hk | hk
      · rw [turnP_0 hk]; exact hv.h.l'
      · rw [turnP_1 hk]; exact hv.h.l'
      · rw [turnP_2 hk]; exact hv.h.l'
  · have e1 : turnP p = ⟨p.k, p.nm, p.to, turn p.h⟩ := turnP_h (fun h => hk (.inl h)) (fun h => hk (.inr (.inl h))) (fun h => hk (.inr (.inr h)))
    refine ⟨A', n', c', A, n, c, rfl, ?_, ?_, ?_, hb⟩
    · rw [e1]; exact ⟨h1.h.turn, h1.k, h1.nm, h1.to, h1.s', h1.s⟩
    · rw [e1]; exact hv.h.l'
    · rw [e1]; exact hv.h.l

end Pr
end Go.Proofs.YtfnhjflocfmcoaaGreat

namespace Go.Proofs.YtfnhjflocfmcoaaGreat
open Go.RowKit
set_option linter.unusedVariables false
set_option linter.unusedSimpArgs false
namespace Pr
open Tx Df Sq Hk Tr

/-- How a call ends that changes a tree: the error and the tree. -/
def DoEnd (w : World) (r : Int × TR) (e : Ending) (w' : World) : Prop :=
  ∃ A k c, e = .returned (.tuple #[.slice A k c, .int .i64 r.1]) ∧ k ≤ c ∧ r.2.length = k ∧ RdT w' w'.heap.size A r.2 ∧ Below w.heap.size w w'
theorem doEnd_err {w w' : World} {r : Int × TR} {i : Int} (h : r = (i, [])) (hb : Below w.heap.size w w') : DoEnd w r (.returned (.tuple #[.slice none 0 0, .int .i64 i])) w' := by
  subst h
  exact ⟨none, 0, 0, rfl, Nat.le_refl _, rfl, .inl rfl, hb⟩
theorem doEnd_ok {w w' : World} {r : Int × TR} {P : TR} {A : Option Addr} {c : Nat} (h : r = (0, P)) (hc : P.length ≤ c) (hR : RdT w' w'.heap.size A P) (hb : Below w.heap.size w w') : DoEnd w r (.returned (.tuple #[.slice A P.length c, .int .i64 0])) w' := by
  subst h
  exact ⟨A, P.length, c, rfl, hc, rfl, hR, hb⟩
theorem rdT_mv {w w' : World} {A : Option Addr} {t : TR} (h : RdT w w.heap.size A t) (hb : Below w.heap.size w w') : RdT w' w'.heap.size A t := (h.below hb).up hb.size
theorem rdS_to {w w' : World} {A : Option Addr} {l : List (List UInt8)} (h : RdS w w.heap.size A l) (hb : Below w.heap.size w w') : RdS w' w'.heap.size A l := (Rd.below h hb).up hb.size
theorem below_to {w0 w w' : World} (h : Below w0.heap.size w0 w) (hb : Below w.heap.size w w') : Below w0.heap.size w0 w' := h.trans (hb.mono h.size)

/-- What a change does to a tree, from what is told of its file. -/
def doG (t : TR) (p : Ch) (g : Option (List (List UInt8))) : Int × TR :=
  match g with
  | none => (5, [])
  | some l =>
    if p.k = 1 then (if l = [] then (0, del t p.nm) else (5, []))
    else if p.k = 2 then (if (get t p.to).isSome then (5, []) else (0, put lt (del t p.nm) p.to l))
    else if lineE l p = 0 then (0, put lt t p.nm (lineL l p)) else (lineE l p, [])

theorem lightP_h {p : Ch} (h : lightP p = true) : p.h.old.length ≤ 300 ∧ p.h.new.length ≤ 300 := by
  simp only [lightP, light, Bool.and_eq_true, decide_eq_true_eq] at h
  exact ⟨h.1.1.1, h.1.2.1⟩

end Pr
end Go.Proofs.YtfnhjflocfmcoaaGreat

namespace Go.Proofs.YtfnhjflocfmcoaaGreat
open Go.RowKit
set_option linter.unusedVariables false
set_option linter.unusedSimpArgs false
namespace Pr
open Tx Df Sq Hk Tr

end Pr
end Go.Proofs.YtfnhjflocfmcoaaGreat
