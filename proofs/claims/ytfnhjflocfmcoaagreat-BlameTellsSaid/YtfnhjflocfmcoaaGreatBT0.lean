/-
  Words and contracts, joined: GQ GP GX GS GH.
-/
import Derived.Test.YtfnhjflocfmcoaaGreatRows
import Derived.WalkKit
import Derived.WalkSpells
import Derived.WalkLawsBesides
import Derived.Lib.Hide
import Derived.Deep.Draws
import Derived.Laws.OwnMore
import Derived.ArgAppend
import Derived.Below
import Derived.Deep.QuietTactic
import Derived.BigQuiet
import Derived.ProofKit
import Derived.OpenShut
import Derived.ShutString
import Derived.ChangeOld
import Derived.RangeFuncBox
import Derived.Laws.CopyOwn
import Derived.Deep.RegionLaw
import Derived.Lib.Bytealg
import Derived.Lib.Bytes
import Derived.Lib.SmallJoins
import Derived.Deep.RegionHeld3
set_option maxRecDepth 100000
namespace Go.Proofs.YtfnhjflocfmcoaaGreat
open Go.RowKit
set_option linter.unusedVariables false
namespace Tx

/-- The value of a line. -/
abbrev strV (l : List UInt8) : Value := .string ⟨l.toArray⟩
theorem size_strV (l : List UInt8) : (ByteArray.mk l.toArray).size = l.length := by simp [ByteArray.size]
theorem ret_bool {a b : Bool} (h : a = b) : Ending.returned (.bool a) = .returned (.bool b) := by rw [h]
theorem take_snoc' {α : Type} {ls : List α} {k : Nat} (h : k < ls.length) : ls.take (k + 1) = ls.take k ++ [ls[k]] := List.take_succ_eq_append_getElem h

theorem add_block (a : Addr) (n : Nat) : (a.add n).block = a.block := by unfold Addr.add; split <;> rfl
theorem add_add (a : Addr) (i j : Nat) : (a.add i).add j = a.add (i + j) := by
  unfold Addr.add
  by_cases hi : i = 0 <;> by_cases hj : j = 0 <;> simp [hi, hj, Nat.add_assoc]
theorem add_zero' (a : Addr) : a.add 0 = a := by simp [Addr.add]

/-- The address A leads, below block B, to the cells xs; or there are none. -/
def Rd (w : World) (B : Nat) (A : Option Addr) (xs : List Value) : Prop :=
  xs = [] ∨ ∃ a, A = some a ∧ a.block < B ∧ ∀ j u, xs[j]? = some u → w.cell? (a.add j) = some u
def RdS (w : World) (B : Nat) (A : Option Addr) (ls : List (List UInt8)) : Prop := Rd w B A (ls.map strV)

section
variable {w w' : World} {B B' : Nat} {A : Option Addr} {xs : List Value}
theorem Rd.below (h : Rd w B A xs) (hb : Below B w w') : Rd w' B A xs := by
  rcases h with h | ⟨a, e, hlt, hc⟩
  · exact .inl h
  · exact .inr ⟨a, e, hlt, fun j u hu => (hb.cell (p := a.add j) (by rw [add_block]; exact hlt)).trans (hc j u hu)⟩
theorem Rd.up (h : Rd w B A xs) (hB : B ≤ B') : Rd w B' A xs := by
  rcases h with h | ⟨a, e, hlt, hc⟩
  · exact .inl h
  · exact .inr ⟨a, e, by omega, hc⟩
theorem Rd.take (h : Rd w B A xs) (k : Nat) : Rd w B A (xs.take k) := by
  rcases h with rfl | ⟨a, e, hlt, hc⟩
  · exact .inl (by simp)
  · refine .inr ⟨a, e, hlt, fun j u hu => hc j u ?_⟩
    rw [List.getElem?_take] at hu
    split at hu
    · exact hu
    · cases hu
theorem Rd.drop (h : Rd w B A xs) {k cap : Nat} (hc : xs.length ≤ cap) : Rd w B (if cap = k then A else A.map (·.add k)) (xs.drop k) := by
  by_cases e : cap = k
  · subst e; exact .inl (List.drop_of_length_le hc)
  · rw [if_neg e]
    rcases h with rfl | ⟨a, rfl, hlt, hcell⟩
    · exact .inl (by simp)
    · refine .inr ⟨a.add k, rfl, by rw [add_block]; exact hlt, fun j u hu => ?_⟩
      rw [add_add]
      exact hcell _ u (by rw [← hu, List.getElem?_drop])
theorem Rd.at_ (h : Rd w B A xs) {k : Nat} (hk : k < xs.length) : ∃ a, A = some a ∧ a.block < B ∧ w.cell? (a.add k) = some xs[k] := by
  rcases h with rfl | ⟨a, e, hlt, hc⟩
  · exact absurd hk (by simp)
  · exact ⟨a, e, hlt, hc k _ (List.getElem?_eq_getElem hk)⟩
theorem Rd.none_nil (h : Rd w B none xs) : xs = [] := by
  rcases h with h | ⟨a, h, _⟩
  · exact h
  · cases h
theorem Rd.drewN (h : Rd w B A xs) (d : Nat) : Rd (w.drewN d) B A xs := by
  rcases h with h | ⟨a, e, hlt, hc⟩
  · exact .inl h
  · exact .inr ⟨a, e, hlt, fun j u hu => by simpa using hc j u hu⟩
end

theorem RdS.at' {w : World} {B : Nat} {A : Option Addr} {ls : List (List UInt8)} (h : RdS w B A ls) {k : Nat} (hk : k < ls.length) : ∃ a, A = some a ∧ w.cell? (a.add k) = some (strV ls[k]) := by
  obtain ⟨a, e, _, hc⟩ := h.at_ (k := k) (by simpa using hk)
  exact ⟨a, e, by rw [hc]; simp⟩

theorem strs_one (ls : List (List UInt8)) : ∀ u ∈ ls.map strV, u.oneCell' = true := by
  intro u hu
  obtain ⟨c, _, rfl⟩ := List.mem_map.1 hu
  simp [Value.oneCell']

theorem rd_of_own {w : World} {base : Nat} {e : TypeId} {v : Value} {n : Nat} {xs : List Value} (h : w.ownsRow base e 1 v n xs) : ∃ A cap, v = .slice A n cap ∧ n ≤ cap ∧ Rd w w.heap.size A xs := by
  rcases h.2 with ⟨rfl, rfl⟩ | ⟨g, cap, cur, rfl, hb, hg, hc, _, hcs, ht⟩
  · exact ⟨none, 0, rfl, Nat.le_refl _, .inl (List.eq_nil_of_length_eq_zero (by simpa using h.1))⟩
  · refine ⟨_, cap, rfl, hc, .inr ⟨_, rfl, (Array.getElem?_eq_some_iff.1 hg).1, fun j u hu => ?_⟩⟩
    have e1 : (⟨g, 0, none⟩ : Addr).add j = ⟨g, j, none⟩ := by unfold Addr.add; split <;> simp_all
    rw [e1, cell_of_row w g j cur e (0, 0) hg]
    rw [← ht, List.getElem?_take] at hu
    split at hu
    · simpa using hu
    · cases hu

theorem own_ge {w : World} {base e size n : Nat} {v : Value} {xs : List Value} (h : w.ownsRow base e size v n xs) : ∀ k, v.ownBlock = some k → base ≤ k := by
  intro k hk
  exact (h.lt k hk).1

theorem own_mono {w : World} {base base' e size n : Nat} {v : Value} {xs : List Value} (h : w.ownsRow base e size v n xs) (hb : base' ≤ base) : w.ownsRow base' e size v n xs := by
  refine ⟨h.1, ?_⟩
  rcases h.2 with h | ⟨g, cap, cur, h1, h2, h3⟩
  · exact .inl h
  · exact .inr ⟨g, cap, cur, h1, Nat.le_trans hb h2, h3⟩

theorem below_drewN {B : Nat} {w w' : World} (h : Below B w w') (d : Nat) : Below B w (w'.drewN d) := ⟨h.os, h.tape, h.output, h.size, h.block⟩

/-- A value that reads as xs and may be appended to without a write below 'base': it is full, or its row is one's own. -/
def App (w : World) (base : Nat) (e : TypeId) (v : Value) (n : Nat) (xs : List Value) : Prop :=
  ∃ A c, v = .slice A n c ∧ n ≤ c ∧ xs.length = n ∧ Rd w w.heap.size A xs ∧ (c = n ∨ w.ownsRow base e 1 v n xs)

theorem app_nil (w : World) (base : Nat) (e : TypeId) : App w base e (.slice none 0 0) 0 [] := ⟨none, 0, rfl, Nat.le_refl _, rfl, .inl rfl, .inl rfl⟩
theorem app_own {w : World} {base : Nat} {e : TypeId} {v : Value} {n : Nat} {xs : List Value} (h : w.ownsRow base e 1 v n xs) : App w base e v n xs := by
  obtain ⟨A, c, rfl, hc, hr⟩ := rd_of_own h
  exact ⟨A, c, rfl, hc, by simpa using h.1, hr, .inr h⟩

theorem app_mono {w : World} {base base' : Nat} {e : TypeId} {v : Value} {n : Nat} {xs : List Value} (h : App w base e v n xs) (hb : base' ≤ base) : App w base' e v n xs := by
  obtain ⟨A, c, h1, h2, h3, h4, h5⟩ := h
  exact ⟨A, c, h1, h2, h3, h4, h5.imp id fun h => own_mono h hb⟩

section
variable {P : Program} {w : World}

theorem run_app_empty {n c m c' : Nat} {t ty e : TypeId} {i : TypeInfo} {A A' : Option Addr} (ht : P.underlying t = some (.slice e)) (hi : P.info? e = some i) (hsize : i.size = 1) (hnc : n ≤ c) (hm : m = 0) :
    (Builtin.append_ #[t, t] ty #[.slice A n c, .slice A' m c']).run P w = .ok (.slice A n c) w := by
  subst hm
  cases A <;> cases A' <;> simp [Builtin.append_, run_underlying ht, sizeOf, typeInfo, hi, Builtin.lenOf, Builtin.firstCells, hnc, storeCells, loadCells, loadCellsFrom]

/-- An append of cells that are read, nil let in, onto a value that may be appended to. -/
theorem run_app {base B n m c bytes : Nat} {t ty e : TypeId} {i : TypeInfo} {z v : Value} {xs news : List Value} {A : Option Addr} (ht : P.underlying t = some (.slice e)) (hi : P.info? e = some i) (hz : i.zero = some z)
    (hsize : i.size = 1) (hby : i.bytes = bytes) (hzs : z.cells.size = 1) (hown : App w base e v n xs) (hl : news.length = m) (hr : Rd w B A news) (h1 : ∀ u ∈ news, u.oneCell' = true)
    (h63 : n + m ≤ maxLen) (hbytes : (n + m) * bytes ≤ 140737488355328) (hbase : base ≤ w.heap.size) :
    ∃ v' w', (Builtin.append_ #[t, t] ty #[v, .slice A m c]).run P w = .ok v' w' ∧ App w' base e v' (n + m) (xs ++ news) ∧ Below base w w' := by
  by_cases hm : m = 0
  · obtain ⟨A0, c0, rfl, hc0, hx0, hr0, hor⟩ := hown
    have hnil : news = [] := List.eq_nil_of_length_eq_zero (by omega)
    subst hnil
    refine ⟨_, w, run_app_empty ht hi hsize hc0 hm, ?_, Below.refl _ _⟩
    subst hm
    rw [List.append_nil, Nat.add_zero]
    exact ⟨A0, c0, rfl, hc0, hx0, hr0, hor⟩
  · obtain ⟨a, rfl, hcells⟩ : ∃ a, A = some a ∧ ∀ j u, news[j]? = some u → w.cell? (a.add j) = some u := by
      rcases hr with h | ⟨a, h, _, hc⟩
      · subst h; simp at hl; omega
      · exact ⟨a, h, hc⟩
    obtain ⟨A0, c0, rfl, hc0, hx0, hr0, hor⟩ := hown
    rcases hor with hcn | hown
    · cases A0 with
      | none =>
        have hx : xs = [] := hr0.none_nil
        subst hx
        simp at hx0
        subst hx0
        subst hcn
        obtain ⟨v', w', h2, h3, h4, _⟩ := run_append_own (P := P) w w.heap.size t ty e i z 1 bytes ht hi hz hsize hby hzs (by decide) (.slice none 0 0) 0 [] (World.ownsRow_nil w _ e 1) a m c news (by omega) hcells h1 h63 hbytes (Nat.le_refl _)
        exact ⟨v', w', h2, app_own (own_mono h3 hbase), (Below.refl base w).grown h4 hbase (fun k hk => by cases hk)⟩
      | some b =>
        have hold : ∀ j u, xs[j]? = some u → w.cell? (b.add j) = some u := by
          rcases hr0 with h | ⟨a', h, _, hc⟩
          · subst h; intro j u hu; simp at hu
          · injection h with h; subst h; exact hc
        obtain ⟨v', w', h2, h3, h4⟩ := run_append_arg_grows (P := P) w t ty e i z 1 bytes ht hi hz hsize hby hzs (by decide) b n c0 xs (by omega) hold a m c news (by omega) hcells (by omega) h63 hbytes
        exact ⟨v', w', h2, app_own (own_mono h3 hbase), (Below.refl base w).grown h4 hbase (fun k hk => by cases hk)⟩
    · obtain ⟨v', w', h2, h3, h4, _⟩ := run_append_own (P := P) w base t ty e i z 1 bytes ht hi hz hsize hby hzs (by decide) _ n xs hown a m c news (by omega) hcells h1 h63 hbytes hbase
      exact ⟨v', w', h2, app_own h3, (Below.refl base w).grown h4 hbase (own_ge hown)⟩

theorem wpList_app {ops : Array Oper} {rest : List Oper} {o : Oper} {a : Act} {Q : Exit → Act → World → Prop} (hgd : o.guard = none) (s x : Operand) (t : TypeId)
    (ho : o.op = .call { callee := .builtin .append, args := #[s, x], argTypes := #[t, t] })
    (base : Nat) (e : TypeId) (i : TypeInfo) (z : Value) (bytes : Nat) (ht : P.underlying t = some (.slice e)) (hi : P.info? e = some i) (hz : i.zero = some z)
    (hsize : i.size = 1) (hby : i.bytes = bytes) (hzs : z.cells.size = 1)
    (v : Value) (n : Nat) (xs : List Value) (hs : a.eval s = v) (hown : App w base e v n xs)
    (B : Nat) (A : Option Addr) (m c : Nat) (news : List Value) (hx : a.eval x = .slice A m c) (hl : news.length = m) (hr : Rd w B A news) (h1 : ∀ u ∈ news, u.oneCell' = true)
    (h63 : n + m ≤ maxLen) (hbytes : (n + m) * bytes ≤ 140737488355328) (hbase : base ≤ w.heap.size)
    (h : ∀ v' w', App w' base e v' (n + m) (xs ++ news) → Below base w w' → wpList P ops Q rest (a.put o.dst v') w') : wpList P ops Q (o :: rest) a w := by
  refine wpList_plain hgd fun K hK => ?_
  obtain ⟨v', w', hr, h2, h3⟩ := run_app (P := P) (c := c) (ty := o.type) ht hi hz hsize hby hzs hown hl hr h1 h63 hbytes hbase
  unfold Oper.wp execOp
  simp only [ho, resolve, invoke, builtin, Sem.run_bind, Sem.run_pure, Result.andThen_ok, List.map_toArray, List.map_cons, List.map_nil, hs, hx, hr]
  exact hK _ _ (h v' w' h2 h3)
end

theorem info_str : (Tryz.prog.info? 9).map (fun i => (i.zero, i.size, i.bytes)) = some (some (.string ⟨#[]⟩), 1, 16) := by kernel_rfl
/-- What an int holds. -/
def I64 (n : Int) : Prop := -9223372036854775808 ≤ n ∧ n ≤ 9223372036854775807

end Tx
end Go.Proofs.YtfnhjflocfmcoaaGreat

namespace Go.Proofs.YtfnhjflocfmcoaaGreat
open Go.RowKit
set_option linter.unusedVariables false
namespace Tx

def light (ls : List (List UInt8)) (most : Nat) : Bool := decide (ls.length ≤ most) && ls.all fun l => decide (l.length ≤ 200)

theorem light_false {ls : List (List UInt8)} {most : Nat} {x : List UInt8} (hm : x ∈ ls) (h : 200 < x.length) : light ls most = false := by
  have : (ls.all fun l => decide (l.length ≤ 200)) = false := by rw [List.all_eq_false]; exact ⟨x, hm, by simp; omega⟩
  simp [light, this]
theorem light_true {ls : List (List UInt8)} {most : Nat} (hl : ls.length ≤ most) (h : ∀ x ∈ ls, x.length ≤ 200) : light ls most = true := by
  have : (ls.all fun l => decide (l.length ≤ 200)) = true := by rw [List.all_eq_true]; intro x hx; simpa using h x hx
  simp [light, this, hl]

set_option maxHeartbeats 400000 in
theorem Light (A : Option Addr) (cap n B most : Nat) (ls : List (List UInt8)) (w : World) (hn : ls.length = n) (hnm : n ≤ maxLen) (hR : RdS w B A ls) (hm : most ≤ 1000) :
    Calls Tryz.prog 81 #[.slice A n cap, .int .i64 most] w fun e w' => e = .returned (.bool (light ls most)) ∧ w = w' := by
  unfold maxLen at hnm
  have HN := Lib.hid hn; clear hn
  by_cases h1 : most < n
  · have HF : Hid (light ls most = false) := Lib.hid (by unfold light; rw [HN.out]; simp; omega)
    go_enter Tryz.func81, Tryz.ntmps81
    go_wp2
    go_ret
    exact ⟨ret_bool HF.out.symm, rfl⟩
  · go_enter Tryz.func81, Tryz.ntmps81
    go_wp2
    go_loop [5] (fun i => ∃ k : Nat, k ≤ n ∧ i = .int .i64 k ∧ ∀ x ∈ ls.take k, x.length ≤ 200) (fun i => n - (intOf i).toNat)
    case atStart => exact ⟨0, Nat.zero_le _, rfl, by simp⟩
    case round =>
      obtain ⟨k, hk, rfl, hall⟩ := hrel
      have HA := Lib.hid hall; clear hall
      by_cases hlt : k < n
      · have hkl : k < ls.length := by rw [HN.out]; exact hlt
        obtain ⟨a, rfl, hcell⟩ := hR.at' hkl
        have hmem := List.getElem_mem hkl
        have HT := Lib.hid (take_snoc' hkl)
        generalize hx : ls[k] = x at *
        have HX := Lib.hid hx; clear hx
        obtain ⟨s, hs, hsl⟩ : ∃ s : ByteArray, strV x = .string s ∧ s.size = x.length := ⟨_, rfl, size_strV x⟩
        rw [hs] at hcell
        have HS := Lib.hid hsl; clear hsl hs
        by_cases hb : 200 < s.size
        · have HF := Lib.hid (light_false (most := most) hmem (by rw [← HS.out]; exact hb))
          go_wp2
          go_ret
          exact ⟨ret_bool HF.out.symm, rfl⟩
        · go_wp2
          go_round
          case rel => exact ⟨k + 1, by omega, by go_num, by rw [HT.out]; intro c hc; rcases List.mem_append.1 hc with h | h; exact HA.out c h; simp at h; rw [h]; have := HS.out; omega⟩
          case measure => simp [intOf]; omega
      · have HF : Hid (light ls most = true) := Lib.hid (light_true (by rw [HN.out]; omega) (by have := HA.out; rw [List.take_of_length_le (by rw [HN.out]; omega)] at this; exact this))
        go_wp2
        go_ret
        exact ⟨ret_bool HF.out.symm, rfl⟩

theorem take_eq_succ {α : Type} {xs ys : List α} {k : Nat} (hx : k < xs.length) (hy : k < ys.length) (h : xs.take k = ys.take k) (e : xs[k] = ys[k]) : xs.take (k + 1) = ys.take (k + 1) := by
  rw [take_snoc' hx, take_snoc' hy, h, e]

end Tx
end Go.Proofs.YtfnhjflocfmcoaaGreat

namespace Go.Proofs.YtfnhjflocfmcoaaGreat
open Go.RowKit
set_option linter.unusedVariables false
namespace Tx

/-- How Same ends: some draws, and whether the lists are one. -/
def SameEnd (w : World) (b : Bool) (e : Ending) (w' : World) : Prop := e = .returned (.bool b) ∧ ∃ k, w' = w.drewN k

theorem same_step {xs ys : List (List UInt8)} {k : Nat} (hx : k < xs.length) (hy : k < ys.length) (h : xs.take k = ys.take k) :
    (¬ xs[k] = ys[k] → decide (xs = ys) = false) ∧ (xs[k] = ys[k] → xs.take (k + 1) = ys.take (k + 1)) :=
  ⟨fun hne => decide_eq_false (fun e => hne (by subst e; rfl)), fun e => take_eq_succ hx hy h e⟩

set_option maxHeartbeats 400000 in
theorem Same (A A' : Option Addr) (cap cap' n n' B : Nat) (ls ms : List (List UInt8)) (w : World) (hn : ls.length = n) (hn' : ms.length = n') (hnm : n ≤ maxLen) (hR : RdS w B A ls) (hR' : RdS w B A' ms) :
    Calls Tryz.prog 69 #[.slice A n cap, .slice A' n' cap'] w (SameEnd w (decide (ls = ms))) := by
  unfold maxLen at hnm
  have HN := Lib.hid hn; clear hn
  have HN' := Lib.hid hn'; clear hn'
  by_cases h1 : n = n'
  · subst h1
    go_enter Tryz.func69, Tryz.ntmps69
    go_wp2
    go_loopw [5] (fun i wr => ∃ k : Nat, k ≤ n ∧ i = .int .i64 k ∧ ls.take k = ms.take k ∧ ∃ d, wr = w.drewN d) (fun i _ => n - (intOf i).toNat)
    case atStart => exact ⟨0, Nat.zero_le _, rfl, by simp, 0, rfl⟩
    case round =>
      obtain ⟨k, hk, rfl, hall, d, rfl⟩ := hrel
      have HA := Lib.hid hall; clear hall
      by_cases hlt : k < n
      · have hkl : k < ls.length := by rw [HN.out]; exact hlt
        have hkm : k < ms.length := by rw [HN'.out]; exact hlt
        obtain ⟨a, rfl, hcell⟩ := hR.at' hkl
        obtain ⟨a', rfl, hcell'⟩ := hR'.at' hkm
        have HD := Lib.hid (same_step hkl hkm HA.out)
        have hki : (k : Int) < (n : Int) := by omega
        go_wp2
        go_quiet (fail)
        go_wp2
        · have hb : (!ls[k] == ms[k]) = true := by assumption
          go_ret
          exact ⟨ret_bool (HD.out.1 (by simpa using hb)).symm, d + nq, by simp⟩
        · have hb : (!ls[k] == ms[k]) = false := by assumption
          refine ⟨⟨k + 1, by omega, by go_num, HD.out.2 (by simpa using hb), _, rfl⟩, by simp [intOf]; omega⟩
      · have HD : Hid (decide (ls = ms) = true) := Lib.hid (by
          have := HA.out
          rw [List.take_of_length_le (by rw [HN.out]; omega), List.take_of_length_le (by rw [HN'.out]; omega)] at this
          exact decide_eq_true this)
        go_wp2
        go_ret
        exact ⟨ret_bool HD.out.symm, _, rfl⟩
  · have HD : Hid (decide (ls = ms) = false) := Lib.hid (decide_eq_false (fun e => h1 (by rw [← HN.out, ← HN'.out, e])))
    have hne : ((n : Int) != (n' : Int)) = true := by rw [bne_iff_ne]; omega
    go_enter Tryz.func69, Tryz.ntmps69
    go_wp2
    go_ret
    exact ⟨ret_bool HD.out.symm, 0, rfl⟩

end Tx
end Go.Proofs.YtfnhjflocfmcoaaGreat

namespace Go.Proofs.YtfnhjflocfmcoaaGreat
open Go.ChangeShapes Go.WideShapes Go.ChangeAt Go.RowKit
namespace Tx

theorem lt_of_cell {w : World} {a : Addr} {v : Value} (h : w.cell? a = some v) : a.block < w.heap.size := by
  rcases Nat.lt_or_ge a.block w.heap.size with h' | h'
  · exact h'
  · simp [World.cell?, Array.getElem?_eq_none h'] at h

theorem rd_in {w : World} {a : Addr} {xs : List Value} (h : ∀ j u, xs[j]? = some u → w.cell? (a.add j) = some u) : Rd w w.heap.size (some a) xs := by
  cases xs with
  | nil => exact .inl rfl
  | cons x xs =>
    have h0 := lt_of_cell (h 0 x rfl)
    rw [add_block] at h0
    exact .inr ⟨a, rfl, h0, h⟩

theorem list_of {α : Type} {P : Nat → α → Prop} : ∀ (n : Nat), (∀ i, i < n → ∃ x, P i x) → ∃ l : List α, l.length = n ∧ ∀ i x, l[i]? = some x → P i x
  | 0, _ => ⟨[], rfl, fun i x h => by simp at h⟩
  | n + 1, h => by
    obtain ⟨l, h1, h2⟩ := list_of n fun i hi => h i (by omega)
    obtain ⟨y, hy⟩ := h n (by omega)
    refine ⟨l ++ [y], by simp [h1], fun i x hx => ?_⟩
    rcases Nat.lt_trichotomy i l.length with hi | hi | hi
    · rw [List.getElem?_append_left hi] at hx; exact h2 i x hx
    · subst hi; rw [List.getElem?_append_right (Nat.le_refl _), Nat.sub_self] at hx; cases hx; rw [h1]; exact hy
    · rw [List.getElem?_eq_none (by simp; omega)] at hx; cases hx

theorem i64_wf {n : Int} (h : (Lit.int .i64 n).wf = true) : I64 n := by
  simp only [Lit.wf, Bool.and_eq_true, decide_eq_true_eq] at h
  have h1 : IntKind.i64.min = -9223372036854775808 := by decide
  have h2 : IntKind.i64.max = 9223372036854775807 := by decide
  rw [h1, h2] at h
  exact h

/-- A slice of strings that is handed in: it reads as l. -/
structure StrArg (w : World) (A : Option Addr) (n c : Nat) (l : List (List UInt8)) : Prop where
  len : l.length = n
  cap : n ≤ c
  le : n ≤ maxLen
  rd : RdS w w.heap.size A l
  short : ∀ x ∈ l, x.length ≤ maxLen

section
variable {H : Type} {enc : TypeId × Value → H} {W : World} {base : Nat} {spare : Nat → Bool} {held : Bool}

theorem strs_in {fuel : Nat} {cs : List Value} {x : DataW H × List MemPlace} {A : Option Addr} {l c : Nat} (h : DataW.trod enc Tryz.prog W base spare held fuel 49 cs = some x) (hcs : cs = [.slice A l c]) :
    ∃ ls : List (List UInt8), StrArg W A l c ls := by
  rcases open_strings Tryz.underlying49 Tryz.underlying9 (by kernel_rfl) h with ⟨hcs', _⟩ | ⟨a, l', c', ss, hcs', _, hl, hm, hz, _, hcell, hws⟩
  · rw [hcs] at hcs'
    simp at hcs'
    obtain ⟨rfl, rfl, rfl⟩ := hcs'
    exact ⟨[], rfl, Nat.le_refl _, Nat.zero_le _, .inl rfl, fun x hx => by cases hx⟩
  · rw [hcs] at hcs'
    simp at hcs'
    obtain ⟨rfl, rfl, rfl⟩ := hcs'
    have hzl : l ≤ ss.length := by rw [hz]; split <;> omega
    refine ⟨(ss.take l).map fun s => s.data.toList, by simp; omega, hl, by omega, rd_in fun j u hu => ?_, fun x hx => ?_⟩
    · simp only [List.getElem?_map, Option.map_map] at hu
      rw [List.getElem?_take] at hu
      split at hu
      · have hj : j < ss.length := by omega
        rw [List.getElem?_eq_getElem hj] at hu
        simp at hu
        rw [hcell j hj, ← hu]
        simp [hj]
      · cases hu
    · obtain ⟨s, hs, rfl⟩ := List.mem_map.1 hx
      show s.data.toList.length ≤ maxLen
      rw [Array.length_toList]
      exact hws s (List.mem_of_mem_take hs)
theorem strs_any {fuel : Nat} {v : Value} {x : DataW H × List MemPlace} (h : DataW.trod enc Tryz.prog W base spare held fuel 49 [v] = some x) : ∃ A n c ls, v = .slice A n c ∧ StrArg W A n c ls := by
  obtain ⟨A, n, c, rfl⟩ : ∃ A n c, v = .slice A n c := by
    rcases open_strings Tryz.underlying49 Tryz.underlying9 (by kernel_rfl) h with ⟨h', _⟩ | ⟨a, l', c', ss, h', _⟩
    · injection h' with h'; exact ⟨_, _, _, h'⟩
    · injection h' with h'; exact ⟨_, _, _, h'⟩
  obtain ⟨ls, hs⟩ := strs_in h rfl
  exact ⟨A, n, c, ls, rfl, hs⟩
end

end Tx
end Go.Proofs.YtfnhjflocfmcoaaGreat

namespace Go.Proofs.YtfnhjflocfmcoaaGreat
open Go.RowKit
set_option linter.unusedVariables false
namespace Tx

/-- All blocks of another type than e are as they were. -/
def Typ (e : TypeId) (w w' : World) : Prop := ∀ (k : Nat) c t f, w.heap[k]? = some (.cells c t f) → t ≠ e → w'.heap[k]? = some (.cells c t f)
theorem Typ.refl (e : TypeId) (w : World) : Typ e w w := fun _ _ _ _ h _ => h
theorem Typ.trans {e : TypeId} {w w1 w2 : World} (h : Typ e w w1) (h' : Typ e w1 w2) : Typ e w w2 := fun k c t f hk ht => h' k c t f (h k c t f hk ht) ht
section
variable {P : Program} {w : World}

end

section
variable {P : Program} {w : World}
/-- An append of cells that are read, nil let in, onto nothing: a row of one's own. -/
theorem run_nil {B m c bytes : Nat} {t ty e : TypeId} {i : TypeInfo} {z : Value} {news : List Value} {A : Option Addr} (ht : P.underlying t = some (.slice e)) (hi : P.info? e = some i) (hz : i.zero = some z)
    (hsize : i.size = 1) (hby : i.bytes = bytes) (hzs : z.cells.size = 1) (hl : news.length = m) (hr : Rd w B A news) (h1 : ∀ u ∈ news, u.oneCell' = true) (h63 : m ≤ maxLen) (hbytes : m * bytes ≤ 140737488355328) :
    ∃ A' c' w', (Builtin.append_ #[t, t] ty #[.slice none 0 0, .slice A m c]).run P w = .ok (.slice A' m c') w' ∧ w'.ownsRow w.heap.size e 1 (.slice A' m c') m news ∧ w.grownBy w' none := by
  by_cases hm : m = 0
  · have hnil : news = [] := List.eq_nil_of_length_eq_zero (by omega)
    subst hnil; subst hm
    exact ⟨none, 0, w, run_app_empty ht hi hsize (Nat.le_refl _) rfl, World.ownsRow_nil w _ e 1, World.grownBy.refl w none⟩
  · obtain ⟨a, rfl, hcells⟩ : ∃ a, A = some a ∧ ∀ j u, news[j]? = some u → w.cell? (a.add j) = some u := by
      rcases hr with h | ⟨a, h, _, hc⟩
      · subst h; simp at hl; omega
      · exact ⟨a, h, hc⟩
    obtain ⟨v', w', h2, h3, h4, _⟩ := run_append_own (P := P) w w.heap.size t ty e i z 1 bytes ht hi hz hsize hby hzs (by decide) (.slice none 0 0) 0 [] (World.ownsRow_nil w _ e 1) a m c news (by omega) hcells h1 (by omega) (by rw [Nat.zero_add]; exact hbytes) (Nat.le_refl _)
    rw [Nat.zero_add, List.nil_append] at h3
    obtain ⟨A', c', rfl, _⟩ := rd_of_own h3
    exact ⟨A', c', w', h2, h3, h4⟩

theorem wpList_nil' {ops : Array Oper} {rest : List Oper} {o : Oper} {a : Act} {Q : Exit → Act → World → Prop} (hgd : o.guard = none) (s x : Operand) (t : TypeId)
    (ho : o.op = .call { callee := .builtin .append, args := #[s, x], argTypes := #[t, t] })
    (e : TypeId) (i : TypeInfo) (z : Value) (bytes : Nat) (ht : P.underlying t = some (.slice e)) (hi : P.info? e = some i) (hz : i.zero = some z)
    (hsize : i.size = 1) (hby : i.bytes = bytes) (hzs : z.cells.size = 1) (hs : a.eval s = .slice none 0 0)
    (B : Nat) (A : Option Addr) (m c : Nat) (news : List Value) (hx : a.eval x = .slice A m c) (hl : news.length = m) (hr : Rd w B A news) (h1 : ∀ u ∈ news, u.oneCell' = true)
    (h63 : m ≤ maxLen) (hbytes : m * bytes ≤ 140737488355328)
    (h : ∀ A' c' w', w'.ownsRow w.heap.size e 1 (.slice A' m c') m news → w.grownBy w' none → wpList P ops Q rest (a.put o.dst (.slice A' m c')) w') : wpList P ops Q (o :: rest) a w := by
  refine wpList_plain hgd fun K hK => ?_
  obtain ⟨A', c', w', hr, h2, h3⟩ := run_nil (P := P) (c := c) (ty := o.type) ht hi hz hsize hby hzs hl hr h1 h63 hbytes
  unfold Oper.wp execOp
  simp only [ho, resolve, invoke, builtin, Sem.run_bind, Sem.run_pure, Result.andThen_ok, List.map_toArray, List.map_cons, List.map_nil, hs, hx, hr]
  exact hK _ _ (h A' c' w' h2 h3)

end

def OwnEnd (w : World) (n : Nat) (xs : List Value) (e : Ending) (w' : World) : Prop :=
  ∃ A' c', e = .returned (.slice A' n c') ∧ w'.ownsRow w.heap.size 9 1 (.slice A' n c') n xs ∧ w.grownBy w' none

end Tx
end Go.Proofs.YtfnhjflocfmcoaaGreat

namespace Go.Proofs.YtfnhjflocfmcoaaGreat
open Go.RowKit
set_option linter.unusedVariables false
namespace Tx

/-- The block b holds the cells cs, of type t. -/
def Blk (W : World) (b : Nat) (t : TypeId) (cs : Array Value) : Prop := W.heap[b]? = some (.cells cs t (0, 0))

section
variable {W W' : World} {b : Nat} {t : TypeId} {cs : Array Value}
theorem Blk.lt (h : Blk W b t cs) : b < W.heap.size := (Array.getElem?_eq_some_iff.1 h).1
theorem Blk.new (W : World) (t : TypeId) (cs : Array Value) : Blk (W.alloc (.cells cs t)) W.heap.size t cs := World.alloc_heap_new W _
theorem Blk.gr {row : Option Nat} (h : Blk W b t cs) (hg : W.grownBy W' row) (hne : some b ≠ row) : Blk W' b t cs := (hg.block b h.lt hne).trans h
theorem Blk.alloc (h : Blk W b t cs) (o : Obj) : Blk (W.alloc o) b t cs := h.gr (World.grownBy_alloc W o none) (by simp)
theorem Blk.below {B : Nat} (h : Blk W b t cs) (hb : Below B W W') (hlt : b < B) : Blk W' b t cs := (hb.block b hlt).trans h
theorem Blk.drewN (h : Blk W b t cs) (d : Nat) : Blk (W.drewN d) b t cs := h
theorem Blk.cell (h : Blk W b t cs) (j : Nat) {u : Value} (hu : cs[j]? = some u) : W.cell? ⟨b, j, none⟩ = some u := by
  simp [World.cell?, show W.heap[b]? = _ from h, hu]
theorem Blk.frozen (h : Blk W b t cs) (j : Nat) : W.frozen? ⟨b, j, none⟩ = false := by simp [World.frozen?, show W.heap[b]? = _ from h]
theorem Blk.set (h : Blk W b t cs) (j : Nat) (v : Value) : Blk (W.setCell ⟨b, j, none⟩ v) b t (cs.setIfInBounds j v) := by
  obtain ⟨hlt, hk⟩ := Array.getElem?_eq_some_iff.1 h
  show (W.heap.modify b _)[b]? = _
  rw [Array.getElem?_eq_getElem (by rw [Array.size_modify]; exact hlt), Array.getElem_modify_self, hk]
  rfl
theorem grownBy_set (W : World) (b j : Nat) (v : Value) : W.grownBy (W.setCell ⟨b, j, none⟩ v) (some b) :=
  ⟨rfl, rfl, rfl, (KeepsWalks.setCell W _ v).size, fun k _ hk => Below.heap_setCell _ _ _ k (fun e => hk (by rw [e]))⟩
end

/-- A row of one's own, and a store to an elder block. -/
theorem own_set {W : World} {base e size n b : Nat} {v : Value} {xs : List Value} (h : W.ownsRow base e size v n xs) (hb : b < base) (j : Nat) (u : Value) : (W.setCell ⟨b, j, none⟩ u).ownsRow base e size v n xs :=
  h.kept (grownBy_set W b j u) (.inr fun e' => absurd (own_ge h b e') (by omega))
theorem own_gr {W W' : World} {base e size n : Nat} {v : Value} {xs : List Value} (h : W.ownsRow base e size v n xs) (hg : W.grownBy W' none) : W'.ownsRow base e size v n xs := h.kept hg (Classical.em _)
/-- What lies in another block lies there still. -/
theorem cell_gr {W w1 : World} {row : Option Nat} {p : Addr} {u : Value} (hg : W.grownBy w1 row) (hne : some p.block ≠ row) (hc : W.cell? p = some u) : w1.cell? p = some u :=
  (World.cell?_of_block (hg.block _ (World.block_lt_of_cell? W p hc) hne)).trans hc
theorem cell_set {W : World} {p : Addr} {b : Nat} {u : Value} (hc : W.cell? p = some u) (hne : p.block ≠ b) (j : Nat) (v : Value) : (W.setCell ⟨b, j, none⟩ v).cell? p = some u := cell_gr (grownBy_set W b j v) (fun e => hne (by injection e)) hc
theorem gr_of_drewN {W W' : World} {row : Option Nat} {d : Nat} (h : (W.drewN d).grownBy W' row) : W.grownBy W' row := ⟨h.os, h.tape, h.output, h.size, h.block⟩
theorem nn (b : Nat) : some b ≠ (none : Option Nat) := fun h => by cases h
theorem below_gr {W w1 : World} (hg : W.grownBy w1 none) : Below W.heap.size W w1 := (Below.refl _ W).grown hg (Nat.le_refl _) (fun k hk => by cases hk)

end Tx
end Go.Proofs.YtfnhjflocfmcoaaGreat

namespace Go.Proofs.YtfnhjflocfmcoaaGreat
open Go.RowKit
set_option linter.unusedVariables false
namespace Tx

section
variable {P : Program} {w : World}
theorem run_copy_own {dT sT ty e : TypeId} {i : TypeInfo} {base size g f n cap dLen dCap sLen sCap : Nat} {A : Option Addr} {xs cs : List Value} (hu : P.underlying dT = some (.slice e)) (hi : P.info? e = some i) (hsz : i.size = size)
    (hrow : w.ownsRow base e size (.slice (some ⟨g, 0, none⟩) n cap) n xs) (hn : cs.length = Nat.min sLen dLen * size) (hr : cs = [] ∨ ∃ a, A = some a ∧ ∀ j u, cs[j]? = some u → w.cell? (a.add j) = some u) (hfit : f + cs.length ≤ n * size) (h1 : ∀ u ∈ cs, u.oneCell' = true) :
    ∃ w', (Builtin.copy_ #[dT, sT] ty #[.slice (some ⟨g, f, none⟩) dLen dCap, .slice A sLen sCap]).run P w = .ok (goInt (Nat.min sLen dLen)) w' ∧ w'.ownsRow base e size (.slice (some ⟨g, 0, none⟩) n cap) n (splice xs f cs) ∧ w.grownBy w' (some g) := by
  subst hsz
  have hxl := hrow.1
  rcases hrow.2 with ⟨h', _⟩ | ⟨g', cap', cur, h', hb, hg, hc1, hc2, hc3, ht⟩
  · simp at h'
  simp only [Value.slice.injEq, Option.some.injEq, Addr.mk.injEq, and_true, true_and] at h'
  obtain ⟨rfl, rfl⟩ := h'
  have hcn : n * i.size ≤ cap * i.size := Nat.mul_le_mul_right _ hc1
  have hst := run_storeCells_at P g f e cs 0 cur w hg (by omega) h1
  rw [Nat.add_zero] at hst
  have hl : (Builtin.firstCells i.size (Nat.min sLen dLen) (.slice A sLen sCap)).run P w = .ok cs.toArray w := by
    rcases hr with rfl | ⟨a, rfl, hcell⟩
    · cases A with
      | none => simp [Builtin.firstCells]
      | some a =>
        have h0 : Nat.min sLen dLen * i.size = 0 := by rw [← hn]; rfl
        have := run_loadCells_list (P := P) w a [] (by simp)
        simp only [Builtin.firstCells, h0]
        exact this
    · have := run_loadCells_list (P := P) w a cs hcell
      simp only [Builtin.firstCells, ← hn]
      exact this
  refine ⟨w.setRow g (cur.toList.take f ++ cs ++ cur.toList.drop (f + cs.length)).toArray, ?_, ⟨?_, .inr ⟨g, cap, _, rfl, hb, setRow_heap w g cur _ e _ hg, hc1, hc2, ?_, ?_⟩⟩, ⟨rfl, rfl, rfl, by simp [World.setRow], fun k hk hne => setRow_other w g k _ (fun e => hne (by rw [e]))⟩⟩
  · simp [Builtin.copy_, run_underlying hu, Builtin.lenOf, sizeOf, typeInfo, hi, hl, hst]
  · rw [length_splice _ _ _ (by omega)]; exact hxl
  · simp only [List.size_toArray, List.length_append, List.length_take, List.length_drop, Array.length_toList]; omega
  · rw [← ht]
    unfold splice
    rw [List.take_take, Nat.min_eq_left (by omega), List.append_assoc, List.take_append, List.take_take, List.take_append, List.length_take, Array.length_toList, Nat.min_eq_right (by omega), Nat.min_eq_left (by omega), List.take_of_length_le (show cs.length ≤ n * i.size - f by omega), List.drop_take, Nat.sub_sub]

theorem wp_copy_own {o : Oper} {a : Act} {K : Act → World → Prop} {Q : Exit → Act → World → Prop} (d s : Operand) (dT sT : TypeId)
    (ho : o.op = .call { callee := .builtin .copy, args := #[d, s], argTypes := #[dT, sT] }) (e : TypeId) (i : TypeInfo) (base size g f n cap dLen dCap sLen sCap : Nat) (A : Option Addr) (xs cs : List Value) (hu : P.underlying dT = some (.slice e)) (hi : P.info? e = some i) (hsz : i.size = size)
    (hd : a.eval d = .slice (some ⟨g, f, none⟩) dLen dCap) (hs : a.eval s = .slice A sLen sCap)
    (hrow : w.ownsRow base e size (.slice (some ⟨g, 0, none⟩) n cap) n xs) (hn : cs.length = Nat.min sLen dLen * size) (hr : cs = [] ∨ ∃ a, A = some a ∧ ∀ j u, cs[j]? = some u → w.cell? (a.add j) = some u) (hfit : f + cs.length ≤ n * size) (h1 : ∀ u ∈ cs, u.oneCell' = true)
    (h : ∀ w', w'.ownsRow base e size (.slice (some ⟨g, 0, none⟩) n cap) n (splice xs f cs) → w.grownBy w' (some g) → K (a.put o.dst (goInt (Nat.min sLen dLen))) w') : o.wp P a w K Q := by
  obtain ⟨w', hrun, h2, h3⟩ := run_copy_own (P := P) (ty := o.type) (sT := sT) (dCap := dCap) (sCap := sCap) hu hi hsz hrow hn hr hfit h1
  unfold Oper.wp execOp
  simp only [ho, resolve, invoke, builtin, Sem.run_bind, Sem.run_pure, Result.andThen_ok, List.map_toArray, List.map_cons, List.map_nil, hd, hs, hrun]
  exact h w' h2 h3
theorem wpList_copy_own' {ops : Array Oper} {rest : List Oper} {o : Oper} {a : Act} {Q : Exit → Act → World → Prop} (hgd : o.guard = none) (d s : Operand) (dT sT : TypeId)
    (ho : o.op = .call { callee := .builtin .copy, args := #[d, s], argTypes := #[dT, sT] }) (e : TypeId) (i : TypeInfo) (base size g f n cap dLen dCap sLen sCap : Nat) (A : Option Addr) (xs cs : List Value) (hu : P.underlying dT = some (.slice e)) (hi : P.info? e = some i) (hsz : i.size = size)
    (hd : a.eval d = .slice (some ⟨g, f, none⟩) dLen dCap) (hs : a.eval s = .slice A sLen sCap)
    (hrow : w.ownsRow base e size (.slice (some ⟨g, 0, none⟩) n cap) n xs) (hn : cs.length = Nat.min sLen dLen * size) (hr : cs = [] ∨ ∃ a, A = some a ∧ ∀ j u, cs[j]? = some u → w.cell? (a.add j) = some u) (hfit : f + cs.length ≤ n * size) (h1 : ∀ u ∈ cs, u.oneCell' = true)
    (h : ∀ w', w'.ownsRow base e size (.slice (some ⟨g, 0, none⟩) n cap) n (splice xs f cs) → w.grownBy w' (some g) → wpList P ops Q rest (a.put o.dst (goInt (Nat.min sLen dLen))) w') : wpList P ops Q (o :: rest) a w :=
  wpList_plain hgd fun _ hK => wp_copy_own d s dT sT ho e i base size g f n cap dLen dCap sLen sCap A xs cs hu hi hsz hd hs hrow hn hr hfit h1 fun w' h2 h3 => hK _ _ (h w' h2 h3)
theorem step_copy_own {ops : Array Oper} {o : Oper} {a : Act} {K : Act → World → Prop} {Q : Exit → Act → World → Prop} {E : Prop} (hgd : o.guard = none) (d s : Operand) (dT sT : TypeId)
    (ho : o.op = .call { callee := .builtin .copy, args := #[d, s], argTypes := #[dT, sT] }) (e : TypeId) (i : TypeInfo) (base size g f n cap dLen dCap sLen sCap : Nat) (A : Option Addr) (xs cs : List Value) (hu : P.underlying dT = some (.slice e)) (hi : P.info? e = some i) (hsz : i.size = size)
    (hd : a.eval d = .slice (some ⟨g, f, none⟩) dLen dCap) (hs : a.eval s = .slice A sLen sCap)
    (hrow : w.ownsRow base e size (.slice (some ⟨g, 0, none⟩) n cap) n xs) (hn : cs.length = Nat.min sLen dLen * size) (hr : cs = [] ∨ ∃ a, A = some a ∧ ∀ j u, cs[j]? = some u → w.cell? (a.add j) = some u) (hfit : f + cs.length ≤ n * size) (h1 : ∀ u ∈ cs, u.oneCell' = true)
    (h : ∀ w', w'.ownsRow base e size (.slice (some ⟨g, 0, none⟩) n cap) n (splice xs f cs) → w.grownBy w' (some g) → K (a.put o.dst (goInt (Nat.min sLen dLen))) w') :
    if Region.wanted o (yielded ops a.tmps) = true then Oper.wp P o a w K Q else E := by
  have hw : Region.wanted o (yielded ops a.tmps) = true := by simp [Region.wanted, hgd]
  rw [if_pos hw]
  exact wp_copy_own d s dT sT ho e i base size g f n cap dLen dCap sLen sCap A xs cs hu hi hsz hd hs hrow hn hr hfit h1 h
end

end Tx
end Go.Proofs.YtfnhjflocfmcoaaGreat

namespace Go.Proofs.YtfnhjflocfmcoaaGreat
open Go.RowKit
set_option linter.unusedVariables false
namespace Tx

section
variable {P : Program} {w : World}
theorem own_splice {e : TypeId} {base size g n cap : Nat} {xs : List Value} (hrow : w.ownsRow base e size (.slice (some ⟨g, 0, none⟩) n cap) n xs) :
    ∃ cur, w.heap[g]? = some (.cells cur e (0, 0)) ∧ cur.size = cap * size ∧ n * size ≤ cap * size ∧ ∀ f cs, f + cs.length ≤ n * size →
      (w.setRow g (cur.toList.take f ++ cs ++ cur.toList.drop (f + cs.length)).toArray).ownsRow base e size (.slice (some ⟨g, 0, none⟩) n cap) n (splice xs f cs) ∧ w.grownBy (w.setRow g (cur.toList.take f ++ cs ++ cur.toList.drop (f + cs.length)).toArray) (some g) := by
  have hxl := hrow.1
  rcases hrow.2 with ⟨h', _⟩ | ⟨g', cap', cur, h', hb, hg, hc1, hc2, hc3, ht⟩
  · simp at h'
  simp only [Value.slice.injEq, Option.some.injEq, Addr.mk.injEq, and_true, true_and] at h'
  obtain ⟨rfl, rfl⟩ := h'
  have hcn : n * size ≤ cap * size := Nat.mul_le_mul_right _ hc1
  refine ⟨cur, hg, hc3, hcn, fun f cs hfit => ?_⟩
  refine ⟨⟨?_, .inr ⟨g, cap, _, rfl, hb, setRow_heap w g cur _ e _ hg, hc1, hc2, ?_, ?_⟩⟩, ⟨rfl, rfl, rfl, by simp [World.setRow], fun k hk hne => setRow_other w g k _ (fun e => hne (by rw [e]))⟩⟩
  · rw [length_splice _ _ _ (by omega)]; exact hxl
  · simp only [List.size_toArray, List.length_append, List.length_take, List.length_drop, Array.length_toList]; omega
  · rw [← ht]
    unfold splice
    rw [List.take_take, Nat.min_eq_left (by omega), List.append_assoc, List.take_append, List.take_take, List.take_append, List.length_take, Array.length_toList, Nat.min_eq_right (by omega), Nat.min_eq_left (by omega), List.take_of_length_le (show cs.length ≤ n * size - f by omega), List.drop_take, Nat.sub_sub]
/-- Fewer of its elements. -/
theorem own_less {e : TypeId} {base size g n k cap : Nat} {xs : List Value} (hrow : w.ownsRow base e size (.slice (some ⟨g, 0, none⟩) n cap) n xs) (hk : k ≤ n) : w.ownsRow base e size (.slice (some ⟨g, 0, none⟩) k cap) k (xs.take (k * size)) := by
  have hkn : k * size ≤ n * size := Nat.mul_le_mul_right _ hk
  refine ⟨by rw [List.length_take, hrow.1, Nat.min_eq_left hkn], ?_⟩
  rcases hrow.2 with ⟨h', _⟩ | ⟨g', cap', cur, h', hb, hg, hc1, hc2, hc3, ht⟩
  · simp at h'
  simp only [Value.slice.injEq, Option.some.injEq, Addr.mk.injEq, and_true, true_and] at h'
  obtain ⟨rfl, rfl⟩ := h'
  exact .inr ⟨g, cap, cur, rfl, hb, hg, Nat.le_trans hk hc1, hc2, hc3, by rw [← ht, List.take_take, Nat.min_eq_left hkn]⟩

/-- append within the room of a row of one's own. -/
theorem run_append_own_room {t ty e : TypeId} {i : TypeInfo} {base size g n cap k m c : Nat} {a : Addr} {xs news : List Value} (hu : P.underlying t = some (.slice e)) (hi : P.info? e = some i) (hsz : i.size = size)
    (hrow : w.ownsRow base e size (.slice (some ⟨g, 0, none⟩) n cap) n xs) (hl : news.length = m * size) (hr : ∀ j u, news[j]? = some u → w.cell? (a.add j) = some u) (h1 : ∀ u ∈ news, u.oneCell' = true) (hkm : k + m ≤ n) (hn : n ≤ cap) :
    ∃ w', (Builtin.append_ #[t, t] ty #[.slice (some ⟨g, 0, none⟩) k cap, .slice (some a) m c]).run P w = .ok (.slice (some ⟨g, 0, none⟩) (k + m) cap) w' ∧ w'.ownsRow base e size (.slice (some ⟨g, 0, none⟩) n cap) n (splice xs (k * size) news) ∧ w.grownBy w' (some g) := by
  subst hsz
  obtain ⟨cur, hg, hcs, hnc, hs⟩ := own_splice hrow
  have hfit : k * i.size + news.length ≤ n * i.size := by rw [hl, ← Nat.add_mul]; exact Nat.mul_le_mul_right _ hkm
  obtain ⟨h2, h3⟩ := hs (k * i.size) news hfit
  exact ⟨_, run_append_room w t ty e i hu hi g k cap cur hg a m c news hl hr h1 (by omega) (by omega), h2, h3⟩
theorem step_append_own_room {ops : Array Oper} {o : Oper} {a : Act} {K : Act → World → Prop} {Q : Exit → Act → World → Prop} {E : Prop} (hgd : o.guard = none) (s x : Operand) (t : TypeId)
    (ho : o.op = .call { callee := .builtin .append, args := #[s, x], argTypes := #[t, t] }) (e : TypeId) (i : TypeInfo) (base size g n cap k m c : Nat) (ad : Addr) (xs news : List Value) (hu : P.underlying t = some (.slice e)) (hi : P.info? e = some i) (hsz : i.size = size)
    (hs : a.eval s = .slice (some ⟨g, 0, none⟩) k cap) (hx : a.eval x = .slice (some ad) m c)
    (hrow : w.ownsRow base e size (.slice (some ⟨g, 0, none⟩) n cap) n xs) (hl : news.length = m * size) (hr : ∀ j u, news[j]? = some u → w.cell? (ad.add j) = some u) (h1 : ∀ u ∈ news, u.oneCell' = true) (hkm : k + m ≤ n) (hn : n ≤ cap)
    (h : ∀ w', w'.ownsRow base e size (.slice (some ⟨g, 0, none⟩) n cap) n (splice xs (k * size) news) → w.grownBy w' (some g) → K (a.put o.dst (.slice (some ⟨g, 0, none⟩) (k + m) cap)) w') :
    if Region.wanted o (yielded ops a.tmps) = true then Oper.wp P o a w K Q else E := by
  have hw : Region.wanted o (yielded ops a.tmps) = true := by simp [Region.wanted, hgd]
  rw [if_pos hw]
  obtain ⟨w', hrun, h2, h3⟩ := run_append_own_room (P := P) (ty := o.type) (c := c) hu hi hsz hrow hl hr h1 hkm hn
  unfold Oper.wp execOp
  simp only [ho, resolve, invoke, builtin, Sem.run_bind, Sem.run_pure, Result.andThen_ok, List.map_toArray, List.map_cons, List.map_nil, hs, hx, hrun]
  exact h w' h2 h3

/-- clear, within a row of one's own: the cells ahead stay. -/
theorem run_clear_own {t ty e : TypeId} {i : TypeInfo} {z : Value} {base size g f n cap m c : Nat} {xs : List Value} (hu : P.underlying t = some (.slice e)) (hi : P.info? e = some i) (hz : i.zero = some z) (hsz : z.cells.size = size) (hz1 : ∀ j : Nat, Value.oneCell' (z.cells[j % z.cells.size]!) = true) (hm0 : 0 < m)
    (hrow : w.ownsRow base e size (.slice (some ⟨g, 0, none⟩) n cap) n xs) (hfit : f + m * size ≤ n * size) :
    ∃ w', (Builtin.clear_ #[t] ty #[.slice (some ⟨g, f, none⟩) m c]).run P w = .ok (.tuple #[]) w' ∧ (∃ ys, w'.ownsRow base e size (.slice (some ⟨g, 0, none⟩) n cap) n ys ∧ ys.take f = xs.take f) ∧ w.grownBy w' (some g) := by
  obtain ⟨cur, hg, hcs, hnc, hs⟩ := own_splice hrow
  have hl : (Builtin.zeroCells z.cells m).toList.length = m * size := by rw [Array.length_toList, size_zeroCells, hsz]
  obtain ⟨h2, h3⟩ := hs f (Builtin.zeroCells z.cells m).toList (by rw [hl]; exact hfit)
  have hst := run_storeCells_at P g f e (Builtin.zeroCells z.cells m).toList 0 cur w hg (by rw [hl]; omega) (fun v hv => by
    rw [Array.mem_toList_iff] at hv
    simp only [Builtin.zeroCells, Array.mem_map] at hv
    obtain ⟨j, _, rfl⟩ := hv
    exact hz1 _)
  rw [Nat.add_zero] at hst
  obtain ⟨m, rfl⟩ : ∃ m', m = m' + 1 := ⟨m - 1, by omega⟩
  refine ⟨_, ?_, ⟨_, h2, ?_⟩, h3⟩
  · simp [Builtin.clear_, run_underlying hu, zeroValue, typeInfo, hi, hz, hst]
  · unfold splice
    have hxl : f ≤ xs.length := by rw [hrow.1]; omega
    rw [List.take_append_of_le_length (by rw [List.length_take]; omega), List.take_take, Nat.min_self]
theorem wpList_clear_own {ops : Array Oper} {rest : List Oper} {o : Oper} {a : Act} {Q : Exit → Act → World → Prop} (hgd : o.guard = none) (s : Operand) (t : TypeId)
    (ho : o.op = .call { callee := .builtin .clear, args := #[s], argTypes := #[t] }) (e : TypeId) (i : TypeInfo) (z : Value) (base size g f n cap m c : Nat) (xs : List Value) (hu : P.underlying t = some (.slice e)) (hi : P.info? e = some i) (hz : i.zero = some z) (hsz : z.cells.size = size) (hz1 : ∀ j : Nat, Value.oneCell' (z.cells[j % z.cells.size]!) = true) (hm0 : 0 < m)
    (hs : a.eval s = .slice (some ⟨g, f, none⟩) m c) (hrow : w.ownsRow base e size (.slice (some ⟨g, 0, none⟩) n cap) n xs) (hfit : f + m * size ≤ n * size)
    (h : ∀ w' ys, w'.ownsRow base e size (.slice (some ⟨g, 0, none⟩) n cap) n ys → ys.take f = xs.take f → w.grownBy w' (some g) → wpList P ops Q rest (a.put o.dst (.tuple #[])) w') : wpList P ops Q (o :: rest) a w := by
  refine wpList_plain hgd fun K hK => ?_
  obtain ⟨w', hrun, ⟨ys, h2, h4⟩, h3⟩ := run_clear_own (P := P) (ty := o.type) (c := c) hu hi hz hsz hz1 hm0 hrow hfit
  unfold Oper.wp execOp
  simp only [ho, resolve, invoke, builtin, Sem.run_bind, Sem.run_pure, Result.andThen_ok, List.map_toArray, List.map_cons, List.map_nil, hs, hrun]
  exact hK _ _ (h w' ys h2 h4 h3)
end

end Tx
end Go.Proofs.YtfnhjflocfmcoaaGreat

namespace Go.Proofs.YtfnhjflocfmcoaaGreat
open Go.RowKit
set_option linter.unusedVariables false
namespace Tx

end Tx
end Go.Proofs.YtfnhjflocfmcoaaGreat

namespace Go.Proofs.YtfnhjflocfmcoaaGreat
open Go.RowKit
set_option linter.unusedVariables false
namespace Tx

/-- How a law ends: true, and all that was there is as it was. -/
def LawEnd (w : World) (e : Ending) (w' : World) : Prop := e = .returned (.bool true) ∧ Below w.heap.size w w'

end Tx
end Go.Proofs.YtfnhjflocfmcoaaGreat

namespace Go.Proofs.YtfnhjflocfmcoaaGreat
open Go.RowKit
set_option linter.unusedVariables false
namespace Tx

/-- An element of one cell of an array by value. -/
theorem run_index_array {P : Program} {t e : TypeId} {n : Nat} {cs : Array Value} {k : IntKind} {i : Int} {f : Value} {w : World} (h : P.underlying t = some (.array n e)) (hi : 0 ≤ i ∧ i < (n : Int)) (hs : (sizeOf e).run P w = .ok 1 w) (ha : (isAgg e).run P w = .ok false w) (hf : cs[i.toNat]? = some f) :
    (Instr.index t (.agg cs) (.int k i)).run P w = .ok f w := by
  simp [Instr.index, run_underlying h, asIntOf, hi, part, go_sem, hs, ha, hf]

end Tx
end Go.Proofs.YtfnhjflocfmcoaaGreat

namespace Go.Proofs.YtfnhjflocfmcoaaGreat
open Go.RowKit
set_option linter.unusedVariables false
namespace Tx

/-- An address, if there is one, is of memory made behind the first lo blocks. -/
def Hi (lo : Nat) (A : Option Addr) : Prop := ∀ a, A = some a → lo ≤ a.block
theorem hi_none (lo : Nat) : Hi lo none := fun a h => by cases h
theorem Hi.mono {lo lo' : Nat} {A : Option Addr} (h : Hi lo A) (hl : lo' ≤ lo) : Hi lo' A := fun a e => Nat.le_trans hl (h a e)
theorem hi_own {w : World} {base n c e size : Nat} {A : Option Addr} {xs : List Value} (h : w.ownsRow base e size (.slice A n c) n xs) : Hi base A := fun a ha => by
  subst ha
  rcases h.2 with ⟨h1, _⟩ | ⟨g, cap, cur, h1, hb, _⟩
  · cases h1
  · injection h1 with h1 h2
    injection h1 with h1
    subst h1
    exact hb
theorem rdS_hi {W : World} {N lo b : Nat} {A : Option Addr} {ls : List (List UInt8)} (h : RdS W N A ls) (hi : Hi lo A) (hb : b < lo) (j : Nat) (v : Value) : RdS (W.setCell ⟨b, j, none⟩ v) N A ls := by
  rcases h with h | ⟨a, e, hlt, hc⟩
  · exact .inl h
  · refine .inr ⟨a, e, hlt, fun i u hu => ?_⟩
    have := hi a e
    exact cell_set (hc i u hu) (by rw [add_block]; omega) j v

end Tx
end Go.Proofs.YtfnhjflocfmcoaaGreat

set_option maxRecDepth 100000
namespace Go.Proofs.YtfnhjflocfmcoaaGreat
namespace Tx

def may (l : List UInt8) : Bool := decide (l.length ≤ 80) && !l.contains 10
def inName (c : UInt8) : Bool := (decide (97 ≤ c.toNat) && decide (c.toNat ≤ 122)) || (decide (48 ≤ c.toNat) && decide (c.toNat ≤ 57)) || decide (c.toNat = 46)
def name (l : List UInt8) : Bool := decide (1 ≤ l.length) && decide (l.length ≤ 16) && l.all inName
def allMay (ls : List (List UInt8)) : Bool := decide (ls.length ≤ 200) && ls.all may

theorem indexByte_neg (l : List UInt8) (c : UInt8) : decide (Lib.indexByte l c < 0) = !l.contains c := by
  induction l with
  | nil => simp [Lib.indexByte]
  | cons b l ih =>
    have hg := Lib.indexByte_ge l c
    unfold Lib.indexByte
    by_cases hb : b = c
    · subst hb; simp
    · have hb' : ¬ c = b := fun e => hb e.symm
      by_cases hi : Lib.indexByte l c = -1
      · have : c ∉ l := by simpa [hi] using ih
        simp [hb, hi, hb', this]
      · have h1 : ¬ Lib.indexByte l c < 0 := by omega
        have h2 : c ∈ l := by simpa [h1] using ih
        have h3 : ¬ Lib.indexByte l c + 1 < 0 := by omega
        simp [hb, hi, h2, h3]

theorem all_of {ls : List (List UInt8)} (h : ∀ x ∈ ls, may x = true) : ls.all may = true := by rw [List.all_eq_true]; exact h
theorem not_all_of {ls : List (List UInt8)} {x : List UInt8} (hx : x ∈ ls) (h : may x = false) : ls.all may = false := by rw [List.all_eq_false]; exact ⟨x, hx, by simp [h]⟩

end Tx
end Go.Proofs.YtfnhjflocfmcoaaGreat

namespace Go.Proofs.YtfnhjflocfmcoaaGreat
namespace Lc

section
variable {α : Type} [DecidableEq α]

/-- What two lists have in common, from their first places on. -/
def lcs : List α → List α → Nat
  | x :: a, y :: b => if x = y then lcs a b + 1 else if lcs (x :: a) b ≤ lcs a (y :: b) then lcs a (y :: b) else lcs (x :: a) b
  | _, _ => 0
  termination_by a b => a.length + b.length

/-- The pairs, from place i of a and place j of b on. -/
def prs : Nat → Nat → List α → List α → List (Nat × Nat)
  | i, j, x :: a, y :: b => if x = y then (i, j) :: prs (i + 1) (j + 1) a b else if lcs (x :: a) b ≤ lcs a (y :: b) then prs (i + 1) j a (y :: b) else prs i (j + 1) (x :: a) b
  | _, _, _, _ => []
  termination_by _ _ a b => a.length + b.length
/-- The rest of the pairs, from places i and j on. -/
def rest (a b : List α) (i j : Nat) : List (Nat × Nat) := prs i j (a.drop i) (b.drop j)
end
end Lc
end Go.Proofs.YtfnhjflocfmcoaaGreat

namespace Go.Proofs.YtfnhjflocfmcoaaGreat
namespace Sq

section
variable {α : Type}
/-- l with 'now' in the place of what stands at i and is n long. -/
def swp (l : List α) (i n : Nat) (now : List α) : List α := l.take i ++ (now ++ l.drop (i + n))
theorem swp_parts (p s t now : List α) : swp (p ++ (s ++ t)) p.length s.length now = p ++ (now ++ t) := by
  simp [swp, ← List.drop_drop]
end

section
variable {α : Type} [DecidableEq α]

/-- Do 'some' stand in l from 'at' on? -/
def has (l : List α) (i : Int) (s : List α) : Bool := decide (0 ≤ i ∧ i ≤ l.length ∧ (l.drop i.toNat).take s.length = s)
theorem has_len {l s : List α} {i : Int} (h : has l i s = true) : 0 ≤ i ∧ i.toNat + s.length ≤ l.length := by
  simp only [has, decide_eq_true_eq] at h
  obtain ⟨h1, h2, h3⟩ := h
  have h4 := congrArg List.length h3
  simp at h4
  omega
theorem has_split {l s : List α} {i : Int} (h : has l i s = true) : l = l.take i.toNat ++ (s ++ l.drop (i.toNat + s.length)) := by
  have hl := has_len h
  simp only [has, decide_eq_true_eq] at h
  obtain ⟨h1, h2, h3⟩ := h
  conv => lhs; rw [← List.take_append_drop i.toNat l]
  congr 1
  conv => lhs; rw [← List.take_append_drop s.length (l.drop i.toNat), h3, List.drop_drop]
theorem has_of_split (p s t : List α) : has (p ++ (s ++ t)) p.length s = true := by
  simp only [has, decide_eq_true_eq]
  refine ⟨by omega, by simp; omega, by simp⟩
theorem has_parts {l s : List α} {i : Int} (h : has l i s = true) : ∃ p t, l = p ++ (s ++ t) ∧ (p.length : Int) = i := by
  have hl := has_len h
  refine ⟨_, _, has_split h, ?_⟩
  rw [List.length_take]; omega
theorem has_false {l s : List α} {i : Int} (h : i < 0 ∨ (l.length : Int) < i ∨ (l.length : Int) < i + s.length) : has l i s = false := by
  cases hb : has l i s with
  | false => rfl
  | true => have := has_len hb; omega
theorem has_at {l s : List α} {i : Nat} (h : i + s.length ≤ l.length) : has l i s = decide ((l.drop i).take s.length = s) := by
  unfold has
  refine decide_eq_decide.2 ⟨fun h => h.2.2, fun hh => ⟨by omega, by omega, hh⟩⟩

/-- Two swaps apart. -/
theorem apart {l old now other thn : List α} {i g : Nat} (h1 : has l i old = true) (h2 : has l ((i + old.length + g : Nat) : Int) other = true) :
    has (swp l i old.length now) ((i + now.length + g : Nat) : Int) other = true ∧ has (swp l (i + old.length + g) other.length thn) i old = true ∧
    swp (swp l i old.length now) (i + now.length + g) other.length thn = swp (swp l (i + old.length + g) other.length thn) i old.length now := by
  obtain ⟨p, t, rfl, hp⟩ := has_parts h1
  obtain rfl : p.length = i := by omega
  obtain ⟨q, r, hq, hl⟩ := has_parts h2
  have hql : q.length = p.length + old.length + g := by omega
  have e1 : q = p ++ (old ++ (t.take g)) := by
    have := congrArg (List.take q.length) hq
    rw [List.take_left] at this
    rw [← this, hql]
    simp [List.take_append]
    rw [List.take_of_length_le (by omega), List.take_of_length_le (by omega), show p.length + old.length + g - p.length - old.length = g by omega]
  have hg : g ≤ t.length := by
    have := congrArg List.length e1
    simp at this; omega
  have e2 : t = t.take g ++ (other ++ r) := by
    rw [e1] at hq
    have h3 : p ++ (old ++ t) = p ++ (old ++ (t.take g ++ (other ++ r))) := by rw [hq]; simp
    exact List.append_cancel_left (List.append_cancel_left h3)
  generalize hu : t.take g = u at e2
  have hul : u.length = g := by rw [← hu, List.length_take]; omega
  clear hu e1 hg hq hl hql h1 h2 hp
  subst e2
  subst hul
  have w1 : swp (p ++ (old ++ (u ++ (other ++ r)))) p.length old.length now = p ++ (now ++ (u ++ (other ++ r))) := swp_parts _ _ _ _
  have w2 : swp (p ++ (old ++ (u ++ (other ++ r)))) (p.length + old.length + u.length) other.length thn = p ++ (old ++ (u ++ (thn ++ r))) := by
    have := swp_parts (p ++ (old ++ u)) other r thn
    simpa [Nat.add_assoc] using this
  rw [w1, w2, swp_parts]
  have a1 := has_of_split (p ++ (now ++ u)) other r
  have a2 := swp_parts (p ++ (now ++ u)) other r thn
  refine ⟨by simpa [Nat.add_assoc] using a1, has_of_split _ _ _, by simpa [Nat.add_assoc] using a2⟩

end
end Sq
end Go.Proofs.YtfnhjflocfmcoaaGreat

namespace Go.Proofs.YtfnhjflocfmcoaaGreat
namespace Df
open Lc

/-- An edit: a place, how many lines are gone there, and which ones stand there. -/
structure Ed (α : Type) where
  pos : Int
  old : Int
  new : List α

section
variable {α : Type}

/-- The lines of a list from place i up to place j. -/
def mid (a : List α) (i j : Nat) : List α := (a.drop i).take (j - i)

/-- Does an edit fit, at a list of n lines of which 'at' lines are done (f: none was ahead)? -/
def fits (n k : Nat) (f : Bool) (x : Ed α) : Prop := (k : Int) ≤ x.pos ∧ (f = false → (k : Int) < x.pos) ∧ x.pos ≤ n ∧ 0 ≤ x.old ∧ x.old ≤ n - x.pos
instance (n k : Nat) (f : Bool) (x : Ed α) : Decidable (fits n k f x) := by unfold fits; exact inferInstance

/-- All lines that edits put there, together. -/
def news : List (Ed α) → Nat
  | [] => 0
  | x :: l => x.new.length + news l
/-- The edit of the stretch from the places i and j up to the places p and q, if it has a line. -/
def one (b : List α) (i j p q : Nat) : List (Ed α) := if i < p ∨ j < q then [⟨i, (p : Int) - i, mid b j q⟩] else []

end
end Df
end Go.Proofs.YtfnhjflocfmcoaaGreat

namespace Go.Proofs.YtfnhjflocfmcoaaGreat
namespace Hk
open Lc Df Sq

/-- A hunk: a place, the lines that stand there, and those that stand there then. -/
structure Hu (α : Type) where
  pos : Int
  old : List α
  new : List α

def turn {α : Type} (h : Hu α) : Hu α := ⟨h.pos, h.new, h.old⟩
section
variable {α : Type}

variable [DecidableEq α]

/-- What a hunk makes of a list. -/
def done (l : List α) (h : Hu α) : Option (List α) := if has l h.pos h.old then some (swp l h.pos.toNat h.old.length h.new) else none
theorem done_yes {l : List α} {h : Hu α} (hh : has l h.pos h.old = true) : done l h = some (swp l h.pos.toNat h.old.length h.new) := by rw [done, if_pos hh]
theorem done_no {l : List α} {h : Hu α} (hh : has l h.pos h.old = false) : done l h = none := by rw [done, hh]; rfl
theorem done_some {l m : List α} {h : Hu α} (hd : done l h = some m) : has l h.pos h.old = true ∧ m = swp l h.pos.toNat h.old.length h.new := by
  cases hh : has l h.pos h.old with
  | false => rw [done_no hh] at hd; cases hd
  | true => rw [done_yes hh] at hd; injection hd with hd; exact ⟨rfl, hd.symm⟩

/-- Hunks, one behind the other. -/
def run : List α → List (Hu α) → Option (List α)
  | l, [] => some l
  | l, h :: hs => (done l h).bind fun m => run m hs

end
end Hk
end Go.Proofs.YtfnhjflocfmcoaaGreat

namespace Go.Proofs.YtfnhjflocfmcoaaGreat
namespace Sw
open Sq Hk

section
variable {α : Type}

/-- A hunk at another place. -/
def at_ (h : Hu α) (i : Int) : Hu α := ⟨i, h.old, h.new⟩
/-- Behind one that is not behind it: the second one's lines stand behind the first one's. -/
def ahead (p q : Hu α) : Option (Hu α × Hu α) := if p.pos + p.new.length < q.pos then some (at_ q (q.pos - p.new.length + p.old.length), p) else none
def behind (p q : Hu α) : Option (Hu α × Hu α) := if q.pos + q.old.length < p.pos then some (q, at_ p (p.pos - q.old.length + q.new.length)) else none
/-- What two hunks are when the second one is ahead. -/
def pass (p q : Hu α) : Option (Hu α × Hu α) := (ahead p q).or (behind p q)

/-- The two ways to pass. -/
theorem pass_cases {p q x y : Hu α} (h : pass p q = some (x, y)) :
    (p.pos + p.new.length < q.pos ∧ x = at_ q (q.pos - p.new.length + p.old.length) ∧ y = p) ∨ (q.pos + q.old.length < p.pos ∧ x = q ∧ y = at_ p (p.pos - q.old.length + q.new.length)) := by
  unfold pass ahead behind at h
  split at h
  · rw [Option.some_or] at h
    injection h with h; injection h with h1 h2
    exact .inl ⟨by assumption, h1.symm, h2.symm⟩
  · rw [Option.none_or] at h
    split at h
    · injection h with h; injection h with h1 h2
      exact .inr ⟨by assumption, h1.symm, h2.symm⟩
    · cases h
/-- Just one moves, and the lines stay. -/
theorem pass_moves {p q x y : Hu α} (h : pass p q = some (x, y)) :
    ((y.pos = p.pos ∧ x.pos = q.pos - p.new.length + p.old.length) ∨ (x.pos = q.pos ∧ y.pos = p.pos - q.old.length + q.new.length)) ∧ x.old = q.old ∧ x.new = q.new ∧ y.old = p.old ∧ y.new = p.new := by
  rcases pass_cases h with ⟨_, rfl, rfl⟩ | ⟨_, rfl, rfl⟩
  · exact ⟨.inl ⟨rfl, rfl⟩, rfl, rfl, rfl, rfl⟩
  · exact ⟨.inr ⟨rfl, rfl⟩, rfl, rfl, rfl, rfl⟩
/-- Where they stand then is not below nought. -/
theorem pass_pos {p q x y : Hu α} (h : pass p q = some (x, y)) (hp : 0 ≤ p.pos) (hq : 0 ≤ q.pos) : 0 ≤ x.pos ∧ 0 ≤ y.pos := by
  rcases pass_cases h with ⟨h1, rfl, rfl⟩ | ⟨h1, rfl, rfl⟩
  · exact ⟨by simp only [at_]; omega, hp⟩
  · exact ⟨hq, by simp only [at_]; omega⟩
variable [DecidableEq α]

end
end Sw
end Go.Proofs.YtfnhjflocfmcoaaGreat

namespace Go.Proofs.YtfnhjflocfmcoaaGreat
namespace Tr

/-- An order of names: of two that are not the same just one is less; of three that go on so the first one is. -/
structure Lin {κ : Type} (lt : κ → κ → Bool) : Prop where
  irr : ∀ a, lt a a = false
  tr : ∀ {a b c}, lt a b = true → lt b c = true → lt a c = true
  tri : ∀ {a b}, a ≠ b → lt a b = true ∨ lt b a = true
theorem Lin.asym {κ : Type} {lt : κ → κ → Bool} (h : Lin lt) {a b : κ} (hab : lt a b = true) : lt b a = false := by
  cases hb : lt b a with
  | false => rfl
  | true => have := h.tr hab hb; rw [h.irr] at this; cases this
theorem Lin.ne {κ : Type} {lt : κ → κ → Bool} (h : Lin lt) {a b : κ} (hab : lt a b = true) : a ≠ b := fun e => by subst e; rw [h.irr] at hab; cases hab

section
variable {κ β : Type}

/-- The names rise. -/
def Up (lt : κ → κ → Bool) (t : List (κ × β)) : Prop := t.Pairwise fun f g => lt f.1 g.1 = true

theorem up_keys {lt : κ → κ → Bool} {t : List (κ × β)} : Up lt t ↔ (t.map (·.1)).Pairwise fun a b => lt a b = true := by
  unfold Up; rw [List.pairwise_map]
/-- A file ahead of the first one of a greater name. -/
def ins (lt : κ → κ → Bool) : List (κ × β) → κ → β → List (κ × β)
  | [], n, l => [(n, l)]
  | f :: t, n, l => if lt n f.1 then (n, l) :: f :: t else f :: ins lt t n l

theorem ins_mem (lt : κ → κ → Bool) : ∀ (t : List (κ × β)) (n : κ) (l : β) (g : κ × β), g ∈ ins lt t n l ↔ g = (n, l) ∨ g ∈ t
  | [], n, l, g => by simp [ins]
  | f :: t, n, l, g => by
    unfold ins
    split
    · simp
    · rw [List.mem_cons, ins_mem lt t, List.mem_cons]
      constructor
      · rintro (h | h | h)
        · exact .inr (.inl h)
        · exact .inl h
        · exact .inr (.inr h)
      · rintro (h | h | h)
        · exact .inr (.inl h)
        · exact .inl h
        · exact .inr (.inr h)
theorem ins_len (lt : κ → κ → Bool) : ∀ (t : List (κ × β)) (n : κ) (l : β), (ins lt t n l).length = t.length + 1
  | [], n, l => rfl
  | f :: t, n, l => by
    unfold ins
    split
    · rfl
    · rw [List.length_cons, ins_len lt t, List.length_cons]

variable [DecidableEq κ]

/-- The lines of the first file of a name. -/
def get : List (κ × β) → κ → Option β
  | [], _ => none
  | f :: t, n => if f.1 = n then some f.2 else get t n
/-- The first file of a name has other lines. -/
def upd : List (κ × β) → κ → β → List (κ × β)
  | [], _, _ => []
  | f :: t, n, l => if f.1 = n then (n, l) :: t else f :: upd t n l
def put (lt : κ → κ → Bool) (t : List (κ × β)) (n : κ) (l : β) : List (κ × β) := if (get t n).isSome then upd t n l else ins lt t n l
/-- Without the first file of a name. -/
def del : List (κ × β) → κ → List (κ × β)
  | [], _ => []
  | f :: t, n => if f.1 = n then t else f :: del t n

theorem get_cons (f : κ × β) (t : List (κ × β)) (n : κ) : get (f :: t) n = if f.1 = n then some f.2 else get t n := rfl
theorem get_none : ∀ {t : List (κ × β)} {n : κ}, get t n = none ↔ ∀ f ∈ t, f.1 ≠ n
  | [], n => by simp [get]
  | f :: t, n => by
    rw [get_cons]
    split
    · rename_i h; simp [h]
    · rename_i h; rw [get_none]; simp [h]
theorem get_mem : ∀ {t : List (κ × β)} {n : κ} {l : β}, get t n = some l → (n, l) ∈ t
  | [], n, l, h => by cases h
  | f :: t, n, l, h => by
    rw [get_cons] at h
    split at h
    · rename_i e; injection h with h; subst e; subst h; exact List.mem_cons_self
    · exact List.mem_cons_of_mem _ (get_mem h)
theorem get_of_mem {lt : κ → κ → Bool} (hl : Lin lt) : ∀ {t : List (κ × β)} {f : κ × β}, Up lt t → f ∈ t → get t f.1 = some f.2
  | g :: t, f, hu, hf => by
    obtain ⟨h1, h2⟩ := List.pairwise_cons.1 hu
    rw [get_cons]
    rcases List.mem_cons.1 hf with rfl | hf
    · rw [if_pos rfl]
    · rw [if_neg (hl.ne (h1 f hf)), get_of_mem hl h2 hf]

/-- What a rising tree is its files tell. -/
theorem up_ext {lt : κ → κ → Bool} (hl : Lin lt) : ∀ {t u : List (κ × β)}, Up lt t → Up lt u → (∀ n, get t n = get u n) → t = u
  | [], [], _, _, _ => rfl
  | [], g :: u, _, _, h => by have := h g.1; rw [get_cons, if_pos rfl] at this; cases this
  | f :: t, [], _, _, h => by have := h f.1; rw [get_cons, if_pos rfl] at this; cases this
  | f :: t, g :: u, ht, hu, h => by
    obtain ⟨t1, t2⟩ := List.pairwise_cons.1 ht
    obtain ⟨u1, u2⟩ := List.pairwise_cons.1 hu
    have e : f.1 = g.1 := by
      refine Classical.byContradiction fun hne => ?_
      rcases hl.tri hne with hlt | hlt
      · have hf := h f.1
        rw [get_cons, if_pos rfl, get_cons, if_neg (Ne.symm hne)] at hf
        have := get_mem hf.symm
        have := hl.asym (u1 _ this)
        rw [hlt] at this; cases this
      · have hg := h g.1
        rw [get_cons, if_neg hne, get_cons, if_pos rfl] at hg
        have := get_mem hg
        have := hl.asym (t1 _ this)
        rw [hlt] at this; cases this
    have e2 : f = g := by
      have := h f.1
      rw [get_cons, if_pos rfl, get_cons, if_pos e.symm] at this
      injection this with this
      exact Prod.ext e this
    subst e2
    refine congrArg (f :: ·) (up_ext hl t2 u2 fun n => ?_)
    by_cases hn : f.1 = n
    · subst hn
      have ht0 : get t f.1 = none := get_none.2 fun x hx => Ne.symm (hl.ne (t1 x hx))
      have hu0 : get u f.1 = none := get_none.2 fun x hx => Ne.symm (hl.ne (u1 x hx))
      rw [ht0, hu0]
    · have := h n
      rwa [get_cons, if_neg hn, get_cons, if_neg hn] at this

theorem get_upd : ∀ (t : List (κ × β)) (n o : κ) (l : β), get (upd t n l) o = if n = o then (get t n).map (fun _ => l) else get t o
  | [], n, o, l => by simp [upd, get]
  | f :: t, n, o, l => by
    unfold upd
    by_cases h : f.1 = n
    · rw [if_pos h, get_cons, get_cons, get_cons, h]
      by_cases ho : n = o
      · rw [if_pos ho, if_pos ho, if_pos rfl]; rfl
      · rw [if_neg ho, if_neg ho, if_neg ho]
    · rw [if_neg h, get_cons, get_cons, get_cons, get_upd t, if_neg h]
      by_cases ho : n = o
      · rw [if_pos ho, if_pos ho, if_neg (by rw [← ho]; exact h)]
      · rw [if_neg ho, if_neg ho]
theorem get_ins (lt : κ → κ → Bool) : ∀ (t : List (κ × β)) (n o : κ) (l : β), get t n = none → get (ins lt t n l) o = if n = o then some l else get t o
  | [], n, o, l, _ => by simp [ins, get]
  | f :: t, n, o, l, h => by
    rw [get_cons] at h
    split at h
    · cases h
    · rename_i hf
      unfold ins
      split
      · rw [get_cons]
      · rw [get_cons, get_ins lt t n o l h, get_cons]
        by_cases ho : n = o
        · subst ho; rw [if_neg hf, if_pos rfl, if_pos rfl]
        · rw [if_neg ho, if_neg ho]
/-- What is put is got, and changes no other file. -/
theorem get_put (lt : κ → κ → Bool) (t : List (κ × β)) (n o : κ) (l : β) : get (put lt t n l) o = if n = o then some l else get t o := by
  unfold put
  cases h : get t n with
  | none => exact get_ins lt t n o l h
  | some x =>
    rw [Option.isSome_some, if_pos rfl, get_upd, h]
    rfl
theorem get_del {lt : κ → κ → Bool} (hl : Lin lt) : ∀ {t : List (κ × β)}, Up lt t → ∀ (n o : κ), get (del t n) o = if n = o then none else get t o
  | [], _, n, o => by simp [del, get]
  | f :: t, hu, n, o => by
    obtain ⟨h1, h2⟩ := List.pairwise_cons.1 hu
    unfold del
    by_cases h : f.1 = n
    · subst h
      rw [if_pos rfl]
      by_cases ho : f.1 = o
      · subst ho
        rw [if_pos rfl]
        exact get_none.2 fun x hx => Ne.symm (hl.ne (h1 x hx))
      · rw [if_neg ho, get_cons, if_neg ho]
    · rw [if_neg h, get_cons, get_del hl h2, get_cons]
      by_cases ho : n = o
      · rw [if_pos ho, if_neg (by rw [← ho]; exact h), if_pos ho]
      · rw [if_neg ho, if_neg ho]

theorem upd_keys : ∀ (t : List (κ × β)) (n : κ) (l : β), (upd t n l).map (·.1) = t.map (·.1)
  | [], _, _ => rfl
  | f :: t, n, l => by
    unfold upd
    split
    · rename_i h; rw [List.map_cons, List.map_cons, h]
    · rw [List.map_cons, List.map_cons, upd_keys t]
theorem upd_len (t : List (κ × β)) (n : κ) (l : β) : (upd t n l).length = t.length := by
  have := congrArg List.length (upd_keys t n l)
  simpa using this
theorem up_ins {lt : κ → κ → Bool} (hl : Lin lt) : ∀ {t : List (κ × β)} {n : κ} {l : β}, Up lt t → get t n = none → Up lt (ins lt t n l)
  | [], n, l, _, _ => List.pairwise_singleton _ _
  | f :: t, n, l, hu, h => by
    obtain ⟨h1, h2⟩ := List.pairwise_cons.1 hu
    have hf : f.1 ≠ n := fun e => by rw [get_cons, if_pos e] at h; cases h
    rw [get_cons, if_neg hf] at h
    unfold ins
    split
    · rename_i hn
      refine List.pairwise_cons.2 ⟨fun g hg => ?_, hu⟩
      rcases List.mem_cons.1 hg with rfl | hg
      · exact hn
      · exact hl.tr hn (h1 g hg)
    · rename_i hn
      refine List.pairwise_cons.2 ⟨fun g hg => ?_, up_ins hl h2 h⟩
      rcases (ins_mem lt t n l g).1 hg with rfl | hg
      · rcases hl.tri hf with h' | h'
        · exact h'
        · exact absurd h' hn
      · exact h1 g hg
/-- A tree that rises does so with a file, and without one. -/
theorem up_put {lt : κ → κ → Bool} (hl : Lin lt) {t : List (κ × β)} (hu : Up lt t) (n : κ) (l : β) : Up lt (put lt t n l) := by
  unfold put
  cases h : get t n with
  | none => exact up_ins hl hu h
  | some x =>
    rw [Option.isSome_some, if_pos rfl]
    rw [up_keys, upd_keys, ← up_keys]
    exact hu
theorem del_sub : ∀ (t : List (κ × β)) (n : κ), (del t n).Sublist t
  | [], _ => .slnil
  | f :: t, n => by
    unfold del
    split
    · exact List.sublist_cons_self f t
    · exact (del_sub t n).cons_cons f
theorem up_del {lt : κ → κ → Bool} {t : List (κ × β)} (hu : Up lt t) (n : κ) : Up lt (del t n) := List.Pairwise.sublist (del_sub t n) hu
theorem put_len (lt : κ → κ → Bool) (t : List (κ × β)) (n : κ) (l : β) : (put lt t n l).length = if (get t n).isSome then t.length else t.length + 1 := by
  unfold put
  split
  · exact upd_len t n l
  · exact ins_len lt t n l
end

section
variable {κ : Type} [DecidableEq κ]
/-- A rising list of names is told by what is in it. -/
theorem rise_ext {lt : κ → κ → Bool} (hl : Lin lt) : ∀ {a b : List κ}, (a.Pairwise fun x y => lt x y = true) → (b.Pairwise fun x y => lt x y = true) → (∀ x, x ∈ a ↔ x ∈ b) → a = b := fun {a b} ha hb h => by
  have e : ∀ {l : List κ}, (l.Pairwise fun x y => lt x y = true) → Up lt (l.map fun x => (x, ())) := fun {l} h => by
    rw [up_keys, List.map_map]
    exact (List.map_id l).symm ▸ h
  have g : ∀ {l : List κ} {n : κ}, get (l.map fun x => (x, ())) n = if n ∈ l then some () else none := fun {l n} => by
    induction l with
    | nil => simp [get]
    | cons x l ih =>
      rw [List.map_cons, get_cons, ih]
      by_cases hx : x = n
      · subst hx; simp
      · rw [if_neg hx]
        have : (n ∈ x :: l) ↔ n ∈ l := by simp [Ne.symm hx]
        simp only [this]
  have := up_ext hl (e ha) (e hb) fun n => by rw [g, g]; simp only [h n]
  have h2 := congrArg (List.map (·.1)) this
  rw [List.map_map, List.map_map] at h2
  exact (List.map_id a).symm.trans (h2.trans (List.map_id b))
end

end Tr
end Go.Proofs.YtfnhjflocfmcoaaGreat

namespace Go.Proofs.YtfnhjflocfmcoaaGreat
namespace Tr
open Tx

theorem bl_irr : ∀ a : List UInt8, Op.bytesLess a a = false
  | [] => rfl
  | a :: x => by rw [Op.bytesLess, bl_irr x]; simp
theorem bl_tr : ∀ {a b c : List UInt8}, Op.bytesLess a b = true → Op.bytesLess b c = true → Op.bytesLess a c = true
  | _, [], _, h, _ => by simp [Op.bytesLess] at h
  | [], _ :: _, [], _, h => by simp [Op.bytesLess] at h
  | [], _ :: _, _ :: _, _, _ => rfl
  | _ :: _, _ :: _, [], _, h => by simp [Op.bytesLess] at h
  | a :: x, b :: y, c :: z, h, h' => by
    simp only [Op.bytesLess, Bool.or_eq_true, Bool.and_eq_true, decide_eq_true_eq, beq_iff_eq] at h h' ⊢
    rcases h with h | ⟨rfl, h⟩ <;> rcases h' with h' | ⟨rfl, h'⟩
    · exact .inl (UInt8.lt_trans h h')
    · exact .inl h
    · exact .inl h'
    · exact .inr ⟨rfl, bl_tr h h'⟩
theorem bl_tri : ∀ {a b : List UInt8}, a ≠ b → Op.bytesLess a b = true ∨ Op.bytesLess b a = true
  | [], [], h => absurd rfl h
  | [], _ :: _, _ => .inl rfl
  | _ :: _, [], _ => .inr rfl
  | a :: x, b :: y, h => by
    simp only [Op.bytesLess, Bool.or_eq_true, Bool.and_eq_true, decide_eq_true_eq, beq_iff_eq]
    by_cases e : a = b
    · subst e
      rcases bl_tri (a := x) (b := y) (fun e => h (by rw [e])) with h1 | h1
      · exact .inl (.inr ⟨rfl, h1⟩)
      · exact .inr (.inr ⟨rfl, h1⟩)
    · have : a < b ∨ b < a := by
        have h1 : a.toNat ≠ b.toNat := fun h1 => e (UInt8.toNat_inj.1 h1)
        rcases Nat.lt_or_gt_of_ne h1 with h2 | h2
        · exact .inl (UInt8.lt_iff_toNat_lt.2 h2)
        · exact .inr (UInt8.lt_iff_toNat_lt.2 h2)
      rcases this with h1 | h1
      · exact .inl (.inl h1)
      · exact .inr (.inl h1)
/-- Names, byte by byte. -/
theorem lin : Lin Op.bytesLess := ⟨bl_irr, bl_tr, bl_tri⟩

theorem gt_eq (s n : List UInt8) : (!Op.bytesLess s n && !(s == n)) = Op.bytesLess n s := by
  by_cases e : s = n
  · subst e; rw [lin.irr]; simp
  · rcases lin.tri e with h | h
    · rw [h, lin.asym h]; rfl
    · rw [h, lin.asym h]; simp [e]

abbrev FL : Type := List UInt8 × List (List UInt8)
abbrev TR : Type := List FL

section
variable {κ β : Type} {lt : κ → κ → Bool}

/-- Names rise, each against the one ahead of it. -/
def upB (lt : κ → κ → Bool) : List κ → Bool
  | [] => true
  | [_] => true
  | a :: b :: t => lt a b && upB lt (b :: t)
/-- Names rise as far as they have been gone through. -/
theorem upB_take {l : List κ} : ∀ {k : Nat} (hk : k + 1 < l.length), upB lt (l.take (k + 2)) = (upB lt (l.take (k + 1)) && lt (l[k]'(by omega)) l[k + 1]) := by
  induction l with
  | nil => intro k hk; simp at hk
  | cons a l ih =>
    intro k hk
    cases l with
    | nil => simp at hk
    | cons b t =>
      cases k with
      | zero => simp [upB]
      | succ k =>
        have := ih (k := k) (by simpa using hk)
        simp only [List.take_succ_cons, upB, List.getElem_cons_succ] at this ⊢
        rw [this, Bool.and_assoc]
end

/-- A tree may be. -/
def mayT (t : TR) : Bool := decide (t.length ≤ 30) && ((t.all fun f => name f.1 && allMay f.2) && upB Op.bytesLess (t.map (·.1)))
section
variable {κ β : Type} [DecidableEq κ] {lt : κ → κ → Bool}
theorem upd_mem : ∀ {t : List (κ × β)} {n : κ} {l : β} {g : κ × β}, g ∈ upd t n l → g = (n, l) ∨ g ∈ t
  | [], _, _, _, h => by cases h
  | f :: t, n, l, g, h => by
    unfold upd at h
    split at h
    · rcases List.mem_cons.1 h with h | h
      · exact .inl h
      · exact .inr (List.mem_cons_of_mem _ h)
    · rcases List.mem_cons.1 h with h | h
      · exact .inr (by rw [h]; exact List.mem_cons_self ..)
      · rcases upd_mem h with h | h
        · exact .inl h
        · exact .inr (List.mem_cons_of_mem _ h)
theorem put_mem {t : List (κ × β)} {n : κ} {l : β} {g : κ × β} (h : g ∈ put lt t n l) : g = (n, l) ∨ g ∈ t := by
  unfold put at h
  split at h
  · exact upd_mem h
  · exact (ins_mem lt t n l g).1 h
end
section
variable {κ : Type} {lt : κ → κ → Bool}
/-- A name ahead of the first greater one. -/
def insN (lt : κ → κ → Bool) : List κ → κ → List κ
  | [], n => [n]
  | a :: t, n => if lt n a then n :: a :: t else a :: insN lt t n
theorem insN_mem : ∀ {o : List κ} {n x : κ}, x ∈ insN lt o n ↔ x = n ∨ x ∈ o
  | [], n, x => by simp [insN]
  | a :: t, n, x => by
    unfold insN
    split
    · simp
    · rw [List.mem_cons, insN_mem, List.mem_cons]
      constructor
      · rintro (h | h | h)
        · exact .inr (.inl h)
        · exact .inl h
        · exact .inr (.inr h)
      · rintro (h | h | h)
        · exact .inr (.inl h)
        · exact .inl h
        · exact .inr (.inr h)
theorem insN_rise (hl : Lin lt) : ∀ {o : List κ} {n : κ}, (o.Pairwise fun a b => lt a b = true) → n ∉ o → (insN lt o n).Pairwise fun a b => lt a b = true
  | [], n, _, _ => by simp [insN]
  | a :: t, n, h, hn => by
    unfold insN
    rw [List.pairwise_cons] at h
    split
    · rename_i hlt
      rw [List.pairwise_cons, List.pairwise_cons]
      refine ⟨fun c hc => ?_, h⟩
      rcases List.mem_cons.1 hc with rfl | hc
      · exact hlt
      · exact hl.tr hlt (h.1 c hc)
    · rename_i hlt
      rw [List.pairwise_cons]
      refine ⟨fun c hc => ?_, insN_rise hl h.2 (fun hc => hn (List.mem_cons_of_mem _ hc))⟩
      rcases insN_mem.1 hc with rfl | hc
      · rcases hl.tri (a := c) (b := a) (fun e => hn (by rw [e]; exact List.mem_cons_self ..)) with h1 | h1
        · exact absurd h1 hlt
        · exact h1
      · exact h.1 c hc
theorem insN_len : ∀ {o : List κ} {n : κ}, (insN lt o n).length = o.length + 1
  | [], _ => rfl
  | a :: t, n => by
    unfold insN
    split
    · rfl
    · rw [List.length_cons, insN_len, List.length_cons]

variable [DecidableEq κ]
def nin (lt : κ → κ → Bool) (o : List κ) (n : κ) : List κ := if n ∈ o then o else insN lt o n
/-- Names, each once, rising. -/
def names (lt : κ → κ → Bool) (l : List κ) : List κ := l.foldl (nin lt) []
theorem nin_mem {o : List κ} {n x : κ} : x ∈ nin lt o n ↔ x ∈ o ∨ x = n := by
  unfold nin
  split
  · rename_i h
    constructor
    · exact .inl
    · rintro (h1 | rfl)
      · exact h1
      · exact h
  · rw [insN_mem]; exact or_comm
theorem nin_rise (hl : Lin lt) {o : List κ} {n : κ} (h : o.Pairwise fun a b => lt a b = true) : (nin lt o n).Pairwise fun a b => lt a b = true := by
  unfold nin
  split
  · exact h
  · rename_i hn; exact insN_rise hl h hn
theorem fold_mem : ∀ {l o : List κ} {x : κ}, x ∈ l.foldl (nin lt) o ↔ x ∈ o ∨ x ∈ l
  | [], o, x => by simp
  | a :: l, o, x => by
    rw [List.foldl_cons, fold_mem, nin_mem, List.mem_cons, or_assoc]
theorem fold_rise (hl : Lin lt) : ∀ {l o : List κ}, (o.Pairwise fun a b => lt a b = true) → (l.foldl (nin lt) o).Pairwise fun a b => lt a b = true
  | [], o, h => h
  | a :: l, o, h => by rw [List.foldl_cons]; exact fold_rise hl (nin_rise hl h)
theorem names_mem {l : List κ} {x : κ} : x ∈ names lt l ↔ x ∈ l := by unfold names; rw [fold_mem]; simp
theorem names_rise (hl : Lin lt) (l : List κ) : (names lt l).Pairwise fun a b => lt a b = true := fold_rise hl List.Pairwise.nil
/-- Just one rising list has just these names. -/
theorem names_uniq (hl : Lin lt) {l r : List κ} (hr : r.Pairwise fun a b => lt a b = true) (hm : ∀ x, x ∈ r ↔ x ∈ l) : r = names lt l :=
  rise_ext hl hr (names_rise hl l) fun x => (hm x).trans names_mem.symm
theorem nin_len {o : List κ} {n : κ} : (nin lt o n).length ≤ o.length + 1 := by
  unfold nin
  split
  · omega
  · rw [insN_len]; exact Nat.le_refl _
theorem fold_len : ∀ {l o : List κ}, (l.foldl (nin lt) o).length ≤ o.length + l.length
  | [], o => by simp
  | a :: l, o => by
    rw [List.foldl_cons]
    have h1 := fold_len (l := l) (o := nin lt o a)
    have h2 := nin_len (lt := lt) (o := o) (n := a)
    simp only [List.length_cons]
    omega
end

section
variable {κ β : Type} [DecidableEq κ]

theorem get_at : ∀ {t : List (κ × β)} {n : κ} {i : Nat} (hi : i < t.length), t[i].1 = n → (∀ j (hj : j < i), (t[j]'(by omega)).1 ≠ n) → get t n = some t[i].2
  | [], _, _, hi, _, _ => by simp at hi
  | f :: t, n, 0, _, h, _ => by rw [get_cons, if_pos (show f.1 = n from h)]; rfl
  | f :: t, n, i + 1, hi, h, hb => by
    rw [get_cons, if_neg (show ¬ f.1 = n from hb 0 (by omega))]
    exact get_at (by simpa using hi) h fun j hj => hb (j + 1) (by omega)
theorem upd_at : ∀ {t : List (κ × β)} {n : κ} {l : β} {i : Nat} (hi : i < t.length), t[i].1 = n → (∀ j (hj : j < i), (t[j]'(by omega)).1 ≠ n) → upd t n l = t.take i ++ (n, l) :: t.drop (i + 1)
  | [], _, _, _, hi, _, _ => by simp at hi
  | f :: t, n, l, 0, _, h, _ => by unfold upd; rw [if_pos (show f.1 = n from h)]; rfl
  | f :: t, n, l, i + 1, hi, h, hb => by
    unfold upd
    rw [if_neg (show ¬ f.1 = n from hb 0 (by omega)), upd_at (t := t) (n := n) (l := l) (i := i) (by simpa using hi) h fun j hj => hb (j + 1) (by omega)]
    rfl
theorem del_at : ∀ {t : List (κ × β)} {n : κ} {i : Nat} (hi : i < t.length), t[i].1 = n → (∀ j (hj : j < i), (t[j]'(by omega)).1 ≠ n) → del t n = t.take i ++ t.drop (i + 1)
  | [], _, _, hi, _, _ => by simp at hi
  | f :: t, n, 0, _, h, _ => by unfold del; rw [if_pos (show f.1 = n from h)]; rfl
  | f :: t, n, i + 1, hi, h, hb => by
    unfold del
    rw [if_neg (show ¬ f.1 = n from hb 0 (by omega)), del_at (t := t) (n := n) (i := i) (by simpa using hi) h fun j hj => hb (j + 1) (by omega)]
    rfl
theorem del_no : ∀ {t : List (κ × β)} {n : κ}, get t n = none → del t n = t
  | [], _, _ => rfl
  | f :: t, n, h => by
    rw [get_cons] at h
    unfold del
    split at h
    · cases h
    · rename_i hf; rw [if_neg hf, del_no h]

end

section
variable {κ β : Type}

theorem ins_none {lt : κ → κ → Bool} : ∀ {p : List (κ × β)} {n : κ} {l : β}, (∀ f ∈ p, lt n f.1 = false) → ins lt p n l = p ++ [(n, l)]
  | [], _, _, _ => rfl
  | f :: p, n, l, h => by
    unfold ins
    rw [if_neg (by rw [h f (List.mem_cons_self ..)]; simp), ins_none fun g hg => h g (List.mem_cons_of_mem _ hg)]
    rfl
theorem ins_here {lt : κ → κ → Bool} : ∀ {p : List (κ × β)} {n : κ} {l : β} {f : κ × β}, (∀ f ∈ p, lt n f.1 = false) → lt n f.1 = true → ins lt (p ++ [f]) n l = p ++ [(n, l), f]
  | [], n, l, f, _, hf => by show ins lt [f] n l = _; unfold ins; rw [if_pos hf]; rfl
  | g :: p, n, l, f, h, hf => by
    rw [List.cons_append]
    unfold ins
    rw [if_neg (by rw [h g (List.mem_cons_self ..)]; simp), ins_here (fun g hg => h g (List.mem_cons_of_mem _ hg)) hf]
    rfl
theorem ins_past {lt : κ → κ → Bool} : ∀ {p : List (κ × β)} {n : κ} {l : β} {f : κ × β}, (∃ g ∈ p, lt n g.1 = true) → ins lt (p ++ [f]) n l = ins lt p n l ++ [f]
  | [], _, _, _, h => by obtain ⟨g, hg, _⟩ := h; cases hg
  | g :: p, n, l, f, h => by
    rw [List.cons_append]
    unfold ins
    split
    · rfl
    · rename_i hg
      rw [ins_past (p := p)]
      · rfl
      · obtain ⟨x, hx, hlt⟩ := h
        rcases List.mem_cons.1 hx with rfl | hx
        · exact absurd hlt hg
        · exact ⟨x, hx, hlt⟩
end

end Tr
end Go.Proofs.YtfnhjflocfmcoaaGreat

set_option maxRecDepth 100000
namespace Go.Proofs.YtfnhjflocfmcoaaGreat
open Go.RowKit
namespace Tx

set_option maxHeartbeats 400000 in
theorem stringslite_IndexByte (s : ByteArray) (c : Int) (w : World) :
    Calls Tryz.prog 150 #[.string s, .int .u8 c] w fun e w' => e = .returned (.int .i64 (Lib.indexByte s.data.toList c.toNat.toUInt8)) ∧ w = w' := by
  go_enter Tryz.func150, Tryz.ntmps150
  go_wp2
  rw [run_callFunc_extern Tryz.func151 (by kernel_rfl) (by kernel_rfl) (by kernel_rfl) (e := Extern.BytealgIndexByte.indexByte) (by kernel_rfl), Lib.run_indexByteString]
  simp only [Result.andThen]
  rw [Oper.upon_value]
  go_wp2
  go_ret
  exact ⟨rfl, rfl⟩

set_option maxHeartbeats 400000 in
theorem strings_IndexByte (s : ByteArray) (c : Int) (w : World) :
    Calls Tryz.prog 147 #[.string s, .int .u8 c] w fun e w' => e = .returned (.int .i64 (Lib.indexByte s.data.toList c.toNat.toUInt8)) ∧ w = w' := by
  go_enter Tryz.func147, Tryz.ntmps147
  go_wp2_with (go_at_call 150; refine (stringslite_IndexByte _ _ _).mono ?_; rintro e w' ⟨rfl, rfl⟩)
  go_ret
  exact ⟨rfl, rfl⟩

set_option maxHeartbeats 400000 in
theorem May (s : ByteArray) (w : World) :
    Calls Tryz.prog 143 #[.string s] w fun e w' => e = .returned (.bool (may s.data.toList)) ∧ w = w' := by
  have hl : s.data.toList.length = s.size := by simp only [ByteArray.size, Array.length_toList]
  have H := Lib.hid hl; clear hl
  have hi := indexByte_neg s.data.toList 10
  have HI := Lib.hid hi; clear hi
  by_cases h : s.size ≤ 80
  · go_enter Tryz.func143, Tryz.ntmps143
    go_wp2_with (go_at_call 147; refine (strings_IndexByte _ _ _).mono ?_; rintro e w' ⟨rfl, rfl⟩)
    go_ret
    exact ⟨ret_bool (by unfold may; rw [H.out, ← HI.out]; simp [h]), rfl⟩
  · go_enter Tryz.func143, Tryz.ntmps143
    go_wp2
    go_ret
    exact ⟨ret_bool (by unfold may; rw [H.out]; simp [h]), rfl⟩

theorem MayV (x : List UInt8) (w : World) :
    Calls Tryz.prog 143 #[strV x] w fun e w' => e = .returned (.bool (may x)) ∧ w = w' := by
  unfold strV
  have := May ⟨x.toArray⟩ w
  simpa using this

set_option maxHeartbeats 400000 in
theorem InName (c : UInt8) (w : World) :
    Calls Tryz.prog 98 #[.int .u8 c.toNat] w fun e w' => e = .returned (.bool (inName c)) ∧ w = w' := by
  have hc : c.toNat < 256 := c.toNat_lt
  generalize hn : c.toNat = n at *
  have H := Lib.hid hn; clear hn
  have hv : inName c = ((decide (97 ≤ n) && decide (n ≤ 122)) || (decide (48 ≤ n) && decide (n ≤ 57)) || decide (n = 46)) := by unfold inName; rw [H.out]
  have HV := Lib.hid hv; clear hv
  go_enter Tryz.func98, Tryz.ntmps98
  go_wp2
  all_goals
    go_ret
    exact ⟨ret_bool (by rw [HV.out, Bool.eq_iff_iff]; simp; omega), rfl⟩

theorem name_false {l : List UInt8} {c : UInt8} (hm : c ∈ l) (h : inName c = false) : name l = false := by
  have : l.all inName = false := by rw [List.all_eq_false]; exact ⟨c, hm, by simp [h]⟩
  simp [name, this]
theorem name_true {l : List UInt8} (h1 : 1 ≤ l.length) (h2 : l.length ≤ 16) (h : ∀ c ∈ l, inName c = true) : name l = true := by
  have : l.all inName = true := by rw [List.all_eq_true]; exact h
  simp [name, this, h1, h2]
theorem mem_data (s : ByteArray) (k : Nat) (h : k < s.size) : s[k] ∈ s.data.toList := by
  have : s[k] = s.data[k] := rfl
  rw [this]
  exact Array.getElem_mem_toList _
theorem take_data (s : ByteArray) (k : Nat) (h : k < s.size) : s.data.toList.take (k + 1) = s.data.toList.take k ++ [s[k]] := by
  rw [List.take_succ_eq_append_getElem (by rw [Array.length_toList]; exact h)]; rfl

set_option maxHeartbeats 400000 in
theorem Name (s : ByteArray) (w : World) (hs : s.size ≤ maxLen) :
    Calls Tryz.prog 70 #[.string s] w fun e w' => e = .returned (.bool (name s.data.toList)) ∧ w = w' := by
  have hl : s.data.toList.length = s.size := by simp only [ByteArray.size, Array.length_toList]
  have H := Lib.hid hl; clear hl
  unfold maxLen at hs
  by_cases h1 : s.size < 1
  · go_enter Tryz.func70, Tryz.ntmps70
    go_wp2
    go_ret
    exact ⟨ret_bool (by unfold name; rw [H.out]; simp; omega), rfl⟩
  · by_cases h2 : 16 < s.size
    · go_enter Tryz.func70, Tryz.ntmps70
      go_wp2
      go_ret
      exact ⟨ret_bool (by unfold name; rw [H.out]; simp; omega), rfl⟩
    · go_enter Tryz.func70, Tryz.ntmps70
      go_wp2
      go_loop [14] (fun i => ∃ k : Nat, k ≤ s.size ∧ i = .int .i64 k ∧ ∀ c ∈ s.data.toList.take k, inName c = true) (fun i => s.size - (intOf i).toNat)
      case atStart => exact ⟨0, Nat.zero_le _, rfl, by simp⟩
      case round =>
        obtain ⟨k, hk, rfl, hall⟩ := hrel
        have HA := Lib.hid hall; clear hall
        by_cases hlt : k < s.size
        · have hm := mem_data s k hlt
          have HT := Lib.hid (take_data s k hlt)
          cases hb : inName s[k] with
          | true =>
            go_wp2_with (go_at_call 98; refine (InName _ _).mono ?_; rintro e w' ⟨rfl, rfl⟩)
            go_round
            case rel => exact ⟨k + 1, by omega, by go_num, by rw [HT.out]; intro c hc; rcases List.mem_append.1 hc with h | h; exact HA.out c h; simp at h; rw [h]; exact hb⟩
            case measure => simp [intOf]; omega
          | false =>
            have HF := Lib.hid (name_false hm hb)
            go_wp2_with (go_at_call 98; refine (InName _ _).mono ?_; rintro e w' ⟨rfl, rfl⟩)
            go_ret
            exact ⟨ret_bool HF.out.symm, rfl⟩
        · have HF : Hid (name s.data.toList = true) := Lib.hid (name_true (by rw [H.out]; omega) (by rw [H.out]; omega) (by have := HA.out; rw [List.take_of_length_le (by rw [H.out]; omega)] at this; exact this))
          go_wp2
          go_ret
          exact ⟨ret_bool HF.out.symm, rfl⟩

end Tx
end Go.Proofs.YtfnhjflocfmcoaaGreat

namespace Go.Proofs.YtfnhjflocfmcoaaGreat
open Go.RowKit
namespace Tx

theorem allMay_false {ls : List (List UInt8)} {x : List UInt8} (hm : x ∈ ls) (h : may x = false) : allMay ls = false := by
  simp [allMay, not_all_of hm h]
theorem allMay_true {ls : List (List UInt8)} (hl : ls.length ≤ 200) (h : ∀ x ∈ ls, may x = true) : allMay ls = true := by
  simp [allMay, all_of h, hl]
set_option maxHeartbeats 400000 in
theorem All (A : Option Addr) (cap n B : Nat) (ls : List (List UInt8)) (w : World) (hn : ls.length = n) (hR : RdS w B A ls) :
    Calls Tryz.prog 130 #[.slice A n cap] w fun e w' => e = .returned (.bool (allMay ls)) ∧ w = w' := by
  have HN := Lib.hid hn; clear hn
  by_cases h1 : 200 < n
  · have HF : Hid (allMay ls = false) := Lib.hid (by unfold allMay; rw [HN.out]; simp; omega)
    go_enter Tryz.func130, Tryz.ntmps130
    go_wp2
    go_ret
    exact ⟨ret_bool HF.out.symm, rfl⟩
  · go_enter Tryz.func130, Tryz.ntmps130
    go_wp2
    go_loop [10] (fun i => ∃ k : Nat, k ≤ n ∧ i = .int .i64 k ∧ ∀ x ∈ ls.take k, may x = true) (fun i => n - (intOf i).toNat)
    case atStart => exact ⟨0, Nat.zero_le _, rfl, by simp⟩
    case round =>
      obtain ⟨k, hk, rfl, hall⟩ := hrel
      have HA := Lib.hid hall; clear hall
      by_cases hlt : k < n
      · have hkl : k < ls.length := by rw [HN.out]; exact hlt
        obtain ⟨a, rfl, hcell⟩ := hR.at' hkl
        cases hb : may ls[k] with
        | true =>
          go_wp2_with fail
          refine (MayV ls[k] _).mono ?_
          rintro e w' ⟨rfl, rfl⟩
          go_wp2
          go_round
          case rel => exact ⟨k + 1, by omega, by go_num, by rw [take_snoc' hkl]; intro c hc; rcases List.mem_append.1 hc with h | h; exact HA.out c h; simp at h; rw [h]; exact hb⟩
          case measure => simp [intOf]; omega
        | false =>
          have HF := Lib.hid (allMay_false (List.getElem_mem hkl) hb)
          go_wp2_with fail
          refine (MayV ls[k] _).mono ?_
          rintro e w' ⟨rfl, rfl⟩
          go_wp2
          go_ret
          exact ⟨ret_bool HF.out.symm, rfl⟩
      · have HF : Hid (allMay ls = true) := Lib.hid (allMay_true (by rw [HN.out]; omega) (by have := HA.out; rw [List.take_of_length_le (by rw [HN.out]; omega)] at this; exact this))
        go_wp2
        go_ret
        exact ⟨ret_bool HF.out.symm, rfl⟩

end Tx
end Go.Proofs.YtfnhjflocfmcoaaGreat

namespace Go.Proofs.YtfnhjflocfmcoaaGreat
open Go.RowKit
set_option linter.unusedVariables false
namespace Tx

theorem may_false10 {s : ByteArray} {k : Nat} (h : k < s.size) (e : s[k] = 10) : may s.data.toList = false := by
  have hm := mem_data s k h
  rw [e] at hm
  have : s.data.toList.contains 10 = true := by simpa using hm
  unfold may; rw [this]; simp
theorem may_ends {s : ByteArray} (h : ∀ c ∈ s.data.toList, c ≠ 10) : may s.data.toList = decide (s.size ≤ 80) := by
  have hl : s.data.toList.length = s.size := by simp only [ByteArray.size, Array.length_toList]
  have : s.data.toList.contains 10 = false := by
    cases hb : s.data.toList.contains 10 with
    | false => rfl
    | true => exact absurd rfl (h 10 (by simpa using hb))
  unfold may; rw [this, hl]; simp

set_option maxHeartbeats 400000 in
theorem RefMay (s : ByteArray) (w : World) (hs : s.size ≤ maxLen) :
    Calls Tryz.prog 135 #[.string s] w fun e w' => e = .returned (.bool (may s.data.toList)) ∧ w = w' := by
  have hl : s.data.toList.length = s.size := by simp only [ByteArray.size, Array.length_toList]
  have H := Lib.hid hl; clear hl
  unfold maxLen at hs
  go_enter Tryz.func135, Tryz.ntmps135
  go_wp2
  go_loop [3] (fun i => ∃ k : Nat, k ≤ s.size ∧ i = .int .i64 k ∧ ∀ c ∈ s.data.toList.take k, c ≠ 10) (fun i => s.size - (intOf i).toNat)
  case atStart => exact ⟨0, Nat.zero_le _, rfl, by simp⟩
  case round =>
    obtain ⟨k, hk, rfl, hall⟩ := hrel
    have HA := Lib.hid hall; clear hall
    by_cases hlt : k < s.size
    · have HT := Lib.hid (take_data s k hlt)
      by_cases hb : s[k] = 10
      · have HF := Lib.hid (may_false10 hlt hb)
        have hbn : ((s[k].toNat : Int) == 10) = true := by rw [hb]; decide
        clear hb
        go_wp2
        go_ret
        exact ⟨ret_bool HF.out.symm, rfl⟩
      · have hbn : ((s[k].toNat : Int) == 10) = false := by
          rw [beq_eq_false_iff_ne]; intro e; apply hb; apply UInt8.toNat_inj.1; simp; omega
        have HB := Lib.hid hb; clear hb
        go_wp2
        go_round
        case rel => exact ⟨k + 1, by omega, by go_num, by rw [HT.out]; intro c hc; rcases List.mem_append.1 hc with h | h; exact HA.out c h; simp at h; rw [h]; exact HB.out⟩
        case measure => simp [intOf]; omega
    · have HF := Lib.hid (may_ends (by have := HA.out; rw [List.take_of_length_le (by rw [H.out]; omega)] at this; exact this))
      go_wp2
      go_ret
      exact ⟨ret_bool (by rw [HF.out]; exact decide_eq_decide.2 (by omega)), rfl⟩

theorem RefMayV (x : List UInt8) (w : World) (hx : x.length ≤ maxLen) :
    Calls Tryz.prog 135 #[strV x] w fun e w' => e = .returned (.bool (may x)) ∧ w = w' := by
  unfold strV
  have := RefMay ⟨x.toArray⟩ w (by rw [size_strV]; exact hx)
  simpa using this

set_option maxHeartbeats 400000 in
theorem RefAll (A : Option Addr) (cap n B : Nat) (ls : List (List UInt8)) (w : World) (hn : ls.length = n) (hnm : n ≤ maxLen) (hR : RdS w B A ls) (hlen : ∀ x ∈ ls, x.length ≤ maxLen) :
    Calls Tryz.prog 118 #[.slice A n cap] w fun e w' => e = .returned (.bool (allMay ls)) ∧ w = w' := by
  unfold maxLen at hnm
  have HN := Lib.hid hn; clear hn
  have HL := Lib.hid hlen; clear hlen
  go_enter Tryz.func118, Tryz.ntmps118
  go_wp2
  go_loop [3] (fun i => ∃ k : Nat, k ≤ n ∧ i = .int .i64 k ∧ ∀ x ∈ ls.take k, may x = true) (fun i => n - (intOf i).toNat)
  case atStart => exact ⟨0, Nat.zero_le _, rfl, by simp⟩
  case round =>
    obtain ⟨k, hk, rfl, hall⟩ := hrel
    have HA := Lib.hid hall; clear hall
    by_cases hlt : k < n
    · have hkl : k < ls.length := by rw [HN.out]; exact hlt
      obtain ⟨a, rfl, hcell⟩ := hR.at' hkl
      have HX := Lib.hid (HL.out _ (List.getElem_mem hkl))
      cases hb : may ls[k] with
      | true =>
        go_wp2_with fail
        refine (RefMayV ls[k] _ HX.out).mono ?_
        rintro e w' ⟨rfl, rfl⟩
        go_wp2
        go_round
        case rel => exact ⟨k + 1, by omega, by go_num, by rw [take_snoc' hkl]; intro c hc; rcases List.mem_append.1 hc with h | h; exact HA.out c h; simp at h; rw [h]; exact hb⟩
        case measure => simp [intOf]; omega
      | false =>
        have HF := Lib.hid (allMay_false (List.getElem_mem hkl) hb)
        go_wp2_with fail
        refine (RefMayV ls[k] _ HX.out).mono ?_
        rintro e w' ⟨rfl, rfl⟩
        go_wp2
        go_ret
        exact ⟨ret_bool HF.out.symm, rfl⟩
    · have HF : Hid (allMay ls = decide (n ≤ 200)) := Lib.hid (by
        have := HA.out
        rw [List.take_of_length_le (by rw [HN.out]; omega)] at this
        unfold allMay; rw [HN.out, all_of this]; simp)
      go_wp2
      go_ret
      exact ⟨ret_bool (by rw [HF.out]; exact decide_eq_decide.2 (by omega)), rfl⟩

theorem inName_cases (c : UInt8) : (inName c = true ∧ ((97 ≤ c.toNat ∧ c.toNat ≤ 122) ∨ (48 ≤ c.toNat ∧ c.toNat ≤ 57) ∨ (46 ≤ c.toNat ∧ c.toNat ≤ 46))) ∨
    (inName c = false ∧ (122 < c.toNat ∨ (57 < c.toNat ∧ c.toNat < 97) ∨ (46 < c.toNat ∧ c.toNat < 48) ∨ c.toNat < 46)) := by
  cases h : inName c with
  | true =>
    left
    refine ⟨rfl, ?_⟩
    unfold inName at h
    simp only [Bool.or_eq_true, Bool.and_eq_true, decide_eq_true_eq] at h
    omega
  | false =>
    right
    refine ⟨rfl, ?_⟩
    unfold inName at h
    simp only [Bool.or_eq_false_iff, Bool.and_eq_false_iff, decide_eq_false_iff_not] at h
    omega

set_option maxHeartbeats 1000000 in
theorem RefName (s : ByteArray) (w : World) (hs : s.size ≤ maxLen) :
    Calls Tryz.prog 93 #[.string s] w fun e w' => e = .returned (.bool (name s.data.toList)) ∧ w = w' := by
  have hl : s.data.toList.length = s.size := by simp only [ByteArray.size, Array.length_toList]
  have H := Lib.hid hl; clear hl
  unfold maxLen at hs
  go_enter Tryz.func93, Tryz.ntmps93
  go_wp2
  go_loop [3] (fun i => ∃ k : Nat, k ≤ s.size ∧ i = .int .i64 k ∧ ∀ c ∈ s.data.toList.take k, inName c = true) (fun i => s.size - (intOf i).toNat)
  case atStart => exact ⟨0, Nat.zero_le _, rfl, by simp⟩
  case round =>
    obtain ⟨k, hk, rfl, hall⟩ := hrel
    have HA := Lib.hid hall; clear hall
    by_cases hlt : k < s.size
    · have hm := mem_data s k hlt
      have HT := Lib.hid (take_data s k hlt)
      rcases inName_cases s[k] with ⟨hb, hn⟩ | ⟨hb, hn⟩
      · have HB := Lib.hid hb; clear hb
        rcases hn with ⟨h1, h2⟩ | ⟨h1, h2⟩ | ⟨h1, h2⟩
        all_goals
          go_wp2
          first | done | (refine ⟨⟨k + 1, by omega, by go_num, by rw [HT.out]; intro c hc; rcases List.mem_append.1 hc with h | h; exact HA.out c h; simp at h; rw [h]; exact HB.out⟩, by simp [intOf]; omega⟩) | go_goals
      · have HF := Lib.hid (name_false hm hb)
        clear hb
        have d3 : ((s[k].toNat : Int) != 46) = true := by rw [bne_iff_ne]; omega
        rcases hn with h1 | ⟨h1, h2⟩ | ⟨h1, h2⟩ | h1
        · have d1 : decide ((s[k].toNat : Int) ≤ 122) = false := decide_eq_false (by omega)
          have d2 : decide ((s[k].toNat : Int) ≤ 57) = false := decide_eq_false (by omega)
          go_wp2
          go_ret
          exact ⟨ret_bool HF.out.symm, rfl⟩
        · have d2 : decide ((s[k].toNat : Int) ≤ 57) = false := decide_eq_false (by omega)
          go_wp2
          go_ret
          exact ⟨ret_bool HF.out.symm, rfl⟩
        all_goals
          go_wp2
          go_ret
          exact ⟨ret_bool HF.out.symm, rfl⟩
    · have HF : Hid (name s.data.toList = (decide (1 ≤ s.size) && decide (s.size ≤ 16))) := Lib.hid (by
        have := HA.out
        rw [List.take_of_length_le (by rw [H.out]; omega)] at this
        have h2 : s.data.toList.all inName = true := by rw [List.all_eq_true]; exact this
        unfold name; rw [H.out, h2]; simp)
      by_cases h1 : 1 ≤ s.size
      · go_wp2
        go_ret
        exact ⟨ret_bool (by rw [HF.out, decide_eq_true h1, Bool.true_and]; exact decide_eq_decide.2 (by omega)), rfl⟩
      · go_wp2
        go_ret
        exact ⟨ret_bool (by rw [HF.out, decide_eq_false h1]; rfl), rfl⟩

end Tx
end Go.Proofs.YtfnhjflocfmcoaaGreat

set_option maxRecDepth 100000
namespace Go.Proofs.YtfnhjflocfmcoaaGreat
open Go.RowKit
set_option linter.unusedVariables false
namespace Sq
open Tx

set_option maxHeartbeats 400000 in
theorem Equal (A A' : Option Addr) (cap cap' n n' B : Nat) (ls ms : List (List UInt8)) (w : World) (hn : ls.length = n) (hn' : ms.length = n') (hnm : n ≤ maxLen) (hR : RdS w B A ls) (hR' : RdS w B A' ms) :
    Calls Tryz.prog 149 #[.slice A n cap, .slice A' n' cap'] w (SameEnd w (decide (ls = ms))) := by
  unfold maxLen at hnm
  have HN := Lib.hid hn; clear hn
  have HN' := Lib.hid hn'; clear hn'
  by_cases h1 : n = n'
  · subst h1
    go_enter Tryz.func149, Tryz.ntmps149
    go_wp2
    go_loopw [13] (fun i wr => ∃ k : Nat, k ≤ n ∧ i = .int .i64 k ∧ ls.take k = ms.take k ∧ ∃ d, wr = w.drewN d) (fun i _ => n - (intOf i).toNat)
    case atStart => exact ⟨0, Nat.zero_le _, rfl, by simp, 0, rfl⟩
    case round =>
      obtain ⟨k, hk, rfl, hall, d, rfl⟩ := hrel
      have HA := Lib.hid hall; clear hall
      by_cases hlt : k < n
      · have hkl : k < ls.length := by rw [HN.out]; exact hlt
        have hkm : k < ms.length := by rw [HN'.out]; exact hlt
        obtain ⟨a, rfl, hcell⟩ := hR.at' hkl
        obtain ⟨a', rfl, hcell'⟩ := hR'.at' hkm
        have HD := Lib.hid (same_step hkl hkm HA.out)
        have hki : (k : Int) < (n : Int) := by omega
        go_wp2
        go_quiet (fail)
        go_wp2
        · have hb : (!ls[k] == ms[k]) = true := by assumption
          go_ret
          exact ⟨ret_bool (HD.out.1 (by simpa using hb)).symm, d + nq, by simp⟩
        · have hb : (!ls[k] == ms[k]) = false := by assumption
          refine ⟨⟨k + 1, by omega, by go_num, HD.out.2 (by simpa using hb), _, rfl⟩, by simp [intOf]; omega⟩
      · have HD : Hid (decide (ls = ms) = true) := Lib.hid (by
          have := HA.out
          rw [List.take_of_length_le (by rw [HN.out]; omega), List.take_of_length_le (by rw [HN'.out]; omega)] at this
          exact decide_eq_true this)
        go_wp2
        go_ret
        exact ⟨ret_bool HD.out.symm, _, rfl⟩
  · have HD : Hid (decide (ls = ms) = false) := Lib.hid (decide_eq_false (fun e => h1 (by rw [← HN.out, ← HN'.out, e])))
    have hne : ((n : Int) != (n' : Int)) = true := by rw [bne_iff_ne]; omega
    go_enter Tryz.func149, Tryz.ntmps149
    go_wp2
    go_ret
    exact ⟨ret_bool HD.out.symm, 0, rfl⟩

set_option maxHeartbeats 400000 in
theorem Has (A A' : Option Addr) (cap cap' n n' B : Nat) (i : Int) (ls ms : List (List UInt8)) (w : World) (hn : ls.length = n) (hn' : ms.length = n') (hc : n ≤ cap) (hnm : n ≤ maxLen) (hnm' : n' ≤ maxLen) (hR : RdS w B A ls) (hR' : RdS w B A' ms) :
    Calls Tryz.prog 145 #[.slice A n cap, .int .i64 i, .slice A' n' cap'] w (SameEnd w (has ls i ms)) := by
  have hnm0 := hnm
  unfold maxLen at hnm hnm'
  have HM := Lib.hid hnm0; clear hnm0
  have HN := Lib.hid hn; clear hn
  have HN' := Lib.hid hn'; clear hn'
  by_cases h1 : i < 0
  · have HF : Hid (has ls i ms = false) := Lib.hid (has_false (.inl h1))
    go_enter Tryz.func145, Tryz.ntmps145
    go_wp2
    go_ret
    exact ⟨ret_bool HF.out.symm, 0, rfl⟩
  by_cases h2 : (n : Int) < i
  · have HF : Hid (has ls i ms = false) := Lib.hid (has_false (.inr (.inl (by rw [HN.out]; exact h2))))
    go_enter Tryz.func145, Tryz.ntmps145
    go_wp2
    go_ret
    exact ⟨ret_bool HF.out.symm, 0, rfl⟩
  obtain ⟨k, rfl⟩ : ∃ k : Nat, i = k := ⟨i.toNat, by omega⟩
  by_cases h3 : (n : Int) - k < n'
  · have HF : Hid (has ls k ms = false) := Lib.hid (has_false (.inr (.inr (by rw [HN.out, HN'.out]; omega))))
    go_enter Tryz.func145, Tryz.ntmps145
    go_wp2
    go_ret
    exact ⟨ret_bool HF.out.symm, 0, rfl⟩
  have HF : Hid (has ls k ms = decide ((ls.drop k).take n' = ms)) := Lib.hid (by rw [has_at (by rw [HN.out, HN'.out]; omega), HN'.out])
  go_enter Tryz.func145, Tryz.ntmps145
  have HL : Hid (((ls.drop k).take n').length = n') := Lib.hid (by rw [List.length_take, List.length_drop, HN.out]; omega)
  have hD : RdS w B (if cap = k then A else A.map (·.add k)) ((ls.drop k).take n') := by
    have := (Rd.drop hR (k := k) (cap := cap) (by rw [List.length_map, HN.out]; exact hc)).take n'
    unfold RdS; rw [List.map_take, List.map_drop]; exact this
  have hm' : n' ≤ maxLen := by unfold maxLen; omega
  by_cases hck : cap = k
  · rw [if_pos hck] at hD
    go_wp2_with fail
    refine (Equal _ _ _ _ n' n' B _ ms _ HL.out HN'.out hm' hD hR').mono ?_
    rintro e w' ⟨rfl, d, rfl⟩
    go_wp2
    go_ret
    exact ⟨ret_bool HF.out.symm, _, rfl⟩
  · rw [if_neg hck] at hD
    go_wp2_with fail
    refine (Equal _ _ _ _ n' n' B _ ms _ HL.out HN'.out hm' hD hR').mono ?_
    rintro e w' ⟨rfl, d, rfl⟩
    go_wp2
    go_ret
    exact ⟨ret_bool HF.out.symm, _, rfl⟩

end Sq
end Go.Proofs.YtfnhjflocfmcoaaGreat

namespace Go.Proofs.YtfnhjflocfmcoaaGreat
open Go.RowKit
set_option linter.unusedVariables false
namespace Sq
open Tx

end Sq
end Go.Proofs.YtfnhjflocfmcoaaGreat

namespace Go.Proofs.YtfnhjflocfmcoaaGreat
open Go.RowKit
set_option linter.unusedVariables false
namespace Sq
open Tx

end Sq
end Go.Proofs.YtfnhjflocfmcoaaGreat

namespace Go.Proofs.YtfnhjflocfmcoaaGreat
open Go.RowKit
set_option linter.unusedVariables false
namespace Sq
open Tx

/-- How Clone ends. -/
def CloneEnd (w : World) (ls : List (List UInt8)) (n : Nat) (e : Ending) (w' : World) : Prop :=
  ∃ v, e = .returned v ∧ App w' w.heap.size 9 v n (ls.map strV) ∧ Below w.heap.size w w'

set_option maxHeartbeats 400000 in
theorem CloneW (A : Option Addr) (cap n B : Nat) (ls : List (List UInt8)) (w : World) (hn : ls.length = n) (hnm : n ≤ 8796093022208) (hB : B ≤ w.heap.size) (hR : RdS w B A ls) :
    Calls Tryz.prog 146 #[.slice A n cap] w (CloneEnd w ls n) := by
  obtain ⟨j0, hj, hy0, hy1, hy2⟩ := info_parts info_str
  have q := fun (w : World) (a : Option Addr) (n c n' c' : Nat) => Lib.run_eql_slice_nil (P := Tryz.prog) w 179 9 a n c n' c' Tryz.underlying179
  have HN := Lib.hid hn; clear hn
  cases A with
  | none =>
    have hnil := hR.none_nil
    have hl0 : ls = [] := by simpa using hnil
    have hn0 : n = 0 := by rw [← HN.out, hl0]; rfl
    subst hl0
    subst hn0
    go_enter Tryz.func146, Tryz.ntmps146
    go_wp2
    go_ret
    exact ⟨_, rfl, app_nil _ _ _, Below.refl _ _⟩
  | some a =>
    go_enter Tryz.func146, Tryz.ntmps146
    go_wp2_with (at_builtin; refine wpList_app rfl (.tmp 5) (.tmp 6) 179 rfl w.heap.size 9 j0 (.string ⟨#[]⟩) 16 Tryz.underlying179 hj hy0 hy1 hy2 rfl (.slice (some ⟨w.heap.size, 0, none⟩) 0 0) 0 [] rfl ⟨_, 0, rfl, Nat.le_refl _, rfl, .inl rfl, .inl rfl⟩ B (some a) n cap (ls.map strV) rfl (by rw [List.length_map]; exact HN.out) (hR.below ((Below.refl _ _).alloc hB _)) (strs_one _) (by unfold maxLen; omega) (by omega) (by simp) ?_; intro v' w' hA hBl; simp only [Nat.zero_add, List.nil_append] at hA)
    go_ret
    exact ⟨_, rfl, hA, ((Below.refl _ _).alloc (Nat.le_refl _) _).trans hBl⟩

/-- How a Swap ends that is one: the list, and true. -/
def SwapEnd (w : World) (xs : List (List UInt8)) (e : Ending) (w' : World) : Prop :=
  ∃ v, e = .returned (.tuple #[v, .bool true]) ∧ App w' w.heap.size 9 v xs.length (xs.map strV) ∧ Below w.heap.size w w'
/-- How a Swap ends that is none. -/
def NoneEnd (w : World) (e : Ending) (w' : World) : Prop := e = .returned (.tuple #[.slice none 0 0, .bool false]) ∧ ∃ d, w' = w.drewN d

set_option maxHeartbeats 400000 in
theorem swap_no (A A' A2 : Option Addr) (cap cap' cap2 n n' n2 B : Nat) (i : Int) (ls ms : List (List UInt8)) (w : World) (hn : ls.length = n) (hn' : ms.length = n') (hc : n ≤ cap) (hnm : n ≤ maxLen) (hnm' : n' ≤ maxLen) (hR : RdS w B A ls) (hR' : RdS w B A' ms) (hh : has ls i ms = false) :
    Calls Tryz.prog 142 #[.slice A n cap, .int .i64 i, .slice A' n' cap', .slice A2 n2 cap2] w (NoneEnd w) := by
  have HN := Lib.hid hn; clear hn
  have HN' := Lib.hid hn'; clear hn'
  have HH := Lib.hid hh; clear hh
  go_enter Tryz.func142, Tryz.ntmps142
  go_wp2_with fail
  refine (Has A A' cap cap' n n' B i ls ms w HN.out HN'.out hc hnm hnm' hR hR').mono ?_
  rw [HH.out]
  rintro e w' ⟨rfl, d, rfl⟩
  go_wp2
  go_ret2
  exact ⟨rfl, _, rfl⟩

set_option maxHeartbeats 1000000 in
theorem swap_yesW (A A' A2 : Option Addr) (cap cap' cap2 n n' n2 B k : Nat) (ls ms ns : List (List UInt8)) (w : World) (hn : ls.length = n) (hn' : ms.length = n') (hn2 : ns.length = n2) (hc : n ≤ cap) (hnm2 : n + n2 ≤ 8796093022208) (hB : B ≤ w.heap.size)
    (hR : RdS w B A ls) (hR' : RdS w B A' ms) (hR2 : RdS w B A2 ns) (hh : has ls k ms = true) :
    Calls Tryz.prog 142 #[.slice A n cap, .int .i64 k, .slice A' n' cap', .slice A2 n2 cap2] w (SwapEnd w (swp ls k n' ns)) := by
  obtain ⟨j0, hj, hy0, hy1, hy2⟩ := info_parts info_str
  have hkn := (has_len hh).2
  rw [Int.toNat_natCast, hn, hn'] at hkn
  have HN := Lib.hid hn; clear hn
  have HN' := Lib.hid hn'; clear hn'
  have HN2 := Lib.hid hn2; clear hn2
  have HH := Lib.hid hh; clear hh
  have hm1 : n ≤ maxLen := by unfold maxLen; omega
  have hm2 : n' ≤ maxLen := by unfold maxLen; omega
  go_enter Tryz.func142, Tryz.ntmps142
  go_wp2_with fail
  refine (Has A A' cap cap' n n' B k ls ms w HN.out HN'.out hc hm1 hm2 hR hR').mono ?_
  rw [HH.out]
  rintro e w' ⟨rfl, d, rfl⟩
  go_wp2_with fail
  refine (CloneW A cap n B ls _ HN.out (by omega) (by simpa using hB) (hR.drewN _)).mono ?_
  rintro e w1 ⟨v1, rfl, ⟨A1, c1, rfl, hc1, _, hR1, _⟩, hB1⟩
  have hB0 : Below w.heap.size w w1 := (below_drewN (Below.refl _ w) d).trans hB1
  clear hB1
  go_wp2_with fail
  have HL1 : Hid (((ls.map strV).take k).length = k) := Lib.hid (by rw [List.length_take, List.length_map, HN.out]; omega)
  have HL2 : Hid ((ns.map strV).length = n2) := Lib.hid (by rw [List.length_map]; exact HN2.out)
  have HL3 : Hid (((ls.map strV).drop (k + n')).length = n - (k + n')) := Lib.hid (by rw [List.length_drop, List.length_map, HN.out])
  have HL4 : Hid (∀ u ∈ (ls.map strV).drop (k + n'), u.oneCell' = true) := Lib.hid (fun u hu => strs_one ls u (List.mem_of_mem_drop hu))
  have HL5 : Hid ((swp ls k n' ns).length = k + n2 + (n - (k + n'))) := Lib.hid (by simp only [swp, List.length_append, List.length_take, List.length_drop, HN.out, HN2.out]; omega)
  have HL6 : Hid ((swp ls k n' ns).map strV = (ls.map strV).take k ++ ns.map strV ++ (ls.map strV).drop (k + n')) := Lib.hid (by simp [swp])
  have hT := Rd.drop hR1 (k := k + n') (cap := c1) (by rw [List.length_map, HN.out]; exact hc1)
  by_cases hck : c1 = k + n'
  · rw [if_pos hck] at hT
    go_quiet (fail)
    go_wp2_with (first
      | (at_builtin; refine wpList_app rfl (.tmp 30) (.tmp 31) 179 rfl w1.heap.size 9 j0 (.string ⟨#[]⟩) 16 Tryz.underlying179 hj hy0 hy1 hy2 rfl (.slice A1 k k) k ((ls.map strV).take k) rfl ⟨A1, k, rfl, Nat.le_refl _, HL1.out, (hR1.take k).drewN _, .inl rfl⟩ B A2 n2 cap2 (ns.map strV) rfl HL2.out ((hR2.below (hB0.mono hB)).drewN _) (strs_one _) (by unfold maxLen; omega) (by omega) (Nat.le_refl _) ?_; intro v3 w3 hA3 hB3; have hT3 := (hT.drewN nq).below hB3)
      | (at_builtin; refine wpList_app rfl (.tmp 32) (.tmp 33) 179 rfl w1.heap.size 9 j0 (.string ⟨#[]⟩) 16 Tryz.underlying179 hj hy0 hy1 hy2 rfl v3 (k + n2) _ rfl hA3 w1.heap.size _ (n - (k + n')) _ ((ls.map strV).drop (k + n')) rfl HL3.out hT3 HL4.out (by unfold maxLen; omega) (by omega) hB3.size ?_; intro v4 w4 hA4 hB4))
    go_ret2
    refine ⟨_, rfl, ?_, hB0.trans ((below_drewN (Below.refl _ w1) nq).trans (hB3.trans hB4) |>.mono hB0.size)⟩
    rw [HL5.out, HL6.out]
    exact app_mono hA4 hB0.size
  · rw [if_neg hck] at hT
    go_quiet (fail)
    go_wp2_with (first
      | (at_builtin; refine wpList_app rfl (.tmp 30) (.tmp 31) 179 rfl w1.heap.size 9 j0 (.string ⟨#[]⟩) 16 Tryz.underlying179 hj hy0 hy1 hy2 rfl (.slice A1 k k) k ((ls.map strV).take k) rfl ⟨A1, k, rfl, Nat.le_refl _, HL1.out, (hR1.take k).drewN _, .inl rfl⟩ B A2 n2 cap2 (ns.map strV) rfl HL2.out ((hR2.below (hB0.mono hB)).drewN _) (strs_one _) (by unfold maxLen; omega) (by omega) (Nat.le_refl _) ?_; intro v3 w3 hA3 hB3; have hT3 := (hT.drewN nq).below hB3)
      | (at_builtin; refine wpList_app rfl (.tmp 32) (.tmp 33) 179 rfl w1.heap.size 9 j0 (.string ⟨#[]⟩) 16 Tryz.underlying179 hj hy0 hy1 hy2 rfl v3 (k + n2) _ rfl hA3 w1.heap.size _ (n - (k + n')) _ ((ls.map strV).drop (k + n')) rfl HL3.out hT3 HL4.out (by unfold maxLen; omega) (by omega) hB3.size ?_; intro v4 w4 hA4 hB4))
    go_ret2
    refine ⟨_, rfl, ?_, hB0.trans ((below_drewN (Below.refl _ w1) nq).trans (hB3.trans hB4) |>.mono hB0.size)⟩
    rw [HL5.out, HL6.out]
    exact app_mono hA4 hB0.size

end Sq
end Go.Proofs.YtfnhjflocfmcoaaGreat

namespace Go.Proofs.YtfnhjflocfmcoaaGreat
open Go.RowKit
set_option linter.unusedVariables false
namespace Sq
open Tx

theorem Swap_no (A A' A2 : Option Addr) (cap cap' cap2 n n' n2 B : Nat) (i : Int) (ls ms : List (List UInt8)) (w : World) (hn : ls.length = n) (hn' : ms.length = n') (hc : n ≤ cap) (hnm : n ≤ maxLen) (hnm' : n' ≤ maxLen) (hR : RdS w B A ls) (hR' : RdS w B A' ms) (hh : has ls i ms = false) :
    Calls Tryz.prog 129 #[.slice A n cap, .int .i64 i, .slice A' n' cap', .slice A2 n2 cap2] w (NoneEnd w) := by
  have H := Lib.hid (swap_no A A' A2 cap cap' cap2 n n' n2 B i ls ms w hn hn' hc hnm hnm' hR hR' hh)
  clear hn hn' hh
  go_enter Tryz.func129, Tryz.ntmps129
  go_wp2_with fail
  refine H.out.mono ?_
  rintro e w' ⟨rfl, d, rfl⟩
  go_wp2
  go_ret2
  exact ⟨rfl, _, rfl⟩

theorem Swap_yesW (A A' A2 : Option Addr) (cap cap' cap2 n n' n2 B k : Nat) (ls ms ns : List (List UInt8)) (w : World) (hn : ls.length = n) (hn' : ms.length = n') (hn2 : ns.length = n2) (hc : n ≤ cap) (hnm2 : n + n2 ≤ 8796093022208) (hB : B ≤ w.heap.size)
    (hR : RdS w B A ls) (hR' : RdS w B A' ms) (hR2 : RdS w B A2 ns) (hh : has ls k ms = true) :
    Calls Tryz.prog 129 #[.slice A n cap, .int .i64 k, .slice A' n' cap', .slice A2 n2 cap2] w (SwapEnd w (swp ls k n' ns)) := by
  have H := Lib.hid (swap_yesW A A' A2 cap cap' cap2 n n' n2 B k ls ms ns w hn hn' hn2 hc hnm2 hB hR hR' hR2 hh)
  clear hn hn' hn2 hh
  go_enter Tryz.func129, Tryz.ntmps129
  go_wp2_with fail
  refine H.out.mono ?_
  rintro e w' ⟨v, rfl, hA, hb⟩
  go_wp2
  go_ret2
  exact ⟨v, rfl, hA, hb⟩

end Sq
end Go.Proofs.YtfnhjflocfmcoaaGreat

namespace Go.Proofs.YtfnhjflocfmcoaaGreat
open Go.RowKit
set_option linter.unusedVariables false
namespace Sq
open Tx

theorem at_step {ls ms : List (List UInt8)} {i k n' : Nat} (hn' : ms.length = n') (hb : i + n' ≤ ls.length) (hk : k < n') (h : (ls.drop i).take k = ms.take k) (h1 : i + k < ls.length) (h2 : k < ms.length) :
    (ls[i + k] = ms[k] → (ls.drop i).take (k + 1) = ms.take (k + 1)) ∧ (ls[i + k] ≠ ms[k] → has ls i ms = false) := by
  have hd : k < (ls.drop i).length := by rw [List.length_drop]; omega
  have he : (ls.drop i)[k] = ls[i + k] := by simp
  refine ⟨fun e => take_eq_succ hd h2 h (by rw [he, e]), fun e => ?_⟩
  rw [has_at (by omega)]
  refine decide_eq_false fun hh => e ?_
  rw [← he]
  have := congrArg (fun l => l[k]?) hh
  simp only [List.getElem?_take, h2, if_true] at this
  rw [List.getElem?_eq_getElem hd, List.getElem?_eq_getElem h2] at this
  exact Option.some.inj this

set_option maxHeartbeats 1000000 in
theorem RefAt (A A' : Option Addr) (cap cap' n n' B : Nat) (i : Int) (ls ms : List (List UInt8)) (w : World) (hn : ls.length = n) (hn' : ms.length = n') (hnm : n ≤ maxLen) (hnm' : n' ≤ maxLen) (hR : RdS w B A ls) (hR' : RdS w B A' ms) :
    Calls Tryz.prog 119 #[.slice A n cap, .int .i64 i, .slice A' n' cap'] w (SameEnd w (has ls i ms)) := by
  unfold maxLen at hnm hnm'
  have HN := Lib.hid hn; clear hn
  have HN' := Lib.hid hn'; clear hn'
  by_cases h1 : i < 0
  · have HF : Hid (has ls i ms = false) := Lib.hid (has_false (.inl h1))
    go_enter Tryz.func119, Tryz.ntmps119
    go_wp2
    go_ret
    exact ⟨ret_bool HF.out.symm, 0, rfl⟩
  by_cases h2 : (n : Int) < i
  · have HF : Hid (has ls i ms = false) := Lib.hid (has_false (.inr (.inl (by rw [HN.out]; exact h2))))
    go_enter Tryz.func119, Tryz.ntmps119
    go_wp2
    go_ret
    exact ⟨ret_bool HF.out.symm, 0, rfl⟩
  obtain ⟨i, rfl⟩ : ∃ k : Nat, i = k := ⟨i.toNat, by omega⟩
  by_cases h3 : (n : Int) - i < n'
  · have HF : Hid (has ls i ms = false) := Lib.hid (has_false (.inr (.inr (by rw [HN.out, HN'.out]; omega))))
    go_enter Tryz.func119, Tryz.ntmps119
    go_wp2
    go_ret
    exact ⟨ret_bool HF.out.symm, 0, rfl⟩
  go_enter Tryz.func119, Tryz.ntmps119
  go_wp2
  go_loopw [7] (fun t wr => ∃ k : Nat, k ≤ n' ∧ t = .int .i64 k ∧ (ls.drop i).take k = ms.take k ∧ ∃ d, wr = w.drewN d) (fun t _ => n' - (intOf t).toNat)
  case atStart => exact ⟨0, Nat.zero_le _, rfl, by simp, 0, rfl⟩
  case round =>
    obtain ⟨k, hk, rfl, hall, d, rfl⟩ := hrel
    have HA := Lib.hid hall; clear hall
    by_cases hlt : k < n'
    · have hkl : i + k < ls.length := by rw [HN.out]; omega
      have hkm : k < ms.length := by rw [HN'.out]; exact hlt
      obtain ⟨a, rfl, hcell⟩ := hR.at' hkl
      obtain ⟨a', rfl, hcell'⟩ := hR'.at' hkm
      have HD := Lib.hid (at_step HN'.out (by rw [HN.out]; omega) hlt HA.out hkl hkm)
      have hki : (k : Int) < (n' : Int) := by omega
      have hkj : i + k < n := by omega
      go_wp2
      go_quiet (fail)
      go_wp2
      · have hb : (!ls[i + k] == ms[k]) = true := by assumption
        go_ret
        exact ⟨ret_bool (HD.out.2 (by simpa using hb)).symm, d + nq, by simp⟩
      · have hb : (!ls[i + k] == ms[k]) = false := by assumption
        exact ⟨⟨k + 1, by omega, by go_num, HD.out.1 (by simpa using hb), _, rfl⟩, by simp [intOf]; omega⟩
    · have HF : Hid (has ls i ms = true) := Lib.hid (by
        rw [has_at (by rw [HN.out, HN'.out]; omega), HN'.out]
        have := HA.out
        rw [show k = n' by omega, List.take_of_length_le (l := ms) (by rw [HN'.out]; omega)] at this
        exact decide_eq_true this)
      go_wp2
      go_ret
      exact ⟨ret_bool HF.out.symm, _, rfl⟩

set_option maxHeartbeats 400000 in
theorem RefSwap_no (A A' A2 : Option Addr) (cap cap' cap2 n n' n2 B : Nat) (i : Int) (ls ms : List (List UInt8)) (w : World) (hn : ls.length = n) (hn' : ms.length = n') (hnm : n ≤ maxLen) (hnm' : n' ≤ maxLen) (hR : RdS w B A ls) (hR' : RdS w B A' ms) (hh : has ls i ms = false) :
    Calls Tryz.prog 97 #[.slice A n cap, .int .i64 i, .slice A' n' cap', .slice A2 n2 cap2] w (NoneEnd w) := by
  have H := Lib.hid (RefAt A A' cap cap' n n' B i ls ms w hn hn' hnm hnm' hR hR')
  rw [hh] at H
  clear hn hn' hh
  go_enter Tryz.func97, Tryz.ntmps97
  go_wp2_with fail
  refine H.out.mono ?_
  rintro e w' ⟨rfl, d, rfl⟩
  go_wp2
  go_ret2
  exact ⟨rfl, _, rfl⟩

set_option maxHeartbeats 1000000 in
theorem RefSwap_yes (A A' A2 : Option Addr) (cap cap' cap2 n n' n2 B k : Nat) (ls ms ns : List (List UInt8)) (w : World) (hn : ls.length = n) (hn' : ms.length = n') (hn2 : ns.length = n2) (hc : n ≤ cap) (hnm : n ≤ 100000) (hnm' : n' ≤ 1000) (hnm2 : n2 ≤ 1000) (hB : B ≤ w.heap.size)
    (hR : RdS w B A ls) (hR' : RdS w B A' ms) (hR2 : RdS w B A2 ns) (hh : has ls k ms = true) :
    Calls Tryz.prog 97 #[.slice A n cap, .int .i64 k, .slice A' n' cap', .slice A2 n2 cap2] w (SwapEnd w (swp ls k n' ns)) := by
  obtain ⟨j0, hj, hy0, hy1, hy2⟩ := info_parts info_str
  have hkn := (has_len hh).2
  rw [Int.toNat_natCast, hn, hn'] at hkn
  have HL1 : Hid (((ls.map strV).take k).length = k) := Lib.hid (by rw [List.length_take, List.length_map, hn]; omega)
  have HL2 : Hid ((ns.map strV).length = n2) := Lib.hid (by rw [List.length_map]; exact hn2)
  have HL3 : Hid (((ls.map strV).drop (k + n')).length = n - (k + n')) := Lib.hid (by rw [List.length_drop, List.length_map, hn])
  have HL4 : Hid (∀ u ∈ (ls.map strV).drop (k + n'), u.oneCell' = true) := Lib.hid (fun u hu => strs_one ls u (List.mem_of_mem_drop hu))
  have HL7 : Hid (∀ u ∈ (ls.map strV).take k, u.oneCell' = true) := Lib.hid (fun u hu => strs_one ls u (List.mem_of_mem_take hu))
  have HL5 : Hid ((swp ls k n' ns).length = k + n2 + (n - (k + n'))) := Lib.hid (by simp only [swp, List.length_append, List.length_take, List.length_drop, hn, hn2]; omega)
  have HL6 : Hid ((swp ls k n' ns).map strV = (ls.map strV).take k ++ ns.map strV ++ (ls.map strV).drop (k + n')) := Lib.hid (by simp [swp])
  have hT := Rd.drop hR (k := k + n') (cap := cap) (by rw [List.length_map, hn]; exact hc)
  have H := Lib.hid (RefAt A A' cap cap' n n' B k ls ms w hn hn' (by unfold maxLen; omega) (by unfold maxLen; omega) hR hR')
  rw [hh] at H
  clear hn hn' hn2 hh
  go_enter Tryz.func97, Tryz.ntmps97
  go_wp2_with fail
  refine H.out.mono ?_
  rintro e w' ⟨rfl, d, rfl⟩
  obtain hck | hck := Classical.em (cap = k + n')
  all_goals first | rw [if_pos hck] at hT | rw [if_neg hck] at hT
  all_goals
    go_wp2_with (first
      | (at_builtin; refine wpList_app rfl (.const (.slice none 0 0)) (.tmp 20) 49 rfl w.heap.size 9 j0 (.string ⟨#[]⟩) 16 Tryz.underlying49 hj hy0 hy1 hy2 rfl (.slice none 0 0) 0 [] rfl (app_nil _ _ _) B A k _ ((ls.map strV).take k) rfl HL1.out ((hR.take k).drewN _) HL7.out (by unfold maxLen; omega) (by omega) (Nat.le_refl _) ?_; intro v2 w2 hA2 hB2; simp only [Nat.zero_add, List.nil_append] at hA2; have hB02 := (below_drewN (Below.refl w.heap.size w) d).trans hB2)
      | (at_builtin; refine wpList_app rfl (.tmp 22) (.tmp 23) 49 rfl w.heap.size 9 j0 (.string ⟨#[]⟩) 16 Tryz.underlying49 hj hy0 hy1 hy2 rfl v2 k _ rfl hA2 B A2 n2 cap2 (ns.map strV) rfl HL2.out (hR2.below (hB02.mono hB)) (strs_one _) (by unfold maxLen; omega) (by omega) hB02.size ?_; intro v3 w3 hA3 hB3; have hB03 := hB02.trans hB3)
      | (at_builtin; refine wpList_app rfl (.tmp 25) (.tmp 31) 49 rfl w.heap.size 9 j0 (.string ⟨#[]⟩) 16 Tryz.underlying49 hj hy0 hy1 hy2 rfl v3 (k + n2) _ rfl hA3 B _ (n - (k + n')) _ ((ls.map strV).drop (k + n')) rfl HL3.out (hT.below (hB03.mono hB)) HL4.out (by unfold maxLen; omega) (by omega) hB03.size ?_; intro v4 w4 hA4 hB4; have hB04 := hB03.trans hB4))
    go_ret2
    refine ⟨_, rfl, ?_, hB04⟩
    rw [HL5.out, HL6.out]
    exact hA4

end Sq
end Go.Proofs.YtfnhjflocfmcoaaGreat

set_option maxRecDepth 100000
namespace Go.Proofs.YtfnhjflocfmcoaaGreat
open Go.RowKit
set_option linter.unusedVariables false
namespace Hk
open Tx Df

abbrev HU : Type := Hu (List UInt8)

/-- The value of a hunk. -/
abbrev hkV (p : Int) (A : Option Addr) (n c : Nat) (A' : Option Addr) (n' c' : Nat) : Value := .agg #[.int .i64 p, .slice A n c, .slice A' n' c']

/-- Two slice values that read, below block B, as a hunk's lines. -/
structure HV (w : World) (B : Nat) (A : Option Addr) (n c : Nat) (A' : Option Addr) (n' c' : Nat) (h : HU) : Prop where
  l : h.old.length = n
  l' : h.new.length = n'
  k : n ≤ c
  k' : n' ≤ c'
  m : n ≤ maxLen
  m' : n' ≤ maxLen
  r : RdS w B A h.old
  r' : RdS w B A' h.new
  p : I64 h.pos

/-- The cells of a hunk at the address a, its lines below block B. -/
structure HkAt (w : World) (B : Nat) (a : Addr) (k : Nat) (h : HU) : Prop where
  c0 : w.cell? (a.add (k * 3)) = some (.int .i64 h.pos)
  c1 : ∃ A c A' c', w.cell? ⟨(a.add (k * 3)).block, (a.add (k * 3)).off + 1, none⟩ = some (.slice A h.old.length c) ∧ w.cell? ⟨(a.add (k * 3)).block, (a.add (k * 3)).off + 2, none⟩ = some (.slice A' h.new.length c') ∧ HV w B A h.old.length c A' h.new.length c' h

/-- The address A leads, below block B, to hunks; or there are none. -/
def RdH (w : World) (B : Nat) (A : Option Addr) (hs : List HU) : Prop :=
  hs = [] ∨ ∃ a, A = some a ∧ a.block < B ∧ ∀ (k : Nat) x, hs[k]? = some x → HkAt w B a k x

section
variable {w w' : World} {B B' : Nat} {A A' : Option Addr} {n c n' c' : Nat} {h : HU} {hs : List HU}
theorem HV.below (v : HV w B A n c A' n' c' h) (hb : Below B w w') : HV w' B A n c A' n' c' h := ⟨v.l, v.l', v.k, v.k', v.m, v.m', Rd.below v.r hb, Rd.below v.r' hb, v.p⟩
theorem HV.up (v : HV w B A n c A' n' c' h) (hB : B ≤ B') : HV w B' A n c A' n' c' h := ⟨v.l, v.l', v.k, v.k', v.m, v.m', Rd.up v.r hB, Rd.up v.r' hB, v.p⟩
theorem HV.drewN (v : HV w B A n c A' n' c' h) (d : Nat) : HV (w.drewN d) B A n c A' n' c' h := ⟨v.l, v.l', v.k, v.k', v.m, v.m', Rd.drewN v.r d, Rd.drewN v.r' d, v.p⟩
theorem HV.turn (v : HV w B A n c A' n' c' h) : HV w B A' n' c' A n c (turn h) := ⟨v.l', v.l, v.k', v.k, v.m', v.m, v.r', v.r, v.p⟩
theorem HkAt.below {a : Addr} {k : Nat} (x : HkAt w B a k h) (ha : a.block < B) (hb : Below B w w') : HkAt w' B a k h := by
  obtain ⟨c0, A, c, A', c', c1, c2, v⟩ := x
  exact ⟨(hb.cell (by rw [add_block]; exact ha)).trans c0, A, c, A', c', (hb.cell (by show (a.add (k * 3)).block < B; rw [add_block]; exact ha)).trans c1, (hb.cell (by show (a.add (k * 3)).block < B; rw [add_block]; exact ha)).trans c2, v.below hb⟩
theorem HkAt.up {a : Addr} {k : Nat} (x : HkAt w B a k h) (hB : B ≤ B') : HkAt w B' a k h := by
  obtain ⟨c0, A, c, A', c', c1, c2, v⟩ := x
  exact ⟨c0, A, c, A', c', c1, c2, v.up hB⟩
theorem RdH.below (h : RdH w B A hs) (hb : Below B w w') : RdH w' B A hs := by
  rcases h with h | ⟨a, e, hlt, hc⟩
  · exact .inl h
  · exact .inr ⟨a, e, hlt, fun k x hx => (hc k x hx).below hlt hb⟩
theorem RdH.up (h : RdH w B A hs) (hB : B ≤ B') : RdH w B' A hs := by
  rcases h with h | ⟨a, e, hlt, hc⟩
  · exact .inl h
  · exact .inr ⟨a, e, by omega, fun k x hx => (hc k x hx).up hB⟩
theorem RdH.at_ (h : RdH w B A hs) {k : Nat} (hk : k < hs.length) : ∃ a, A = some a ∧ a.block < B ∧ HkAt w B a k hs[k] := by
  rcases h with rfl | ⟨a, e, hlt, hc⟩
  · exact absurd hk (by simp)
  · exact ⟨a, e, hlt, hc k _ (List.getElem?_eq_getElem hk)⟩
end

def mayH (h : HU) : Bool := decide (0 ≤ h.pos) && decide (h.pos ≤ 1048576) && (allMay h.old && allMay h.new)
def sameH (g h : HU) : Bool := decide (g.pos = h.pos) && (decide (g.old = h.old) && decide (g.new = h.new))

theorem below_box {w w' : World} (o : Obj) (h : Below (w.alloc o).heap.size (w.alloc o) w') : Below w.heap.size w w' := ((Below.refl _ _).alloc (Nat.le_refl _) o).trans (h.mono (by simp))

end Hk
end Go.Proofs.YtfnhjflocfmcoaaGreat

namespace Go.Proofs.YtfnhjflocfmcoaaGreat
open Go.ChangeShapes Go.WideShapes Go.ChangeAt Go.RowKit Go.Deep Go.Joins
set_option linter.unusedVariables false
namespace Hk
open Tx Df

section
variable {H : Type} {enc : TypeId × Value → H} {W : World} {base : Nat} {spare : Nat → Bool} {held : Bool}

end

end Hk
end Go.Proofs.YtfnhjflocfmcoaaGreat

namespace Go.Proofs.YtfnhjflocfmcoaaGreat
open Go.RowKit
set_option linter.unusedVariables false
namespace Hk
open Tx Df

set_option maxHeartbeats 400000 in
theorem Equal (A A' : Option Addr) (cap cap' n n' B : Nat) (ls ms : List (List UInt8)) (w : World) (hn : ls.length = n) (hn' : ms.length = n') (hnm : n ≤ maxLen) (hR : RdS w B A ls) (hR' : RdS w B A' ms) :
    Calls Tryz.prog 107 #[.slice A n cap, .slice A' n' cap'] w (SameEnd w (decide (ls = ms))) := by
  unfold maxLen at hnm
  have HN := Lib.hid hn; clear hn
  have HN' := Lib.hid hn'; clear hn'
  by_cases h1 : n = n'
  · subst h1
    go_enter Tryz.func107, Tryz.ntmps107
    go_wp2
    go_loopw [13] (fun i wr => ∃ k : Nat, k ≤ n ∧ i = .int .i64 k ∧ ls.take k = ms.take k ∧ ∃ d, wr = w.drewN d) (fun i _ => n - (intOf i).toNat)
    case atStart => exact ⟨0, Nat.zero_le _, rfl, by simp, 0, rfl⟩
    case round =>
      obtain ⟨k, hk, rfl, hall, d, rfl⟩ := hrel
      have HA := Lib.hid hall; clear hall
      by_cases hlt : k < n
      · have hkl : k < ls.length := by rw [HN.out]; exact hlt
        have hkm : k < ms.length := by rw [HN'.out]; exact hlt
        obtain ⟨a, rfl, hcell⟩ := hR.at' hkl
        obtain ⟨a', rfl, hcell'⟩ := hR'.at' hkm
        have HD := Lib.hid (same_step hkl hkm HA.out)
        have hki : (k : Int) < (n : Int) := by omega
        go_wp2
        go_quiet (fail)
        go_wp2
        · have hb : (!ls[k] == ms[k]) = true := by assumption
          go_ret
          exact ⟨ret_bool (HD.out.1 (by simpa using hb)).symm, d + nq, by simp⟩
        · have hb : (!ls[k] == ms[k]) = false := by assumption
          refine ⟨⟨k + 1, by omega, by go_num, HD.out.2 (by simpa using hb), _, rfl⟩, by simp [intOf]; omega⟩
      · have HD : Hid (decide (ls = ms) = true) := Lib.hid (by
          have := HA.out
          rw [List.take_of_length_le (by rw [HN.out]; omega), List.take_of_length_le (by rw [HN'.out]; omega)] at this
          exact decide_eq_true this)
        go_wp2
        go_ret
        exact ⟨ret_bool HD.out.symm, _, rfl⟩
  · have HD : Hid (decide (ls = ms) = false) := Lib.hid (decide_eq_false (fun e => h1 (by rw [← HN.out, ← HN'.out, e])))
    have hne : ((n : Int) != (n' : Int)) = true := by rw [bne_iff_ne]; omega
    go_enter Tryz.func107, Tryz.ntmps107
    go_wp2
    go_ret
    exact ⟨ret_bool HD.out.symm, 0, rfl⟩

/-- How a test of hunks ends. -/
def TestEnd (w : World) (b : Bool) (e : Ending) (w' : World) : Prop := e = .returned (.bool b) ∧ Below w.heap.size w w'

theorem rd_alloc {w : World} {B : Nat} {A : Option Addr} {xs : List Value} (h : Rd w B A xs) (hB : B ≤ w.heap.size) (o : Obj) : Rd (w.alloc o) B A xs := h.below ((Below.refl _ _).alloc hB o)

set_option maxHeartbeats 400000 in
theorem LightH (A : Option Addr) (n c : Nat) (A' : Option Addr) (n' c' B : Nat) (h : HU) (w : World) (hB : B ≤ w.heap.size) (hv : HV w B A n c A' n' c' h) :
    Calls Tryz.prog 59 #[hkV h.pos A n c A' n' c'] w (TestEnd w (light h.old 300 && light h.new 300)) := by
  obtain ⟨l, l', k, k', m, m', r, r', p⟩ := hv
  have HL := Lib.hid l; have HL' := Lib.hid l'; clear l l'
  obtain ⟨b, hb⟩ : ∃ b, (light h.old 300 && light h.new 300) = b := ⟨_, rfl⟩
  rw [hb]
  have HB := Lib.hid hb; clear hb
  go_enter Tryz.func59, Tryz.ntmps59
  go_wp2_with fail
  refine (Light _ _ _ B 300 h.old _ HL.out m (rd_alloc r hB _) (by decide)).mono ?_
  rintro e w' ⟨rfl, rfl⟩
  go_wp2_with fail
  refine (Light _ _ _ B 300 h.new _ HL'.out m' (rd_alloc r' hB _) (by decide)).mono ?_
  rintro e w' ⟨rfl, rfl⟩
  cases ho : light h.old 300 with
  | true =>
    have HO := Lib.hid ho; clear ho
    go_wp2
    go_ret
    exact ⟨ret_bool (by rw [← HB.out, HO.out]; simp), (Below.refl _ _).alloc (Nat.le_refl _) _⟩
  | false =>
    have HO := Lib.hid ho; clear ho
    go_wp2
    go_ret
    exact ⟨ret_bool (by rw [← HB.out, HO.out]; simp), (Below.refl _ _).alloc (Nat.le_refl _) _⟩

set_option maxHeartbeats 400000 in
theorem May (A : Option Addr) (n c : Nat) (A' : Option Addr) (n' c' B : Nat) (h : HU) (w : World) (hB : B ≤ w.heap.size) (hv : HV w B A n c A' n' c' h) :
    Calls Tryz.prog 109 #[hkV h.pos A n c A' n' c'] w (TestEnd w (mayH h)) := by
  obtain ⟨l, l', k, k', m, m', r, r', p⟩ := hv
  have HL := Lib.hid l; have HL' := Lib.hid l'; clear l l'
  have HM : Hid (mayH h = (decide (0 ≤ h.pos) && decide (h.pos ≤ 1048576) && (allMay h.old && allMay h.new))) := Lib.hid rfl
  have HP := Lib.hid p; clear p
  generalize mayH h = mh at *
  generalize h.pos = q at *
  by_cases h0 : 0 ≤ q
  · by_cases h1 : q ≤ 1048576
    · have HM1 : Hid (mh = (allMay h.old && allMay h.new)) := Lib.hid (by rw [HM.out, decide_eq_true h0, decide_eq_true h1]; rfl)
      clear HM
      cases ho : allMay h.old with
      | true =>
        have HO := Lib.hid ho; clear ho
        go_enter Tryz.func109, Tryz.ntmps109
        go_wp2_with fail
        refine (All _ _ _ B h.old _ HL.out (rd_alloc r hB _)).mono ?_
        rw [HO.out]
        rintro e w' ⟨rfl, rfl⟩
        go_wp2_with fail
        refine (All _ _ _ B h.new _ HL'.out (rd_alloc r' hB _)).mono ?_
        rintro e w' ⟨rfl, rfl⟩
        go_wp2
        go_ret
        exact ⟨ret_bool (by rw [HM1.out, HO.out]; simp), (Below.refl _ _).alloc (Nat.le_refl _) _⟩
      | false =>
        have HO := Lib.hid ho; clear ho
        go_enter Tryz.func109, Tryz.ntmps109
        go_wp2_with fail
        refine (All _ _ _ B h.old _ HL.out (rd_alloc r hB _)).mono ?_
        rw [HO.out]
        rintro e w' ⟨rfl, rfl⟩
        go_wp2
        go_ret
        exact ⟨ret_bool (by rw [HM1.out, HO.out]; simp), (Below.refl _ _).alloc (Nat.le_refl _) _⟩
    · have HM1 : Hid (mh = false) := Lib.hid (by rw [HM.out, decide_eq_false h1]; simp)
      clear HM
      go_enter Tryz.func109, Tryz.ntmps109
      go_wp2
      go_ret
      exact ⟨ret_bool (by rw [HM1.out]), (Below.refl _ _).alloc (Nat.le_refl _) _⟩
  · have HM1 : Hid (mh = false) := Lib.hid (by rw [HM.out, decide_eq_false h0]; simp)
    clear HM
    go_enter Tryz.func109, Tryz.ntmps109
    go_wp2
    go_ret
    exact ⟨ret_bool (by rw [HM1.out]), (Below.refl _ _).alloc (Nat.le_refl _) _⟩

/-- Two boxes. -/
theorem below_two (w : World) (o o' : Obj) (d : Nat) : Below w.heap.size w (((w.alloc o).alloc o').drewN d) := below_drewN (((Below.refl _ _).alloc (Nat.le_refl _) o).alloc (by simp) o') d
theorem rd_two {w : World} {B : Nat} {A : Option Addr} {xs : List Value} (h : Rd w B A xs) (hB : B ≤ w.heap.size) (o o' : Obj) (d : Nat) : Rd (((w.alloc o).alloc o').drewN d) B A xs := h.below ((below_two w o o' d).mono hB)

set_option maxHeartbeats 1000000 in
theorem SameH (A : Option Addr) (n c : Nat) (A' : Option Addr) (n' c' : Nat) (D : Option Addr) (m k : Nat) (D' : Option Addr) (m' k' B : Nat) (h g : HU) (w : World) (hB : B ≤ w.heap.size) (hv : HV w B A n c A' n' c' h) (gv : HV w B D m k D' m' k' g) :
    Calls Tryz.prog 136 #[hkV h.pos A n c A' n' c', hkV g.pos D m k D' m' k'] w (TestEnd w (sameH h g)) := by
  have HL := Lib.hid hv.l; have HL' := Lib.hid hv.l'; have GL := Lib.hid gv.l; have GL' := Lib.hid gv.l'
  have hm := hv.m; have hm' := hv.m'
  have R := Lib.hid hv.r; have R' := Lib.hid hv.r'; have Q := Lib.hid gv.r; have Q' := Lib.hid gv.r'
  clear hv gv
  obtain ⟨b, hb⟩ : ∃ b, sameH h g = b := ⟨_, rfl⟩
  rw [hb]
  have HS : Hid (b = (decide (h.pos = g.pos) && (decide (h.old = g.old) && decide (h.new = g.new)))) := Lib.hid (by rw [← hb]; rfl)
  clear hb
  generalize h.pos = p at *
  generalize g.pos = q at *
  by_cases hp : p = q
  · subst hp
    have HS1 : Hid (b = (decide (h.old = g.old) && decide (h.new = g.new))) := Lib.hid (by rw [HS.out, decide_eq_true rfl]; rfl)
    clear HS
    go_enter Tryz.func136, Tryz.ntmps136
    go_wp2_with fail
    refine (Equal _ _ _ _ _ _ B h.old g.old _ HL.out GL.out hm (rd_two R.out hB _ _ 0) (rd_two Q.out hB _ _ 0)).mono ?_
    rintro e w' ⟨rfl, d, rfl⟩
    cases ho : decide (h.old = g.old) with
    | true =>
      have HO := Lib.hid ho; clear ho
      go_wp2_with fail
      refine (Equal _ _ _ _ _ _ B h.new g.new _ HL'.out GL'.out hm' (rd_two R'.out hB _ _ _) (rd_two Q'.out hB _ _ _)).mono ?_
      rintro e w' ⟨rfl, d', rfl⟩
      go_wp2
      go_ret
      exact ⟨ret_bool (by rw [HS1.out, HO.out]; simp), by simpa using below_two w _ _ _⟩
    | false =>
      have HO := Lib.hid ho; clear ho
      go_wp2
      go_ret
      exact ⟨ret_bool (by rw [HS1.out, HO.out]; simp), by simpa using below_two w _ _ _⟩
  · have HS1 : Hid (b = false) := Lib.hid (by rw [HS.out, decide_eq_false hp]; rfl)
    clear HS
    have hne : (p == q) = false := by rw [beq_eq_false_iff_ne]; exact hp
    clear hp
    go_enter Tryz.func136, Tryz.ntmps136
    go_wp2
    go_ret
    exact ⟨ret_bool (by rw [HS1.out]), ((Below.refl _ _).alloc (Nat.le_refl _) _).alloc (by simp) _⟩

end Hk
end Go.Proofs.YtfnhjflocfmcoaaGreat

namespace Go.Proofs.YtfnhjflocfmcoaaGreat
open Go.RowKit
set_option linter.unusedVariables false
namespace Hk
open Tx Df Sq

/-- The error that Apply answers, and the list. -/
def applyE (l : List (List UInt8)) (h : HU) : Int := if mayH h then (if has l h.pos h.old then 0 else 5) else 1
def applyL (l : List (List UInt8)) (h : HU) : List (List UInt8) := if mayH h && has l h.pos h.old then swp l h.pos.toNat h.old.length h.new else []
theorem applyL_len {l : List (List UInt8)} {h : HU} : (applyL l h).length ≤ l.length + h.new.length := by
  unfold applyL
  split
  · simp only [swp, List.length_append, List.length_take, List.length_drop]; omega
  · simp

def ApplyEnd (w : World) (l : List (List UInt8)) (h : HU) (e : Ending) (w' : World) : Prop :=
  ∃ A k c, e = .returned (.tuple #[.slice A k c, .int .i64 (applyE l h)]) ∧ k ≤ c ∧ (applyL l h).length = k ∧ RdS w' w'.heap.size A (applyL l h) ∧ Below w.heap.size w w'

theorem applyEnd_none {w w' : World} {l : List (List UInt8)} {h : HU} {r : Int} (he : applyE l h = r) (hl : applyL l h = []) (hb : Below w.heap.size w w') : ApplyEnd w l h (.returned (.tuple #[.slice none 0 0, .int .i64 r])) w' :=
  ⟨none, 0, 0, by rw [he], Nat.le_refl _, by rw [hl]; rfl, .inl (by rw [hl]; rfl), hb⟩

theorem mayH_new {h : HU} (hm : mayH h = true) : h.new.length ≤ 200 := by
  unfold mayH allMay at hm
  simp only [Bool.and_eq_true, decide_eq_true_eq] at hm
  omega
set_option maxHeartbeats 1000000 in
theorem ApplyW (A0 : Option Addr) (n0 c0 : Nat) (A : Option Addr) (n c : Nat) (A' : Option Addr) (n' c' B : Nat) (l : List (List UInt8)) (h : HU) (w : World) (hB : B ≤ w.heap.size) (hl : l.length = n0) (hc0 : n0 ≤ c0) (h0 : n0 ≤ 8796093021952)
    (hR : RdS w B A0 l) (hv : HV w B A n c A' n' c' h) :
    Calls Tryz.prog 106 #[.slice A0 n0 c0, hkV h.pos A n c A' n' c'] w (ApplyEnd w l h) := by
  have HV0 := Lib.hid hv
  have HL := Lib.hid hv.l; have HL' := Lib.hid hv.l'; have HL0 := Lib.hid hl
  have R := Lib.hid hv.r; have R' := Lib.hid hv.r'; have R0 := Lib.hid hR
  clear hv hl hR
  obtain ⟨p, hp⟩ : ∃ p, h.pos = p := ⟨_, rfl⟩
  have HM := Lib.hid (May A n c A' n' c' B h (w.alloc (.cells #[.int .i64 h.pos, .slice A n c, .slice A' n' c'] 53)) (Nat.le_trans hB (by simp)) (HV0.out.below ((Below.refl _ w).alloc hB _)))
  rw [hp] at HM ⊢
  have HP := Lib.hid hp; clear hp
  cases hm : mayH h with
  | false =>
    rw [hm] at HM
    have HE := Lib.hid (show applyE l h = 1 by unfold applyE; rw [hm]; rfl)
    have HA := Lib.hid (show applyL l h = [] by unfold applyL; rw [hm]; rfl)
    clear hm
    go_enter Tryz.func106, Tryz.ntmps106
    go_wp2_with fail
    refine HM.out.mono ?_
    rintro e w1 ⟨rfl, hb⟩
    go_wp2
    go_ret2
    exact applyEnd_none HE.out HA.out (below_box _ hb)
  | true =>
  rw [hm] at HM
  cases hh : has l h.pos h.old with
  | false =>
    have HE := Lib.hid (show applyE l h = 5 by unfold applyE; rw [hm, hh]; rfl)
    have HA := Lib.hid (show applyL l h = [] by unfold applyL; rw [hm, hh]; rfl)
    rw [HP.out] at hh
    have HH := Lib.hid hh; clear hm hh
    go_enter Tryz.func106, Tryz.ntmps106
    go_wp2_with fail
    refine HM.out.mono ?_
    rintro e w1 ⟨rfl, hb⟩
    have b1 := (Blk.new w 53 #[.int .i64 p, .slice A n c, .slice A' n' c']).below hb (by simp)
    have x0 : w1.cell? ⟨w.heap.size, 0, none⟩ = some (.int .i64 p) := b1.cell 0 rfl
    have x1 : w1.cell? ⟨w.heap.size, 1, none⟩ = some (.slice A n c) := b1.cell 1 rfl
    have x2 : w1.cell? ⟨w.heap.size, 2, none⟩ = some (.slice A' n' c') := b1.cell 2 rfl
    have HB1 := Lib.hid (below_box _ hb)
    clear b1 hb
    go_wp2_with fail
    refine (Swap_no A0 A A' c0 c c' n0 n n' B p l h.old w1 HL0.out HL.out hc0 (by unfold maxLen; omega) HV0.out.m (Rd.below R0.out (HB1.out.mono hB)) (Rd.below R.out (HB1.out.mono hB)) HH.out).mono ?_
    rintro e w2 ⟨rfl, d, rfl⟩
    go_wp2
    go_ret2
    exact applyEnd_none HE.out HA.out (below_drewN HB1.out d)
  | true =>
    have HE := Lib.hid (show applyE l h = 0 by unfold applyE; rw [hm, hh]; rfl)
    have HA := Lib.hid (show applyL l h = swp l h.pos.toNat n h.new by unfold applyL; rw [hm, hh, HL.out]; rfl)
    rw [HP.out] at hh
    obtain ⟨k, rfl⟩ : ∃ k : Nat, p = k := ⟨p.toNat, by have := (has_len hh).1; omega⟩
    rw [HP.out, Int.toNat_natCast] at HA
    have hn2 : n' ≤ 200 := by rw [← HL'.out]; exact mayH_new hm
    have HH := Lib.hid hh; clear hm hh
    go_enter Tryz.func106, Tryz.ntmps106
    go_wp2_with fail
    refine HM.out.mono ?_
    rintro e w1 ⟨rfl, hb⟩
    have b1 := (Blk.new w 53 #[.int .i64 (k : Int), .slice A n c, .slice A' n' c']).below hb (by simp)
    have x0 : w1.cell? ⟨w.heap.size, 0, none⟩ = some (.int .i64 (k : Int)) := b1.cell 0 rfl
    have x1 : w1.cell? ⟨w.heap.size, 1, none⟩ = some (.slice A n c) := b1.cell 1 rfl
    have x2 : w1.cell? ⟨w.heap.size, 2, none⟩ = some (.slice A' n' c') := b1.cell 2 rfl
    have HB1 := Lib.hid (below_box _ hb)
    clear b1 hb
    go_wp2_with fail
    refine (Swap_yesW A0 A A' c0 c c' n0 n n' B k l h.old h.new w1 HL0.out HL.out HL'.out hc0 (by omega) (Nat.le_trans hB HB1.out.size) (Rd.below R0.out (HB1.out.mono hB)) (Rd.below R.out (HB1.out.mono hB)) (Rd.below R'.out (HB1.out.mono hB)) HH.out).mono ?_
    rintro e w2 ⟨v, rfl, hA, hb2⟩
    obtain ⟨A3, c3, rfl, hc3, _, hr3, _⟩ := hA
    go_wp2
    go_ret2
    exact ⟨A3, (swp l k n h.new).length, c3, by rw [HE.out]; rfl, hc3, by rw [HA.out], by rw [HA.out]; exact hr3, HB1.out.trans (hb2.mono HB1.out.size)⟩

end Hk
end Go.Proofs.YtfnhjflocfmcoaaGreat

namespace Go.Proofs.YtfnhjflocfmcoaaGreat
open Go.RowKit
set_option linter.unusedVariables false
namespace Hk
open Tx Df Sq

theorem applyE_cases (l : List (List UInt8)) (h : HU) : (applyE l h = 1 ∧ applyL l h = [] ∧ mayH h = false) ∨ (applyE l h = 5 ∧ applyL l h = [] ∧ mayH h = true ∧ has l h.pos h.old = false) ∨ (applyE l h = 0 ∧ applyL l h = swp l h.pos.toNat h.old.length h.new ∧ mayH h = true ∧ has l h.pos h.old = true) := by
  unfold applyE applyL
  cases mayH h <;> cases has l h.pos h.old <;> simp
theorem apply_done {l : List (List UInt8)} {h : HU} (he : applyE l h = 0) : done l h = some (applyL l h) := by
  rcases applyE_cases l h with ⟨h1, _⟩ | ⟨h1, _⟩ | ⟨_, h2, _, h4⟩
  · omega
  · omega
  · rw [done_yes h4, h2]
end Hk
end Go.Proofs.YtfnhjflocfmcoaaGreat

namespace Go.Proofs.YtfnhjflocfmcoaaGreat
open Go.RowKit
set_option linter.unusedVariables false
namespace Hk
open Tx Df

end Hk
end Go.Proofs.YtfnhjflocfmcoaaGreat

namespace Go.Proofs.YtfnhjflocfmcoaaGreat
open Go.RowKit
set_option linter.unusedVariables false
namespace Hk
open Tx Df Sq

set_option maxHeartbeats 1000000 in
theorem refMay (A : Option Addr) (n c : Nat) (A' : Option Addr) (n' c' B : Nat) (h : HU) (w : World) (hB : B ≤ w.heap.size) (hv : HV w B A n c A' n' c' h) (hq : ∀ x ∈ h.old, x.length ≤ maxLen) (hq' : ∀ x ∈ h.new, x.length ≤ maxLen) :
    Calls Tryz.prog 94 #[hkV h.pos A n c A' n' c'] w (TestEnd w (mayH h)) := by
  obtain ⟨l, l', k, k', m, m', r, r', p⟩ := hv
  have HL := Lib.hid l; have HL' := Lib.hid l'; have HQ := Lib.hid hq; have HQ' := Lib.hid hq'; clear l l' hq hq'
  have HM : Hid (mayH h = (decide (0 ≤ h.pos) && decide (h.pos ≤ 1048576) && (allMay h.old && allMay h.new))) := Lib.hid rfl
  have HP := Lib.hid p; clear p
  generalize mayH h = mh at *
  generalize h.pos = q at *
  go_enter Tryz.func94, Tryz.ntmps94
  go_wp2_with fail
  refine (RefAll _ _ _ B h.old _ HL.out m (rd_alloc r hB _) HQ.out).mono ?_
  rintro e w' ⟨rfl, rfl⟩
  go_wp2_with fail
  refine (RefAll _ _ _ B h.new _ HL'.out m' (rd_alloc r' hB _) HQ'.out).mono ?_
  rintro e w' ⟨rfl, rfl⟩
  cases ho : allMay h.old with
  | false =>
    have HO : Hid (mh = false) := Lib.hid (by rw [HM.out, ho]; simp)
    clear ho HM
    go_wp2
    go_ret
    exact ⟨ret_bool (by rw [HO.out]), (Below.refl _ _).alloc (Nat.le_refl _) _⟩
  | true =>
  cases hn : allMay h.new with
  | false =>
    have HO : Hid (mh = false) := Lib.hid (by rw [HM.out, hn]; simp)
    clear ho hn HM
    go_wp2
    go_ret
    exact ⟨ret_bool (by rw [HO.out]), (Below.refl _ _).alloc (Nat.le_refl _) _⟩
  | true =>
  by_cases h0 : 0 ≤ q
  · by_cases h1 : q ≤ 1048576
    · have HO : Hid (mh = true) := Lib.hid (by rw [HM.out, ho, hn, decide_eq_true h0, decide_eq_true h1]; rfl)
      clear ho hn HM
      go_wp2
      go_ret
      exact ⟨ret_bool (by rw [HO.out]), (Below.refl _ _).alloc (Nat.le_refl _) _⟩
    · have HO : Hid (mh = false) := Lib.hid (by rw [HM.out, decide_eq_false h1]; simp)
      clear ho hn HM
      go_wp2
      go_ret
      exact ⟨ret_bool (by rw [HO.out]; exact decide_eq_false (by omega)), (Below.refl _ _).alloc (Nat.le_refl _) _⟩
  · have HO : Hid (mh = false) := Lib.hid (by rw [HM.out, decide_eq_false h0]; simp)
    clear ho hn HM
    go_wp2
    go_ret
    exact ⟨ret_bool (by rw [HO.out]), (Below.refl _ _).alloc (Nat.le_refl _) _⟩

set_option maxHeartbeats 1000000 in
theorem refApply (A0 : Option Addr) (n0 c0 : Nat) (A : Option Addr) (n c : Nat) (A' : Option Addr) (n' c' B : Nat) (l : List (List UInt8)) (h : HU) (w : World) (hB : B ≤ w.heap.size) (hl : l.length = n0) (hc0 : n0 ≤ c0) (h0 : n0 ≤ 100000) (hn : n ≤ 1000) (hn' : n' ≤ 1000)
    (hR : RdS w B A0 l) (hv : HV w B A n c A' n' c' h) (hq : ∀ x ∈ h.old, x.length ≤ maxLen) (hq' : ∀ x ∈ h.new, x.length ≤ maxLen) :
    Calls Tryz.prog 68 #[.slice A0 n0 c0, hkV h.pos A n c A' n' c'] w (ApplyEnd w l h) := by
  have HV0 := Lib.hid hv
  have HL := Lib.hid hv.l; have HL' := Lib.hid hv.l'; have HL0 := Lib.hid hl
  have R := Lib.hid hv.r; have R' := Lib.hid hv.r'; have R0 := Lib.hid hR
  clear hv hl hR
  obtain ⟨p, hp⟩ : ∃ p, h.pos = p := ⟨_, rfl⟩
  have HM := Lib.hid (refMay A n c A' n' c' B h (w.alloc (.cells #[.int .i64 h.pos, .slice A n c, .slice A' n' c'] 53)) (Nat.le_trans hB (by simp)) (HV0.out.below ((Below.refl _ w).alloc hB _)) hq hq')
  rw [hp] at HM ⊢
  have HP := Lib.hid hp; clear hp
  cases hm : mayH h with
  | false =>
    rw [hm] at HM
    have HE := Lib.hid (show applyE l h = 1 by unfold applyE; rw [hm]; rfl)
    have HA := Lib.hid (show applyL l h = [] by unfold applyL; rw [hm]; rfl)
    clear hm
    go_enter Tryz.func68, Tryz.ntmps68
    go_wp2_with fail
    refine HM.out.mono ?_
    rintro e w1 ⟨rfl, hb⟩
    go_wp2
    go_ret2
    exact applyEnd_none HE.out HA.out (below_box _ hb)
  | true =>
  rw [hm] at HM
  cases hh : has l h.pos h.old with
  | false =>
    have HE := Lib.hid (show applyE l h = 5 by unfold applyE; rw [hm, hh]; rfl)
    have HA := Lib.hid (show applyL l h = [] by unfold applyL; rw [hm, hh]; rfl)
    rw [HP.out] at hh
    have HH := Lib.hid hh; clear hm hh
    go_enter Tryz.func68, Tryz.ntmps68
    go_wp2_with fail
    refine HM.out.mono ?_
    rintro e w1 ⟨rfl, hb⟩
    have b1 := (Blk.new w 53 #[.int .i64 p, .slice A n c, .slice A' n' c']).below hb (by simp)
    have x0 : w1.cell? ⟨w.heap.size, 0, none⟩ = some (.int .i64 p) := b1.cell 0 rfl
    have x1 : w1.cell? ⟨w.heap.size, 1, none⟩ = some (.slice A n c) := b1.cell 1 rfl
    have x2 : w1.cell? ⟨w.heap.size, 2, none⟩ = some (.slice A' n' c') := b1.cell 2 rfl
    have HB1 := Lib.hid (below_box _ hb)
    clear b1 hb
    go_wp2_with fail
    refine (RefSwap_no A0 A A' c0 c c' n0 n n' B p l h.old w1 HL0.out HL.out (by unfold maxLen; omega) HV0.out.m (Rd.below R0.out (HB1.out.mono hB)) (Rd.below R.out (HB1.out.mono hB)) HH.out).mono ?_
    rintro e w2 ⟨rfl, d, rfl⟩
    go_wp2
    go_ret2
    exact applyEnd_none HE.out HA.out (below_drewN HB1.out d)
  | true =>
    have HE := Lib.hid (show applyE l h = 0 by unfold applyE; rw [hm, hh]; rfl)
    have HA := Lib.hid (show applyL l h = swp l h.pos.toNat n h.new by unfold applyL; rw [hm, hh, HL.out]; rfl)
    rw [HP.out] at hh
    obtain ⟨k, rfl⟩ : ∃ k : Nat, p = k := ⟨p.toNat, by have := (has_len hh).1; omega⟩
    rw [HP.out, Int.toNat_natCast] at HA
    have HH := Lib.hid hh; clear hm hh
    go_enter Tryz.func68, Tryz.ntmps68
    go_wp2_with fail
    refine HM.out.mono ?_
    rintro e w1 ⟨rfl, hb⟩
    have b1 := (Blk.new w 53 #[.int .i64 (k : Int), .slice A n c, .slice A' n' c']).below hb (by simp)
    have x0 : w1.cell? ⟨w.heap.size, 0, none⟩ = some (.int .i64 (k : Int)) := b1.cell 0 rfl
    have x1 : w1.cell? ⟨w.heap.size, 1, none⟩ = some (.slice A n c) := b1.cell 1 rfl
    have x2 : w1.cell? ⟨w.heap.size, 2, none⟩ = some (.slice A' n' c') := b1.cell 2 rfl
    have HB1 := Lib.hid (below_box _ hb)
    clear b1 hb
    go_wp2_with fail
    refine (RefSwap_yes A0 A A' c0 c c' n0 n n' B k l h.old h.new w1 HL0.out HL.out HL'.out hc0 h0 hn hn' (Nat.le_trans hB HB1.out.size) (Rd.below R0.out (HB1.out.mono hB)) (Rd.below R.out (HB1.out.mono hB)) (Rd.below R'.out (HB1.out.mono hB)) HH.out).mono ?_
    rintro e w2 ⟨v, rfl, hA, hb2⟩
    obtain ⟨A3, c3, rfl, hc3, _, hr3, _⟩ := hA
    go_wp2
    go_ret2
    exact ⟨A3, (swp l k n h.new).length, c3, by rw [HE.out]; rfl, hc3, by rw [HA.out], by rw [HA.out]; exact hr3, HB1.out.trans (hb2.mono HB1.out.size)⟩

end Hk
end Go.Proofs.YtfnhjflocfmcoaaGreat
