/-
  Words and contracts, joined: QMem QLight QSame QOpen QApp QBlk QCopy QRow QEq QLaw QIdx QHi.
-/
import Derived.Test.YtbiiabfhngdeiaaRows
import Derived.WalkKit
import Derived.WalkSpells
import Derived.WalkLawsBesides
import Derived.Lib.Hide
import Derived.Deep.Draws
import Derived.Laws.OwnMore
import Derived.ArgAppend
import Derived.Below
import Derived.Deep.QuietTactic
import Derived.BigQuiet
import Derived.ProofKit
import Derived.OpenShut
import Derived.ShutString
import Derived.ChangeOld
import Derived.RangeFuncBox
import Derived.Laws.CopyOwn
import Derived.Deep.RegionLaw
set_option maxRecDepth 100000
namespace Go.Proofs.Ytbiiabfhngdeiaa
open Go.RowKit
set_option linter.unusedVariables false
namespace Tx

/-- The value of a line. -/
abbrev strV (l : List UInt8) : Value := .string ⟨l.toArray⟩
theorem size_strV (l : List UInt8) : (ByteArray.mk l.toArray).size = l.length := by simp [ByteArray.size]
theorem ret_bool {a b : Bool} (h : a = b) : Ending.returned (.bool a) = .returned (.bool b) := by rw [h]
theorem ret_int {k : IntKind} {a b : Int} (h : a = b) : Ending.returned (.int k a) = .returned (.int k b) := by rw [h]
theorem take_snoc' {α : Type} {ls : List α} {k : Nat} (h : k < ls.length) : ls.take (k + 1) = ls.take k ++ [ls[k]] := List.take_succ_eq_append_getElem h

theorem add_block (a : Addr) (n : Nat) : (a.add n).block = a.block := by unfold Addr.add; split <;> rfl
theorem add_add (a : Addr) (i j : Nat) : (a.add i).add j = a.add (i + j) := by
  unfold Addr.add
  by_cases hi : i = 0 <;> by_cases hj : j = 0 <;> simp [hi, hj, Nat.add_assoc]
theorem add_zero' (a : Addr) : a.add 0 = a := by simp [Addr.add]

/-- The address A leads, below block B, to the cells xs; or there are none. -/
def Rd (w : World) (B : Nat) (A : Option Addr) (xs : List Value) : Prop :=
  xs = [] ∨ ∃ a, A = some a ∧ a.block < B ∧ ∀ j u, xs[j]? = some u → w.cell? (a.add j) = some u
def RdS (w : World) (B : Nat) (A : Option Addr) (ls : List (List UInt8)) : Prop := Rd w B A (ls.map strV)

section
variable {w w' : World} {B B' : Nat} {A : Option Addr} {xs : List Value}
theorem Rd.below (h : Rd w B A xs) (hb : Below B w w') : Rd w' B A xs := by
  rcases h with h | ⟨a, e, hlt, hc⟩
  · exact .inl h
  · exact .inr ⟨a, e, hlt, fun j u hu => (hb.cell (p := a.add j) (by rw [add_block]; exact hlt)).trans (hc j u hu)⟩
theorem Rd.up (h : Rd w B A xs) (hB : B ≤ B') : Rd w B' A xs := by
  rcases h with h | ⟨a, e, hlt, hc⟩
  · exact .inl h
  · exact .inr ⟨a, e, by omega, hc⟩
theorem Rd.take (h : Rd w B A xs) (k : Nat) : Rd w B A (xs.take k) := by
  rcases h with rfl | ⟨a, e, hlt, hc⟩
  · exact .inl (by simp)
  · refine .inr ⟨a, e, hlt, fun j u hu => hc j u ?_⟩
    rw [List.getElem?_take] at hu
    split at hu
    · exact hu
    · cases hu
theorem Rd.drop (h : Rd w B A xs) {k cap : Nat} (hc : xs.length ≤ cap) : Rd w B (if cap = k then A else A.map (·.add k)) (xs.drop k) := by
  by_cases e : cap = k
  · subst e; exact .inl (List.drop_of_length_le hc)
  · rw [if_neg e]
    rcases h with rfl | ⟨a, rfl, hlt, hcell⟩
    · exact .inl (by simp)
    · refine .inr ⟨a.add k, rfl, by rw [add_block]; exact hlt, fun j u hu => ?_⟩
      rw [add_add]
      exact hcell _ u (by rw [← hu, List.getElem?_drop])
theorem Rd.at_ (h : Rd w B A xs) {k : Nat} (hk : k < xs.length) : ∃ a, A = some a ∧ a.block < B ∧ w.cell? (a.add k) = some xs[k] := by
  rcases h with rfl | ⟨a, e, hlt, hc⟩
  · exact absurd hk (by simp)
  · exact ⟨a, e, hlt, hc k _ (List.getElem?_eq_getElem hk)⟩
theorem Rd.none_nil (h : Rd w B none xs) : xs = [] := by
  rcases h with h | ⟨a, h, _⟩
  · exact h
  · cases h
theorem Rd.drewN (h : Rd w B A xs) (d : Nat) : Rd (w.drewN d) B A xs := by
  rcases h with h | ⟨a, e, hlt, hc⟩
  · exact .inl h
  · exact .inr ⟨a, e, hlt, fun j u hu => by simpa using hc j u hu⟩
end

theorem RdS.at' {w : World} {B : Nat} {A : Option Addr} {ls : List (List UInt8)} (h : RdS w B A ls) {k : Nat} (hk : k < ls.length) : ∃ a, A = some a ∧ w.cell? (a.add k) = some (strV ls[k]) := by
  obtain ⟨a, e, _, hc⟩ := h.at_ (k := k) (by simpa using hk)
  exact ⟨a, e, by rw [hc]; simp⟩

theorem strs_one (ls : List (List UInt8)) : ∀ u ∈ ls.map strV, u.oneCell' = true := by
  intro u hu
  obtain ⟨c, _, rfl⟩ := List.mem_map.1 hu
  simp [Value.oneCell']

theorem rd_of_own {w : World} {base : Nat} {e : TypeId} {v : Value} {n : Nat} {xs : List Value} (h : w.ownsRow base e 1 v n xs) : ∃ A cap, v = .slice A n cap ∧ n ≤ cap ∧ Rd w w.heap.size A xs := by
  rcases h.2 with ⟨rfl, rfl⟩ | ⟨g, cap, cur, rfl, hb, hg, hc, _, hcs, ht⟩
  · exact ⟨none, 0, rfl, Nat.le_refl _, .inl (List.eq_nil_of_length_eq_zero (by simpa using h.1))⟩
  · refine ⟨_, cap, rfl, hc, .inr ⟨_, rfl, (Array.getElem?_eq_some_iff.1 hg).1, fun j u hu => ?_⟩⟩
    have e1 : (⟨g, 0, none⟩ : Addr).add j = ⟨g, j, none⟩ := by unfold Addr.add; split <;> simp_all
    rw [e1, cell_of_row w g j cur e (0, 0) hg]
    rw [← ht, List.getElem?_take] at hu
    split at hu
    · simpa using hu
    · cases hu

theorem own_ge {w : World} {base e size n : Nat} {v : Value} {xs : List Value} (h : w.ownsRow base e size v n xs) : ∀ k, v.ownBlock = some k → base ≤ k := by
  intro k hk
  exact (h.lt k hk).1

theorem own_mono {w : World} {base base' e size n : Nat} {v : Value} {xs : List Value} (h : w.ownsRow base e size v n xs) (hb : base' ≤ base) : w.ownsRow base' e size v n xs := by
  refine ⟨h.1, ?_⟩
  rcases h.2 with h | ⟨g, cap, cur, h1, h2, h3⟩
  · exact .inl h
  · exact .inr ⟨g, cap, cur, h1, Nat.le_trans hb h2, h3⟩

theorem below_drewN {B : Nat} {w w' : World} (h : Below B w w') (d : Nat) : Below B w (w'.drewN d) := ⟨h.os, h.tape, h.output, h.size, h.block⟩

/-- A value that reads as xs and may be appended to without a write below 'base': it is full, or its row is one's own. -/
def App (w : World) (base : Nat) (e : TypeId) (v : Value) (n : Nat) (xs : List Value) : Prop :=
  ∃ A c, v = .slice A n c ∧ n ≤ c ∧ xs.length = n ∧ Rd w w.heap.size A xs ∧ (c = n ∨ w.ownsRow base e 1 v n xs)

theorem app_nil (w : World) (base : Nat) (e : TypeId) : App w base e (.slice none 0 0) 0 [] := ⟨none, 0, rfl, Nat.le_refl _, rfl, .inl rfl, .inl rfl⟩
theorem app_own {w : World} {base : Nat} {e : TypeId} {v : Value} {n : Nat} {xs : List Value} (h : w.ownsRow base e 1 v n xs) : App w base e v n xs := by
  obtain ⟨A, c, rfl, hc, hr⟩ := rd_of_own h
  exact ⟨A, c, rfl, hc, by simpa using h.1, hr, .inr h⟩

theorem app_mono {w : World} {base base' : Nat} {e : TypeId} {v : Value} {n : Nat} {xs : List Value} (h : App w base e v n xs) (hb : base' ≤ base) : App w base' e v n xs := by
  obtain ⟨A, c, h1, h2, h3, h4, h5⟩ := h
  exact ⟨A, c, h1, h2, h3, h4, h5.imp id fun h => own_mono h hb⟩

section
variable {P : Program} {w : World}

theorem run_app_empty {n c m c' : Nat} {t ty e : TypeId} {i : TypeInfo} {A A' : Option Addr} (ht : P.underlying t = some (.slice e)) (hi : P.info? e = some i) (hsize : i.size = 1) (hnc : n ≤ c) (hm : m = 0) :
    (Builtin.append_ #[t, t] ty #[.slice A n c, .slice A' m c']).run P w = .ok (.slice A n c) w := by
  subst hm
  cases A <;> cases A' <;> simp [Builtin.append_, run_underlying ht, sizeOf, typeInfo, hi, Builtin.lenOf, Builtin.firstCells, hnc, storeCells, loadCells, loadCellsFrom]

/-- An append of cells that are read, nil let in, onto a value that may be appended to. -/
theorem run_app {base B n m c bytes : Nat} {t ty e : TypeId} {i : TypeInfo} {z v : Value} {xs news : List Value} {A : Option Addr} (ht : P.underlying t = some (.slice e)) (hi : P.info? e = some i) (hz : i.zero = some z)
    (hsize : i.size = 1) (hby : i.bytes = bytes) (hzs : z.cells.size = 1) (hown : App w base e v n xs) (hl : news.length = m) (hr : Rd w B A news) (h1 : ∀ u ∈ news, u.oneCell' = true)
    (h63 : n + m ≤ maxLen) (hbytes : (n + m) * bytes ≤ 140737488355328) (hbase : base ≤ w.heap.size) :
    ∃ v' w', (Builtin.append_ #[t, t] ty #[v, .slice A m c]).run P w = .ok v' w' ∧ App w' base e v' (n + m) (xs ++ news) ∧ Below base w w' := by
  by_cases hm : m = 0
  · obtain ⟨A0, c0, rfl, hc0, hx0, hr0, hor⟩ := hown
    have hnil : news = [] := List.eq_nil_of_length_eq_zero (by omega)
    subst hnil
    refine ⟨_, w, run_app_empty ht hi hsize hc0 hm, ?_, Below.refl _ _⟩
    subst hm
    rw [List.append_nil, Nat.add_zero]
    exact ⟨A0, c0, rfl, hc0, hx0, hr0, hor⟩
  · obtain ⟨a, rfl, hcells⟩ : ∃ a, A = some a ∧ ∀ j u, news[j]? = some u → w.cell? (a.add j) = some u := by
      rcases hr with h | ⟨a, h, _, hc⟩
      · subst h; simp at hl; omega
      · exact ⟨a, h, hc⟩
    obtain ⟨A0, c0, rfl, hc0, hx0, hr0, hor⟩ := hown
    rcases hor with hcn | hown
    · cases A0 with
      | none =>
        have hx : xs = [] := hr0.none_nil
        subst hx
        simp at hx0
        subst hx0
        subst hcn
        obtain ⟨v', w', h2, h3, h4, _⟩ := run_append_own (P := P) w w.heap.size t ty e i z 1 bytes ht hi hz hsize hby hzs (by decide) (.slice none 0 0) 0 [] (World.ownsRow_nil w _ e 1) a m c news (by omega) hcells h1 h63 hbytes (Nat.le_refl _)
        exact ⟨v', w', h2, app_own (own_mono h3 hbase), (Below.refl base w).grown h4 hbase (fun k hk => by cases hk)⟩
      | some b =>
        have hold : ∀ j u, xs[j]? = some u → w.cell? (b.add j) = some u := by
          rcases hr0 with h | ⟨a', h, _, hc⟩
          · subst h; intro j u hu; simp at hu
          · injection h with h; subst h; exact hc
        obtain ⟨v', w', h2, h3, h4⟩ := run_append_arg_grows (P := P) w t ty e i z 1 bytes ht hi hz hsize hby hzs (by decide) b n c0 xs (by omega) hold a m c news (by omega) hcells (by omega) h63 hbytes
        exact ⟨v', w', h2, app_own (own_mono h3 hbase), (Below.refl base w).grown h4 hbase (fun k hk => by cases hk)⟩
    · obtain ⟨v', w', h2, h3, h4, _⟩ := run_append_own (P := P) w base t ty e i z 1 bytes ht hi hz hsize hby hzs (by decide) _ n xs hown a m c news (by omega) hcells h1 h63 hbytes hbase
      exact ⟨v', w', h2, app_own h3, (Below.refl base w).grown h4 hbase (own_ge hown)⟩

theorem wpList_app {ops : Array Oper} {rest : List Oper} {o : Oper} {a : Act} {Q : Exit → Act → World → Prop} (hgd : o.guard = none) (s x : Operand) (t : TypeId)
    (ho : o.op = .call { callee := .builtin .append, args := #[s, x], argTypes := #[t, t] })
    (base : Nat) (e : TypeId) (i : TypeInfo) (z : Value) (bytes : Nat) (ht : P.underlying t = some (.slice e)) (hi : P.info? e = some i) (hz : i.zero = some z)
    (hsize : i.size = 1) (hby : i.bytes = bytes) (hzs : z.cells.size = 1)
    (v : Value) (n : Nat) (xs : List Value) (hs : a.eval s = v) (hown : App w base e v n xs)
    (B : Nat) (A : Option Addr) (m c : Nat) (news : List Value) (hx : a.eval x = .slice A m c) (hl : news.length = m) (hr : Rd w B A news) (h1 : ∀ u ∈ news, u.oneCell' = true)
    (h63 : n + m ≤ maxLen) (hbytes : (n + m) * bytes ≤ 140737488355328) (hbase : base ≤ w.heap.size)
    (h : ∀ v' w', App w' base e v' (n + m) (xs ++ news) → Below base w w' → wpList P ops Q rest (a.put o.dst v') w') : wpList P ops Q (o :: rest) a w := by
  refine wpList_plain hgd fun K hK => ?_
  obtain ⟨v', w', hr, h2, h3⟩ := run_app (P := P) (c := c) (ty := o.type) ht hi hz hsize hby hzs hown hl hr h1 h63 hbytes hbase
  unfold Oper.wp execOp
  simp only [ho, resolve, invoke, builtin, Sem.run_bind, Sem.run_pure, Result.andThen_ok, List.map_toArray, List.map_cons, List.map_nil, hs, hx, hr]
  exact hK _ _ (h v' w' h2 h3)
end

theorem info_str : (Try.prog.info? 9).map (fun i => (i.zero, i.size, i.bytes)) = some (some (.string ⟨#[]⟩), 1, 16) := by kernel_rfl
theorem info_parts' {o : Option TypeInfo} {z : Option Value} {s b : Nat} (h : o.map (fun i => (i.zero, i.size, i.bytes)) = some (z, s, b)) : ∃ i, o = some i ∧ i.zero = z ∧ i.size = s ∧ i.bytes = b := by
  cases o with
  | none => cases h
  | some i => simp at h; exact ⟨i, rfl, h.1, h.2.1, h.2.2⟩

/-- What an int holds. -/
def I64 (n : Int) : Prop := -9223372036854775808 ≤ n ∧ n ≤ 9223372036854775807

end Tx
end Go.Proofs.Ytbiiabfhngdeiaa

namespace Go.Proofs.Ytbiiabfhngdeiaa
open Go.RowKit
set_option linter.unusedVariables false
namespace Tx

def light (ls : List (List UInt8)) (most : Nat) : Bool := decide (ls.length ≤ most) && ls.all fun l => decide (l.length ≤ 200)

theorem light_false {ls : List (List UInt8)} {most : Nat} {x : List UInt8} (hm : x ∈ ls) (h : 200 < x.length) : light ls most = false := by
  have : (ls.all fun l => decide (l.length ≤ 200)) = false := by rw [List.all_eq_false]; exact ⟨x, hm, by simp; omega⟩
  simp [light, this]
theorem light_true {ls : List (List UInt8)} {most : Nat} (hl : ls.length ≤ most) (h : ∀ x ∈ ls, x.length ≤ 200) : light ls most = true := by
  have : (ls.all fun l => decide (l.length ≤ 200)) = true := by rw [List.all_eq_true]; intro x hx; simpa using h x hx
  simp [light, this, hl]

set_option maxHeartbeats 400000 in
theorem Light (A : Option Addr) (cap n B most : Nat) (ls : List (List UInt8)) (w : World) (hn : ls.length = n) (hnm : n ≤ maxLen) (hR : RdS w B A ls) (hm : most ≤ 1000) :
    Calls Try.prog 29 #[.slice A n cap, .int .i64 most] w fun e w' => e = .returned (.bool (light ls most)) ∧ w = w' := by
  unfold maxLen at hnm
  have HN := Lib.hid hn; clear hn
  by_cases h1 : most < n
  · have HF : Hid (light ls most = false) := Lib.hid (by unfold light; rw [HN.out]; simp; omega)
    go_enter Try.func29, Try.ntmps29
    go_wp2
    go_ret
    exact ⟨ret_bool HF.out.symm, rfl⟩
  · go_enter Try.func29, Try.ntmps29
    go_wp2
    go_loop [5] (fun i => ∃ k : Nat, k ≤ n ∧ i = .int .i64 k ∧ ∀ x ∈ ls.take k, x.length ≤ 200) (fun i => n - (intOf i).toNat)
    case atStart => exact ⟨0, Nat.zero_le _, rfl, by simp⟩
    case round =>
      obtain ⟨k, hk, rfl, hall⟩ := hrel
      have HA := Lib.hid hall; clear hall
      by_cases hlt : k < n
      · have hkl : k < ls.length := by rw [HN.out]; exact hlt
        obtain ⟨a, rfl, hcell⟩ := hR.at' hkl
        have hmem := List.getElem_mem hkl
        have HT := Lib.hid (take_snoc' hkl)
        generalize hx : ls[k] = x at *
        have HX := Lib.hid hx; clear hx
        obtain ⟨s, hs, hsl⟩ : ∃ s : ByteArray, strV x = .string s ∧ s.size = x.length := ⟨_, rfl, size_strV x⟩
        rw [hs] at hcell
        have HS := Lib.hid hsl; clear hsl hs
        by_cases hb : 200 < s.size
        · have HF := Lib.hid (light_false (most := most) hmem (by rw [← HS.out]; exact hb))
          go_wp2
          go_ret
          exact ⟨ret_bool HF.out.symm, rfl⟩
        · go_wp2
          go_round
          case rel => exact ⟨k + 1, by omega, by go_num, by rw [HT.out]; intro c hc; rcases List.mem_append.1 hc with h | h; exact HA.out c h; simp at h; rw [h]; have := HS.out; omega⟩
          case measure => simp [intOf]; omega
      · have HF : Hid (light ls most = true) := Lib.hid (light_true (by rw [HN.out]; omega) (by have := HA.out; rw [List.take_of_length_le (by rw [HN.out]; omega)] at this; exact this))
        go_wp2
        go_ret
        exact ⟨ret_bool HF.out.symm, rfl⟩

theorem take_eq_succ {α : Type} {xs ys : List α} {k : Nat} (hx : k < xs.length) (hy : k < ys.length) (h : xs.take k = ys.take k) (e : xs[k] = ys[k]) : xs.take (k + 1) = ys.take (k + 1) := by
  rw [take_snoc' hx, take_snoc' hy, h, e]

end Tx
end Go.Proofs.Ytbiiabfhngdeiaa

namespace Go.Proofs.Ytbiiabfhngdeiaa
open Go.RowKit
set_option linter.unusedVariables false
namespace Tx

/-- How Same ends: some draws, and whether the lists are one. -/
def SameEnd (w : World) (b : Bool) (e : Ending) (w' : World) : Prop := e = .returned (.bool b) ∧ ∃ k, w' = w.drewN k

theorem same_step {xs ys : List (List UInt8)} {k : Nat} (hx : k < xs.length) (hy : k < ys.length) (h : xs.take k = ys.take k) :
    (¬ xs[k] = ys[k] → decide (xs = ys) = false) ∧ (xs[k] = ys[k] → xs.take (k + 1) = ys.take (k + 1)) :=
  ⟨fun hne => decide_eq_false (fun e => hne (by subst e; rfl)), fun e => take_eq_succ hx hy h e⟩

set_option maxHeartbeats 400000 in
theorem Same (A A' : Option Addr) (cap cap' n n' B : Nat) (ls ms : List (List UInt8)) (w : World) (hn : ls.length = n) (hn' : ms.length = n') (hnm : n ≤ maxLen) (hR : RdS w B A ls) (hR' : RdS w B A' ms) :
    Calls Try.prog 71 #[.slice A n cap, .slice A' n' cap'] w (SameEnd w (decide (ls = ms))) := by
  unfold maxLen at hnm
  have HN := Lib.hid hn; clear hn
  have HN' := Lib.hid hn'; clear hn'
  by_cases h1 : n = n'
  · subst h1
    go_enter Try.func71, Try.ntmps71
    go_wp2
    go_loopw [5] (fun i wr => ∃ k : Nat, k ≤ n ∧ i = .int .i64 k ∧ ls.take k = ms.take k ∧ ∃ d, wr = w.drewN d) (fun i _ => n - (intOf i).toNat)
    case atStart => exact ⟨0, Nat.zero_le _, rfl, by simp, 0, rfl⟩
    case round =>
      obtain ⟨k, hk, rfl, hall, d, rfl⟩ := hrel
      have HA := Lib.hid hall; clear hall
      by_cases hlt : k < n
      · have hkl : k < ls.length := by rw [HN.out]; exact hlt
        have hkm : k < ms.length := by rw [HN'.out]; exact hlt
        obtain ⟨a, rfl, hcell⟩ := hR.at' hkl
        obtain ⟨a', rfl, hcell'⟩ := hR'.at' hkm
        have HD := Lib.hid (same_step hkl hkm HA.out)
        have hki : (k : Int) < (n : Int) := by omega
        go_wp2
        go_quiet (fail)
        go_wp2
        · have hb : (!ls[k] == ms[k]) = true := by assumption
          go_ret
          exact ⟨ret_bool (HD.out.1 (by simpa using hb)).symm, d + nq, by simp⟩
        · have hb : (!ls[k] == ms[k]) = false := by assumption
          refine ⟨⟨k + 1, by omega, by go_num, HD.out.2 (by simpa using hb), _, rfl⟩, by simp [intOf]; omega⟩
      · have HD : Hid (decide (ls = ms) = true) := Lib.hid (by
          have := HA.out
          rw [List.take_of_length_le (by rw [HN.out]; omega), List.take_of_length_le (by rw [HN'.out]; omega)] at this
          exact decide_eq_true this)
        go_wp2
        go_ret
        exact ⟨ret_bool HD.out.symm, _, rfl⟩
  · have HD : Hid (decide (ls = ms) = false) := Lib.hid (decide_eq_false (fun e => h1 (by rw [← HN.out, ← HN'.out, e])))
    have hne : ((n : Int) != (n' : Int)) = true := by rw [bne_iff_ne]; omega
    go_enter Try.func71, Try.ntmps71
    go_wp2
    go_ret
    exact ⟨ret_bool HD.out.symm, 0, rfl⟩

end Tx
end Go.Proofs.Ytbiiabfhngdeiaa

namespace Go.Proofs.Ytbiiabfhngdeiaa
open Go.ChangeShapes Go.WideShapes Go.ChangeAt Go.RowKit
namespace Tx

theorem lt_of_cell {w : World} {a : Addr} {v : Value} (h : w.cell? a = some v) : a.block < w.heap.size := by
  rcases Nat.lt_or_ge a.block w.heap.size with h' | h'
  · exact h'
  · simp [World.cell?, Array.getElem?_eq_none h'] at h

theorem rd_in {w : World} {a : Addr} {xs : List Value} (h : ∀ j u, xs[j]? = some u → w.cell? (a.add j) = some u) : Rd w w.heap.size (some a) xs := by
  cases xs with
  | nil => exact .inl rfl
  | cons x xs =>
    have h0 := lt_of_cell (h 0 x rfl)
    rw [add_block] at h0
    exact .inr ⟨a, rfl, h0, h⟩

theorem list_of {α : Type} {P : Nat → α → Prop} : ∀ (n : Nat), (∀ i, i < n → ∃ x, P i x) → ∃ l : List α, l.length = n ∧ ∀ i x, l[i]? = some x → P i x
  | 0, _ => ⟨[], rfl, fun i x h => by simp at h⟩
  | n + 1, h => by
    obtain ⟨l, h1, h2⟩ := list_of n fun i hi => h i (by omega)
    obtain ⟨y, hy⟩ := h n (by omega)
    refine ⟨l ++ [y], by simp [h1], fun i x hx => ?_⟩
    rcases Nat.lt_trichotomy i l.length with hi | hi | hi
    · rw [List.getElem?_append_left hi] at hx; exact h2 i x hx
    · subst hi; rw [List.getElem?_append_right (Nat.le_refl _), Nat.sub_self] at hx; cases hx; rw [h1]; exact hy
    · rw [List.getElem?_eq_none (by simp; omega)] at hx; cases hx

theorem i64_wf {n : Int} (h : (Lit.int .i64 n).wf = true) : I64 n := by
  simp only [Lit.wf, Bool.and_eq_true, decide_eq_true_eq] at h
  have h1 : IntKind.i64.min = -9223372036854775808 := by decide
  have h2 : IntKind.i64.max = 9223372036854775807 := by decide
  rw [h1, h2] at h
  exact h

/-- A slice of strings that is handed in: it reads as l. -/
structure StrArg (w : World) (A : Option Addr) (n c : Nat) (l : List (List UInt8)) : Prop where
  len : l.length = n
  cap : n ≤ c
  le : n ≤ maxLen
  rd : RdS w w.heap.size A l
  short : ∀ x ∈ l, x.length ≤ maxLen

section
variable {H : Type} {enc : TypeId × Value → H} {W : World} {base : Nat} {spare : Nat → Bool} {held : Bool}

theorem strs_in {fuel : Nat} {cs : List Value} {x : DataW H × List MemPlace} {A : Option Addr} {l c : Nat} (h : DataW.trod enc Try.prog W base spare held fuel 47 cs = some x) (hcs : cs = [.slice A l c]) :
    ∃ ls : List (List UInt8), StrArg W A l c ls := by
  rcases open_strings Try.underlying47 Try.underlying9 (by kernel_rfl) h with ⟨hcs', _⟩ | ⟨a, l', c', ss, hcs', _, hl, hm, hz, _, hcell, hws⟩
  · rw [hcs] at hcs'
    simp at hcs'
    obtain ⟨rfl, rfl, rfl⟩ := hcs'
    exact ⟨[], rfl, Nat.le_refl _, Nat.zero_le _, .inl rfl, fun x hx => by cases hx⟩
  · rw [hcs] at hcs'
    simp at hcs'
    obtain ⟨rfl, rfl, rfl⟩ := hcs'
    have hzl : l ≤ ss.length := by rw [hz]; split <;> omega
    refine ⟨(ss.take l).map fun s => s.data.toList, by simp; omega, hl, by omega, rd_in fun j u hu => ?_, fun x hx => ?_⟩
    · simp only [List.getElem?_map, Option.map_map] at hu
      rw [List.getElem?_take] at hu
      split at hu
      · have hj : j < ss.length := by omega
        rw [List.getElem?_eq_getElem hj] at hu
        simp at hu
        rw [hcell j hj, ← hu]
        simp [hj]
      · cases hu
    · obtain ⟨s, hs, rfl⟩ := List.mem_map.1 hx
      show s.data.toList.length ≤ maxLen
      rw [Array.length_toList]
      exact hws s (List.mem_of_mem_take hs)
theorem strs_any {fuel : Nat} {v : Value} {x : DataW H × List MemPlace} (h : DataW.trod enc Try.prog W base spare held fuel 47 [v] = some x) : ∃ A n c ls, v = .slice A n c ∧ StrArg W A n c ls := by
  obtain ⟨A, n, c, rfl⟩ : ∃ A n c, v = .slice A n c := by
    rcases open_strings Try.underlying47 Try.underlying9 (by kernel_rfl) h with ⟨h', _⟩ | ⟨a, l', c', ss, h', _⟩
    · injection h' with h'; exact ⟨_, _, _, h'⟩
    · injection h' with h'; exact ⟨_, _, _, h'⟩
  obtain ⟨ls, hs⟩ := strs_in h rfl
  exact ⟨A, n, c, ls, rfl, hs⟩
end

end Tx
end Go.Proofs.Ytbiiabfhngdeiaa

namespace Go.Proofs.Ytbiiabfhngdeiaa
open Go.RowKit
set_option linter.unusedVariables false
namespace Tx

/-- All blocks of another type than e are as they were. -/
def Typ (e : TypeId) (w w' : World) : Prop := ∀ (k : Nat) c t f, w.heap[k]? = some (.cells c t f) → t ≠ e → w'.heap[k]? = some (.cells c t f)
theorem Typ.refl (e : TypeId) (w : World) : Typ e w w := fun _ _ _ _ h _ => h
theorem Typ.trans {e : TypeId} {w w1 w2 : World} (h : Typ e w w1) (h' : Typ e w1 w2) : Typ e w w2 := fun k c t f hk ht => h' k c t f (h k c t f hk ht) ht
theorem typ_grown {e : TypeId} {base size n : Nat} {v : Value} {xs : List Value} {w w' : World} (h : w.ownsRow base e size v n xs) (hg : w.grownBy w' v.ownBlock) : Typ e w w' := by
  intro k c t f hk ht
  refine (hg.block k (Array.getElem?_eq_some_iff.1 hk).1 (fun eq => ?_)).trans hk
  rcases h.2 with ⟨rfl, _⟩ | ⟨g, cap, cur, rfl, _, hg', _⟩
  · simp [Value.ownBlock] at eq
  · obtain rfl : k = g := by simpa [Value.ownBlock] using eq
    rw [hk] at hg'; cases hg'; exact ht rfl
theorem typ_none {e : TypeId} {w w' : World} (hg : w.grownBy w' none) : Typ e w w' := fun k c t f hk ht => (hg.block k (Array.getElem?_eq_some_iff.1 hk).1 (fun eq => by cases eq)).trans hk
theorem typ_alloc (e : TypeId) (w : World) (o : Obj) : Typ e w (w.alloc o) := fun k c t f hk ht => (Below.heap_alloc w o k (Array.getElem?_eq_some_iff.1 hk).1).trans hk

section
variable {P : Program} {w : World}

theorem run_appT {base B n m c bytes : Nat} {t ty e : TypeId} {i : TypeInfo} {z v : Value} {xs news : List Value} {A : Option Addr} (ht : P.underlying t = some (.slice e)) (hi : P.info? e = some i) (hz : i.zero = some z)
    (hsize : i.size = 1) (hby : i.bytes = bytes) (hzs : z.cells.size = 1) (hown : App w base e v n xs) (hl : news.length = m) (hr : Rd w B A news) (h1 : ∀ u ∈ news, u.oneCell' = true)
    (h63 : n + m ≤ maxLen) (hbytes : (n + m) * bytes ≤ 140737488355328) (hbase : base ≤ w.heap.size) :
    ∃ v' w', (Builtin.append_ #[t, t] ty #[v, .slice A m c]).run P w = .ok v' w' ∧ App w' base e v' (n + m) (xs ++ news) ∧ Below base w w' ∧ Typ e w w' := by
  by_cases hm : m = 0
  · obtain ⟨A0, c0, rfl, hc0, hx0, hr0, hor⟩ := hown
    have hnil : news = [] := List.eq_nil_of_length_eq_zero (by omega)
    subst hnil
    refine ⟨_, w, run_app_empty ht hi hsize hc0 hm, ?_, Below.refl _ _, Typ.refl _ _⟩
    subst hm
    rw [List.append_nil, Nat.add_zero]
    exact ⟨A0, c0, rfl, hc0, hx0, hr0, hor⟩
  · obtain ⟨a, rfl, hcells⟩ : ∃ a, A = some a ∧ ∀ j u, news[j]? = some u → w.cell? (a.add j) = some u := by
      rcases hr with h | ⟨a, h, _, hc⟩
      · subst h; simp at hl; omega
      · exact ⟨a, h, hc⟩
    obtain ⟨A0, c0, rfl, hc0, hx0, hr0, hor⟩ := hown
    rcases hor with hcn | hown
    · cases A0 with
      | none =>
        have hx : xs = [] := hr0.none_nil
        subst hx
        simp at hx0
        subst hx0
        subst hcn
        obtain ⟨v', w', h2, h3, h4, _⟩ := run_append_own (P := P) w w.heap.size t ty e i z 1 bytes ht hi hz hsize hby hzs (by decide) (.slice none 0 0) 0 [] (World.ownsRow_nil w _ e 1) a m c news (by omega) hcells h1 h63 hbytes (Nat.le_refl _)
        exact ⟨v', w', h2, app_own (own_mono h3 hbase), (Below.refl base w).grown h4 hbase (fun k hk => by cases hk), typ_grown (World.ownsRow_nil w 0 e 1) h4⟩
      | some b =>
        have hold : ∀ j u, xs[j]? = some u → w.cell? (b.add j) = some u := by
          rcases hr0 with h | ⟨a', h, _, hc⟩
          · subst h; intro j u hu; simp at hu
          · injection h with h; subst h; exact hc
        obtain ⟨v', w', h2, h3, h4⟩ := run_append_arg_grows (P := P) w t ty e i z 1 bytes ht hi hz hsize hby hzs (by decide) b n c0 xs (by omega) hold a m c news (by omega) hcells (by omega) h63 hbytes
        exact ⟨v', w', h2, app_own (own_mono h3 hbase), (Below.refl base w).grown h4 hbase (fun k hk => by cases hk), typ_none h4⟩
    · obtain ⟨v', w', h2, h3, h4, _⟩ := run_append_own (P := P) w base t ty e i z 1 bytes ht hi hz hsize hby hzs (by decide) _ n xs hown a m c news (by omega) hcells h1 h63 hbytes hbase
      exact ⟨v', w', h2, app_own h3, (Below.refl base w).grown h4 hbase (own_ge hown), typ_grown hown h4⟩

theorem wpList_appT {ops : Array Oper} {rest : List Oper} {o : Oper} {a : Act} {Q : Exit → Act → World → Prop} (hgd : o.guard = none) (s x : Operand) (t : TypeId)
    (ho : o.op = .call { callee := .builtin .append, args := #[s, x], argTypes := #[t, t] })
    (base : Nat) (e : TypeId) (i : TypeInfo) (z : Value) (bytes : Nat) (ht : P.underlying t = some (.slice e)) (hi : P.info? e = some i) (hz : i.zero = some z)
    (hsize : i.size = 1) (hby : i.bytes = bytes) (hzs : z.cells.size = 1)
    (v : Value) (n : Nat) (xs : List Value) (hs : a.eval s = v) (hown : App w base e v n xs)
    (B : Nat) (A : Option Addr) (m c : Nat) (news : List Value) (hx : a.eval x = .slice A m c) (hl : news.length = m) (hr : Rd w B A news) (h1 : ∀ u ∈ news, u.oneCell' = true)
    (h63 : n + m ≤ maxLen) (hbytes : (n + m) * bytes ≤ 140737488355328) (hbase : base ≤ w.heap.size)
    (h : ∀ v' w', App w' base e v' (n + m) (xs ++ news) → Below base w w' → Typ e w w' → wpList P ops Q rest (a.put o.dst v') w') : wpList P ops Q (o :: rest) a w := by
  refine wpList_plain hgd fun K hK => ?_
  obtain ⟨v', w', hr, h2, h3, h4⟩ := run_appT (P := P) (c := c) (ty := o.type) ht hi hz hsize hby hzs hown hl hr h1 h63 hbytes hbase
  unfold Oper.wp execOp
  simp only [ho, resolve, invoke, builtin, Sem.run_bind, Sem.run_pure, Result.andThen_ok, List.map_toArray, List.map_cons, List.map_nil, hs, hx, hr]
  exact hK _ _ (h v' w' h2 h3 h4)
end

section
variable {P : Program} {w : World}
/-- An append of cells that are read, nil let in, onto nothing: a row of one's own. -/
theorem run_nil {B m c bytes : Nat} {t ty e : TypeId} {i : TypeInfo} {z : Value} {news : List Value} {A : Option Addr} (ht : P.underlying t = some (.slice e)) (hi : P.info? e = some i) (hz : i.zero = some z)
    (hsize : i.size = 1) (hby : i.bytes = bytes) (hzs : z.cells.size = 1) (hl : news.length = m) (hr : Rd w B A news) (h1 : ∀ u ∈ news, u.oneCell' = true) (h63 : m ≤ maxLen) (hbytes : m * bytes ≤ 140737488355328) :
    ∃ A' c' w', (Builtin.append_ #[t, t] ty #[.slice none 0 0, .slice A m c]).run P w = .ok (.slice A' m c') w' ∧ w'.ownsRow w.heap.size e 1 (.slice A' m c') m news ∧ w.grownBy w' none := by
  by_cases hm : m = 0
  · have hnil : news = [] := List.eq_nil_of_length_eq_zero (by omega)
    subst hnil; subst hm
    exact ⟨none, 0, w, run_app_empty ht hi hsize (Nat.le_refl _) rfl, World.ownsRow_nil w _ e 1, World.grownBy.refl w none⟩
  · obtain ⟨a, rfl, hcells⟩ : ∃ a, A = some a ∧ ∀ j u, news[j]? = some u → w.cell? (a.add j) = some u := by
      rcases hr with h | ⟨a, h, _, hc⟩
      · subst h; simp at hl; omega
      · exact ⟨a, h, hc⟩
    obtain ⟨v', w', h2, h3, h4, _⟩ := run_append_own (P := P) w w.heap.size t ty e i z 1 bytes ht hi hz hsize hby hzs (by decide) (.slice none 0 0) 0 [] (World.ownsRow_nil w _ e 1) a m c news (by omega) hcells h1 (by omega) (by rw [Nat.zero_add]; exact hbytes) (Nat.le_refl _)
    rw [Nat.zero_add, List.nil_append] at h3
    obtain ⟨A', c', rfl, _⟩ := rd_of_own h3
    exact ⟨A', c', w', h2, h3, h4⟩

theorem wpList_nil' {ops : Array Oper} {rest : List Oper} {o : Oper} {a : Act} {Q : Exit → Act → World → Prop} (hgd : o.guard = none) (s x : Operand) (t : TypeId)
    (ho : o.op = .call { callee := .builtin .append, args := #[s, x], argTypes := #[t, t] })
    (e : TypeId) (i : TypeInfo) (z : Value) (bytes : Nat) (ht : P.underlying t = some (.slice e)) (hi : P.info? e = some i) (hz : i.zero = some z)
    (hsize : i.size = 1) (hby : i.bytes = bytes) (hzs : z.cells.size = 1) (hs : a.eval s = .slice none 0 0)
    (B : Nat) (A : Option Addr) (m c : Nat) (news : List Value) (hx : a.eval x = .slice A m c) (hl : news.length = m) (hr : Rd w B A news) (h1 : ∀ u ∈ news, u.oneCell' = true)
    (h63 : m ≤ maxLen) (hbytes : m * bytes ≤ 140737488355328)
    (h : ∀ A' c' w', w'.ownsRow w.heap.size e 1 (.slice A' m c') m news → w.grownBy w' none → wpList P ops Q rest (a.put o.dst (.slice A' m c')) w') : wpList P ops Q (o :: rest) a w := by
  refine wpList_plain hgd fun K hK => ?_
  obtain ⟨A', c', w', hr, h2, h3⟩ := run_nil (P := P) (c := c) (ty := o.type) ht hi hz hsize hby hzs hl hr h1 h63 hbytes
  unfold Oper.wp execOp
  simp only [ho, resolve, invoke, builtin, Sem.run_bind, Sem.run_pure, Result.andThen_ok, List.map_toArray, List.map_cons, List.map_nil, hs, hx, hr]
  exact hK _ _ (h A' c' w' h2 h3)

theorem step_nil {ops : Array Oper} {o : Oper} {a : Act} {K : Act → World → Prop} {Q : Exit → Act → World → Prop} {E : Prop} (hgd : o.guard = none) (s x : Operand) (t : TypeId)
    (ho : o.op = .call { callee := .builtin .append, args := #[s, x], argTypes := #[t, t] })
    (e : TypeId) (i : TypeInfo) (z : Value) (bytes : Nat) (ht : P.underlying t = some (.slice e)) (hi : P.info? e = some i) (hz : i.zero = some z)
    (hsize : i.size = 1) (hby : i.bytes = bytes) (hzs : z.cells.size = 1) (hs : a.eval s = .slice none 0 0)
    (B : Nat) (A : Option Addr) (m c : Nat) (news : List Value) (hx : a.eval x = .slice A m c) (hl : news.length = m) (hr : Rd w B A news) (h1 : ∀ u ∈ news, u.oneCell' = true)
    (h63 : m ≤ maxLen) (hbytes : m * bytes ≤ 140737488355328)
    (h : ∀ A' c' w', w'.ownsRow w.heap.size e 1 (.slice A' m c') m news → w.grownBy w' none → K (a.put o.dst (.slice A' m c')) w') :
    if Region.wanted o (yielded ops a.tmps) = true then Oper.wp P o a w K Q else E := by
  have hw : Region.wanted o (yielded ops a.tmps) = true := by simp [Region.wanted, hgd]
  rw [if_pos hw]
  obtain ⟨A', c', w', hr, h2, h3⟩ := run_nil (P := P) (c := c) (ty := o.type) ht hi hz hsize hby hzs hl hr h1 h63 hbytes
  unfold Oper.wp execOp
  simp only [ho, resolve, invoke, builtin, Sem.run_bind, Sem.run_pure, Result.andThen_ok, List.map_toArray, List.map_cons, List.map_nil, hs, hx, hr]
  exact h A' c' w' h2 h3
end

def OwnEnd (w : World) (n : Nat) (xs : List Value) (e : Ending) (w' : World) : Prop :=
  ∃ A' c', e = .returned (.slice A' n c') ∧ w'.ownsRow w.heap.size 9 1 (.slice A' n c') n xs ∧ w.grownBy w' none

end Tx
end Go.Proofs.Ytbiiabfhngdeiaa

namespace Go.Proofs.Ytbiiabfhngdeiaa
open Go.RowKit
set_option linter.unusedVariables false
namespace Tx

/-- The block b holds the cells cs, of type t. -/
def Blk (W : World) (b : Nat) (t : TypeId) (cs : Array Value) : Prop := W.heap[b]? = some (.cells cs t (0, 0))

section
variable {W W' : World} {b : Nat} {t : TypeId} {cs : Array Value}
theorem Blk.lt (h : Blk W b t cs) : b < W.heap.size := (Array.getElem?_eq_some_iff.1 h).1
theorem Blk.new (W : World) (t : TypeId) (cs : Array Value) : Blk (W.alloc (.cells cs t)) W.heap.size t cs := World.alloc_heap_new W _
theorem Blk.gr {row : Option Nat} (h : Blk W b t cs) (hg : W.grownBy W' row) (hne : some b ≠ row) : Blk W' b t cs := (hg.block b h.lt hne).trans h
theorem Blk.alloc (h : Blk W b t cs) (o : Obj) : Blk (W.alloc o) b t cs := h.gr (World.grownBy_alloc W o none) (by simp)
theorem Blk.below {B : Nat} (h : Blk W b t cs) (hb : Below B W W') (hlt : b < B) : Blk W' b t cs := (hb.block b hlt).trans h
theorem Blk.drewN (h : Blk W b t cs) (d : Nat) : Blk (W.drewN d) b t cs := h
theorem Blk.cell (h : Blk W b t cs) (j : Nat) {u : Value} (hu : cs[j]? = some u) : W.cell? ⟨b, j, none⟩ = some u := by
  simp [World.cell?, show W.heap[b]? = _ from h, hu]
theorem Blk.frozen (h : Blk W b t cs) (j : Nat) : W.frozen? ⟨b, j, none⟩ = false := by simp [World.frozen?, show W.heap[b]? = _ from h]
theorem Blk.set (h : Blk W b t cs) (j : Nat) (v : Value) : Blk (W.setCell ⟨b, j, none⟩ v) b t (cs.setIfInBounds j v) := by
  obtain ⟨hlt, hk⟩ := Array.getElem?_eq_some_iff.1 h
  show (W.heap.modify b _)[b]? = _
  rw [Array.getElem?_eq_getElem (by rw [Array.size_modify]; exact hlt), Array.getElem_modify_self, hk]
  rfl
theorem grownBy_set (W : World) (b j : Nat) (v : Value) : W.grownBy (W.setCell ⟨b, j, none⟩ v) (some b) :=
  ⟨rfl, rfl, rfl, (KeepsWalks.setCell W _ v).size, fun k _ hk => Below.heap_setCell _ _ _ k (fun e => hk (by rw [e]))⟩
theorem Blk.set_ne {b' : Nat} (h : Blk W b t cs) (hne : b ≠ b') (j : Nat) (v : Value) : Blk (W.setCell ⟨b', j, none⟩ v) b t cs := h.gr (grownBy_set W b' j v) (by simpa using hne)
end

/-- A row of one's own, and a store to an elder block. -/
theorem own_set {W : World} {base e size n b : Nat} {v : Value} {xs : List Value} (h : W.ownsRow base e size v n xs) (hb : b < base) (j : Nat) (u : Value) : (W.setCell ⟨b, j, none⟩ u).ownsRow base e size v n xs :=
  h.kept (grownBy_set W b j u) (.inr fun e' => absurd (own_ge h b e') (by omega))
theorem own_gr {W W' : World} {base e size n : Nat} {v : Value} {xs : List Value} (h : W.ownsRow base e size v n xs) (hg : W.grownBy W' none) : W'.ownsRow base e size v n xs := h.kept hg (Classical.em _)
/-- A row of one's own is no block of another type. -/
theorem Blk.not_row {W : World} {b : Nat} {t e : TypeId} {cs : Array Value} (h : Blk W b t cs) (hte : t ≠ e) {base size k : Nat} {v : Value} {xs : List Value} (hr : W.ownsRow base e size v k xs) : some b ≠ v.ownBlock := by
  rcases hr.2 with ⟨rfl, _⟩ | ⟨g, cap, cur, rfl, _, hgb, _⟩
  · simp [Value.ownBlock]
  · intro e'
    obtain rfl : b = g := by simpa [Value.ownBlock] using e'
    have := (show W.heap[b]? = _ from h).symm.trans hgb
    simp at this
    exact hte this.2
theorem own_setT {W : World} {b base n size : Nat} {t e : TypeId} {v : Value} {cs : Array Value} {xs : List Value} (h : W.ownsRow base e size v n xs) (hb : Blk W b t cs) (ht : t ≠ e) (j : Nat) (u : Value) : (W.setCell ⟨b, j, none⟩ u).ownsRow base e size v n xs :=
  h.kept (grownBy_set W b j u) (.inr fun e' => hb.not_row ht h e'.symm)
theorem own_set3 {W : World} {b base n size : Nat} {t e : TypeId} {v : Value} {cs : Array Value} {xs : List Value} (h : W.ownsRow base e size v n xs) (hb : Blk W b t cs) (ht : t ≠ e) (v0 v1 v2 : Value) : (((W.setCell ⟨b, 0, none⟩ v0).setCell ⟨b, 1, none⟩ v1).setCell ⟨b, 2, none⟩ v2).ownsRow base e size v n xs :=
  own_setT (own_setT (own_setT h hb ht 0 v0) (hb.set 0 v0) ht 1 v1) ((hb.set 0 v0).set 1 v1) ht 2 v2
/-- What lies in another block lies there still. -/
theorem cell_gr {W w1 : World} {row : Option Nat} {p : Addr} {u : Value} (hg : W.grownBy w1 row) (hne : some p.block ≠ row) (hc : W.cell? p = some u) : w1.cell? p = some u :=
  (World.cell?_of_block (hg.block _ (World.block_lt_of_cell? W p hc) hne)).trans hc
theorem cell_set {W : World} {p : Addr} {b : Nat} {u : Value} (hc : W.cell? p = some u) (hne : p.block ≠ b) (j : Nat) (v : Value) : (W.setCell ⟨b, j, none⟩ v).cell? p = some u := cell_gr (grownBy_set W b j v) (fun e => hne (by injection e)) hc
theorem cell_set3 {W : World} {p : Addr} {b : Nat} {u : Value} (hc : W.cell? p = some u) (hne : p.block ≠ b) (v0 v1 v2 : Value) : (((W.setCell ⟨b, 0, none⟩ v0).setCell ⟨b, 1, none⟩ v1).setCell ⟨b, 2, none⟩ v2).cell? p = some u :=
  cell_set (cell_set (cell_set hc hne 0 v0) hne 1 v1) hne 2 v2
theorem gr_drewN {W W' : World} {row : Option Nat} (h : W.grownBy W' row) (d : Nat) : W.grownBy (W'.drewN d) row := ⟨h.os, h.tape, h.output, h.size, h.block⟩
theorem gr_of_drewN {W W' : World} {row : Option Nat} {d : Nat} (h : (W.drewN d).grownBy W' row) : W.grownBy W' row := ⟨h.os, h.tape, h.output, h.size, h.block⟩
theorem nn (b : Nat) : some b ≠ (none : Option Nat) := fun h => by cases h
theorem cell_alc {W : World} {p : Addr} {u : Value} (o : Obj) (hc : W.cell? p = some u) : (W.alloc o).cell? p = some u := cell_gr (World.grownBy_alloc W o none) (nn _) hc
theorem below_gr {W w1 : World} (hg : W.grownBy w1 none) : Below W.heap.size W w1 := (Below.refl _ W).grown hg (Nat.le_refl _) (fun k hk => by cases hk)

end Tx
end Go.Proofs.Ytbiiabfhngdeiaa

namespace Go.Proofs.Ytbiiabfhngdeiaa
open Go.RowKit
set_option linter.unusedVariables false
namespace Tx

section
variable {P : Program} {w : World}
theorem run_copy_own {dT sT ty e : TypeId} {i : TypeInfo} {base size g f n cap dLen dCap sLen sCap : Nat} {A : Option Addr} {xs cs : List Value} (hu : P.underlying dT = some (.slice e)) (hi : P.info? e = some i) (hsz : i.size = size)
    (hrow : w.ownsRow base e size (.slice (some ⟨g, 0, none⟩) n cap) n xs) (hn : cs.length = Nat.min sLen dLen * size) (hr : cs = [] ∨ ∃ a, A = some a ∧ ∀ j u, cs[j]? = some u → w.cell? (a.add j) = some u) (hfit : f + cs.length ≤ n * size) (h1 : ∀ u ∈ cs, u.oneCell' = true) :
    ∃ w', (Builtin.copy_ #[dT, sT] ty #[.slice (some ⟨g, f, none⟩) dLen dCap, .slice A sLen sCap]).run P w = .ok (goInt (Nat.min sLen dLen)) w' ∧ w'.ownsRow base e size (.slice (some ⟨g, 0, none⟩) n cap) n (splice xs f cs) ∧ w.grownBy w' (some g) := by
  subst hsz
  have hxl := hrow.1
  rcases hrow.2 with ⟨h', _⟩ | ⟨g', cap', cur, h', hb, hg, hc1, hc2, hc3, ht⟩
  · simp at h'
  simp only [Value.slice.injEq, Option.some.injEq, Addr.mk.injEq, and_true, true_and] at h'
  obtain ⟨rfl, rfl⟩ := h'
  have hcn : n * i.size ≤ cap * i.size := Nat.mul_le_mul_right _ hc1
  have hst := run_storeCells_at P g f e cs 0 cur w hg (by omega) h1
  rw [Nat.add_zero] at hst
  have hl : (Builtin.firstCells i.size (Nat.min sLen dLen) (.slice A sLen sCap)).run P w = .ok cs.toArray w := by
    rcases hr with rfl | ⟨a, rfl, hcell⟩
    · cases A with
      | none => simp [Builtin.firstCells]
      | some a =>
        have h0 : Nat.min sLen dLen * i.size = 0 := by rw [← hn]; rfl
        have := run_loadCells_list (P := P) w a [] (by simp)
        simp only [Builtin.firstCells, h0]
        exact this
    · have := run_loadCells_list (P := P) w a cs hcell
      simp only [Builtin.firstCells, ← hn]
      exact this
  refine ⟨w.setRow g (cur.toList.take f ++ cs ++ cur.toList.drop (f + cs.length)).toArray, ?_, ⟨?_, .inr ⟨g, cap, _, rfl, hb, setRow_heap w g cur _ e _ hg, hc1, hc2, ?_, ?_⟩⟩, ⟨rfl, rfl, rfl, by simp [World.setRow], fun k hk hne => setRow_other w g k _ (fun e => hne (by rw [e]))⟩⟩
  · simp [Builtin.copy_, run_underlying hu, Builtin.lenOf, sizeOf, typeInfo, hi, hl, hst]
  · rw [length_splice _ _ _ (by omega)]; exact hxl
  · simp only [List.size_toArray, List.length_append, List.length_take, List.length_drop, Array.length_toList]; omega
  · rw [← ht]
    unfold splice
    rw [List.take_take, Nat.min_eq_left (by omega), List.append_assoc, List.take_append, List.take_take, List.take_append, List.length_take, Array.length_toList, Nat.min_eq_right (by omega), Nat.min_eq_left (by omega), List.take_of_length_le (show cs.length ≤ n * i.size - f by omega), List.drop_take, Nat.sub_sub]

theorem wp_copy_own {o : Oper} {a : Act} {K : Act → World → Prop} {Q : Exit → Act → World → Prop} (d s : Operand) (dT sT : TypeId)
    (ho : o.op = .call { callee := .builtin .copy, args := #[d, s], argTypes := #[dT, sT] }) (e : TypeId) (i : TypeInfo) (base size g f n cap dLen dCap sLen sCap : Nat) (A : Option Addr) (xs cs : List Value) (hu : P.underlying dT = some (.slice e)) (hi : P.info? e = some i) (hsz : i.size = size)
    (hd : a.eval d = .slice (some ⟨g, f, none⟩) dLen dCap) (hs : a.eval s = .slice A sLen sCap)
    (hrow : w.ownsRow base e size (.slice (some ⟨g, 0, none⟩) n cap) n xs) (hn : cs.length = Nat.min sLen dLen * size) (hr : cs = [] ∨ ∃ a, A = some a ∧ ∀ j u, cs[j]? = some u → w.cell? (a.add j) = some u) (hfit : f + cs.length ≤ n * size) (h1 : ∀ u ∈ cs, u.oneCell' = true)
    (h : ∀ w', w'.ownsRow base e size (.slice (some ⟨g, 0, none⟩) n cap) n (splice xs f cs) → w.grownBy w' (some g) → K (a.put o.dst (goInt (Nat.min sLen dLen))) w') : o.wp P a w K Q := by
  obtain ⟨w', hrun, h2, h3⟩ := run_copy_own (P := P) (ty := o.type) (sT := sT) (dCap := dCap) (sCap := sCap) hu hi hsz hrow hn hr hfit h1
  unfold Oper.wp execOp
  simp only [ho, resolve, invoke, builtin, Sem.run_bind, Sem.run_pure, Result.andThen_ok, List.map_toArray, List.map_cons, List.map_nil, hd, hs, hrun]
  exact h w' h2 h3
theorem wpList_copy_own' {ops : Array Oper} {rest : List Oper} {o : Oper} {a : Act} {Q : Exit → Act → World → Prop} (hgd : o.guard = none) (d s : Operand) (dT sT : TypeId)
    (ho : o.op = .call { callee := .builtin .copy, args := #[d, s], argTypes := #[dT, sT] }) (e : TypeId) (i : TypeInfo) (base size g f n cap dLen dCap sLen sCap : Nat) (A : Option Addr) (xs cs : List Value) (hu : P.underlying dT = some (.slice e)) (hi : P.info? e = some i) (hsz : i.size = size)
    (hd : a.eval d = .slice (some ⟨g, f, none⟩) dLen dCap) (hs : a.eval s = .slice A sLen sCap)
    (hrow : w.ownsRow base e size (.slice (some ⟨g, 0, none⟩) n cap) n xs) (hn : cs.length = Nat.min sLen dLen * size) (hr : cs = [] ∨ ∃ a, A = some a ∧ ∀ j u, cs[j]? = some u → w.cell? (a.add j) = some u) (hfit : f + cs.length ≤ n * size) (h1 : ∀ u ∈ cs, u.oneCell' = true)
    (h : ∀ w', w'.ownsRow base e size (.slice (some ⟨g, 0, none⟩) n cap) n (splice xs f cs) → w.grownBy w' (some g) → wpList P ops Q rest (a.put o.dst (goInt (Nat.min sLen dLen))) w') : wpList P ops Q (o :: rest) a w :=
  wpList_plain hgd fun _ hK => wp_copy_own d s dT sT ho e i base size g f n cap dLen dCap sLen sCap A xs cs hu hi hsz hd hs hrow hn hr hfit h1 fun w' h2 h3 => hK _ _ (h w' h2 h3)
theorem step_copy_own {ops : Array Oper} {o : Oper} {a : Act} {K : Act → World → Prop} {Q : Exit → Act → World → Prop} {E : Prop} (hgd : o.guard = none) (d s : Operand) (dT sT : TypeId)
    (ho : o.op = .call { callee := .builtin .copy, args := #[d, s], argTypes := #[dT, sT] }) (e : TypeId) (i : TypeInfo) (base size g f n cap dLen dCap sLen sCap : Nat) (A : Option Addr) (xs cs : List Value) (hu : P.underlying dT = some (.slice e)) (hi : P.info? e = some i) (hsz : i.size = size)
    (hd : a.eval d = .slice (some ⟨g, f, none⟩) dLen dCap) (hs : a.eval s = .slice A sLen sCap)
    (hrow : w.ownsRow base e size (.slice (some ⟨g, 0, none⟩) n cap) n xs) (hn : cs.length = Nat.min sLen dLen * size) (hr : cs = [] ∨ ∃ a, A = some a ∧ ∀ j u, cs[j]? = some u → w.cell? (a.add j) = some u) (hfit : f + cs.length ≤ n * size) (h1 : ∀ u ∈ cs, u.oneCell' = true)
    (h : ∀ w', w'.ownsRow base e size (.slice (some ⟨g, 0, none⟩) n cap) n (splice xs f cs) → w.grownBy w' (some g) → K (a.put o.dst (goInt (Nat.min sLen dLen))) w') :
    if Region.wanted o (yielded ops a.tmps) = true then Oper.wp P o a w K Q else E := by
  have hw : Region.wanted o (yielded ops a.tmps) = true := by simp [Region.wanted, hgd]
  rw [if_pos hw]
  exact wp_copy_own d s dT sT ho e i base size g f n cap dLen dCap sLen sCap A xs cs hu hi hsz hd hs hrow hn hr hfit h1 h
end

end Tx
end Go.Proofs.Ytbiiabfhngdeiaa

namespace Go.Proofs.Ytbiiabfhngdeiaa
open Go.RowKit
set_option linter.unusedVariables false
namespace Tx

section
variable {P : Program} {w : World}
theorem own_splice {e : TypeId} {base size g n cap : Nat} {xs : List Value} (hrow : w.ownsRow base e size (.slice (some ⟨g, 0, none⟩) n cap) n xs) :
    ∃ cur, w.heap[g]? = some (.cells cur e (0, 0)) ∧ cur.size = cap * size ∧ n * size ≤ cap * size ∧ ∀ f cs, f + cs.length ≤ n * size →
      (w.setRow g (cur.toList.take f ++ cs ++ cur.toList.drop (f + cs.length)).toArray).ownsRow base e size (.slice (some ⟨g, 0, none⟩) n cap) n (splice xs f cs) ∧ w.grownBy (w.setRow g (cur.toList.take f ++ cs ++ cur.toList.drop (f + cs.length)).toArray) (some g) := by
  have hxl := hrow.1
  rcases hrow.2 with ⟨h', _⟩ | ⟨g', cap', cur, h', hb, hg, hc1, hc2, hc3, ht⟩
  · simp at h'
  simp only [Value.slice.injEq, Option.some.injEq, Addr.mk.injEq, and_true, true_and] at h'
  obtain ⟨rfl, rfl⟩ := h'
  have hcn : n * size ≤ cap * size := Nat.mul_le_mul_right _ hc1
  refine ⟨cur, hg, hc3, hcn, fun f cs hfit => ?_⟩
  refine ⟨⟨?_, .inr ⟨g, cap, _, rfl, hb, setRow_heap w g cur _ e _ hg, hc1, hc2, ?_, ?_⟩⟩, ⟨rfl, rfl, rfl, by simp [World.setRow], fun k hk hne => setRow_other w g k _ (fun e => hne (by rw [e]))⟩⟩
  · rw [length_splice _ _ _ (by omega)]; exact hxl
  · simp only [List.size_toArray, List.length_append, List.length_take, List.length_drop, Array.length_toList]; omega
  · rw [← ht]
    unfold splice
    rw [List.take_take, Nat.min_eq_left (by omega), List.append_assoc, List.take_append, List.take_take, List.take_append, List.length_take, Array.length_toList, Nat.min_eq_right (by omega), Nat.min_eq_left (by omega), List.take_of_length_le (show cs.length ≤ n * size - f by omega), List.drop_take, Nat.sub_sub]
/-- Fewer of its elements. -/
theorem own_less {e : TypeId} {base size g n k cap : Nat} {xs : List Value} (hrow : w.ownsRow base e size (.slice (some ⟨g, 0, none⟩) n cap) n xs) (hk : k ≤ n) : w.ownsRow base e size (.slice (some ⟨g, 0, none⟩) k cap) k (xs.take (k * size)) := by
  have hkn : k * size ≤ n * size := Nat.mul_le_mul_right _ hk
  refine ⟨by rw [List.length_take, hrow.1, Nat.min_eq_left hkn], ?_⟩
  rcases hrow.2 with ⟨h', _⟩ | ⟨g', cap', cur, h', hb, hg, hc1, hc2, hc3, ht⟩
  · simp at h'
  simp only [Value.slice.injEq, Option.some.injEq, Addr.mk.injEq, and_true, true_and] at h'
  obtain ⟨rfl, rfl⟩ := h'
  exact .inr ⟨g, cap, cur, rfl, hb, hg, Nat.le_trans hk hc1, hc2, hc3, by rw [← ht, List.take_take, Nat.min_eq_left hkn]⟩

/-- append within the room of a row of one's own. -/
theorem run_append_own_room {t ty e : TypeId} {i : TypeInfo} {base size g n cap k m c : Nat} {a : Addr} {xs news : List Value} (hu : P.underlying t = some (.slice e)) (hi : P.info? e = some i) (hsz : i.size = size)
    (hrow : w.ownsRow base e size (.slice (some ⟨g, 0, none⟩) n cap) n xs) (hl : news.length = m * size) (hr : ∀ j u, news[j]? = some u → w.cell? (a.add j) = some u) (h1 : ∀ u ∈ news, u.oneCell' = true) (hkm : k + m ≤ n) (hn : n ≤ cap) :
    ∃ w', (Builtin.append_ #[t, t] ty #[.slice (some ⟨g, 0, none⟩) k cap, .slice (some a) m c]).run P w = .ok (.slice (some ⟨g, 0, none⟩) (k + m) cap) w' ∧ w'.ownsRow base e size (.slice (some ⟨g, 0, none⟩) n cap) n (splice xs (k * size) news) ∧ w.grownBy w' (some g) := by
  subst hsz
  obtain ⟨cur, hg, hcs, hnc, hs⟩ := own_splice hrow
  have hfit : k * i.size + news.length ≤ n * i.size := by rw [hl, ← Nat.add_mul]; exact Nat.mul_le_mul_right _ hkm
  obtain ⟨h2, h3⟩ := hs (k * i.size) news hfit
  exact ⟨_, run_append_room w t ty e i hu hi g k cap cur hg a m c news hl hr h1 (by omega) (by omega), h2, h3⟩
theorem step_append_own_room {ops : Array Oper} {o : Oper} {a : Act} {K : Act → World → Prop} {Q : Exit → Act → World → Prop} {E : Prop} (hgd : o.guard = none) (s x : Operand) (t : TypeId)
    (ho : o.op = .call { callee := .builtin .append, args := #[s, x], argTypes := #[t, t] }) (e : TypeId) (i : TypeInfo) (base size g n cap k m c : Nat) (ad : Addr) (xs news : List Value) (hu : P.underlying t = some (.slice e)) (hi : P.info? e = some i) (hsz : i.size = size)
    (hs : a.eval s = .slice (some ⟨g, 0, none⟩) k cap) (hx : a.eval x = .slice (some ad) m c)
    (hrow : w.ownsRow base e size (.slice (some ⟨g, 0, none⟩) n cap) n xs) (hl : news.length = m * size) (hr : ∀ j u, news[j]? = some u → w.cell? (ad.add j) = some u) (h1 : ∀ u ∈ news, u.oneCell' = true) (hkm : k + m ≤ n) (hn : n ≤ cap)
    (h : ∀ w', w'.ownsRow base e size (.slice (some ⟨g, 0, none⟩) n cap) n (splice xs (k * size) news) → w.grownBy w' (some g) → K (a.put o.dst (.slice (some ⟨g, 0, none⟩) (k + m) cap)) w') :
    if Region.wanted o (yielded ops a.tmps) = true then Oper.wp P o a w K Q else E := by
  have hw : Region.wanted o (yielded ops a.tmps) = true := by simp [Region.wanted, hgd]
  rw [if_pos hw]
  obtain ⟨w', hrun, h2, h3⟩ := run_append_own_room (P := P) (ty := o.type) (c := c) hu hi hsz hrow hl hr h1 hkm hn
  unfold Oper.wp execOp
  simp only [ho, resolve, invoke, builtin, Sem.run_bind, Sem.run_pure, Result.andThen_ok, List.map_toArray, List.map_cons, List.map_nil, hs, hx, hrun]
  exact h w' h2 h3

/-- clear, within a row of one's own: the cells ahead stay. -/
theorem run_clear_own {t ty e : TypeId} {i : TypeInfo} {z : Value} {base size g f n cap m c : Nat} {xs : List Value} (hu : P.underlying t = some (.slice e)) (hi : P.info? e = some i) (hz : i.zero = some z) (hsz : z.cells.size = size) (hz1 : ∀ j : Nat, Value.oneCell' (z.cells[j % z.cells.size]!) = true) (hm0 : 0 < m)
    (hrow : w.ownsRow base e size (.slice (some ⟨g, 0, none⟩) n cap) n xs) (hfit : f + m * size ≤ n * size) :
    ∃ w', (Builtin.clear_ #[t] ty #[.slice (some ⟨g, f, none⟩) m c]).run P w = .ok (.tuple #[]) w' ∧ (∃ ys, w'.ownsRow base e size (.slice (some ⟨g, 0, none⟩) n cap) n ys ∧ ys.take f = xs.take f) ∧ w.grownBy w' (some g) := by
  obtain ⟨cur, hg, hcs, hnc, hs⟩ := own_splice hrow
  have hl : (Builtin.zeroCells z.cells m).toList.length = m * size := by rw [Array.length_toList, size_zeroCells, hsz]
  obtain ⟨h2, h3⟩ := hs f (Builtin.zeroCells z.cells m).toList (by rw [hl]; exact hfit)
  have hst := run_storeCells_at P g f e (Builtin.zeroCells z.cells m).toList 0 cur w hg (by rw [hl]; omega) (fun v hv => by
    rw [Array.mem_toList_iff] at hv
    simp only [Builtin.zeroCells, Array.mem_map] at hv
    obtain ⟨j, _, rfl⟩ := hv
    exact hz1 _)
  rw [Nat.add_zero] at hst
  obtain ⟨m, rfl⟩ : ∃ m', m = m' + 1 := ⟨m - 1, by omega⟩
  refine ⟨_, ?_, ⟨_, h2, ?_⟩, h3⟩
  · simp [Builtin.clear_, run_underlying hu, zeroValue, typeInfo, hi, hz, hst]
  · unfold splice
    have hxl : f ≤ xs.length := by rw [hrow.1]; omega
    rw [List.take_append_of_le_length (by rw [List.length_take]; omega), List.take_take, Nat.min_self]
theorem wpList_clear_own {ops : Array Oper} {rest : List Oper} {o : Oper} {a : Act} {Q : Exit → Act → World → Prop} (hgd : o.guard = none) (s : Operand) (t : TypeId)
    (ho : o.op = .call { callee := .builtin .clear, args := #[s], argTypes := #[t] }) (e : TypeId) (i : TypeInfo) (z : Value) (base size g f n cap m c : Nat) (xs : List Value) (hu : P.underlying t = some (.slice e)) (hi : P.info? e = some i) (hz : i.zero = some z) (hsz : z.cells.size = size) (hz1 : ∀ j : Nat, Value.oneCell' (z.cells[j % z.cells.size]!) = true) (hm0 : 0 < m)
    (hs : a.eval s = .slice (some ⟨g, f, none⟩) m c) (hrow : w.ownsRow base e size (.slice (some ⟨g, 0, none⟩) n cap) n xs) (hfit : f + m * size ≤ n * size)
    (h : ∀ w' ys, w'.ownsRow base e size (.slice (some ⟨g, 0, none⟩) n cap) n ys → ys.take f = xs.take f → w.grownBy w' (some g) → wpList P ops Q rest (a.put o.dst (.tuple #[])) w') : wpList P ops Q (o :: rest) a w := by
  refine wpList_plain hgd fun K hK => ?_
  obtain ⟨w', hrun, ⟨ys, h2, h4⟩, h3⟩ := run_clear_own (P := P) (ty := o.type) (c := c) hu hi hz hsz hz1 hm0 hrow hfit
  unfold Oper.wp execOp
  simp only [ho, resolve, invoke, builtin, Sem.run_bind, Sem.run_pure, Result.andThen_ok, List.map_toArray, List.map_cons, List.map_nil, hs, hrun]
  exact hK _ _ (h w' ys h2 h4 h3)
end

end Tx
end Go.Proofs.Ytbiiabfhngdeiaa

namespace Go.Proofs.Ytbiiabfhngdeiaa
open Go.RowKit
set_option linter.unusedVariables false
namespace Tx

set_option maxHeartbeats 400000 in
theorem EqualS (A A' : Option Addr) (cap cap' n n' B : Nat) (ls ms : List (List UInt8)) (w : World) (hn : ls.length = n) (hn' : ms.length = n') (hnm : n ≤ maxLen) (hR : RdS w B A ls) (hR' : RdS w B A' ms) :
    Calls Try.prog 49 #[.slice A n cap, .slice A' n' cap'] w (SameEnd w (decide (ls = ms))) := by
  unfold maxLen at hnm
  have HN := Lib.hid hn; clear hn
  have HN' := Lib.hid hn'; clear hn'
  by_cases h1 : n = n'
  · subst h1
    go_enter Try.func49, Try.ntmps49
    go_wp2
    go_loopw [13] (fun i wr => ∃ k : Nat, k ≤ n ∧ i = .int .i64 k ∧ ls.take k = ms.take k ∧ ∃ d, wr = w.drewN d) (fun i _ => n - (intOf i).toNat)
    case atStart => exact ⟨0, Nat.zero_le _, rfl, by simp, 0, rfl⟩
    case round =>
      obtain ⟨k, hk, rfl, hall, d, rfl⟩ := hrel
      have HA := Lib.hid hall; clear hall
      by_cases hlt : k < n
      · have hkl : k < ls.length := by rw [HN.out]; exact hlt
        have hkm : k < ms.length := by rw [HN'.out]; exact hlt
        obtain ⟨a, rfl, hcell⟩ := hR.at' hkl
        obtain ⟨a', rfl, hcell'⟩ := hR'.at' hkm
        have HD := Lib.hid (same_step hkl hkm HA.out)
        have hki : (k : Int) < (n : Int) := by omega
        go_wp2
        go_quiet (fail)
        go_wp2
        · have hb : (!ls[k] == ms[k]) = true := by assumption
          go_ret
          exact ⟨ret_bool (HD.out.1 (by simpa using hb)).symm, d + nq, by simp⟩
        · have hb : (!ls[k] == ms[k]) = false := by assumption
          refine ⟨⟨k + 1, by omega, by go_num, HD.out.2 (by simpa using hb), _, rfl⟩, by simp [intOf]; omega⟩
      · have HD : Hid (decide (ls = ms) = true) := Lib.hid (by
          have := HA.out
          rw [List.take_of_length_le (by rw [HN.out]; omega), List.take_of_length_le (by rw [HN'.out]; omega)] at this
          exact decide_eq_true this)
        go_wp2
        go_ret
        exact ⟨ret_bool HD.out.symm, _, rfl⟩
  · have HD : Hid (decide (ls = ms) = false) := Lib.hid (decide_eq_false (fun e => h1 (by rw [← HN.out, ← HN'.out, e])))
    have hne : ((n : Int) != (n' : Int)) = true := by rw [bne_iff_ne]; omega
    go_enter Try.func49, Try.ntmps49
    go_wp2
    go_ret
    exact ⟨ret_bool HD.out.symm, 0, rfl⟩

end Tx
end Go.Proofs.Ytbiiabfhngdeiaa

namespace Go.Proofs.Ytbiiabfhngdeiaa
open Go.RowKit
set_option linter.unusedVariables false
namespace Tx

/-- How a law ends: true, and all that was there is as it was. -/
def LawEnd (w : World) (e : Ending) (w' : World) : Prop := e = .returned (.bool true) ∧ Below w.heap.size w w'

theorem light_len {ls : List (List UInt8)} {n k : Nat} (h : light ls k = true) (hn : ls.length = n) : n ≤ k := by
  simp only [light, Bool.and_eq_true, decide_eq_true_eq] at h
  omega

end Tx
end Go.Proofs.Ytbiiabfhngdeiaa

namespace Go.Proofs.Ytbiiabfhngdeiaa
open Go.RowKit
set_option linter.unusedVariables false
namespace Tx

/-- An element of one cell of an array by value. -/
theorem run_index_array {P : Program} {t e : TypeId} {n : Nat} {cs : Array Value} {k : IntKind} {i : Int} {f : Value} {w : World} (h : P.underlying t = some (.array n e)) (hi : 0 ≤ i ∧ i < (n : Int)) (hs : (sizeOf e).run P w = .ok 1 w) (ha : (isAgg e).run P w = .ok false w) (hf : cs[i.toNat]? = some f) :
    (Instr.index t (.agg cs) (.int k i)).run P w = .ok f w := by
  simp [Instr.index, run_underlying h, asIntOf, hi, part, go_sem, hs, ha, hf]

end Tx
end Go.Proofs.Ytbiiabfhngdeiaa

namespace Go.Proofs.Ytbiiabfhngdeiaa
open Go.RowKit
set_option linter.unusedVariables false
namespace Tx

/-- An address, if there is one, is of memory made behind the first lo blocks. -/
def Hi (lo : Nat) (A : Option Addr) : Prop := ∀ a, A = some a → lo ≤ a.block
theorem hi_none (lo : Nat) : Hi lo none := fun a h => by cases h
theorem Hi.mono {lo lo' : Nat} {A : Option Addr} (h : Hi lo A) (hl : lo' ≤ lo) : Hi lo' A := fun a e => Nat.le_trans hl (h a e)
theorem hi_own {w : World} {base n c e size : Nat} {A : Option Addr} {xs : List Value} (h : w.ownsRow base e size (.slice A n c) n xs) : Hi base A := fun a ha => by
  subst ha
  rcases h.2 with ⟨h1, _⟩ | ⟨g, cap, cur, h1, hb, _⟩
  · cases h1
  · injection h1 with h1 h2
    injection h1 with h1
    subst h1
    exact hb
theorem rdS_hi {W : World} {N lo b : Nat} {A : Option Addr} {ls : List (List UInt8)} (h : RdS W N A ls) (hi : Hi lo A) (hb : b < lo) (j : Nat) (v : Value) : RdS (W.setCell ⟨b, j, none⟩ v) N A ls := by
  rcases h with h | ⟨a, e, hlt, hc⟩
  · exact .inl h
  · refine .inr ⟨a, e, hlt, fun i u hu => ?_⟩
    have := hi a e
    exact cell_set (hc i u hu) (by rw [add_block]; omega) j v

end Tx
end Go.Proofs.Ytbiiabfhngdeiaa
