/-
  What slices.Chunk and slices.Collect, cut and root of layer 3 return (walks): the parts of a list, in order.
-/
import Derived.Test.YtkpgkbllcdpobaaLcLeft
namespace Go.Proofs.Ytkpgkbllcdpobaa
open Go.RowKit Go.Shelf
set_option linter.unusedVariables false
namespace Lc
open Tx Rg
attribute [local go_sem] Oper.semAt_some

/-- The parts of a slice of m items at A, from item i on, as values. -/
def chV (A : Option Addr) (sz m i : Nat) : List Value :=
  if i < m ∧ 0 < sz then .slice (A.map (·.add i)) (min sz (m - i)) (min sz (m - i)) :: chV A sz m (i + sz) else []
  termination_by m - i
/-- .. as lists. -/
def ch {α : Type} (sz : Nat) (ls : List α) (i : Nat) : List (List α) :=
  if i < ls.length ∧ 0 < sz then (ls.drop i).take sz :: ch sz ls (i + sz) else []
  termination_by ls.length - i

theorem chV_some {A : Option Addr} {sz m i : Nat} (h : i < m) (hz : 0 < sz) : chV A sz m i = .slice (A.map (·.add i)) (min sz (m - i)) (min sz (m - i)) :: chV A sz m (i + sz) := by
  conv => lhs; unfold chV; rw [if_pos ⟨h, hz⟩]
theorem chV_none {A : Option Addr} {sz m i : Nat} (h : m ≤ i) : chV A sz m i = [] := by
  unfold chV; rw [if_neg (by omega)]
theorem ch_some {α : Type} {sz i : Nat} {ls : List α} (h : i < ls.length) (hz : 0 < sz) : ch sz ls i = (ls.drop i).take sz :: ch sz ls (i + sz) := by
  conv => lhs; unfold ch; rw [if_pos ⟨h, hz⟩]
theorem ch_none {α : Type} {sz i : Nat} {ls : List α} (h : ls.length ≤ i) : ch sz ls i = [] := by
  unfold ch; rw [if_neg (by omega)]
theorem ch_join {α : Type} {sz : Nat} (hz : 0 < sz) (ls : List α) : ∀ (f i : Nat), ls.length - i ≤ f → (ch sz ls i).flatten = ls.drop i
  | f, i, hf => by
    by_cases h : i < ls.length
    · rw [ch_some h hz, List.flatten_cons]
      cases f with
      | zero => omega
      | succ f => rw [ch_join hz ls f (i + sz) (by omega), ← List.drop_drop, List.take_append_drop]
    · rw [ch_none (by omega), List.drop_of_length_le (by omega)]; rfl
theorem ch_one {α : Type} (ls : List α) : ∀ (f i : Nat), ls.length - i ≤ f → ch 1 ls i = (ls.drop i).map fun x => [x]
  | f, i, hf => by
    by_cases h : i < ls.length
    · rw [ch_some h (by omega)]
      cases f with
      | zero => omega
      | succ f => rw [ch_one ls f (i + 1) (by omega), List.drop_eq_getElem_cons h, List.map_cons, List.take_succ_cons, List.take_zero]
    · rw [ch_none (by omega), List.drop_of_length_le (by omega)]; rfl

/-- A value that reads as a list of lines; values that read as lists of lines. -/
def Part (w : World) (B : Nat) (v : Value) (p : List (List UInt8)) : Prop := ∃ A c, v = .slice A p.length c ∧ p.length ≤ c ∧ RdS w B A p
def Parts (w : World) (B : Nat) (vs : List Value) (ps : List (List (List UInt8))) : Prop := vs.length = ps.length ∧ ∀ (i : Nat) (v : Value) (p : List (List UInt8)), vs[i]? = some v → ps[i]? = some p → Part w B v p
theorem Part.below {w w' : World} {B : Nat} {v : Value} {p : List (List UInt8)} (h : Part w B v p) (hb : Below B w w') : Part w' B v p := let ⟨A, c, e, l, h⟩ := h; ⟨A, c, e, l, h.below hb⟩
theorem Part.up {w : World} {B B' : Nat} {v : Value} {p : List (List UInt8)} (h : Part w B v p) (hb : B ≤ B') : Part w B' v p := let ⟨A, c, e, l, h⟩ := h; ⟨A, c, e, l, h.up hb⟩
theorem Parts.below {w w' : World} {B : Nat} {vs : List Value} {ps : List (List (List UInt8))} (h : Parts w B vs ps) (hb : Below B w w') : Parts w' B vs ps := ⟨h.1, fun i v p h1 h2 => (h.2 i v p h1 h2).below hb⟩
theorem Parts.up {w : World} {B B' : Nat} {vs : List Value} {ps : List (List (List UInt8))} (h : Parts w B vs ps) (hb : B ≤ B') : Parts w B' vs ps := ⟨h.1, fun i v p h1 h2 => (h.2 i v p h1 h2).up hb⟩
theorem parts_nil (w : World) (B : Nat) : Parts w B [] [] := ⟨rfl, fun i v p h => by simp at h⟩
theorem parts_cons {w : World} {B : Nat} {v : Value} {p : List (List UInt8)} {vs : List Value} {ps : List (List (List UInt8))} (h : Part w B v p) (hs : Parts w B vs ps) : Parts w B (v :: vs) (p :: ps) :=
  ⟨by simp [hs.1], fun i v' p' h1 h2 => by
    cases i with
    | zero => simp at h1 h2; subst h1; subst h2; exact h
    | succ i => simp at h1 h2; exact hs.2 i v' p' h1 h2⟩
theorem Parts.at_ {w : World} {B : Nat} {vs : List Value} {ps : List (List (List UInt8))} (h : Parts w B vs ps) {k : Nat} (h1 : k < vs.length) (h2 : k < ps.length) : Part w B vs[k] ps[k] := h.2 k _ _ (List.getElem?_eq_getElem h1) (List.getElem?_eq_getElem h2)

theorem parts_ch {w : World} {B : Nat} {A : Option Addr} {ls : List (List UInt8)} (hR : RdS w B A ls) {sz : Nat} (hz : 0 < sz) : ∀ (f i : Nat), ls.length - i ≤ f → Parts w B (chV A sz ls.length i) (ch sz ls i)
  | f, i, hf => by
    by_cases h : i < ls.length
    · rw [chV_some h hz, ch_some h hz]
      cases f with
      | zero => omega
      | succ f =>
        refine parts_cons ⟨_, _, by rw [List.length_take, List.length_drop], by rw [List.length_take, List.length_drop]; exact Nat.le_refl _, ?_⟩ (parts_ch hR hz f (i + sz) (by omega))
        have h1 : Rd w B (A.map (·.add i)) ((ls.map strV).drop i) := by
          have := Rd.drop (k := i) (cap := ls.length) hR (by simp)
          rwa [if_neg (by omega)] at this
        have h2 := h1.take sz
        unfold RdS
        rw [List.map_take, List.map_drop]
        exact h2
    · rw [chV_none (by omega), ch_none (by omega)]; exact parts_nil _ _
theorem chV_one (A : Option Addr) (sz m : Nat) : ∀ (f i : Nat), m - i ≤ f → ∀ u ∈ chV A sz m i, u.oneCell' = true
  | f, i, hf, u, hu => by
    unfold chV at hu
    split at hu
    · rename_i h
      cases f with
      | zero => omega
      | succ f =>
        rcases List.mem_cons.1 hu with rfl | hu
        · rfl
        · exact chV_one A sz m f (i + sz) (by omega) u hu
    · cases hu
theorem chV_len (A : Option Addr) (sz m : Nat) : ∀ (f i : Nat), m - i ≤ f → (chV A sz m i).length ≤ m - i
  | f, i, hf => by
    unfold chV
    split
    · rename_i h
      cases f with
      | zero => omega
      | succ f => have := chV_len A sz m f (i + sz) (by omega); simp only [List.length_cons]; omega
    · simp

/-- What a round must keep: what lies below n₁, and two boxes. -/
def KpC (n₁ Bs : Nat) (t : TypeId) (Bn : Nat) (t' : TypeId) (W W' : World) : Prop := Below n₁ W W' ∧ (∀ v, Boxed W Bs t v → Boxed W' Bs t v) ∧ ∀ v, Boxed W Bn t' v → Boxed W' Bn t' v
theorem kpC_t {n₁ Bs Bn : Nat} {t t' : TypeId} {A B C : World} (h : KpC n₁ Bs t Bn t' A B) (k : KpC n₁ Bs t Bn t' B C) : KpC n₁ Bs t Bn t' A C := ⟨h.1.trans k.1, fun v hv => k.2.1 v (h.2.1 v hv), fun v hv => k.2.2 v (h.2.2 v hv)⟩
theorem kpC_r {n₁ Bs Bn : Nat} {t t' : TypeId} (W : World) : KpC n₁ Bs t Bn t' W W := ⟨Below.refl _ _, fun _ h => h, fun _ h => h⟩
theorem kpC_b {n₁ Bs Bn l : Nat} {t t' : TypeId} (hn : n₁ ≤ l) (hB : Bs ≠ l) (hB' : Bn ≠ l) (W : World) (o o' : Obj) (h : W.heap[l]? = some o) (_ : o.isCells = false) : KpC n₁ Bs t Bn t' W (W.putObj l o') :=
  ⟨(Below.refl n₁ W).grown (grownBy_putObj' W l o') (by have := (Array.getElem?_eq_some_iff.1 h).1; omega) (fun k e => by cases e; exact hn), fun v hv => hv.kept (grownBy_putObj' W l o') (by simpa using hB), fun v hv => hv.kept (grownBy_putObj' W l o') (by simpa using hB')⟩

theorem chunk_in (n : Nat) (A : Option Addr) (l c sz : Nat) (w : World) (hz : 1 ≤ sz) (hz' : sz ≤ 1000) :
    CallsIn Fence.wide n Try.prog 57 #[.slice A l c, .int .i64 (sz : Int)] w fun e w' => e = .returned (.func (.func 61) #[] #[.pointer (some ⟨w.heap.size, 0, none⟩), .pointer (some ⟨w.heap.size + 1, 0, none⟩)]) ∧ w' = (w.alloc (.cells #[.slice A l c] 22)).alloc (.cells #[.int .i64 (sz : Int)] 3) := by
  have h1 : ¬ (sz : Int) < 1 := by omega
  refine callsIn_of_wp Try.func57 rfl trivial ?_ rfl
  simp only [Try.ntmps57, List.size_toArray, List.length_cons, List.length_nil, Nat.reduceAdd, Nat.reduceSub, Array.replicate_succ, Array.replicate_zero, List.push_toArray, List.append_toArray, List.nil_append, List.cons_append]
  gi_wp2
  go_ret
  exact ⟨rfl, rfl⟩

set_option maxRecDepth 100000 in
set_option maxHeartbeats 1000000 in
theorem chunk1_in (n l Bs Bn n₁ cap m sz : Nat) (A : Option Addr) (ls : List (List UInt8)) (hm : ls.length = m) (hmc : m ≤ cap) (hle : m ≤ 1000) (hz : 1 ≤ sz) (hz' : sz ≤ 1000) (J Jx : List Value → World → Prop)
    (hY : ∀ pre x post W1, chV A sz m 0 = pre ++ x :: post → J pre W1 → YieldAt Fence.wide (n - 1) Try.prog l #[x] W1 fun e W' =>
      (e = .returned (.bool true) ∧ J (pre ++ [x]) W' ∧ KpC n₁ Bs 22 Bn 3 W1 W') ∨ (e = .returned (.bool false) ∧ Jx (pre ++ [x]) W'))
    (hJd : ∀ s W d, J s W → J s (W.drewN d)) (W : World) (hBs : Boxed W Bs 22 (.slice A m cap)) (hBn : Boxed W Bn 3 (.int .i64 (sz : Int))) (hR : RdS W n₁ A ls) (h0 : J [] W) :
    CallsIn Fence.wide n Try.prog 61 #[.func (.yield l) #[] #[], .pointer (some ⟨Bs, 0, none⟩), .pointer (some ⟨Bn, 0, none⟩)] W fun e W' => (∃ v, e = .returned v) ∧ (J (chV A sz m 0) W' ∨ ∃ pre post, chV A sz m 0 = pre ++ post ∧ Jx pre W') := by
  have HM := Lib.hid hm; clear hm
  refine callsIn_of_wp Try.func61 rfl trivial ?_ rfl
  simp only [Try.ntmps61, List.size_toArray, List.length_cons, List.length_nil, Nat.reduceAdd, Nat.reduceSub, Array.replicate_succ, Array.replicate_zero, List.push_toArray, List.append_toArray, List.nil_append, List.cons_append]
  gi_wp2
  gi_loopw [4] (fun i wr => ∃ k pre, k ≤ m + sz ∧ i = .int .i64 (k : Int) ∧ chV A sz m 0 = pre ++ chV A sz m k ∧ J pre wr ∧ Boxed wr Bs 22 (.slice A m cap) ∧ Boxed wr Bn 3 (.int .i64 (sz : Int)) ∧ RdS wr n₁ A ls) (fun i _ => m - (intOf i).toNat)
  case atStart => exact ⟨0, [], by omega, rfl, rfl, h0, hBs, hBn, hR⟩
  case round =>
    obtain ⟨k, pre, hk, rfl, hb, hJs, hBs', hBn', hR'⟩ := hrel
    have HB := Lib.hid hb; clear hb
    have hc := hBs'.cell
    have hcn := hBn'.cell
    by_cases hlt : k < m
    · obtain ⟨a, rfl, hab⟩ := hR'.at' (k := k) (by rw [HM.out]; exact hlt)
      clear hab
      have HB2 : Hid (chV (some a) sz m 0 = pre ++ .slice (some (a.add k)) (min sz (m - k)) (min sz (m - k)) :: chV (some a) sz m (k + sz)) := Lib.hid (by rw [HB.out, chV_some hlt (by omega)]; rfl)
      clear HB
      obtain ⟨e, he⟩ : ∃ e, min sz (m - k) = e := ⟨_, rfl⟩
      rw [he] at HB2
      have h1 : 1 ≤ e := by omega
      have h2 : k + e ≤ m := by omega
      have hcap : ¬ cap = k := by omega
      have hki : (k : Int) ≤ (m : Int) := by omega
      have HE := Lib.hid he; clear he
      by_cases hmin : (m : Int) - (k : Int) < (sz : Int)
      · gi_wp2
        refine wpIn_wide.2 ?_
        go_quiet (fail)
        rw [show m - k = e by have := HE.out; omega]
        clear hmin
        obtain ⟨fn, tmps, assign, body, hy, hRR⟩ := hY pre _ _ (wr.drewN nq) HB2.out (hJd _ _ _ hJs)
        gi_wp2
        refine ⟨(fun h => by cases h), ?_⟩
        refine hRR.mono ?_
        rintro e' W3 (⟨rfl, hJ3, hk3⟩ | ⟨rfl, hJx3⟩)
        · have hb3 := hk3.2.1 _ hBs'
          have hn3 := hk3.2.2 _ hBn'
          have hc3 := hb3.cell
          have hcn3 := hn3.cell
          gi_wp2
          go_roundw
          case rel => exact ⟨k + sz, _, by omega, by go_num, by rw [HB2.out, List.append_assoc]; rfl, hJ3, hb3, hn3, (Rd.drewN hR' nq).below hk3.1⟩
          case measure => simp [intOf]; omega
        · gi_wp2
          refine bodyPost_ret (results_none rfl _ _ _) rfl ?_
          exact ⟨⟨_, rfl⟩, .inr ⟨_, chV (some a) sz m (k + sz), by rw [HB2.out, List.append_assoc]; rfl, hJx3⟩⟩
      · gi_wp2
        refine wpIn_wide.2 ?_
        go_quiet (fail)
        obtain rfl : e = sz := by have := HE.out; omega
        clear hmin
        obtain ⟨fn, tmps, assign, body, hy, hRR⟩ := hY pre _ _ (wr.drewN nq) HB2.out (hJd _ _ _ hJs)
        gi_wp2
        refine ⟨(fun h => by cases h), ?_⟩
        refine hRR.mono ?_
        rintro e' W3 (⟨rfl, hJ3, hk3⟩ | ⟨rfl, hJx3⟩)
        · have hb3 := hk3.2.1 _ hBs'
          have hn3 := hk3.2.2 _ hBn'
          have hc3 := hb3.cell
          have hcn3 := hn3.cell
          gi_wp2
          go_roundw
          case rel => exact ⟨k + e, _, by omega, by go_num, by rw [HB2.out, List.append_assoc]; rfl, hJ3, hb3, hn3, (Rd.drewN hR' nq).below hk3.1⟩
          case measure => simp [intOf]; omega
        · gi_wp2
          refine bodyPost_ret (results_none rfl _ _ _) rfl ?_
          exact ⟨⟨_, rfl⟩, .inr ⟨_, chV (some a) e m (k + e), by rw [HB2.out, List.append_assoc]; rfl, hJx3⟩⟩
    · have hge : ¬ (k : Int) < (m : Int) := by omega
      gi_wp2
      go_end0
      exact ⟨⟨_, rfl⟩, .inl (by have := HB.out; rw [chV_none (i := k) (by omega), List.append_nil] at this; rw [this]; exact hJs)⟩

theorem drew_new (w : World) (d : Nat) : w.grownBy (w.drewN d) none := ⟨rfl, rfl, rfl, Nat.le_refl _, fun _ _ _ => rfl⟩

theorem chunk_gives (n Bs Bn n₁ cap m sz : Nat) (A : Option Addr) (ls : List (List UInt8)) (hm : ls.length = m) (hmc : m ≤ cap) (hle : m ≤ 1000) (hz : 1 ≤ sz) (hz' : sz ≤ 1000) (w : World) (hBs : Boxed w Bs 22 (.slice A m cap)) (hBn : Boxed w Bn 3 (.int .i64 (sz : Int))) (hn : n₁ ≤ w.heap.size) (hR : RdS w n₁ A ls) :
    Gives Try.prog Plain n 61 #[.pointer (some ⟨Bs, 0, none⟩), .pointer (some ⟨Bn, 0, none⟩)] (fun x : Value => #[x]) (chV A sz m 0) (KpC n₁ Bs 22 Bn 3) w := fun J Jx W hW _ hJ _ hY h0 =>
  chunk1_in n _ Bs Bn n₁ cap m sz A ls hm hmc hle hz hz' J Jx (fun pre x post W1 h1 h2 => yield_less (hY pre x post _ W1 h1 h2 rfl)) (fun s W d hs => hJ.new hs (drew_new W d)) W ((hW.block Bs hBs.lt).trans hBs) ((hW.block Bn hBn.lt).trans hBn) (hR.below (hW.mono hn)) h0

end Lc
end Go.Proofs.Ytkpgkbllcdpobaa
