/-
  What package code's Get returns (walk).
-/
import Derived.Test.YtjhjmfodpnipiaaGreatDoorCdRead
import Derived.Test.YtjhjmfodpnipiaaGreatDoorCdDoor
import Derived.Test.YtjhjmfodpnipiaaGreatDoorCdPut
import Derived.Test.YtjhjmfodpnipiaaGreatDoorGF
import Derived.Test.YtjhjmfodpnipiaaGreatDoorFlWords
set_option maxRecDepth 100000
namespace Go.Proofs.YtjhjmfodpnipiaaGreatDoor
open Go.RowKit Go.Shelf
set_option linter.unusedVariables false
set_option linter.unusedSimpArgs false
namespace Cd
open Tx Df Sq Hk Tr Pr Fl

/-- Where the lines of what is got lie: from lo on, but not in the list's own row. -/
def SG (lo : Nat) (W : World) (v : Value) : Nat → Prop := fun b => lo ≤ b ∧ b < W.heap.size ∧ some b ≠ v.ownBlock
/-- Changes in a row of one's own, all from lo on. -/
def GL (W : World) (lo : Nat) (v : Value) (l : List Ch) : Prop := OwnS W (SG lo W v) lo v l
theorem gl_nil (W : World) (lo : Nat) : GL W lo (.slice none 0 0) [] := ⟨[], World.ownsRow_nil _ _ _ _, PCells.nil _ _ _⟩
theorem GL.gr {W W' : World} {lo : Nat} {v : Value} {l : List Ch} {row : Option Nat} (h : GL W lo v l) (hg : W.grownBy W' row) (hr : ∀ b, row = some b → b < lo) : GL W' lo v l := by
  have hge := ownS_ge h
  obtain ⟨xs, h1, h2⟩ := h
  refine ⟨xs, h1.kept hg ?_, (h2.to (fun b hb hl => hg.block b hl (fun e => by have h3 := hr b e.symm; have h4 := hb.1; omega))).mono (fun b hb => ⟨hb.1, Nat.lt_of_lt_of_le hb.2.1 hg.size, hb.2.2⟩)⟩
  cases ho : v.ownBlock with
  | none => exact .inl rfl
  | some g =>
    refine .inr (fun e => ?_)
    have h3 := hr g e.symm
    have h4 := hge g ho
    omega
theorem run_ownG {W : World} {ty : TypeId} {lo m c : Nat} {v : Value} {A : Option Addr} {l u : List Ch} {ys : List Value} (h : GL W lo v l) (hu : PCells W (SG lo W v) u ys) (hyl : ys.length = u.length * 6) (hsrc : ∃ a, A = some a ∧ ∀ (j : Nat) x, ys[j]? = some x → W.cell? (a.add j) = some x)
    (hm : u.length = m) (h0 : 0 < m) (hn : l.length + m ≤ 100000) (hbase : lo ≤ W.heap.size) :
    ∃ g cap W', (Builtin.append_ #[24, 24] ty #[v, .slice A m c]).run Tryz.prog W = .ok (.slice (some ⟨g, 0, none⟩) (l.length + m) cap) W' ∧ GL W' lo (.slice (some ⟨g, 0, none⟩) (l.length + m) cap) (l ++ u) ∧ W.grownBy W' v.ownBlock := by
  obtain ⟨i0, hi0, hz0, hz1, hz2⟩ := info_parts info_prim
  obtain ⟨xs, hrow, hF⟩ := h
  have h1 := one6 hu hyl
  obtain ⟨a, rfl, hcell⟩ := hsrc
  obtain ⟨g, cap, W', hr, r1, r2, r3, r4⟩ := run_append_lies (P := Tryz.prog) (w := W) 24 ty lo 34 i0 _ 6 96 Tryz.underlying24 hi0 hz0 hz1 hz2 rfl (by decide) v l.length xs hrow a m c ys (by rw [hyl, hm]) hcell h1 (by omega) (by unfold maxLen; omega) (by omega) hbase W.heap.size rfl
  refine ⟨g, cap, W', hr, ⟨xs ++ ys, by rw [List.length_append, hm]; exact r1, ((hF.append hrow.1 hu).to (fun b hb hl => r2.block b hl hb.2.2)).mono (fun b hb => ⟨hb.1, Nat.lt_of_lt_of_le hb.2.1 r2.size, fun e => ?_⟩)⟩, r2⟩
  have e' : b = g := by injection e
  rcases r3 with r3 | r3
  · exact hb.2.2 (by rw [e']; exact r3.symm)
  · have := hb.2.1; omega
theorem wpList_ownG {W : World} {ops : Array Oper} {rest : List Oper} {o : Oper} {a : Act} {Q : Exit → Act → World → Prop} (hgd : o.guard = none) (s x : Operand)
    (ho : o.op = .call { callee := .builtin .append, args := #[s, x], argTypes := #[24, 24] })
    (lo m c : Nat) (v : Value) (A : Option Addr) (l u : List Ch) (ys : List Value) (hs : a.eval s = v) (hx : a.eval x = .slice A m c) (h : GL W lo v l) (hu : PCells W (SG lo W v) u ys) (hyl : ys.length = u.length * 6) (hsrc : ∃ a, A = some a ∧ ∀ (j : Nat) x, ys[j]? = some x → W.cell? (a.add j) = some x)
    (hm : u.length = m) (h0 : 0 < m) (hn : l.length + m ≤ 100000) (hbase : lo ≤ W.heap.size)
    (hK : ∀ g cap W', GL W' lo (.slice (some ⟨g, 0, none⟩) (l.length + m) cap) (l ++ u) → W.grownBy W' v.ownBlock → wpList Tryz.prog ops Q rest (a.put o.dst (.slice (some ⟨g, 0, none⟩) (l.length + m) cap)) W') : wpList Tryz.prog ops Q (o :: rest) a W := by
  refine wpList_plain hgd fun K hK' => ?_
  obtain ⟨g, cap, W', hrun, h2, h3⟩ := run_ownG (ty := o.type) (c := c) h hu hyl hsrc hm h0 hn hbase
  unfold Oper.wp execOp
  simp only [ho, resolve, invoke, builtin, Sem.run_bind, Sem.run_pure, Result.andThen_ok, List.map_toArray, List.map_cons, List.map_nil, hs, hx, hrun]
  exact hK' _ _ (hK g cap W' h2 h3)

/-- What stands while it is got. -/
structure GI (w : World) (N : Nat) (acc : List Ch) (v : Value) (r : List UInt8) (W : World) : Prop where
  bl : Blk W N 24 #[v]
  be : Blk W (N + 1) 25 #[.int .i64 0]
  rs : Rest W N (N + 2) r
  gl : GL W (N + 3) v acc
  vn : VN N W
  bw : Below N w W
  nw : w.heap.size = N
  hl : ∃ A n c, v = .slice A n c ∧ acc.length = n ∧ n ≤ c
section
variable {w W W' : World} {N : Nat} {acc : List Ch} {v : Value} {r r' : List UInt8}
theorem GI.sz (h : GI w N acc v r W) : N + 3 ≤ W.heap.size := h.rs.ex.elim fun A h => h.elim fun c h => h.1.lt
theorem GI.below (h : GI w N acc v r W) (hb : Below W.heap.size W W') : GI w N acc v r W' :=
  ⟨h.bl.below hb h.bl.lt, h.be.below hb h.be.lt, h.rs.below hb, h.gl.gr (below_gr_row hb) (fun b e => by cases e), h.vn.to (hb.mono (by have := h.sz; omega)), h.bw.trans (hb.mono (by have := h.sz; omega)), h.nw, h.hl⟩
theorem GI.read (h : GI w N acc v r W) (hr : Rest W' N (N + 2) r') (hg : Gr (N + 2) W W') : GI w N acc v r' W' :=
  ⟨hg.blk h.bl (by omega), hg.blk h.be (by omega), hr, h.gl.gr hg (fun b e => by injection e with e; omega), h.vn.to (hg.below (by omega) (by have := h.sz; omega)), h.bw.trans (hg.below (by omega) (by have := h.sz; omega)), h.nw, h.hl⟩
end

/-- How Get ends. -/
def GetEnd (w : World) (o : Option (List Ch)) (e : Ending) (w' : World) : Prop :=
  match o with
  | some l => ∃ A n c, e = .returned (.tuple #[.slice A n c, .int .i64 0]) ∧ l.length = n ∧ n ≤ c ∧ RdP w' (· < w'.heap.size) A l ∧ Below w.heap.size w w'
  | none => e = .returned (.tuple #[.slice none 0 0, .int .i64 2]) ∧ Below w.heap.size w w'

/-- What is deferred. -/
abbrev dfr (N : Nat) : Deferred := { target := Target.fn (Fn.func 11) #[.pointer (some ⟨N, 0, none⟩), .pointer (some ⟨N + 1, 0, none⟩)], args := #[] }
set_option maxHeartbeats 1000000 in
theorem door_bad {w W : World} {N : Nat} {v x : Value} {tmps : Array Value} (bl : Blk W N 24 #[v]) (be : Blk W (N + 1) 25 #[x]) (bw : Below N w W) (nw : w.heap.size = N)
    (h2 : tmps[2]? = some (.pointer (some ⟨N, 0, none⟩))) (h3 : tmps[3]? = some (.pointer (some ⟨N + 1, 0, none⟩))) :
    bodyPostD Tryz.prog Tryz.f5 (GetEnd w none) (Exit.panic bad) { tmps := tmps, defers := [dfr N] } W := by
  refine leaves_cons (f := 11) (args := #[.pointer (some ⟨N, 0, none⟩), .pointer (some ⟨N + 1, 0, none⟩)]) (by simp) (by simp [go_sem]) ?_
  refine (catch_bad N (N + 1) v x W bl be (by omega)).mono ?_
  rintro e u' w2 ⟨rfl, rfl, bL, bE, w1, g1, g2⟩
  have hb : Below w.heap.size w w2 := by
    rw [nw]
    have s1 : N ≤ W.heap.size := Nat.le_of_lt bl.lt
    exact (bw.grown g1 s1 (fun k e => by injection e with e; omega)).grown g2 (Nat.le_trans s1 g1.size) (fun k e => by injection e with e; omega)
  have q0 : w2.cell? ⟨N, 0, none⟩ = some (.slice none 0 0) := bL.cell 0 rfl
  have q1 : w2.cell? ⟨N + 1, 0, none⟩ = some (.int .i64 2) := bE.cell 0 rfl
  simp [Leaves, settle, results, Tryz.results5, go_sem, h2, h3, q0, q1]
  exact ⟨rfl, hb⟩
set_option maxHeartbeats 1000000 in
theorem door_ok {w W : World} {N : Nat} {A : Option Addr} {n c : Nat} {l : List Ch} {tmps : Array Value} (bl : Blk W N 24 #[.slice A n c]) (be : Blk W (N + 1) 25 #[.int .i64 0]) (bw : Below w.heap.size w W) (hn : l.length = n) (hc : n ≤ c) (hr : RdP W (· < W.heap.size) A l)
    (h2 : tmps[2]? = some (.pointer (some ⟨N, 0, none⟩))) (h3 : tmps[3]? = some (.pointer (some ⟨N + 1, 0, none⟩))) :
    bodyPostD Tryz.prog Tryz.f5 (GetEnd w (some l)) Exit.ret { tmps := tmps, defers := [dfr N] } W := by
  refine leaves_cons (f := 11) (args := #[.pointer (some ⟨N, 0, none⟩), .pointer (some ⟨N + 1, 0, none⟩)]) (by simp) (by simp [go_sem]) ?_
  refine (catch_idle N (N + 1) W).mono ?_
  rintro e u' w2 ⟨rfl, rfl, rfl⟩
  have q0 : w2.cell? ⟨N, 0, none⟩ = some (.slice A n c) := bl.cell 0 rfl
  have q1 : w2.cell? ⟨N + 1, 0, none⟩ = some (.int .i64 0) := be.cell 0 rfl
  simp [Leaves, settle, results, Tryz.results5, go_sem, h2, h3, q0, q1]
  exact ⟨A, n, c, rfl, hn, hc, hr, bw⟩

/-! What stands at the head of the loop. -/
section
variable {w W W' : World} {N : Nat} {acc : List Ch} {v : Value} {r r' : List UInt8}
theorem GI.bad (h : GI w N acc v r W) (hg : Gr (N + 2) W W') : Blk W' N 24 #[v] ∧ Blk W' (N + 1) 25 #[.int .i64 0] ∧ Below N w W' :=
  ⟨hg.blk h.bl (by omega), hg.blk h.be (by omega), h.bw.trans (hg.below (by omega) (by have := h.sz; omega))⟩
/-- How long what is left is. -/
def restN (W : World) (N : Nat) : Nat := match W.cell? ⟨N + 2, 0, none⟩ with | some (.slice _ n _) => n | _ => 0
theorem GI.restN (h : GI w N acc v r W) : restN W N = r.length := by
  obtain ⟨A, c, hb, _, _⟩ := h.rs.ex
  have e : W.cell? ⟨N + 2, 0, none⟩ = some (.slice A r.length c) := hb.cell 0 rfl
  unfold Cd.restN
  rw [e]
structure GRel (w : World) (N : Nat) (o : Option (List Ch)) (x i : Value) (W : World) : Prop where
  ex : ∃ acc v s r b, x = strV s ∧ i = .bool b ∧ GI w N acc v r W ∧ acc.length ≤ 200 ∧ s.length ≤ 200000 ∧
    (b = true → ∃ b0, b0 ≠ [] ∧ cutLine b0 = some (s, r) ∧ o = (listC acc.length b0).map (acc ++ ·)) ∧ (b = false → r = [] ∧ o = some acc)
/-- A change behind what is got. -/
theorem GI.app {v' : Value} {p : Ch} {W2 : World} (h : GI w N acc v r W) (hl : acc.length + 1 ≤ 200) (hg : W.grownBy W2 v.ownBlock) (ho : GL W2 (N + 3) v' (acc ++ [p])) (Q : Value) (hQ : Q = v') : GI w N (acc ++ [p]) v' r (W2.setCell ⟨N, 0, none⟩ Q) := by
  subst hQ
  have hge := ownS_ge h.gl
  have hs := h.sz
  have hs2 := hg.size
  have hset := grownBy_set W2 N 0 Q
  have hb1 : Below N W W2 := (Below.refl N W).grown hg (by omega) (fun b e => by have := hge b e; omega)
  have hb2 : Below N W (W2.setCell ⟨N, 0, none⟩ Q) := hb1.grown hset (by omega) (fun b e => by injection e with e; omega)
  have nb : ∀ k, k < N + 3 → some k ≠ v.ownBlock := fun k hk e => by have := hge k e.symm; omega
  obtain ⟨A, c, e, hc⟩ := ownS_slice ho
  refine ⟨(h.bl.gr hg (nb _ (by omega))).set 0 Q, (h.be.gr hg (nb _ (by omega))).gr hset (fun e => by injection e with e; omega), (h.rs.gr hg (nb _ (by omega)) (fun b e => by have := hge b e; omega)).gr hset (fun e => by injection e with e; omega) (fun b e => by injection e with e; omega), ho.gr hset (fun b e => by injection e with e; omega), h.vn.to hb2, h.bw.trans hb2, h.nw, _, _, _, e, rfl, hc⟩
end

end Cd
end Go.Proofs.YtjhjmfodpnipiaaGreatDoor
