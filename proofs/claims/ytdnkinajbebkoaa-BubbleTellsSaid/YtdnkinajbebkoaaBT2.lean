/-
  Words and contracts, joined: TgRow PnLeaf FlSteps SwRef PsRef PsCode FlRef2 FlLeaf PnSame.
-/
import Derived.Laws.StructEq
import Derived.BigQuiet
import Derived.Deep.Cut
import Derived.Deep.RegionHeld3
import Derived.WalkMore
import Derived.Test.YtdnkinajbebkoaaBT1
set_option maxRecDepth 100000
namespace Go.Proofs.Ytdnkinajbebkoaa
open Go.ChangeShapes Go.WideShapes Go.ChangeAt Go.RowKit
set_option linter.unusedVariables false
namespace Tg
open Tx Df Sq Hk Tr Pr Fl Pn

/-- Patches that can be read: what they hold lies in blocks that S names. -/
def Src (W : World) (S : Nat → Prop) (A : Option Addr) (u : List Nm) : Prop :=
  ∃ ys : List Value, ys.length = u.length * 5 ∧ NCellsS W S u ys ∧ (ys = [] ∨ ∃ a, A = some a ∧ a.block < W.heap.size ∧ ∀ (j : Nat) x, ys[j]? = some x → W.cell? (a.add j) = some x)
section
variable {W W' : World} {S T : Nat → Prop} {B base : Nat} {A : Option Addr} {v : Value} {l u : List Nm} {xs ys : List Value}
theorem Src.mono (h : Src W S A u) (hs : ∀ b, S b → T b) : Src W T A u := by
  obtain ⟨ys, h1, h2, h3⟩ := h
  exact ⟨ys, h1, h2.mono hs, h3⟩
theorem Src.below (h : Src W S A u) (hb : Below W.heap.size W W') : Src W' S A u := by
  obtain ⟨ys, h1, h2, h3⟩ := h
  refine ⟨ys, h1, h2.to (fun b _ hl => hb.block b hl), h3.imp id fun ⟨a, e, hl, hc⟩ => ⟨a, e, Nat.lt_of_lt_of_le hl hb.size, fun j x hx => ?_⟩⟩
  exact (hb.cell (by rw [add_block]; exact hl)).trans (hc j x hx)
theorem own_src {A : Option Addr} {n c : Nat} (h : OwnT W S base (.slice A n c) u) : Src W S A u := by
  obtain ⟨xs, hr, hF⟩ := h
  refine ⟨xs, hr.1, hF, ?_⟩
  rcases hr.2 with ⟨e, h1⟩ | ⟨g, cap, cur, e, hbg, hg, hc, _⟩
  · exact .inl (List.eq_nil_of_length_eq_zero (by rw [hr.1, h1]))
  · injection e with e1 e2 e3
    subst e1 e2 e3
    refine .inr ⟨_, rfl, (Array.getElem?_eq_some_iff.1 hg).1, fun j x hx => ?_⟩
    have hj : j < u.length * 5 := by rw [← hr.1]; exact (List.getElem?_eq_some_iff.1 hx).1
    have e : (⟨g, 0, none⟩ : Addr).add j = ⟨g, j, none⟩ := by unfold Addr.add; split <;> simp_all
    rw [e, hr.cellAt j hj]
    exact hx
theorem NCellsS.nil (W : World) (S : Nat → Prop) (xs : List Value) : NCellsS W S [] xs := fun k x hx => by simp at hx
theorem NCellsS.one {D A : Option Addr} {dn dc n c : Nat} {x : Nm} (h : NG W S D dn dc A n c x) : NCellsS W S [x] [.int .i64 x.id.1, .int .i64 x.id.2, .slice D dn dc, strV x.txt, .slice A n c] := fun k y hy => by
  cases k with
  | zero => cases hy; exact ⟨D, dn, dc, A, n, c, rfl, rfl, rfl, rfl, rfl, h⟩
  | succ k => simp at hy
theorem NCellsS.append (h : NCellsS W S l xs) (hl : xs.length = l.length * 5) (h' : NCellsS W S u ys) : NCellsS W S (l ++ u) (xs ++ ys) := fun k x hx => by
  by_cases hk : k < l.length
  · rw [List.getElem?_append_left hk] at hx
    obtain ⟨D, dn, dc, A, n, c, h0, h1, h2, h3, h4, h5⟩ := h k x hx
    exact ⟨D, dn, dc, A, n, c, by rw [List.getElem?_append_left (by omega)]; exact h0, by rw [List.getElem?_append_left (by omega)]; exact h1, by rw [List.getElem?_append_left (by omega)]; exact h2, by rw [List.getElem?_append_left (by omega)]; exact h3, by rw [List.getElem?_append_left (by omega)]; exact h4, h5⟩
  · rw [List.getElem?_append_right (by omega)] at hx
    obtain ⟨D, dn, dc, A, n, c, h0, h1, h2, h3, h4, h5⟩ := h' _ x hx
    have e : ∀ j, k * 5 + j - xs.length = (k - l.length) * 5 + j := fun j => by omega
    refine ⟨D, dn, dc, A, n, c, ?_, ?_, ?_, ?_, ?_, h5⟩
    · rw [List.getElem?_append_right (by omega), show k * 5 - xs.length = (k - l.length) * 5 by omega]; exact h0
    · rw [List.getElem?_append_right (by omega), e]; exact h1
    · rw [List.getElem?_append_right (by omega), e]; exact h2
    · rw [List.getElem?_append_right (by omega), e]; exact h3
    · rw [List.getElem?_append_right (by omega), e]; exact h4
theorem one_src {b : Nat} {x : Nm} {D A : Option Addr} {dn dc n c : Nat} (h : Blk W b 45 (nmC x D dn dc A n c)) (hx : NG W S D dn dc A n c x) : Src W S (some ⟨b, 0, none⟩) [x] :=
  ⟨_, rfl, NCellsS.one hx, .inr ⟨_, rfl, h.lt, fun j u hu => by
    have e : ∀ k, (⟨b, 0, none⟩ : Addr).add k = ⟨b, k, none⟩ := fun k => by unfold Addr.add; split <;> simp_all
    rw [e]
    match j, hu with
    | 0, hu => exact h.cell 0 hu
    | 1, hu => exact h.cell 1 hu
    | 2, hu => exact h.cell 2 hu
    | 3, hu => exact h.cell 3 hu
    | 4, hu => exact h.cell 4 hu
    | j + 5, hu => simp at hu⟩⟩
/-- A slice of one patch that is made. -/
theorem ownT_lit (W : World) {D A : Option Addr} {dn dc n c : Nat} {x : Nm} (h : NG (W.alloc (.cells (nmC x D dn dc A n c) 45)) S D dn dc A n c x) : OwnT (W.alloc (.cells (nmC x D dn dc A n c) 45)) S W.heap.size (.slice (some ⟨W.heap.size, 0, none⟩) 1 1) [x] :=
  ⟨_, World.ownsRow_lit (base := W.heap.size) (e := 45) (size := 5) W (nmC x D dn dc A n c) 1 (Nat.le_refl _) (by decide) rfl, NCellsS.one h⟩
/-- Another row grows: what is held apart from it stays. -/
theorem OwnT.other {row : Option Nat} (h : OwnT W S base v l) (hg : W.grownBy W' row) (hv : v.ownBlock = none ∨ v.ownBlock ≠ row) (hS : ∀ b, S b → some b ≠ row) : OwnT W' S base v l := by
  obtain ⟨xs, h1, h2⟩ := h
  exact ⟨xs, h1.kept hg hv, h2.to ((alike_gr hg).mono hS)⟩
theorem NG.gr {row : Option Nat} {D A : Option Addr} {dn dc n c : Nat} {x : Nm} (h : NG W S D dn dc A n c x) (hg : W.grownBy W' row) (hS : ∀ b, S b → some b ≠ row) : NG W' S D dn dc A n c x := h.to_ ((alike_gr hg).mono hS)
theorem Src.gr {row : Option Nat} (h : Src W S A u) (hg : W.grownBy W' row) (hA : ∀ a, A = some a → some a.block ≠ row) (hS : ∀ b, S b → some b ≠ row) : Src W' S A u := by
  obtain ⟨ys, h1, h2, h3⟩ := h
  refine ⟨ys, h1, h2.to ((alike_gr hg).mono hS), h3.imp id fun ⟨a, e, hl, hc⟩ => ⟨a, e, Nat.lt_of_lt_of_le hl hg.size, fun j x hx => ?_⟩⟩
  have hb := hg.block a.block hl (hA a e)
  have hcj := hc j x hx
  unfold World.cell? at hcj ⊢
  rw [add_block] at hcj ⊢
  rw [hb]
  exact hcj
theorem run_ownT {ty : TypeId} {m c : Nat} (h : OwnT W S base v l) (hu : Src W S A u) (hm : u.length = m) (hn : l.length + m ≤ 100000) (hS : ∀ b, S b → b < W.heap.size ∧ some b ≠ v.ownBlock) (hbase : base ≤ W.heap.size) :
    ∃ v' W', (Builtin.append_ #[22, 22] ty #[v, .slice A m c]).run Try.prog W = .ok v' W' ∧ OwnT W' S base v' (l ++ u) ∧ W.grownBy W' v.ownBlock ∧ ∀ b, v'.ownBlock = some b → v.ownBlock = some b ∨ W.heap.size ≤ b := by
  obtain ⟨i0, hi0, hz0, hz1, hz2⟩ := info_parts info_named
  obtain ⟨ys, hyl, hU, hsrc⟩ := hu
  have h0 := h
  obtain ⟨xs, hrow, hF⟩ := h
  have h1 := one5 (hU.mono fun b hb => (hS b hb).1).cells hyl
  by_cases hm0 : m = 0
  · have hu0 : u = [] := List.eq_nil_of_length_eq_zero (by omega)
    subst hu0
    obtain ⟨A0, c0, rfl, hc0⟩ := ownT_slice h0
    subst hm0
    exact ⟨_, W, run_append_none Try.underlying22 hi0 hc0, by rw [List.append_nil]; exact ⟨xs, hrow, hF⟩, ⟨rfl, rfl, rfl, Nat.le_refl _, fun _ _ _ => rfl⟩, fun b h => .inl h⟩
  · obtain ⟨a, rfl, _, hcell⟩ : ∃ a, A = some a ∧ a.block < W.heap.size ∧ ∀ (j : Nat) x, ys[j]? = some x → W.cell? (a.add j) = some x := by
      rcases hsrc with hy | h
      · rw [hy] at hyl; simp at hyl; omega
      · exact h
    obtain ⟨g, cap, W', hr, r1, r2, r3, r4⟩ := run_append_lies (P := Try.prog) (w := W) 22 ty base 45 i0 _ 5 80 Try.underlying22 hi0 hz0 hz1 hz2 rfl (by decide) v l.length xs hrow a m c ys (by rw [hyl, hm]) hcell h1 (by omega) (by unfold maxLen; omega) (by omega) hbase W.heap.size rfl
    exact ⟨_, W', hr, ⟨xs ++ ys, by rw [List.length_append, hm]; exact r1, (hF.append hrow.1 hU).to ((alike_gr r2).mono fun b hb => (hS b hb).2)⟩, r2, fun b h => by
      injection h with h
      subst h
      exact r3.imp id fun e => Nat.le_of_eq e.symm⟩
theorem wpList_ownT {ops : Array Oper} {rest : List Oper} {o : Oper} {a : Act} {Q : Exit → Act → World → Prop} (hgd : o.guard = none) (s x : Operand)
    (ho : o.op = .call { callee := .builtin .append, args := #[s, x], argTypes := #[22, 22] })
    (S : Nat → Prop) (base m c : Nat) (v : Value) (A : Option Addr) (l u : List Nm) (hs : a.eval s = v) (hx : a.eval x = .slice A m c) (h : OwnT W S base v l) (hu : Src W S A u)
    (hm : u.length = m) (hn : l.length + m ≤ 100000) (hS : ∀ b, S b → b < W.heap.size ∧ some b ≠ v.ownBlock) (hbase : base ≤ W.heap.size)
    (hK : ∀ v' W', OwnT W' S base v' (l ++ u) → W.grownBy W' v.ownBlock → (∀ b, v'.ownBlock = some b → v.ownBlock = some b ∨ W.heap.size ≤ b) → wpList Try.prog ops Q rest (a.put o.dst v') W') : wpList Try.prog ops Q (o :: rest) a W := by
  refine wpList_plain hgd fun K hK' => ?_
  obtain ⟨v', W', hrun, h2, h3, h4⟩ := run_ownT (ty := o.type) (c := c) h hu hm hn hS hbase
  unfold Oper.wp execOp
  simp only [ho, resolve, invoke, builtin, Sem.run_bind, Sem.run_pure, Result.andThen_ok, List.map_toArray, List.map_cons, List.map_nil, hs, hx, hrun]
  exact hK' _ _ (hK v' W' h2 h3 h4)
/-- The same as a step of a drawn region. -/
theorem step_ownT {m c : Nat} {ops : Array Oper} {o : Oper} {a : Act} {K : Act → World → Prop} {Q : Exit → Act → World → Prop} {E : Prop} (hgd : o.guard = none) (s x : Operand)
    (ho : o.op = .call { callee := .builtin .append, args := #[s, x], argTypes := #[22, 22] }) (hs : a.eval s = v) (hx : a.eval x = .slice A m c)
    (h : OwnT W S base v l) (hu : Src W S A u) (hm : u.length = m) (hn : l.length + m ≤ 100000) (hS : ∀ b, S b → b < W.heap.size ∧ some b ≠ v.ownBlock) (hbase : base ≤ W.heap.size)
    (hK : ∀ v' W', OwnT W' S base v' (l ++ u) → W.grownBy W' v.ownBlock → (∀ b, v'.ownBlock = some b → v.ownBlock = some b ∨ W.heap.size ≤ b) → K (a.put o.dst v') W') : if Region.wanted o (yielded ops a.tmps) = true then Oper.wp Try.prog o a W K Q else E := by
  have hw : Region.wanted o (yielded ops a.tmps) = true := by simp [Region.wanted, hgd]
  rw [if_pos hw]
  obtain ⟨v', W', hrun, h4, h5, h6⟩ := run_ownT (ty := o.type) (c := c) h hu hm hn hS hbase
  unfold Oper.wp execOp
  simp only [ho, resolve, invoke, builtin, Sem.run_bind, Sem.run_pure, Result.andThen_ok, List.map_toArray, List.map_cons, List.map_nil, hs, hx, hrun]
  exact hK v' W' h4 h5 h6
end

end Tg
end Go.Proofs.Ytdnkinajbebkoaa

set_option maxRecDepth 100000
namespace Go.Proofs.Ytdnkinajbebkoaa
open Go.RowKit
set_option linter.unusedVariables false
set_option linter.unusedSimpArgs false
namespace Pn
open Tx Df Sq Hk Tr Pr Fl

/-- Whether two ids are the same. -/
theorem eq_id (a b c d : Int) (w : World) : (Op.equalIn 10000 42 (.agg #[.int .i64 a, .int .i64 b]) (.agg #[.int .i64 c, .int .i64 d])).run Try.prog w = .ok (decide ((a, b) = (c, d))) w := by
  rw [show (10000 : Nat) = 9999 + 1 from rfl]
  go_simp
  by_cases h1 : a = c <;> by_cases h2 : b = d <;> simp [h1, h2]
/-- Is a patch light? -/
def lightN (p : Nm) (most : Nat) : Bool := fewP p.l most && (decide (p.deps.length ≤ 100) && decide (p.txt.length ≤ 200))
def fewN (l : List Nm) (most : Nat) : Bool := decide (l.length ≤ most) && l.all (lightN · 10)
theorem fewN_no {l : List Nm} {x : Nm} {k most : Nat} (hx : l[k]? = some x) (h : lightN x 10 = false) : fewN l most = false := by
  have : l.all (lightN · 10) = false := by
    rw [List.all_eq_false]
    exact ⟨x, List.mem_of_getElem? hx, by rw [h]; decide⟩
  unfold fewN
  rw [this, Bool.and_false]

theorem fewN_len {l : List Nm} {most : Nat} (h : fewN l most = true) : l.length ≤ most := by
  unfold fewN at h
  simp only [Bool.and_eq_true, decide_eq_true_eq] at h
  exact h.1
theorem fewN_all {l : List Nm} {most : Nat} (h : fewN l most = true) : ∀ x ∈ l, lightN x 10 = true := by
  unfold fewN at h
  rw [Bool.and_eq_true, List.all_eq_true] at h
  exact h.2
theorem okP_light {x : Ch} (h : okP x = true) : lightP x = true := by
  unfold okP at h
  rw [Bool.and_eq_true] at h
  exact h.1
set_option maxHeartbeats 2000000 in
theorem LightN (D : Option Addr) (dn dc : Nat) (A : Option Addr) (n c most : Nat) (p : Nm) (w : World) (b : Bool) (hm : most ≤ 1000) (hv : NV w w.heap.size D dn dc A n c p) (hb : lightN p most = b) :
    Calls Try.prog 27 #[nmV p.id D dn dc p.txt A n c, .int .i64 (most : Int)] w (BoolEnd w b) := by
  obtain ⟨id, ds, t, l⟩ := p
  have HV := Lib.hid hv; have HB := Lib.hid hb.symm
  have HBX := Lib.hid (Blk.new w 45 #[.int .i64 id.1, .int .i64 id.2, .slice D dn dc, strV t, .slice A n c])
  have hba : Below w.heap.size w (w.alloc (.cells #[.int .i64 id.1, .int .i64 id.2, .slice D dn dc, strV t, .slice A n c] 45)) := (Below.refl _ _).alloc (Nat.le_refl _) _
  have HBA := Lib.hid hba
  have HTL := Lib.hid (size_strV t)
  clear hv hb hba
  dsimp only
  go_enter Try.func27, Try.ntmps27
  go_wp2_with fail
  obtain ⟨bl, hbl⟩ : ∃ b, fewP l most = b := ⟨_, rfl⟩
  have hv := HV.out.mv HBA.out
  refine (Fl.Few A n c most l _ bl hm ⟨hv.l, hv.k, hv.m, hv.r⟩ hbl).mono ?_
  rintro e w2 ⟨rfl, hb2⟩
  have HBL := Lib.hid hbl
  have hbw := below_mv HBA.out hb2
  have HBW := Lib.hid hbw
  have b2 := HBX.out.below hb2 HBX.out.lt
  have x1 := b2.cell 2 rfl
  have x2 := b2.cell 3 rfl
  have HDL := Lib.hid hv.dl
  clear hbl hv hb2 hbw b2
  cases bl with
  | false =>
    go_wp2
    go_ret
    exact ⟨ret_bool (by rw [HB.out]; unfold lightN; rw [HBL.out]; rfl), HBW.out⟩
  | true =>
    go_wp2
    all_goals go_ret
    all_goals refine ⟨ret_bool ?_, HBW.out⟩
    all_goals rw [HB.out]; unfold lightN; rw [HBL.out]; dsimp only at HDL ⊢; rw [HDL.out]
    all_goals rw [Bool.true_and, Bool.eq_iff_iff]
    all_goals simp only [Bool.and_eq_true, decide_eq_true_eq, Bool.false_eq_true]
    all_goals constructor <;> intro hz
    all_goals first | omega | exact hz.elim | (exfalso; omega)

set_option maxHeartbeats 2000000 in
theorem FewN (A : Option Addr) (n c most : Nat) (l : List Nm) (w : World) (b : Bool) (hm : most ≤ 1000) (h : NmsArg w A n c l) (hb : fewN l most = b) :
    Calls Try.prog 11 #[.slice A n c, .int .i64 (most : Int)] w (BoolEnd w b) := by
  have HR := Lib.hid h.rd; have HN := Lib.hid h.len
  have HB := Lib.hid hb.symm
  have hle := h.le
  clear h hb
  unfold maxLen at hle
  go_enter Try.func11, Try.ntmps11
  by_cases h0 : (most : Int) < (n : Int)
  · go_wp2
    go_ret
    exact ⟨ret_bool (by rw [HB.out]; unfold fewN; rw [HN.out, decide_eq_false (by omega)]; rfl), Below.refl _ _⟩
  · go_wp2
    go_loopw [5] (fun i wr => ∃ k : Nat, k ≤ n ∧ i = .int .i64 (k : Int) ∧ (l.take k).all (lightN · 10) = true ∧ Below w.heap.size w wr) (fun i _ => n - (intOf i).toNat)
    case atStart => exact ⟨0, Nat.zero_le _, rfl, rfl, Below.refl _ _⟩
    case round =>
      obtain ⟨k, hk, rfl, hall, hbw⟩ := hrel
      have HBW := Lib.hid hbw; have HAL := Lib.hid hall; clear hbw hall
      by_cases hlt : k < n
      · have hki : (k : Int) < (n : Int) := by omega
        obtain ⟨a, x, D, i, j, E, m, d, rfl, hS, hx, c0, c1, c2, c3, c4, c5⟩ := ((HR.out.mv HBW.out).elem (k := k) (by rw [HN.out]; exact hlt))
        have HX := Lib.hid hx; have HP := Lib.hid c5; clear hx c5 hS
        go_wp2_with fail
        obtain ⟨bl, hbl⟩ : ∃ b, lightN x 10 = b := ⟨_, rfl⟩
        refine (LightN D i j E m d 10 x _ bl (by decide) HP.out hbl).mono ?_
        rintro e w2 ⟨rfl, hb2⟩
        have HBL := Lib.hid hbl; clear hbl
        have hbw2 := below_mv HBW.out hb2
        have HBW2 := Lib.hid hbw2; clear hbw2 c0 c1 c2 c3 c4 hb2
        cases bl with
        | false =>
          go_wp2
          go_ret
          exact ⟨ret_bool (by rw [HB.out, fewN_no HX.out HBL.out]), HBW2.out⟩
        | true =>
          go_wp2_with fail
          refine ⟨⟨k + 1, by omega, by go_num, ?_, HBW2.out⟩, by simp [intOf]; omega⟩
          rw [take_at HX.out, List.all_append, HAL.out]
          simp [HBL.out]
      · go_wp2
        go_ret
        refine ⟨ret_bool ?_, HBW.out⟩
        have ek : l.take k = l := List.take_of_length_le (by rw [HN.out]; omega)
        have hall := HAL.out
        rw [ek] at hall
        rw [HB.out]
        unfold fewN
        rw [hall, HN.out, decide_eq_true (by omega)]
        rfl

attribute [local go_sem] eq_id
end Pn
end Go.Proofs.Ytdnkinajbebkoaa

set_option maxRecDepth 100000
namespace Go.Proofs.Ytdnkinajbebkoaa
open Go.RowKit
set_option linter.unusedVariables false
namespace Fl
open Tx Df Sq Hk Tr Pr

section
variable {α : Type} (P : α → α → Option (α × α))
theorem one_none_app {a b : List α} {q : α} (h : one P b q = none) : one P (a ++ b) q = none := by rw [one_app, h]; rfl
theorem one_step {l post : List α} {k : Nat} {p q q1 x y : α} (hx : l[k]? = some p) (h : one P (l.drop (k + 1)) q = some (q1, post)) (h1 : P p q1 = some (x, y)) : one P (l.drop k) q = some (x, y :: post) := by
  rw [drop_at hx]; exact one_cons P h h1
theorem one_step_none {l post : List α} {k : Nat} {p q q1 : α} (hx : l[k]? = some p) (h : one P (l.drop (k + 1)) q = some (q1, post)) (h1 : P p q1 = none) : one P l q = none := by
  have h2 : one P (l.drop k) q = none := by rw [drop_at hx, one, h, Option.bind_some, h1]; rfl
  rw [← List.take_append_drop k l]
  exact one_none_app P h2
theorem passL_step {a b x cur a1 : List α} {k : Nat} {q q1 : α} (h : passL P a (b.take k) = some (x, cur)) (hx : b[k]? = some q) (h1 : one P cur q = some (q1, a1)) : passL P a (b.take (k + 1)) = some (x ++ [q1], a1) := by
  rw [take_at hx, passL_app2, h, Option.bind_some, passL_cons P h1 (passL_nil P a1)]; rfl
theorem passL_step_none {a b x cur : List α} {k : Nat} {q : α} (h : passL P a (b.take k) = some (x, cur)) (hx : b[k]? = some q) (h1 : one P cur q = none) : passL P a b = none := by
  rw [← List.take_append_drop k b, passL_app2, h, Option.bind_some, drop_at hx, passL, h1]; rfl
theorem one_all {Q : α → Prop} (hP : ∀ {p q x y}, P p q = some (x, y) → Q p → Q q → Q x ∧ Q y) : ∀ {a : List α} {q x : α} {y : List α}, one P a q = some (x, y) → (∀ z ∈ a, Q z) → Q q → Q x ∧ ∀ z ∈ y, Q z
  | [], q, x, y, h, ha, hq => by
    injection h with h
    injection h with h1 h2
    subst h1 h2
    exact ⟨hq, ha⟩
  | p :: a, q, x, y, h, ha, hq => by
    obtain ⟨q1, a1, z, h1, h2, rfl⟩ := one_cons_inv P h
    obtain ⟨i1, i2⟩ := one_all hP h1 (fun z hz => ha z (.tail _ hz)) hq
    obtain ⟨j1, j2⟩ := hP h2 (ha p (.head _)) i1
    exact ⟨j1, fun u hu => by
      cases hu with
      | head => exact j2
      | tail _ h => exact i2 u h⟩
theorem passL_all {Q : α → Prop} (hP : ∀ {p q x y}, P p q = some (x, y) → Q p → Q q → Q x ∧ Q y) : ∀ {b a x y : List α}, passL P a b = some (x, y) → (∀ z ∈ a, Q z) → (∀ z ∈ b, Q z) → (∀ z ∈ x, Q z) ∧ ∀ z ∈ y, Q z
  | [], a, x, y, h, ha, hb => by
    rw [passL_nil] at h
    injection h with h
    injection h with h1 h2
    subst h1 h2
    exact ⟨hb, ha⟩
  | q :: b, a, x, y, h, ha, hb => by
    obtain ⟨q1, a1, b1, h1, h2, rfl⟩ := passL_cons_inv P h
    obtain ⟨i1, i2⟩ := one_all P hP h1 ha (hb q (.head _))
    obtain ⟨j1, j2⟩ := passL_all hP h2 i2 (fun z hz => hb z (.tail _ hz))
    exact ⟨fun u hu => by
      cases hu with
      | head => exact i1
      | tail _ h => exact j1 u h, j2⟩
end

/-- Light changes. -/
def Lt (l : List Ch) : Prop := ∀ x ∈ l, lightP x = true
theorem passP_lt {p q x y : Ch} (h : passP p q = some (x, y)) (hp : lightP p = true) (hq : lightP q = true) : lightP x = true ∧ lightP y = true := way_light (passP_way h).2.2 hp hq
theorem one_lt {a y : List Ch} {q x : Ch} (h : one passP a q = some (x, y)) (ha : Lt a) (hq : lightP q = true) : lightP x = true ∧ Lt y := one_all passP passP_lt h ha hq
theorem passF_lt {a b x y : List Ch} (h : passF a b = some (x, y)) (ha : Lt a) (hb : Lt b) : Lt x ∧ Lt y := passL_all passP passP_lt h ha hb
theorem Lt.app {a b : List Ch} (ha : Lt a) (hb : Lt b) : Lt (a ++ b) := fun x hx => (List.mem_append.1 hx).elim (ha x) (hb x)
theorem Lt.tail {a : Ch} {l : List Ch} (h : Lt (a :: l)) : Lt l := fun x hx => h x (.tail _ hx)
theorem turnP_lt {p : Ch} (h : lightP p = true) : lightP (turnP p) = true := by
  unfold lightP at h ⊢
  simp only [Bool.and_eq_true, decide_eq_true_eq] at h ⊢
  by_cases h0 : p.k = 0
  · rw [turnP_0 h0]; exact h
  by_cases h1 : p.k = 1
  · rw [turnP_1 h1]; exact h
  by_cases h2 : p.k = 2
  · rw [turnP_2 h2]; exact ⟨h.1, h.2.2, h.2.1⟩
  rw [turnP_h h0 h1 h2]; exact ⟨⟨h.1.2, h.1.1⟩, h.2⟩
theorem Lt.turn {l : List Ch} (h : Lt l) : Lt (turnF l) := fun x hx => by
  unfold turnF at hx
  rw [List.mem_reverse, List.mem_map] at hx
  obtain ⟨p, hp, rfl⟩ := hx
  exact turnP_lt (h p hp)
theorem lt_len {W : World} {S : Nat → Prop} {A B : Option Addr} {n c m d : Nat} {p : Ch} (h : PG W S A n c B m d p) (hp : lightP p = true) : n ≤ 1000 ∧ m ≤ 1000 := by
  obtain ⟨h1, h2⟩ := lightP_h hp
  rw [h.l] at h1
  rw [h.l'] at h2
  omega

end Fl
end Go.Proofs.Ytdnkinajbebkoaa

set_option maxRecDepth 100000
namespace Go.Proofs.Ytdnkinajbebkoaa
open Go.RowKit
set_option linter.unusedVariables false
namespace Sw
open Tx Df Hk

/-- How a call ends that tells the lines that are handed in, as they are. -/
def PassEndE (A : Option Addr) (n c : Nat) (A' : Option Addr) (n' c' : Nat) (D : Option Addr) (m k : Nat) (D' : Option Addr) (m' k' : Nat) (w : World) (o : Option (HU × HU)) (e : Ending) (w' : World) : Prop :=
  (∀ z, o = some z → e = .returned (.tuple #[hkV z.1.pos D m k D' m' k', hkV z.2.pos A n c A' n' c', .bool true])) ∧
  (o = none → e = .returned (.tuple #[hkV 0 none 0 0 none 0 0, hkV 0 none 0 0 none 0 0, .bool false])) ∧ Below w.heap.size w w'
section
variable {A A' D D' : Option Addr} {n c n' c' m k m' k' : Nat} {w w' : World} {o : Option (HU × HU)} {e : Ending}
theorem passEndE_none (ho : o = none) (hb : Below w.heap.size w w') : PassEndE A n c A' n' c' D m k D' m' k' w o (.returned (.tuple #[hkV 0 none 0 0 none 0 0, hkV 0 none 0 0 none 0 0, .bool false])) w' := by
  subst ho
  exact ⟨fun z h => (by cases h), fun _ => rfl, hb⟩
theorem passEndE_some {x y : HU} (hb : Below w.heap.size w w') : PassEndE A n c A' n' c' D m k D' m' k' w (some (x, y)) (.returned (.tuple #[hkV x.pos D m k D' m' k', hkV y.pos A n c A' n' c', .bool true])) w' :=
  ⟨fun z h => (by injection h with h; subst h; rfl), fun h => (by cases h), hb⟩
theorem PassEndE.end_ {B : Nat} {p q : HU} (h : PassEndE A n c A' n' c' D m k D' m' k' w (passH p q) e w') (hB : B ≤ w.heap.size) (hv : HV w B A n c A' n' c' p) (gv : HV w B D m k D' m' k' q) : PassEnd w (passH p q) e w' := by
  obtain ⟨h1, h2, hb⟩ := h
  cases ho : passH p q with
  | none => rw [h2 ho]; exact passEnd_none rfl hb
  | some z =>
    have e1 := h1 z ho
    obtain ⟨_, b1, b2, b3, b4⟩ := pass_moves (x := z.1) (y := z.2) (passH_may (z := z) ho).2.2.1
    obtain ⟨a1, a2⟩ := pass_pos (x := z.1) (y := z.2) (passH_may (z := z) ho).2.2.1 (mayH_pos (passH_may ho).1).1 (mayH_pos (passH_may ho).2.1).1
    have l1 := (passH_may ho).2.2.2.1; have l2 := (passH_may ho).2.2.2.2
    have hv' := (hv.below (hb.mono hB)).up (Nat.le_trans hB hb.size); have gv' := (gv.below (hb.mono hB)).up (Nat.le_trans hB hb.size)
    refine ⟨D, m, k, D', m', k', A, n, c, A', n', c', e1, ?_, ?_, hb⟩
    · exact ⟨by show z.1.old.length = m; rw [b1]; exact gv.l, by show z.1.new.length = m'; rw [b2]; exact gv.l', gv.k, gv.k', gv.m, gv.m', by show RdS _ _ _ z.1.old; rw [b1]; exact gv'.r, by show RdS _ _ _ z.1.new; rw [b2]; exact gv'.r', ⟨by show _ ≤ z.1.pos; omega, by show z.1.pos ≤ _; omega⟩⟩
    · exact ⟨by show z.2.old.length = n; rw [b3]; exact hv.l, by show z.2.new.length = n'; rw [b4]; exact hv.l', hv.k, hv.k', hv.m, hv.m', by show RdS _ _ _ z.2.old; rw [b3]; exact hv'.r, by show RdS _ _ _ z.2.new; rw [b4]; exact hv'.r', ⟨by show _ ≤ z.2.pos; omega, by show z.2.pos ≤ _; omega⟩⟩
end

set_option maxHeartbeats 4000000 in
theorem refPassE (A : Option Addr) (n c : Nat) (A' : Option Addr) (n' c' : Nat) (D : Option Addr) (m k : Nat) (D' : Option Addr) (m' k' B : Nat) (p q : HU) (w : World) (hB : B ≤ w.heap.size) (hn : n ≤ 1000) (hn' : n' ≤ 1000) (hm : m ≤ 1000) (hm' : m' ≤ 1000)
    (hv : HV w B A n c A' n' c' p) (gv : HV w B D m k D' m' k' q) (sp : ∀ x ∈ p.old, x.length ≤ maxLen) (sp' : ∀ x ∈ p.new, x.length ≤ maxLen) (sq : ∀ x ∈ q.old, x.length ≤ maxLen) (sq' : ∀ x ∈ q.new, x.length ≤ maxLen) :
    Calls Try.prog 106 #[hkV p.pos A n c A' n' c', hkV q.pos D m k D' m' k'] w (PassEndE A n c A' n' c' D m k D' m' k' w (passH p q)) := by
  have HV0 := Lib.hid hv; have GV0 := Lib.hid gv; have SP := Lib.hid sp; have SP' := Lib.hid sp'; have SQ := Lib.hid sq; have SQ' := Lib.hid sq'
  clear sp sp' sq sq'
  go_enter Try.func106, Try.ntmps106
  go_wp2_with fail
  have hw0 : Below w.heap.size w (((((w.alloc (.cells #[.int .i64 p.pos, .slice A n c, .slice A' n' c'] 52)).alloc (.cells #[.int .i64 q.pos, .slice D m k, .slice D' m' k'] 52)).alloc (.cells #[.int .i64 0, .slice none 0 0, .slice none 0 0] 52)).alloc (.cells #[.int .i64 0, .slice none 0 0, .slice none 0 0] 52)).alloc (.cells #[.int .i64 0, .slice none 0 0, .slice none 0 0] 52)) := (((((Below.refl _ _).alloc (Nat.le_refl _) _).alloc (by simp) _).alloc (by simp; omega) _).alloc (by simp; omega) _).alloc (by simp; omega) _
  have b0 := ((((Blk.new w 52 #[.int .i64 p.pos, .slice A n c, .slice A' n' c']).alloc (.cells #[.int .i64 q.pos, .slice D m k, .slice D' m' k'] 52)).alloc (.cells #[.int .i64 0, .slice none 0 0, .slice none 0 0] 52)).alloc (.cells #[.int .i64 0, .slice none 0 0, .slice none 0 0] 52)).alloc (.cells #[.int .i64 0, .slice none 0 0, .slice none 0 0] 52)
  have b1 := (((Blk.new (w.alloc (.cells #[.int .i64 p.pos, .slice A n c, .slice A' n' c'] 52)) 52 #[.int .i64 q.pos, .slice D m k, .slice D' m' k']).alloc (.cells #[.int .i64 0, .slice none 0 0, .slice none 0 0] 52)).alloc (.cells #[.int .i64 0, .slice none 0 0, .slice none 0 0] 52)).alloc (.cells #[.int .i64 0, .slice none 0 0, .slice none 0 0] 52)
  have b2 := ((Blk.new ((w.alloc (.cells #[.int .i64 p.pos, .slice A n c, .slice A' n' c'] 52)).alloc (.cells #[.int .i64 q.pos, .slice D m k, .slice D' m' k'] 52)) 52 #[.int .i64 0, .slice none 0 0, .slice none 0 0]).alloc (.cells #[.int .i64 0, .slice none 0 0, .slice none 0 0] 52)).alloc (.cells #[.int .i64 0, .slice none 0 0, .slice none 0 0] 52)
  have b3 := (Blk.new (((w.alloc (.cells #[.int .i64 p.pos, .slice A n c, .slice A' n' c'] 52)).alloc (.cells #[.int .i64 q.pos, .slice D m k, .slice D' m' k'] 52)).alloc (.cells #[.int .i64 0, .slice none 0 0, .slice none 0 0] 52)) 52 #[.int .i64 0, .slice none 0 0, .slice none 0 0]).alloc (.cells #[.int .i64 0, .slice none 0 0, .slice none 0 0] 52)
  have b4 := Blk.new ((((w.alloc (.cells #[.int .i64 p.pos, .slice A n c, .slice A' n' c'] 52)).alloc (.cells #[.int .i64 q.pos, .slice D m k, .slice D' m' k'] 52)).alloc (.cells #[.int .i64 0, .slice none 0 0, .slice none 0 0] 52)).alloc (.cells #[.int .i64 0, .slice none 0 0, .slice none 0 0] 52)) 52 #[.int .i64 0, .slice none 0 0, .slice none 0 0]
  simp only [World.size_alloc] at b1 b2 b3 b4
  generalize (((((w.alloc (.cells #[.int .i64 p.pos, .slice A n c, .slice A' n' c'] 52)).alloc (.cells #[.int .i64 q.pos, .slice D m k, .slice D' m' k'] 52)).alloc (.cells #[.int .i64 0, .slice none 0 0, .slice none 0 0] 52)).alloc (.cells #[.int .i64 0, .slice none 0 0, .slice none 0 0] 52)).alloc (.cells #[.int .i64 0, .slice none 0 0, .slice none 0 0] 52)) = w0 at *
  clear hv gv
  obtain ⟨g, hgs⟩ : ∃ g, w.heap.size = g := ⟨_, rfl⟩
  rw [hgs] at hw0 b0 b1 b2 b3 b4 ⊢
  rw [show g + 1 + 1 = g + 2 from rfl] at b2 b3 b4 ⊢
  rw [show g + 2 + 1 = g + 3 from rfl] at b3 b4 ⊢
  rw [show g + 3 + 1 = g + 4 from rfl] at b4 ⊢
  have HGS := Lib.hid hgs; clear hgs
  refine (refMay A n c A' n' c' B p w0 (Nat.le_trans hB hw0.size) (HV0.out.below (hw0.mono (by rw [← HGS.out]; exact hB))) SP.out SP'.out).mono ?_
  rintro e w1 ⟨rfl, h1⟩
  have b0 := b0.below h1 b0.lt; have b1 := b1.below h1 b1.lt; have b2 := b2.below h1 b2.lt; have b3 := b3.below h1 b3.lt; have b4 := b4.below h1 b4.lt
  have hw1 := hw0.trans (h1.mono (by rw [← HGS.out]; exact hw0.size))
  clear h1 hw0
  have y0 : w1.cell? ⟨g + 1, 0, none⟩ = some (.int .i64 q.pos) := b1.cell 0 rfl; have y1 : w1.cell? ⟨g + 1, 1, none⟩ = some (.slice D m k) := b1.cell 1 rfl; have y2 : w1.cell? ⟨g + 1, 2, none⟩ = some (.slice D' m' k') := b1.cell 2 rfl
  go_wp2_with fail
  refine (refMay D m k D' m' k' B q w1 (Nat.le_trans hB hw1.size) (GV0.out.below (hw1.mono (by rw [← HGS.out]; exact hB))) SQ.out SQ'.out).mono ?_
  rintro e w2 ⟨rfl, h1⟩
  clear y0 y1 y2
  have b0 := b0.below h1 b0.lt; have b1 := b1.below h1 b1.lt; have b2 := b2.below h1 b2.lt; have b3 := b3.below h1 b3.lt; have b4 := b4.below h1 b4.lt
  have hw2 := hw1.trans (h1.mono (by rw [← HGS.out]; exact hw1.size))
  clear h1 hw1
  have x0 : w2.cell? ⟨g, 0, none⟩ = some (.int .i64 p.pos) := b0.cell 0 rfl; have x1 : w2.cell? ⟨g, 1, none⟩ = some (.slice A n c) := b0.cell 1 rfl; have x2 : w2.cell? ⟨g, 2, none⟩ = some (.slice A' n' c') := b0.cell 2 rfl
  have y0 : w2.cell? ⟨g + 1, 0, none⟩ = some (.int .i64 q.pos) := b1.cell 0 rfl; have y1 : w2.cell? ⟨g + 1, 1, none⟩ = some (.slice D m k) := b1.cell 1 rfl; have y2 : w2.cell? ⟨g + 1, 2, none⟩ = some (.slice D' m' k') := b1.cell 2 rfl
  have q20 : w2.cell? ⟨g + 2, 0, none⟩ = some (.int .i64 0) := b2.cell 0 rfl; have q21 : w2.cell? ⟨g + 2, 1, none⟩ = some (.slice none 0 0) := b2.cell 1 rfl; have q22 : w2.cell? ⟨g + 2, 2, none⟩ = some (.slice none 0 0) := b2.cell 2 rfl
  have q30 : w2.cell? ⟨g + 3, 0, none⟩ = some (.int .i64 0) := b3.cell 0 rfl; have q31 : w2.cell? ⟨g + 3, 1, none⟩ = some (.slice none 0 0) := b3.cell 1 rfl; have q32 : w2.cell? ⟨g + 3, 2, none⟩ = some (.slice none 0 0) := b3.cell 2 rfl
  have q40 : w2.cell? ⟨g + 4, 0, none⟩ = some (.int .i64 0) := b4.cell 0 rfl; have q41 : w2.cell? ⟨g + 4, 1, none⟩ = some (.slice none 0 0) := b4.cell 1 rfl; have q42 : w2.cell? ⟨g + 4, 2, none⟩ = some (.slice none 0 0) := b4.cell 2 rfl
  have f00 := b0.frozen 0; have f10 := b1.frozen 0; have f20 := b2.frozen 0; have f21 := b2.frozen 1; have f22 := b2.frozen 2; have f30 := b3.frozen 0; have f31 := b3.frozen 1; have f32 := b3.frozen 2
  have HW2 := Lib.hid hw2; have HB0 := Lib.hid b0; have HB1 := Lib.hid b1; have HB2 := Lib.hid b2; have HB3 := Lib.hid b3; have HB4 := Lib.hid b4
  clear b0 b1 b2 b3 b4 hw2
  cases hmp : mayH p with
  | false =>
    have HN := Lib.hid (passH_no1 (q := q) hmp)
    clear hmp
    generalize mayH q = b
    go_wp2_with fail
    go_region
    go_wp2_with fail
    obtain ⟨z2, z3⟩ := two_set HB2.out HB3.out (by omega) (.int .i64 (0)) (.slice none 0 0) (.slice none 0 0) (.int .i64 (0)) (.slice none 0 0) (.slice none 0 0)
    have hb6 := below_drewN (below_set6 (b := g + 2) (b' := g + 3) HW2.out (by omega) (by omega) (.int .i64 (0)) (.slice none 0 0) (.slice none 0 0) (.int .i64 (0)) (.slice none 0 0) (.slice none 0 0)) 1
    have z2 := z2.drewN 1; have z3 := z3.drewN 1
    have hdr : ∀ W : World, W.drewN 1 = W.drew := fun _ => rfl
    rw [hdr] at hb6 z2 z3
    generalize World.drew (((((World.setCell w2 ⟨g + 2, 0, none⟩ (.int .i64 (0))).setCell ⟨g + 2, 1, none⟩ (.slice none 0 0)).setCell ⟨g + 2, 2, none⟩ (.slice none 0 0)).setCell ⟨g + 3, 0, none⟩ (.int .i64 (0))).setCell ⟨g + 3, 1, none⟩ (.slice none 0 0) |>.setCell ⟨g + 3, 2, none⟩ (.slice none 0 0)) = W3 at *
    clear q20 q21 q22 q30 q31 q32
    have q20 : W3.cell? ⟨g + 2, 0, none⟩ = some (.int .i64 (0)) := z2.cell 0 rfl; have q21 : W3.cell? ⟨g + 2, 1, none⟩ = some (.slice none 0 0) := z2.cell 1 rfl; have q22 : W3.cell? ⟨g + 2, 2, none⟩ = some (.slice none 0 0) := z2.cell 2 rfl
    have q30 : W3.cell? ⟨g + 3, 0, none⟩ = some (.int .i64 (0)) := z3.cell 0 rfl; have q31 : W3.cell? ⟨g + 3, 1, none⟩ = some (.slice none 0 0) := z3.cell 1 rfl; have q32 : W3.cell? ⟨g + 3, 2, none⟩ = some (.slice none 0 0) := z3.cell 2 rfl
    refine bodyPost_ret (v := .tuple #[hkV (0) none 0 0 none 0 0, hkV (0) none 0 0 none 0 0, .bool false]) (by simp [results, Try.results106, go_sem, q20, q21, q22, q30, q31, q32]) rfl ?_
    exact passEndE_none HN.out (by rw [HGS.out]; exact hb6)
  | true =>
  have HMP := Lib.hid hmp; clear hmp
  cases hmq : mayH q with
  | false =>
    have HN := Lib.hid (passH_no2 (p := p) hmq)
    clear hmq
    go_wp2_with fail
    go_region
    go_wp2_with fail
    obtain ⟨z2, z3⟩ := two_set HB2.out HB3.out (by omega) (.int .i64 (0)) (.slice none 0 0) (.slice none 0 0) (.int .i64 (0)) (.slice none 0 0) (.slice none 0 0)
    have hb6 := below_drewN (below_set6 (b := g + 2) (b' := g + 3) HW2.out (by omega) (by omega) (.int .i64 (0)) (.slice none 0 0) (.slice none 0 0) (.int .i64 (0)) (.slice none 0 0) (.slice none 0 0)) 1
    have z2 := z2.drewN 1; have z3 := z3.drewN 1
    have hdr : ∀ W : World, W.drewN 1 = W.drew := fun _ => rfl
    rw [hdr] at hb6 z2 z3
    generalize World.drew (((((World.setCell w2 ⟨g + 2, 0, none⟩ (.int .i64 (0))).setCell ⟨g + 2, 1, none⟩ (.slice none 0 0)).setCell ⟨g + 2, 2, none⟩ (.slice none 0 0)).setCell ⟨g + 3, 0, none⟩ (.int .i64 (0))).setCell ⟨g + 3, 1, none⟩ (.slice none 0 0) |>.setCell ⟨g + 3, 2, none⟩ (.slice none 0 0)) = W3 at *
    clear q20 q21 q22 q30 q31 q32
    have q20 : W3.cell? ⟨g + 2, 0, none⟩ = some (.int .i64 (0)) := z2.cell 0 rfl; have q21 : W3.cell? ⟨g + 2, 1, none⟩ = some (.slice none 0 0) := z2.cell 1 rfl; have q22 : W3.cell? ⟨g + 2, 2, none⟩ = some (.slice none 0 0) := z2.cell 2 rfl
    have q30 : W3.cell? ⟨g + 3, 0, none⟩ = some (.int .i64 (0)) := z3.cell 0 rfl; have q31 : W3.cell? ⟨g + 3, 1, none⟩ = some (.slice none 0 0) := z3.cell 1 rfl; have q32 : W3.cell? ⟨g + 3, 2, none⟩ = some (.slice none 0 0) := z3.cell 2 rfl
    refine bodyPost_ret (v := .tuple #[hkV (0) none 0 0 none 0 0, hkV (0) none 0 0 none 0 0, .bool false]) (by simp [results, Try.results106, go_sem, q20, q21, q22, q30, q31, q32]) rfl ?_
    exact passEndE_none HN.out (by rw [HGS.out]; exact hb6)
  | true =>
  have HMQ := Lib.hid hmq; clear hmq
  have PB0 := Lib.hid (mayH_pos HMP.out); have PB1 := Lib.hid (mayH_pos HMQ.out)
  obtain ⟨p0, p1⟩ := mayH_pos HMP.out
  obtain ⟨q0, q1⟩ := mayH_pos HMQ.out
  by_cases o1 : p.pos + n' < q.pos
  · by_cases o2 : q.pos - n' + n ≤ 1048576
    · have HN := Lib.hid (passH_open1 HV0.out.l HV0.out.l' HMP.out HMQ.out o1 o2 p1)
      go_wp2_with fail
      have c0 : Blk (w2.setCell ⟨g + 1, 0, none⟩ (.int .i64 (q.pos - n' + n))) (g + 1) 52 #[.int .i64 (q.pos - n' + n), .slice D m k, .slice D' m' k'] := HB1.out.set 0 _
      have c1 : Blk (w2.setCell ⟨g + 1, 0, none⟩ (.int .i64 (q.pos - n' + n))) (g) 52 #[.int .i64 (p.pos), .slice A n c, .slice A' n' c'] := HB0.out.set_ne (by omega) 0 _
      have c2 : Blk (w2.setCell ⟨g + 1, 0, none⟩ (.int .i64 (q.pos - n' + n))) (g + 2) 52 #[.int .i64 0, .slice none 0 0, .slice none 0 0] := HB2.out.set_ne (by omega) 0 _
      have c3 : Blk (w2.setCell ⟨g + 1, 0, none⟩ (.int .i64 (q.pos - n' + n))) (g + 3) 52 #[.int .i64 0, .slice none 0 0, .slice none 0 0] := HB3.out.set_ne (by omega) 0 _
      have c4 : Blk (w2.setCell ⟨g + 1, 0, none⟩ (.int .i64 (q.pos - n' + n))) (g + 4) 52 #[.int .i64 0, .slice none 0 0, .slice none 0 0] := HB4.out.set_ne (by omega) 0 _
      have hw5 := HW2.out.setCell (p := ⟨g + 1, 0, none⟩) (by show g ≤ g + 1; omega) (.int .i64 (q.pos - n' + n))
      generalize w2.setCell ⟨g + 1, 0, none⟩ (.int .i64 (q.pos - n' + n)) = w5 at *
      clear x0 x1 x2 y0 y1 y2 q20 q21 q22 q30 q31 q32 q40 q41 q42 f00 f10 f20 f21 f22 f30 f31 f32
      have x0 : w5.cell? ⟨g, 0, none⟩ = some (.int .i64 (p.pos)) := c1.cell 0 rfl; have x1 : w5.cell? ⟨g, 1, none⟩ = some (.slice A n c) := c1.cell 1 rfl; have x2 : w5.cell? ⟨g, 2, none⟩ = some (.slice A' n' c') := c1.cell 2 rfl
      have y0 : w5.cell? ⟨g + 1, 0, none⟩ = some (.int .i64 (q.pos - n' + n)) := c0.cell 0 rfl; have y1 : w5.cell? ⟨g + 1, 1, none⟩ = some (.slice D m k) := c0.cell 1 rfl; have y2 : w5.cell? ⟨g + 1, 2, none⟩ = some (.slice D' m' k') := c0.cell 2 rfl
      have q20 : w5.cell? ⟨g + 2, 0, none⟩ = some (.int .i64 0) := c2.cell 0 rfl; have q21 : w5.cell? ⟨g + 2, 1, none⟩ = some (.slice none 0 0) := c2.cell 1 rfl; have q22 : w5.cell? ⟨g + 2, 2, none⟩ = some (.slice none 0 0) := c2.cell 2 rfl
      have q30 : w5.cell? ⟨g + 3, 0, none⟩ = some (.int .i64 0) := c3.cell 0 rfl; have q31 : w5.cell? ⟨g + 3, 1, none⟩ = some (.slice none 0 0) := c3.cell 1 rfl; have q32 : w5.cell? ⟨g + 3, 2, none⟩ = some (.slice none 0 0) := c3.cell 2 rfl
      have q40 : w5.cell? ⟨g + 4, 0, none⟩ = some (.int .i64 0) := c4.cell 0 rfl; have q41 : w5.cell? ⟨g + 4, 1, none⟩ = some (.slice none 0 0) := c4.cell 1 rfl; have q42 : w5.cell? ⟨g + 4, 2, none⟩ = some (.slice none 0 0) := c4.cell 2 rfl
      have f20 := c2.frozen 0; have f21 := c2.frozen 1; have f22 := c2.frozen 2; have f30 := c3.frozen 0; have f31 := c3.frozen 1; have f32 := c3.frozen 2
      go_region
      go_wp2_with fail
      obtain ⟨z2, z3⟩ := two_set c2 c3 (by omega) (.int .i64 (q.pos - n' + n)) (.slice D m k) (.slice D' m' k') (.int .i64 (p.pos)) (.slice A n c) (.slice A' n' c')
      have hb6 := below_drewN (below_set6 (b := g + 2) (b' := g + 3) hw5 (by omega) (by omega) (.int .i64 (q.pos - n' + n)) (.slice D m k) (.slice D' m' k') (.int .i64 (p.pos)) (.slice A n c) (.slice A' n' c')) 1
      have z2 := z2.drewN 1; have z3 := z3.drewN 1
      have hdr : ∀ W : World, W.drewN 1 = W.drew := fun _ => rfl
      rw [hdr] at hb6 z2 z3
      generalize World.drew (((((World.setCell w5 ⟨g + 2, 0, none⟩ (.int .i64 (q.pos - n' + n))).setCell ⟨g + 2, 1, none⟩ (.slice D m k)).setCell ⟨g + 2, 2, none⟩ (.slice D' m' k')).setCell ⟨g + 3, 0, none⟩ (.int .i64 (p.pos))).setCell ⟨g + 3, 1, none⟩ (.slice A n c) |>.setCell ⟨g + 3, 2, none⟩ (.slice A' n' c')) = W3 at *
      clear q20 q21 q22 q30 q31 q32
      have q20 : W3.cell? ⟨g + 2, 0, none⟩ = some (.int .i64 (q.pos - n' + n)) := z2.cell 0 rfl; have q21 : W3.cell? ⟨g + 2, 1, none⟩ = some (.slice D m k) := z2.cell 1 rfl; have q22 : W3.cell? ⟨g + 2, 2, none⟩ = some (.slice D' m' k') := z2.cell 2 rfl
      have q30 : W3.cell? ⟨g + 3, 0, none⟩ = some (.int .i64 (p.pos)) := z3.cell 0 rfl; have q31 : W3.cell? ⟨g + 3, 1, none⟩ = some (.slice A n c) := z3.cell 1 rfl; have q32 : W3.cell? ⟨g + 3, 2, none⟩ = some (.slice A' n' c') := z3.cell 2 rfl
      refine bodyPost_ret (v := .tuple #[hkV (q.pos - n' + n) D m k D' m' k', hkV (p.pos) A n c A' n' c', .bool true]) (by simp [results, Try.results106, go_sem, q20, q21, q22, q30, q31, q32]) rfl ?_
      have hW : Below w.heap.size w W3 := by rw [HGS.out]; exact hb6
      rw [HN.out]
      exact passEndE_some hW
    · have HN := Lib.hid (passH_shut HV0.out.l HV0.out.l' GV0.out.l GV0.out.l' (fun h => o2 h.2.1) (fun h => by have := h.1; omega))
      go_wp2_with fail
      have c0 : Blk (w2.setCell ⟨g + 1, 0, none⟩ (.int .i64 (q.pos - n' + n))) (g + 1) 52 #[.int .i64 (q.pos - n' + n), .slice D m k, .slice D' m' k'] := HB1.out.set 0 _
      have c1 : Blk (w2.setCell ⟨g + 1, 0, none⟩ (.int .i64 (q.pos - n' + n))) (g) 52 #[.int .i64 (p.pos), .slice A n c, .slice A' n' c'] := HB0.out.set_ne (by omega) 0 _
      have c2 : Blk (w2.setCell ⟨g + 1, 0, none⟩ (.int .i64 (q.pos - n' + n))) (g + 2) 52 #[.int .i64 0, .slice none 0 0, .slice none 0 0] := HB2.out.set_ne (by omega) 0 _
      have c3 : Blk (w2.setCell ⟨g + 1, 0, none⟩ (.int .i64 (q.pos - n' + n))) (g + 3) 52 #[.int .i64 0, .slice none 0 0, .slice none 0 0] := HB3.out.set_ne (by omega) 0 _
      have c4 : Blk (w2.setCell ⟨g + 1, 0, none⟩ (.int .i64 (q.pos - n' + n))) (g + 4) 52 #[.int .i64 0, .slice none 0 0, .slice none 0 0] := HB4.out.set_ne (by omega) 0 _
      have hw5 := HW2.out.setCell (p := ⟨g + 1, 0, none⟩) (by show g ≤ g + 1; omega) (.int .i64 (q.pos - n' + n))
      generalize w2.setCell ⟨g + 1, 0, none⟩ (.int .i64 (q.pos - n' + n)) = w5 at *
      clear x0 x1 x2 y0 y1 y2 q20 q21 q22 q30 q31 q32 q40 q41 q42 f00 f10 f20 f21 f22 f30 f31 f32
      have x0 : w5.cell? ⟨g, 0, none⟩ = some (.int .i64 (p.pos)) := c1.cell 0 rfl; have x1 : w5.cell? ⟨g, 1, none⟩ = some (.slice A n c) := c1.cell 1 rfl; have x2 : w5.cell? ⟨g, 2, none⟩ = some (.slice A' n' c') := c1.cell 2 rfl
      have y0 : w5.cell? ⟨g + 1, 0, none⟩ = some (.int .i64 (q.pos - n' + n)) := c0.cell 0 rfl; have y1 : w5.cell? ⟨g + 1, 1, none⟩ = some (.slice D m k) := c0.cell 1 rfl; have y2 : w5.cell? ⟨g + 1, 2, none⟩ = some (.slice D' m' k') := c0.cell 2 rfl
      have q20 : w5.cell? ⟨g + 2, 0, none⟩ = some (.int .i64 0) := c2.cell 0 rfl; have q21 : w5.cell? ⟨g + 2, 1, none⟩ = some (.slice none 0 0) := c2.cell 1 rfl; have q22 : w5.cell? ⟨g + 2, 2, none⟩ = some (.slice none 0 0) := c2.cell 2 rfl
      have q30 : w5.cell? ⟨g + 3, 0, none⟩ = some (.int .i64 0) := c3.cell 0 rfl; have q31 : w5.cell? ⟨g + 3, 1, none⟩ = some (.slice none 0 0) := c3.cell 1 rfl; have q32 : w5.cell? ⟨g + 3, 2, none⟩ = some (.slice none 0 0) := c3.cell 2 rfl
      have q40 : w5.cell? ⟨g + 4, 0, none⟩ = some (.int .i64 0) := c4.cell 0 rfl; have q41 : w5.cell? ⟨g + 4, 1, none⟩ = some (.slice none 0 0) := c4.cell 1 rfl; have q42 : w5.cell? ⟨g + 4, 2, none⟩ = some (.slice none 0 0) := c4.cell 2 rfl
      have f20 := c2.frozen 0; have f21 := c2.frozen 1; have f22 := c2.frozen 2; have f30 := c3.frozen 0; have f31 := c3.frozen 1; have f32 := c3.frozen 2
      go_region
      go_wp2_with fail
      obtain ⟨z2, z3⟩ := two_set c2 c3 (by omega) (.int .i64 (0)) (.slice none 0 0) (.slice none 0 0) (.int .i64 (0)) (.slice none 0 0) (.slice none 0 0)
      have hb6 := below_drewN (below_set6 (b := g + 2) (b' := g + 3) hw5 (by omega) (by omega) (.int .i64 (0)) (.slice none 0 0) (.slice none 0 0) (.int .i64 (0)) (.slice none 0 0) (.slice none 0 0)) 1
      have z2 := z2.drewN 1; have z3 := z3.drewN 1
      have hdr : ∀ W : World, W.drewN 1 = W.drew := fun _ => rfl
      rw [hdr] at hb6 z2 z3
      generalize World.drew (((((World.setCell w5 ⟨g + 2, 0, none⟩ (.int .i64 (0))).setCell ⟨g + 2, 1, none⟩ (.slice none 0 0)).setCell ⟨g + 2, 2, none⟩ (.slice none 0 0)).setCell ⟨g + 3, 0, none⟩ (.int .i64 (0))).setCell ⟨g + 3, 1, none⟩ (.slice none 0 0) |>.setCell ⟨g + 3, 2, none⟩ (.slice none 0 0)) = W3 at *
      clear q20 q21 q22 q30 q31 q32
      have q20 : W3.cell? ⟨g + 2, 0, none⟩ = some (.int .i64 (0)) := z2.cell 0 rfl; have q21 : W3.cell? ⟨g + 2, 1, none⟩ = some (.slice none 0 0) := z2.cell 1 rfl; have q22 : W3.cell? ⟨g + 2, 2, none⟩ = some (.slice none 0 0) := z2.cell 2 rfl
      have q30 : W3.cell? ⟨g + 3, 0, none⟩ = some (.int .i64 (0)) := z3.cell 0 rfl; have q31 : W3.cell? ⟨g + 3, 1, none⟩ = some (.slice none 0 0) := z3.cell 1 rfl; have q32 : W3.cell? ⟨g + 3, 2, none⟩ = some (.slice none 0 0) := z3.cell 2 rfl
      refine bodyPost_ret (v := .tuple #[hkV (0) none 0 0 none 0 0, hkV (0) none 0 0 none 0 0, .bool false]) (by simp [results, Try.results106, go_sem, q20, q21, q22, q30, q31, q32]) rfl ?_
      exact passEndE_none HN.out (by rw [HGS.out]; exact hb6)
  · by_cases o1' : q.pos + m < p.pos
    · by_cases o2 : p.pos - m + m' ≤ 1048576
      · have HN := Lib.hid (passH_open2 GV0.out.l GV0.out.l' HMP.out HMQ.out o1' q1 o2)
        go_wp2_with fail
        have c0 : Blk (w2.setCell ⟨g, 0, none⟩ (.int .i64 (p.pos - m + m'))) (g) 52 #[.int .i64 (p.pos - m + m'), .slice A n c, .slice A' n' c'] := HB0.out.set 0 _
        have c1 : Blk (w2.setCell ⟨g, 0, none⟩ (.int .i64 (p.pos - m + m'))) (g + 1) 52 #[.int .i64 (q.pos), .slice D m k, .slice D' m' k'] := HB1.out.set_ne (by omega) 0 _
        have c2 : Blk (w2.setCell ⟨g, 0, none⟩ (.int .i64 (p.pos - m + m'))) (g + 2) 52 #[.int .i64 0, .slice none 0 0, .slice none 0 0] := HB2.out.set_ne (by omega) 0 _
        have c3 : Blk (w2.setCell ⟨g, 0, none⟩ (.int .i64 (p.pos - m + m'))) (g + 3) 52 #[.int .i64 0, .slice none 0 0, .slice none 0 0] := HB3.out.set_ne (by omega) 0 _
        have c4 : Blk (w2.setCell ⟨g, 0, none⟩ (.int .i64 (p.pos - m + m'))) (g + 4) 52 #[.int .i64 0, .slice none 0 0, .slice none 0 0] := HB4.out.set_ne (by omega) 0 _
        have hw5 := HW2.out.setCell (p := ⟨g, 0, none⟩) (by show g ≤ g; omega) (.int .i64 (p.pos - m + m'))
        generalize w2.setCell ⟨g, 0, none⟩ (.int .i64 (p.pos - m + m')) = w5 at *
        clear x0 x1 x2 y0 y1 y2 q20 q21 q22 q30 q31 q32 q40 q41 q42 f00 f10 f20 f21 f22 f30 f31 f32
        have x0 : w5.cell? ⟨g, 0, none⟩ = some (.int .i64 (p.pos - m + m')) := c0.cell 0 rfl; have x1 : w5.cell? ⟨g, 1, none⟩ = some (.slice A n c) := c0.cell 1 rfl; have x2 : w5.cell? ⟨g, 2, none⟩ = some (.slice A' n' c') := c0.cell 2 rfl
        have y0 : w5.cell? ⟨g + 1, 0, none⟩ = some (.int .i64 (q.pos)) := c1.cell 0 rfl; have y1 : w5.cell? ⟨g + 1, 1, none⟩ = some (.slice D m k) := c1.cell 1 rfl; have y2 : w5.cell? ⟨g + 1, 2, none⟩ = some (.slice D' m' k') := c1.cell 2 rfl
        have q20 : w5.cell? ⟨g + 2, 0, none⟩ = some (.int .i64 0) := c2.cell 0 rfl; have q21 : w5.cell? ⟨g + 2, 1, none⟩ = some (.slice none 0 0) := c2.cell 1 rfl; have q22 : w5.cell? ⟨g + 2, 2, none⟩ = some (.slice none 0 0) := c2.cell 2 rfl
        have q30 : w5.cell? ⟨g + 3, 0, none⟩ = some (.int .i64 0) := c3.cell 0 rfl; have q31 : w5.cell? ⟨g + 3, 1, none⟩ = some (.slice none 0 0) := c3.cell 1 rfl; have q32 : w5.cell? ⟨g + 3, 2, none⟩ = some (.slice none 0 0) := c3.cell 2 rfl
        have q40 : w5.cell? ⟨g + 4, 0, none⟩ = some (.int .i64 0) := c4.cell 0 rfl; have q41 : w5.cell? ⟨g + 4, 1, none⟩ = some (.slice none 0 0) := c4.cell 1 rfl; have q42 : w5.cell? ⟨g + 4, 2, none⟩ = some (.slice none 0 0) := c4.cell 2 rfl
        have f20 := c2.frozen 0; have f21 := c2.frozen 1; have f22 := c2.frozen 2; have f30 := c3.frozen 0; have f31 := c3.frozen 1; have f32 := c3.frozen 2
        go_region
        go_wp2_with fail
        obtain ⟨z2, z3⟩ := two_set c2 c3 (by omega) (.int .i64 (q.pos)) (.slice D m k) (.slice D' m' k') (.int .i64 (p.pos - m + m')) (.slice A n c) (.slice A' n' c')
        have hb6 := below_drewN (below_set6 (b := g + 2) (b' := g + 3) hw5 (by omega) (by omega) (.int .i64 (q.pos)) (.slice D m k) (.slice D' m' k') (.int .i64 (p.pos - m + m')) (.slice A n c) (.slice A' n' c')) 1
        have z2 := z2.drewN 1; have z3 := z3.drewN 1
        have hdr : ∀ W : World, W.drewN 1 = W.drew := fun _ => rfl
        rw [hdr] at hb6 z2 z3
        generalize World.drew (((((World.setCell w5 ⟨g + 2, 0, none⟩ (.int .i64 (q.pos))).setCell ⟨g + 2, 1, none⟩ (.slice D m k)).setCell ⟨g + 2, 2, none⟩ (.slice D' m' k')).setCell ⟨g + 3, 0, none⟩ (.int .i64 (p.pos - m + m'))).setCell ⟨g + 3, 1, none⟩ (.slice A n c) |>.setCell ⟨g + 3, 2, none⟩ (.slice A' n' c')) = W3 at *
        clear q20 q21 q22 q30 q31 q32
        have q20 : W3.cell? ⟨g + 2, 0, none⟩ = some (.int .i64 (q.pos)) := z2.cell 0 rfl; have q21 : W3.cell? ⟨g + 2, 1, none⟩ = some (.slice D m k) := z2.cell 1 rfl; have q22 : W3.cell? ⟨g + 2, 2, none⟩ = some (.slice D' m' k') := z2.cell 2 rfl
        have q30 : W3.cell? ⟨g + 3, 0, none⟩ = some (.int .i64 (p.pos - m + m')) := z3.cell 0 rfl; have q31 : W3.cell? ⟨g + 3, 1, none⟩ = some (.slice A n c) := z3.cell 1 rfl; have q32 : W3.cell? ⟨g + 3, 2, none⟩ = some (.slice A' n' c') := z3.cell 2 rfl
        refine bodyPost_ret (v := .tuple #[hkV (q.pos) D m k D' m' k', hkV (p.pos - m + m') A n c A' n' c', .bool true]) (by simp [results, Try.results106, go_sem, q20, q21, q22, q30, q31, q32]) rfl ?_
        have hW : Below w.heap.size w W3 := by rw [HGS.out]; exact hb6
        rw [HN.out]
        exact passEndE_some hW
      · have HN := Lib.hid (passH_shut HV0.out.l HV0.out.l' GV0.out.l GV0.out.l' (fun h => o1 h.1) (fun h => o2 h.2.2))
        go_wp2_with fail
        have c0 : Blk (w2.setCell ⟨g, 0, none⟩ (.int .i64 (p.pos - m + m'))) (g) 52 #[.int .i64 (p.pos - m + m'), .slice A n c, .slice A' n' c'] := HB0.out.set 0 _
        have c1 : Blk (w2.setCell ⟨g, 0, none⟩ (.int .i64 (p.pos - m + m'))) (g + 1) 52 #[.int .i64 (q.pos), .slice D m k, .slice D' m' k'] := HB1.out.set_ne (by omega) 0 _
        have c2 : Blk (w2.setCell ⟨g, 0, none⟩ (.int .i64 (p.pos - m + m'))) (g + 2) 52 #[.int .i64 0, .slice none 0 0, .slice none 0 0] := HB2.out.set_ne (by omega) 0 _
        have c3 : Blk (w2.setCell ⟨g, 0, none⟩ (.int .i64 (p.pos - m + m'))) (g + 3) 52 #[.int .i64 0, .slice none 0 0, .slice none 0 0] := HB3.out.set_ne (by omega) 0 _
        have c4 : Blk (w2.setCell ⟨g, 0, none⟩ (.int .i64 (p.pos - m + m'))) (g + 4) 52 #[.int .i64 0, .slice none 0 0, .slice none 0 0] := HB4.out.set_ne (by omega) 0 _
        have hw5 := HW2.out.setCell (p := ⟨g, 0, none⟩) (by show g ≤ g; omega) (.int .i64 (p.pos - m + m'))
        generalize w2.setCell ⟨g, 0, none⟩ (.int .i64 (p.pos - m + m')) = w5 at *
        clear x0 x1 x2 y0 y1 y2 q20 q21 q22 q30 q31 q32 q40 q41 q42 f00 f10 f20 f21 f22 f30 f31 f32
        have x0 : w5.cell? ⟨g, 0, none⟩ = some (.int .i64 (p.pos - m + m')) := c0.cell 0 rfl; have x1 : w5.cell? ⟨g, 1, none⟩ = some (.slice A n c) := c0.cell 1 rfl; have x2 : w5.cell? ⟨g, 2, none⟩ = some (.slice A' n' c') := c0.cell 2 rfl
        have y0 : w5.cell? ⟨g + 1, 0, none⟩ = some (.int .i64 (q.pos)) := c1.cell 0 rfl; have y1 : w5.cell? ⟨g + 1, 1, none⟩ = some (.slice D m k) := c1.cell 1 rfl; have y2 : w5.cell? ⟨g + 1, 2, none⟩ = some (.slice D' m' k') := c1.cell 2 rfl
        have q20 : w5.cell? ⟨g + 2, 0, none⟩ = some (.int .i64 0) := c2.cell 0 rfl; have q21 : w5.cell? ⟨g + 2, 1, none⟩ = some (.slice none 0 0) := c2.cell 1 rfl; have q22 : w5.cell? ⟨g + 2, 2, none⟩ = some (.slice none 0 0) := c2.cell 2 rfl
        have q30 : w5.cell? ⟨g + 3, 0, none⟩ = some (.int .i64 0) := c3.cell 0 rfl; have q31 : w5.cell? ⟨g + 3, 1, none⟩ = some (.slice none 0 0) := c3.cell 1 rfl; have q32 : w5.cell? ⟨g + 3, 2, none⟩ = some (.slice none 0 0) := c3.cell 2 rfl
        have q40 : w5.cell? ⟨g + 4, 0, none⟩ = some (.int .i64 0) := c4.cell 0 rfl; have q41 : w5.cell? ⟨g + 4, 1, none⟩ = some (.slice none 0 0) := c4.cell 1 rfl; have q42 : w5.cell? ⟨g + 4, 2, none⟩ = some (.slice none 0 0) := c4.cell 2 rfl
        have f20 := c2.frozen 0; have f21 := c2.frozen 1; have f22 := c2.frozen 2; have f30 := c3.frozen 0; have f31 := c3.frozen 1; have f32 := c3.frozen 2
        go_region
        go_wp2_with fail
        obtain ⟨z2, z3⟩ := two_set c2 c3 (by omega) (.int .i64 (0)) (.slice none 0 0) (.slice none 0 0) (.int .i64 (0)) (.slice none 0 0) (.slice none 0 0)
        have hb6 := below_drewN (below_set6 (b := g + 2) (b' := g + 3) hw5 (by omega) (by omega) (.int .i64 (0)) (.slice none 0 0) (.slice none 0 0) (.int .i64 (0)) (.slice none 0 0) (.slice none 0 0)) 1
        have z2 := z2.drewN 1; have z3 := z3.drewN 1
        have hdr : ∀ W : World, W.drewN 1 = W.drew := fun _ => rfl
        rw [hdr] at hb6 z2 z3
        generalize World.drew (((((World.setCell w5 ⟨g + 2, 0, none⟩ (.int .i64 (0))).setCell ⟨g + 2, 1, none⟩ (.slice none 0 0)).setCell ⟨g + 2, 2, none⟩ (.slice none 0 0)).setCell ⟨g + 3, 0, none⟩ (.int .i64 (0))).setCell ⟨g + 3, 1, none⟩ (.slice none 0 0) |>.setCell ⟨g + 3, 2, none⟩ (.slice none 0 0)) = W3 at *
        clear q20 q21 q22 q30 q31 q32
        have q20 : W3.cell? ⟨g + 2, 0, none⟩ = some (.int .i64 (0)) := z2.cell 0 rfl; have q21 : W3.cell? ⟨g + 2, 1, none⟩ = some (.slice none 0 0) := z2.cell 1 rfl; have q22 : W3.cell? ⟨g + 2, 2, none⟩ = some (.slice none 0 0) := z2.cell 2 rfl
        have q30 : W3.cell? ⟨g + 3, 0, none⟩ = some (.int .i64 (0)) := z3.cell 0 rfl; have q31 : W3.cell? ⟨g + 3, 1, none⟩ = some (.slice none 0 0) := z3.cell 1 rfl; have q32 : W3.cell? ⟨g + 3, 2, none⟩ = some (.slice none 0 0) := z3.cell 2 rfl
        refine bodyPost_ret (v := .tuple #[hkV (0) none 0 0 none 0 0, hkV (0) none 0 0 none 0 0, .bool false]) (by simp [results, Try.results106, go_sem, q20, q21, q22, q30, q31, q32]) rfl ?_
        exact passEndE_none HN.out (by rw [HGS.out]; exact hb6)
    · have HN := Lib.hid (passH_shut HV0.out.l HV0.out.l' GV0.out.l GV0.out.l' (fun h => o1 h.1) (fun h => o1' h.1))
      go_wp2_with fail
      go_region
      go_wp2_with fail
      obtain ⟨z2, z3⟩ := two_set HB2.out HB3.out (by omega) (.int .i64 (0)) (.slice none 0 0) (.slice none 0 0) (.int .i64 (0)) (.slice none 0 0) (.slice none 0 0)
      have hb6 := below_drewN (below_set6 (b := g + 2) (b' := g + 3) HW2.out (by omega) (by omega) (.int .i64 (0)) (.slice none 0 0) (.slice none 0 0) (.int .i64 (0)) (.slice none 0 0) (.slice none 0 0)) 1
      have z2 := z2.drewN 1; have z3 := z3.drewN 1
      have hdr : ∀ W : World, W.drewN 1 = W.drew := fun _ => rfl
      rw [hdr] at hb6 z2 z3
      generalize World.drew (((((World.setCell w2 ⟨g + 2, 0, none⟩ (.int .i64 (0))).setCell ⟨g + 2, 1, none⟩ (.slice none 0 0)).setCell ⟨g + 2, 2, none⟩ (.slice none 0 0)).setCell ⟨g + 3, 0, none⟩ (.int .i64 (0))).setCell ⟨g + 3, 1, none⟩ (.slice none 0 0) |>.setCell ⟨g + 3, 2, none⟩ (.slice none 0 0)) = W3 at *
      clear q20 q21 q22 q30 q31 q32
      have q20 : W3.cell? ⟨g + 2, 0, none⟩ = some (.int .i64 (0)) := z2.cell 0 rfl; have q21 : W3.cell? ⟨g + 2, 1, none⟩ = some (.slice none 0 0) := z2.cell 1 rfl; have q22 : W3.cell? ⟨g + 2, 2, none⟩ = some (.slice none 0 0) := z2.cell 2 rfl
      have q30 : W3.cell? ⟨g + 3, 0, none⟩ = some (.int .i64 (0)) := z3.cell 0 rfl; have q31 : W3.cell? ⟨g + 3, 1, none⟩ = some (.slice none 0 0) := z3.cell 1 rfl; have q32 : W3.cell? ⟨g + 3, 2, none⟩ = some (.slice none 0 0) := z3.cell 2 rfl
      refine bodyPost_ret (v := .tuple #[hkV (0) none 0 0 none 0 0, hkV (0) none 0 0 none 0 0, .bool false]) (by simp [results, Try.results106, go_sem, q20, q21, q22, q30, q31, q32]) rfl ?_
      exact passEndE_none HN.out (by rw [HGS.out]; exact hb6)

end Sw
end Go.Proofs.Ytdnkinajbebkoaa

set_option maxRecDepth 100000
namespace Go.Proofs.Ytdnkinajbebkoaa
open Go.RowKit
set_option linter.unusedVariables false
set_option linter.unusedSimpArgs false
namespace Pr
open Tx Df Sq Hk Tr

section
variable {p q : Ch}
theorem passP_no1 (h : mayP p = false) : passP p q = none := by unfold passP; rw [if_pos (.inl h)]
theorem passP_no2 (h : mayP q = false) : passP p q = none := by unfold passP; rw [if_pos (.inr h)]
theorem passP_ap (hp : mayP p = true) (hq : mayP q = true) (h : apartP p q = true) : passP p q = some (q, p) := passP_apart hp hq (apartP_iff.1 h)
theorem passP_b (hp : mayP p = true) (hq : mayP q = true) (h : apartP p q = false) (kp : p.k = 3) (kq : q.k = 3) : passP p q = (Sw.passH p.h q.h).map fun z => (⟨q.k, q.nm, q.to, z.1⟩, ⟨p.k, p.nm, p.to, z.2⟩) := by
  unfold passP
  rw [if_neg (may_not hp hq), if_neg (by rw [h]; decide), if_pos ⟨kp, kq⟩]
theorem passP_o (hp : mayP p = true) (hq : mayP q = true) (h : apartP p q = false) (kp : p.k = 2) (kq : q.k = 3 ∨ q.k = 4) (hn : q.nm = p.to) : passP p q = some (⟨q.k, p.nm, q.to, q.h⟩, p) := by
  unfold passP
  rw [if_neg (may_not hp hq), if_neg (by rw [h]; decide), if_neg (by omega), if_pos ⟨kp, kq, hn⟩]
theorem passP_i (hp : mayP p = true) (hq : mayP q = true) (h : apartP p q = false) (kq : q.k = 2) (kp : p.k = 3 ∨ p.k = 4) (hn : p.nm = q.nm) : passP p q = some (q, ⟨p.k, q.to, p.to, p.h⟩) := by
  unfold passP
  rw [if_neg (may_not hp hq), if_neg (by rw [h]; decide), if_neg (by omega), if_neg (by omega), if_pos ⟨kq, kp, hn⟩]
theorem passP_n (h : apartP p q = false) (h3 : ¬ (p.k = 3 ∧ q.k = 3)) (ho : ¬ (p.k = 2 ∧ (q.k = 3 ∨ q.k = 4) ∧ q.nm = p.to)) (hi : ¬ (q.k = 2 ∧ (p.k = 3 ∨ p.k = 4) ∧ p.nm = q.nm)) : passP p q = none := by
  unfold passP
  by_cases hm : mayP p = false ∨ mayP q = false
  · rw [if_pos hm]
  · rw [if_neg hm, if_neg (show ¬ apartP p q = true by rw [h]; decide), if_neg h3, if_neg ho, if_neg hi]
end

/-- Two changes stored, one behind the other. -/
theorem two_set6 {W : World} {b b' : Nat} {t : TypeId} {x0 x1 x2 x3 x4 x5 y0 y1 y2 y3 y4 y5 : Value} (h : Blk W b t #[x0, x1, x2, x3, x4, x5]) (h' : Blk W b' t #[y0, y1, y2, y3, y4, y5]) (hne : b ≠ b') (v0 v1 v2 v3 v4 v5 u0 u1 u2 u3 u4 u5 : Value) :
    Blk ((((((((((((W.setCell ⟨b, 0, none⟩ v0).setCell ⟨b, 1, none⟩ v1).setCell ⟨b, 2, none⟩ v2).setCell ⟨b, 3, none⟩ v3).setCell ⟨b, 4, none⟩ v4).setCell ⟨b, 5, none⟩ v5).setCell ⟨b', 0, none⟩ u0).setCell ⟨b', 1, none⟩ u1).setCell ⟨b', 2, none⟩ u2).setCell ⟨b', 3, none⟩ u3).setCell ⟨b', 4, none⟩ u4).setCell ⟨b', 5, none⟩ u5) b t #[v0, v1, v2, v3, v4, v5] ∧
    Blk ((((((((((((W.setCell ⟨b, 0, none⟩ v0).setCell ⟨b, 1, none⟩ v1).setCell ⟨b, 2, none⟩ v2).setCell ⟨b, 3, none⟩ v3).setCell ⟨b, 4, none⟩ v4).setCell ⟨b, 5, none⟩ v5).setCell ⟨b', 0, none⟩ u0).setCell ⟨b', 1, none⟩ u1).setCell ⟨b', 2, none⟩ u2).setCell ⟨b', 3, none⟩ u3).setCell ⟨b', 4, none⟩ u4).setCell ⟨b', 5, none⟩ u5) b' t #[u0, u1, u2, u3, u4, u5] :=
  ⟨((((((blk6 h v0 v1 v2 v3 v4 v5).set_ne hne 0 u0).set_ne hne 1 u1).set_ne hne 2 u2).set_ne hne 3 u3).set_ne hne 4 u4).set_ne hne 5 u5,
   blk6 ((((((h'.set_ne hne.symm 0 v0).set_ne hne.symm 1 v1).set_ne hne.symm 2 v2).set_ne hne.symm 3 v3).set_ne hne.symm 4 v4).set_ne hne.symm 5 v5) u0 u1 u2 u3 u4 u5⟩
theorem below_set12 {B : Nat} {w W : World} {b b' : Nat} (h : Below B w W) (hb : B ≤ b) (hb' : B ≤ b') (v0 v1 v2 v3 v4 v5 u0 u1 u2 u3 u4 u5 : Value) :
    Below B w ((((((((((((W.setCell ⟨b, 0, none⟩ v0).setCell ⟨b, 1, none⟩ v1).setCell ⟨b, 2, none⟩ v2).setCell ⟨b, 3, none⟩ v3).setCell ⟨b, 4, none⟩ v4).setCell ⟨b, 5, none⟩ v5).setCell ⟨b', 0, none⟩ u0).setCell ⟨b', 1, none⟩ u1).setCell ⟨b', 2, none⟩ u2).setCell ⟨b', 3, none⟩ u3).setCell ⟨b', 4, none⟩ u4).setCell ⟨b', 5, none⟩ u5) :=
  (((((((((((h.setCell (p := ⟨b, 0, none⟩) hb v0).setCell (p := ⟨b, 1, none⟩) hb v1).setCell (p := ⟨b, 2, none⟩) hb v2).setCell (p := ⟨b, 3, none⟩) hb v3).setCell (p := ⟨b, 4, none⟩) hb v4).setCell (p := ⟨b, 5, none⟩) hb v5).setCell (p := ⟨b', 0, none⟩) hb' u0).setCell (p := ⟨b', 1, none⟩) hb' u1).setCell (p := ⟨b', 2, none⟩) hb' u2).setCell (p := ⟨b', 3, none⟩) hb' u3).setCell (p := ⟨b', 4, none⟩) hb' u4).setCell (p := ⟨b', 5, none⟩) hb' u5
theorem three_set {W : World} {b : Nat} {t : TypeId} {b' : Nat} {x : Array Value} (h : Blk W b t x) (hne : b ≠ b') (v3 v4 v5 : Value) : Blk (((W.setCell ⟨b', 3, none⟩ v3).setCell ⟨b', 4, none⟩ v4).setCell ⟨b', 5, none⟩ v5) b t x :=
  ((h.set_ne hne 3 v3).set_ne hne 4 v4).set_ne hne 5 v5

set_option maxHeartbeats 1000000 in
theorem refNames (A : Option Addr) (n c : Nat) (A' : Option Addr) (n' c' : Nat) (p : Ch) (s : List UInt8) (w : World) (b : Bool) (hb : namesP p s = b) :
    Calls Try.prog 124 #[prV p.k p.nm p.to p.h.pos A n c A' n' c', strV s] w (TestEnd w b) := by
  have HB := Lib.hid hb.symm
  clear hb
  have hw : Below w.heap.size w (w.alloc (.cells #[.int .i64 p.k, strV p.nm, strV p.to, .int .i64 p.h.pos, .slice A n c, .slice A' n' c'] 54)) := (Below.refl _ _).alloc (Nat.le_refl _) _
  have HW := Lib.hid hw; clear hw
  unfold namesP at HB
  by_cases h1 : p.nm = s
  · have e1 : (p.nm == s) = true := by simpa using h1
    have H1 := Lib.hid h1; clear h1
    go_enter Try.func124, Try.ntmps124
    go_wp2
    go_ret
    exact ⟨ret_bool (by rw [HB.out, decide_eq_true H1.out]; rfl), HW.out⟩
  have e1 : (p.nm == s) = false := by simpa using h1
  have H1 := Lib.hid h1; clear h1
  by_cases h2 : p.k = 2
  · have e2 : (p.k == 2) = true := by simpa using h2
    have H2 := Lib.hid h2; clear h2
    cases h3 : (p.to == s)
    all_goals
      go_enter Try.func124, Try.ntmps124
      go_wp2
      go_ret
    · exact ⟨ret_bool (by rw [HB.out, decide_eq_false H1.out, decide_eq_true H2.out, decide_eq_false (by simpa using h3)]; rfl), HW.out⟩
    · exact ⟨ret_bool (by rw [HB.out, decide_eq_false H1.out, decide_eq_true H2.out, decide_eq_true (by simpa using h3)]; rfl), HW.out⟩
  · have e2 : (p.k == 2) = false := by simpa using h2
    go_enter Try.func124, Try.ntmps124
    go_wp2
    go_ret
    exact ⟨ret_bool (by rw [HB.out, decide_eq_false H1.out, decide_eq_false h2]; rfl), HW.out⟩

set_option maxHeartbeats 1000000 in
theorem refLines (A : Option Addr) (n c : Nat) (A' : Option Addr) (n' c' : Nat) (p : Ch) (w : World) (b : Bool) (hb : (p.k == 3 || p.k == 4) = b) :
    Calls Try.prog 107 #[prV p.k p.nm p.to p.h.pos A n c A' n' c'] w (TestEnd w b) := by
  have HB := Lib.hid hb.symm
  clear hb
  have hw : Below w.heap.size w (w.alloc (.cells #[.int .i64 p.k, strV p.nm, strV p.to, .int .i64 p.h.pos, .slice A n c, .slice A' n' c'] 54)) := (Below.refl _ _).alloc (Nat.le_refl _) _
  have HW := Lib.hid hw; clear hw
  cases h1 : (p.k == 3)
  · cases h2 : (p.k == 4)
    all_goals
      go_enter Try.func107, Try.ntmps107
      go_wp2
      go_ret
      exact ⟨ret_bool (by rw [HB.out, h1, h2]; rfl), HW.out⟩
  · go_enter Try.func107, Try.ntmps107
    go_wp2
    go_ret
    exact ⟨ret_bool (by rw [HB.out, h1]; rfl), HW.out⟩

set_option maxHeartbeats 1000000 in
theorem refApart (A : Option Addr) (n c : Nat) (A' : Option Addr) (n' c' : Nat) (D : Option Addr) (m k : Nat) (D' : Option Addr) (m' k' : Nat) (p q : Ch) (w : World) (b : Bool) (hb : apartP p q = b) :
    Calls Try.prog 105 #[prV p.k p.nm p.to p.h.pos A n c A' n' c', prV q.k q.nm q.to q.h.pos D m k D' m' k'] w (TestEnd w b) := by
  have HB := Lib.hid hb.symm
  clear hb
  obtain ⟨b1, h1⟩ : ∃ b, namesP p q.nm = b := ⟨_, rfl⟩
  obtain ⟨b2, h2⟩ : ∃ b, namesP p q.to = b := ⟨_, rfl⟩
  have H1 := Lib.hid h1; have H2 := Lib.hid h2; clear h1 h2
  have hw := two_box w (.cells #[.int .i64 p.k, strV p.nm, strV p.to, .int .i64 p.h.pos, .slice A n c, .slice A' n' c'] 54) (.cells #[.int .i64 q.k, strV q.nm, strV q.to, .int .i64 q.h.pos, .slice D m k, .slice D' m' k'] 54)
  have b0 := (Blk.new w 54 #[.int .i64 p.k, strV p.nm, strV p.to, .int .i64 p.h.pos, .slice A n c, .slice A' n' c']).alloc (.cells #[.int .i64 q.k, strV q.nm, strV q.to, .int .i64 q.h.pos, .slice D m k, .slice D' m' k'] 54)
  have c0 := Blk.new (w.alloc (.cells #[.int .i64 p.k, strV p.nm, strV p.to, .int .i64 p.h.pos, .slice A n c, .slice A' n' c'] 54)) 54 #[.int .i64 q.k, strV q.nm, strV q.to, .int .i64 q.h.pos, .slice D m k, .slice D' m' k']
  simp only [World.size_alloc] at c0
  go_enter Try.func105, Try.ntmps105
  go_wp2_with fail
  generalize ((w.alloc (.cells #[.int .i64 p.k, strV p.nm, strV p.to, .int .i64 p.h.pos, .slice A n c, .slice A' n' c'] 54)).alloc (.cells #[.int .i64 q.k, strV q.nm, strV q.to, .int .i64 q.h.pos, .slice D m k, .slice D' m' k'] 54)) = w1 at *
  have HW1 := Lib.hid hw; have HB1 := Lib.hid b0; have HC1 := Lib.hid c0
  clear hw b0 c0
  refine (refNames A n c A' n' c' p q.nm w1 b1 H1.out).mono ?_
  rintro e w2 ⟨rfl, hb⟩
  have HW2 := Lib.hid (HW1.out.trans (hb.mono HW1.out.size)); have HB2 := Lib.hid (HB1.out.below hb HB1.out.lt); have HC2 := Lib.hid (HC1.out.below hb HC1.out.lt)
  clear hb HW1 HB1 HC1
  have x0 : w2.cell? ⟨w.heap.size, 0, none⟩ = some (.int .i64 p.k) := HB2.out.cell 0 rfl; have x1 : w2.cell? ⟨w.heap.size, 1, none⟩ = some (strV p.nm) := HB2.out.cell 1 rfl; have x2 : w2.cell? ⟨w.heap.size, 2, none⟩ = some (strV p.to) := HB2.out.cell 2 rfl; have x3 : w2.cell? ⟨w.heap.size, 3, none⟩ = some (.int .i64 p.h.pos) := HB2.out.cell 3 rfl; have x4 : w2.cell? ⟨w.heap.size, 4, none⟩ = some (.slice A n c) := HB2.out.cell 4 rfl; have x5 : w2.cell? ⟨w.heap.size, 5, none⟩ = some (.slice A' n' c') := HB2.out.cell 5 rfl
  have y0 : w2.cell? ⟨w.heap.size + 1, 0, none⟩ = some (.int .i64 q.k) := HC2.out.cell 0 rfl; have y1 : w2.cell? ⟨w.heap.size + 1, 1, none⟩ = some (strV q.nm) := HC2.out.cell 1 rfl; have y2 : w2.cell? ⟨w.heap.size + 1, 2, none⟩ = some (strV q.to) := HC2.out.cell 2 rfl; have y3 : w2.cell? ⟨w.heap.size + 1, 3, none⟩ = some (.int .i64 q.h.pos) := HC2.out.cell 3 rfl; have y4 : w2.cell? ⟨w.heap.size + 1, 4, none⟩ = some (.slice D m k) := HC2.out.cell 4 rfl; have y5 : w2.cell? ⟨w.heap.size + 1, 5, none⟩ = some (.slice D' m' k') := HC2.out.cell 5 rfl
  go_wp2_with fail
  refine (refNames A n c A' n' c' p q.to w2 b2 H2.out).mono ?_
  rintro e w3 ⟨rfl, hb⟩
  clear x0 x1 x2 x3 x4 x5 y0 y1 y2 y3 y4 y5
  have HW3 := Lib.hid (HW2.out.trans (hb.mono HW2.out.size)); have HB3 := Lib.hid (HB2.out.below hb HB2.out.lt); have HC3 := Lib.hid (HC2.out.below hb HC2.out.lt)
  clear hb HW2 HB2 HC2
  have x0 : w3.cell? ⟨w.heap.size, 0, none⟩ = some (.int .i64 p.k) := HB3.out.cell 0 rfl; have x1 : w3.cell? ⟨w.heap.size, 1, none⟩ = some (strV p.nm) := HB3.out.cell 1 rfl; have x2 : w3.cell? ⟨w.heap.size, 2, none⟩ = some (strV p.to) := HB3.out.cell 2 rfl; have x3 : w3.cell? ⟨w.heap.size, 3, none⟩ = some (.int .i64 p.h.pos) := HB3.out.cell 3 rfl; have x4 : w3.cell? ⟨w.heap.size, 4, none⟩ = some (.slice A n c) := HB3.out.cell 4 rfl; have x5 : w3.cell? ⟨w.heap.size, 5, none⟩ = some (.slice A' n' c') := HB3.out.cell 5 rfl
  have y0 : w3.cell? ⟨w.heap.size + 1, 0, none⟩ = some (.int .i64 q.k) := HC3.out.cell 0 rfl; have y1 : w3.cell? ⟨w.heap.size + 1, 1, none⟩ = some (strV q.nm) := HC3.out.cell 1 rfl; have y2 : w3.cell? ⟨w.heap.size + 1, 2, none⟩ = some (strV q.to) := HC3.out.cell 2 rfl; have y3 : w3.cell? ⟨w.heap.size + 1, 3, none⟩ = some (.int .i64 q.h.pos) := HC3.out.cell 3 rfl; have y4 : w3.cell? ⟨w.heap.size + 1, 4, none⟩ = some (.slice D m k) := HC3.out.cell 4 rfl; have y5 : w3.cell? ⟨w.heap.size + 1, 5, none⟩ = some (.slice D' m' k') := HC3.out.cell 5 rfl
  unfold apartP at HB
  rw [H1.out, H2.out] at HB
  by_cases hk : q.k = 2
  · have e1 : (q.k == 2) = true := by simpa using hk
    cases b1 <;> cases b2
    all_goals
      go_wp2
      go_ret
      exact ⟨ret_bool (by rw [HB.out]; simp [hk]), HW3.out⟩
  · have e1 : (q.k == 2) = false := by simpa using hk
    cases b1 <;> cases b2
    all_goals
      go_wp2
      go_ret
      exact ⟨ret_bool (by rw [HB.out]; simp [hk]), HW3.out⟩

set_option maxRecDepth 100000 in
set_option maxHeartbeats 8000000 in
theorem refPassE (A : Option Addr) (n c : Nat) (A' : Option Addr) (n' c' : Nat) (D : Option Addr) (m k : Nat) (D' : Option Addr) (m' k' : Nat) (p q : Ch) (w : World) (hl : n ≤ 1000 ∧ n' ≤ 1000) (gl : m ≤ 1000 ∧ m' ≤ 1000)
    (hv : PV w w.heap.size A n c A' n' c' p) (gv : PV w w.heap.size D m k D' m' k' q) :
    Calls Try.prog 89 #[prV p.k p.nm p.to p.h.pos A n c A' n' c', prV q.k q.nm q.to q.h.pos D m k D' m' k'] w (PPEndE A n c A' n' c' D m k D' m' k' w (passP p q)) := by
  have HV0 := Lib.hid hv; have GV0 := Lib.hid gv; have HL := Lib.hid hl; have GL := Lib.hid gl
  clear hl gl hv gv
  go_enter Try.func89, Try.ntmps89
  go_wp2_with fail
  have hw0 : Below w.heap.size w (((((w.alloc (.cells #[.int .i64 p.k, strV p.nm, strV p.to, .int .i64 p.h.pos, .slice A n c, .slice A' n' c'] 54)).alloc (.cells #[.int .i64 q.k, strV q.nm, strV q.to, .int .i64 q.h.pos, .slice D m k, .slice D' m' k'] 54)).alloc (.cells #[.int .i64 0, strV [], strV [], .int .i64 0, .slice none 0 0, .slice none 0 0] 54)).alloc (.cells #[.int .i64 0, strV [], strV [], .int .i64 0, .slice none 0 0, .slice none 0 0] 54)).alloc (.cells #[.int .i64 0, strV [], strV [], .int .i64 0, .slice none 0 0, .slice none 0 0] 54)) := (((((Below.refl _ _).alloc (Nat.le_refl _) _).alloc (by simp) _).alloc (by simp; omega) _).alloc (by simp; omega) _).alloc (by simp; omega) _
  have b0 := ((((Blk.new w 54 #[.int .i64 p.k, strV p.nm, strV p.to, .int .i64 p.h.pos, .slice A n c, .slice A' n' c']).alloc (.cells #[.int .i64 q.k, strV q.nm, strV q.to, .int .i64 q.h.pos, .slice D m k, .slice D' m' k'] 54)).alloc (.cells #[.int .i64 0, strV [], strV [], .int .i64 0, .slice none 0 0, .slice none 0 0] 54)).alloc (.cells #[.int .i64 0, strV [], strV [], .int .i64 0, .slice none 0 0, .slice none 0 0] 54)).alloc (.cells #[.int .i64 0, strV [], strV [], .int .i64 0, .slice none 0 0, .slice none 0 0] 54)
  have b1 := (((Blk.new (w.alloc (.cells #[.int .i64 p.k, strV p.nm, strV p.to, .int .i64 p.h.pos, .slice A n c, .slice A' n' c'] 54)) 54 #[.int .i64 q.k, strV q.nm, strV q.to, .int .i64 q.h.pos, .slice D m k, .slice D' m' k']).alloc (.cells #[.int .i64 0, strV [], strV [], .int .i64 0, .slice none 0 0, .slice none 0 0] 54)).alloc (.cells #[.int .i64 0, strV [], strV [], .int .i64 0, .slice none 0 0, .slice none 0 0] 54)).alloc (.cells #[.int .i64 0, strV [], strV [], .int .i64 0, .slice none 0 0, .slice none 0 0] 54)
  have b2 := ((Blk.new ((w.alloc (.cells #[.int .i64 p.k, strV p.nm, strV p.to, .int .i64 p.h.pos, .slice A n c, .slice A' n' c'] 54)).alloc (.cells #[.int .i64 q.k, strV q.nm, strV q.to, .int .i64 q.h.pos, .slice D m k, .slice D' m' k'] 54)) 54 #[.int .i64 0, strV [], strV [], .int .i64 0, .slice none 0 0, .slice none 0 0]).alloc (.cells #[.int .i64 0, strV [], strV [], .int .i64 0, .slice none 0 0, .slice none 0 0] 54)).alloc (.cells #[.int .i64 0, strV [], strV [], .int .i64 0, .slice none 0 0, .slice none 0 0] 54)
  have b3 := (Blk.new (((w.alloc (.cells #[.int .i64 p.k, strV p.nm, strV p.to, .int .i64 p.h.pos, .slice A n c, .slice A' n' c'] 54)).alloc (.cells #[.int .i64 q.k, strV q.nm, strV q.to, .int .i64 q.h.pos, .slice D m k, .slice D' m' k'] 54)).alloc (.cells #[.int .i64 0, strV [], strV [], .int .i64 0, .slice none 0 0, .slice none 0 0] 54)) 54 #[.int .i64 0, strV [], strV [], .int .i64 0, .slice none 0 0, .slice none 0 0]).alloc (.cells #[.int .i64 0, strV [], strV [], .int .i64 0, .slice none 0 0, .slice none 0 0] 54)
  have b4 := Blk.new ((((w.alloc (.cells #[.int .i64 p.k, strV p.nm, strV p.to, .int .i64 p.h.pos, .slice A n c, .slice A' n' c'] 54)).alloc (.cells #[.int .i64 q.k, strV q.nm, strV q.to, .int .i64 q.h.pos, .slice D m k, .slice D' m' k'] 54)).alloc (.cells #[.int .i64 0, strV [], strV [], .int .i64 0, .slice none 0 0, .slice none 0 0] 54)).alloc (.cells #[.int .i64 0, strV [], strV [], .int .i64 0, .slice none 0 0, .slice none 0 0] 54)) 54 #[.int .i64 0, strV [], strV [], .int .i64 0, .slice none 0 0, .slice none 0 0]
  simp only [World.size_alloc] at b1 b2 b3 b4
  generalize (((((w.alloc (.cells #[.int .i64 p.k, strV p.nm, strV p.to, .int .i64 p.h.pos, .slice A n c, .slice A' n' c'] 54)).alloc (.cells #[.int .i64 q.k, strV q.nm, strV q.to, .int .i64 q.h.pos, .slice D m k, .slice D' m' k'] 54)).alloc (.cells #[.int .i64 0, strV [], strV [], .int .i64 0, .slice none 0 0, .slice none 0 0] 54)).alloc (.cells #[.int .i64 0, strV [], strV [], .int .i64 0, .slice none 0 0, .slice none 0 0] 54)).alloc (.cells #[.int .i64 0, strV [], strV [], .int .i64 0, .slice none 0 0, .slice none 0 0] 54)) = w0 at *
  obtain ⟨g, hgs⟩ : ∃ g, w.heap.size = g := ⟨_, rfl⟩
  rw [hgs] at b0 b1 b2 b3 b4 ⊢
  rw [show g + 1 + 1 = g + 2 from rfl] at b2 b3 b4 ⊢
  rw [show g + 2 + 1 = g + 3 from rfl] at b3 b4 ⊢
  rw [show g + 3 + 1 = g + 4 from rfl] at b4 ⊢
  have HGS := Lib.hid hgs
  have hv0 := HV0.out.mv hw0; have gv0 := GV0.out.mv hw0
  rw [hgs] at hw0
  have HW0 := Lib.hid hw0
  have HB0w0 := Lib.hid b0; have HB1w0 := Lib.hid b1; have HB2w0 := Lib.hid b2; have HB3w0 := Lib.hid b3; have HB4w0 := Lib.hid b4
  clear hgs b0 b1 b2 b3 b4 hw0
  obtain ⟨bp, hbp⟩ : ∃ b, mayP p = b := ⟨_, rfl⟩
  obtain ⟨bq, hbq⟩ : ∃ b, mayP q = b := ⟨_, rfl⟩
  obtain ⟨ba, hba⟩ : ∃ b, apartP p q = b := ⟨_, rfl⟩
  have HBP := Lib.hid hbp; have HBQ := Lib.hid hbq; have HBA := Lib.hid hba
  clear hbp hbq hba
  have HWw0 := HW0
  have HVw0 := Lib.hid hv0; have GVw0 := Lib.hid gv0
  clear hv0 gv0 HW0
  have HGw0 := Lib.hid (show g ≤ w0.heap.size by have := HB4w0.out.lt; omega)
  refine (refMayP A n c A' n' c' _ p w0 bp (Nat.le_refl _) HVw0.out HBP.out).mono ?_
  rintro e w1 ⟨rfl, hb⟩
  have HVw1 := Lib.hid (HVw0.out.mv hb); have GVw1 := Lib.hid (GVw0.out.mv hb); clear HVw0 GVw0
  have HWw1 := Lib.hid (HWw0.out.trans (hb.mono HGw0.out)); have HGw1 := Lib.hid (Nat.le_trans HGw0.out hb.size)
  have HB0w1 := Lib.hid (HB0w0.out.below hb HB0w0.out.lt); have HB1w1 := Lib.hid (HB1w0.out.below hb HB1w0.out.lt); have HB2w1 := Lib.hid (HB2w0.out.below hb HB2w0.out.lt); have HB3w1 := Lib.hid (HB3w0.out.below hb HB3w0.out.lt); have HB4w1 := Lib.hid (HB4w0.out.below hb HB4w0.out.lt)
  clear hb HWw0 HGw0 HB0w0 HB1w0 HB2w0 HB3w0 HB4w0
  have x0 : w1.cell? ⟨g, 0, none⟩ = some (.int .i64 p.k) := HB0w1.out.cell 0 rfl; have x1 : w1.cell? ⟨g, 1, none⟩ = some (strV p.nm) := HB0w1.out.cell 1 rfl; have x2 : w1.cell? ⟨g, 2, none⟩ = some (strV p.to) := HB0w1.out.cell 2 rfl; have x3 : w1.cell? ⟨g, 3, none⟩ = some (.int .i64 p.h.pos) := HB0w1.out.cell 3 rfl; have x4 : w1.cell? ⟨g, 4, none⟩ = some (.slice A n c) := HB0w1.out.cell 4 rfl; have x5 : w1.cell? ⟨g, 5, none⟩ = some (.slice A' n' c') := HB0w1.out.cell 5 rfl
  have y0 : w1.cell? ⟨g + 1, 0, none⟩ = some (.int .i64 q.k) := HB1w1.out.cell 0 rfl; have y1 : w1.cell? ⟨g + 1, 1, none⟩ = some (strV q.nm) := HB1w1.out.cell 1 rfl; have y2 : w1.cell? ⟨g + 1, 2, none⟩ = some (strV q.to) := HB1w1.out.cell 2 rfl; have y3 : w1.cell? ⟨g + 1, 3, none⟩ = some (.int .i64 q.h.pos) := HB1w1.out.cell 3 rfl; have y4 : w1.cell? ⟨g + 1, 4, none⟩ = some (.slice D m k) := HB1w1.out.cell 4 rfl; have y5 : w1.cell? ⟨g + 1, 5, none⟩ = some (.slice D' m' k') := HB1w1.out.cell 5 rfl
  have u0 : w1.cell? ⟨g + 2, 0, none⟩ = some (.int .i64 0) := HB2w1.out.cell 0 rfl; have u1 : w1.cell? ⟨g + 2, 1, none⟩ = some (strV []) := HB2w1.out.cell 1 rfl; have u2 : w1.cell? ⟨g + 2, 2, none⟩ = some (strV []) := HB2w1.out.cell 2 rfl; have u3 : w1.cell? ⟨g + 2, 3, none⟩ = some (.int .i64 0) := HB2w1.out.cell 3 rfl; have u4 : w1.cell? ⟨g + 2, 4, none⟩ = some (.slice none 0 0) := HB2w1.out.cell 4 rfl; have u5 : w1.cell? ⟨g + 2, 5, none⟩ = some (.slice none 0 0) := HB2w1.out.cell 5 rfl
  have v0 : w1.cell? ⟨g + 3, 0, none⟩ = some (.int .i64 0) := HB3w1.out.cell 0 rfl; have v1 : w1.cell? ⟨g + 3, 1, none⟩ = some (strV []) := HB3w1.out.cell 1 rfl; have v2 : w1.cell? ⟨g + 3, 2, none⟩ = some (strV []) := HB3w1.out.cell 2 rfl; have v3 : w1.cell? ⟨g + 3, 3, none⟩ = some (.int .i64 0) := HB3w1.out.cell 3 rfl; have v4 : w1.cell? ⟨g + 3, 4, none⟩ = some (.slice none 0 0) := HB3w1.out.cell 4 rfl; have v5 : w1.cell? ⟨g + 3, 5, none⟩ = some (.slice none 0 0) := HB3w1.out.cell 5 rfl
  have s0 : w1.cell? ⟨g + 4, 0, none⟩ = some (.int .i64 0) := HB4w1.out.cell 0 rfl; have s1 : w1.cell? ⟨g + 4, 1, none⟩ = some (strV []) := HB4w1.out.cell 1 rfl; have s2 : w1.cell? ⟨g + 4, 2, none⟩ = some (strV []) := HB4w1.out.cell 2 rfl; have s3 : w1.cell? ⟨g + 4, 3, none⟩ = some (.int .i64 0) := HB4w1.out.cell 3 rfl; have s4 : w1.cell? ⟨g + 4, 4, none⟩ = some (.slice none 0 0) := HB4w1.out.cell 4 rfl; have s5 : w1.cell? ⟨g + 4, 5, none⟩ = some (.slice none 0 0) := HB4w1.out.cell 5 rfl
  have f0 : w1.frozen? ⟨g + 2, 0, none⟩ = false := HB2w1.out.frozen 0; have h0 : w1.frozen? ⟨g + 3, 0, none⟩ = false := HB3w1.out.frozen 0; have f1 : w1.frozen? ⟨g + 2, 1, none⟩ = false := HB2w1.out.frozen 1; have h1 : w1.frozen? ⟨g + 3, 1, none⟩ = false := HB3w1.out.frozen 1; have f2 : w1.frozen? ⟨g + 2, 2, none⟩ = false := HB2w1.out.frozen 2; have h2 : w1.frozen? ⟨g + 3, 2, none⟩ = false := HB3w1.out.frozen 2; have f3 : w1.frozen? ⟨g + 2, 3, none⟩ = false := HB2w1.out.frozen 3; have h3 : w1.frozen? ⟨g + 3, 3, none⟩ = false := HB3w1.out.frozen 3; have f4 : w1.frozen? ⟨g + 2, 4, none⟩ = false := HB2w1.out.frozen 4; have h4 : w1.frozen? ⟨g + 3, 4, none⟩ = false := HB3w1.out.frozen 4; have f5 : w1.frozen? ⟨g + 2, 5, none⟩ = false := HB2w1.out.frozen 5; have h5 : w1.frozen? ⟨g + 3, 5, none⟩ = false := HB3w1.out.frozen 5
  go_wp2_with fail
  clear x0 y0 u0 v0 s0 f0 h0 x1 y1 u1 v1 s1 f1 h1 x2 y2 u2 v2 s2 f2 h2 x3 y3 u3 v3 s3 f3 h3 x4 y4 u4 v4 s4 f4 h4 x5 y5 u5 v5 s5 f5 h5
  refine (refMayP D m k D' m' k' _ q w1 bq (Nat.le_refl _) GVw1.out HBQ.out).mono ?_
  rintro e w2 ⟨rfl, hb⟩
  have HVw2 := Lib.hid (HVw1.out.mv hb); have GVw2 := Lib.hid (GVw1.out.mv hb); clear HVw1 GVw1
  have HWw2 := Lib.hid (HWw1.out.trans (hb.mono HGw1.out)); have HGw2 := Lib.hid (Nat.le_trans HGw1.out hb.size)
  have HB0w2 := Lib.hid (HB0w1.out.below hb HB0w1.out.lt); have HB1w2 := Lib.hid (HB1w1.out.below hb HB1w1.out.lt); have HB2w2 := Lib.hid (HB2w1.out.below hb HB2w1.out.lt); have HB3w2 := Lib.hid (HB3w1.out.below hb HB3w1.out.lt); have HB4w2 := Lib.hid (HB4w1.out.below hb HB4w1.out.lt)
  clear hb HWw1 HGw1 HB0w1 HB1w1 HB2w1 HB3w1 HB4w1
  have x0 : w2.cell? ⟨g, 0, none⟩ = some (.int .i64 p.k) := HB0w2.out.cell 0 rfl; have x1 : w2.cell? ⟨g, 1, none⟩ = some (strV p.nm) := HB0w2.out.cell 1 rfl; have x2 : w2.cell? ⟨g, 2, none⟩ = some (strV p.to) := HB0w2.out.cell 2 rfl; have x3 : w2.cell? ⟨g, 3, none⟩ = some (.int .i64 p.h.pos) := HB0w2.out.cell 3 rfl; have x4 : w2.cell? ⟨g, 4, none⟩ = some (.slice A n c) := HB0w2.out.cell 4 rfl; have x5 : w2.cell? ⟨g, 5, none⟩ = some (.slice A' n' c') := HB0w2.out.cell 5 rfl
  have y0 : w2.cell? ⟨g + 1, 0, none⟩ = some (.int .i64 q.k) := HB1w2.out.cell 0 rfl; have y1 : w2.cell? ⟨g + 1, 1, none⟩ = some (strV q.nm) := HB1w2.out.cell 1 rfl; have y2 : w2.cell? ⟨g + 1, 2, none⟩ = some (strV q.to) := HB1w2.out.cell 2 rfl; have y3 : w2.cell? ⟨g + 1, 3, none⟩ = some (.int .i64 q.h.pos) := HB1w2.out.cell 3 rfl; have y4 : w2.cell? ⟨g + 1, 4, none⟩ = some (.slice D m k) := HB1w2.out.cell 4 rfl; have y5 : w2.cell? ⟨g + 1, 5, none⟩ = some (.slice D' m' k') := HB1w2.out.cell 5 rfl
  have u0 : w2.cell? ⟨g + 2, 0, none⟩ = some (.int .i64 0) := HB2w2.out.cell 0 rfl; have u1 : w2.cell? ⟨g + 2, 1, none⟩ = some (strV []) := HB2w2.out.cell 1 rfl; have u2 : w2.cell? ⟨g + 2, 2, none⟩ = some (strV []) := HB2w2.out.cell 2 rfl; have u3 : w2.cell? ⟨g + 2, 3, none⟩ = some (.int .i64 0) := HB2w2.out.cell 3 rfl; have u4 : w2.cell? ⟨g + 2, 4, none⟩ = some (.slice none 0 0) := HB2w2.out.cell 4 rfl; have u5 : w2.cell? ⟨g + 2, 5, none⟩ = some (.slice none 0 0) := HB2w2.out.cell 5 rfl
  have v0 : w2.cell? ⟨g + 3, 0, none⟩ = some (.int .i64 0) := HB3w2.out.cell 0 rfl; have v1 : w2.cell? ⟨g + 3, 1, none⟩ = some (strV []) := HB3w2.out.cell 1 rfl; have v2 : w2.cell? ⟨g + 3, 2, none⟩ = some (strV []) := HB3w2.out.cell 2 rfl; have v3 : w2.cell? ⟨g + 3, 3, none⟩ = some (.int .i64 0) := HB3w2.out.cell 3 rfl; have v4 : w2.cell? ⟨g + 3, 4, none⟩ = some (.slice none 0 0) := HB3w2.out.cell 4 rfl; have v5 : w2.cell? ⟨g + 3, 5, none⟩ = some (.slice none 0 0) := HB3w2.out.cell 5 rfl
  have s0 : w2.cell? ⟨g + 4, 0, none⟩ = some (.int .i64 0) := HB4w2.out.cell 0 rfl; have s1 : w2.cell? ⟨g + 4, 1, none⟩ = some (strV []) := HB4w2.out.cell 1 rfl; have s2 : w2.cell? ⟨g + 4, 2, none⟩ = some (strV []) := HB4w2.out.cell 2 rfl; have s3 : w2.cell? ⟨g + 4, 3, none⟩ = some (.int .i64 0) := HB4w2.out.cell 3 rfl; have s4 : w2.cell? ⟨g + 4, 4, none⟩ = some (.slice none 0 0) := HB4w2.out.cell 4 rfl; have s5 : w2.cell? ⟨g + 4, 5, none⟩ = some (.slice none 0 0) := HB4w2.out.cell 5 rfl
  have f0 : w2.frozen? ⟨g + 2, 0, none⟩ = false := HB2w2.out.frozen 0; have h0 : w2.frozen? ⟨g + 3, 0, none⟩ = false := HB3w2.out.frozen 0; have f1 : w2.frozen? ⟨g + 2, 1, none⟩ = false := HB2w2.out.frozen 1; have h1 : w2.frozen? ⟨g + 3, 1, none⟩ = false := HB3w2.out.frozen 1; have f2 : w2.frozen? ⟨g + 2, 2, none⟩ = false := HB2w2.out.frozen 2; have h2 : w2.frozen? ⟨g + 3, 2, none⟩ = false := HB3w2.out.frozen 2; have f3 : w2.frozen? ⟨g + 2, 3, none⟩ = false := HB2w2.out.frozen 3; have h3 : w2.frozen? ⟨g + 3, 3, none⟩ = false := HB3w2.out.frozen 3; have f4 : w2.frozen? ⟨g + 2, 4, none⟩ = false := HB2w2.out.frozen 4; have h4 : w2.frozen? ⟨g + 3, 4, none⟩ = false := HB3w2.out.frozen 4; have f5 : w2.frozen? ⟨g + 2, 5, none⟩ = false := HB2w2.out.frozen 5; have h5 : w2.frozen? ⟨g + 3, 5, none⟩ = false := HB3w2.out.frozen 5
  cases bp with
  | false =>
    go_wp2_with fail
    go_region
    go_wp2_with fail
    obtain ⟨z2, z3⟩ := two_set6 HB2w2.out HB3w2.out (by omega) (.int .i64 0) (strV []) (strV []) (.int .i64 0) (.slice none 0 0) (.slice none 0 0) (.int .i64 0) (strV []) (strV []) (.int .i64 0) (.slice none 0 0) (.slice none 0 0)
    have hb6 := below_drewN (below_set12 (b := g + 2) (b' := g + 3) HWw2.out (by omega) (by omega) (.int .i64 0) (strV []) (strV []) (.int .i64 0) (.slice none 0 0) (.slice none 0 0) (.int .i64 0) (strV []) (strV []) (.int .i64 0) (.slice none 0 0) (.slice none 0 0)) 1
    have z2 := z2.drewN 1; have z3 := z3.drewN 1
    have hdr : ∀ W : World, W.drewN 1 = W.drew := fun _ => rfl
    rw [hdr] at hb6 z2 z3
    generalize World.drew (World.setCell (World.setCell (World.setCell (World.setCell (World.setCell (World.setCell (World.setCell (World.setCell (World.setCell (World.setCell (World.setCell (World.setCell w2 ⟨g + 2, 0, none⟩ (.int .i64 0)) ⟨g + 2, 1, none⟩ (strV [])) ⟨g + 2, 2, none⟩ (strV [])) ⟨g + 2, 3, none⟩ (.int .i64 0)) ⟨g + 2, 4, none⟩ (.slice none 0 0)) ⟨g + 2, 5, none⟩ (.slice none 0 0)) ⟨g + 3, 0, none⟩ (.int .i64 0)) ⟨g + 3, 1, none⟩ (strV [])) ⟨g + 3, 2, none⟩ (strV [])) ⟨g + 3, 3, none⟩ (.int .i64 0)) ⟨g + 3, 4, none⟩ (.slice none 0 0)) ⟨g + 3, 5, none⟩ (.slice none 0 0)) = W3 at *
    clear u0 v0 s0 u1 v1 s1 u2 v2 s2 u3 v3 s3 u4 v4 s4 u5 v5 s5 f0 h0 f1 h1 f2 h2 f3 h3 f4 h4 f5 h5
    have u0 : W3.cell? ⟨g + 2, 0, none⟩ = some (.int .i64 0) := z2.cell 0 rfl; have u1 : W3.cell? ⟨g + 2, 1, none⟩ = some (strV []) := z2.cell 1 rfl; have u2 : W3.cell? ⟨g + 2, 2, none⟩ = some (strV []) := z2.cell 2 rfl; have u3 : W3.cell? ⟨g + 2, 3, none⟩ = some (.int .i64 0) := z2.cell 3 rfl; have u4 : W3.cell? ⟨g + 2, 4, none⟩ = some (.slice none 0 0) := z2.cell 4 rfl; have u5 : W3.cell? ⟨g + 2, 5, none⟩ = some (.slice none 0 0) := z2.cell 5 rfl
    have v0 : W3.cell? ⟨g + 3, 0, none⟩ = some (.int .i64 0) := z3.cell 0 rfl; have v1 : W3.cell? ⟨g + 3, 1, none⟩ = some (strV []) := z3.cell 1 rfl; have v2 : W3.cell? ⟨g + 3, 2, none⟩ = some (strV []) := z3.cell 2 rfl; have v3 : W3.cell? ⟨g + 3, 3, none⟩ = some (.int .i64 0) := z3.cell 3 rfl; have v4 : W3.cell? ⟨g + 3, 4, none⟩ = some (.slice none 0 0) := z3.cell 4 rfl; have v5 : W3.cell? ⟨g + 3, 5, none⟩ = some (.slice none 0 0) := z3.cell 5 rfl
    refine bodyPost_ret (v := .tuple #[.agg #[.int .i64 0, strV [], strV [], .int .i64 0, .slice none 0 0, .slice none 0 0], .agg #[.int .i64 0, strV [], strV [], .int .i64 0, .slice none 0 0, .slice none 0 0], .bool false]) (by simp [results, Try.results89, go_sem, u0, v0, u1, v1, u2, v2, u3, v3, u4, v4, u5, v5]) rfl ?_
    have hW : Below w.heap.size w W3 := by rw [HGS.out]; exact hb6
    exact ppEndE_none (passP_no1 HBP.out) hW
  | true =>
  cases bq with
  | false =>
    go_wp2_with fail
    go_region
    go_wp2_with fail
    obtain ⟨z2, z3⟩ := two_set6 HB2w2.out HB3w2.out (by omega) (.int .i64 0) (strV []) (strV []) (.int .i64 0) (.slice none 0 0) (.slice none 0 0) (.int .i64 0) (strV []) (strV []) (.int .i64 0) (.slice none 0 0) (.slice none 0 0)
    have hb6 := below_drewN (below_set12 (b := g + 2) (b' := g + 3) HWw2.out (by omega) (by omega) (.int .i64 0) (strV []) (strV []) (.int .i64 0) (.slice none 0 0) (.slice none 0 0) (.int .i64 0) (strV []) (strV []) (.int .i64 0) (.slice none 0 0) (.slice none 0 0)) 1
    have z2 := z2.drewN 1; have z3 := z3.drewN 1
    have hdr : ∀ W : World, W.drewN 1 = W.drew := fun _ => rfl
    rw [hdr] at hb6 z2 z3
    generalize World.drew (World.setCell (World.setCell (World.setCell (World.setCell (World.setCell (World.setCell (World.setCell (World.setCell (World.setCell (World.setCell (World.setCell (World.setCell w2 ⟨g + 2, 0, none⟩ (.int .i64 0)) ⟨g + 2, 1, none⟩ (strV [])) ⟨g + 2, 2, none⟩ (strV [])) ⟨g + 2, 3, none⟩ (.int .i64 0)) ⟨g + 2, 4, none⟩ (.slice none 0 0)) ⟨g + 2, 5, none⟩ (.slice none 0 0)) ⟨g + 3, 0, none⟩ (.int .i64 0)) ⟨g + 3, 1, none⟩ (strV [])) ⟨g + 3, 2, none⟩ (strV [])) ⟨g + 3, 3, none⟩ (.int .i64 0)) ⟨g + 3, 4, none⟩ (.slice none 0 0)) ⟨g + 3, 5, none⟩ (.slice none 0 0)) = W3 at *
    clear u0 v0 s0 u1 v1 s1 u2 v2 s2 u3 v3 s3 u4 v4 s4 u5 v5 s5 f0 h0 f1 h1 f2 h2 f3 h3 f4 h4 f5 h5
    have u0 : W3.cell? ⟨g + 2, 0, none⟩ = some (.int .i64 0) := z2.cell 0 rfl; have u1 : W3.cell? ⟨g + 2, 1, none⟩ = some (strV []) := z2.cell 1 rfl; have u2 : W3.cell? ⟨g + 2, 2, none⟩ = some (strV []) := z2.cell 2 rfl; have u3 : W3.cell? ⟨g + 2, 3, none⟩ = some (.int .i64 0) := z2.cell 3 rfl; have u4 : W3.cell? ⟨g + 2, 4, none⟩ = some (.slice none 0 0) := z2.cell 4 rfl; have u5 : W3.cell? ⟨g + 2, 5, none⟩ = some (.slice none 0 0) := z2.cell 5 rfl
    have v0 : W3.cell? ⟨g + 3, 0, none⟩ = some (.int .i64 0) := z3.cell 0 rfl; have v1 : W3.cell? ⟨g + 3, 1, none⟩ = some (strV []) := z3.cell 1 rfl; have v2 : W3.cell? ⟨g + 3, 2, none⟩ = some (strV []) := z3.cell 2 rfl; have v3 : W3.cell? ⟨g + 3, 3, none⟩ = some (.int .i64 0) := z3.cell 3 rfl; have v4 : W3.cell? ⟨g + 3, 4, none⟩ = some (.slice none 0 0) := z3.cell 4 rfl; have v5 : W3.cell? ⟨g + 3, 5, none⟩ = some (.slice none 0 0) := z3.cell 5 rfl
    refine bodyPost_ret (v := .tuple #[.agg #[.int .i64 0, strV [], strV [], .int .i64 0, .slice none 0 0, .slice none 0 0], .agg #[.int .i64 0, strV [], strV [], .int .i64 0, .slice none 0 0, .slice none 0 0], .bool false]) (by simp [results, Try.results89, go_sem, u0, v0, u1, v1, u2, v2, u3, v3, u4, v4, u5, v5]) rfl ?_
    have hW : Below w.heap.size w W3 := by rw [HGS.out]; exact hb6
    exact ppEndE_none (passP_no2 HBQ.out) hW
  | true =>
  go_wp2_with fail
  clear x0 y0 u0 v0 s0 f0 h0 x1 y1 u1 v1 s1 f1 h1 x2 y2 u2 v2 s2 f2 h2 x3 y3 u3 v3 s3 f3 h3 x4 y4 u4 v4 s4 f4 h4 x5 y5 u5 v5 s5 f5 h5
  refine (refApart A n c A' n' c' D m k D' m' k' p q w2 ba HBA.out).mono ?_
  rintro e w3 ⟨rfl, hb⟩
  have HVw3 := Lib.hid (HVw2.out.mv hb); have GVw3 := Lib.hid (GVw2.out.mv hb); clear HVw2 GVw2
  have HWw3 := Lib.hid (HWw2.out.trans (hb.mono HGw2.out)); have HGw3 := Lib.hid (Nat.le_trans HGw2.out hb.size)
  have HB0w3 := Lib.hid (HB0w2.out.below hb HB0w2.out.lt); have HB1w3 := Lib.hid (HB1w2.out.below hb HB1w2.out.lt); have HB2w3 := Lib.hid (HB2w2.out.below hb HB2w2.out.lt); have HB3w3 := Lib.hid (HB3w2.out.below hb HB3w2.out.lt); have HB4w3 := Lib.hid (HB4w2.out.below hb HB4w2.out.lt)
  clear hb HWw2 HGw2 HB0w2 HB1w2 HB2w2 HB3w2 HB4w2
  have x0 : w3.cell? ⟨g, 0, none⟩ = some (.int .i64 p.k) := HB0w3.out.cell 0 rfl; have x1 : w3.cell? ⟨g, 1, none⟩ = some (strV p.nm) := HB0w3.out.cell 1 rfl; have x2 : w3.cell? ⟨g, 2, none⟩ = some (strV p.to) := HB0w3.out.cell 2 rfl; have x3 : w3.cell? ⟨g, 3, none⟩ = some (.int .i64 p.h.pos) := HB0w3.out.cell 3 rfl; have x4 : w3.cell? ⟨g, 4, none⟩ = some (.slice A n c) := HB0w3.out.cell 4 rfl; have x5 : w3.cell? ⟨g, 5, none⟩ = some (.slice A' n' c') := HB0w3.out.cell 5 rfl
  have y0 : w3.cell? ⟨g + 1, 0, none⟩ = some (.int .i64 q.k) := HB1w3.out.cell 0 rfl; have y1 : w3.cell? ⟨g + 1, 1, none⟩ = some (strV q.nm) := HB1w3.out.cell 1 rfl; have y2 : w3.cell? ⟨g + 1, 2, none⟩ = some (strV q.to) := HB1w3.out.cell 2 rfl; have y3 : w3.cell? ⟨g + 1, 3, none⟩ = some (.int .i64 q.h.pos) := HB1w3.out.cell 3 rfl; have y4 : w3.cell? ⟨g + 1, 4, none⟩ = some (.slice D m k) := HB1w3.out.cell 4 rfl; have y5 : w3.cell? ⟨g + 1, 5, none⟩ = some (.slice D' m' k') := HB1w3.out.cell 5 rfl
  have u0 : w3.cell? ⟨g + 2, 0, none⟩ = some (.int .i64 0) := HB2w3.out.cell 0 rfl; have u1 : w3.cell? ⟨g + 2, 1, none⟩ = some (strV []) := HB2w3.out.cell 1 rfl; have u2 : w3.cell? ⟨g + 2, 2, none⟩ = some (strV []) := HB2w3.out.cell 2 rfl; have u3 : w3.cell? ⟨g + 2, 3, none⟩ = some (.int .i64 0) := HB2w3.out.cell 3 rfl; have u4 : w3.cell? ⟨g + 2, 4, none⟩ = some (.slice none 0 0) := HB2w3.out.cell 4 rfl; have u5 : w3.cell? ⟨g + 2, 5, none⟩ = some (.slice none 0 0) := HB2w3.out.cell 5 rfl
  have v0 : w3.cell? ⟨g + 3, 0, none⟩ = some (.int .i64 0) := HB3w3.out.cell 0 rfl; have v1 : w3.cell? ⟨g + 3, 1, none⟩ = some (strV []) := HB3w3.out.cell 1 rfl; have v2 : w3.cell? ⟨g + 3, 2, none⟩ = some (strV []) := HB3w3.out.cell 2 rfl; have v3 : w3.cell? ⟨g + 3, 3, none⟩ = some (.int .i64 0) := HB3w3.out.cell 3 rfl; have v4 : w3.cell? ⟨g + 3, 4, none⟩ = some (.slice none 0 0) := HB3w3.out.cell 4 rfl; have v5 : w3.cell? ⟨g + 3, 5, none⟩ = some (.slice none 0 0) := HB3w3.out.cell 5 rfl
  have s0 : w3.cell? ⟨g + 4, 0, none⟩ = some (.int .i64 0) := HB4w3.out.cell 0 rfl; have s1 : w3.cell? ⟨g + 4, 1, none⟩ = some (strV []) := HB4w3.out.cell 1 rfl; have s2 : w3.cell? ⟨g + 4, 2, none⟩ = some (strV []) := HB4w3.out.cell 2 rfl; have s3 : w3.cell? ⟨g + 4, 3, none⟩ = some (.int .i64 0) := HB4w3.out.cell 3 rfl; have s4 : w3.cell? ⟨g + 4, 4, none⟩ = some (.slice none 0 0) := HB4w3.out.cell 4 rfl; have s5 : w3.cell? ⟨g + 4, 5, none⟩ = some (.slice none 0 0) := HB4w3.out.cell 5 rfl
  have f0 : w3.frozen? ⟨g + 2, 0, none⟩ = false := HB2w3.out.frozen 0; have h0 : w3.frozen? ⟨g + 3, 0, none⟩ = false := HB3w3.out.frozen 0; have f1 : w3.frozen? ⟨g + 2, 1, none⟩ = false := HB2w3.out.frozen 1; have h1 : w3.frozen? ⟨g + 3, 1, none⟩ = false := HB3w3.out.frozen 1; have f2 : w3.frozen? ⟨g + 2, 2, none⟩ = false := HB2w3.out.frozen 2; have h2 : w3.frozen? ⟨g + 3, 2, none⟩ = false := HB3w3.out.frozen 2; have f3 : w3.frozen? ⟨g + 2, 3, none⟩ = false := HB2w3.out.frozen 3; have h3 : w3.frozen? ⟨g + 3, 3, none⟩ = false := HB3w3.out.frozen 3; have f4 : w3.frozen? ⟨g + 2, 4, none⟩ = false := HB2w3.out.frozen 4; have h4 : w3.frozen? ⟨g + 3, 4, none⟩ = false := HB3w3.out.frozen 4; have f5 : w3.frozen? ⟨g + 2, 5, none⟩ = false := HB2w3.out.frozen 5; have h5 : w3.frozen? ⟨g + 3, 5, none⟩ = false := HB3w3.out.frozen 5
  cases ba with
  | true =>
    go_wp2_with fail
    go_region
    go_wp2_with fail
    obtain ⟨z2, z3⟩ := two_set6 HB2w3.out HB3w3.out (by omega) (.int .i64 q.k) (strV q.nm) (strV q.to) (.int .i64 q.h.pos) (.slice D m k) (.slice D' m' k') (.int .i64 p.k) (strV p.nm) (strV p.to) (.int .i64 p.h.pos) (.slice A n c) (.slice A' n' c')
    have hb6 := below_drewN (below_set12 (b := g + 2) (b' := g + 3) HWw3.out (by omega) (by omega) (.int .i64 q.k) (strV q.nm) (strV q.to) (.int .i64 q.h.pos) (.slice D m k) (.slice D' m' k') (.int .i64 p.k) (strV p.nm) (strV p.to) (.int .i64 p.h.pos) (.slice A n c) (.slice A' n' c')) 1
    have z2 := z2.drewN 1; have z3 := z3.drewN 1
    have hdr : ∀ W : World, W.drewN 1 = W.drew := fun _ => rfl
    rw [hdr] at hb6 z2 z3
    generalize World.drew (World.setCell (World.setCell (World.setCell (World.setCell (World.setCell (World.setCell (World.setCell (World.setCell (World.setCell (World.setCell (World.setCell (World.setCell w3 ⟨g + 2, 0, none⟩ (.int .i64 q.k)) ⟨g + 2, 1, none⟩ (strV q.nm)) ⟨g + 2, 2, none⟩ (strV q.to)) ⟨g + 2, 3, none⟩ (.int .i64 q.h.pos)) ⟨g + 2, 4, none⟩ (.slice D m k)) ⟨g + 2, 5, none⟩ (.slice D' m' k')) ⟨g + 3, 0, none⟩ (.int .i64 p.k)) ⟨g + 3, 1, none⟩ (strV p.nm)) ⟨g + 3, 2, none⟩ (strV p.to)) ⟨g + 3, 3, none⟩ (.int .i64 p.h.pos)) ⟨g + 3, 4, none⟩ (.slice A n c)) ⟨g + 3, 5, none⟩ (.slice A' n' c')) = W3 at *
    clear u0 v0 s0 u1 v1 s1 u2 v2 s2 u3 v3 s3 u4 v4 s4 u5 v5 s5 f0 h0 f1 h1 f2 h2 f3 h3 f4 h4 f5 h5
    have u0 : W3.cell? ⟨g + 2, 0, none⟩ = some (.int .i64 q.k) := z2.cell 0 rfl; have u1 : W3.cell? ⟨g + 2, 1, none⟩ = some (strV q.nm) := z2.cell 1 rfl; have u2 : W3.cell? ⟨g + 2, 2, none⟩ = some (strV q.to) := z2.cell 2 rfl; have u3 : W3.cell? ⟨g + 2, 3, none⟩ = some (.int .i64 q.h.pos) := z2.cell 3 rfl; have u4 : W3.cell? ⟨g + 2, 4, none⟩ = some (.slice D m k) := z2.cell 4 rfl; have u5 : W3.cell? ⟨g + 2, 5, none⟩ = some (.slice D' m' k') := z2.cell 5 rfl
    have v0 : W3.cell? ⟨g + 3, 0, none⟩ = some (.int .i64 p.k) := z3.cell 0 rfl; have v1 : W3.cell? ⟨g + 3, 1, none⟩ = some (strV p.nm) := z3.cell 1 rfl; have v2 : W3.cell? ⟨g + 3, 2, none⟩ = some (strV p.to) := z3.cell 2 rfl; have v3 : W3.cell? ⟨g + 3, 3, none⟩ = some (.int .i64 p.h.pos) := z3.cell 3 rfl; have v4 : W3.cell? ⟨g + 3, 4, none⟩ = some (.slice A n c) := z3.cell 4 rfl; have v5 : W3.cell? ⟨g + 3, 5, none⟩ = some (.slice A' n' c') := z3.cell 5 rfl
    refine bodyPost_ret (v := .tuple #[.agg #[.int .i64 q.k, strV q.nm, strV q.to, .int .i64 q.h.pos, .slice D m k, .slice D' m' k'], .agg #[.int .i64 p.k, strV p.nm, strV p.to, .int .i64 p.h.pos, .slice A n c, .slice A' n' c'], .bool true]) (by simp [results, Try.results89, go_sem, u0, v0, u1, v1, u2, v2, u3, v3, u4, v4, u5, v5]) rfl ?_
    have hW : Below w.heap.size w W3 := by rw [HGS.out]; exact hb6
    rw [(passP_ap HBP.out HBQ.out HBA.out)]; exact ppEndE_some hW
  | false =>
  by_cases h3 : p.k = 3 ∧ q.k = 3
  · have e1 : (p.k == 3) = true := by simpa using h3.1
    have e2 : (q.k == 3) = true := by simpa using h3.2
    have H3 := Lib.hid h3; clear h3
    go_wp2_with fail
    clear x0 y0 u0 v0 s0 f0 h0 x1 y1 u1 v1 s1 f1 h1 x2 y2 u2 v2 s2 f2 h2 x3 y3 u3 v3 s3 f3 h3 x4 y4 u4 v4 s4 f4 h4 x5 y5 u5 v5 s5 f5 h5
    refine (Sw.refPassE A n c A' n' c' D m k D' m' k' w3.heap.size p.h q.h w3 (Nat.le_refl _) HL.out.1 HL.out.2 GL.out.1 GL.out.2 HVw3.out.h GVw3.out.h HV0.out.s HV0.out.s' GV0.out.s GV0.out.s').mono ?_
    rintro e w4 ⟨hes, hen, hb⟩
    have HWw4 := Lib.hid (HWw3.out.trans (hb.mono HGw3.out)); have HGw4 := Lib.hid (Nat.le_trans HGw3.out hb.size)
    have HB0w4 := Lib.hid (HB0w3.out.below hb HB0w3.out.lt); have HB1w4 := Lib.hid (HB1w3.out.below hb HB1w3.out.lt); have HB2w4 := Lib.hid (HB2w3.out.below hb HB2w3.out.lt); have HB3w4 := Lib.hid (HB3w3.out.below hb HB3w3.out.lt); have HB4w4 := Lib.hid (HB4w3.out.below hb HB4w3.out.lt)
    clear hb HWw3 HGw3 HVw3 GVw3 HB0w3 HB1w3 HB2w3 HB3w3 HB4w3
    cases hz : Sw.passH p.h q.h with
    | none =>
      have HN : Hid (passP p q = none) := Lib.hid (by rw [passP_b HBP.out HBQ.out HBA.out H3.out.1 H3.out.2, hz]; rfl)
      have he := hen hz
      subst he
      clear hz
      clear hes hen
      have hb : Below w4.heap.size w4 ((w4.alloc (.cells #[.int .i64 0, .slice none 0 0, .slice none 0 0] 52)).alloc (.cells #[.int .i64 0, .slice none 0 0, .slice none 0 0] 52)) := two_box _ _ _
      have HBX := Lib.hid ((Blk.new w4 52 #[.int .i64 0, .slice none 0 0, .slice none 0 0]).alloc (.cells #[.int .i64 0, .slice none 0 0, .slice none 0 0] 52))
      have hby := Blk.new (w4.alloc (.cells #[.int .i64 0, .slice none 0 0, .slice none 0 0] 52)) 52 #[.int .i64 0, .slice none 0 0, .slice none 0 0]
      simp only [World.size_alloc] at hby
      have HBY := Lib.hid hby
      clear hby
      have HWw5 := Lib.hid (HWw4.out.trans (hb.mono HGw4.out)); have HGw5 := Lib.hid (Nat.le_trans HGw4.out hb.size)
      have HB0w5 := Lib.hid (HB0w4.out.below hb HB0w4.out.lt); have HB1w5 := Lib.hid (HB1w4.out.below hb HB1w4.out.lt); have HB2w5 := Lib.hid (HB2w4.out.below hb HB2w4.out.lt); have HB3w5 := Lib.hid (HB3w4.out.below hb HB3w4.out.lt); have HB4w5 := Lib.hid (HB4w4.out.below hb HB4w4.out.lt)
      have HG4 := Lib.hid (show g + 4 < w4.heap.size from HB4w4.out.lt)
      clear hb HWw4 HGw4 HB0w4 HB1w4 HB2w4 HB3w4 HB4w4
      go_upto_region 11 with fail
      generalize ((w4.alloc (.cells #[.int .i64 0, .slice none 0 0, .slice none 0 0] 52)).alloc (.cells #[.int .i64 0, .slice none 0 0, .slice none 0 0] 52)) = w5 at *
      generalize w4.heap.size = g5 at *
      have x0 : w5.cell? ⟨g, 0, none⟩ = some (.int .i64 p.k) := HB0w5.out.cell 0 rfl; have x1 : w5.cell? ⟨g, 1, none⟩ = some (strV p.nm) := HB0w5.out.cell 1 rfl; have x2 : w5.cell? ⟨g, 2, none⟩ = some (strV p.to) := HB0w5.out.cell 2 rfl; have x3 : w5.cell? ⟨g, 3, none⟩ = some (.int .i64 p.h.pos) := HB0w5.out.cell 3 rfl; have x4 : w5.cell? ⟨g, 4, none⟩ = some (.slice A n c) := HB0w5.out.cell 4 rfl; have x5 : w5.cell? ⟨g, 5, none⟩ = some (.slice A' n' c') := HB0w5.out.cell 5 rfl
      have y0 : w5.cell? ⟨g + 1, 0, none⟩ = some (.int .i64 q.k) := HB1w5.out.cell 0 rfl; have y1 : w5.cell? ⟨g + 1, 1, none⟩ = some (strV q.nm) := HB1w5.out.cell 1 rfl; have y2 : w5.cell? ⟨g + 1, 2, none⟩ = some (strV q.to) := HB1w5.out.cell 2 rfl; have y3 : w5.cell? ⟨g + 1, 3, none⟩ = some (.int .i64 q.h.pos) := HB1w5.out.cell 3 rfl; have y4 : w5.cell? ⟨g + 1, 4, none⟩ = some (.slice D m k) := HB1w5.out.cell 4 rfl; have y5 : w5.cell? ⟨g + 1, 5, none⟩ = some (.slice D' m' k') := HB1w5.out.cell 5 rfl
      have u0 : w5.cell? ⟨g + 2, 0, none⟩ = some (.int .i64 0) := HB2w5.out.cell 0 rfl; have u1 : w5.cell? ⟨g + 2, 1, none⟩ = some (strV []) := HB2w5.out.cell 1 rfl; have u2 : w5.cell? ⟨g + 2, 2, none⟩ = some (strV []) := HB2w5.out.cell 2 rfl; have u3 : w5.cell? ⟨g + 2, 3, none⟩ = some (.int .i64 0) := HB2w5.out.cell 3 rfl; have u4 : w5.cell? ⟨g + 2, 4, none⟩ = some (.slice none 0 0) := HB2w5.out.cell 4 rfl; have u5 : w5.cell? ⟨g + 2, 5, none⟩ = some (.slice none 0 0) := HB2w5.out.cell 5 rfl
      have v0 : w5.cell? ⟨g + 3, 0, none⟩ = some (.int .i64 0) := HB3w5.out.cell 0 rfl; have v1 : w5.cell? ⟨g + 3, 1, none⟩ = some (strV []) := HB3w5.out.cell 1 rfl; have v2 : w5.cell? ⟨g + 3, 2, none⟩ = some (strV []) := HB3w5.out.cell 2 rfl; have v3 : w5.cell? ⟨g + 3, 3, none⟩ = some (.int .i64 0) := HB3w5.out.cell 3 rfl; have v4 : w5.cell? ⟨g + 3, 4, none⟩ = some (.slice none 0 0) := HB3w5.out.cell 4 rfl; have v5 : w5.cell? ⟨g + 3, 5, none⟩ = some (.slice none 0 0) := HB3w5.out.cell 5 rfl
      have s0 : w5.cell? ⟨g + 4, 0, none⟩ = some (.int .i64 0) := HB4w5.out.cell 0 rfl; have s1 : w5.cell? ⟨g + 4, 1, none⟩ = some (strV []) := HB4w5.out.cell 1 rfl; have s2 : w5.cell? ⟨g + 4, 2, none⟩ = some (strV []) := HB4w5.out.cell 2 rfl; have s3 : w5.cell? ⟨g + 4, 3, none⟩ = some (.int .i64 0) := HB4w5.out.cell 3 rfl; have s4 : w5.cell? ⟨g + 4, 4, none⟩ = some (.slice none 0 0) := HB4w5.out.cell 4 rfl; have s5 : w5.cell? ⟨g + 4, 5, none⟩ = some (.slice none 0 0) := HB4w5.out.cell 5 rfl
      have f0 : w5.frozen? ⟨g + 2, 0, none⟩ = false := HB2w5.out.frozen 0; have h0 : w5.frozen? ⟨g + 3, 0, none⟩ = false := HB3w5.out.frozen 0; have f1 : w5.frozen? ⟨g + 2, 1, none⟩ = false := HB2w5.out.frozen 1; have h1 : w5.frozen? ⟨g + 3, 1, none⟩ = false := HB3w5.out.frozen 1; have f2 : w5.frozen? ⟨g + 2, 2, none⟩ = false := HB2w5.out.frozen 2; have h2 : w5.frozen? ⟨g + 3, 2, none⟩ = false := HB3w5.out.frozen 2; have f3 : w5.frozen? ⟨g + 2, 3, none⟩ = false := HB2w5.out.frozen 3; have h3 : w5.frozen? ⟨g + 3, 3, none⟩ = false := HB3w5.out.frozen 3; have f4 : w5.frozen? ⟨g + 2, 4, none⟩ = false := HB2w5.out.frozen 4; have h4 : w5.frozen? ⟨g + 3, 4, none⟩ = false := HB3w5.out.frozen 4; have f5 : w5.frozen? ⟨g + 2, 5, none⟩ = false := HB2w5.out.frozen 5; have h5 : w5.frozen? ⟨g + 3, 5, none⟩ = false := HB3w5.out.frozen 5
      have ne5 := HG4.out
      have a0 : w5.cell? ⟨g5, 0, none⟩ = some (.int .i64 0) := HBX.out.cell 0 rfl; have a1 : w5.cell? ⟨g5, 1, none⟩ = some (.slice none 0 0) := HBX.out.cell 1 rfl; have a2 : w5.cell? ⟨g5, 2, none⟩ = some (.slice none 0 0) := HBX.out.cell 2 rfl
      have b0 : w5.cell? ⟨g5 + 1, 0, none⟩ = some (.int .i64 0) := HBY.out.cell 0 rfl; have b1 : w5.cell? ⟨g5 + 1, 1, none⟩ = some (.slice none 0 0) := HBY.out.cell 1 rfl; have b2 : w5.cell? ⟨g5 + 1, 2, none⟩ = some (.slice none 0 0) := HBY.out.cell 2 rfl
      go_wp2_with fail
      go_region
      go_wp2_with fail
      obtain ⟨z2, z3⟩ := two_set6 HB2w5.out HB3w5.out (by omega) (.int .i64 0) (strV []) (strV []) (.int .i64 0) (.slice none 0 0) (.slice none 0 0) (.int .i64 0) (strV []) (strV []) (.int .i64 0) (.slice none 0 0) (.slice none 0 0)
      have hb6 := below_drewN (below_set12 (b := g + 2) (b' := g + 3) HWw5.out (by omega) (by omega) (.int .i64 0) (strV []) (strV []) (.int .i64 0) (.slice none 0 0) (.slice none 0 0) (.int .i64 0) (strV []) (strV []) (.int .i64 0) (.slice none 0 0) (.slice none 0 0)) 1
      have z2 := z2.drewN 1; have z3 := z3.drewN 1
      have hdr : ∀ W : World, W.drewN 1 = W.drew := fun _ => rfl
      rw [hdr] at hb6 z2 z3
      generalize World.drew (World.setCell (World.setCell (World.setCell (World.setCell (World.setCell (World.setCell (World.setCell (World.setCell (World.setCell (World.setCell (World.setCell (World.setCell w5 ⟨g + 2, 0, none⟩ (.int .i64 0)) ⟨g + 2, 1, none⟩ (strV [])) ⟨g + 2, 2, none⟩ (strV [])) ⟨g + 2, 3, none⟩ (.int .i64 0)) ⟨g + 2, 4, none⟩ (.slice none 0 0)) ⟨g + 2, 5, none⟩ (.slice none 0 0)) ⟨g + 3, 0, none⟩ (.int .i64 0)) ⟨g + 3, 1, none⟩ (strV [])) ⟨g + 3, 2, none⟩ (strV [])) ⟨g + 3, 3, none⟩ (.int .i64 0)) ⟨g + 3, 4, none⟩ (.slice none 0 0)) ⟨g + 3, 5, none⟩ (.slice none 0 0)) = W3 at *
      clear u0 v0 s0 u1 v1 s1 u2 v2 s2 u3 v3 s3 u4 v4 s4 u5 v5 s5 f0 h0 f1 h1 f2 h2 f3 h3 f4 h4 f5 h5
      have u0 : W3.cell? ⟨g + 2, 0, none⟩ = some (.int .i64 0) := z2.cell 0 rfl; have u1 : W3.cell? ⟨g + 2, 1, none⟩ = some (strV []) := z2.cell 1 rfl; have u2 : W3.cell? ⟨g + 2, 2, none⟩ = some (strV []) := z2.cell 2 rfl; have u3 : W3.cell? ⟨g + 2, 3, none⟩ = some (.int .i64 0) := z2.cell 3 rfl; have u4 : W3.cell? ⟨g + 2, 4, none⟩ = some (.slice none 0 0) := z2.cell 4 rfl; have u5 : W3.cell? ⟨g + 2, 5, none⟩ = some (.slice none 0 0) := z2.cell 5 rfl
      have v0 : W3.cell? ⟨g + 3, 0, none⟩ = some (.int .i64 0) := z3.cell 0 rfl; have v1 : W3.cell? ⟨g + 3, 1, none⟩ = some (strV []) := z3.cell 1 rfl; have v2 : W3.cell? ⟨g + 3, 2, none⟩ = some (strV []) := z3.cell 2 rfl; have v3 : W3.cell? ⟨g + 3, 3, none⟩ = some (.int .i64 0) := z3.cell 3 rfl; have v4 : W3.cell? ⟨g + 3, 4, none⟩ = some (.slice none 0 0) := z3.cell 4 rfl; have v5 : W3.cell? ⟨g + 3, 5, none⟩ = some (.slice none 0 0) := z3.cell 5 rfl
      refine bodyPost_ret (v := .tuple #[.agg #[.int .i64 0, strV [], strV [], .int .i64 0, .slice none 0 0, .slice none 0 0], .agg #[.int .i64 0, strV [], strV [], .int .i64 0, .slice none 0 0, .slice none 0 0], .bool false]) (by simp [results, Try.results89, go_sem, u0, v0, u1, v1, u2, v2, u3, v3, u4, v4, u5, v5]) rfl ?_
      have hW : Below w.heap.size w W3 := by rw [HGS.out]; exact hb6
      exact ppEndE_none HN.out hW
    | some z =>
    obtain ⟨hx, hy⟩ := z
    have HS : Hid (passP p q = some (⟨q.k, q.nm, q.to, hx⟩, ⟨p.k, p.nm, p.to, hy⟩)) := Lib.hid (by rw [passP_b HBP.out HBQ.out HBA.out H3.out.1 H3.out.2, hz]; rfl)
    have he := hes _ hz
    subst he
    clear hz
    clear hes hen
    have hb : Below w4.heap.size w4 ((w4.alloc (.cells #[.int .i64 hx.pos, .slice D m k, .slice D' m' k'] 52)).alloc (.cells #[.int .i64 hy.pos, .slice A n c, .slice A' n' c'] 52)) := two_box _ _ _
    have HBX := Lib.hid ((Blk.new w4 52 #[.int .i64 hx.pos, .slice D m k, .slice D' m' k']).alloc (.cells #[.int .i64 hy.pos, .slice A n c, .slice A' n' c'] 52))
    have hby := Blk.new (w4.alloc (.cells #[.int .i64 hx.pos, .slice D m k, .slice D' m' k'] 52)) 52 #[.int .i64 hy.pos, .slice A n c, .slice A' n' c']
    simp only [World.size_alloc] at hby
    have HBY := Lib.hid hby
    clear hby
    have HWw5 := Lib.hid (HWw4.out.trans (hb.mono HGw4.out)); have HGw5 := Lib.hid (Nat.le_trans HGw4.out hb.size)
    have HB0w5 := Lib.hid (HB0w4.out.below hb HB0w4.out.lt); have HB1w5 := Lib.hid (HB1w4.out.below hb HB1w4.out.lt); have HB2w5 := Lib.hid (HB2w4.out.below hb HB2w4.out.lt); have HB3w5 := Lib.hid (HB3w4.out.below hb HB3w4.out.lt); have HB4w5 := Lib.hid (HB4w4.out.below hb HB4w4.out.lt)
    have HG4 := Lib.hid (show g + 4 < w4.heap.size from HB4w4.out.lt)
    clear hb HWw4 HGw4 HB0w4 HB1w4 HB2w4 HB3w4 HB4w4
    go_upto_region 11 with fail
    generalize ((w4.alloc (.cells #[.int .i64 hx.pos, .slice D m k, .slice D' m' k'] 52)).alloc (.cells #[.int .i64 hy.pos, .slice A n c, .slice A' n' c'] 52)) = w5 at *
    generalize w4.heap.size = g5 at *
    have x0 : w5.cell? ⟨g, 0, none⟩ = some (.int .i64 p.k) := HB0w5.out.cell 0 rfl; have x1 : w5.cell? ⟨g, 1, none⟩ = some (strV p.nm) := HB0w5.out.cell 1 rfl; have x2 : w5.cell? ⟨g, 2, none⟩ = some (strV p.to) := HB0w5.out.cell 2 rfl; have x3 : w5.cell? ⟨g, 3, none⟩ = some (.int .i64 p.h.pos) := HB0w5.out.cell 3 rfl; have x4 : w5.cell? ⟨g, 4, none⟩ = some (.slice A n c) := HB0w5.out.cell 4 rfl; have x5 : w5.cell? ⟨g, 5, none⟩ = some (.slice A' n' c') := HB0w5.out.cell 5 rfl
    have y0 : w5.cell? ⟨g + 1, 0, none⟩ = some (.int .i64 q.k) := HB1w5.out.cell 0 rfl; have y1 : w5.cell? ⟨g + 1, 1, none⟩ = some (strV q.nm) := HB1w5.out.cell 1 rfl; have y2 : w5.cell? ⟨g + 1, 2, none⟩ = some (strV q.to) := HB1w5.out.cell 2 rfl; have y3 : w5.cell? ⟨g + 1, 3, none⟩ = some (.int .i64 q.h.pos) := HB1w5.out.cell 3 rfl; have y4 : w5.cell? ⟨g + 1, 4, none⟩ = some (.slice D m k) := HB1w5.out.cell 4 rfl; have y5 : w5.cell? ⟨g + 1, 5, none⟩ = some (.slice D' m' k') := HB1w5.out.cell 5 rfl
    have u0 : w5.cell? ⟨g + 2, 0, none⟩ = some (.int .i64 0) := HB2w5.out.cell 0 rfl; have u1 : w5.cell? ⟨g + 2, 1, none⟩ = some (strV []) := HB2w5.out.cell 1 rfl; have u2 : w5.cell? ⟨g + 2, 2, none⟩ = some (strV []) := HB2w5.out.cell 2 rfl; have u3 : w5.cell? ⟨g + 2, 3, none⟩ = some (.int .i64 0) := HB2w5.out.cell 3 rfl; have u4 : w5.cell? ⟨g + 2, 4, none⟩ = some (.slice none 0 0) := HB2w5.out.cell 4 rfl; have u5 : w5.cell? ⟨g + 2, 5, none⟩ = some (.slice none 0 0) := HB2w5.out.cell 5 rfl
    have v0 : w5.cell? ⟨g + 3, 0, none⟩ = some (.int .i64 0) := HB3w5.out.cell 0 rfl; have v1 : w5.cell? ⟨g + 3, 1, none⟩ = some (strV []) := HB3w5.out.cell 1 rfl; have v2 : w5.cell? ⟨g + 3, 2, none⟩ = some (strV []) := HB3w5.out.cell 2 rfl; have v3 : w5.cell? ⟨g + 3, 3, none⟩ = some (.int .i64 0) := HB3w5.out.cell 3 rfl; have v4 : w5.cell? ⟨g + 3, 4, none⟩ = some (.slice none 0 0) := HB3w5.out.cell 4 rfl; have v5 : w5.cell? ⟨g + 3, 5, none⟩ = some (.slice none 0 0) := HB3w5.out.cell 5 rfl
    have s0 : w5.cell? ⟨g + 4, 0, none⟩ = some (.int .i64 0) := HB4w5.out.cell 0 rfl; have s1 : w5.cell? ⟨g + 4, 1, none⟩ = some (strV []) := HB4w5.out.cell 1 rfl; have s2 : w5.cell? ⟨g + 4, 2, none⟩ = some (strV []) := HB4w5.out.cell 2 rfl; have s3 : w5.cell? ⟨g + 4, 3, none⟩ = some (.int .i64 0) := HB4w5.out.cell 3 rfl; have s4 : w5.cell? ⟨g + 4, 4, none⟩ = some (.slice none 0 0) := HB4w5.out.cell 4 rfl; have s5 : w5.cell? ⟨g + 4, 5, none⟩ = some (.slice none 0 0) := HB4w5.out.cell 5 rfl
    have f0 : w5.frozen? ⟨g + 2, 0, none⟩ = false := HB2w5.out.frozen 0; have h0 : w5.frozen? ⟨g + 3, 0, none⟩ = false := HB3w5.out.frozen 0; have f1 : w5.frozen? ⟨g + 2, 1, none⟩ = false := HB2w5.out.frozen 1; have h1 : w5.frozen? ⟨g + 3, 1, none⟩ = false := HB3w5.out.frozen 1; have f2 : w5.frozen? ⟨g + 2, 2, none⟩ = false := HB2w5.out.frozen 2; have h2 : w5.frozen? ⟨g + 3, 2, none⟩ = false := HB3w5.out.frozen 2; have f3 : w5.frozen? ⟨g + 2, 3, none⟩ = false := HB2w5.out.frozen 3; have h3 : w5.frozen? ⟨g + 3, 3, none⟩ = false := HB3w5.out.frozen 3; have f4 : w5.frozen? ⟨g + 2, 4, none⟩ = false := HB2w5.out.frozen 4; have h4 : w5.frozen? ⟨g + 3, 4, none⟩ = false := HB3w5.out.frozen 4; have f5 : w5.frozen? ⟨g + 2, 5, none⟩ = false := HB2w5.out.frozen 5; have h5 : w5.frozen? ⟨g + 3, 5, none⟩ = false := HB3w5.out.frozen 5
    have ne5 := HG4.out
    have a0 : w5.cell? ⟨g5, 0, none⟩ = some (.int .i64 hx.pos) := HBX.out.cell 0 rfl; have a1 : w5.cell? ⟨g5, 1, none⟩ = some (.slice D m k) := HBX.out.cell 1 rfl; have a2 : w5.cell? ⟨g5, 2, none⟩ = some (.slice D' m' k') := HBX.out.cell 2 rfl
    have b0 : w5.cell? ⟨g5 + 1, 0, none⟩ = some (.int .i64 hy.pos) := HBY.out.cell 0 rfl; have b1 : w5.cell? ⟨g5 + 1, 1, none⟩ = some (.slice A n c) := HBY.out.cell 1 rfl; have b2 : w5.cell? ⟨g5 + 1, 2, none⟩ = some (.slice A' n' c') := HBY.out.cell 2 rfl
    have k3 : w5.frozen? ⟨g, 3, none⟩ = false := HB0w5.out.frozen 3; have l3 : w5.frozen? ⟨g + 1, 3, none⟩ = false := HB1w5.out.frozen 3; have k4 : w5.frozen? ⟨g, 4, none⟩ = false := HB0w5.out.frozen 4; have l4 : w5.frozen? ⟨g + 1, 4, none⟩ = false := HB1w5.out.frozen 4; have k5 : w5.frozen? ⟨g, 5, none⟩ = false := HB0w5.out.frozen 5; have l5 : w5.frozen? ⟨g + 1, 5, none⟩ = false := HB1w5.out.frozen 5
    have HB0w6 := Lib.hid (three_set (b' := g + 1) (blk3 HB0w5.out (.int .i64 hy.pos) (.slice A n c) (.slice A' n' c')) (by omega) (.int .i64 hx.pos) (.slice D m k) (.slice D' m' k'))
    have HB1w6 := Lib.hid (blk3 (three_set (b' := g) HB1w5.out (by omega) (.int .i64 hy.pos) (.slice A n c) (.slice A' n' c')) (.int .i64 hx.pos) (.slice D m k) (.slice D' m' k'))
    have HB2w6 := Lib.hid (three_set (b' := g + 1) (three_set (b' := g) HB2w5.out (by omega) (.int .i64 hy.pos) (.slice A n c) (.slice A' n' c')) (by omega) (.int .i64 hx.pos) (.slice D m k) (.slice D' m' k'))
    have HB3w6 := Lib.hid (three_set (b' := g + 1) (three_set (b' := g) HB3w5.out (by omega) (.int .i64 hy.pos) (.slice A n c) (.slice A' n' c')) (by omega) (.int .i64 hx.pos) (.slice D m k) (.slice D' m' k'))
    have HB4w6 := Lib.hid (three_set (b' := g + 1) (three_set (b' := g) HB4w5.out (by omega) (.int .i64 hy.pos) (.slice A n c) (.slice A' n' c')) (by omega) (.int .i64 hx.pos) (.slice D m k) (.slice D' m' k'))
    have HWw6 := Lib.hid ((((((HWw5.out.setCell (p := ⟨g, 3, none⟩) (Nat.le_refl _) (.int .i64 hy.pos)).setCell (p := ⟨g, 4, none⟩) (Nat.le_refl _) (.slice A n c)).setCell (p := ⟨g, 5, none⟩) (Nat.le_refl _) (.slice A' n' c')).setCell (p := ⟨g + 1, 3, none⟩) (Nat.le_succ _) (.int .i64 hx.pos)).setCell (p := ⟨g + 1, 4, none⟩) (Nat.le_succ _) (.slice D m k)).setCell (p := ⟨g + 1, 5, none⟩) (Nat.le_succ _) (.slice D' m' k'))
    go_upto_region 15 with fail
    generalize (World.setCell (World.setCell (World.setCell (World.setCell (World.setCell (World.setCell w5 ⟨g, 3, none⟩ (.int .i64 hy.pos)) ⟨g, 4, none⟩ (.slice A n c)) ⟨g, 5, none⟩ (.slice A' n' c')) ⟨g + 1, 3, none⟩ (.int .i64 hx.pos)) ⟨g + 1, 4, none⟩ (.slice D m k)) ⟨g + 1, 5, none⟩ (.slice D' m' k')) = w6 at *
    clear a0 b0 a1 b1 a2 b2 k3 l3 k4 l4 k5 l5
    clear x0 y0 u0 v0 s0 f0 h0 x1 y1 u1 v1 s1 f1 h1 x2 y2 u2 v2 s2 f2 h2 x3 y3 u3 v3 s3 f3 h3 x4 y4 u4 v4 s4 f4 h4 x5 y5 u5 v5 s5 f5 h5
    have x0 : w6.cell? ⟨g, 0, none⟩ = some (.int .i64 p.k) := HB0w6.out.cell 0 rfl; have x1 : w6.cell? ⟨g, 1, none⟩ = some (strV p.nm) := HB0w6.out.cell 1 rfl; have x2 : w6.cell? ⟨g, 2, none⟩ = some (strV p.to) := HB0w6.out.cell 2 rfl; have x3 : w6.cell? ⟨g, 3, none⟩ = some (.int .i64 hy.pos) := HB0w6.out.cell 3 rfl; have x4 : w6.cell? ⟨g, 4, none⟩ = some (.slice A n c) := HB0w6.out.cell 4 rfl; have x5 : w6.cell? ⟨g, 5, none⟩ = some (.slice A' n' c') := HB0w6.out.cell 5 rfl
    have y0 : w6.cell? ⟨g + 1, 0, none⟩ = some (.int .i64 q.k) := HB1w6.out.cell 0 rfl; have y1 : w6.cell? ⟨g + 1, 1, none⟩ = some (strV q.nm) := HB1w6.out.cell 1 rfl; have y2 : w6.cell? ⟨g + 1, 2, none⟩ = some (strV q.to) := HB1w6.out.cell 2 rfl; have y3 : w6.cell? ⟨g + 1, 3, none⟩ = some (.int .i64 hx.pos) := HB1w6.out.cell 3 rfl; have y4 : w6.cell? ⟨g + 1, 4, none⟩ = some (.slice D m k) := HB1w6.out.cell 4 rfl; have y5 : w6.cell? ⟨g + 1, 5, none⟩ = some (.slice D' m' k') := HB1w6.out.cell 5 rfl
    have u0 : w6.cell? ⟨g + 2, 0, none⟩ = some (.int .i64 0) := HB2w6.out.cell 0 rfl; have u1 : w6.cell? ⟨g + 2, 1, none⟩ = some (strV []) := HB2w6.out.cell 1 rfl; have u2 : w6.cell? ⟨g + 2, 2, none⟩ = some (strV []) := HB2w6.out.cell 2 rfl; have u3 : w6.cell? ⟨g + 2, 3, none⟩ = some (.int .i64 0) := HB2w6.out.cell 3 rfl; have u4 : w6.cell? ⟨g + 2, 4, none⟩ = some (.slice none 0 0) := HB2w6.out.cell 4 rfl; have u5 : w6.cell? ⟨g + 2, 5, none⟩ = some (.slice none 0 0) := HB2w6.out.cell 5 rfl
    have v0 : w6.cell? ⟨g + 3, 0, none⟩ = some (.int .i64 0) := HB3w6.out.cell 0 rfl; have v1 : w6.cell? ⟨g + 3, 1, none⟩ = some (strV []) := HB3w6.out.cell 1 rfl; have v2 : w6.cell? ⟨g + 3, 2, none⟩ = some (strV []) := HB3w6.out.cell 2 rfl; have v3 : w6.cell? ⟨g + 3, 3, none⟩ = some (.int .i64 0) := HB3w6.out.cell 3 rfl; have v4 : w6.cell? ⟨g + 3, 4, none⟩ = some (.slice none 0 0) := HB3w6.out.cell 4 rfl; have v5 : w6.cell? ⟨g + 3, 5, none⟩ = some (.slice none 0 0) := HB3w6.out.cell 5 rfl
    have s0 : w6.cell? ⟨g + 4, 0, none⟩ = some (.int .i64 0) := HB4w6.out.cell 0 rfl; have s1 : w6.cell? ⟨g + 4, 1, none⟩ = some (strV []) := HB4w6.out.cell 1 rfl; have s2 : w6.cell? ⟨g + 4, 2, none⟩ = some (strV []) := HB4w6.out.cell 2 rfl; have s3 : w6.cell? ⟨g + 4, 3, none⟩ = some (.int .i64 0) := HB4w6.out.cell 3 rfl; have s4 : w6.cell? ⟨g + 4, 4, none⟩ = some (.slice none 0 0) := HB4w6.out.cell 4 rfl; have s5 : w6.cell? ⟨g + 4, 5, none⟩ = some (.slice none 0 0) := HB4w6.out.cell 5 rfl
    have f0 : w6.frozen? ⟨g + 2, 0, none⟩ = false := HB2w6.out.frozen 0; have h0 : w6.frozen? ⟨g + 3, 0, none⟩ = false := HB3w6.out.frozen 0; have f1 : w6.frozen? ⟨g + 2, 1, none⟩ = false := HB2w6.out.frozen 1; have h1 : w6.frozen? ⟨g + 3, 1, none⟩ = false := HB3w6.out.frozen 1; have f2 : w6.frozen? ⟨g + 2, 2, none⟩ = false := HB2w6.out.frozen 2; have h2 : w6.frozen? ⟨g + 3, 2, none⟩ = false := HB3w6.out.frozen 2; have f3 : w6.frozen? ⟨g + 2, 3, none⟩ = false := HB2w6.out.frozen 3; have h3 : w6.frozen? ⟨g + 3, 3, none⟩ = false := HB3w6.out.frozen 3; have f4 : w6.frozen? ⟨g + 2, 4, none⟩ = false := HB2w6.out.frozen 4; have h4 : w6.frozen? ⟨g + 3, 4, none⟩ = false := HB3w6.out.frozen 4; have f5 : w6.frozen? ⟨g + 2, 5, none⟩ = false := HB2w6.out.frozen 5; have h5 : w6.frozen? ⟨g + 3, 5, none⟩ = false := HB3w6.out.frozen 5
    go_wp2_with fail
    go_region
    go_wp2_with fail
    obtain ⟨z2, z3⟩ := two_set6 HB2w6.out HB3w6.out (by omega) (.int .i64 q.k) (strV q.nm) (strV q.to) (.int .i64 hx.pos) (.slice D m k) (.slice D' m' k') (.int .i64 p.k) (strV p.nm) (strV p.to) (.int .i64 hy.pos) (.slice A n c) (.slice A' n' c')
    have hb6 := below_drewN (below_set12 (b := g + 2) (b' := g + 3) HWw6.out (by omega) (by omega) (.int .i64 q.k) (strV q.nm) (strV q.to) (.int .i64 hx.pos) (.slice D m k) (.slice D' m' k') (.int .i64 p.k) (strV p.nm) (strV p.to) (.int .i64 hy.pos) (.slice A n c) (.slice A' n' c')) 1
    have z2 := z2.drewN 1; have z3 := z3.drewN 1
    have hdr : ∀ W : World, W.drewN 1 = W.drew := fun _ => rfl
    rw [hdr] at hb6 z2 z3
    generalize World.drew (World.setCell (World.setCell (World.setCell (World.setCell (World.setCell (World.setCell (World.setCell (World.setCell (World.setCell (World.setCell (World.setCell (World.setCell w6 ⟨g + 2, 0, none⟩ (.int .i64 q.k)) ⟨g + 2, 1, none⟩ (strV q.nm)) ⟨g + 2, 2, none⟩ (strV q.to)) ⟨g + 2, 3, none⟩ (.int .i64 hx.pos)) ⟨g + 2, 4, none⟩ (.slice D m k)) ⟨g + 2, 5, none⟩ (.slice D' m' k')) ⟨g + 3, 0, none⟩ (.int .i64 p.k)) ⟨g + 3, 1, none⟩ (strV p.nm)) ⟨g + 3, 2, none⟩ (strV p.to)) ⟨g + 3, 3, none⟩ (.int .i64 hy.pos)) ⟨g + 3, 4, none⟩ (.slice A n c)) ⟨g + 3, 5, none⟩ (.slice A' n' c')) = W3 at *
    clear u0 v0 s0 u1 v1 s1 u2 v2 s2 u3 v3 s3 u4 v4 s4 u5 v5 s5 f0 h0 f1 h1 f2 h2 f3 h3 f4 h4 f5 h5
    have u0 : W3.cell? ⟨g + 2, 0, none⟩ = some (.int .i64 q.k) := z2.cell 0 rfl; have u1 : W3.cell? ⟨g + 2, 1, none⟩ = some (strV q.nm) := z2.cell 1 rfl; have u2 : W3.cell? ⟨g + 2, 2, none⟩ = some (strV q.to) := z2.cell 2 rfl; have u3 : W3.cell? ⟨g + 2, 3, none⟩ = some (.int .i64 hx.pos) := z2.cell 3 rfl; have u4 : W3.cell? ⟨g + 2, 4, none⟩ = some (.slice D m k) := z2.cell 4 rfl; have u5 : W3.cell? ⟨g + 2, 5, none⟩ = some (.slice D' m' k') := z2.cell 5 rfl
    have v0 : W3.cell? ⟨g + 3, 0, none⟩ = some (.int .i64 p.k) := z3.cell 0 rfl; have v1 : W3.cell? ⟨g + 3, 1, none⟩ = some (strV p.nm) := z3.cell 1 rfl; have v2 : W3.cell? ⟨g + 3, 2, none⟩ = some (strV p.to) := z3.cell 2 rfl; have v3 : W3.cell? ⟨g + 3, 3, none⟩ = some (.int .i64 hy.pos) := z3.cell 3 rfl; have v4 : W3.cell? ⟨g + 3, 4, none⟩ = some (.slice A n c) := z3.cell 4 rfl; have v5 : W3.cell? ⟨g + 3, 5, none⟩ = some (.slice A' n' c') := z3.cell 5 rfl
    refine bodyPost_ret (v := .tuple #[.agg #[.int .i64 q.k, strV q.nm, strV q.to, .int .i64 hx.pos, .slice D m k, .slice D' m' k'], .agg #[.int .i64 p.k, strV p.nm, strV p.to, .int .i64 hy.pos, .slice A n c, .slice A' n' c'], .bool true]) (by simp [results, Try.results89, go_sem, u0, v0, u1, v1, u2, v2, u3, v3, u4, v4, u5, v5]) rfl ?_
    have hW : Below w.heap.size w W3 := by rw [HGS.out]; exact hb6
    rw [HS.out]; exact ppEndE_some hW
  obtain ⟨lp, hlp⟩ : ∃ b, (p.k == 3 || p.k == 4) = b := ⟨_, rfl⟩
  obtain ⟨lq, hlq⟩ : ∃ b, (q.k == 3 || q.k == 4) = b := ⟨_, rfl⟩
  have HLP := Lib.hid hlp; have HLQ := Lib.hid hlq; have H3 := Lib.hid h3
  clear hlp hlq
  have e3 : (p.k == 3) = false ∨ ((p.k == 3) = true ∧ (q.k == 3) = false) := by
    by_cases h : p.k = 3
    · exact .inr ⟨by simpa using h, by simpa using fun h' => h3 ⟨h, h'⟩⟩
    · exact .inl (by simpa using h)
  clear h3
  have HE3 := Lib.hid e3; clear e3
  rcases HE3.out with e1 | ⟨e1, e2⟩
  all_goals
    go_wp2_with fail
    clear e1
    try clear e2
    clear x0 y0 u0 v0 s0 f0 h0 x1 y1 u1 v1 s1 f1 h1 x2 y2 u2 v2 s2 f2 h2 x3 y3 u3 v3 s3 f3 h3 x4 y4 u4 v4 s4 f4 h4 x5 y5 u5 v5 s5 f5 h5
    refine (refLines A n c A' n' c' p w3 lp HLP.out).mono ?_
    rintro e w4 ⟨rfl, hb⟩
    have HVw4 := Lib.hid (HVw3.out.mv hb); have GVw4 := Lib.hid (GVw3.out.mv hb); clear HVw3 GVw3
    have HWw4 := Lib.hid (HWw3.out.trans (hb.mono HGw3.out)); have HGw4 := Lib.hid (Nat.le_trans HGw3.out hb.size)
    have HB0w4 := Lib.hid (HB0w3.out.below hb HB0w3.out.lt); have HB1w4 := Lib.hid (HB1w3.out.below hb HB1w3.out.lt); have HB2w4 := Lib.hid (HB2w3.out.below hb HB2w3.out.lt); have HB3w4 := Lib.hid (HB3w3.out.below hb HB3w3.out.lt); have HB4w4 := Lib.hid (HB4w3.out.below hb HB4w3.out.lt)
    clear hb HWw3 HGw3 HB0w3 HB1w3 HB2w3 HB3w3 HB4w3
    have x0 : w4.cell? ⟨g, 0, none⟩ = some (.int .i64 p.k) := HB0w4.out.cell 0 rfl; have x1 : w4.cell? ⟨g, 1, none⟩ = some (strV p.nm) := HB0w4.out.cell 1 rfl; have x2 : w4.cell? ⟨g, 2, none⟩ = some (strV p.to) := HB0w4.out.cell 2 rfl; have x3 : w4.cell? ⟨g, 3, none⟩ = some (.int .i64 p.h.pos) := HB0w4.out.cell 3 rfl; have x4 : w4.cell? ⟨g, 4, none⟩ = some (.slice A n c) := HB0w4.out.cell 4 rfl; have x5 : w4.cell? ⟨g, 5, none⟩ = some (.slice A' n' c') := HB0w4.out.cell 5 rfl
    have y0 : w4.cell? ⟨g + 1, 0, none⟩ = some (.int .i64 q.k) := HB1w4.out.cell 0 rfl; have y1 : w4.cell? ⟨g + 1, 1, none⟩ = some (strV q.nm) := HB1w4.out.cell 1 rfl; have y2 : w4.cell? ⟨g + 1, 2, none⟩ = some (strV q.to) := HB1w4.out.cell 2 rfl; have y3 : w4.cell? ⟨g + 1, 3, none⟩ = some (.int .i64 q.h.pos) := HB1w4.out.cell 3 rfl; have y4 : w4.cell? ⟨g + 1, 4, none⟩ = some (.slice D m k) := HB1w4.out.cell 4 rfl; have y5 : w4.cell? ⟨g + 1, 5, none⟩ = some (.slice D' m' k') := HB1w4.out.cell 5 rfl
    have u0 : w4.cell? ⟨g + 2, 0, none⟩ = some (.int .i64 0) := HB2w4.out.cell 0 rfl; have u1 : w4.cell? ⟨g + 2, 1, none⟩ = some (strV []) := HB2w4.out.cell 1 rfl; have u2 : w4.cell? ⟨g + 2, 2, none⟩ = some (strV []) := HB2w4.out.cell 2 rfl; have u3 : w4.cell? ⟨g + 2, 3, none⟩ = some (.int .i64 0) := HB2w4.out.cell 3 rfl; have u4 : w4.cell? ⟨g + 2, 4, none⟩ = some (.slice none 0 0) := HB2w4.out.cell 4 rfl; have u5 : w4.cell? ⟨g + 2, 5, none⟩ = some (.slice none 0 0) := HB2w4.out.cell 5 rfl
    have v0 : w4.cell? ⟨g + 3, 0, none⟩ = some (.int .i64 0) := HB3w4.out.cell 0 rfl; have v1 : w4.cell? ⟨g + 3, 1, none⟩ = some (strV []) := HB3w4.out.cell 1 rfl; have v2 : w4.cell? ⟨g + 3, 2, none⟩ = some (strV []) := HB3w4.out.cell 2 rfl; have v3 : w4.cell? ⟨g + 3, 3, none⟩ = some (.int .i64 0) := HB3w4.out.cell 3 rfl; have v4 : w4.cell? ⟨g + 3, 4, none⟩ = some (.slice none 0 0) := HB3w4.out.cell 4 rfl; have v5 : w4.cell? ⟨g + 3, 5, none⟩ = some (.slice none 0 0) := HB3w4.out.cell 5 rfl
    have s0 : w4.cell? ⟨g + 4, 0, none⟩ = some (.int .i64 0) := HB4w4.out.cell 0 rfl; have s1 : w4.cell? ⟨g + 4, 1, none⟩ = some (strV []) := HB4w4.out.cell 1 rfl; have s2 : w4.cell? ⟨g + 4, 2, none⟩ = some (strV []) := HB4w4.out.cell 2 rfl; have s3 : w4.cell? ⟨g + 4, 3, none⟩ = some (.int .i64 0) := HB4w4.out.cell 3 rfl; have s4 : w4.cell? ⟨g + 4, 4, none⟩ = some (.slice none 0 0) := HB4w4.out.cell 4 rfl; have s5 : w4.cell? ⟨g + 4, 5, none⟩ = some (.slice none 0 0) := HB4w4.out.cell 5 rfl
    have f0 : w4.frozen? ⟨g + 2, 0, none⟩ = false := HB2w4.out.frozen 0; have h0 : w4.frozen? ⟨g + 3, 0, none⟩ = false := HB3w4.out.frozen 0; have f1 : w4.frozen? ⟨g + 2, 1, none⟩ = false := HB2w4.out.frozen 1; have h1 : w4.frozen? ⟨g + 3, 1, none⟩ = false := HB3w4.out.frozen 1; have f2 : w4.frozen? ⟨g + 2, 2, none⟩ = false := HB2w4.out.frozen 2; have h2 : w4.frozen? ⟨g + 3, 2, none⟩ = false := HB3w4.out.frozen 2; have f3 : w4.frozen? ⟨g + 2, 3, none⟩ = false := HB2w4.out.frozen 3; have h3 : w4.frozen? ⟨g + 3, 3, none⟩ = false := HB3w4.out.frozen 3; have f4 : w4.frozen? ⟨g + 2, 4, none⟩ = false := HB2w4.out.frozen 4; have h4 : w4.frozen? ⟨g + 3, 4, none⟩ = false := HB3w4.out.frozen 4; have f5 : w4.frozen? ⟨g + 2, 5, none⟩ = false := HB2w4.out.frozen 5; have h5 : w4.frozen? ⟨g + 3, 5, none⟩ = false := HB3w4.out.frozen 5
    go_wp2_with fail
    clear x0 y0 u0 v0 s0 f0 h0 x1 y1 u1 v1 s1 f1 h1 x2 y2 u2 v2 s2 f2 h2 x3 y3 u3 v3 s3 f3 h3 x4 y4 u4 v4 s4 f4 h4 x5 y5 u5 v5 s5 f5 h5
    refine (refLines D m k D' m' k' q w4 lq HLQ.out).mono ?_
    rintro e w5 ⟨rfl, hb⟩
    have HVw5 := Lib.hid (HVw4.out.mv hb); have GVw5 := Lib.hid (GVw4.out.mv hb); clear HVw4 GVw4
    have HWw5 := Lib.hid (HWw4.out.trans (hb.mono HGw4.out)); have HGw5 := Lib.hid (Nat.le_trans HGw4.out hb.size)
    have HB0w5 := Lib.hid (HB0w4.out.below hb HB0w4.out.lt); have HB1w5 := Lib.hid (HB1w4.out.below hb HB1w4.out.lt); have HB2w5 := Lib.hid (HB2w4.out.below hb HB2w4.out.lt); have HB3w5 := Lib.hid (HB3w4.out.below hb HB3w4.out.lt); have HB4w5 := Lib.hid (HB4w4.out.below hb HB4w4.out.lt)
    clear hb HWw4 HGw4 HB0w4 HB1w4 HB2w4 HB3w4 HB4w4
    have x0 : w5.cell? ⟨g, 0, none⟩ = some (.int .i64 p.k) := HB0w5.out.cell 0 rfl; have x1 : w5.cell? ⟨g, 1, none⟩ = some (strV p.nm) := HB0w5.out.cell 1 rfl; have x2 : w5.cell? ⟨g, 2, none⟩ = some (strV p.to) := HB0w5.out.cell 2 rfl; have x3 : w5.cell? ⟨g, 3, none⟩ = some (.int .i64 p.h.pos) := HB0w5.out.cell 3 rfl; have x4 : w5.cell? ⟨g, 4, none⟩ = some (.slice A n c) := HB0w5.out.cell 4 rfl; have x5 : w5.cell? ⟨g, 5, none⟩ = some (.slice A' n' c') := HB0w5.out.cell 5 rfl
    have y0 : w5.cell? ⟨g + 1, 0, none⟩ = some (.int .i64 q.k) := HB1w5.out.cell 0 rfl; have y1 : w5.cell? ⟨g + 1, 1, none⟩ = some (strV q.nm) := HB1w5.out.cell 1 rfl; have y2 : w5.cell? ⟨g + 1, 2, none⟩ = some (strV q.to) := HB1w5.out.cell 2 rfl; have y3 : w5.cell? ⟨g + 1, 3, none⟩ = some (.int .i64 q.h.pos) := HB1w5.out.cell 3 rfl; have y4 : w5.cell? ⟨g + 1, 4, none⟩ = some (.slice D m k) := HB1w5.out.cell 4 rfl; have y5 : w5.cell? ⟨g + 1, 5, none⟩ = some (.slice D' m' k') := HB1w5.out.cell 5 rfl
    have u0 : w5.cell? ⟨g + 2, 0, none⟩ = some (.int .i64 0) := HB2w5.out.cell 0 rfl; have u1 : w5.cell? ⟨g + 2, 1, none⟩ = some (strV []) := HB2w5.out.cell 1 rfl; have u2 : w5.cell? ⟨g + 2, 2, none⟩ = some (strV []) := HB2w5.out.cell 2 rfl; have u3 : w5.cell? ⟨g + 2, 3, none⟩ = some (.int .i64 0) := HB2w5.out.cell 3 rfl; have u4 : w5.cell? ⟨g + 2, 4, none⟩ = some (.slice none 0 0) := HB2w5.out.cell 4 rfl; have u5 : w5.cell? ⟨g + 2, 5, none⟩ = some (.slice none 0 0) := HB2w5.out.cell 5 rfl
    have v0 : w5.cell? ⟨g + 3, 0, none⟩ = some (.int .i64 0) := HB3w5.out.cell 0 rfl; have v1 : w5.cell? ⟨g + 3, 1, none⟩ = some (strV []) := HB3w5.out.cell 1 rfl; have v2 : w5.cell? ⟨g + 3, 2, none⟩ = some (strV []) := HB3w5.out.cell 2 rfl; have v3 : w5.cell? ⟨g + 3, 3, none⟩ = some (.int .i64 0) := HB3w5.out.cell 3 rfl; have v4 : w5.cell? ⟨g + 3, 4, none⟩ = some (.slice none 0 0) := HB3w5.out.cell 4 rfl; have v5 : w5.cell? ⟨g + 3, 5, none⟩ = some (.slice none 0 0) := HB3w5.out.cell 5 rfl
    have s0 : w5.cell? ⟨g + 4, 0, none⟩ = some (.int .i64 0) := HB4w5.out.cell 0 rfl; have s1 : w5.cell? ⟨g + 4, 1, none⟩ = some (strV []) := HB4w5.out.cell 1 rfl; have s2 : w5.cell? ⟨g + 4, 2, none⟩ = some (strV []) := HB4w5.out.cell 2 rfl; have s3 : w5.cell? ⟨g + 4, 3, none⟩ = some (.int .i64 0) := HB4w5.out.cell 3 rfl; have s4 : w5.cell? ⟨g + 4, 4, none⟩ = some (.slice none 0 0) := HB4w5.out.cell 4 rfl; have s5 : w5.cell? ⟨g + 4, 5, none⟩ = some (.slice none 0 0) := HB4w5.out.cell 5 rfl
    have f0 : w5.frozen? ⟨g + 2, 0, none⟩ = false := HB2w5.out.frozen 0; have h0 : w5.frozen? ⟨g + 3, 0, none⟩ = false := HB3w5.out.frozen 0; have f1 : w5.frozen? ⟨g + 2, 1, none⟩ = false := HB2w5.out.frozen 1; have h1 : w5.frozen? ⟨g + 3, 1, none⟩ = false := HB3w5.out.frozen 1; have f2 : w5.frozen? ⟨g + 2, 2, none⟩ = false := HB2w5.out.frozen 2; have h2 : w5.frozen? ⟨g + 3, 2, none⟩ = false := HB3w5.out.frozen 2; have f3 : w5.frozen? ⟨g + 2, 3, none⟩ = false := HB2w5.out.frozen 3; have h3 : w5.frozen? ⟨g + 3, 3, none⟩ = false := HB3w5.out.frozen 3; have f4 : w5.frozen? ⟨g + 2, 4, none⟩ = false := HB2w5.out.frozen 4; have h4 : w5.frozen? ⟨g + 3, 4, none⟩ = false := HB3w5.out.frozen 4; have f5 : w5.frozen? ⟨g + 2, 5, none⟩ = false := HB2w5.out.frozen 5; have h5 : w5.frozen? ⟨g + 3, 5, none⟩ = false := HB3w5.out.frozen 5
    have hs4 := HB4w5.out.lt
    by_cases ho : p.k = 2 ∧ (q.k = 3 ∨ q.k = 4) ∧ q.nm = p.to
    · have e4 : (p.k == 2) = true := by simpa using ho.1
      obtain rfl : lq = true := by rw [← HLQ.out]; rcases ho.2.1 with h | h <;> simp [h]
      have e5 : (q.nm == p.to) = true := by simpa using ho.2.2
      have l1 : w5.frozen? ⟨g + 1, 1, none⟩ = false := HB1w5.out.frozen 1
      have HS : Hid (passP p q = some (⟨q.k, p.nm, q.to, q.h⟩, p)) := Lib.hid (passP_o HBP.out HBQ.out HBA.out ho.1 ho.2.1 ho.2.2)
      clear ho
      have HB1w6 := Lib.hid (show Blk (World.setCell w5 ⟨g + 1, 1, none⟩ (strV p.nm)) (g + 1) 54 #[.int .i64 q.k, strV p.nm, strV q.to, .int .i64 q.h.pos, .slice D m k, .slice D' m' k'] from HB1w5.out.set 1 (strV p.nm))
      have HB0w6 := Lib.hid (HB0w5.out.set_ne (show g ≠ g + 1 from by omega) 1 (strV p.nm))
      have HB2w6 := Lib.hid (HB2w5.out.set_ne (show g + 2 ≠ g + 1 from by omega) 1 (strV p.nm))
      have HB3w6 := Lib.hid (HB3w5.out.set_ne (show g + 3 ≠ g + 1 from by omega) 1 (strV p.nm))
      have HB4w6 := Lib.hid (HB4w5.out.set_ne (show g + 4 ≠ g + 1 from by omega) 1 (strV p.nm))
      have HWw6 := Lib.hid (HWw5.out.setCell (p := ⟨g + 1, 1, none⟩) (Nat.le_succ _) (strV p.nm))
      go_upto_region 20 with fail
      generalize (World.setCell w5 ⟨g + 1, 1, none⟩ (strV p.nm)) = w6 at *
      clear l1
      clear x0 y0 u0 v0 s0 f0 h0 x1 y1 u1 v1 s1 f1 h1 x2 y2 u2 v2 s2 f2 h2 x3 y3 u3 v3 s3 f3 h3 x4 y4 u4 v4 s4 f4 h4 x5 y5 u5 v5 s5 f5 h5
      have x0 : w6.cell? ⟨g, 0, none⟩ = some (.int .i64 p.k) := HB0w6.out.cell 0 rfl; have x1 : w6.cell? ⟨g, 1, none⟩ = some (strV p.nm) := HB0w6.out.cell 1 rfl; have x2 : w6.cell? ⟨g, 2, none⟩ = some (strV p.to) := HB0w6.out.cell 2 rfl; have x3 : w6.cell? ⟨g, 3, none⟩ = some (.int .i64 p.h.pos) := HB0w6.out.cell 3 rfl; have x4 : w6.cell? ⟨g, 4, none⟩ = some (.slice A n c) := HB0w6.out.cell 4 rfl; have x5 : w6.cell? ⟨g, 5, none⟩ = some (.slice A' n' c') := HB0w6.out.cell 5 rfl
      have y0 : w6.cell? ⟨g + 1, 0, none⟩ = some (.int .i64 q.k) := HB1w6.out.cell 0 rfl; have y1 : w6.cell? ⟨g + 1, 1, none⟩ = some (strV p.nm) := HB1w6.out.cell 1 rfl; have y2 : w6.cell? ⟨g + 1, 2, none⟩ = some (strV q.to) := HB1w6.out.cell 2 rfl; have y3 : w6.cell? ⟨g + 1, 3, none⟩ = some (.int .i64 q.h.pos) := HB1w6.out.cell 3 rfl; have y4 : w6.cell? ⟨g + 1, 4, none⟩ = some (.slice D m k) := HB1w6.out.cell 4 rfl; have y5 : w6.cell? ⟨g + 1, 5, none⟩ = some (.slice D' m' k') := HB1w6.out.cell 5 rfl
      have u0 : w6.cell? ⟨g + 2, 0, none⟩ = some (.int .i64 0) := HB2w6.out.cell 0 rfl; have u1 : w6.cell? ⟨g + 2, 1, none⟩ = some (strV []) := HB2w6.out.cell 1 rfl; have u2 : w6.cell? ⟨g + 2, 2, none⟩ = some (strV []) := HB2w6.out.cell 2 rfl; have u3 : w6.cell? ⟨g + 2, 3, none⟩ = some (.int .i64 0) := HB2w6.out.cell 3 rfl; have u4 : w6.cell? ⟨g + 2, 4, none⟩ = some (.slice none 0 0) := HB2w6.out.cell 4 rfl; have u5 : w6.cell? ⟨g + 2, 5, none⟩ = some (.slice none 0 0) := HB2w6.out.cell 5 rfl
      have v0 : w6.cell? ⟨g + 3, 0, none⟩ = some (.int .i64 0) := HB3w6.out.cell 0 rfl; have v1 : w6.cell? ⟨g + 3, 1, none⟩ = some (strV []) := HB3w6.out.cell 1 rfl; have v2 : w6.cell? ⟨g + 3, 2, none⟩ = some (strV []) := HB3w6.out.cell 2 rfl; have v3 : w6.cell? ⟨g + 3, 3, none⟩ = some (.int .i64 0) := HB3w6.out.cell 3 rfl; have v4 : w6.cell? ⟨g + 3, 4, none⟩ = some (.slice none 0 0) := HB3w6.out.cell 4 rfl; have v5 : w6.cell? ⟨g + 3, 5, none⟩ = some (.slice none 0 0) := HB3w6.out.cell 5 rfl
      have s0 : w6.cell? ⟨g + 4, 0, none⟩ = some (.int .i64 0) := HB4w6.out.cell 0 rfl; have s1 : w6.cell? ⟨g + 4, 1, none⟩ = some (strV []) := HB4w6.out.cell 1 rfl; have s2 : w6.cell? ⟨g + 4, 2, none⟩ = some (strV []) := HB4w6.out.cell 2 rfl; have s3 : w6.cell? ⟨g + 4, 3, none⟩ = some (.int .i64 0) := HB4w6.out.cell 3 rfl; have s4 : w6.cell? ⟨g + 4, 4, none⟩ = some (.slice none 0 0) := HB4w6.out.cell 4 rfl; have s5 : w6.cell? ⟨g + 4, 5, none⟩ = some (.slice none 0 0) := HB4w6.out.cell 5 rfl
      have f0 : w6.frozen? ⟨g + 2, 0, none⟩ = false := HB2w6.out.frozen 0; have h0 : w6.frozen? ⟨g + 3, 0, none⟩ = false := HB3w6.out.frozen 0; have f1 : w6.frozen? ⟨g + 2, 1, none⟩ = false := HB2w6.out.frozen 1; have h1 : w6.frozen? ⟨g + 3, 1, none⟩ = false := HB3w6.out.frozen 1; have f2 : w6.frozen? ⟨g + 2, 2, none⟩ = false := HB2w6.out.frozen 2; have h2 : w6.frozen? ⟨g + 3, 2, none⟩ = false := HB3w6.out.frozen 2; have f3 : w6.frozen? ⟨g + 2, 3, none⟩ = false := HB2w6.out.frozen 3; have h3 : w6.frozen? ⟨g + 3, 3, none⟩ = false := HB3w6.out.frozen 3; have f4 : w6.frozen? ⟨g + 2, 4, none⟩ = false := HB2w6.out.frozen 4; have h4 : w6.frozen? ⟨g + 3, 4, none⟩ = false := HB3w6.out.frozen 4; have f5 : w6.frozen? ⟨g + 2, 5, none⟩ = false := HB2w6.out.frozen 5; have h5 : w6.frozen? ⟨g + 3, 5, none⟩ = false := HB3w6.out.frozen 5
      go_wp2_with fail
      go_region
      go_wp2_with fail
      obtain ⟨z2, z3⟩ := two_set6 HB2w6.out HB3w6.out (by omega) (.int .i64 q.k) (strV p.nm) (strV q.to) (.int .i64 q.h.pos) (.slice D m k) (.slice D' m' k') (.int .i64 p.k) (strV p.nm) (strV p.to) (.int .i64 p.h.pos) (.slice A n c) (.slice A' n' c')
      have hb6 := below_drewN (below_set12 (b := g + 2) (b' := g + 3) HWw6.out (by omega) (by omega) (.int .i64 q.k) (strV p.nm) (strV q.to) (.int .i64 q.h.pos) (.slice D m k) (.slice D' m' k') (.int .i64 p.k) (strV p.nm) (strV p.to) (.int .i64 p.h.pos) (.slice A n c) (.slice A' n' c')) 1
      have z2 := z2.drewN 1; have z3 := z3.drewN 1
      have hdr : ∀ W : World, W.drewN 1 = W.drew := fun _ => rfl
      rw [hdr] at hb6 z2 z3
      generalize World.drew (World.setCell (World.setCell (World.setCell (World.setCell (World.setCell (World.setCell (World.setCell (World.setCell (World.setCell (World.setCell (World.setCell (World.setCell w6 ⟨g + 2, 0, none⟩ (.int .i64 q.k)) ⟨g + 2, 1, none⟩ (strV p.nm)) ⟨g + 2, 2, none⟩ (strV q.to)) ⟨g + 2, 3, none⟩ (.int .i64 q.h.pos)) ⟨g + 2, 4, none⟩ (.slice D m k)) ⟨g + 2, 5, none⟩ (.slice D' m' k')) ⟨g + 3, 0, none⟩ (.int .i64 p.k)) ⟨g + 3, 1, none⟩ (strV p.nm)) ⟨g + 3, 2, none⟩ (strV p.to)) ⟨g + 3, 3, none⟩ (.int .i64 p.h.pos)) ⟨g + 3, 4, none⟩ (.slice A n c)) ⟨g + 3, 5, none⟩ (.slice A' n' c')) = W3 at *
      clear u0 v0 s0 u1 v1 s1 u2 v2 s2 u3 v3 s3 u4 v4 s4 u5 v5 s5 f0 h0 f1 h1 f2 h2 f3 h3 f4 h4 f5 h5
      have u0 : W3.cell? ⟨g + 2, 0, none⟩ = some (.int .i64 q.k) := z2.cell 0 rfl; have u1 : W3.cell? ⟨g + 2, 1, none⟩ = some (strV p.nm) := z2.cell 1 rfl; have u2 : W3.cell? ⟨g + 2, 2, none⟩ = some (strV q.to) := z2.cell 2 rfl; have u3 : W3.cell? ⟨g + 2, 3, none⟩ = some (.int .i64 q.h.pos) := z2.cell 3 rfl; have u4 : W3.cell? ⟨g + 2, 4, none⟩ = some (.slice D m k) := z2.cell 4 rfl; have u5 : W3.cell? ⟨g + 2, 5, none⟩ = some (.slice D' m' k') := z2.cell 5 rfl
      have v0 : W3.cell? ⟨g + 3, 0, none⟩ = some (.int .i64 p.k) := z3.cell 0 rfl; have v1 : W3.cell? ⟨g + 3, 1, none⟩ = some (strV p.nm) := z3.cell 1 rfl; have v2 : W3.cell? ⟨g + 3, 2, none⟩ = some (strV p.to) := z3.cell 2 rfl; have v3 : W3.cell? ⟨g + 3, 3, none⟩ = some (.int .i64 p.h.pos) := z3.cell 3 rfl; have v4 : W3.cell? ⟨g + 3, 4, none⟩ = some (.slice A n c) := z3.cell 4 rfl; have v5 : W3.cell? ⟨g + 3, 5, none⟩ = some (.slice A' n' c') := z3.cell 5 rfl
      refine bodyPost_ret (v := .tuple #[.agg #[.int .i64 q.k, strV p.nm, strV q.to, .int .i64 q.h.pos, .slice D m k, .slice D' m' k'], .agg #[.int .i64 p.k, strV p.nm, strV p.to, .int .i64 p.h.pos, .slice A n c, .slice A' n' c'], .bool true]) (by simp [results, Try.results89, go_sem, u0, v0, u1, v1, u2, v2, u3, v3, u4, v4, u5, v5]) rfl ?_
      have hW : Below w.heap.size w W3 := by rw [HGS.out]; exact hb6
      rw [HS.out]; exact ppEndE_some hW
    by_cases hi : q.k = 2 ∧ (p.k = 3 ∨ p.k = 4) ∧ p.nm = q.nm
    · have e4 : (q.k == 2) = true := by simpa using hi.1
      obtain rfl : lp = true := by rw [← HLP.out]; rcases hi.2.1 with h | h <;> simp [h]
      have e5 : (p.nm == q.nm) = true := by simpa using hi.2.2
      have e6 : (p.k == 2) = false := by rw [beq_eq_false_iff_ne]; rcases hi.2.1 with h | h <;> omega
      have l1 : w5.frozen? ⟨g, 1, none⟩ = false := HB0w5.out.frozen 1
      have HS : Hid (passP p q = some (q, ⟨p.k, q.to, p.to, p.h⟩)) := Lib.hid (passP_i HBP.out HBQ.out HBA.out hi.1 hi.2.1 hi.2.2)
      clear hi ho
      have HB0w6 := Lib.hid (show Blk (World.setCell w5 ⟨g, 1, none⟩ (strV q.to)) g 54 #[.int .i64 p.k, strV q.to, strV p.to, .int .i64 p.h.pos, .slice A n c, .slice A' n' c'] from HB0w5.out.set 1 (strV q.to))
      have HB1w6 := Lib.hid (HB1w5.out.set_ne (show g + 1 ≠ g from by omega) 1 (strV q.to))
      have HB2w6 := Lib.hid (HB2w5.out.set_ne (show g + 2 ≠ g from by omega) 1 (strV q.to))
      have HB3w6 := Lib.hid (HB3w5.out.set_ne (show g + 3 ≠ g from by omega) 1 (strV q.to))
      have HB4w6 := Lib.hid (HB4w5.out.set_ne (show g + 4 ≠ g from by omega) 1 (strV q.to))
      have HWw6 := Lib.hid (HWw5.out.setCell (p := ⟨g, 1, none⟩) (Nat.le_refl _) (strV q.to))
      go_upto_region 23 with fail
      generalize (World.setCell w5 ⟨g, 1, none⟩ (strV q.to)) = w6 at *
      clear l1
      clear x0 y0 u0 v0 s0 f0 h0 x1 y1 u1 v1 s1 f1 h1 x2 y2 u2 v2 s2 f2 h2 x3 y3 u3 v3 s3 f3 h3 x4 y4 u4 v4 s4 f4 h4 x5 y5 u5 v5 s5 f5 h5
      have x0 : w6.cell? ⟨g, 0, none⟩ = some (.int .i64 p.k) := HB0w6.out.cell 0 rfl; have x1 : w6.cell? ⟨g, 1, none⟩ = some (strV q.to) := HB0w6.out.cell 1 rfl; have x2 : w6.cell? ⟨g, 2, none⟩ = some (strV p.to) := HB0w6.out.cell 2 rfl; have x3 : w6.cell? ⟨g, 3, none⟩ = some (.int .i64 p.h.pos) := HB0w6.out.cell 3 rfl; have x4 : w6.cell? ⟨g, 4, none⟩ = some (.slice A n c) := HB0w6.out.cell 4 rfl; have x5 : w6.cell? ⟨g, 5, none⟩ = some (.slice A' n' c') := HB0w6.out.cell 5 rfl
      have y0 : w6.cell? ⟨g + 1, 0, none⟩ = some (.int .i64 q.k) := HB1w6.out.cell 0 rfl; have y1 : w6.cell? ⟨g + 1, 1, none⟩ = some (strV q.nm) := HB1w6.out.cell 1 rfl; have y2 : w6.cell? ⟨g + 1, 2, none⟩ = some (strV q.to) := HB1w6.out.cell 2 rfl; have y3 : w6.cell? ⟨g + 1, 3, none⟩ = some (.int .i64 q.h.pos) := HB1w6.out.cell 3 rfl; have y4 : w6.cell? ⟨g + 1, 4, none⟩ = some (.slice D m k) := HB1w6.out.cell 4 rfl; have y5 : w6.cell? ⟨g + 1, 5, none⟩ = some (.slice D' m' k') := HB1w6.out.cell 5 rfl
      have u0 : w6.cell? ⟨g + 2, 0, none⟩ = some (.int .i64 0) := HB2w6.out.cell 0 rfl; have u1 : w6.cell? ⟨g + 2, 1, none⟩ = some (strV []) := HB2w6.out.cell 1 rfl; have u2 : w6.cell? ⟨g + 2, 2, none⟩ = some (strV []) := HB2w6.out.cell 2 rfl; have u3 : w6.cell? ⟨g + 2, 3, none⟩ = some (.int .i64 0) := HB2w6.out.cell 3 rfl; have u4 : w6.cell? ⟨g + 2, 4, none⟩ = some (.slice none 0 0) := HB2w6.out.cell 4 rfl; have u5 : w6.cell? ⟨g + 2, 5, none⟩ = some (.slice none 0 0) := HB2w6.out.cell 5 rfl
      have v0 : w6.cell? ⟨g + 3, 0, none⟩ = some (.int .i64 0) := HB3w6.out.cell 0 rfl; have v1 : w6.cell? ⟨g + 3, 1, none⟩ = some (strV []) := HB3w6.out.cell 1 rfl; have v2 : w6.cell? ⟨g + 3, 2, none⟩ = some (strV []) := HB3w6.out.cell 2 rfl; have v3 : w6.cell? ⟨g + 3, 3, none⟩ = some (.int .i64 0) := HB3w6.out.cell 3 rfl; have v4 : w6.cell? ⟨g + 3, 4, none⟩ = some (.slice none 0 0) := HB3w6.out.cell 4 rfl; have v5 : w6.cell? ⟨g + 3, 5, none⟩ = some (.slice none 0 0) := HB3w6.out.cell 5 rfl
      have s0 : w6.cell? ⟨g + 4, 0, none⟩ = some (.int .i64 0) := HB4w6.out.cell 0 rfl; have s1 : w6.cell? ⟨g + 4, 1, none⟩ = some (strV []) := HB4w6.out.cell 1 rfl; have s2 : w6.cell? ⟨g + 4, 2, none⟩ = some (strV []) := HB4w6.out.cell 2 rfl; have s3 : w6.cell? ⟨g + 4, 3, none⟩ = some (.int .i64 0) := HB4w6.out.cell 3 rfl; have s4 : w6.cell? ⟨g + 4, 4, none⟩ = some (.slice none 0 0) := HB4w6.out.cell 4 rfl; have s5 : w6.cell? ⟨g + 4, 5, none⟩ = some (.slice none 0 0) := HB4w6.out.cell 5 rfl
      have f0 : w6.frozen? ⟨g + 2, 0, none⟩ = false := HB2w6.out.frozen 0; have h0 : w6.frozen? ⟨g + 3, 0, none⟩ = false := HB3w6.out.frozen 0; have f1 : w6.frozen? ⟨g + 2, 1, none⟩ = false := HB2w6.out.frozen 1; have h1 : w6.frozen? ⟨g + 3, 1, none⟩ = false := HB3w6.out.frozen 1; have f2 : w6.frozen? ⟨g + 2, 2, none⟩ = false := HB2w6.out.frozen 2; have h2 : w6.frozen? ⟨g + 3, 2, none⟩ = false := HB3w6.out.frozen 2; have f3 : w6.frozen? ⟨g + 2, 3, none⟩ = false := HB2w6.out.frozen 3; have h3 : w6.frozen? ⟨g + 3, 3, none⟩ = false := HB3w6.out.frozen 3; have f4 : w6.frozen? ⟨g + 2, 4, none⟩ = false := HB2w6.out.frozen 4; have h4 : w6.frozen? ⟨g + 3, 4, none⟩ = false := HB3w6.out.frozen 4; have f5 : w6.frozen? ⟨g + 2, 5, none⟩ = false := HB2w6.out.frozen 5; have h5 : w6.frozen? ⟨g + 3, 5, none⟩ = false := HB3w6.out.frozen 5
      go_wp2_with fail
      go_region
      go_wp2_with fail
      obtain ⟨z2, z3⟩ := two_set6 HB2w6.out HB3w6.out (by omega) (.int .i64 q.k) (strV q.nm) (strV q.to) (.int .i64 q.h.pos) (.slice D m k) (.slice D' m' k') (.int .i64 p.k) (strV q.to) (strV p.to) (.int .i64 p.h.pos) (.slice A n c) (.slice A' n' c')
      have hb6 := below_drewN (below_set12 (b := g + 2) (b' := g + 3) HWw6.out (by omega) (by omega) (.int .i64 q.k) (strV q.nm) (strV q.to) (.int .i64 q.h.pos) (.slice D m k) (.slice D' m' k') (.int .i64 p.k) (strV q.to) (strV p.to) (.int .i64 p.h.pos) (.slice A n c) (.slice A' n' c')) 1
      have z2 := z2.drewN 1; have z3 := z3.drewN 1
      have hdr : ∀ W : World, W.drewN 1 = W.drew := fun _ => rfl
      rw [hdr] at hb6 z2 z3
      generalize World.drew (World.setCell (World.setCell (World.setCell (World.setCell (World.setCell (World.setCell (World.setCell (World.setCell (World.setCell (World.setCell (World.setCell (World.setCell w6 ⟨g + 2, 0, none⟩ (.int .i64 q.k)) ⟨g + 2, 1, none⟩ (strV q.nm)) ⟨g + 2, 2, none⟩ (strV q.to)) ⟨g + 2, 3, none⟩ (.int .i64 q.h.pos)) ⟨g + 2, 4, none⟩ (.slice D m k)) ⟨g + 2, 5, none⟩ (.slice D' m' k')) ⟨g + 3, 0, none⟩ (.int .i64 p.k)) ⟨g + 3, 1, none⟩ (strV q.to)) ⟨g + 3, 2, none⟩ (strV p.to)) ⟨g + 3, 3, none⟩ (.int .i64 p.h.pos)) ⟨g + 3, 4, none⟩ (.slice A n c)) ⟨g + 3, 5, none⟩ (.slice A' n' c')) = W3 at *
      clear u0 v0 s0 u1 v1 s1 u2 v2 s2 u3 v3 s3 u4 v4 s4 u5 v5 s5 f0 h0 f1 h1 f2 h2 f3 h3 f4 h4 f5 h5
      have u0 : W3.cell? ⟨g + 2, 0, none⟩ = some (.int .i64 q.k) := z2.cell 0 rfl; have u1 : W3.cell? ⟨g + 2, 1, none⟩ = some (strV q.nm) := z2.cell 1 rfl; have u2 : W3.cell? ⟨g + 2, 2, none⟩ = some (strV q.to) := z2.cell 2 rfl; have u3 : W3.cell? ⟨g + 2, 3, none⟩ = some (.int .i64 q.h.pos) := z2.cell 3 rfl; have u4 : W3.cell? ⟨g + 2, 4, none⟩ = some (.slice D m k) := z2.cell 4 rfl; have u5 : W3.cell? ⟨g + 2, 5, none⟩ = some (.slice D' m' k') := z2.cell 5 rfl
      have v0 : W3.cell? ⟨g + 3, 0, none⟩ = some (.int .i64 p.k) := z3.cell 0 rfl; have v1 : W3.cell? ⟨g + 3, 1, none⟩ = some (strV q.to) := z3.cell 1 rfl; have v2 : W3.cell? ⟨g + 3, 2, none⟩ = some (strV p.to) := z3.cell 2 rfl; have v3 : W3.cell? ⟨g + 3, 3, none⟩ = some (.int .i64 p.h.pos) := z3.cell 3 rfl; have v4 : W3.cell? ⟨g + 3, 4, none⟩ = some (.slice A n c) := z3.cell 4 rfl; have v5 : W3.cell? ⟨g + 3, 5, none⟩ = some (.slice A' n' c') := z3.cell 5 rfl
      refine bodyPost_ret (v := .tuple #[.agg #[.int .i64 q.k, strV q.nm, strV q.to, .int .i64 q.h.pos, .slice D m k, .slice D' m' k'], .agg #[.int .i64 p.k, strV q.to, strV p.to, .int .i64 p.h.pos, .slice A n c, .slice A' n' c'], .bool true]) (by simp [results, Try.results89, go_sem, u0, v0, u1, v1, u2, v2, u3, v3, u4, v4, u5, v5]) rfl ?_
      have hW : Below w.heap.size w W3 := by rw [HGS.out]; exact hb6
      rw [HS.out]; exact ppEndE_some hW
    have HN : Hid (passP p q = none) := Lib.hid (passP_n HBA.out H3.out ho hi)
    have c1 : (p.k == 2) = false ∨ ((p.k == 2) = true ∧ lq = false) ∨ ((p.k == 2) = true ∧ lq = true ∧ (q.nm == p.to) = false) := by
      by_cases h1 : p.k = 2
      · cases lq with
        | false => exact .inr (.inl ⟨by simpa using h1, rfl⟩)
        | true =>
          have h2 : q.k = 3 ∨ q.k = 4 := by have := HLQ.out; simpa using this
          exact .inr (.inr ⟨by simpa using h1, rfl, by simpa using fun h => ho ⟨h1, h2, h⟩⟩)
      · exact .inl (by simpa using h1)
    have c2 : (q.k == 2) = false ∨ ((q.k == 2) = true ∧ lp = false) ∨ ((q.k == 2) = true ∧ lp = true ∧ (p.nm == q.nm) = false) := by
      by_cases h1 : q.k = 2
      · cases lp with
        | false => exact .inr (.inl ⟨by simpa using h1, rfl⟩)
        | true =>
          have h2 : p.k = 3 ∨ p.k = 4 := by have := HLP.out; simpa using this
          exact .inr (.inr ⟨by simpa using h1, rfl, by simpa using fun h => hi ⟨h1, h2, h⟩⟩)
      · exact .inl (by simpa using h1)
    clear ho hi
    rcases c1 with c1 | ⟨c1, rfl⟩ | ⟨c1, rfl, c3⟩
    all_goals
      rcases c2 with c2 | ⟨c2, rfl⟩ | ⟨c2, rfl, c4⟩
      all_goals
        go_wp2_with fail
        go_region
        go_wp2_with fail
        obtain ⟨z2, z3⟩ := two_set6 HB2w5.out HB3w5.out (by omega) (.int .i64 0) (strV []) (strV []) (.int .i64 0) (.slice none 0 0) (.slice none 0 0) (.int .i64 0) (strV []) (strV []) (.int .i64 0) (.slice none 0 0) (.slice none 0 0)
        have hb6 := below_drewN (below_set12 (b := g + 2) (b' := g + 3) HWw5.out (by omega) (by omega) (.int .i64 0) (strV []) (strV []) (.int .i64 0) (.slice none 0 0) (.slice none 0 0) (.int .i64 0) (strV []) (strV []) (.int .i64 0) (.slice none 0 0) (.slice none 0 0)) 1
        have z2 := z2.drewN 1; have z3 := z3.drewN 1
        have hdr : ∀ W : World, W.drewN 1 = W.drew := fun _ => rfl
        rw [hdr] at hb6 z2 z3
        generalize World.drew (World.setCell (World.setCell (World.setCell (World.setCell (World.setCell (World.setCell (World.setCell (World.setCell (World.setCell (World.setCell (World.setCell (World.setCell w5 ⟨g + 2, 0, none⟩ (.int .i64 0)) ⟨g + 2, 1, none⟩ (strV [])) ⟨g + 2, 2, none⟩ (strV [])) ⟨g + 2, 3, none⟩ (.int .i64 0)) ⟨g + 2, 4, none⟩ (.slice none 0 0)) ⟨g + 2, 5, none⟩ (.slice none 0 0)) ⟨g + 3, 0, none⟩ (.int .i64 0)) ⟨g + 3, 1, none⟩ (strV [])) ⟨g + 3, 2, none⟩ (strV [])) ⟨g + 3, 3, none⟩ (.int .i64 0)) ⟨g + 3, 4, none⟩ (.slice none 0 0)) ⟨g + 3, 5, none⟩ (.slice none 0 0)) = W3 at *
        clear u0 v0 s0 u1 v1 s1 u2 v2 s2 u3 v3 s3 u4 v4 s4 u5 v5 s5 f0 h0 f1 h1 f2 h2 f3 h3 f4 h4 f5 h5
        have u0 : W3.cell? ⟨g + 2, 0, none⟩ = some (.int .i64 0) := z2.cell 0 rfl; have u1 : W3.cell? ⟨g + 2, 1, none⟩ = some (strV []) := z2.cell 1 rfl; have u2 : W3.cell? ⟨g + 2, 2, none⟩ = some (strV []) := z2.cell 2 rfl; have u3 : W3.cell? ⟨g + 2, 3, none⟩ = some (.int .i64 0) := z2.cell 3 rfl; have u4 : W3.cell? ⟨g + 2, 4, none⟩ = some (.slice none 0 0) := z2.cell 4 rfl; have u5 : W3.cell? ⟨g + 2, 5, none⟩ = some (.slice none 0 0) := z2.cell 5 rfl
        have v0 : W3.cell? ⟨g + 3, 0, none⟩ = some (.int .i64 0) := z3.cell 0 rfl; have v1 : W3.cell? ⟨g + 3, 1, none⟩ = some (strV []) := z3.cell 1 rfl; have v2 : W3.cell? ⟨g + 3, 2, none⟩ = some (strV []) := z3.cell 2 rfl; have v3 : W3.cell? ⟨g + 3, 3, none⟩ = some (.int .i64 0) := z3.cell 3 rfl; have v4 : W3.cell? ⟨g + 3, 4, none⟩ = some (.slice none 0 0) := z3.cell 4 rfl; have v5 : W3.cell? ⟨g + 3, 5, none⟩ = some (.slice none 0 0) := z3.cell 5 rfl
        refine bodyPost_ret (v := .tuple #[.agg #[.int .i64 0, strV [], strV [], .int .i64 0, .slice none 0 0, .slice none 0 0], .agg #[.int .i64 0, strV [], strV [], .int .i64 0, .slice none 0 0, .slice none 0 0], .bool false]) (by simp [results, Try.results89, go_sem, u0, v0, u1, v1, u2, v2, u3, v3, u4, v4, u5, v5]) rfl ?_
        have hW : Below w.heap.size w W3 := by rw [HGS.out]; exact hb6
        exact ppEndE_none HN.out hW

end Pr
end Go.Proofs.Ytdnkinajbebkoaa

set_option maxRecDepth 100000
namespace Go.Proofs.Ytdnkinajbebkoaa
open Go.RowKit
set_option linter.unusedVariables false
set_option linter.unusedSimpArgs false
namespace Pr
open Tx Df Sq Hk Tr

theorem ppEndH_none {w w' : World} {p q x y : Ch} {b : Bool} (ho : outP (passP p q) = (x, y)) (hb : (passP p q).isSome = b) (h : passP p q = none) (hw : Below w.heap.size w w') :
    PPEndH w x y b (.returned (.tuple #[.agg #[.int .i64 0, strV [], strV [], .int .i64 0, .slice none 0 0, .slice none 0 0], .agg #[.int .i64 0, strV [], strV [], .int .i64 0, .slice none 0 0, .slice none 0 0], .bool false])) w' := by
  rw [h] at ho hb
  subst hb
  injection ho with h1 h2
  subst h1 h2
  exact ⟨none, 0, 0, none, 0, 0, none, 0, 0, none, 0, 0, rfl, zero_PV _ _, zero_PV _ _, ⟨Nat.zero_le _, Nat.zero_le _⟩, ⟨Nat.zero_le _, Nat.zero_le _⟩, ⟨hi_none _, hi_none _, hi_none _, hi_none _⟩, hw⟩
theorem ppEndH_some {w w' : World} {A B D E : Option Addr} {n c m d i j k l : Nat} {p q x y x' y' : Ch} {b : Bool} (ho : outP (passP p q) = (x, y)) (hb : (passP p q).isSome = b) (h : passP p q = some (x', y')) (hv : PV w' w'.heap.size A n c B m d x') (gv : PV w' w'.heap.size D i j E k l y') (hl : n ≤ 1000 ∧ m ≤ 1000) (gl : i ≤ 1000 ∧ k ≤ 1000)
    (hi : Hi w.heap.size A ∧ Hi w.heap.size B ∧ Hi w.heap.size D ∧ Hi w.heap.size E) (hw : Below w.heap.size w w') :
    PPEndH w x y b (.returned (.tuple #[prV x'.k x'.nm x'.to x'.h.pos A n c B m d, prV y'.k y'.nm y'.to y'.h.pos D i j E k l, .bool true])) w' := by
  rw [h] at ho hb
  subst hb
  injection ho with h1 h2
  subst h1 h2
  exact ⟨A, n, c, B, m, d, D, i, j, E, k, l, rfl, hv, gv, hl, gl, hi, hw⟩

/-- Two changes, boxed, the one or the other one first. -/
def Two (c wx : World) (T U : Nat) (x y : Array Value) : Prop := Blk wx T 54 x ∧ Blk wx U 54 y ∧ T ≠ U ∧ c.heap.size ≤ T ∧ c.heap.size ≤ U ∧ Below c.heap.size c wx
theorem two_aa (c : World) (x y : Array Value) : Two c ((c.alloc (.cells x 54)).alloc (.cells y 54)) c.heap.size (c.heap.size + 1) x y := by
  have h2 := Blk.new (c.alloc (.cells x 54)) 54 y
  simp only [World.size_alloc] at h2
  exact ⟨(Blk.new c _ x).alloc _, h2, by omega, Nat.le_refl _, Nat.le_succ _, two_box c _ _⟩
theorem Two.swap {c wx : World} {T U : Nat} {x y : Array Value} (h : Two c wx T U x y) : Two c wx U T y x := ⟨h.2.1, h.1, h.2.2.1.symm, h.2.2.2.2.1, h.2.2.2.1, h.2.2.2.2.2⟩
theorem Two.drew {c wx : World} {T U : Nat} {x y : Array Value} (h : Two c wx T U x y) : Two c wx.drew T U x y := ⟨h.1.drewN 1, h.2.1.drewN 1, h.2.2.1, h.2.2.2.1, h.2.2.2.2.1, below_drewN h.2.2.2.2.2 1⟩

theorem blk_ne6 {W : World} {b b' : Nat} {t : TypeId} {cs : Array Value} (h : Blk W b t cs) (hne : b ≠ b') (v0 v1 v2 v3 v4 v5 : Value) :
    Blk ((((((W.setCell ⟨b', 0, none⟩ v0).setCell ⟨b', 1, none⟩ v1).setCell ⟨b', 2, none⟩ v2).setCell ⟨b', 3, none⟩ v3).setCell ⟨b', 4, none⟩ v4).setCell ⟨b', 5, none⟩ v5) b t cs :=
  (((((h.set_ne hne 0 v0).set_ne hne 1 v1).set_ne hne 2 v2).set_ne hne 3 v3).set_ne hne 4 v4).set_ne hne 5 v5

/-- What lies there behind the switch. -/
def PMid (w wx : World) (g T U : Nat) (p q : Ch) : Prop :=
  ∃ x y A1 n1 c1 B1 m1 d1 A2 n2 c2 B2 m2 d2, passP p q = some (x, y) ∧
    Blk wx T 54 #[.int .i64 x.k, strV x.nm, strV x.to, .int .i64 x.h.pos, .slice A1 n1 c1, .slice B1 m1 d1] ∧
    Blk wx U 54 #[.int .i64 y.k, strV y.nm, strV y.to, .int .i64 y.h.pos, .slice A2 n2 c2, .slice B2 m2 d2] ∧
    Blk wx (g + 2) 54 #[.int .i64 0, strV [], strV [], .int .i64 0, .slice none 0 0, .slice none 0 0] ∧ Blk wx (g + 3) 54 #[.int .i64 0, strV [], strV [], .int .i64 0, .slice none 0 0, .slice none 0 0] ∧
    PV wx wx.heap.size A1 n1 c1 B1 m1 d1 x ∧ PV wx wx.heap.size A2 n2 c2 B2 m2 d2 y ∧ (n1 ≤ 1000 ∧ m1 ≤ 1000) ∧ (n2 ≤ 1000 ∧ m2 ≤ 1000) ∧ Below g w wx

/-- A change that may be, of another kind than a move, has no other name. -/
theorem may_to {p : Ch} (hm : mayP p = true) (hk : p.k = 3 ∨ p.k = 4) : p.to = [] := (may_h hm hk).2.1
theorem name_ne {p q : Ch} (hm : mayP p = true) (hq : mayP q = true) (hk : p.k = 3 ∨ p.k = 4) : (q.nm == p.to) = false := by
  rw [may_to hm hk]
  have h1 := (mayP_cases.1 hq).1
  cases hn : q.nm with
  | nil => rw [hn] at h1; revert h1; decide
  | cons _ _ => rfl

theorem k_absurd {k : Int} (h : (k == 3) = true) (h' : (k == 4) = true) : False := by
  have a : k = 3 := by simpa using h
  have b : k = 4 := by simpa using h'
  omega
theorem k_absurd2 {k : Int} (h : (k == 3) = true) (h' : (k == 2) = true) : False := by
  have a : k = 3 := by simpa using h
  have b : k = 2 := by simpa using h'
  omega
theorem k_absurd3 {k : Int} (h : (k == 4) = true) (h' : (k == 2) = true) : False := by
  have a : k = 4 := by simpa using h
  have b : k = 2 := by simpa using h'
  omega

set_option maxRecDepth 100000 in
set_option maxHeartbeats 16000000 in
theorem PassPH (A : Option Addr) (n c : Nat) (A' : Option Addr) (n' c' : Nat) (D : Option Addr) (m k : Nat) (D' : Option Addr) (m' k' : Nat) (p q x y : Ch) (w : World) (b : Bool) (hl : n ≤ 1000 ∧ n' ≤ 1000) (gl : m ≤ 1000 ∧ m' ≤ 1000)
    (hv : PV w w.heap.size A n c A' n' c' p) (gv : PV w w.heap.size D m k D' m' k' q) (ho : outP (passP p q) = (x, y)) (hb : (passP p q).isSome = b) :
    Calls Try.prog 74 #[prV p.k p.nm p.to p.h.pos A n c A' n' c', prV q.k q.nm q.to q.h.pos D m k D' m' k'] w (PPEndH w x y b) := by
  have HV0 := Lib.hid hv; have GV0 := Lib.hid gv; have HL := Lib.hid hl; have GL := Lib.hid gl; have HO := Lib.hid ho; have HBB := Lib.hid hb
  clear hl gl hv gv ho hb
  go_enter Try.func74, Try.ntmps74
  go_wp2_with fail
  have hw0 : Below w.heap.size w ((((w.alloc (.cells #[.int .i64 p.k, strV p.nm, strV p.to, .int .i64 p.h.pos, .slice A n c, .slice A' n' c'] 54)).alloc (.cells #[.int .i64 q.k, strV q.nm, strV q.to, .int .i64 q.h.pos, .slice D m k, .slice D' m' k'] 54)).alloc (.cells #[.int .i64 0, strV [], strV [], .int .i64 0, .slice none 0 0, .slice none 0 0] 54)).alloc (.cells #[.int .i64 0, strV [], strV [], .int .i64 0, .slice none 0 0, .slice none 0 0] 54)) := ((((Below.refl _ _).alloc (Nat.le_refl _) _).alloc (by simp) _).alloc (by simp; omega) _).alloc (by simp; omega) _
  have b0 := (((Blk.new w 54 #[.int .i64 p.k, strV p.nm, strV p.to, .int .i64 p.h.pos, .slice A n c, .slice A' n' c']).alloc (.cells #[.int .i64 q.k, strV q.nm, strV q.to, .int .i64 q.h.pos, .slice D m k, .slice D' m' k'] 54)).alloc (.cells #[.int .i64 0, strV [], strV [], .int .i64 0, .slice none 0 0, .slice none 0 0] 54)).alloc (.cells #[.int .i64 0, strV [], strV [], .int .i64 0, .slice none 0 0, .slice none 0 0] 54)
  have b1 := ((Blk.new (w.alloc (.cells #[.int .i64 p.k, strV p.nm, strV p.to, .int .i64 p.h.pos, .slice A n c, .slice A' n' c'] 54)) 54 #[.int .i64 q.k, strV q.nm, strV q.to, .int .i64 q.h.pos, .slice D m k, .slice D' m' k']).alloc (.cells #[.int .i64 0, strV [], strV [], .int .i64 0, .slice none 0 0, .slice none 0 0] 54)).alloc (.cells #[.int .i64 0, strV [], strV [], .int .i64 0, .slice none 0 0, .slice none 0 0] 54)
  have b2 := (Blk.new ((w.alloc (.cells #[.int .i64 p.k, strV p.nm, strV p.to, .int .i64 p.h.pos, .slice A n c, .slice A' n' c'] 54)).alloc (.cells #[.int .i64 q.k, strV q.nm, strV q.to, .int .i64 q.h.pos, .slice D m k, .slice D' m' k'] 54)) 54 #[.int .i64 0, strV [], strV [], .int .i64 0, .slice none 0 0, .slice none 0 0]).alloc (.cells #[.int .i64 0, strV [], strV [], .int .i64 0, .slice none 0 0, .slice none 0 0] 54)
  have b3 := Blk.new (((w.alloc (.cells #[.int .i64 p.k, strV p.nm, strV p.to, .int .i64 p.h.pos, .slice A n c, .slice A' n' c'] 54)).alloc (.cells #[.int .i64 q.k, strV q.nm, strV q.to, .int .i64 q.h.pos, .slice D m k, .slice D' m' k'] 54)).alloc (.cells #[.int .i64 0, strV [], strV [], .int .i64 0, .slice none 0 0, .slice none 0 0] 54)) 54 #[.int .i64 0, strV [], strV [], .int .i64 0, .slice none 0 0, .slice none 0 0]
  simp only [World.size_alloc] at b1 b2 b3
  generalize ((((w.alloc (.cells #[.int .i64 p.k, strV p.nm, strV p.to, .int .i64 p.h.pos, .slice A n c, .slice A' n' c'] 54)).alloc (.cells #[.int .i64 q.k, strV q.nm, strV q.to, .int .i64 q.h.pos, .slice D m k, .slice D' m' k'] 54)).alloc (.cells #[.int .i64 0, strV [], strV [], .int .i64 0, .slice none 0 0, .slice none 0 0] 54)).alloc (.cells #[.int .i64 0, strV [], strV [], .int .i64 0, .slice none 0 0, .slice none 0 0] 54)) = w0 at *
  obtain ⟨g, hgs⟩ : ∃ g, w.heap.size = g := ⟨_, rfl⟩
  rw [hgs] at b0 b1 b2 b3 ⊢
  rw [show g + 1 + 1 = g + 2 from rfl] at b2 b3 ⊢
  rw [show g + 2 + 1 = g + 3 from rfl] at b3 ⊢
  have HGS := Lib.hid hgs
  have HVw0 := Lib.hid (HV0.out.mv hw0); have GVw0 := Lib.hid (GV0.out.mv hw0)
  rw [hgs] at hw0
  have HWw0 := Lib.hid hw0
  have HB0w0 := Lib.hid b0; have HB1w0 := Lib.hid b1; have HB2w0 := Lib.hid b2; have HB3w0 := Lib.hid b3
  clear hgs b0 b1 b2 b3 hw0
  obtain ⟨bp, hbp⟩ : ∃ b, mayP p = b := ⟨_, rfl⟩
  obtain ⟨bq, hbq⟩ : ∃ b, mayP q = b := ⟨_, rfl⟩
  obtain ⟨ba, hba⟩ : ∃ b, apartP p q = b := ⟨_, rfl⟩
  have HBP := Lib.hid hbp; have HBQ := Lib.hid hbq; have HBA := Lib.hid hba
  clear hbp hbq hba
  have HGw0 := Lib.hid (show g ≤ w0.heap.size by have := HB3w0.out.lt; omega)
  have x0 : w0.cell? ⟨g, 0, none⟩ = some (.int .i64 p.k) := HB0w0.out.cell 0 rfl; have x1 : w0.cell? ⟨g, 1, none⟩ = some (strV p.nm) := HB0w0.out.cell 1 rfl; have x2 : w0.cell? ⟨g, 2, none⟩ = some (strV p.to) := HB0w0.out.cell 2 rfl; have x3 : w0.cell? ⟨g, 3, none⟩ = some (.int .i64 p.h.pos) := HB0w0.out.cell 3 rfl; have x4 : w0.cell? ⟨g, 4, none⟩ = some (.slice A n c) := HB0w0.out.cell 4 rfl; have x5 : w0.cell? ⟨g, 5, none⟩ = some (.slice A' n' c') := HB0w0.out.cell 5 rfl
  go_step3
  go_wp2_with fail
  clear x0 x1 x2 x3 x4 x5
  refine (MayP A n c A' n' c' p w0 bp HVw0.out HBP.out).mono ?_
  rintro e w1 ⟨rfl, hb⟩
  have HVw1 := Lib.hid (HVw0.out.mv hb); have GVw1 := Lib.hid (GVw0.out.mv hb); clear HVw0 GVw0
  have HWw1 := Lib.hid (HWw0.out.trans (hb.mono HGw0.out)); have HGw1 := Lib.hid (Nat.le_trans HGw0.out hb.size)
  have HB0w1 := Lib.hid (HB0w0.out.below hb HB0w0.out.lt); have HB1w1 := Lib.hid (HB1w0.out.below hb HB1w0.out.lt); have HB2w1 := Lib.hid (HB2w0.out.below hb HB2w0.out.lt); have HB3w1 := Lib.hid (HB3w0.out.below hb HB3w0.out.lt)
  clear hb HWw0 HGw0 HB0w0 HB1w0 HB2w0 HB3w0
  cases bp with
  | false =>
    have u0 : w1.cell? ⟨g + 2, 0, none⟩ = some (.int .i64 0) := HB2w1.out.cell 0 rfl; have u1 : w1.cell? ⟨g + 2, 1, none⟩ = some (strV []) := HB2w1.out.cell 1 rfl; have u2 : w1.cell? ⟨g + 2, 2, none⟩ = some (strV []) := HB2w1.out.cell 2 rfl; have u3 : w1.cell? ⟨g + 2, 3, none⟩ = some (.int .i64 0) := HB2w1.out.cell 3 rfl; have u4 : w1.cell? ⟨g + 2, 4, none⟩ = some (.slice none 0 0) := HB2w1.out.cell 4 rfl; have u5 : w1.cell? ⟨g + 2, 5, none⟩ = some (.slice none 0 0) := HB2w1.out.cell 5 rfl
    have v0 : w1.cell? ⟨g + 3, 0, none⟩ = some (.int .i64 0) := HB3w1.out.cell 0 rfl; have v1 : w1.cell? ⟨g + 3, 1, none⟩ = some (strV []) := HB3w1.out.cell 1 rfl; have v2 : w1.cell? ⟨g + 3, 2, none⟩ = some (strV []) := HB3w1.out.cell 2 rfl; have v3 : w1.cell? ⟨g + 3, 3, none⟩ = some (.int .i64 0) := HB3w1.out.cell 3 rfl; have v4 : w1.cell? ⟨g + 3, 4, none⟩ = some (.slice none 0 0) := HB3w1.out.cell 4 rfl; have v5 : w1.cell? ⟨g + 3, 5, none⟩ = some (.slice none 0 0) := HB3w1.out.cell 5 rfl
    have f0 : w1.frozen? ⟨g + 2, 0, none⟩ = false := HB2w1.out.frozen 0; have f1 : w1.frozen? ⟨g + 2, 1, none⟩ = false := HB2w1.out.frozen 1; have f2 : w1.frozen? ⟨g + 2, 2, none⟩ = false := HB2w1.out.frozen 2; have f3 : w1.frozen? ⟨g + 2, 3, none⟩ = false := HB2w1.out.frozen 3; have f4 : w1.frozen? ⟨g + 2, 4, none⟩ = false := HB2w1.out.frozen 4; have f5 : w1.frozen? ⟨g + 2, 5, none⟩ = false := HB2w1.out.frozen 5
    have h0 : w1.frozen? ⟨g + 3, 0, none⟩ = false := HB3w1.out.frozen 0; have h1 : w1.frozen? ⟨g + 3, 1, none⟩ = false := HB3w1.out.frozen 1; have h2 : w1.frozen? ⟨g + 3, 2, none⟩ = false := HB3w1.out.frozen 2; have h3 : w1.frozen? ⟨g + 3, 3, none⟩ = false := HB3w1.out.frozen 3; have h4 : w1.frozen? ⟨g + 3, 4, none⟩ = false := HB3w1.out.frozen 4; have h5 : w1.frozen? ⟨g + 3, 5, none⟩ = false := HB3w1.out.frozen 5
    go_wp2_with fail
    obtain ⟨z2, z3⟩ := two_set6 HB2w1.out HB3w1.out (by omega) (.int .i64 0) (strV []) (strV []) (.int .i64 0) (.slice none 0 0) (.slice none 0 0) (.int .i64 0) (strV []) (strV []) (.int .i64 0) (.slice none 0 0) (.slice none 0 0)
    have hb6 := below_set12 (b := g + 2) (b' := g + 3) HWw1.out (by omega) (by omega) (.int .i64 0) (strV []) (strV []) (.int .i64 0) (.slice none 0 0) (.slice none 0 0) (.int .i64 0) (strV []) (strV []) (.int .i64 0) (.slice none 0 0) (.slice none 0 0)
    generalize (World.setCell (World.setCell (World.setCell (World.setCell (World.setCell (World.setCell (World.setCell (World.setCell (World.setCell (World.setCell (World.setCell (World.setCell w1 ⟨g + 2, 0, none⟩ (.int .i64 0)) ⟨g + 2, 1, none⟩ (strV [])) ⟨g + 2, 2, none⟩ (strV [])) ⟨g + 2, 3, none⟩ (.int .i64 0)) ⟨g + 2, 4, none⟩ (.slice none 0 0)) ⟨g + 2, 5, none⟩ (.slice none 0 0)) ⟨g + 3, 0, none⟩ (.int .i64 0)) ⟨g + 3, 1, none⟩ (strV [])) ⟨g + 3, 2, none⟩ (strV [])) ⟨g + 3, 3, none⟩ (.int .i64 0)) ⟨g + 3, 4, none⟩ (.slice none 0 0)) ⟨g + 3, 5, none⟩ (.slice none 0 0)) = W3 at *
    clear u0 u1 u2 u3 u4 u5 v0 v1 v2 v3 v4 v5 f0 f1 f2 f3 f4 f5 h0 h1 h2 h3 h4 h5
    have u0 : W3.cell? ⟨g + 2, 0, none⟩ = some (.int .i64 0) := z2.cell 0 rfl; have u1 : W3.cell? ⟨g + 2, 1, none⟩ = some (strV []) := z2.cell 1 rfl; have u2 : W3.cell? ⟨g + 2, 2, none⟩ = some (strV []) := z2.cell 2 rfl; have u3 : W3.cell? ⟨g + 2, 3, none⟩ = some (.int .i64 0) := z2.cell 3 rfl; have u4 : W3.cell? ⟨g + 2, 4, none⟩ = some (.slice none 0 0) := z2.cell 4 rfl; have u5 : W3.cell? ⟨g + 2, 5, none⟩ = some (.slice none 0 0) := z2.cell 5 rfl
    have v0 : W3.cell? ⟨g + 3, 0, none⟩ = some (.int .i64 0) := z3.cell 0 rfl; have v1 : W3.cell? ⟨g + 3, 1, none⟩ = some (strV []) := z3.cell 1 rfl; have v2 : W3.cell? ⟨g + 3, 2, none⟩ = some (strV []) := z3.cell 2 rfl; have v3 : W3.cell? ⟨g + 3, 3, none⟩ = some (.int .i64 0) := z3.cell 3 rfl; have v4 : W3.cell? ⟨g + 3, 4, none⟩ = some (.slice none 0 0) := z3.cell 4 rfl; have v5 : W3.cell? ⟨g + 3, 5, none⟩ = some (.slice none 0 0) := z3.cell 5 rfl
    try rw [Exit.noGoto_ret]
    refine bodyPost_ret (v := .tuple #[.agg #[.int .i64 0, strV [], strV [], .int .i64 0, .slice none 0 0, .slice none 0 0], .agg #[.int .i64 0, strV [], strV [], .int .i64 0, .slice none 0 0, .slice none 0 0], .bool false]) (by simp [results, Try.results74, go_sem, u0, v0, u1, v1, u2, v2, u3, v3, u4, v4, u5, v5]) rfl ?_
    have hW : Below w.heap.size w W3 := by rw [HGS.out]; exact hb6
    exact ppEndH_none HO.out HBB.out (passP_no1 HBP.out) hW
  | true =>
  have y0 : w1.cell? ⟨g + 1, 0, none⟩ = some (.int .i64 q.k) := HB1w1.out.cell 0 rfl; have y1 : w1.cell? ⟨g + 1, 1, none⟩ = some (strV q.nm) := HB1w1.out.cell 1 rfl; have y2 : w1.cell? ⟨g + 1, 2, none⟩ = some (strV q.to) := HB1w1.out.cell 2 rfl; have y3 : w1.cell? ⟨g + 1, 3, none⟩ = some (.int .i64 q.h.pos) := HB1w1.out.cell 3 rfl; have y4 : w1.cell? ⟨g + 1, 4, none⟩ = some (.slice D m k) := HB1w1.out.cell 4 rfl; have y5 : w1.cell? ⟨g + 1, 5, none⟩ = some (.slice D' m' k') := HB1w1.out.cell 5 rfl
  go_wp2_with fail
  clear y0 y1 y2 y3 y4 y5
  refine (MayP D m k D' m' k' q w1 bq GVw1.out HBQ.out).mono ?_
  rintro e w2 ⟨rfl, hb⟩
  have HVw2 := Lib.hid (HVw1.out.mv hb); have GVw2 := Lib.hid (GVw1.out.mv hb); clear HVw1 GVw1
  have HWw2 := Lib.hid (HWw1.out.trans (hb.mono HGw1.out)); have HGw2 := Lib.hid (Nat.le_trans HGw1.out hb.size)
  have HB0w2 := Lib.hid (HB0w1.out.below hb HB0w1.out.lt); have HB1w2 := Lib.hid (HB1w1.out.below hb HB1w1.out.lt); have HB2w2 := Lib.hid (HB2w1.out.below hb HB2w1.out.lt); have HB3w2 := Lib.hid (HB3w1.out.below hb HB3w1.out.lt)
  clear hb HWw1 HGw1 HB0w1 HB1w1 HB2w1 HB3w1
  cases bq with
  | false =>
    have u0 : w2.cell? ⟨g + 2, 0, none⟩ = some (.int .i64 0) := HB2w2.out.cell 0 rfl; have u1 : w2.cell? ⟨g + 2, 1, none⟩ = some (strV []) := HB2w2.out.cell 1 rfl; have u2 : w2.cell? ⟨g + 2, 2, none⟩ = some (strV []) := HB2w2.out.cell 2 rfl; have u3 : w2.cell? ⟨g + 2, 3, none⟩ = some (.int .i64 0) := HB2w2.out.cell 3 rfl; have u4 : w2.cell? ⟨g + 2, 4, none⟩ = some (.slice none 0 0) := HB2w2.out.cell 4 rfl; have u5 : w2.cell? ⟨g + 2, 5, none⟩ = some (.slice none 0 0) := HB2w2.out.cell 5 rfl
    have v0 : w2.cell? ⟨g + 3, 0, none⟩ = some (.int .i64 0) := HB3w2.out.cell 0 rfl; have v1 : w2.cell? ⟨g + 3, 1, none⟩ = some (strV []) := HB3w2.out.cell 1 rfl; have v2 : w2.cell? ⟨g + 3, 2, none⟩ = some (strV []) := HB3w2.out.cell 2 rfl; have v3 : w2.cell? ⟨g + 3, 3, none⟩ = some (.int .i64 0) := HB3w2.out.cell 3 rfl; have v4 : w2.cell? ⟨g + 3, 4, none⟩ = some (.slice none 0 0) := HB3w2.out.cell 4 rfl; have v5 : w2.cell? ⟨g + 3, 5, none⟩ = some (.slice none 0 0) := HB3w2.out.cell 5 rfl
    have f0 : w2.frozen? ⟨g + 2, 0, none⟩ = false := HB2w2.out.frozen 0; have f1 : w2.frozen? ⟨g + 2, 1, none⟩ = false := HB2w2.out.frozen 1; have f2 : w2.frozen? ⟨g + 2, 2, none⟩ = false := HB2w2.out.frozen 2; have f3 : w2.frozen? ⟨g + 2, 3, none⟩ = false := HB2w2.out.frozen 3; have f4 : w2.frozen? ⟨g + 2, 4, none⟩ = false := HB2w2.out.frozen 4; have f5 : w2.frozen? ⟨g + 2, 5, none⟩ = false := HB2w2.out.frozen 5
    have h0 : w2.frozen? ⟨g + 3, 0, none⟩ = false := HB3w2.out.frozen 0; have h1 : w2.frozen? ⟨g + 3, 1, none⟩ = false := HB3w2.out.frozen 1; have h2 : w2.frozen? ⟨g + 3, 2, none⟩ = false := HB3w2.out.frozen 2; have h3 : w2.frozen? ⟨g + 3, 3, none⟩ = false := HB3w2.out.frozen 3; have h4 : w2.frozen? ⟨g + 3, 4, none⟩ = false := HB3w2.out.frozen 4; have h5 : w2.frozen? ⟨g + 3, 5, none⟩ = false := HB3w2.out.frozen 5
    go_wp2_with fail
    obtain ⟨z2, z3⟩ := two_set6 HB2w2.out HB3w2.out (by omega) (.int .i64 0) (strV []) (strV []) (.int .i64 0) (.slice none 0 0) (.slice none 0 0) (.int .i64 0) (strV []) (strV []) (.int .i64 0) (.slice none 0 0) (.slice none 0 0)
    have hb6 := below_set12 (b := g + 2) (b' := g + 3) HWw2.out (by omega) (by omega) (.int .i64 0) (strV []) (strV []) (.int .i64 0) (.slice none 0 0) (.slice none 0 0) (.int .i64 0) (strV []) (strV []) (.int .i64 0) (.slice none 0 0) (.slice none 0 0)
    generalize (World.setCell (World.setCell (World.setCell (World.setCell (World.setCell (World.setCell (World.setCell (World.setCell (World.setCell (World.setCell (World.setCell (World.setCell w2 ⟨g + 2, 0, none⟩ (.int .i64 0)) ⟨g + 2, 1, none⟩ (strV [])) ⟨g + 2, 2, none⟩ (strV [])) ⟨g + 2, 3, none⟩ (.int .i64 0)) ⟨g + 2, 4, none⟩ (.slice none 0 0)) ⟨g + 2, 5, none⟩ (.slice none 0 0)) ⟨g + 3, 0, none⟩ (.int .i64 0)) ⟨g + 3, 1, none⟩ (strV [])) ⟨g + 3, 2, none⟩ (strV [])) ⟨g + 3, 3, none⟩ (.int .i64 0)) ⟨g + 3, 4, none⟩ (.slice none 0 0)) ⟨g + 3, 5, none⟩ (.slice none 0 0)) = W3 at *
    clear u0 u1 u2 u3 u4 u5 v0 v1 v2 v3 v4 v5 f0 f1 f2 f3 f4 f5 h0 h1 h2 h3 h4 h5
    have u0 : W3.cell? ⟨g + 2, 0, none⟩ = some (.int .i64 0) := z2.cell 0 rfl; have u1 : W3.cell? ⟨g + 2, 1, none⟩ = some (strV []) := z2.cell 1 rfl; have u2 : W3.cell? ⟨g + 2, 2, none⟩ = some (strV []) := z2.cell 2 rfl; have u3 : W3.cell? ⟨g + 2, 3, none⟩ = some (.int .i64 0) := z2.cell 3 rfl; have u4 : W3.cell? ⟨g + 2, 4, none⟩ = some (.slice none 0 0) := z2.cell 4 rfl; have u5 : W3.cell? ⟨g + 2, 5, none⟩ = some (.slice none 0 0) := z2.cell 5 rfl
    have v0 : W3.cell? ⟨g + 3, 0, none⟩ = some (.int .i64 0) := z3.cell 0 rfl; have v1 : W3.cell? ⟨g + 3, 1, none⟩ = some (strV []) := z3.cell 1 rfl; have v2 : W3.cell? ⟨g + 3, 2, none⟩ = some (strV []) := z3.cell 2 rfl; have v3 : W3.cell? ⟨g + 3, 3, none⟩ = some (.int .i64 0) := z3.cell 3 rfl; have v4 : W3.cell? ⟨g + 3, 4, none⟩ = some (.slice none 0 0) := z3.cell 4 rfl; have v5 : W3.cell? ⟨g + 3, 5, none⟩ = some (.slice none 0 0) := z3.cell 5 rfl
    try rw [Exit.noGoto_ret]
    refine bodyPost_ret (v := .tuple #[.agg #[.int .i64 0, strV [], strV [], .int .i64 0, .slice none 0 0, .slice none 0 0], .agg #[.int .i64 0, strV [], strV [], .int .i64 0, .slice none 0 0, .slice none 0 0], .bool false]) (by simp [results, Try.results74, go_sem, u0, v0, u1, v1, u2, v2, u3, v3, u4, v4, u5, v5]) rfl ?_
    have hW : Below w.heap.size w W3 := by rw [HGS.out]; exact hb6
    exact ppEndH_none HO.out HBB.out (passP_no2 HBQ.out) hW
  | true =>
  go_upto_region 3 with fail
  go_cut [7, 8] from 9 (fun s7 s8 wx => ∃ (T U : Nat), s7 = .pointer (some ⟨T, 0, none⟩) ∧ s8 = .pointer (some ⟨U, 0, none⟩) ∧ Two w2 wx T U #[.int .i64 q.k, strV q.nm, strV q.to, .int .i64 q.h.pos, .slice D m k, .slice D' m' k'] #[.int .i64 p.k, strV p.nm, strV p.to, .int .i64 p.h.pos, .slice A n c, .slice A' n' c'])
  case first =>
    have x0 : w2.cell? ⟨g, 0, none⟩ = some (.int .i64 p.k) := HB0w2.out.cell 0 rfl; have x1 : w2.cell? ⟨g, 1, none⟩ = some (strV p.nm) := HB0w2.out.cell 1 rfl; have x2 : w2.cell? ⟨g, 2, none⟩ = some (strV p.to) := HB0w2.out.cell 2 rfl; have x3 : w2.cell? ⟨g, 3, none⟩ = some (.int .i64 p.h.pos) := HB0w2.out.cell 3 rfl; have x4 : w2.cell? ⟨g, 4, none⟩ = some (.slice A n c) := HB0w2.out.cell 4 rfl; have x5 : w2.cell? ⟨g, 5, none⟩ = some (.slice A' n' c') := HB0w2.out.cell 5 rfl
    have y0 : w2.cell? ⟨g + 1, 0, none⟩ = some (.int .i64 q.k) := HB1w2.out.cell 0 rfl; have y1 : w2.cell? ⟨g + 1, 1, none⟩ = some (strV q.nm) := HB1w2.out.cell 1 rfl; have y2 : w2.cell? ⟨g + 1, 2, none⟩ = some (strV q.to) := HB1w2.out.cell 2 rfl; have y3 : w2.cell? ⟨g + 1, 3, none⟩ = some (.int .i64 q.h.pos) := HB1w2.out.cell 3 rfl; have y4 : w2.cell? ⟨g + 1, 4, none⟩ = some (.slice D m k) := HB1w2.out.cell 4 rfl; have y5 : w2.cell? ⟨g + 1, 5, none⟩ = some (.slice D' m' k') := HB1w2.out.cell 5 rfl
    have hg0 : g < w2.heap.size := HB0w2.out.lt
    have hg1 : g + 1 < w2.heap.size := HB1w2.out.lt
    go_region
    all_goals (try go_wp2_with fail)
    all_goals go_meet
    all_goals first
      | (with_reducible exact ⟨_, _, rfl, rfl, (two_aa w2 _ _).drew⟩)
      | (with_reducible exact ⟨_, _, rfl, rfl, (two_aa w2 _ _).swap.drew⟩)
      | (exact ⟨_, _, rfl, rfl, (two_aa w2 _ _).drew⟩)
      | (exact ⟨_, _, rfl, rfl, (two_aa w2 _ _).swap.drew⟩)
  case rest =>
  obtain ⟨T, U, rfl, rfl, hbt, hbu, hne, hT, hU, hb⟩ := hcut
  have HBTwc := Lib.hid hbt; have HBUwc := Lib.hid hbu; have HNE := Lib.hid hne
  have HgT : Hid (g + 3 < T ∧ g + 3 < U) := Lib.hid (by have := HB3w2.out.lt; omega)
  have HVwc := Lib.hid (HVw2.out.mv hb); have GVwc := Lib.hid (GVw2.out.mv hb); clear HVw2 GVw2
  clear hbt hbu hne hT hU
  have HWwc := Lib.hid (HWw2.out.trans (hb.mono HGw2.out)); have HGwc := Lib.hid (Nat.le_trans HGw2.out hb.size)
  have HB0wc := Lib.hid (HB0w2.out.below hb HB0w2.out.lt); have HB1wc := Lib.hid (HB1w2.out.below hb HB1w2.out.lt); have HB2wc := Lib.hid (HB2w2.out.below hb HB2w2.out.lt); have HB3wc := Lib.hid (HB3w2.out.below hb HB3w2.out.lt)
  clear hb HWw2 HGw2 HB0w2 HB1w2 HB2w2 HB3w2
  go_wp2_with fail
  go_step3
  go_step
  go_step
  go_step
  go_cut [] from 9 (fun wx => PMid w wx g T U p q)
  case first =>
    have x0 : wc.cell? ⟨g, 0, none⟩ = some (.int .i64 p.k) := HB0wc.out.cell 0 rfl; have x1 : wc.cell? ⟨g, 1, none⟩ = some (strV p.nm) := HB0wc.out.cell 1 rfl; have x2 : wc.cell? ⟨g, 2, none⟩ = some (strV p.to) := HB0wc.out.cell 2 rfl; have x3 : wc.cell? ⟨g, 3, none⟩ = some (.int .i64 p.h.pos) := HB0wc.out.cell 3 rfl; have x4 : wc.cell? ⟨g, 4, none⟩ = some (.slice A n c) := HB0wc.out.cell 4 rfl; have x5 : wc.cell? ⟨g, 5, none⟩ = some (.slice A' n' c') := HB0wc.out.cell 5 rfl
    have y0 : wc.cell? ⟨g + 1, 0, none⟩ = some (.int .i64 q.k) := HB1wc.out.cell 0 rfl; have y1 : wc.cell? ⟨g + 1, 1, none⟩ = some (strV q.nm) := HB1wc.out.cell 1 rfl; have y2 : wc.cell? ⟨g + 1, 2, none⟩ = some (strV q.to) := HB1wc.out.cell 2 rfl; have y3 : wc.cell? ⟨g + 1, 3, none⟩ = some (.int .i64 q.h.pos) := HB1wc.out.cell 3 rfl; have y4 : wc.cell? ⟨g + 1, 4, none⟩ = some (.slice D m k) := HB1wc.out.cell 4 rfl; have y5 : wc.cell? ⟨g + 1, 5, none⟩ = some (.slice D' m' k') := HB1wc.out.cell 5 rfl
    go_wp2_with fail
    clear x0 x1 x2 x3 x4 x5 y0 y1 y2 y3 y4 y5
    refine (Meet A n c A' n' c' D m k D' m' k' p q wc ba HBA.out).mono ?_
    rintro e w4 ⟨rfl, hb⟩
    have HVw4 := Lib.hid (HVwc.out.mv hb); have GVw4 := Lib.hid (GVwc.out.mv hb); clear HVwc GVwc
    have HWw4 := Lib.hid (HWwc.out.trans (hb.mono HGwc.out)); have HGw4 := Lib.hid (Nat.le_trans HGwc.out hb.size)
    have HB0w4 := Lib.hid (HB0wc.out.below hb HB0wc.out.lt); have HB1w4 := Lib.hid (HB1wc.out.below hb HB1wc.out.lt); have HB2w4 := Lib.hid (HB2wc.out.below hb HB2wc.out.lt); have HB3w4 := Lib.hid (HB3wc.out.below hb HB3wc.out.lt); have HBTw4 := Lib.hid (HBTwc.out.below hb HBTwc.out.lt); have HBUw4 := Lib.hid (HBUwc.out.below hb HBUwc.out.lt)
    clear hb HWwc HGwc HB0wc HB1wc HB2wc HB3wc HBTwc HBUwc
    have x0 : w4.cell? ⟨g, 0, none⟩ = some (.int .i64 p.k) := HB0w4.out.cell 0 rfl; have x1 : w4.cell? ⟨g, 1, none⟩ = some (strV p.nm) := HB0w4.out.cell 1 rfl; have x2 : w4.cell? ⟨g, 2, none⟩ = some (strV p.to) := HB0w4.out.cell 2 rfl; have x3 : w4.cell? ⟨g, 3, none⟩ = some (.int .i64 p.h.pos) := HB0w4.out.cell 3 rfl; have x4 : w4.cell? ⟨g, 4, none⟩ = some (.slice A n c) := HB0w4.out.cell 4 rfl; have x5 : w4.cell? ⟨g, 5, none⟩ = some (.slice A' n' c') := HB0w4.out.cell 5 rfl
    have y0 : w4.cell? ⟨g + 1, 0, none⟩ = some (.int .i64 q.k) := HB1w4.out.cell 0 rfl; have y1 : w4.cell? ⟨g + 1, 1, none⟩ = some (strV q.nm) := HB1w4.out.cell 1 rfl; have y2 : w4.cell? ⟨g + 1, 2, none⟩ = some (strV q.to) := HB1w4.out.cell 2 rfl; have y3 : w4.cell? ⟨g + 1, 3, none⟩ = some (.int .i64 q.h.pos) := HB1w4.out.cell 3 rfl; have y4 : w4.cell? ⟨g + 1, 4, none⟩ = some (.slice D m k) := HB1w4.out.cell 4 rfl; have y5 : w4.cell? ⟨g + 1, 5, none⟩ = some (.slice D' m' k') := HB1w4.out.cell 5 rfl
    cases ba with
    | true =>
      go_wp2_with fail
      go_meet
      exact ⟨_, _, D, m, k, D', m', k', A, n, c, A', n', c', (passP_ap HBP.out HBQ.out HBA.out), HBTw4.out, HBUw4.out, HB2w4.out, HB3w4.out, GVw4.out, HVw4.out, GL.out, HL.out, HWw4.out⟩
    | false =>
    by_cases h3 : p.k = 3 ∧ q.k = 3
    · have e1 : (p.k == 3) = true := by simpa using h3.1
      have e2 : (q.k == 3) = true := by simpa using h3.2
      have H3 := Lib.hid h3; clear h3
      go_wp2_with fail
      clear x0 x1 x2 x3 x4 x5 y0 y1 y2 y3 y4 y5
      refine (Sw.PassHi A n c A' n' c' D m k D' m' k' w4.heap.size p.h q.h w4 (Nat.le_refl _) HL.out.1 HL.out.2 GL.out.1 GL.out.2 HVw4.out.h GVw4.out.h).mono ?_
      rintro e w5 hend
      have hb : Below w4.heap.size w4 w5 := by obtain ⟨_, _, _, _, _, _, _, _, _, _, _, _, _, _, _, _, hb⟩ := hend; exact hb
      cases hz : Sw.passH p.h q.h with
      | none =>
        have HN : Hid (passP p q = none) := Lib.hid (by rw [passP_b HBP.out HBQ.out HBA.out H3.out.1 H3.out.2, hz]; rfl)
        have hz0 : Sw.outH (Sw.passH p.h q.h) = (Sw.zeroH, Sw.zeroH) := by rw [hz]; rfl
        obtain ⟨E1, i1, j1, E2, i2, j2, G1, k1, l1, G2, k2, l2, he, v1, v2, hhi, _⟩ := hend
        clear v1 v2 hhi
        rw [hz0, hz] at he
        have he' : e = .returned (.tuple #[Hk.hkV 0 E1 i1 j1 E2 i2 j2, Hk.hkV 0 G1 k1 l1 G2 k2 l2, .bool false]) := he
        clear he
        subst he'
        clear hz hz0
        have HVw5 := Lib.hid (HVw4.out.mv hb); have GVw5 := Lib.hid (GVw4.out.mv hb); clear HVw4 GVw4
        have HWw5 := Lib.hid (HWw4.out.trans (hb.mono HGw4.out)); have HGw5 := Lib.hid (Nat.le_trans HGw4.out hb.size)
        have HB0w5 := Lib.hid (HB0w4.out.below hb HB0w4.out.lt); have HB1w5 := Lib.hid (HB1w4.out.below hb HB1w4.out.lt); have HB2w5 := Lib.hid (HB2w4.out.below hb HB2w4.out.lt); have HB3w5 := Lib.hid (HB3w4.out.below hb HB3w4.out.lt); have HBTw5 := Lib.hid (HBTw4.out.below hb HBTw4.out.lt); have HBUw5 := Lib.hid (HBUw4.out.below hb HBUw4.out.lt)
        clear hb HWw4 HGw4 HB0w4 HB1w4 HB2w4 HB3w4 HBTw4 HBUw4
        go_upto_region 10 with fail
        have hb : Below w5.heap.size w5 ((w5.alloc (.cells #[.int .i64 0, .slice E1 i1 j1, .slice E2 i2 j2] 52)).alloc (.cells #[.int .i64 0, .slice G1 k1 l1, .slice G2 k2 l2] 52)) := two_box _ _ _
        have HBX := Lib.hid ((Blk.new w5 52 #[.int .i64 0, .slice E1 i1 j1, .slice E2 i2 j2]).alloc (.cells #[.int .i64 0, .slice G1 k1 l1, .slice G2 k2 l2] 52))
        have hby := Blk.new (w5.alloc (.cells #[.int .i64 0, .slice E1 i1 j1, .slice E2 i2 j2] 52)) 52 #[.int .i64 0, .slice G1 k1 l1, .slice G2 k2 l2]
        simp only [World.size_alloc] at hby
        have HBY := Lib.hid hby
        clear hby
        have HVw6 := Lib.hid (HVw5.out.mv hb); have GVw6 := Lib.hid (GVw5.out.mv hb); clear HVw5 GVw5
        have HG5 := Lib.hid (show T < w5.heap.size ∧ U < w5.heap.size from ⟨HBTw5.out.lt, HBUw5.out.lt⟩)
        have HWw6 := Lib.hid (HWw5.out.trans (hb.mono HGw5.out)); have HGw6 := Lib.hid (Nat.le_trans HGw5.out hb.size)
        have HB0w6 := Lib.hid (HB0w5.out.below hb HB0w5.out.lt); have HB1w6 := Lib.hid (HB1w5.out.below hb HB1w5.out.lt); have HB2w6 := Lib.hid (HB2w5.out.below hb HB2w5.out.lt); have HB3w6 := Lib.hid (HB3w5.out.below hb HB3w5.out.lt); have HBTw6 := Lib.hid (HBTw5.out.below hb HBTw5.out.lt); have HBUw6 := Lib.hid (HBUw5.out.below hb HBUw5.out.lt)
        clear hb HWw5 HGw5 HB0w5 HB1w5 HB2w5 HB3w5 HBTw5 HBUw5
        generalize ((w5.alloc (.cells #[.int .i64 0, .slice E1 i1 j1, .slice E2 i2 j2] 52)).alloc (.cells #[.int .i64 0, .slice G1 k1 l1, .slice G2 k2 l2] 52)) = w6 at *
        generalize w5.heap.size = g5 at *
        have x0 : w6.cell? ⟨g, 0, none⟩ = some (.int .i64 p.k) := HB0w6.out.cell 0 rfl; have x1 : w6.cell? ⟨g, 1, none⟩ = some (strV p.nm) := HB0w6.out.cell 1 rfl; have x2 : w6.cell? ⟨g, 2, none⟩ = some (strV p.to) := HB0w6.out.cell 2 rfl; have x3 : w6.cell? ⟨g, 3, none⟩ = some (.int .i64 p.h.pos) := HB0w6.out.cell 3 rfl; have x4 : w6.cell? ⟨g, 4, none⟩ = some (.slice A n c) := HB0w6.out.cell 4 rfl; have x5 : w6.cell? ⟨g, 5, none⟩ = some (.slice A' n' c') := HB0w6.out.cell 5 rfl
        have y0 : w6.cell? ⟨g + 1, 0, none⟩ = some (.int .i64 q.k) := HB1w6.out.cell 0 rfl; have y1 : w6.cell? ⟨g + 1, 1, none⟩ = some (strV q.nm) := HB1w6.out.cell 1 rfl; have y2 : w6.cell? ⟨g + 1, 2, none⟩ = some (strV q.to) := HB1w6.out.cell 2 rfl; have y3 : w6.cell? ⟨g + 1, 3, none⟩ = some (.int .i64 q.h.pos) := HB1w6.out.cell 3 rfl; have y4 : w6.cell? ⟨g + 1, 4, none⟩ = some (.slice D m k) := HB1w6.out.cell 4 rfl; have y5 : w6.cell? ⟨g + 1, 5, none⟩ = some (.slice D' m' k') := HB1w6.out.cell 5 rfl
        have e3 := name_ne HBP.out HBQ.out (.inl H3.out.1)
        have e4 : (q.k == 2) = false := by rw [beq_eq_false_iff_ne]; have := H3.out.2; omega
        have u0 : w6.cell? ⟨g + 2, 0, none⟩ = some (.int .i64 0) := HB2w6.out.cell 0 rfl; have u1 : w6.cell? ⟨g + 2, 1, none⟩ = some (strV []) := HB2w6.out.cell 1 rfl; have u2 : w6.cell? ⟨g + 2, 2, none⟩ = some (strV []) := HB2w6.out.cell 2 rfl; have u3 : w6.cell? ⟨g + 2, 3, none⟩ = some (.int .i64 0) := HB2w6.out.cell 3 rfl; have u4 : w6.cell? ⟨g + 2, 4, none⟩ = some (.slice none 0 0) := HB2w6.out.cell 4 rfl; have u5 : w6.cell? ⟨g + 2, 5, none⟩ = some (.slice none 0 0) := HB2w6.out.cell 5 rfl
        have v0 : w6.cell? ⟨g + 3, 0, none⟩ = some (.int .i64 0) := HB3w6.out.cell 0 rfl; have v1 : w6.cell? ⟨g + 3, 1, none⟩ = some (strV []) := HB3w6.out.cell 1 rfl; have v2 : w6.cell? ⟨g + 3, 2, none⟩ = some (strV []) := HB3w6.out.cell 2 rfl; have v3 : w6.cell? ⟨g + 3, 3, none⟩ = some (.int .i64 0) := HB3w6.out.cell 3 rfl; have v4 : w6.cell? ⟨g + 3, 4, none⟩ = some (.slice none 0 0) := HB3w6.out.cell 4 rfl; have v5 : w6.cell? ⟨g + 3, 5, none⟩ = some (.slice none 0 0) := HB3w6.out.cell 5 rfl
        have f0 : w6.frozen? ⟨g + 2, 0, none⟩ = false := HB2w6.out.frozen 0; have f1 : w6.frozen? ⟨g + 2, 1, none⟩ = false := HB2w6.out.frozen 1; have f2 : w6.frozen? ⟨g + 2, 2, none⟩ = false := HB2w6.out.frozen 2; have f3 : w6.frozen? ⟨g + 2, 3, none⟩ = false := HB2w6.out.frozen 3; have f4 : w6.frozen? ⟨g + 2, 4, none⟩ = false := HB2w6.out.frozen 4; have f5 : w6.frozen? ⟨g + 2, 5, none⟩ = false := HB2w6.out.frozen 5
        have h0 : w6.frozen? ⟨g + 3, 0, none⟩ = false := HB3w6.out.frozen 0; have h1 : w6.frozen? ⟨g + 3, 1, none⟩ = false := HB3w6.out.frozen 1; have h2 : w6.frozen? ⟨g + 3, 2, none⟩ = false := HB3w6.out.frozen 2; have h3 : w6.frozen? ⟨g + 3, 3, none⟩ = false := HB3w6.out.frozen 3; have h4 : w6.frozen? ⟨g + 3, 4, none⟩ = false := HB3w6.out.frozen 4; have h5 : w6.frozen? ⟨g + 3, 5, none⟩ = false := HB3w6.out.frozen 5
        go_wp2_with fail
        obtain ⟨z2, z3⟩ := two_set6 HB2w6.out HB3w6.out (by omega) (.int .i64 0) (strV []) (strV []) (.int .i64 0) (.slice none 0 0) (.slice none 0 0) (.int .i64 0) (strV []) (strV []) (.int .i64 0) (.slice none 0 0) (.slice none 0 0)
        have hb6 := below_set12 (b := g + 2) (b' := g + 3) HWw6.out (by omega) (by omega) (.int .i64 0) (strV []) (strV []) (.int .i64 0) (.slice none 0 0) (.slice none 0 0) (.int .i64 0) (strV []) (strV []) (.int .i64 0) (.slice none 0 0) (.slice none 0 0)
        generalize (World.setCell (World.setCell (World.setCell (World.setCell (World.setCell (World.setCell (World.setCell (World.setCell (World.setCell (World.setCell (World.setCell (World.setCell w6 ⟨g + 2, 0, none⟩ (.int .i64 0)) ⟨g + 2, 1, none⟩ (strV [])) ⟨g + 2, 2, none⟩ (strV [])) ⟨g + 2, 3, none⟩ (.int .i64 0)) ⟨g + 2, 4, none⟩ (.slice none 0 0)) ⟨g + 2, 5, none⟩ (.slice none 0 0)) ⟨g + 3, 0, none⟩ (.int .i64 0)) ⟨g + 3, 1, none⟩ (strV [])) ⟨g + 3, 2, none⟩ (strV [])) ⟨g + 3, 3, none⟩ (.int .i64 0)) ⟨g + 3, 4, none⟩ (.slice none 0 0)) ⟨g + 3, 5, none⟩ (.slice none 0 0)) = W3 at *
        clear u0 u1 u2 u3 u4 u5 v0 v1 v2 v3 v4 v5 f0 f1 f2 f3 f4 f5 h0 h1 h2 h3 h4 h5
        have u0 : W3.cell? ⟨g + 2, 0, none⟩ = some (.int .i64 0) := z2.cell 0 rfl; have u1 : W3.cell? ⟨g + 2, 1, none⟩ = some (strV []) := z2.cell 1 rfl; have u2 : W3.cell? ⟨g + 2, 2, none⟩ = some (strV []) := z2.cell 2 rfl; have u3 : W3.cell? ⟨g + 2, 3, none⟩ = some (.int .i64 0) := z2.cell 3 rfl; have u4 : W3.cell? ⟨g + 2, 4, none⟩ = some (.slice none 0 0) := z2.cell 4 rfl; have u5 : W3.cell? ⟨g + 2, 5, none⟩ = some (.slice none 0 0) := z2.cell 5 rfl
        have v0 : W3.cell? ⟨g + 3, 0, none⟩ = some (.int .i64 0) := z3.cell 0 rfl; have v1 : W3.cell? ⟨g + 3, 1, none⟩ = some (strV []) := z3.cell 1 rfl; have v2 : W3.cell? ⟨g + 3, 2, none⟩ = some (strV []) := z3.cell 2 rfl; have v3 : W3.cell? ⟨g + 3, 3, none⟩ = some (.int .i64 0) := z3.cell 3 rfl; have v4 : W3.cell? ⟨g + 3, 4, none⟩ = some (.slice none 0 0) := z3.cell 4 rfl; have v5 : W3.cell? ⟨g + 3, 5, none⟩ = some (.slice none 0 0) := z3.cell 5 rfl
        try rw [Exit.noGoto_ret]
        refine bodyPost_ret (v := .tuple #[.agg #[.int .i64 0, strV [], strV [], .int .i64 0, .slice none 0 0, .slice none 0 0], .agg #[.int .i64 0, strV [], strV [], .int .i64 0, .slice none 0 0, .slice none 0 0], .bool false]) (by simp [results, Try.results74, go_sem, u0, v0, u1, v1, u2, v2, u3, v3, u4, v4, u5, v5]) rfl ?_
        have hW : Below w.heap.size w W3 := by rw [HGS.out]; exact hb6
        exact ppEndH_none HO.out HBB.out HN.out hW
      | some z =>
        obtain ⟨hx, hy⟩ := z
        have HS : Hid (passP p q = some (⟨q.k, q.nm, q.to, hx⟩, ⟨p.k, p.nm, p.to, hy⟩)) := Lib.hid (by rw [passP_b HBP.out HBQ.out HBA.out H3.out.1 H3.out.2, hz]; rfl)
        have hz0 : Sw.outH (Sw.passH p.h q.h) = (hx, hy) := by rw [hz]; rfl
        obtain ⟨E1, i1, j1, E2, i2, j2, G1, k1, l1, G2, k2, l2, he, v1, v2, hhi, _⟩ := hend
        rw [hz0, hz] at he
        rw [hz0] at v1 v2
        have he' : e = .returned (.tuple #[Hk.hkV hx.pos E1 i1 j1 E2 i2 j2, Hk.hkV hy.pos G1 k1 l1 G2 k2 l2, .bool true]) := he
        replace v1 : HV w5 w5.heap.size E1 i1 j1 E2 i2 j2 hx := v1
        replace v2 : HV w5 w5.heap.size G1 k1 l1 G2 k2 l2 hy := v2
        clear he
        subst he'
        obtain ⟨_, r1, r2, r3, r4⟩ := Sw.pass_moves (x := hx) (y := hy) (Sw.passH_may hz).2.2.1
        have gl2 : (i1 ≤ 1000 ∧ i2 ≤ 1000) ∧ (k1 ≤ 1000 ∧ k2 ≤ 1000) := by
          have a1 := v1.l; have a2 := v1.l'; have a3 := v2.l; have a4 := v2.l'
          have b1 := GV0.out.h.l; have b2 := GV0.out.h.l'; have b3 := HV0.out.h.l; have b4 := HV0.out.h.l'
          have c1 := HL.out; have c2 := GL.out
          rw [r1] at a1; rw [r2] at a2; rw [r3] at a3; rw [r4] at a4
          omega
        have GL2 := Lib.hid gl2
        have V1 : Hid (PV w5 w5.heap.size E1 i1 j1 E2 i2 j2 ⟨q.k, q.nm, q.to, hx⟩) := Lib.hid (GV0.out.hunk v1 r1 r2)
        have V2 : Hid (PV w5 w5.heap.size G1 k1 l1 G2 k2 l2 ⟨p.k, p.nm, p.to, hy⟩) := Lib.hid (HV0.out.hunk v2 r3 r4)
        have hhi1 : Hi w4.heap.size E1 ∧ Hi w4.heap.size E2 ∧ Hi w4.heap.size G1 ∧ Hi w4.heap.size G2 := hhi
        have HHI := Lib.hid (And.intro hhi1 (And.intro HBTw4.out.lt HBUw4.out.lt))
        clear hz hz0 r1 r2 r3 r4 v1 v2 gl2 hhi hhi1
        have HVw5 := Lib.hid (HVw4.out.mv hb); have GVw5 := Lib.hid (GVw4.out.mv hb); clear HVw4 GVw4
        have HWw5 := Lib.hid (HWw4.out.trans (hb.mono HGw4.out)); have HGw5 := Lib.hid (Nat.le_trans HGw4.out hb.size)
        have HB0w5 := Lib.hid (HB0w4.out.below hb HB0w4.out.lt); have HB1w5 := Lib.hid (HB1w4.out.below hb HB1w4.out.lt); have HB2w5 := Lib.hid (HB2w4.out.below hb HB2w4.out.lt); have HB3w5 := Lib.hid (HB3w4.out.below hb HB3w4.out.lt); have HBTw5 := Lib.hid (HBTw4.out.below hb HBTw4.out.lt); have HBUw5 := Lib.hid (HBUw4.out.below hb HBUw4.out.lt)
        clear hb HWw4 HGw4 HB0w4 HB1w4 HB2w4 HB3w4 HBTw4 HBUw4
        go_upto_region 10 with fail
        have hb : Below w5.heap.size w5 ((w5.alloc (.cells #[.int .i64 hx.pos, .slice E1 i1 j1, .slice E2 i2 j2] 52)).alloc (.cells #[.int .i64 hy.pos, .slice G1 k1 l1, .slice G2 k2 l2] 52)) := two_box _ _ _
        have HBX := Lib.hid ((Blk.new w5 52 #[.int .i64 hx.pos, .slice E1 i1 j1, .slice E2 i2 j2]).alloc (.cells #[.int .i64 hy.pos, .slice G1 k1 l1, .slice G2 k2 l2] 52))
        have hby := Blk.new (w5.alloc (.cells #[.int .i64 hx.pos, .slice E1 i1 j1, .slice E2 i2 j2] 52)) 52 #[.int .i64 hy.pos, .slice G1 k1 l1, .slice G2 k2 l2]
        simp only [World.size_alloc] at hby
        have HBY := Lib.hid hby
        clear hby
        have HVw6 := Lib.hid (HVw5.out.mv hb); have GVw6 := Lib.hid (GVw5.out.mv hb); clear HVw5 GVw5
        have HG5 := Lib.hid (show T < w5.heap.size ∧ U < w5.heap.size from ⟨HBTw5.out.lt, HBUw5.out.lt⟩)
        have V1w6 := Lib.hid (V1.out.mv hb); have V2w6 := Lib.hid (V2.out.mv hb); clear V1 V2
        have HWw6 := Lib.hid (HWw5.out.trans (hb.mono HGw5.out)); have HGw6 := Lib.hid (Nat.le_trans HGw5.out hb.size)
        have HB0w6 := Lib.hid (HB0w5.out.below hb HB0w5.out.lt); have HB1w6 := Lib.hid (HB1w5.out.below hb HB1w5.out.lt); have HB2w6 := Lib.hid (HB2w5.out.below hb HB2w5.out.lt); have HB3w6 := Lib.hid (HB3w5.out.below hb HB3w5.out.lt); have HBTw6 := Lib.hid (HBTw5.out.below hb HBTw5.out.lt); have HBUw6 := Lib.hid (HBUw5.out.below hb HBUw5.out.lt)
        clear hb HWw5 HGw5 HB0w5 HB1w5 HB2w5 HB3w5 HBTw5 HBUw5
        generalize ((w5.alloc (.cells #[.int .i64 hx.pos, .slice E1 i1 j1, .slice E2 i2 j2] 52)).alloc (.cells #[.int .i64 hy.pos, .slice G1 k1 l1, .slice G2 k2 l2] 52)) = w6 at *
        generalize w5.heap.size = g5 at *
        have a0 : w6.cell? ⟨g5, 0, none⟩ = some (.int .i64 hx.pos) := HBX.out.cell 0 rfl; have a1 : w6.cell? ⟨g5, 1, none⟩ = some (.slice E1 i1 j1) := HBX.out.cell 1 rfl; have a2 : w6.cell? ⟨g5, 2, none⟩ = some (.slice E2 i2 j2) := HBX.out.cell 2 rfl
        have b0 : w6.cell? ⟨g5 + 1, 0, none⟩ = some (.int .i64 hy.pos) := HBY.out.cell 0 rfl; have b1 : w6.cell? ⟨g5 + 1, 1, none⟩ = some (.slice G1 k1 l1) := HBY.out.cell 1 rfl; have b2 : w6.cell? ⟨g5 + 1, 2, none⟩ = some (.slice G2 k2 l2) := HBY.out.cell 2 rfl
        have t0 : w6.cell? ⟨T, 0, none⟩ = some (.int .i64 q.k) := HBTw6.out.cell 0 rfl; have t1 : w6.cell? ⟨T, 1, none⟩ = some (strV q.nm) := HBTw6.out.cell 1 rfl; have t2 : w6.cell? ⟨T, 2, none⟩ = some (strV q.to) := HBTw6.out.cell 2 rfl; have t3 : w6.cell? ⟨T, 3, none⟩ = some (.int .i64 q.h.pos) := HBTw6.out.cell 3 rfl; have t4 : w6.cell? ⟨T, 4, none⟩ = some (.slice D m k) := HBTw6.out.cell 4 rfl; have t5 : w6.cell? ⟨T, 5, none⟩ = some (.slice D' m' k') := HBTw6.out.cell 5 rfl
        have s0 : w6.cell? ⟨U, 0, none⟩ = some (.int .i64 p.k) := HBUw6.out.cell 0 rfl; have s1 : w6.cell? ⟨U, 1, none⟩ = some (strV p.nm) := HBUw6.out.cell 1 rfl; have s2 : w6.cell? ⟨U, 2, none⟩ = some (strV p.to) := HBUw6.out.cell 2 rfl; have s3 : w6.cell? ⟨U, 3, none⟩ = some (.int .i64 p.h.pos) := HBUw6.out.cell 3 rfl; have s4 : w6.cell? ⟨U, 4, none⟩ = some (.slice A n c) := HBUw6.out.cell 4 rfl; have s5 : w6.cell? ⟨U, 5, none⟩ = some (.slice A' n' c') := HBUw6.out.cell 5 rfl
        have k3 : w6.frozen? ⟨T, 3, none⟩ = false := HBTw6.out.frozen 3; have k4 : w6.frozen? ⟨T, 4, none⟩ = false := HBTw6.out.frozen 4; have k5 : w6.frozen? ⟨T, 5, none⟩ = false := HBTw6.out.frozen 5
        have l3 : w6.frozen? ⟨U, 3, none⟩ = false := HBUw6.out.frozen 3; have l4 : w6.frozen? ⟨U, 4, none⟩ = false := HBUw6.out.frozen 4; have l5 : w6.frozen? ⟨U, 5, none⟩ = false := HBUw6.out.frozen 5
        have hn1 := HNE.out; have hn2 := HNE.out.symm; have hg5 := HG5.out.1; have hg6 := HG5.out.2
        go_upto_region 11 with fail
        go_region
        go_wp2_with fail
        have HBTw7 := Lib.hid (three_set (b' := U) (blk3 HBTw6.out (.int .i64 hx.pos) (.slice E1 i1 j1) (.slice E2 i2 j2)) HNE.out (.int .i64 hy.pos) (.slice G1 k1 l1) (.slice G2 k2 l2))
        have HBUw7 := Lib.hid (blk3 (three_set (b' := T) HBUw6.out HNE.out.symm (.int .i64 hx.pos) (.slice E1 i1 j1) (.slice E2 i2 j2)) (.int .i64 hy.pos) (.slice G1 k1 l1) (.slice G2 k2 l2))
        have HB2w7 := Lib.hid (three_set (b' := U) (three_set (b' := T) HB2w6.out (by have := HgT.out; omega) (.int .i64 hx.pos) (.slice E1 i1 j1) (.slice E2 i2 j2)) (by have := HgT.out; omega) (.int .i64 hy.pos) (.slice G1 k1 l1) (.slice G2 k2 l2))
        have HB3w7 := Lib.hid (three_set (b' := U) (three_set (b' := T) HB3w6.out (by have := HgT.out; omega) (.int .i64 hx.pos) (.slice E1 i1 j1) (.slice E2 i2 j2)) (by have := HgT.out; omega) (.int .i64 hy.pos) (.slice G1 k1 l1) (.slice G2 k2 l2))
        have HP1 : Hid (PV (World.setCell (World.setCell (World.setCell (World.setCell (World.setCell (World.setCell w6 ⟨T, 3, none⟩ (.int .i64 hx.pos)) ⟨T, 4, none⟩ (.slice E1 i1 j1)) ⟨T, 5, none⟩ (.slice E2 i2 j2)) ⟨U, 3, none⟩ (.int .i64 hy.pos)) ⟨U, 4, none⟩ (.slice G1 k1 l1)) ⟨U, 5, none⟩ (.slice G2 k2 l2)) w6.heap.size E1 i1 j1 E2 i2 j2 ⟨q.k, q.nm, q.to, hx⟩) := Lib.hid ((((((V1w6.out.hi HHI.out.1.1 HHI.out.1.2.1 HHI.out.2.1 3 _).hi HHI.out.1.1 HHI.out.1.2.1 HHI.out.2.1 4 _).hi HHI.out.1.1 HHI.out.1.2.1 HHI.out.2.1 5 _).hi HHI.out.1.1 HHI.out.1.2.1 HHI.out.2.2 3 _).hi HHI.out.1.1 HHI.out.1.2.1 HHI.out.2.2 4 _).hi HHI.out.1.1 HHI.out.1.2.1 HHI.out.2.2 5 _)
        have HP2 : Hid (PV (World.setCell (World.setCell (World.setCell (World.setCell (World.setCell (World.setCell w6 ⟨T, 3, none⟩ (.int .i64 hx.pos)) ⟨T, 4, none⟩ (.slice E1 i1 j1)) ⟨T, 5, none⟩ (.slice E2 i2 j2)) ⟨U, 3, none⟩ (.int .i64 hy.pos)) ⟨U, 4, none⟩ (.slice G1 k1 l1)) ⟨U, 5, none⟩ (.slice G2 k2 l2)) w6.heap.size G1 k1 l1 G2 k2 l2 ⟨p.k, p.nm, p.to, hy⟩) := Lib.hid ((((((V2w6.out.hi HHI.out.1.2.2.1 HHI.out.1.2.2.2 HHI.out.2.1 3 _).hi HHI.out.1.2.2.1 HHI.out.1.2.2.2 HHI.out.2.1 4 _).hi HHI.out.1.2.2.1 HHI.out.1.2.2.2 HHI.out.2.1 5 _).hi HHI.out.1.2.2.1 HHI.out.1.2.2.2 HHI.out.2.2 3 _).hi HHI.out.1.2.2.1 HHI.out.1.2.2.2 HHI.out.2.2 4 _).hi HHI.out.1.2.2.1 HHI.out.1.2.2.2 HHI.out.2.2 5 _)
        have HWw7 : Hid (Below g w (World.setCell (World.setCell (World.setCell (World.setCell (World.setCell (World.setCell w6 ⟨T, 3, none⟩ (.int .i64 hx.pos)) ⟨T, 4, none⟩ (.slice E1 i1 j1)) ⟨T, 5, none⟩ (.slice E2 i2 j2)) ⟨U, 3, none⟩ (.int .i64 hy.pos)) ⟨U, 4, none⟩ (.slice G1 k1 l1)) ⟨U, 5, none⟩ (.slice G2 k2 l2))) := Lib.hid ((((((HWw6.out.setCell (p := ⟨T, 3, none⟩) (by have := HgT.out; show g ≤ T; omega) (.int .i64 hx.pos)).setCell (p := ⟨T, 4, none⟩) (by have := HgT.out; show g ≤ T; omega) (.slice E1 i1 j1)).setCell (p := ⟨T, 5, none⟩) (by have := HgT.out; show g ≤ T; omega) (.slice E2 i2 j2)).setCell (p := ⟨U, 3, none⟩) (by have := HgT.out; show g ≤ U; omega) (.int .i64 hy.pos)).setCell (p := ⟨U, 4, none⟩) (by have := HgT.out; show g ≤ U; omega) (.slice G1 k1 l1)).setCell (p := ⟨U, 5, none⟩) (by have := HgT.out; show g ≤ U; omega) (.slice G2 k2 l2))
        have HSZ : Hid ((World.setCell (World.setCell (World.setCell (World.setCell (World.setCell (World.setCell w6 ⟨T, 3, none⟩ (.int .i64 hx.pos)) ⟨T, 4, none⟩ (.slice E1 i1 j1)) ⟨T, 5, none⟩ (.slice E2 i2 j2)) ⟨U, 3, none⟩ (.int .i64 hy.pos)) ⟨U, 4, none⟩ (.slice G1 k1 l1)) ⟨U, 5, none⟩ (.slice G2 k2 l2)).heap.size = w6.heap.size) := Lib.hid (by simp)
        go_meet
        first
          | (exact ⟨_, _, E1, i1, j1, E2, i2, j2, G1, k1, l1, G2, k2, l2, HS.out, (HBTw7.out.drewN 1), (HBUw7.out.drewN 1), (HB2w7.out.drewN 1), (HB3w7.out.drewN 1), ((HP1.out.drewN 1)).up (Nat.le_of_eq HSZ.out.symm), ((HP2.out.drewN 1)).up (Nat.le_of_eq HSZ.out.symm), GL2.out.1, GL2.out.2, (below_drewN HWw7.out 1)⟩)
          | (exact ⟨_, _, E1, i1, j1, E2, i2, j2, G1, k1, l1, G2, k2, l2, HS.out, HBTw7.out, HBUw7.out, HB2w7.out, HB3w7.out, (HP1.out).up (Nat.le_of_eq HSZ.out.symm), (HP2.out).up (Nat.le_of_eq HSZ.out.symm), GL2.out.1, GL2.out.2, HWw7.out⟩)
    by_cases hi : q.k = 2 ∧ (p.k = 3 ∨ p.k = 4) ∧ p.nm = q.nm
    · have e4 : (q.k == 2) = true := by simpa using hi.1
      have e5 : (q.nm == p.nm) = true := by simpa using hi.2.2.symm
      have e6 : (q.k == 3) = false := by rw [beq_eq_false_iff_ne]; have := hi.1; omega
      have HS : Hid (passP p q = some (q, ⟨p.k, q.to, p.to, p.h⟩)) := Lib.hid (passP_i HBP.out HBQ.out HBA.out hi.1 hi.2.1 hi.2.2)
      have HI := Lib.hid hi
      clear hi h3
      have s0 : w4.cell? ⟨U, 0, none⟩ = some (.int .i64 p.k) := HBUw4.out.cell 0 rfl; have s1 : w4.cell? ⟨U, 1, none⟩ = some (strV p.nm) := HBUw4.out.cell 1 rfl; have s2 : w4.cell? ⟨U, 2, none⟩ = some (strV p.to) := HBUw4.out.cell 2 rfl; have s3 : w4.cell? ⟨U, 3, none⟩ = some (.int .i64 p.h.pos) := HBUw4.out.cell 3 rfl; have s4 : w4.cell? ⟨U, 4, none⟩ = some (.slice A n c) := HBUw4.out.cell 4 rfl; have s5 : w4.cell? ⟨U, 5, none⟩ = some (.slice A' n' c') := HBUw4.out.cell 5 rfl
      have l1 : w4.frozen? ⟨U, 1, none⟩ = false := HBUw4.out.frozen 1
      have HBUw6 := Lib.hid (show Blk (World.setCell w4 ⟨U, 1, none⟩ (strV q.to)) U 54 #[.int .i64 p.k, strV q.to, strV p.to, .int .i64 p.h.pos, .slice A n c, .slice A' n' c'] from HBUw4.out.set 1 (strV q.to))
      have HBTw6 := Lib.hid (HBTw4.out.set_ne HNE.out 1 (strV q.to))
      have HB2w6 := Lib.hid (HB2w4.out.set_ne (show g + 2 ≠ U from by have := HgT.out; omega) 1 (strV q.to))
      have HB3w6 := Lib.hid (HB3w4.out.set_ne (show g + 3 ≠ U from by have := HgT.out; omega) 1 (strV q.to))
      have HWw6 := Lib.hid (HWw4.out.setCell (p := ⟨U, 1, none⟩) (by have := HgT.out; show g ≤ U; omega) (strV q.to))
      have hw6 : Below w.heap.size w (World.setCell w4 ⟨U, 1, none⟩ (strV q.to)) := by rw [HGS.out]; exact HWw6.out
      have HP1 := Lib.hid (GV0.out.mv hw6); have HP2 := Lib.hid ((HV0.out.mv hw6).name q.to GV0.out.to)
      clear hw6
      rcases (show (p.k == 3) = true ∨ (p.k == 3) = false ∧ (p.k == 4) = true from by
        rcases HI.out.2.1 with h | h
        · exact .inl (by simpa using h)
        · exact .inr ⟨by rw [beq_eq_false_iff_ne]; omega, by simpa using h⟩) with e1 | ⟨e1, e2⟩
      all_goals
        go_wp2_with fail
        go_meet
        exact ⟨_, _, D, m, k, D', m', k', A, n, c, A', n', c', HS.out, HBTw6.out, HBUw6.out, HB2w6.out, HB3w6.out, HP1.out, HP2.out, GL.out, HL.out, HWw6.out⟩
    by_cases ho : p.k = 2 ∧ (q.k = 3 ∨ q.k = 4) ∧ q.nm = p.to
    · have e1 : (p.k == 3) = false := by rw [beq_eq_false_iff_ne]; have := ho.1; omega
      have e2 : (p.k == 4) = false := by rw [beq_eq_false_iff_ne]; have := ho.1; omega
      have e3 : (p.k == 2) = true := by simpa using ho.1
      have e5 : (q.nm == p.to) = true := by simpa using ho.2.2
      have HS : Hid (passP p q = some (⟨q.k, p.nm, q.to, q.h⟩, p)) := Lib.hid (passP_o HBP.out HBQ.out HBA.out ho.1 ho.2.1 ho.2.2)
      have HO1 := Lib.hid ho
      clear hi ho h3
      have t0 : w4.cell? ⟨T, 0, none⟩ = some (.int .i64 q.k) := HBTw4.out.cell 0 rfl; have t1 : w4.cell? ⟨T, 1, none⟩ = some (strV q.nm) := HBTw4.out.cell 1 rfl; have t2 : w4.cell? ⟨T, 2, none⟩ = some (strV q.to) := HBTw4.out.cell 2 rfl; have t3 : w4.cell? ⟨T, 3, none⟩ = some (.int .i64 q.h.pos) := HBTw4.out.cell 3 rfl; have t4 : w4.cell? ⟨T, 4, none⟩ = some (.slice D m k) := HBTw4.out.cell 4 rfl; have t5 : w4.cell? ⟨T, 5, none⟩ = some (.slice D' m' k') := HBTw4.out.cell 5 rfl
      have l1 : w4.frozen? ⟨T, 1, none⟩ = false := HBTw4.out.frozen 1
      have HBTw6 := Lib.hid (show Blk (World.setCell w4 ⟨T, 1, none⟩ (strV p.nm)) T 54 #[.int .i64 q.k, strV p.nm, strV q.to, .int .i64 q.h.pos, .slice D m k, .slice D' m' k'] from HBTw4.out.set 1 (strV p.nm))
      have HBUw6 := Lib.hid (HBUw4.out.set_ne HNE.out.symm 1 (strV p.nm))
      have HB2w6 := Lib.hid (HB2w4.out.set_ne (show g + 2 ≠ T from by have := HgT.out; omega) 1 (strV p.nm))
      have HB3w6 := Lib.hid (HB3w4.out.set_ne (show g + 3 ≠ T from by have := HgT.out; omega) 1 (strV p.nm))
      have HWw6 := Lib.hid (HWw4.out.setCell (p := ⟨T, 1, none⟩) (by have := HgT.out; show g ≤ T; omega) (strV p.nm))
      have hw6 : Below w.heap.size w (World.setCell w4 ⟨T, 1, none⟩ (strV p.nm)) := by rw [HGS.out]; exact HWw6.out
      have HP1 := Lib.hid ((GV0.out.mv hw6).name p.nm HV0.out.nm); have HP2 := Lib.hid (HV0.out.mv hw6)
      clear hw6
      rcases (show (q.k == 3) = true ∨ (q.k == 3) = false ∧ (q.k == 4) = true from by
        rcases HO1.out.2.1 with h | h
        · exact .inl (by simpa using h)
        · exact .inr ⟨by rw [beq_eq_false_iff_ne]; omega, by simpa using h⟩) with e6 | ⟨e6, e7⟩
      all_goals
        go_wp2_with fail
        go_meet
        exact ⟨_, _, D, m, k, D', m', k', A, n, c, A', n', c', HS.out, HBTw6.out, HBUw6.out, HB2w6.out, HB3w6.out, HP1.out, HP2.out, GL.out, HL.out, HWw6.out⟩
    have HN : Hid (passP p q = none) := Lib.hid (passP_n HBA.out h3 ho hi)
    have hw : ((p.k == 3) = true ∧ (q.k == 3) = false ∨ (p.k == 3) = false ∧ (p.k == 4) = true) ∧ (q.nm == p.to) = false ∧ ((q.k == 2) = false ∨ (q.k == 2) = true ∧ (q.nm == p.nm) = false) ∨
        ((p.k == 3) = false ∧ (p.k == 4) = false) ∧ (p.k == 2) = true ∧ ((q.k == 3) = false ∧ (q.k == 4) = false ∨ (q.nm == p.to) = false) ∨
        (p.k == 3) = false ∧ (p.k == 4) = false ∧ (p.k == 2) = false := by
      by_cases k3 : p.k = 3 ∨ p.k = 4
      · refine .inl ⟨?_, name_ne HBP.out HBQ.out k3, ?_⟩
        · rcases k3 with k3 | k3
          · exact .inl ⟨by simpa using k3, by rw [beq_eq_false_iff_ne]; exact fun h => h3 ⟨k3, h⟩⟩
          · exact .inr ⟨by rw [beq_eq_false_iff_ne]; omega, by simpa using k3⟩
        · by_cases k2 : q.k = 2
          · exact .inr ⟨by simpa using k2, by rw [beq_eq_false_iff_ne]; exact fun h => hi ⟨k2, k3, h.symm⟩⟩
          · exact .inl (by simpa using k2)
      · have a3 : (p.k == 3) = false := by rw [beq_eq_false_iff_ne]; omega
        have a4 : (p.k == 4) = false := by rw [beq_eq_false_iff_ne]; omega
        by_cases k2 : p.k = 2
        · refine .inr (.inl ⟨⟨a3, a4⟩, by simpa using k2, ?_⟩)
          by_cases kq : q.k = 3 ∨ q.k = 4
          · exact .inr (by rw [beq_eq_false_iff_ne]; exact fun h => ho ⟨k2, kq, h⟩)
          · exact .inl ⟨by rw [beq_eq_false_iff_ne]; omega, by rw [beq_eq_false_iff_ne]; omega⟩
        · exact .inr (.inr ⟨a3, a4, by simpa using k2⟩)
    clear h3 ho hi
    have HWAY := Lib.hid hw; clear hw
    have hq3 : ∀ z : Bool, z = true ∨ z = false := fun z => by cases z <;> simp
    have HQ3 := Lib.hid (hq3 (q.k == 3)); have HQ4 := Lib.hid (hq3 (q.k == 4)); clear hq3
    rcases HWAY.out with ⟨h1, e5, h2⟩ | ⟨⟨e1, e2⟩, e3, h2⟩ | ⟨e1, e2, e3⟩
    · rcases h1 with ⟨e1, e2⟩ | ⟨e1, e2⟩ <;> rcases h2 with e6 | ⟨e6, e7⟩ <;> rcases HQ3.out with c1 | c1 <;> rcases HQ4.out with c2 | c2 <;> try (exfalso; first | exact Bool.false_ne_true (e2.symm.trans c1) | exact k_absurd c1 c2 | exact k_absurd2 c1 e6 | exact k_absurd3 c2 e6; done)
      all_goals
        have u0 : w4.cell? ⟨g + 2, 0, none⟩ = some (.int .i64 0) := HB2w4.out.cell 0 rfl; have u1 : w4.cell? ⟨g + 2, 1, none⟩ = some (strV []) := HB2w4.out.cell 1 rfl; have u2 : w4.cell? ⟨g + 2, 2, none⟩ = some (strV []) := HB2w4.out.cell 2 rfl; have u3 : w4.cell? ⟨g + 2, 3, none⟩ = some (.int .i64 0) := HB2w4.out.cell 3 rfl; have u4 : w4.cell? ⟨g + 2, 4, none⟩ = some (.slice none 0 0) := HB2w4.out.cell 4 rfl; have u5 : w4.cell? ⟨g + 2, 5, none⟩ = some (.slice none 0 0) := HB2w4.out.cell 5 rfl
        have v0 : w4.cell? ⟨g + 3, 0, none⟩ = some (.int .i64 0) := HB3w4.out.cell 0 rfl; have v1 : w4.cell? ⟨g + 3, 1, none⟩ = some (strV []) := HB3w4.out.cell 1 rfl; have v2 : w4.cell? ⟨g + 3, 2, none⟩ = some (strV []) := HB3w4.out.cell 2 rfl; have v3 : w4.cell? ⟨g + 3, 3, none⟩ = some (.int .i64 0) := HB3w4.out.cell 3 rfl; have v4 : w4.cell? ⟨g + 3, 4, none⟩ = some (.slice none 0 0) := HB3w4.out.cell 4 rfl; have v5 : w4.cell? ⟨g + 3, 5, none⟩ = some (.slice none 0 0) := HB3w4.out.cell 5 rfl
        have f0 : w4.frozen? ⟨g + 2, 0, none⟩ = false := HB2w4.out.frozen 0; have f1 : w4.frozen? ⟨g + 2, 1, none⟩ = false := HB2w4.out.frozen 1; have f2 : w4.frozen? ⟨g + 2, 2, none⟩ = false := HB2w4.out.frozen 2; have f3 : w4.frozen? ⟨g + 2, 3, none⟩ = false := HB2w4.out.frozen 3; have f4 : w4.frozen? ⟨g + 2, 4, none⟩ = false := HB2w4.out.frozen 4; have f5 : w4.frozen? ⟨g + 2, 5, none⟩ = false := HB2w4.out.frozen 5
        have h0 : w4.frozen? ⟨g + 3, 0, none⟩ = false := HB3w4.out.frozen 0; have h1 : w4.frozen? ⟨g + 3, 1, none⟩ = false := HB3w4.out.frozen 1; have h2 : w4.frozen? ⟨g + 3, 2, none⟩ = false := HB3w4.out.frozen 2; have h3 : w4.frozen? ⟨g + 3, 3, none⟩ = false := HB3w4.out.frozen 3; have h4 : w4.frozen? ⟨g + 3, 4, none⟩ = false := HB3w4.out.frozen 4; have h5 : w4.frozen? ⟨g + 3, 5, none⟩ = false := HB3w4.out.frozen 5
        go_wp2_with fail
        obtain ⟨z2, z3⟩ := two_set6 HB2w4.out HB3w4.out (by omega) (.int .i64 0) (strV []) (strV []) (.int .i64 0) (.slice none 0 0) (.slice none 0 0) (.int .i64 0) (strV []) (strV []) (.int .i64 0) (.slice none 0 0) (.slice none 0 0)
        have hb6 := below_set12 (b := g + 2) (b' := g + 3) HWw4.out (by omega) (by omega) (.int .i64 0) (strV []) (strV []) (.int .i64 0) (.slice none 0 0) (.slice none 0 0) (.int .i64 0) (strV []) (strV []) (.int .i64 0) (.slice none 0 0) (.slice none 0 0)
        generalize (World.setCell (World.setCell (World.setCell (World.setCell (World.setCell (World.setCell (World.setCell (World.setCell (World.setCell (World.setCell (World.setCell (World.setCell w4 ⟨g + 2, 0, none⟩ (.int .i64 0)) ⟨g + 2, 1, none⟩ (strV [])) ⟨g + 2, 2, none⟩ (strV [])) ⟨g + 2, 3, none⟩ (.int .i64 0)) ⟨g + 2, 4, none⟩ (.slice none 0 0)) ⟨g + 2, 5, none⟩ (.slice none 0 0)) ⟨g + 3, 0, none⟩ (.int .i64 0)) ⟨g + 3, 1, none⟩ (strV [])) ⟨g + 3, 2, none⟩ (strV [])) ⟨g + 3, 3, none⟩ (.int .i64 0)) ⟨g + 3, 4, none⟩ (.slice none 0 0)) ⟨g + 3, 5, none⟩ (.slice none 0 0)) = W3 at *
        clear u0 u1 u2 u3 u4 u5 v0 v1 v2 v3 v4 v5 f0 f1 f2 f3 f4 f5 h0 h1 h2 h3 h4 h5
        have u0 : W3.cell? ⟨g + 2, 0, none⟩ = some (.int .i64 0) := z2.cell 0 rfl; have u1 : W3.cell? ⟨g + 2, 1, none⟩ = some (strV []) := z2.cell 1 rfl; have u2 : W3.cell? ⟨g + 2, 2, none⟩ = some (strV []) := z2.cell 2 rfl; have u3 : W3.cell? ⟨g + 2, 3, none⟩ = some (.int .i64 0) := z2.cell 3 rfl; have u4 : W3.cell? ⟨g + 2, 4, none⟩ = some (.slice none 0 0) := z2.cell 4 rfl; have u5 : W3.cell? ⟨g + 2, 5, none⟩ = some (.slice none 0 0) := z2.cell 5 rfl
        have v0 : W3.cell? ⟨g + 3, 0, none⟩ = some (.int .i64 0) := z3.cell 0 rfl; have v1 : W3.cell? ⟨g + 3, 1, none⟩ = some (strV []) := z3.cell 1 rfl; have v2 : W3.cell? ⟨g + 3, 2, none⟩ = some (strV []) := z3.cell 2 rfl; have v3 : W3.cell? ⟨g + 3, 3, none⟩ = some (.int .i64 0) := z3.cell 3 rfl; have v4 : W3.cell? ⟨g + 3, 4, none⟩ = some (.slice none 0 0) := z3.cell 4 rfl; have v5 : W3.cell? ⟨g + 3, 5, none⟩ = some (.slice none 0 0) := z3.cell 5 rfl
        try rw [Exit.noGoto_ret]
        refine bodyPost_ret (v := .tuple #[.agg #[.int .i64 0, strV [], strV [], .int .i64 0, .slice none 0 0, .slice none 0 0], .agg #[.int .i64 0, strV [], strV [], .int .i64 0, .slice none 0 0, .slice none 0 0], .bool false]) (by simp [results, Try.results74, go_sem, u0, v0, u1, v1, u2, v2, u3, v3, u4, v4, u5, v5]) rfl ?_
        have hW : Below w.heap.size w W3 := by rw [HGS.out]; exact hb6
        exact ppEndH_none HO.out HBB.out HN.out hW
    · rcases HQ3.out with c1 | c1 <;> rcases HQ4.out with c2 | c2 <;> rcases h2 with ⟨e5, e6⟩ | e5 <;> try (exfalso; first | exact Bool.false_ne_true (e5.symm.trans c1) | exact Bool.false_ne_true (e6.symm.trans c2) | exact k_absurd c1 c2; done)
      all_goals
        have u0 : w4.cell? ⟨g + 2, 0, none⟩ = some (.int .i64 0) := HB2w4.out.cell 0 rfl; have u1 : w4.cell? ⟨g + 2, 1, none⟩ = some (strV []) := HB2w4.out.cell 1 rfl; have u2 : w4.cell? ⟨g + 2, 2, none⟩ = some (strV []) := HB2w4.out.cell 2 rfl; have u3 : w4.cell? ⟨g + 2, 3, none⟩ = some (.int .i64 0) := HB2w4.out.cell 3 rfl; have u4 : w4.cell? ⟨g + 2, 4, none⟩ = some (.slice none 0 0) := HB2w4.out.cell 4 rfl; have u5 : w4.cell? ⟨g + 2, 5, none⟩ = some (.slice none 0 0) := HB2w4.out.cell 5 rfl
        have v0 : w4.cell? ⟨g + 3, 0, none⟩ = some (.int .i64 0) := HB3w4.out.cell 0 rfl; have v1 : w4.cell? ⟨g + 3, 1, none⟩ = some (strV []) := HB3w4.out.cell 1 rfl; have v2 : w4.cell? ⟨g + 3, 2, none⟩ = some (strV []) := HB3w4.out.cell 2 rfl; have v3 : w4.cell? ⟨g + 3, 3, none⟩ = some (.int .i64 0) := HB3w4.out.cell 3 rfl; have v4 : w4.cell? ⟨g + 3, 4, none⟩ = some (.slice none 0 0) := HB3w4.out.cell 4 rfl; have v5 : w4.cell? ⟨g + 3, 5, none⟩ = some (.slice none 0 0) := HB3w4.out.cell 5 rfl
        have f0 : w4.frozen? ⟨g + 2, 0, none⟩ = false := HB2w4.out.frozen 0; have f1 : w4.frozen? ⟨g + 2, 1, none⟩ = false := HB2w4.out.frozen 1; have f2 : w4.frozen? ⟨g + 2, 2, none⟩ = false := HB2w4.out.frozen 2; have f3 : w4.frozen? ⟨g + 2, 3, none⟩ = false := HB2w4.out.frozen 3; have f4 : w4.frozen? ⟨g + 2, 4, none⟩ = false := HB2w4.out.frozen 4; have f5 : w4.frozen? ⟨g + 2, 5, none⟩ = false := HB2w4.out.frozen 5
        have h0 : w4.frozen? ⟨g + 3, 0, none⟩ = false := HB3w4.out.frozen 0; have h1 : w4.frozen? ⟨g + 3, 1, none⟩ = false := HB3w4.out.frozen 1; have h2 : w4.frozen? ⟨g + 3, 2, none⟩ = false := HB3w4.out.frozen 2; have h3 : w4.frozen? ⟨g + 3, 3, none⟩ = false := HB3w4.out.frozen 3; have h4 : w4.frozen? ⟨g + 3, 4, none⟩ = false := HB3w4.out.frozen 4; have h5 : w4.frozen? ⟨g + 3, 5, none⟩ = false := HB3w4.out.frozen 5
        go_wp2_with fail
        obtain ⟨z2, z3⟩ := two_set6 HB2w4.out HB3w4.out (by omega) (.int .i64 0) (strV []) (strV []) (.int .i64 0) (.slice none 0 0) (.slice none 0 0) (.int .i64 0) (strV []) (strV []) (.int .i64 0) (.slice none 0 0) (.slice none 0 0)
        have hb6 := below_set12 (b := g + 2) (b' := g + 3) HWw4.out (by omega) (by omega) (.int .i64 0) (strV []) (strV []) (.int .i64 0) (.slice none 0 0) (.slice none 0 0) (.int .i64 0) (strV []) (strV []) (.int .i64 0) (.slice none 0 0) (.slice none 0 0)
        generalize (World.setCell (World.setCell (World.setCell (World.setCell (World.setCell (World.setCell (World.setCell (World.setCell (World.setCell (World.setCell (World.setCell (World.setCell w4 ⟨g + 2, 0, none⟩ (.int .i64 0)) ⟨g + 2, 1, none⟩ (strV [])) ⟨g + 2, 2, none⟩ (strV [])) ⟨g + 2, 3, none⟩ (.int .i64 0)) ⟨g + 2, 4, none⟩ (.slice none 0 0)) ⟨g + 2, 5, none⟩ (.slice none 0 0)) ⟨g + 3, 0, none⟩ (.int .i64 0)) ⟨g + 3, 1, none⟩ (strV [])) ⟨g + 3, 2, none⟩ (strV [])) ⟨g + 3, 3, none⟩ (.int .i64 0)) ⟨g + 3, 4, none⟩ (.slice none 0 0)) ⟨g + 3, 5, none⟩ (.slice none 0 0)) = W3 at *
        clear u0 u1 u2 u3 u4 u5 v0 v1 v2 v3 v4 v5 f0 f1 f2 f3 f4 f5 h0 h1 h2 h3 h4 h5
        have u0 : W3.cell? ⟨g + 2, 0, none⟩ = some (.int .i64 0) := z2.cell 0 rfl; have u1 : W3.cell? ⟨g + 2, 1, none⟩ = some (strV []) := z2.cell 1 rfl; have u2 : W3.cell? ⟨g + 2, 2, none⟩ = some (strV []) := z2.cell 2 rfl; have u3 : W3.cell? ⟨g + 2, 3, none⟩ = some (.int .i64 0) := z2.cell 3 rfl; have u4 : W3.cell? ⟨g + 2, 4, none⟩ = some (.slice none 0 0) := z2.cell 4 rfl; have u5 : W3.cell? ⟨g + 2, 5, none⟩ = some (.slice none 0 0) := z2.cell 5 rfl
        have v0 : W3.cell? ⟨g + 3, 0, none⟩ = some (.int .i64 0) := z3.cell 0 rfl; have v1 : W3.cell? ⟨g + 3, 1, none⟩ = some (strV []) := z3.cell 1 rfl; have v2 : W3.cell? ⟨g + 3, 2, none⟩ = some (strV []) := z3.cell 2 rfl; have v3 : W3.cell? ⟨g + 3, 3, none⟩ = some (.int .i64 0) := z3.cell 3 rfl; have v4 : W3.cell? ⟨g + 3, 4, none⟩ = some (.slice none 0 0) := z3.cell 4 rfl; have v5 : W3.cell? ⟨g + 3, 5, none⟩ = some (.slice none 0 0) := z3.cell 5 rfl
        try rw [Exit.noGoto_ret]
        refine bodyPost_ret (v := .tuple #[.agg #[.int .i64 0, strV [], strV [], .int .i64 0, .slice none 0 0, .slice none 0 0], .agg #[.int .i64 0, strV [], strV [], .int .i64 0, .slice none 0 0, .slice none 0 0], .bool false]) (by simp [results, Try.results74, go_sem, u0, v0, u1, v1, u2, v2, u3, v3, u4, v4, u5, v5]) rfl ?_
        have hW : Below w.heap.size w W3 := by rw [HGS.out]; exact hb6
        exact ppEndH_none HO.out HBB.out HN.out hW
    ·
      have u0 : w4.cell? ⟨g + 2, 0, none⟩ = some (.int .i64 0) := HB2w4.out.cell 0 rfl; have u1 : w4.cell? ⟨g + 2, 1, none⟩ = some (strV []) := HB2w4.out.cell 1 rfl; have u2 : w4.cell? ⟨g + 2, 2, none⟩ = some (strV []) := HB2w4.out.cell 2 rfl; have u3 : w4.cell? ⟨g + 2, 3, none⟩ = some (.int .i64 0) := HB2w4.out.cell 3 rfl; have u4 : w4.cell? ⟨g + 2, 4, none⟩ = some (.slice none 0 0) := HB2w4.out.cell 4 rfl; have u5 : w4.cell? ⟨g + 2, 5, none⟩ = some (.slice none 0 0) := HB2w4.out.cell 5 rfl
      have v0 : w4.cell? ⟨g + 3, 0, none⟩ = some (.int .i64 0) := HB3w4.out.cell 0 rfl; have v1 : w4.cell? ⟨g + 3, 1, none⟩ = some (strV []) := HB3w4.out.cell 1 rfl; have v2 : w4.cell? ⟨g + 3, 2, none⟩ = some (strV []) := HB3w4.out.cell 2 rfl; have v3 : w4.cell? ⟨g + 3, 3, none⟩ = some (.int .i64 0) := HB3w4.out.cell 3 rfl; have v4 : w4.cell? ⟨g + 3, 4, none⟩ = some (.slice none 0 0) := HB3w4.out.cell 4 rfl; have v5 : w4.cell? ⟨g + 3, 5, none⟩ = some (.slice none 0 0) := HB3w4.out.cell 5 rfl
      have f0 : w4.frozen? ⟨g + 2, 0, none⟩ = false := HB2w4.out.frozen 0; have f1 : w4.frozen? ⟨g + 2, 1, none⟩ = false := HB2w4.out.frozen 1; have f2 : w4.frozen? ⟨g + 2, 2, none⟩ = false := HB2w4.out.frozen 2; have f3 : w4.frozen? ⟨g + 2, 3, none⟩ = false := HB2w4.out.frozen 3; have f4 : w4.frozen? ⟨g + 2, 4, none⟩ = false := HB2w4.out.frozen 4; have f5 : w4.frozen? ⟨g + 2, 5, none⟩ = false := HB2w4.out.frozen 5
      have h0 : w4.frozen? ⟨g + 3, 0, none⟩ = false := HB3w4.out.frozen 0; have h1 : w4.frozen? ⟨g + 3, 1, none⟩ = false := HB3w4.out.frozen 1; have h2 : w4.frozen? ⟨g + 3, 2, none⟩ = false := HB3w4.out.frozen 2; have h3 : w4.frozen? ⟨g + 3, 3, none⟩ = false := HB3w4.out.frozen 3; have h4 : w4.frozen? ⟨g + 3, 4, none⟩ = false := HB3w4.out.frozen 4; have h5 : w4.frozen? ⟨g + 3, 5, none⟩ = false := HB3w4.out.frozen 5
      go_wp2_with fail
      obtain ⟨z2, z3⟩ := two_set6 HB2w4.out HB3w4.out (by omega) (.int .i64 0) (strV []) (strV []) (.int .i64 0) (.slice none 0 0) (.slice none 0 0) (.int .i64 0) (strV []) (strV []) (.int .i64 0) (.slice none 0 0) (.slice none 0 0)
      have hb6 := below_set12 (b := g + 2) (b' := g + 3) HWw4.out (by omega) (by omega) (.int .i64 0) (strV []) (strV []) (.int .i64 0) (.slice none 0 0) (.slice none 0 0) (.int .i64 0) (strV []) (strV []) (.int .i64 0) (.slice none 0 0) (.slice none 0 0)
      generalize (World.setCell (World.setCell (World.setCell (World.setCell (World.setCell (World.setCell (World.setCell (World.setCell (World.setCell (World.setCell (World.setCell (World.setCell w4 ⟨g + 2, 0, none⟩ (.int .i64 0)) ⟨g + 2, 1, none⟩ (strV [])) ⟨g + 2, 2, none⟩ (strV [])) ⟨g + 2, 3, none⟩ (.int .i64 0)) ⟨g + 2, 4, none⟩ (.slice none 0 0)) ⟨g + 2, 5, none⟩ (.slice none 0 0)) ⟨g + 3, 0, none⟩ (.int .i64 0)) ⟨g + 3, 1, none⟩ (strV [])) ⟨g + 3, 2, none⟩ (strV [])) ⟨g + 3, 3, none⟩ (.int .i64 0)) ⟨g + 3, 4, none⟩ (.slice none 0 0)) ⟨g + 3, 5, none⟩ (.slice none 0 0)) = W3 at *
      clear u0 u1 u2 u3 u4 u5 v0 v1 v2 v3 v4 v5 f0 f1 f2 f3 f4 f5 h0 h1 h2 h3 h4 h5
      have u0 : W3.cell? ⟨g + 2, 0, none⟩ = some (.int .i64 0) := z2.cell 0 rfl; have u1 : W3.cell? ⟨g + 2, 1, none⟩ = some (strV []) := z2.cell 1 rfl; have u2 : W3.cell? ⟨g + 2, 2, none⟩ = some (strV []) := z2.cell 2 rfl; have u3 : W3.cell? ⟨g + 2, 3, none⟩ = some (.int .i64 0) := z2.cell 3 rfl; have u4 : W3.cell? ⟨g + 2, 4, none⟩ = some (.slice none 0 0) := z2.cell 4 rfl; have u5 : W3.cell? ⟨g + 2, 5, none⟩ = some (.slice none 0 0) := z2.cell 5 rfl
      have v0 : W3.cell? ⟨g + 3, 0, none⟩ = some (.int .i64 0) := z3.cell 0 rfl; have v1 : W3.cell? ⟨g + 3, 1, none⟩ = some (strV []) := z3.cell 1 rfl; have v2 : W3.cell? ⟨g + 3, 2, none⟩ = some (strV []) := z3.cell 2 rfl; have v3 : W3.cell? ⟨g + 3, 3, none⟩ = some (.int .i64 0) := z3.cell 3 rfl; have v4 : W3.cell? ⟨g + 3, 4, none⟩ = some (.slice none 0 0) := z3.cell 4 rfl; have v5 : W3.cell? ⟨g + 3, 5, none⟩ = some (.slice none 0 0) := z3.cell 5 rfl
      try rw [Exit.noGoto_ret]
      refine bodyPost_ret (v := .tuple #[.agg #[.int .i64 0, strV [], strV [], .int .i64 0, .slice none 0 0, .slice none 0 0], .agg #[.int .i64 0, strV [], strV [], .int .i64 0, .slice none 0 0, .slice none 0 0], .bool false]) (by simp [results, Try.results74, go_sem, u0, v0, u1, v1, u2, v2, u3, v3, u4, v4, u5, v5]) rfl ?_
      have hW : Below w.heap.size w W3 := by rw [HGS.out]; exact hb6
      exact ppEndH_none HO.out HBB.out HN.out hW
  case rest =>
  obtain ⟨x1, y1, A1, n1, c1, B1, m1, d1, A2, n2, c2, B2, m2, d2, hs, bt, bu, b2, b3, v1, v2, hl, gl, hw⟩ := hcut
  have HS := Lib.hid hs; have CT := Lib.hid bt; have CU := Lib.hid bu; have C2 := Lib.hid b2; have C3 := Lib.hid b3; have V1 := Lib.hid v1; have V2 := Lib.hid v2; have HL2 := Lib.hid hl; have GL2 := Lib.hid gl; have HW := Lib.hid hw
  clear hs bt bu b2 b3 v1 v2 hl gl hw
  clear HBTwc HBUwc HVwc GVwc HWwc HGwc HB0wc HB1wc HB2wc HB3wc
  skip
  have PX : Hid (∀ W, Below wc.heap.size wc W → Calls Try.prog 88 #[prV x1.k x1.nm x1.to x1.h.pos A1 n1 c1 B1 m1 d1] W (fun e u' => ∃ P p1 Q q1, e = .returned (prV x1.k x1.nm x1.to x1.h.pos P n1 p1 Q m1 q1) ∧ PV u' u'.heap.size P n1 p1 Q m1 q1 x1 ∧ (Hi W.heap.size P ∧ Hi W.heap.size Q) ∧ Below W.heap.size W u')) := Lib.hid (fun W hb => OwnC A1 n1 c1 B1 m1 d1 wc.heap.size x1 W hb.size HL2.out.1 HL2.out.2 (V1.out.below hb))
  have PY : Hid (∀ W, Below wc.heap.size wc W → Calls Try.prog 88 #[prV y1.k y1.nm y1.to y1.h.pos A2 n2 c2 B2 m2 d2] W (fun e u' => ∃ P p1 Q q1, e = .returned (prV y1.k y1.nm y1.to y1.h.pos P n2 p1 Q m2 q1) ∧ PV u' u'.heap.size P n2 p1 Q m2 q1 y1 ∧ (Hi W.heap.size P ∧ Hi W.heap.size Q) ∧ Below W.heap.size W u')) := Lib.hid (fun W hb => OwnC A2 n2 c2 B2 m2 d2 wc.heap.size y1 W hb.size GL2.out.1 GL2.out.2 (V2.out.below hb))
  have HSB : Hid (∀ W, Blk W T 54 #[.int .i64 x1.k, strV x1.nm, strV x1.to, .int .i64 x1.h.pos, .slice A1 n1 c1, .slice B1 m1 d1] → Blk W U 54 #[.int .i64 y1.k, strV y1.nm, strV y1.to, .int .i64 y1.h.pos, .slice A2 n2 c2, .slice B2 m2 d2] → W.cell? ⟨T, 0, none⟩ = some (.int .i64 x1.k) ∧ W.cell? ⟨T, 1, none⟩ = some (strV x1.nm) ∧ W.cell? ⟨T, 2, none⟩ = some (strV x1.to) ∧ W.cell? ⟨T, 3, none⟩ = some (.int .i64 x1.h.pos) ∧ W.cell? ⟨T, 4, none⟩ = some (.slice A1 n1 c1) ∧ W.cell? ⟨T, 5, none⟩ = some (.slice B1 m1 d1) ∧ W.cell? ⟨U, 0, none⟩ = some (.int .i64 y1.k) ∧ W.cell? ⟨U, 1, none⟩ = some (strV y1.nm) ∧ W.cell? ⟨U, 2, none⟩ = some (strV y1.to) ∧ W.cell? ⟨U, 3, none⟩ = some (.int .i64 y1.h.pos) ∧ W.cell? ⟨U, 4, none⟩ = some (.slice A2 n2 c2) ∧ W.cell? ⟨U, 5, none⟩ = some (.slice B2 m2 d2)) := Lib.hid (fun W b b' => by
    exact ⟨b.cell 0 rfl, b.cell 1 rfl, b.cell 2 rfl, b.cell 3 rfl, b.cell 4 rfl, b.cell 5 rfl, b'.cell 0 rfl, b'.cell 1 rfl, b'.cell 2 rfl, b'.cell 3 rfl, b'.cell 4 rfl, b'.cell 5 rfl⟩)
  have HC : Hid (∀ W, Below wc.heap.size wc W → W.cell? ⟨T, 0, none⟩ = some (.int .i64 x1.k) ∧ W.cell? ⟨T, 1, none⟩ = some (strV x1.nm) ∧ W.cell? ⟨T, 2, none⟩ = some (strV x1.to) ∧ W.cell? ⟨T, 3, none⟩ = some (.int .i64 x1.h.pos) ∧ W.cell? ⟨T, 4, none⟩ = some (.slice A1 n1 c1) ∧ W.cell? ⟨T, 5, none⟩ = some (.slice B1 m1 d1) ∧ W.cell? ⟨U, 0, none⟩ = some (.int .i64 y1.k) ∧ W.cell? ⟨U, 1, none⟩ = some (strV y1.nm) ∧ W.cell? ⟨U, 2, none⟩ = some (strV y1.to) ∧ W.cell? ⟨U, 3, none⟩ = some (.int .i64 y1.h.pos) ∧ W.cell? ⟨U, 4, none⟩ = some (.slice A2 n2 c2) ∧ W.cell? ⟨U, 5, none⟩ = some (.slice B2 m2 d2)) := Lib.hid (fun W hb => HSB.out W (CT.out.below hb CT.out.lt) (CU.out.below hb CU.out.lt))
  have HNG := Lib.hid (show (T ≠ g + 2 ∧ T ≠ g + 3) ∧ (U ≠ g + 2 ∧ U ≠ g + 3) from by have := HgT.out; omega)
  have HKD := Lib.hid (HC.out wc.drew (below_drewN (Below.refl _ _) 1))
  obtain ⟨x0, xx1, x2, x3, x4, x5, y0, yy1, y2, y3, y4, y5⟩ := HC.out wc (Below.refl _ _)
  go_wp2_with fail
  go_region_held3 (fun W => W.cell? ⟨T, 0, none⟩ = some (.int .i64 x1.k) ∧ W.cell? ⟨T, 1, none⟩ = some (strV x1.nm) ∧ W.cell? ⟨T, 2, none⟩ = some (strV x1.to) ∧ W.cell? ⟨T, 3, none⟩ = some (.int .i64 x1.h.pos) ∧ W.cell? ⟨T, 4, none⟩ = some (.slice A1 n1 c1) ∧ W.cell? ⟨T, 5, none⟩ = some (.slice B1 m1 d1) ∧ W.cell? ⟨U, 0, none⟩ = some (.int .i64 y1.k) ∧ W.cell? ⟨U, 1, none⟩ = some (strV y1.nm) ∧ W.cell? ⟨U, 2, none⟩ = some (strV y1.to) ∧ W.cell? ⟨U, 3, none⟩ = some (.int .i64 y1.h.pos) ∧ W.cell? ⟨U, 4, none⟩ = some (.slice A2 n2 c2) ∧ W.cell? ⟨U, 5, none⟩ = some (.slice B2 m2 d2))
    (first | (with_reducible exact HKD.out) | (with_reducible exact hS5) | (with_reducible exact hS6) | (with_reducible exact HK2.out _ _ _ _ _ _) | (with_reducible exact HK3.out _ _ _ _ _ _ _ _ _ _ _ _))
    (first
      | (go_at_call 88; (with_reducible refine (PX.out wc.drew (below_drewN (Below.refl _ _) 1)).mono ?_); rintro e w5 ⟨P5, p5, Q5, q5, rfl, hv, hh, hb⟩; have HH5 := Lib.hid hh; clear hh; have hbu := (below_drewN (Below.refl wc.heap.size wc) 1).trans hb; have hS5 := HC.out w5 hbu; have HU5 := Lib.hid hbu; have HV5 := Lib.hid hv; clear hb hbu hv)
      | (go_at_call 88; (with_reducible refine (PY.out w5 HU5.out).mono ?_); rintro e w6 ⟨P6, p6, Q6, q6, rfl, hv, hh, hb⟩; have HH6 := Lib.hid hh; clear hh; have hbu := HU5.out.trans (hb.mono HU5.out.size); have hS6 := HC.out w6 hbu; have HU6 := Lib.hid hbu; have HV6 := Lib.hid hv; have HB6 := Lib.hid hb;
          have t6 := CT.out.below hbu CT.out.lt; have u6 := CU.out.below hbu CU.out.lt;
          have HK2 := Lib.hid (fun v0 v1 v2 v3 v4 v5 => HSB.out _ (blk_ne6 t6 HNG.out.1.1 v0 v1 v2 v3 v4 v5) (blk_ne6 u6 HNG.out.2.1 v0 v1 v2 v3 v4 v5));
          have HK3 := Lib.hid (fun v0 v1 v2 v3 v4 v5 u0 u1 u2 u3 u4 u5 => HSB.out _ (blk_ne6 (blk_ne6 t6 HNG.out.1.1 v0 v1 v2 v3 v4 v5) HNG.out.1.2 u0 u1 u2 u3 u4 u5) (blk_ne6 (blk_ne6 u6 HNG.out.2.1 v0 v1 v2 v3 v4 v5) HNG.out.2.2 u0 u1 u2 u3 u4 u5));
          clear t6 u6; have b2 := C2.out.below hbu C2.out.lt; have b3 := C3.out.below hbu C3.out.lt;
          have u0 : w6.cell? ⟨g + 2, 0, none⟩ = some (.int .i64 0) := b2.cell 0 rfl; have u1 : w6.cell? ⟨g + 2, 1, none⟩ = some (strV []) := b2.cell 1 rfl; have u2 : w6.cell? ⟨g + 2, 2, none⟩ = some (strV []) := b2.cell 2 rfl; have u3 : w6.cell? ⟨g + 2, 3, none⟩ = some (.int .i64 0) := b2.cell 3 rfl; have u4 : w6.cell? ⟨g + 2, 4, none⟩ = some (.slice none 0 0) := b2.cell 4 rfl; have u5 : w6.cell? ⟨g + 2, 5, none⟩ = some (.slice none 0 0) := b2.cell 5 rfl;
          have v0 : w6.cell? ⟨g + 3, 0, none⟩ = some (.int .i64 0) := b3.cell 0 rfl; have v1 : w6.cell? ⟨g + 3, 1, none⟩ = some (strV []) := b3.cell 1 rfl; have v2 : w6.cell? ⟨g + 3, 2, none⟩ = some (strV []) := b3.cell 2 rfl; have v3 : w6.cell? ⟨g + 3, 3, none⟩ = some (.int .i64 0) := b3.cell 3 rfl; have v4 : w6.cell? ⟨g + 3, 4, none⟩ = some (.slice none 0 0) := b3.cell 4 rfl; have v5 : w6.cell? ⟨g + 3, 5, none⟩ = some (.slice none 0 0) := b3.cell 5 rfl;
          have f0 : w6.frozen? ⟨g + 2, 0, none⟩ = false := b2.frozen 0; have f1 : w6.frozen? ⟨g + 2, 1, none⟩ = false := b2.frozen 1; have f2 : w6.frozen? ⟨g + 2, 2, none⟩ = false := b2.frozen 2; have f3 : w6.frozen? ⟨g + 2, 3, none⟩ = false := b2.frozen 3; have f4 : w6.frozen? ⟨g + 2, 4, none⟩ = false := b2.frozen 4; have f5 : w6.frozen? ⟨g + 2, 5, none⟩ = false := b2.frozen 5; have h0 : w6.frozen? ⟨g + 3, 0, none⟩ = false := b3.frozen 0; have h1 : w6.frozen? ⟨g + 3, 1, none⟩ = false := b3.frozen 1; have h2 : w6.frozen? ⟨g + 3, 2, none⟩ = false := b3.frozen 2; have h3 : w6.frozen? ⟨g + 3, 3, none⟩ = false := b3.frozen 3; have h4 : w6.frozen? ⟨g + 3, 4, none⟩ = false := b3.frozen 4; have h5 : w6.frozen? ⟨g + 3, 5, none⟩ = false := b3.frozen 5;
          have Z2 := Lib.hid b2; have Z3 := Lib.hid b3; clear hb hbu hv b2 b3))
  go_wp2_with fail
  have l3 := C3.out.lt
  have l5 : wc.heap.size ≤ w5.heap.size := HU5.out.size
  have i5 := HH5.out; have i6 := HH6.out
  have i5a : Hi wc.heap.size P5 := i5.1; have i5b : Hi wc.heap.size Q5 := i5.2
  have i6a := i6.1.mono l5; have i6b := i6.2.mono l5
  have pv5 := (((HV5.out.below HB6.out).up HB6.out.size).hi6 (b := g + 2) i5a i5b (by omega) (.int .i64 x1.k) (strV x1.nm) (strV x1.to) (.int .i64 x1.h.pos) (.slice P5 n1 p5) (.slice Q5 m1 q5)).hi6 (b := g + 3) i5a i5b (by omega) (.int .i64 y1.k) (strV y1.nm) (strV y1.to) (.int .i64 y1.h.pos) (.slice P6 n2 p6) (.slice Q6 m2 q6)
  have pv6 := (HV6.out.hi6 (b := g + 2) i6a i6b (by omega) (.int .i64 x1.k) (strV x1.nm) (strV x1.to) (.int .i64 x1.h.pos) (.slice P5 n1 p5) (.slice Q5 m1 q5)).hi6 (b := g + 3) i6a i6b (by omega) (.int .i64 y1.k) (strV y1.nm) (strV y1.to) (.int .i64 y1.h.pos) (.slice P6 n2 p6) (.slice Q6 m2 q6)
  obtain ⟨z2, z3⟩ := two_set6 Z2.out Z3.out (by omega) (.int .i64 x1.k) (strV x1.nm) (strV x1.to) (.int .i64 x1.h.pos) (.slice P5 n1 p5) (.slice Q5 m1 q5) (.int .i64 y1.k) (strV y1.nm) (strV y1.to) (.int .i64 y1.h.pos) (.slice P6 n2 p6) (.slice Q6 m2 q6)
  have hb6 := below_set12 (b := g + 2) (b' := g + 3) (HW.out.trans (HU6.out.mono (by have := HW.out.size; omega))) (by omega) (by omega) (.int .i64 x1.k) (strV x1.nm) (strV x1.to) (.int .i64 x1.h.pos) (.slice P5 n1 p5) (.slice Q5 m1 q5) (.int .i64 y1.k) (strV y1.nm) (strV y1.to) (.int .i64 y1.h.pos) (.slice P6 n2 p6) (.slice Q6 m2 q6)
  have hsz := (below_set12 (b := g + 2) (b' := g + 3) (Below.refl 0 w6) (by omega) (by omega) (.int .i64 x1.k) (strV x1.nm) (strV x1.to) (.int .i64 x1.h.pos) (.slice P5 n1 p5) (.slice Q5 m1 q5) (.int .i64 y1.k) (strV y1.nm) (strV y1.to) (.int .i64 y1.h.pos) (.slice P6 n2 p6) (.slice Q6 m2 q6)).size
  generalize (World.setCell (World.setCell (World.setCell (World.setCell (World.setCell (World.setCell (World.setCell (World.setCell (World.setCell (World.setCell (World.setCell (World.setCell w6 ⟨g + 2, 0, none⟩ (.int .i64 x1.k)) ⟨g + 2, 1, none⟩ (strV x1.nm)) ⟨g + 2, 2, none⟩ (strV x1.to)) ⟨g + 2, 3, none⟩ (.int .i64 x1.h.pos)) ⟨g + 2, 4, none⟩ (.slice P5 n1 p5)) ⟨g + 2, 5, none⟩ (.slice Q5 m1 q5)) ⟨g + 3, 0, none⟩ (.int .i64 y1.k)) ⟨g + 3, 1, none⟩ (strV y1.nm)) ⟨g + 3, 2, none⟩ (strV y1.to)) ⟨g + 3, 3, none⟩ (.int .i64 y1.h.pos)) ⟨g + 3, 4, none⟩ (.slice P6 n2 p6)) ⟨g + 3, 5, none⟩ (.slice Q6 m2 q6)) = W3 at *
  clear u0 u1 u2 u3 u4 u5 v0 v1 v2 v3 v4 v5 f0 f1 f2 f3 f4 f5 h0 h1 h2 h3 h4 h5
  have u0 : W3.cell? ⟨g + 2, 0, none⟩ = some (.int .i64 x1.k) := z2.cell 0 rfl; have u1 : W3.cell? ⟨g + 2, 1, none⟩ = some (strV x1.nm) := z2.cell 1 rfl; have u2 : W3.cell? ⟨g + 2, 2, none⟩ = some (strV x1.to) := z2.cell 2 rfl; have u3 : W3.cell? ⟨g + 2, 3, none⟩ = some (.int .i64 x1.h.pos) := z2.cell 3 rfl; have u4 : W3.cell? ⟨g + 2, 4, none⟩ = some (.slice P5 n1 p5) := z2.cell 4 rfl; have u5 : W3.cell? ⟨g + 2, 5, none⟩ = some (.slice Q5 m1 q5) := z2.cell 5 rfl
  have v0 : W3.cell? ⟨g + 3, 0, none⟩ = some (.int .i64 y1.k) := z3.cell 0 rfl; have v1 : W3.cell? ⟨g + 3, 1, none⟩ = some (strV y1.nm) := z3.cell 1 rfl; have v2 : W3.cell? ⟨g + 3, 2, none⟩ = some (strV y1.to) := z3.cell 2 rfl; have v3 : W3.cell? ⟨g + 3, 3, none⟩ = some (.int .i64 y1.h.pos) := z3.cell 3 rfl; have v4 : W3.cell? ⟨g + 3, 4, none⟩ = some (.slice P6 n2 p6) := z3.cell 4 rfl; have v5 : W3.cell? ⟨g + 3, 5, none⟩ = some (.slice Q6 m2 q6) := z3.cell 5 rfl
  try rw [Exit.noGoto_ret]
  refine bodyPost_ret (v := .tuple #[.agg #[.int .i64 x1.k, strV x1.nm, strV x1.to, .int .i64 x1.h.pos, .slice P5 n1 p5, .slice Q5 m1 q5], .agg #[.int .i64 y1.k, strV y1.nm, strV y1.to, .int .i64 y1.h.pos, .slice P6 n2 p6, .slice Q6 m2 q6], .bool true]) (by simp [results, Try.results74, go_sem, u0, v0, u1, v1, u2, v2, u3, v3, u4, v4, u5, v5]) rfl ?_
  have hg : w.heap.size ≤ wc.heap.size := by rw [HGS.out]; omega
  exact ppEndH_some HO.out HBB.out HS.out (pv5.up hsz) (pv6.up hsz) HL2.out GL2.out ⟨i5a.mono hg, i5b.mono hg, i6a.mono hg, i6b.mono hg⟩ (by rw [HGS.out]; exact hb6)

end Pr
end Go.Proofs.Ytdnkinajbebkoaa

set_option maxRecDepth 100000
namespace Go.Proofs.Ytdnkinajbebkoaa
open Go.RowKit
set_option linter.unusedVariables false
set_option linter.unusedSimpArgs false
namespace Fl
open Tx Df Sq Hk Tr Pr

/-- How a call ends that makes a list of changes. -/
def LPEnd (w : World) (l : List Ch) (e : Ending) (w' : World) : Prop := ∃ A c, e = .returned (.slice A l.length c) ∧ l.length ≤ c ∧ RdP w' (· < w'.heap.size) A l ∧ Below w.heap.size w w'
/-- The cells of one change in a block of their own. -/
theorem one_srcP {W : World} {b : Nat} {A B : Option Addr} {n c m d : Nat} {x : Ch} (h : Blk W b 54 #[.int .i64 x.k, strV x.nm, strV x.to, .int .i64 x.h.pos, .slice A n c, .slice B m d]) :
    ∀ (j : Nat) u, [Value.int .i64 x.k, strV x.nm, strV x.to, .int .i64 x.h.pos, .slice A n c, .slice B m d][j]? = some u → W.cell? ((⟨b, 0, none⟩ : Addr).add j) = some u := fun j u hu => by
  rcases j with _ | _ | _ | _ | _ | _ | j
  · rw [add_zero']; exact h.cell 0 hu
  · exact h.cell 1 hu
  · exact h.cell 2 hu
  · exact h.cell 3 hu
  · exact h.cell 4 hu
  · exact h.cell 5 hu
  · simp at hu

end Fl
end Go.Proofs.Ytdnkinajbebkoaa

set_option maxRecDepth 100000
namespace Go.Proofs.Ytdnkinajbebkoaa
open Go.RowKit
set_option linter.unusedVariables false
set_option linter.unusedSimpArgs false
namespace Fl
open Tx Df Sq Hk Tr Pr

/-- How a copy of lines ends: in memory of its own. -/
def CopyLEnd (w : World) (n : Nat) (ls : List (List UInt8)) (e : Ending) (w' : World) : Prop :=
  ∃ D d, e = .returned (.slice D n d) ∧ n ≤ d ∧ RdS w' w'.heap.size D ls ∧ Hi w.heap.size D ∧ w.grownBy w' none

theorem ownLines (A : Option Addr) (n c B : Nat) (ls : List (List UInt8)) (w : World) (hn : ls.length = n) (hle : n ≤ 100000) (hB : B ≤ w.heap.size) (hR : RdS w B A ls) :
    Calls Try.prog 70 #[.slice A n c] w (CopyLEnd w n ls) := by
  obtain ⟨j0, hj, hy0, hy1, hy2⟩ := info_parts info_str
  have HR := Lib.hid hR; have HN := Lib.hid hn
  clear hR hn
  go_enter Try.func70, Try.ntmps70
  go_wp2_with (at_builtin; refine wpList_nil' rfl (.const (.slice none 0 0)) (.tmp 3) 50 rfl 9 j0 (.string ⟨#[]⟩) 16 Try.underlying50 hj hy0 hy1 hy2 rfl rfl B A n c (ls.map strV) rfl (by rw [List.length_map]; exact HN.out) HR.out (strs_one _) (by unfold maxLen; omega) (by omega) ?_; intro D1 d1 w1 hA hg; have HA := Lib.hid hA; have HG := Lib.hid hg; clear hA hg)
  go_ret
  obtain ⟨A', c', e, hc, hr⟩ := rd_of_own HA.out
  injection e with e1 e2 e3
  subst e1 e3
  exact ⟨D1, d1, rfl, hc, hr, hi_own HA.out, HG.out⟩

end Fl
end Go.Proofs.Ytdnkinajbebkoaa

set_option maxRecDepth 100000
namespace Go.Proofs.Ytdnkinajbebkoaa
open Go.RowKit
set_option linter.unusedVariables false
set_option linter.unusedSimpArgs false
namespace Pn
open Tx Df Sq Hk Tr Pr Fl
attribute [local go_sem] eq_id

/-- A patch in a block of its own. -/
abbrev nmC (p : Nm) (D : Option Addr) (dn dc : Nat) (A : Option Addr) (n c : Nat) : Array Value := #[.int .i64 p.id.1, .int .i64 p.id.2, .slice D dn dc, strV p.txt, .slice A n c]

end Pn
end Go.Proofs.Ytdnkinajbebkoaa
