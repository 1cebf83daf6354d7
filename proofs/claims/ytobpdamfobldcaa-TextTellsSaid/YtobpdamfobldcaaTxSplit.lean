/-
  What Split of layer 1 returns for any slice of bytes (walk): the lines in new memory and OK, or no lines and the error; nothing that was there is written.
-/
import Derived.Test.YtobpdamfobldcaaTxIter
namespace Go.Proofs.Ytobpdamfobldcaa
open Go.RowKit Go.Shelf
namespace Tx
attribute [local go_sem] Oper.semAt_some

/-- How Split ends: lines ls in a row of its own, or nil where there are none, and the error. -/
def SplitPost (w : World) (ls : List (List UInt8)) (er : Int) (e : Ending) (w' : World) : Prop :=
  ∃ v, e = .returned (.tuple #[v, .int .i64 er]) ∧ w'.ownsRow w.heap.size 9 1 v ls.length (ls.map strV) ∧ (v = .slice none 0 0 ↔ ls = []) ∧ Below w.heap.size w w'

theorem splitPost_nil {w w' : World} (er : Int) (h : Below w.heap.size w w') : SplitPost w [] er (.returned (.tuple #[.slice none 0 0, .int .i64 er])) w' :=
  ⟨_, rfl, World.ownsRow_nil _ _ _ _, by simp, h⟩

set_option maxHeartbeats 400000 in
theorem split_long (A : Option Addr) (n c : Nat) (w : World) (hl : 200000 < n) :
    Calls Try.prog 10 #[.slice A n c] w (SplitPost w [] 8) := by
  go_enter Try.func10, Try.ntmps10
  go_wp2
  exact bodyPost_ret (v := .tuple #[.slice none 0 0, .int .i64 8]) (by simp [results, Try.results10, go_sem]) rfl (splitPost_nil 8 (((Below.refl _ _).alloc (Nat.le_refl _) _).alloc (by simp) _))

theorem below3 (w : World) (a b c : Obj) : Below w.heap.size w (((w.alloc a).alloc b).alloc c) := (((Below.refl _ _).alloc (Nat.le_refl _) _).alloc (by simp) _).alloc (by simp; omega) _

theorem cell3 (w : World) (a b : Obj) (v : Value) (t : TypeId) : (((w.alloc a).alloc b).alloc (.cells #[v] t)).cell? ⟨w.heap.size + 1 + 1, 0, none⟩ = some v := by
  have := (Boxed.new ((w.alloc a).alloc b) t v).cell
  simpa using this

set_option maxHeartbeats 400000 in
theorem split_many (A : Option Addr) (c : Nat) (bs : List UInt8) (w : World) (hR : RdB w w.heap.size A bs) (hl : bs.length ≤ 200000) (hm : 200 < Lib.countByte bs 10) :
    Calls Try.prog 10 #[.slice A bs.length c] w (SplitPost w [] 8) := by
  have hR3 := fun a b c => hR.below (below3 w a b c)
  have HR3 := Lib.hid hR3; clear hR3
  go_enter Try.func10, Try.ntmps10
  go_wp2_with fail
  refine (bytes_Count A c w.heap.size (w.heap.size + 1 + 1) 1 _ bs 10 _ rfl (HR3.out _ _ _) (cell3 _ _ _ _ _)).mono ?_
  rintro e w' ⟨rfl, rfl⟩
  rw [show ((10 : Int).toNat.toUInt8) = 10 from rfl]
  go_wp2
  exact bodyPost_ret (v := .tuple #[.slice none 0 0, .int .i64 8]) (by simp [results, Try.results10, go_sem]) rfl (splitPost_nil 8 (below3 _ _ _ _))

set_option maxHeartbeats 400000 in
theorem split_tail (A : Option Addr) (cap : Nat) (bs : List UInt8) (w : World) (hR : RdB w w.heap.size A bs) (hl : bs.length ≤ 200000) (hm : Lib.countByte bs 10 ≤ 200) (hne : 0 < bs.length) (hc : bs[bs.length - 1] ≠ 10) :
    Calls Try.prog 10 #[.slice A bs.length cap] w (SplitPost w [] 2) := by
  have hR3 := fun a b c => hR.below (below3 w a b c)
  obtain ⟨a, rfl, hab, hcell⟩ := hR.at_ (k := bs.length - 1) (by simp; omega)
  have hcell3 : ∀ x y z, (((w.alloc x).alloc y).alloc z).cell? (a.add (bs.length - 1)) = some (.int .u8 bs[bs.length - 1].toNat) := fun x y z => by
    have := (below3 w x y z).cell (p := a.add (bs.length - 1)) (by rw [add_block]; exact hab)
    rw [this, hcell]; simp [byteV]
  have HR3 := Lib.hid hR3; clear hR3
  have hcn : ((bs[bs.length - 1].toNat : Int) != 10) = true := by
    rw [bne_iff_ne]; intro e; apply hc; apply UInt8.toNat_inj.1; simp; omega
  generalize bs[bs.length - 1].toNat = cn at *
  have HC3 := Lib.hid hcell3; clear hcell3 hcell
  go_enter Try.func10, Try.ntmps10
  go_wp2_with fail
  refine (bytes_Count (some a) cap w.heap.size (w.heap.size + 1 + 1) 1 _ bs 10 _ rfl (HR3.out _ _ _) (cell3 _ _ _ _ _)).mono ?_
  rintro e w' ⟨rfl, rfl⟩
  rw [show ((10 : Int).toNat.toUInt8) = 10 from rfl]
  have hcx := HC3.out
  go_wp2
  exact bodyPost_ret (v := .tuple #[.slice none 0 0, .int .i64 2]) (by simp [results, Try.results10, go_sem]) rfl (splitPost_nil 2 (below3 _ _ _ _))

theorem info_str : (Try.prog.info? 9).map (fun i => (i.zero, i.size, i.bytes)) = some (some (.string ⟨#[]⟩), 1, 16) := by kernel_rfl

/-- Between two rounds: the lines so far lie in a row of their own; the two results are as they were. -/
def Inv (w : World) (pre : List (List UInt8)) (W : World) : Prop :=
  (∃ v, Boxed W (w.heap.size + 1 + 1 + 1) 23 v ∧ W.ownsRow w.heap.size 9 1 v pre.length (pre.map strV) ∧ (v = .slice none 0 0 ↔ pre = [])) ∧
  (Boxed W w.heap.size 23 (.slice none 0 0) ∧ Boxed W (w.heap.size + 1) 26 (.int .i64 0)) ∧ (∀ x ∈ pre, may x = true) ∧ Below w.heap.size w W
/-- A round has left: the results are nil and the error. -/
def Left' (w : World) (c : Code) (pre : List (List UInt8)) (W : World) : Prop :=
  (c = .ret ∧ ∃ x ∈ pre, may x = false) ∧ (Boxed W w.heap.size 23 (.slice none 0 0) ∧ Boxed W (w.heap.size + 1) 26 (.int .i64 2)) ∧ Below w.heap.size w W

def SplitEnd (w : World) (bs : List UInt8) (e : Ending) (w' : World) : Prop :=
  ((cut bs).all may = true ∧ SplitPost w (cut bs) 0 e w') ∨ ((cut bs).all may = false ∧ SplitPost w [] 2 e w')

theorem inv_own (w : World) (B : Nat) (hB : w.heap.size ≤ B) : OwnFrom B (Inv w) :=
  OwnFrom.and (Own.from (holdsRow_own w.heap.size (w.heap.size + 1 + 1 + 1) 23 9 1 (fun pre => pre.length) (fun pre => pre.map strV) (fun pre v => v = .slice none 0 0 ↔ pre = [])) _)
    (OwnFrom.and (OwnFrom.and (Own.from (boxed_own _ _ _) _) (Own.from (boxed_own _ _ _) _)) (OwnFrom.and (ownFrom_pure _ _) (ownFrom_below (Nat.le_refl _) hB)))
theorem left_own (w : World) (c : Code) (B : Nat) (hB : w.heap.size ≤ B) : OwnFrom B (Left' w c) :=
  OwnFrom.and (ownFrom_pure _ _) (OwnFrom.and (OwnFrom.and (Own.from (boxed_own _ _ _) _) (Own.from (boxed_own _ _ _) _)) (ownFrom_below (Nat.le_refl _) hB))

theorem boxes5 (w : World) (v0 v1 vT vL vB : Value) (t0 t1 tT tL tB : TypeId) :
    let W := ((((w.alloc (.cells #[v0] t0)).alloc (.cells #[v1] t1)).alloc (.cells #[vT] tT)).alloc (.cells #[vL] tL)).alloc (.cells #[vB] tB)
    Boxed W w.heap.size t0 v0 ∧ Boxed W (w.heap.size + 1) t1 v1 ∧ Boxed W (w.heap.size + 1 + 1 + 1) tL vL ∧ Boxed W (w.heap.size + 1 + 1 + 1 + 1) tB vB ∧ Below w.heap.size w W := by
  have b0 := Boxed.new w t0 v0
  have b1 := Boxed.new (w.alloc (.cells #[v0] t0)) t1 v1
  have b3 := Boxed.new (((w.alloc (.cells #[v0] t0)).alloc (.cells #[v1] t1)).alloc (.cells #[vT] tT)) tL vL
  have b4 := Boxed.new ((((w.alloc (.cells #[v0] t0)).alloc (.cells #[v1] t1)).alloc (.cells #[vT] tT)).alloc (.cells #[vL] tL)) tB vB
  simp only [World.size_alloc] at b1 b3 b4
  exact ⟨(((b0.alloc _).alloc _).alloc _).alloc _, ((b1.alloc _).alloc _).alloc _, b3.alloc _, b4, ((below3 w _ _ _).alloc (by simp; omega) _).alloc (by simp; omega) _⟩

theorem inv_next {w W w1 : World} {pre : List (List UInt8)} {x : List UInt8} {v : Value} {g cap : Nat} {tmp : Obj} (Bx : Nat)
    (hv : Boxed W (w.heap.size + 1 + 1 + 1) 23 v) (hrow : W.ownsRow w.heap.size 9 1 v pre.length (pre.map strV))
    (hb0 : Boxed W w.heap.size 23 (.slice none 0 0)) (hb1 : Boxed W (w.heap.size + 1) 26 (.int .i64 0)) (hall : ∀ x ∈ pre, may x = true) (hB : Below w.heap.size w W) (hmx : may x = true)
    (hown' : w1.ownsRow w.heap.size 9 1 (.slice (some ⟨g, 0, none⟩) (pre.length + 1) cap) (pre.length + 1) (pre.map strV ++ [strV x])) (hgrow : (W.alloc tmp).grownBy w1 v.ownBlock) :
    KeepsFrom Bx W (w1.setCell ⟨w.heap.size + 1 + 1 + 1, 0, none⟩ (.slice (some ⟨g, 0, none⟩) (pre.length + 1) cap)) ∧ Below w.heap.size W (w1.setCell ⟨w.heap.size + 1 + 1 + 1, 0, none⟩ (.slice (some ⟨g, 0, none⟩) (pre.length + 1) cap)) ∧
      Inv w (pre ++ [x]) (w1.setCell ⟨w.heap.size + 1 + 1 + 1, 0, none⟩ (.slice (some ⟨g, 0, none⟩) (pre.length + 1) cap)) := by
  obtain ⟨_, hv2, hr2, hk2, hb2⟩ := hv.appended (by decide) hrow hB.size (by omega) hown' hgrow
  refine ⟨hk2.from _, hb2, ⟨_, hv2, by simpa using hr2, by simp⟩, ⟨?_, ?_⟩, ?_, hB.trans hb2⟩
  · exact ((hb0.alloc tmp).kept hgrow (hb0.not_row (by decide) hrow)).other (by omega) _
  · exact ((hb1.alloc tmp).kept hgrow (hb1.not_row (by decide) hrow)).other (by omega) _
  · intro y hy
    rcases List.mem_append.1 hy with h | h
    · exact hall y h
    · simp at h; rw [h]; exact hmx

theorem left_now {w W : World} {pre : List (List UInt8)} {x : List UInt8} (Bx : Nat)
    (hb0 : Boxed W w.heap.size 23 (.slice none 0 0)) (hb1 : Boxed W (w.heap.size + 1) 26 (.int .i64 0)) (hB : Below w.heap.size w W) (hmx : may x = false) :
    KeepsFrom Bx W ((W.setCell ⟨w.heap.size, 0, none⟩ (.slice none 0 0)).setCell ⟨w.heap.size + 1, 0, none⟩ (.int .i64 2)) ∧ Left' w .ret (pre ++ [x]) ((W.setCell ⟨w.heap.size, 0, none⟩ (.slice none 0 0)).setCell ⟨w.heap.size + 1, 0, none⟩ (.int .i64 2)) :=
  ⟨((KeepsOthers.setCell _ _ _).trans (KeepsOthers.setCell _ _ _)).from _, ⟨rfl, x, by simp, hmx⟩, ⟨(hb0.set _).other (by omega) _, (hb1.other (by omega) _).set _⟩,
    (hB.setCell (p := ⟨w.heap.size, 0, none⟩) (Nat.le_refl _) _).setCell (p := ⟨w.heap.size + 1, 0, none⟩) (by simp) _⟩

theorem row_form {W : World} {base e size n : Nat} {v : Value} {xs : List Value} (h : W.ownsRow base e size v n xs) : ∃ A c, v = .slice A n c := by
  rcases h.2 with ⟨rfl, rfl⟩ | ⟨g, cap, _, rfl, _⟩
  · exact ⟨none, 0, rfl⟩
  · exact ⟨_, cap, rfl⟩

theorem all_of {ls : List (List UInt8)} (h : ∀ x ∈ ls, may x = true) : ls.all may = true := by rw [List.all_eq_true]; exact h
theorem not_all_of {ls : List (List UInt8)} {x : List UInt8} (hx : x ∈ ls) (h : may x = false) : ls.all may = false := by rw [List.all_eq_false]; exact ⟨x, hx, by simp [h]⟩

theorem done_end {w W : World} {bs : List UInt8} {v : Value} {D : Nat} (hD : w.heap.size + 1 + 1 ≤ D) (hb0 : Boxed W w.heap.size 23 (.slice none 0 0)) (hb1 : Boxed W (w.heap.size + 1) 26 (.int .i64 0))
    (hrow : W.ownsRow w.heap.size 9 1 v (cut bs).length ((cut bs).map strV)) (hnil : v = .slice none 0 0 ↔ cut bs = []) (hall : ∀ x ∈ cut bs, may x = true) (hB : Below w.heap.size w W) (hK : W.heap[D]? = some (.deferred (some []))) :
    let W2 := (W.setCell ⟨w.heap.size, 0, none⟩ v).setCell ⟨w.heap.size + 1, 0, none⟩ (.int .i64 0)
    W2.heap[D]? = some (.deferred (some [])) ∧ Boxed (W2.putObj D (.deferred none)) w.heap.size 23 v ∧ Boxed (W2.putObj D (.deferred none)) (w.heap.size + 1) 26 (.int .i64 0) ∧
      SplitEnd w bs (.returned (.tuple #[v, .int .i64 0])) (W2.putObj D (.deferred none)) := by
  have hK2 : ((W.setCell ⟨w.heap.size, 0, none⟩ v).setCell ⟨w.heap.size + 1, 0, none⟩ (.int .i64 0)).heap[D]? = some (.deferred (some [])) := ((KeepsOthers.setCell W _ _).trans (KeepsOthers.setCell _ _ _)).same D _ hK rfl
  have hB2 : Below w.heap.size w ((W.setCell ⟨w.heap.size, 0, none⟩ v).setCell ⟨w.heap.size + 1, 0, none⟩ (.int .i64 0)) := (hB.setCell (p := ⟨w.heap.size, 0, none⟩) (Nat.le_refl _) _).setCell (p := ⟨w.heap.size + 1, 0, none⟩) (by simp) _
  have hr1 := hrow.kept (grownBy_setCell' W w.heap.size v) (.inr (hb0.not_row (by decide) hrow).symm)
  have hb1' := hb1.other (B' := w.heap.size) (by omega) v
  have hr2 := hr1.kept (grownBy_setCell' _ (w.heap.size + 1) (.int .i64 0)) (.inr (hb1'.not_row (by decide) hr1).symm)
  refine ⟨hK2, ((hb0.set v).other (by omega) _).kept (grownBy_putObj' _ D _) (by simp; omega), (hb1'.set _).kept (grownBy_putObj' _ D _) (by simp; omega), ?_⟩
  refine .inl ⟨all_of hall, v, rfl, ownsRow_putObj hr2 _ hK2 rfl, hnil, ?_⟩
  exact hB2.trans (belowK_b (w := w) (Nat.le_refl _) _ D _ _ (by omega) hK2 rfl rfl)

theorem stop_end {w W : World} {bs : List UInt8} {D : Nat} {pre : List (List UInt8)} {x : List UInt8} (hD : w.heap.size + 1 + 1 ≤ D) (hpre : pre <+: cut bs) (hx : x ∈ pre) (hmx : may x = false)
    (hb0 : Boxed W w.heap.size 23 (.slice none 0 0)) (hb1 : Boxed W (w.heap.size + 1) 26 (.int .i64 2)) (hB : Below w.heap.size w W) (hK : W.heap[D]? = some (.deferred (some []))) :
    Boxed (W.putObj D (.deferred none)) w.heap.size 23 (.slice none 0 0) ∧ Boxed (W.putObj D (.deferred none)) (w.heap.size + 1) 26 (.int .i64 2) ∧
      SplitEnd w bs (.returned (.tuple #[.slice none 0 0, .int .i64 2])) (W.putObj D (.deferred none)) := by
  refine ⟨hb0.kept (grownBy_putObj' _ D _) (by simp; omega), hb1.kept (grownBy_putObj' _ D _) (by simp; omega), .inr ⟨not_all_of (hpre.subset hx) hmx, splitPost_nil 2 ?_⟩⟩
  exact hB.trans (belowK_b (w := w) (Nat.le_refl _) _ D _ _ (by omega) hK rfl rfl)

set_option maxRecDepth 100000 in
set_option maxHeartbeats 2000000 in
theorem split_loop0 (A : Option Addr) (cap : Nat) (n : Nat) (bs : List UInt8) (w : World) (hn : bs.length = n) (hcap : n ≤ cap) (hR : RdB w w.heap.size A bs) (hl : n ≤ 200000) (hm : Lib.countByte bs 10 ≤ 200)
    (h0 : ¬ 0 < n) :
    Calls Try.prog 10 #[.slice A n cap] w (SplitEnd w bs) := by
  obtain ⟨i0, hi, hz0, hz1, hz2⟩ := info_parts info_str
  have hR3 := fun a b c => hR.below (below3 w a b c)
  have HR3 := Lib.hid hR3; clear hR3
  have HN := Lib.hid hn; clear hn
  refine (callsIn_wide (n := 3)).1 ?_
  refine callsIn_of_wp_marks Try.func10 rfl trivial ?_ rfl
  simp only [Try.ntmps10, List.size_toArray, List.length_cons, List.length_nil, Nat.reduceAdd, Nat.reduceSub, Array.replicate_succ, Array.replicate_zero, List.push_toArray, List.append_toArray, List.nil_append, List.cons_append]
  gi_wp2_with fail
  refine ⟨trivial, ?_⟩
  refine (callsIn_wide.2 (bytes_Count A cap w.heap.size (w.heap.size + 1 + 1) 1 _ bs 10 _ HN.out (HR3.out _ _ _) (cell3 _ _ _ _ _))).mono ?_
  rintro e w' ⟨rfl, rfl⟩
  rw [show ((10 : Int).toNat.toUInt8) = 10 from rfl]
  gi_wp2_with fail
  refine ⟨trivial, ?_⟩
  refine (lines_in 2 _ _ _ _).mono ?_
  rintro e w' ⟨rfl, rfl⟩
  gi_wp2
  obtain ⟨hB0, hB1, hB3, hB4, hBe⟩ := boxes5 w (.slice none 0 0) (.int .i64 0) (.int .u8 10) (.slice none 0 0) _ 23 26 5 23 22
  refine wpIn_rangeFunc_ownG rfl (by decide) (gf := 28) (lb := #[.pointer (some ⟨w.heap.size + 1 + 1 + 1 + 1, 0, none⟩)]) rfl trivial (enters_of Try.func28 (by kernel_rfl) rfl)
    (lines_stops 2 (w.heap.size + 1 + 1 + 1 + 1) w.heap.size cap n _ bs HN.out (by rw [HN.out]; exact hcap) (by rw [HN.out]; omega) _ (by simp) (by simp; omega) hB4.cell (hR.below hBe)) belowK_t (belowK_b (by simp; omega)) (Below.refl _ _) (fun _ => rfl)
    (Inv w) (Left' w) (inv_own w _ (by simp; omega)) (fun c => left_own w c _ (by simp; omega)) ⟨⟨_, hB3, World.ownsRow_nil _ _ _ _, by simp⟩, ⟨hB0, hB1⟩, by simp, hBe⟩ ?a1 ?assign ?body ?done ?stop
  case assign =>
    intro l x W K hK
    gi_wp2
    exact hK
  case body =>
    rintro l pre x W ⟨⟨v, hv, hrow, hnil⟩, ⟨hb0, hb1⟩, hall, hB⟩ hlt
    have hc := hv.cell
    have hpl : pre.length < 200 := by rw [cut_length] at hlt; unfold Lib.countByte at hm; omega
    have hw := hB.size
    cases hmx : may x with
    | true =>
      gi_wp2_with fail
      refine ⟨trivial, ?_⟩
      refine (CallsIn.inRound l (callsIn_wide.2 (MayV x _))).mono ?_
      rintro e w' ⟨rfl, rfl⟩
      gi_wp2_with (gi_at_builtin; refine wpListIn_append_own _ rfl _ _ 23 rfl w.heap.size 9 i0 (.string ⟨#[]⟩) 1 16 Try.underlying23 hi hz0 hz1 hz2 rfl (by decide) _ _ _ rfl (hrow.alloc _) ⟨W.heap.size, 0, none⟩ 1 1 [strV x] rfl rfl (cell_one_new _ _ _) (by simp [Value.oneCell', strV]) (by unfold maxLen; omega) (by omega) (by simp; omega) ?_; intro v' w1 hown' hgrow _; obtain ⟨g', cap', rfl⟩ := ownsRow_succ hown'; obtain ⟨hv1, hv2, hr2, hk2, hb2⟩ := hv.appended (by decide) hrow hB.size (by omega) hown' hgrow; have hc1 := hv1.cell; have hf1 := hv1.frozen)
      exact inv_next _ hv hrow hb0 hb1 hall hB hmx hown' hgrow
    | false =>
      have hc0 := hb0.cell
      have hf0 := hb0.frozen
      have hc1 := hb1.cell
      have hf1 := hb1.frozen
      gi_wp2_with fail
      refine ⟨trivial, ?_⟩
      refine (CallsIn.inRound l (callsIn_wide.2 (MayV x _))).mono ?_
      rintro e w' ⟨rfl, rfl⟩
      gi_wp2
      exact left_now _ hb0 hb1 hB hmx
  case done =>
    rintro D ys W hD rfl ⟨⟨v, hv, hrow, hnil⟩, ⟨hb0, hb1⟩, hall, hB⟩ hK
    have hc := hv.cell
    have hc0 := hb0.cell
    have hf0 := hb0.frozen
    have hc1 := hb1.cell
    have hf1 := hb1.frozen
    obtain ⟨hK2, hx0, hx1, hend⟩ := done_end (by simp at hD; omega) hb0 hb1 hrow hnil hall hB hK
    have HE := Lib.hid hend; clear hend
    have hy0 := hx0.cell
    have hy1 := hx1.cell
    have HH := Lib.hid (And.intro hK2 (And.intro hy0 hy1)); clear hK2 hx0 hx1 hy0 hy1
    obtain ⟨Av, cv, rfl⟩ := row_form hrow
    gi_wp2
    refine ⟨by simp, .inl ⟨_, _, rfl, run_takeDeferred HH.out.1, ?_⟩⟩
    refine ⟨_, ?_, HE.out⟩
    simp [results, Try.f10, go_sem, HH.out.2.1, HH.out.2.2]
  case stop =>
    rintro D c pre W hD hpre ⟨⟨rfl, x, hx, hmx⟩, ⟨hb0, hb1⟩, hB⟩ hK
    obtain ⟨hx0, hx1, hend⟩ := stop_end (by simp at hD; omega) hpre hx hmx hb0 hb1 hB hK
    gi_wp2
    refine ⟨by simp, .inl ⟨_, _, rfl, run_takeDeferred hK, ?_⟩⟩
    refine ⟨_, ?_, hend⟩
    simp [results, Try.f10, go_sem, hx0.cell, hx1.cell]

set_option maxRecDepth 100000 in
set_option maxHeartbeats 2000000 in
theorem split_loop1 (a : Addr) (cap : Nat) (n : Nat) (bs : List UInt8) (w : World) (hn : bs.length = n) (hcap : n ≤ cap) (hR : RdB w w.heap.size (some a) bs) (hl : n ≤ 200000) (hm : Lib.countByte bs 10 ≤ 200)
    (h0 : 0 < n) (hcx : ∀ x y z, (((w.alloc x).alloc y).alloc z).cell? (a.add (n - 1)) = some (.int .u8 10)) :
    Calls Try.prog 10 #[.slice (some a) n cap] w (SplitEnd w bs) := by
  obtain ⟨i0, hi, hz0, hz1, hz2⟩ := info_parts info_str
  have hR3 := fun a b c => hR.below (below3 w a b c)
  have HR3 := Lib.hid hR3; clear hR3
  have HN := Lib.hid hn; clear hn
  have HC3 := Lib.hid hcx; clear hcx
  refine (callsIn_wide (n := 3)).1 ?_
  refine callsIn_of_wp_marks Try.func10 rfl trivial ?_ rfl
  simp only [Try.ntmps10, List.size_toArray, List.length_cons, List.length_nil, Nat.reduceAdd, Nat.reduceSub, Array.replicate_succ, Array.replicate_zero, List.push_toArray, List.append_toArray, List.nil_append, List.cons_append]
  gi_wp2_with fail
  refine ⟨trivial, ?_⟩
  refine (callsIn_wide.2 (bytes_Count (some a) cap w.heap.size (w.heap.size + 1 + 1) 1 _ bs 10 _ HN.out (HR3.out _ _ _) (cell3 _ _ _ _ _))).mono ?_
  rintro e w' ⟨rfl, rfl⟩
  rw [show ((10 : Int).toNat.toUInt8) = 10 from rfl]
  have hcx := HC3.out
  gi_wp2_with fail
  refine ⟨trivial, ?_⟩
  refine (lines_in 2 _ _ _ _).mono ?_
  rintro e w' ⟨rfl, rfl⟩
  gi_wp2
  obtain ⟨hB0, hB1, hB3, hB4, hBe⟩ := boxes5 w (.slice none 0 0) (.int .i64 0) (.int .u8 10) (.slice none 0 0) _ 23 26 5 23 22
  refine wpIn_rangeFunc_ownG rfl (by decide) (gf := 28) (lb := #[.pointer (some ⟨w.heap.size + 1 + 1 + 1 + 1, 0, none⟩)]) rfl trivial (enters_of Try.func28 (by kernel_rfl) rfl)
    (lines_stops 2 (w.heap.size + 1 + 1 + 1 + 1) w.heap.size cap n _ bs HN.out (by rw [HN.out]; exact hcap) (by rw [HN.out]; omega) _ (by simp) (by simp; omega) hB4.cell (hR.below hBe)) belowK_t (belowK_b (by simp; omega)) (Below.refl _ _) (fun _ => rfl)
    (Inv w) (Left' w) (inv_own w _ (by simp; omega)) (fun c => left_own w c _ (by simp; omega)) ⟨⟨_, hB3, World.ownsRow_nil _ _ _ _, by simp⟩, ⟨hB0, hB1⟩, by simp, hBe⟩ ?a1 ?assign ?body ?done ?stop
  case assign =>
    intro l x W K hK
    gi_wp2
    exact hK
  case body =>
    rintro l pre x W ⟨⟨v, hv, hrow, hnil⟩, ⟨hb0, hb1⟩, hall, hB⟩ hlt
    have hc := hv.cell
    have hpl : pre.length < 200 := by rw [cut_length] at hlt; unfold Lib.countByte at hm; omega
    have hw := hB.size
    cases hmx : may x with
    | true =>
      gi_wp2_with fail
      refine ⟨trivial, ?_⟩
      refine (CallsIn.inRound l (callsIn_wide.2 (MayV x _))).mono ?_
      rintro e w' ⟨rfl, rfl⟩
      gi_wp2_with (gi_at_builtin; refine wpListIn_append_own _ rfl _ _ 23 rfl w.heap.size 9 i0 (.string ⟨#[]⟩) 1 16 Try.underlying23 hi hz0 hz1 hz2 rfl (by decide) _ _ _ rfl (hrow.alloc _) ⟨W.heap.size, 0, none⟩ 1 1 [strV x] rfl rfl (cell_one_new _ _ _) (by simp [Value.oneCell', strV]) (by unfold maxLen; omega) (by omega) (by simp; omega) ?_; intro v' w1 hown' hgrow _; obtain ⟨g', cap', rfl⟩ := ownsRow_succ hown'; obtain ⟨hv1, hv2, hr2, hk2, hb2⟩ := hv.appended (by decide) hrow hB.size (by omega) hown' hgrow; have hc1 := hv1.cell; have hf1 := hv1.frozen)
      exact inv_next _ hv hrow hb0 hb1 hall hB hmx hown' hgrow
    | false =>
      have hc0 := hb0.cell
      have hf0 := hb0.frozen
      have hc1 := hb1.cell
      have hf1 := hb1.frozen
      gi_wp2_with fail
      refine ⟨trivial, ?_⟩
      refine (CallsIn.inRound l (callsIn_wide.2 (MayV x _))).mono ?_
      rintro e w' ⟨rfl, rfl⟩
      gi_wp2
      exact left_now _ hb0 hb1 hB hmx
  case done =>
    rintro D ys W hD rfl ⟨⟨v, hv, hrow, hnil⟩, ⟨hb0, hb1⟩, hall, hB⟩ hK
    have hc := hv.cell
    have hc0 := hb0.cell
    have hf0 := hb0.frozen
    have hc1 := hb1.cell
    have hf1 := hb1.frozen
    obtain ⟨hK2, hx0, hx1, hend⟩ := done_end (by simp at hD; omega) hb0 hb1 hrow hnil hall hB hK
    have HE := Lib.hid hend; clear hend
    have hy0 := hx0.cell
    have hy1 := hx1.cell
    have HH := Lib.hid (And.intro hK2 (And.intro hy0 hy1)); clear hK2 hx0 hx1 hy0 hy1
    obtain ⟨Av, cv, rfl⟩ := row_form hrow
    gi_wp2
    refine ⟨by simp, .inl ⟨_, _, rfl, run_takeDeferred HH.out.1, ?_⟩⟩
    refine ⟨_, ?_, HE.out⟩
    simp [results, Try.f10, go_sem, HH.out.2.1, HH.out.2.2]
  case stop =>
    rintro D c pre W hD hpre ⟨⟨rfl, x, hx, hmx⟩, ⟨hb0, hb1⟩, hB⟩ hK
    obtain ⟨hx0, hx1, hend⟩ := stop_end (by simp at hD; omega) hpre hx hmx hb0 hb1 hB hK
    gi_wp2
    refine ⟨by simp, .inl ⟨_, _, rfl, run_takeDeferred hK, ?_⟩⟩
    refine ⟨_, ?_, hend⟩
    simp [results, Try.f10, go_sem, hx0.cell, hx1.cell]

theorem split_loop (A : Option Addr) (cap : Nat) (n : Nat) (bs : List UInt8) (w : World) (hn : bs.length = n) (hcap : n ≤ cap) (hR : RdB w w.heap.size A bs) (hl : n ≤ 200000) (hm : Lib.countByte bs 10 ≤ 200)
    (hend : ¬ 0 < n ∨ ∃ a, A = some a ∧ 0 < n ∧ ∀ x y z, (((w.alloc x).alloc y).alloc z).cell? (a.add (n - 1)) = some (.int .u8 10)) :
    Calls Try.prog 10 #[.slice A n cap] w (SplitEnd w bs) := by
  rcases hend with h0 | ⟨a, rfl, h0, hcx⟩
  · exact split_loop0 A cap n bs w hn hcap hR hl hm h0
  · exact split_loop1 a cap n bs w hn hcap hR hl hm h0 hcx

theorem getLast_eq {bs : List UInt8} (h : 0 < bs.length) : bs.getLast? = some bs[bs.length - 1] := by
  rw [List.getLast?_eq_getElem?, List.getElem?_eq_getElem (by omega)]

theorem splitE_zero {bs : List UInt8} (h : splitE bs = 0) : (cut bs).all may = true := by
  unfold splitE at h
  split at h
  · cases h
  · split at h
    · cases h
    · split at h
      · assumption
      · cases h

/-- What Split answers, for every slice of bytes. -/
theorem Split (A : Option Addr) (cap n : Nat) (bs : List UInt8) (w : World) (hn : bs.length = n) (hcap : n ≤ cap) (hR : RdB w w.heap.size A bs) :
    Calls Try.prog 10 #[.slice A n cap] w (SplitPost w (splitL bs) (splitE bs)) := by
  subst hn
  by_cases h1 : 200000 < bs.length
  · have e : splitE bs = 8 := by unfold splitE; rw [if_pos (.inl h1)]
    have e2 : splitL bs = [] := by unfold splitL; rw [e]; rfl
    rw [e, e2]
    exact split_long A _ cap w h1
  · by_cases h2 : 200 < Lib.countByte bs 10
    · have e : splitE bs = 8 := by unfold splitE; rw [if_pos (.inr h2)]
      have e2 : splitL bs = [] := by unfold splitL; rw [e]; rfl
      rw [e, e2]
      exact split_many A cap bs w hR (by omega) h2
    · have hne : ¬ (bs.length > 200000 ∨ bs.count 10 > 200) := by
        rintro (h | h)
        · exact h1 h
        · exact h2 h
      by_cases h3 : bs ≠ [] ∧ bs.getLast? ≠ some 10
      · have e : splitE bs = 2 := by unfold splitE; rw [if_neg hne, if_pos h3]
        have e2 : splitL bs = [] := by unfold splitL; rw [e]; rfl
        rw [e, e2]
        have h0 : 0 < bs.length := List.length_pos_iff.2 h3.1
        exact split_tail A cap bs w hR (by omega) (by omega) h0 (fun e => h3.2 (by rw [getLast_eq h0, e]))
      · have key := split_loop A cap _ bs w rfl hcap hR (by omega) (by omega) (by
          by_cases h0 : 0 < bs.length
          · right
            have hl : bs[bs.length - 1] = 10 := by
              rcases Classical.em (bs.getLast? = some 10) with h | h
              · rw [getLast_eq h0] at h; exact Option.some.inj h
              · exact absurd ⟨List.length_pos_iff.1 h0, h⟩ h3
            obtain ⟨a, rfl, hab, hcell⟩ := hR.at_ (k := bs.length - 1) (by simp; omega)
            refine ⟨a, rfl, h0, fun x y z => ?_⟩
            have := (below3 w x y z).cell (p := a.add (bs.length - 1)) (by rw [add_block]; exact hab)
            rw [this, hcell]; simp [byteV, hl]
          · exact .inl h0)
        refine key.mono ?_
        rintro e w' (⟨hall, hp⟩ | ⟨hall, hp⟩)
        · have e1 : splitE bs = 0 := by unfold splitE; rw [if_neg hne, if_neg h3, if_pos hall]
          have e2 : splitL bs = cut bs := by unfold splitL; rw [if_pos e1]
          rw [e1, e2]; exact hp
        · have e1 : splitE bs = 2 := by unfold splitE; rw [if_neg hne, if_neg h3, if_neg (by rw [hall]; decide)]
          have e2 : splitL bs = [] := by unfold splitL; rw [e1]; rfl
          rw [e1, e2]; exact hp

end Tx
end Go.Proofs.Ytobpdamfobldcaa
