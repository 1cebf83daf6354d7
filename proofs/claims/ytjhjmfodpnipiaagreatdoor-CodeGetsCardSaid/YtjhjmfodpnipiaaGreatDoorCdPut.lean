/-
  What package code's write and Put return (walks).
-/
import Derived.Test.YtjhjmfodpnipiaaGreatDoorCdPut0
import Derived.Test.YtjhjmfodpnipiaaGreatDoorCdHead
import Derived.Test.YtjhjmfodpnipiaaGreatDoorPrCode
import Derived.Test.YtjhjmfodpnipiaaGreatDoorFlLeaf
set_option maxRecDepth 100000
namespace Go.Proofs.YtjhjmfodpnipiaaGreatDoor
open Go.RowKit Go.Shelf
set_option linter.unusedVariables false
set_option linter.unusedSimpArgs false
namespace Cd
open Tx Df Sq Hk Tr Pr Fl

/-- The words of a change's own line. -/
def heads (p : Ch) : List (List UInt8) := [sign p.k] :: p.nm :: (if p.k = 2 then [p.to] else if 3 ≤ p.k then [numI p.h.pos, numI p.h.old.length, numI p.h.new.length] else [])
theorem join_heads (p : Ch) : Lib.join (heads p) [32] = headP p := by
  unfold heads headP tailP Lib.join
  split
  · simp [List.intercalate, List.intersperse]
  · split <;> simp [List.intercalate, List.intersperse]
theorem heads_len (p : Ch) : (heads p).length ≤ 5 := by
  unfold heads
  split
  · simp
  · split <;> simp
theorem may_len {p : Ch} (h : mayP p = true) : p.h.old.length ≤ 200 ∧ p.h.new.length ≤ 200 ∧ (∀ x ∈ p.h.old, x.length ≤ 80) ∧ (∀ x ∈ p.h.new, x.length ≤ 80) ∧ (headP p).length ≤ 100 ∧ (0 ≤ p.k ∧ p.k ≤ 4) ∧ I64 p.h.pos := by
  obtain ⟨hn, hc⟩ := mayP_cases.1 h
  have nl : ∀ {s : List UInt8}, name s = true → s.length ≤ 16 := fun {s} hs => by
    unfold name at hs
    simp only [Bool.and_eq_true, decide_eq_true_eq] at hs
    omega
  have al : ∀ {ls : List (List UInt8)}, allMay ls = true → ls.length ≤ 200 ∧ ∀ x ∈ ls, x.length ≤ 80 := fun {ls} hs => by
    unfold allMay may at hs
    simp only [Bool.and_eq_true, decide_eq_true_eq, List.all_eq_true] at hs
    exact ⟨hs.1, fun x hx => (hs.2 x hx).1⟩
  have h1 := nl hn
  have n1 := numI_len p.h.pos
  have n2 := numI_len p.h.old.length
  have n3 := numI_len p.h.new.length
  have hl : (headP p).length = 2 + p.nm.length + (tailP p).length := by unfold headP; simp; omega
  rcases hc with ⟨hk, ht, hh⟩ | ⟨hk, ht, _, hh⟩ | ⟨hk, ht, hh⟩ | ⟨hk, ht, hh, _⟩
  · rw [hh, hl]
    refine ⟨by decide, by decide, fun x hx => (by cases hx), fun x hx => (by cases hx), ?_, by omega, by decide, by decide⟩
    unfold tailP; rw [if_neg (by omega), if_neg (by omega)]; simp; omega
  · rw [hh, hl]
    have h2 := nl ht
    refine ⟨by decide, by decide, fun x hx => (by cases hx), fun x hx => (by cases hx), ?_, by omega, by decide, by decide⟩
    unfold tailP; rw [if_pos hk]; simp; omega
  · unfold mayH at hh
    simp only [Bool.and_eq_true, decide_eq_true_eq] at hh
    obtain ⟨⟨p0, p1⟩, ho, hw⟩ := hh
    refine ⟨(al ho).1, (al hw).1, (al ho).2, (al hw).2, ?_, by omega, by constructor <;> omega⟩
    rw [hl]; unfold tailP; rw [if_neg (by omega), if_pos (by omega)]; simp; omega
  · unfold mayH at hh
    simp only [Bool.and_eq_true, decide_eq_true_eq] at hh
    obtain ⟨⟨p0, p1⟩, ho, hw⟩ := hh
    refine ⟨(al ho).1, (al hw).1, (al ho).2, (al hw).2, ?_, by omega, by constructor <;> omega⟩
    rw [hl]; unfold tailP; rw [if_neg (by omega), if_pos (by omega)]; simp; omega

theorem headL {p : Ch} {A : Option Addr} {n c : Nat} {A' : Option Addr} {n' c' : Nat} {w : World} (hv : Vars w) (hm : mayP p = true) (hn : p.h.old.length = n) (hn' : p.h.new.length = n') :
    Calls Tryz.prog 41 #[prV p.k p.nm p.to p.h.pos A n c A' n' c'] w (HeadEnd w (heads p).length (heads p)) := by
  obtain ⟨l1, l2, _, _, _, hk, hq⟩ := may_len hm
  rw [hn] at l1
  rw [hn'] at l2
  obtain ⟨k, nm, tn, h⟩ := p
  simp only at hk hq hn hn' ⊢
  obtain ⟨i, rfl⟩ : ∃ i : Nat, k = i := ⟨k.toNat, by omega⟩
  have hi : i ≤ 4 := by omega
  match i, hi with
  | 0, _ => exact head_0 nm tn h.pos A n c A' n' c' w hv
  | 1, _ => exact head_1 nm tn h.pos A n c A' n' c' w hv
  | 2, _ => exact head_2 nm tn h.pos A n c A' n' c' w hv
  | 3, _ =>
    have e : heads ⟨((3 : Nat) : Int), nm, tn, h⟩ = [[64], nm, numI h.pos, numI n, numI n'] := by unfold heads; rw [hn, hn']; rfl
    rw [e]
    exact head_3 nm tn h.pos A n c A' n' c' w hv hq (by omega) (by omega)
  | 4, _ =>
    have e : heads ⟨((4 : Nat) : Int), nm, tn, h⟩ = [[61], nm, numI h.pos, numI n, numI n'] := by unfold heads; rw [hn, hn']; rfl
    rw [e]
    exact head_4 nm tn h.pos A n c A' n' c' w hv hq (by omega) (by omega)

theorem wr_box {w2 w3 w4 : World} {base g m m' : Nat} {v v3 : Value} {xs xs' : List Value} {cs : Array Value} {o : Obj} (b : Blk w2 g 34 cs) (h2 : w2.ownsRow base 5 1 v m xs) (g3 : w2.grownBy w3 v.ownBlock) (h3 : w3.ownsRow base 5 1 v3 m' xs') (g4 : (w3.alloc o).grownBy w4 v3.ownBlock) : Blk w4 g 34 cs :=
  ((b.gr g3 (b.not_row (by decide) h2)).alloc o).gr g4 ((b.gr g3 (b.not_row (by decide) h2)).not_row (by decide) h3)
theorem wr_line {w2 w3 w4 : World} {base : Nat} {v v3 v4 : Value} {bs h : List UInt8} {o : Obj} (ho : OwnB w2 base v bs) (g3 : w2.grownBy w3 v.ownBlock)
    (h3 : w3.ownsRow base 5 1 v3 (bs.length + (ByteArray.mk h.toArray).size) (bs.map byteV ++ Lib.strCells ⟨h.toArray⟩)) (g4 : (w3.alloc o).grownBy w4 v3.ownBlock)
    (h4 : w4.ownsRow base 5 1 v4 (bs.length + (ByteArray.mk h.toArray).size + 1) (bs.map byteV ++ Lib.strCells ⟨h.toArray⟩ ++ [.int .u8 10])) (hs : base ≤ w2.heap.size) :
    OwnB w4 base v4 (bs ++ h ++ [10]) ∧ Below base w2 w4 ∧ Typ 5 w2 w4 ∧ base ≤ w4.heap.size := by
  have s3 : base ≤ w3.heap.size := Nat.le_trans hs g3.size
  refine ⟨?_, (((Below.refl base w2).grown g3 hs (own_ge ho)).alloc s3 o).grown g4 (by simp; omega) (own_ge h3), (typ_grown ho g3).trans ((typ_alloc _ _ o).trans (typ_grown (h3.alloc o) g4)), by have := g4.size; simp at this; omega⟩
  have e2 : (bs ++ h ++ [10]).length = bs.length + (ByteArray.mk h.toArray).size + 1 := by rw [size_strV]; simp; omega
  have e3 : (bs ++ h ++ [10]).map byteV = bs.map byteV ++ Lib.strCells ⟨h.toArray⟩ ++ [.int .u8 10] := by rw [strCells_eq]; simp [byteV]
  unfold OwnB
  rw [e2, e3]
  exact h4

set_option maxHeartbeats 2000000 in
theorem write (v : Value) (base N : Nat) (bs : List UInt8) (p : Ch) (A : Option Addr) (n c : Nat) (A' : Option Addr) (n' c' : Nat) (w : World) (hm : mayP p = true) (hbl : bs.length ≤ 200000) (ho : OwnB w base v bs)
    (hp : PV w N A n c A' n' c' p) (hN : N ≤ base) (hbase : base ≤ w.heap.size) (hv : Vars w) :
    Calls Tryz.prog 19 #[v, prV p.k p.nm p.to p.h.pos A n c A' n' c'] w (fun e w' => ∃ v, e = .returned v ∧ OwnB w' base v (bs ++ bytesP p) ∧ Below base w w') := by
  obtain ⟨i0, hi, hz0, hz1, hz2⟩ := info_parts info_byte
  obtain ⟨l1, l2, l3, l4, l5, hk, hq⟩ := may_len hm
  have hn := hp.h.l; have hn' := hp.h.l'
  have HM := Lib.hid hm; have HO := Lib.hid ho; have HP := Lib.hid hp; have HV := Lib.hid hv; have HL5 := Lib.hid l5; have HL3 := Lib.hid l3; have HL4 := Lib.hid l4; have HLN := Lib.hid hn; have HLN' := Lib.hid hn'
  rw [hn] at l1
  rw [hn'] at l2
  have HK := Lib.hid (show n ≤ 200 ∧ n' ≤ 200 from ⟨l1, l2⟩)
  clear hm ho hp hv l1 l2 l3 l4 l5 hk hq hn hn'
  go_enter Tryz.func19, Tryz.ntmps19
  go_upto_region 1 with fail
  have b0 := Blk.new w 34 #[.int .i64 p.k, strV p.nm, strV p.to, .int .i64 p.h.pos, .slice A n c, .slice A' n' c']
  have hb : Below w.heap.size w (w.alloc (.cells #[.int .i64 p.k, strV p.nm, strV p.to, .int .i64 p.h.pos, .slice A n c, .slice A' n' c'] 34)) := (Below.refl _ _).alloc (Nat.le_refl _) _
  generalize w.alloc (.cells #[.int .i64 p.k, strV p.nm, strV p.to, .int .i64 p.h.pos, .slice A n c, .slice A' n' c'] 34) = W at b0 hb ⊢
  obtain ⟨g, hg⟩ : ∃ g, w.heap.size = g := ⟨_, rfl⟩
  have HO1 := Lib.hid (HO.out.below hb)
  replace HV := Lib.hid (HV.out.mv hb)
  rw [hg] at b0 hb hbase ⊢
  have x0 : W.cell? ⟨g, 0, none⟩ = some (.int .i64 p.k) := b0.cell 0 rfl
  have x1 : W.cell? ⟨g, 1, none⟩ = some (strV p.nm) := b0.cell 1 rfl
  have x2 : W.cell? ⟨g, 2, none⟩ = some (strV p.to) := b0.cell 2 rfl
  have x3 : W.cell? ⟨g, 3, none⟩ = some (.int .i64 p.h.pos) := b0.cell 3 rfl
  have x4 : W.cell? ⟨g, 4, none⟩ = some (.slice A n c) := b0.cell 4 rfl
  have x5 : W.cell? ⟨g, 5, none⟩ = some (.slice A' n' c') := b0.cell 5 rfl
  have HX := Lib.hid b0; have HB := Lib.hid (hb.mono hbase); have HG := Lib.hid hg
  clear b0 hb hg
  go_wp2_with fail
  refine (headL HV.out HM.out HLN.out HLN'.out).mono ?_
  rintro e w1 ⟨vh, rfl, how, hb1⟩
  have HO2 := Lib.hid (HO1.out.below hb1); have HX2 := Lib.hid (HX.out.below hb1 HX.out.lt); have HV2 := Lib.hid (HV.out.mv hb1)
  have hgW := HX.out.lt
  have HB2 := Lib.hid (HB.out.trans (hb1.mono (by omega)))
  have HOW := Lib.hid how
  clear how hb1 x0 x1 x2 x3 x4 x5 HO1 HX HB
  go_wp2_with fail
  refine (Join vh _ (heads p) w1 _ rfl (heads_len p) HOW.out (by rw [join_heads]; have := HL5.out; omega)).mono ?_
  rintro e w2 ⟨rfl, hb2⟩
  rw [join_heads]
  have hg1 := HX2.out.lt
  have HO3 := Lib.hid (HO2.out.below hb2); have HX3 := Lib.hid (HX2.out.below hb2 hg1); have HV3 := Lib.hid (HV2.out.mv hb2); have HB3 := Lib.hid (HB2.out.trans (hb2.mono (by omega)))
  clear hb2 HO2 HX2 HV2 HB2 HOW HV hgW hg1
  have hown := HO3.out
  unfold OwnB at hown
  have hs2 : base ≤ w2.heap.size := by have := HX3.out.lt; omega
  have HJ : Hid (bs.length ≤ 200000 ∧ (ByteArray.mk (headP p).toArray).size ≤ 100) := Lib.hid ⟨hbl, by rw [size_strV]; exact HL5.out⟩
  clear hbl
  go_wp2_with (first
    | (at_builtin; refine Lib.wpList_append_own_string _ rfl _ _ 22 9 rfl base 5 i0 Tryz.underlying22 Tryz.underlying9 hi hz0 hz1 hz2 _ _ _ rfl hown ⟨(headP p).toArray⟩ rfl (by have := HJ.out; unfold maxLen; omega) (by have := HJ.out; omega) hs2 ?_; intro v3 w3 hown3 hgrow3 _; have hs3 : base ≤ w3.heap.size := Nat.le_trans hs2 hgrow3.size)
    | (at_builtin; refine wpList_append_own _ rfl _ _ 22 rfl base 5 i0 (.int .u8 0) 1 1 Tryz.underlying22 hi hz0 hz1 hz2 rfl (by decide) _ _ _ rfl (hown3.alloc _) ⟨w3.heap.size, 0, none⟩ 1 1 [.int .u8 10] rfl rfl (cell_one_new _ _ _) (by simp [Value.oneCell']) (by have := HJ.out; unfold maxLen; omega) (by have := HJ.out; omega) (by simp; omega) ?_; intro v4 w4 hown4 hgrow4 _; have bx4 := wr_box HX3.out hown hgrow3 hown3 hgrow4; have x4 : w4.cell? ⟨g, 4, none⟩ = some (.slice A n c) := bx4.cell 4 rfl; clear bx4))
  have HX4 := Lib.hid (wr_box HX3.out hown hgrow3 hown3 hgrow4)
  obtain ⟨ho4, hb4, ht4, hs4⟩ := wr_line HO3.out hgrow3 hown3 hgrow4 hown4 hs2
  have HO4 := Lib.hid ho4; have HB4 := Lib.hid (HB3.out.trans hb4); have HT4 := Lib.hid ht4; have HS4 := Lib.hid hs4
  clear ho4 hb4 ht4 hs4 hown hgrow3 hown3 hgrow4 hown4 hs3 hs2 x4 HX3 HO3 HB3 HV3
  have hl4 : (bs ++ headP p ++ [10]).length ≤ 201000 := by have h1 := HJ.out.1; have h2 := HL5.out; simp only [List.length_append, List.length_singleton]; omega
  have hk := HK.out
  refine (writeLines v4 A n c base N (bs ++ headP p ++ [10]) 45 p.h.old w4 HLN.out hk.1 HL3.out (by omega) HO4.out (HP.out.h.r.below (HB4.out.mono hN)) hN HS4.out).mono ?_
  rintro e w5 ⟨v5, rfl, ho5, hb5, ht5⟩
  have hx5 := typ_blk ht5 HX4.out (by decide)
  have x5 : w5.cell? ⟨g, 5, none⟩ = some (.slice A' n' c') := hx5.cell 5 rfl
  have HO5 := Lib.hid ho5; have HB5 := Lib.hid (HB4.out.trans hb5); have HT5 := Lib.hid ht5; have HS5 := Lib.hid (Nat.le_trans HS4.out hb5.size)
  have hl5 : (bs ++ headP p ++ [10] ++ sg 45 p.h.old).length ≤ 300000 := by
    have h1 := sg_len (c := 45) (ls := p.h.old) HL3.out
    rw [HLN.out] at h1
    rw [List.length_append]; omega
  clear hx5 ho5 hb5 ht5 hl4
  go_wp2_with fail
  refine (writeLines v5 A' n' c' base N (bs ++ headP p ++ [10] ++ sg 45 p.h.old) 43 p.h.new w5 HLN'.out hk.2 HL4.out (by omega) HO5.out (HP.out.h.r'.below (HB5.out.mono hN)) hN HS5.out).mono ?_
  rintro e w6 ⟨v6, rfl, ho6, hb6, ht6⟩
  have HO6 := Lib.hid ho6; have HB6 := Lib.hid (HB5.out.trans hb6)
  clear ho6 hb6 ht6 x5 hl5 hk
  go_wp2
  go_ret
  have eb : bs ++ bytesP p = bs ++ headP p ++ [10] ++ sg 45 p.h.old ++ sg 43 p.h.new := by unfold bytesP; simp
  rw [eb]
  exact ⟨_, rfl, HO6.out, HB6.out⟩

/-- How Put ends. -/
def PutEnd (w : World) (er : Int) (bs : List UInt8) (e : Ending) (w' : World) : Prop :=
  ∃ B n d, e = .returned (.tuple #[.slice B n d, .int .i64 er]) ∧ bs.length = n ∧ n ≤ d ∧ RdB w' w'.heap.size B bs ∧ Below w.heap.size w w'
theorem put_none {w w' : World} {er : Int} (h : Below w.heap.size w w') : PutEnd w er [] (.returned (.tuple #[.slice none 0 0, .int .i64 er])) w' := ⟨none, 0, 0, rfl, rfl, Nat.le_refl _, .inl rfl, h⟩
theorem bytes_take {l : List Ch} {k : Nat} {x : Ch} (h : l[k]? = some x) : bytesL (l.take (k + 1)) = bytesL (l.take k) ++ bytesP x := by
  rw [take_at h, bytesL_app]
  show _ ++ bytesL [x] = _
  rw [bytesL_cons]
  simp [bytesL]
theorem bytes_le {l : List Ch} (k : Nat) : (bytesL (l.take k)).length ≤ (bytesL l).length := by
  have h : bytesL l = bytesL (l.take k) ++ bytesL (l.drop k) := by rw [← bytesL_app, List.take_append_drop]
  rw [h, List.length_append]
  omega

set_option maxHeartbeats 4000000 in
theorem Put (A : Option Addr) (n c : Nat) (l : List Ch) (w : World) (er : Int) (bs : List UInt8) (hn : l.length = n) (hle : n ≤ maxLen) (hR : RdP w (· < w.heap.size) A l) (hv : Vars w) (hp : putP l = (er, bs)) :
    Calls Tryz.prog 8 #[.slice A n c] w (PutEnd w er bs) := by
  have HR := Lib.hid hR; have HN := Lib.hid hn; have HV := Lib.hid hv; have HPP := Lib.hid hp
  clear hR hn hv hp
  by_cases h200 : 200 < n
  · have h1 : putP l = (8, []) := by unfold putP; rw [if_pos (by rw [HN.out]; exact h200)]
    have h2 := HPP.out
    rw [h1] at h2
    injection h2 with h2 h3
    subst h2 h3
    have hle2 : n ≤ 9223372036854775807 := by unfold maxLen at hle; omega
    clear h1 hle
    go_enter Tryz.func8, Tryz.ntmps8
    go_wp2
    go_ret2
    exact put_none (Below.refl _ _)
  · have hn200 : n ≤ 200 := by omega
    clear h200 hle
    go_enter Tryz.func8, Tryz.ntmps8
    go_wp2
    go_loopw [14] (fun i wr => ∃ k : Nat, k ≤ n ∧ i = .int .i64 (k : Int) ∧ (l.take k).all mayP = true ∧ Below w.heap.size w wr) (fun i _ => n - (intOf i).toNat)
    case atStart => exact ⟨0, Nat.zero_le _, rfl, rfl, Below.refl _ _⟩
    case round =>
      obtain ⟨k, hk, rfl, hall, hbw⟩ := hrel
      have HBW := Lib.hid hbw; have HAL := Lib.hid hall; clear hbw hall
      by_cases hlt : k < n
      · have hki : (k : Int) < (n : Int) := by omega
        obtain ⟨a, x, B, i, j, D, m, d, rfl, hS, hx, c0, c1, c2, c3, c4, c5, c6⟩ := ((HR.out.mv HBW.out).elem (k := k) (by rw [HN.out]; exact hlt))
        have HX := Lib.hid hx; have HP := Lib.hid c6.pv; clear hx c6 hS
        have hba : Below wr.heap.size wr (wr.alloc (.cells #[.int .i64 x.k, strV x.nm, strV x.to, .int .i64 x.h.pos, .slice B i j, .slice D m d] 34)) := (Below.refl _ _).alloc (Nat.le_refl _) _
        have HBA := Lib.hid hba; clear hba
        go_wp2_with fail
        obtain ⟨bl, hbl⟩ : ∃ b, mayP x = b := ⟨_, rfl⟩
        refine (MayP B i j D m d x _ bl (HP.out.mv HBA.out) hbl).mono ?_
        rintro e w2 ⟨rfl, hb2⟩
        have HBL := Lib.hid hbl; clear hbl
        have hbw2 := below_mv HBW.out (below_mv HBA.out hb2)
        have HBW2 := Lib.hid hbw2; clear hbw2 c0 c1 c2 c3 c4 c5 hb2
        cases bl with
        | false =>
          have hf : l.all mayP = false := List.all_eq_false.2 ⟨x, List.mem_of_getElem? HX.out, by rw [HBL.out]; decide⟩
          have h1 : putP l = (1, []) := by unfold putP; rw [if_neg (by rw [HN.out]; omega), hf]; rfl
          have h2 := HPP.out
          rw [h1] at h2
          injection h2 with h2 h3
          subst h2 h3
          clear hf h1
          go_wp2
          go_ret2
          exact put_none HBW2.out
        | true =>
          go_wp2_with fail
          refine ⟨⟨k + 1, by omega, by go_num, ?_, HBW2.out⟩, by simp [intOf]; omega⟩
          rw [take_at HX.out, List.all_append, HAL.out]
          simp [HBL.out]
      · have ek : l.take k = l := List.take_of_length_le (by rw [HN.out]; omega)
        have hall := HAL.out
        rw [ek] at hall
        have HALL := Lib.hid hall
        clear hall ek HAL
        go_wp2
        go_loopw [6, 24] (fun v i W => ∃ k : Nat, k ≤ n ∧ i = .int .i64 (k : Int) ∧ (bytesL (l.take k)).length ≤ 200000 ∧ OwnB W w.heap.size v (bytesL (l.take k)) ∧ Below w.heap.size w W) (fun _ i _ => n - (intOf i).toNat)
        case atStart => exact ⟨0, Nat.zero_le _, rfl, by simp [bytesL], by simpa [bytesL] using ownB_nil _ _, HBW.out⟩
        case round =>
          obtain ⟨k, hk, rfl, hlen, hown, hbw⟩ := hrel
          have HBW := Lib.hid hbw; have HOW := Lib.hid hown; have HLEN := Lib.hid hlen; clear hbw hown hlen
          by_cases hlt : k < n
          · have hki : (k : Int) < (n : Int) := by omega
            obtain ⟨a, x, B, i, j, D, m, d, rfl, hS, hx, c0, c1, c2, c3, c4, c5, c6⟩ := ((HR.out.below HBW.out).elem (k := k) (by rw [HN.out]; exact hlt))
            have HX := Lib.hid hx; have HP := Lib.hid c6.pv; clear hx c6 hS
            have hba : Below wr.heap.size wr (wr.alloc (.cells #[.int .i64 x.k, strV x.nm, strV x.to, .int .i64 x.h.pos, .slice B i j, .slice D m d] 34)) := (Below.refl _ _).alloc (Nat.le_refl _) _
            have HBA := Lib.hid hba; clear hba
            have HMX := Lib.hid (List.all_eq_true.1 HALL.out x (List.mem_of_getElem? HX.out))
            go_wp2_with fail
            refine (write _ w.heap.size w.heap.size (bytesL (l.take k)) x B i j D m d _ HMX.out HLEN.out (HOW.out.below HBA.out) (HP.out.below (HBA.out.mono HBW.out.size)) (Nat.le_refl _) (Nat.le_trans HBW.out.size HBA.out.size) (HV.out.mv (below_mv HBW.out HBA.out))).mono ?_
            rintro e w2 ⟨v2, rfl, ho2, hb2⟩
            rw [← bytes_take HX.out] at ho2
            obtain ⟨Av, cv, rfl, hcv, hrd⟩ := ho2.rd
            obtain ⟨nv, hnv⟩ : ∃ nv, (bytesL (l.take (k + 1))).length = nv := ⟨_, rfl⟩
            have HO2 := Lib.hid ho2; have HB2 := Lib.hid ((below_mv HBW.out HBA.out).trans hb2)
            have HNV := Lib.hid hnv
            rw [hnv] at HO2 ⊢
            clear ho2 hb2 hrd hcv hnv c0 c1 c2 c3 c4 c5
            by_cases hbig : 200000 < nv
            · have h1 : putP l = (8, []) := by
                unfold putP
                rw [if_neg (by rw [HN.out]; omega), if_pos HALL.out, if_pos (by have h1 := bytes_le (l := l) (k + 1); rw [HNV.out] at h1; omega)]
              have h2 := HPP.out
              rw [h1] at h2
              injection h2 with h2 h3
              subst h2 h3
              clear h1
              go_wp2
              go_ret2
              exact put_none HB2.out
            · have hsm : nv ≤ 200000 := by omega
              clear hbig
              go_wp2_with fail
              exact ⟨⟨k + 1, by omega, by go_num, by rw [HNV.out]; exact hsm, by rw [HNV.out] at *; exact HO2.out, HB2.out⟩, by simp [intOf]; omega⟩
          · have ek : l.take k = l := List.take_of_length_le (by rw [HN.out]; omega)
            rw [ek] at HLEN HOW
            have h1 : putP l = (0, bytesL l) := by
              unfold putP
              rw [if_neg (by rw [HN.out]; omega), if_pos HALL.out, if_neg (by have := HLEN.out; omega)]
            have h2 := HPP.out
            rw [h1] at h2
            injection h2 with h2 h3
            subst h2 h3
            obtain ⟨Av, cv, rfl, hcv, hrd⟩ := HOW.out.rd
            have HRD := Lib.hid hrd; have HCV := Lib.hid hcv
            clear h1 ek hrd hcv
            go_wp2
            go_ret2
            exact ⟨_, _, _, rfl, rfl, HCV.out, HRD.out, HBW.out⟩

end Cd
end Go.Proofs.YtjhjmfodpnipiaaGreatDoor
