/-
  What the document's Same and Edits of layer 4 return (walks).
-/
import Derived.Test.YtjhjmfodpnipiaaDfEdits
import Derived.Test.YtjhjmfodpnipiaaGQ
import Derived.Test.YtjhjmfodpnipiaaLcRefs
import Derived.Deep.QuietTactic
import Derived.BigQuiet
set_option maxRecDepth 100000
namespace Go.Proofs.Ytjhjmfodpnipiaa
open Go.RowKit
set_option linter.unusedVariables false
namespace Df
open Tx Lc

/-- What holds at the head of the loop of the document's Edits. -/
structure RInv (w : World) (h g : Nat) (a b : List (List UInt8)) (pl : List (Nat × Nat)) (k i j : Nat) (es : List E) (v : Value) (wr : World) : Prop where
  row : ∃ xs, wr.ownsRow h 90 3 v es.length xs ∧ ECells wr h es xs
  pb : PB wr g (pl ++ [(a.length, b.length)])
  bl : Below h w wr
  nx : k ≤ pl.length → Ris a b i j (pl.drop k) ∧ i ≤ a.length ∧ j ≤ b.length
  eq : es ++ eds b i j ((pl ++ [(a.length, b.length)]).drop k) = edits a b

theorem RInv.few {w : World} {h g : Nat} {a b : List (List UInt8)} {pl : List (Nat × Nat)} {k i j : Nat} {es : List E} {v : Value} {wr : World} (I : RInv w h g a b pl k i j es v wr) : es.length ≤ a.length + b.length := by
  have h1 := edits_len_le a b
  rw [← I.eq, List.length_append] at h1
  omega

/-- The next pair, or the end. -/
theorem RInv.next {w : World} {h g : Nat} {a b : List (List UInt8)} {pl : List (Nat × Nat)} {k i j : Nat} {es : List E} {v : Value} {wr : World} (I : RInv w h g a b pl k i j es v wr) (hk : k ≤ pl.length) :
    ∃ p0 p1, (pl ++ [(a.length, b.length)])[k]? = some (p0, p1) ∧ i ≤ p0 ∧ p0 ≤ a.length ∧ j ≤ p1 ∧ p1 ≤ b.length ∧
      (es ++ one b i j p0 p1) ++ eds b (p0 + 1) (p1 + 1) ((pl ++ [(a.length, b.length)]).drop (k + 1)) = edits a b ∧
      (k + 1 ≤ pl.length → Ris a b (p0 + 1) (p1 + 1) (pl.drop (k + 1)) ∧ p0 + 1 ≤ a.length ∧ p1 + 1 ≤ b.length) := by
  obtain ⟨hr, hi, hj⟩ := I.nx hk
  have he := I.eq
  by_cases hlt : k < pl.length
  · rw [drop_at hlt] at hr
    rw [List.drop_append_of_le_length hk, drop_at hlt] at he
    have hle := ris_le hr
    refine ⟨pl[k].1, pl[k].2, by rw [List.getElem?_append_left hlt, List.getElem?_eq_getElem hlt], hr.1, by omega, hr.2.1, by omega, ?_, fun _ => ⟨hr.2.2.2, hle.1, hle.2⟩⟩
    rw [← he, List.cons_append, eds, List.append_assoc, List.drop_append_of_le_length (by omega)]
  · obtain rfl : k = pl.length := by omega
    refine ⟨a.length, b.length, by rw [List.getElem?_append_right (Nat.le_refl _), Nat.sub_self]; rfl, hi, Nat.le_refl _, hj, Nat.le_refl _, ?_, fun h => by omega⟩
    rw [← he, List.drop_left, List.drop_of_length_le (by simp), eds, eds, eds, List.append_nil, List.append_nil]

theorem RInv.last {w : World} {h g : Nat} {a b : List (List UInt8)} {pl : List (Nat × Nat)} {k i j : Nat} {es : List E} {v : Value} {wr : World} (I : RInv w h g a b pl k i j es v wr) (hk : pl.length < k) : es = edits a b := by
  rw [← I.eq, List.drop_of_length_le (by simp; omega), eds, List.append_nil]

theorem cell_gn' {W w1 : World} {row : Option Nat} {b o : Nat} {u : Value} (hg : W.drew.grownBy w1 row) (hb : b < W.heap.size) (hne : some b ≠ row) (hc : W.cell? ⟨b, o, none⟩ = some u) : w1.cell? ⟨b, o, none⟩ = some u := by
  have e := hg.block b hb hne
  unfold World.cell? at hc ⊢
  rw [e]; exact hc
theorem pb_at {w : World} {g k p0 p1 : Nat} {pl : List (Nat × Nat)} (h : PB w g pl) (hk : pl[k]? = some (p0, p1)) : w.cell? ⟨g, k * 2, none⟩ = some (.int .i64 (p0 : Int)) ∧ w.cell? ⟨g, k * 2 + 1, none⟩ = some (.int .i64 (p1 : Int)) := by
  obtain ⟨cur, h1, h2⟩ := h
  obtain ⟨c0, c1⟩ := h2 k _ hk
  exact ⟨cell_of h1 _ c0, cell_of h1 _ c1⟩

/-- Where an edit has been told. -/
theorem RInv.told {w wr w3 w4 : World} {h g k i j ne p0 p1 l c1 gg cap : Nat} {a b : List (List UInt8)} {pl : List (Nat × Nat)} {es : List E} {v : Value} {A1 : Option Addr} {o : Obj} {xs : List Value} (hpb : PB wr g (pl ++ [(a.length, b.length)])) (hbl : Below h w wr) (hh : h ≤ wr.heap.size)
    (hrow : wr.ownsRow h 90 3 v ne xs) (hE : ECells wr h es xs) (hne : es.length = ne) (hk : (mid b j p1).length = l)
    (hr1 : w3.ownsRow wr.heap.size 9 1 (.slice A1 l c1) l ((mid b j p1).map strV)) (hg1 : wr.drew.grownBy w3 none) (hgrow : (w3.alloc o).grownBy w4 v.ownBlock)
    (hown : w4.ownsRow h 90 3 (.slice (some ⟨gg, 0, none⟩) (ne + 1) cap) (ne + 1) (xs ++ [.int .i64 (i : Int), .int .i64 ((p0 : Int) - i), .slice A1 l c1])) (hp : I64 ((i : Nat) : Int)) (ho : I64 ((p0 : Int) - i)) (hl1 : (mid b j p1).length ≤ maxLen)
    (hor : i < p0 ∨ j < p1) (heq : (es ++ one b i j p0 p1) ++ eds b (p0 + 1) (p1 + 1) ((pl ++ [(a.length, b.length)]).drop (k + 1)) = edits a b)
    (hnx : k + 1 ≤ pl.length → Ris a b (p0 + 1) (p1 + 1) (pl.drop (k + 1)) ∧ p0 + 1 ≤ a.length ∧ p1 + 1 ≤ b.length) :
    RInv w h g a b pl (k + 1) (p0 + 1) (p1 + 1) (es ++ one b i j p0 p1) (.slice (some ⟨gg, 0, none⟩) (ne + 1) cap) w4 := by
  have hd : wr.grownBy wr.drew none := ⟨rfl, rfl, rfl, Nat.le_refl _, fun _ _ _ => rfl⟩
  have ha := World.grownBy_alloc w3 o none
  have em : v.ownBlock = none ∨ v.ownBlock ≠ none := Classical.em _
  have hrow1 := ((hrow.kept hd em).kept hg1 em).kept ha em
  have k1 : KpE wr (w3.alloc o) := ((kpE_none hd).trans (kpE_none hg1)).trans (kpE_none ha)
  have k2 : KpE (w3.alloc o) w4 := kpE_grown hrow1 hgrow
  have b1 : Below h wr (w3.alloc o) := (((Below.refl h wr).grown hd hh (fun j hj => by cases hj)).grown hg1 (by simpa using hh) (fun j hj => by cases hj)).grown ha (Nat.le_trans hh (by simpa using hg1.size)) (fun j hj => by cases hj)
  subst hk; subst hne
  refine ⟨⟨xs ++ [.int .i64 (i : Int), .int .i64 ((p0 : Int) - i), .slice A1 (mid b j p1).length c1], ?_, ?_⟩, (hpb.kept k1).kept k2, hbl.trans (b1.grown hgrow (Nat.le_trans hh b1.size) (own_ge hrow1)), hnx, heq⟩
  · rw [one, if_pos hor, List.length_append]; exact hown
  · rw [one, if_pos hor]
    exact ecells_snoc (x := ⟨i, (p0 : Int) - i, mid b j p1⟩) (hE.kept (k1.trans k2)) (kpE_row ((own_mono hr1 hh).kept ha (Classical.em _)) k2) hp ho hl1

set_option maxRecDepth 100000 in
set_option maxHeartbeats 4000000 in
theorem refEditsH (A A' : Option Addr) (c c' n m B : Nat) (a b : List (List UInt8)) (w : World) (hn : a.length = n) (hm : b.length = m) (hmc : m ≤ c') (hln : n ≤ 1000) (hlm : m ≤ 1000) (hB : B ≤ w.heap.size)
    (hR : RdS w B A a) (hR' : RdS w B A' b) :
    Calls Try.prog 69 #[.slice A n c, .slice A' m c'] w (EditsEndH w (edits a b)) := by
  obtain ⟨q0, hq, hx0, hx1, hx2⟩ := info_parts info_pair
  obtain ⟨i0, hi0, hz0, hz1, hz2⟩ := info_parts info_edit
  obtain ⟨j0, hj0, hy0, hy1, hy2⟩ := info_parts info_str
  have HP := Lib.hid (refPairs A A' c c' n m B a b w hn hm hln hlm hB hR hR')
  have hpl := pairs_len a b
  have hpl2 := (lcs_le a b).1
  have hris := pairs_ris a b
  have heds : ([] : List E) ++ eds b 0 0 (pairs a b ++ [(a.length, b.length)]) = edits a b := rfl
  generalize pairs a b = pl at *
  obtain ⟨N, hN⟩ : ∃ N, pl.length = N := ⟨_, rfl⟩
  rw [hn] at hpl2
  have hNl : N ≤ 1000 := by omega
  have HRI := Lib.hid hris; have HED := Lib.hid heds; clear hris heds hpl hpl2
  have HN := Lib.hid hn; have HM := Lib.hid hm; have HNN := Lib.hid hN; clear hn hm hN
  go_enter Try.func69, Try.ntmps69
  go_wp2_with fail
  refine HP.out.mono ?_
  rintro e w1 ⟨v, rfl, hrow, hb1⟩
  rw [HNN.out] at hrow
  clear HP
  obtain ⟨Av, cv, rfl⟩ := own_form hrow
  go_wp2_with (at_builtin; refine wpList_append_own _ rfl (.tmp 13) (.tmp 19) 101 rfl w.heap.size 103 q0 (.agg #[.int .i64 0, .int .i64 0]) 2 16 Try.underlying101 hq hx0 hx1 hx2 rfl (by decide) (.slice Av N cv) N (cellsP pl) rfl (hrow.alloc _) ⟨w1.heap.size, 0, none⟩ 1 1 [.int .i64 (n : Int), .int .i64 (m : Int)] rfl rfl (cells2_new w1 _ _ _) (by simp [Value.oneCell']) (by unfold maxLen; omega) (by omega) (by have := hb1.size; simp; omega) ?_; intro v' w2 hown' hgrow _; obtain ⟨g, cap', rfl⟩ := ownsRow_succ hown')
  have hB2 : Below w.heap.size w w2 := (hb1.alloc hb1.size _).grown hgrow (by have := hb1.size; simp; omega) (own_ge (hrow.alloc (.cells #[.int .i64 (n : Int), .int .i64 (m : Int)] 103)))
  obtain ⟨_, _, g', hv', _, hg', hPB⟩ := pb_own (pl := pl ++ [(a.length, b.length)]) (by rw [cellsP_snoc, HN.out, HM.out]; exact hown') (by simp [HNN.out])
  cases hv'
  have hgg := hg' (by omega)
  injection hgg with hgg
  injection hgg with hgg
  subst hgg
  have HI0 : Hid (RInv w w.heap.size g a b pl 0 0 0 [] (.slice none 0 0) w2) := Lib.hid ⟨⟨[], World.ownsRow_nil _ _ _ _, ecells_nil _ _⟩, hPB (by omega), hB2, fun _ => ⟨HRI.out, Nat.zero_le _, Nat.zero_le _⟩, HED.out⟩
  clear hown' hgrow hg' hPB hrow hb1 hB2
  have hR1 : RdS w w.heap.size A' b := Rd.up hR' hB
  generalize hh : w.heap.size = h at *
  have HH := Lib.hid hh; clear hh
  generalize hM1 : N + 1 = M at *
  have hM2 : M ≤ 1001 := by omega
  have HM1 := Lib.hid hM1; clear hM1
  go_wp2_with fail
  go_loopw [6, 7, 8, 9] (fun v6 v7 v8 v9 wr => ∃ (k i j : Nat) (es : List E), k ≤ M ∧ v9 = .int .i64 (k : Int) ∧ v7 = .int .i64 (i : Int) ∧ v8 = .int .i64 (j : Int) ∧ RInv w h g a b pl k i j es v6 wr) (fun _ _ _ v9 _ => M - (intOf v9).toNat)
  case atStart => exact ⟨0, 0, 0, [], Nat.zero_le _, rfl, rfl, rfl, HI0.out⟩
  case round =>
    obtain ⟨k, i, j, es, hk, rfl, rfl, rfl, I⟩ := hrel
    by_cases hlt : k < M
    · obtain ⟨p0, p1, hpe, hg1, hl1, hg2, hl2, heq, hnx⟩ := I.next (by have := HM1.out; rw [HNN.out]; omega)
      rw [HN.out] at hl1
      rw [HM.out] at hl2
      have hfew := I.few
      rw [HN.out, HM.out] at hfew
      obtain ⟨⟨xs, hrow, hE⟩, hpb, hbl, _, _⟩ := I
      obtain ⟨ne, hne⟩ : ∃ ne, es.length = ne := ⟨_, rfl⟩
      rw [hne] at hrow hfew
      obtain ⟨Ar, cr, rfl, hcr, _⟩ := rdE_own hrow hE hne
      have hsz : h ≤ wr.heap.size := by have := hbl.size; rw [HH.out] at this; exact this
      obtain ⟨cur, hcur, hcc⟩ := hpb
      obtain ⟨e0, e1⟩ := hcc k _ hpe
      have cp0 : wr.cell? ⟨g, k * 2, none⟩ = some (.int .i64 (p0 : Int)) := cell_of hcur _ e0
      have cp1 : wr.cell? ⟨g, k * 2 + 1, none⟩ = some (.int .i64 (p1 : Int)) := cell_of hcur _ e1
      have hpb : PB wr g (pl ++ [(a.length, b.length)]) := ⟨cur, hcur, hcc⟩
      have hRr : RdS wr h A' b := Rd.below hR1 hbl
      clear hcc hcur e0 e1
      have HPE := Lib.hid hpe; have HNE := Lib.hid hne; have HROW := Lib.hid hrow; have HE := Lib.hid hE; have HPB := Lib.hid hpb; have HBL := Lib.hid hbl; have HEQ := Lib.hid heq; have HNX := Lib.hid hnx
      clear hpe hne hrow hE hpb hbl heq hnx
      by_cases hor : i < p0 ∨ j < p1
      · have hD := Rd.drop hRr (k := j) (cap := c') (by rw [List.length_map, HM.out]; exact hmc)
        have hmm : ((b.map strV).drop j).take (p1 - j) = (mid b j p1).map strV := mid_map.symm
        have HL : Hid ((mid b j p1).length = p1 - j) := Lib.hid (by rw [mid_len (by rw [HM.out]; omega)])
        have HOR := Lib.hid hor
        have t4 : (p1 : Int) ≤ (c' : Int) := by omega
        rcases Classical.em (j = c') with hcj | hcj
        · subst hcj
          rw [if_pos rfl] at hD
          have hDT := hD.take (p1 - j)
          rw [hmm] at hDT
          have HDT := Lib.hid hDT
          clear hD hDT hmm
          have f1 : p1 - j ≤ maxLen := by unfold maxLen; omega
          have f1' : (p1 - j) * 16 ≤ 140737488355328 := by omega
          have f2 : ne + 1 ≤ maxLen := by unfold maxLen; omega
          have f3 : (ne + 1) * 40 ≤ 140737488355328 := by omega
          have hP : I64 ((i : Nat) : Int) := by unfold I64; omega
          have hO : I64 ((p0 : Int) - i) := by unfold I64; omega
          have HP := Lib.hid hP; have HO := Lib.hid hO; clear hP hO
          have em : (Value.slice Ar ne cr).ownBlock = none ∨ (Value.slice Ar ne cr).ownBlock ≠ none := Classical.em _
          have nn : ∀ b : Nat, some b ≠ (none : Option Nat) := fun b e => by cases e
          have EM := Lib.hid em; have NN := Lib.hid nn; clear em nn
          have lg : g < wr.heap.size := World.block_lt_of_cell? wr _ cp0
          have t1 : (0 : Int) ≤ (j : Int) := by omega
          have t2 : (j : Int) ≤ (p1 : Int) := by omega
          have t3 : (p1 : Int) ≤ (m : Int) := by omega
          have t5 : (0 : Int) ≤ (k : Int) := by omega
          have t6 : (k : Int) < (M : Int) := by omega
          have HSZ := Lib.hid hsz
          by_cases h1 : i < p0
          all_goals try (exfalso; have := HOR.out; omega)
          all_goals
            have hw : IntKind.i64.wrap ((p0 : Int) - (i : Int)) = (p0 : Int) - (i : Int) := IntWalk.i64_in _ (by omega)
            go_wp2_with fail
            go_region_held3 (fun w' => w'.cell? ⟨g, k * 2, none⟩ = some (.int .i64 (p0 : Int)) ∧ w'.cell? ⟨g, k * 2 + 1, none⟩ = some (.int .i64 (p1 : Int)))
              (first | go_keep | (exact ⟨cell_gn' HG1.out lg (NN.out _) cp0, cell_gn' HG1.out lg (NN.out _) cp1⟩) | (exact ⟨cell_al _ (cell_gn' HG1.out lg (NN.out _) cp0), cell_al _ (cell_gn' HG1.out lg (NN.out _) cp1)⟩) | (exact ⟨x0, x1⟩))
              (first
                | ((refine step_nil (o := ⟨some 60, _, _, _, _, _⟩) (by rfl) (.const (.slice none 0 0)) (.tmp 59) 33 (by rfl) 9 j0 (.string ⟨#[]⟩) 16 Try.underlying33 hj0 hy0 hy1 hy2 rfl (by rfl) h A' (p1 - j) 0 ((mid b j p1).map strV) (by rfl) ((List.length_map _).trans HL.out) (Rd.below HDT.out (below_drewN (Below.refl h wr) 1)) (strs_one _) f1 f1' ?_; intro A1 c1 w3 hr1 hg1; have HR1 := Lib.hid hr1; have HG1 := Lib.hid hg1; clear hr1 hg1))
                | ((refine step_append_lies (o := ⟨some 63, _, _, _, _, _⟩) _ (by rfl) _ _ _ (by rfl) h 90 i0 _ 3 40 Try.underlying87 hi0 hz0 hz1 hz2 rfl (by decide) (.slice Ar ne cr) ne xs (by rfl) ((HROW.out.drew.kept HG1.out EM.out).alloc _) ⟨w3.heap.size, 0, none⟩ 1 1 [.int .i64 (i : Int), .int .i64 ((p0 : Int) - i), .slice A1 (p1 - j) c1] (by rfl) (by rfl) (World.news_of_block (cs := #[.int .i64 (i : Int), .int .i64 ((p0 : Int) - i), .slice A1 (p1 - j) c1]) (t := 90) (fr := (0, 0)) (heap_alloc_new w3 _)) (by simp [Value.oneCell']) (by decide) f2 f3 (Nat.le_trans HSZ.out (Nat.le_trans HG1.out.size (by simp))) (w3.heap.size + 1) (by simp) ?_; intro gg cap w4 hown2 hgrow hat hlt4;
                    have hT := RInv.told HPB.out HBL.out HSZ.out HROW.out HE.out HNE.out HL.out HR1.out HG1.out hgrow hown2 HP.out HO.out (Nat.le_trans (Nat.le_of_eq HL.out) f1) HOR.out HEQ.out HNX.out; have HT := Lib.hid hT; obtain ⟨x0, x1⟩ := pb_at hT.pb HPE.out; clear hT hgrow hown2 hat hlt4)))
            clear hw
            go_wp2
            go_roundw
            case rel => exact ⟨k + 1, p0 + 1, p1 + 1, _, by omega, by go_num, by go_num, by go_num, HT.out⟩
            case measure => simp [intOf]; omega
        · have hcj' : ¬ c' = j := Ne.symm hcj
          clear hcj
          rw [if_neg hcj'] at hD
          have hDT := hD.take (p1 - j)
          rw [hmm] at hDT
          have HDT := Lib.hid hDT
          clear hD hDT hmm
          have f1 : p1 - j ≤ maxLen := by unfold maxLen; omega
          have f1' : (p1 - j) * 16 ≤ 140737488355328 := by omega
          have f2 : ne + 1 ≤ maxLen := by unfold maxLen; omega
          have f3 : (ne + 1) * 40 ≤ 140737488355328 := by omega
          have hP : I64 ((i : Nat) : Int) := by unfold I64; omega
          have hO : I64 ((p0 : Int) - i) := by unfold I64; omega
          have HP := Lib.hid hP; have HO := Lib.hid hO; clear hP hO
          have em : (Value.slice Ar ne cr).ownBlock = none ∨ (Value.slice Ar ne cr).ownBlock ≠ none := Classical.em _
          have nn : ∀ b : Nat, some b ≠ (none : Option Nat) := fun b e => by cases e
          have EM := Lib.hid em; have NN := Lib.hid nn; clear em nn
          have lg : g < wr.heap.size := World.block_lt_of_cell? wr _ cp0
          have t1 : (0 : Int) ≤ (j : Int) := by omega
          have t2 : (j : Int) ≤ (p1 : Int) := by omega
          have t3 : (p1 : Int) ≤ (m : Int) := by omega
          have t5 : (0 : Int) ≤ (k : Int) := by omega
          have t6 : (k : Int) < (M : Int) := by omega
          have HSZ := Lib.hid hsz
          by_cases h1 : i < p0
          all_goals
            have hw : IntKind.i64.wrap ((p0 : Int) - (i : Int)) = (p0 : Int) - (i : Int) := IntWalk.i64_in _ (by omega)
            go_wp2_with fail
            go_region_held3 (fun w' => w'.cell? ⟨g, k * 2, none⟩ = some (.int .i64 (p0 : Int)) ∧ w'.cell? ⟨g, k * 2 + 1, none⟩ = some (.int .i64 (p1 : Int)))
              (first | go_keep | (exact ⟨cell_gn' HG1.out lg (NN.out _) cp0, cell_gn' HG1.out lg (NN.out _) cp1⟩) | (exact ⟨cell_al _ (cell_gn' HG1.out lg (NN.out _) cp0), cell_al _ (cell_gn' HG1.out lg (NN.out _) cp1)⟩) | (exact ⟨x0, x1⟩))
              (first
                | ((refine step_nil (o := ⟨some 60, _, _, _, _, _⟩) (by rfl) (.const (.slice none 0 0)) (.tmp 59) 33 (by rfl) 9 j0 (.string ⟨#[]⟩) 16 Try.underlying33 hj0 hy0 hy1 hy2 rfl (by rfl) h (A'.map (fun x => x.add j)) (p1 - j) (c' - j) ((mid b j p1).map strV) (by rfl) ((List.length_map _).trans HL.out) (Rd.below HDT.out (below_drewN (Below.refl h wr) 1)) (strs_one _) f1 f1' ?_; intro A1 c1 w3 hr1 hg1; have HR1 := Lib.hid hr1; have HG1 := Lib.hid hg1; clear hr1 hg1))
                | ((refine step_append_lies (o := ⟨some 63, _, _, _, _, _⟩) _ (by rfl) _ _ _ (by rfl) h 90 i0 _ 3 40 Try.underlying87 hi0 hz0 hz1 hz2 rfl (by decide) (.slice Ar ne cr) ne xs (by rfl) ((HROW.out.drew.kept HG1.out EM.out).alloc _) ⟨w3.heap.size, 0, none⟩ 1 1 [.int .i64 (i : Int), .int .i64 ((p0 : Int) - i), .slice A1 (p1 - j) c1] (by rfl) (by rfl) (World.news_of_block (cs := #[.int .i64 (i : Int), .int .i64 ((p0 : Int) - i), .slice A1 (p1 - j) c1]) (t := 90) (fr := (0, 0)) (heap_alloc_new w3 _)) (by simp [Value.oneCell']) (by decide) f2 f3 (Nat.le_trans HSZ.out (Nat.le_trans HG1.out.size (by simp))) (w3.heap.size + 1) (by simp) ?_; intro gg cap w4 hown2 hgrow hat hlt4;
                    have hT := RInv.told HPB.out HBL.out HSZ.out HROW.out HE.out HNE.out HL.out HR1.out HG1.out hgrow hown2 HP.out HO.out (Nat.le_trans (Nat.le_of_eq HL.out) f1) HOR.out HEQ.out HNX.out; have HT := Lib.hid hT; obtain ⟨x0, x1⟩ := pb_at hT.pb HPE.out; clear hT hgrow hown2 hat hlt4)))
            clear hw
            go_wp2
            go_roundw
            case rel => exact ⟨k + 1, p0 + 1, p1 + 1, _, by omega, by go_num, by go_num, by go_num, HT.out⟩
            case measure => simp [intOf]; omega
      · obtain rfl : i = p0 := by omega
        obtain rfl : j = p1 := by omega
        have HI2 : Hid (RInv w h g a b pl (k + 1) (i + 1) (j + 1) es (.slice Ar ne cr) wr) := Lib.hid (by
          have h1 := HEQ.out
          rw [one_self, List.append_nil] at h1
          exact ⟨⟨xs, by rw [HNE.out]; exact HROW.out, HE.out⟩, HPB.out, HBL.out, HNX.out, h1⟩)
        go_wp2
        go_roundw
        case rel => exact ⟨k + 1, i + 1, j + 1, es, by omega, by go_num, by go_num, by go_num, HI2.out⟩
        case measure => simp [intOf]; omega
    · have hes := I.last (by have := HM1.out; rw [HNN.out]; omega)
      obtain ⟨xs, hrow, hE⟩ := I.row
      obtain ⟨Ar, cr, rfl, hcr, hrd⟩ := rdE_own hrow hE rfl
      have hbl := I.bl
      have HNH := Lib.hid (newHi_own hrow hE rfl)
      clear I hrow hE HI0
      rw [hes] at hcr hrd ⊢
      go_wp2
      go_ret
      exact ⟨Ar, cr, rfl, hcr, hrd, by have h1 := HNH.out; rw [hes] at h1; rw [HH.out]; exact h1, by rw [HH.out]; exact hbl⟩

theorem refEdits (A A' : Option Addr) (c c' n m B : Nat) (a b : List (List UInt8)) (w : World) (hn : a.length = n) (hm : b.length = m) (hmc : m ≤ c') (hln : n ≤ 1000) (hlm : m ≤ 1000) (hB : B ≤ w.heap.size)
    (hR : RdS w B A a) (hR' : RdS w B A' b) :
    Calls Try.prog 69 #[.slice A n c, .slice A' m c'] w (EditsEnd w (edits a b)) :=
  (refEditsH A A' c c' n m B a b w hn hm hmc hln hlm hB hR hR').mono fun e w' h => h.end_

end Df
end Go.Proofs.Ytjhjmfodpnipiaa
