/-
  The statement LcsPairs: for every two lists of lines the law returns true, and both read as they did. No conditions.
-/
import Derived.Test.YtpogppkiccnoaaaLcLaw
namespace Go.Proofs.Ytpogppkiccnoaaa
open Go.RowKit
set_option linter.unusedVariables false
namespace Lc
open Tx

theorem cellsP_at : ∀ (l : List (Nat × Nat)) {i : Nat} (h : i < l.length), (cellsP l)[i * 2]? = some (.int .i64 (l[i].1 : Int)) ∧ (cellsP l)[i * 2 + 1]? = some (.int .i64 (l[i].2 : Int))
  | p :: l, 0, _ => by simp [cellsP]
  | p :: l, i + 1, h => by
    have := cellsP_at l (i := i) (by simpa using h)
    rw [show (i + 1) * 2 = i * 2 + 2 by omega]
    simpa [cellsP] using this
theorem cellsP_length (l : List (Nat × Nat)) : (cellsP l).length = l.length * 2 := by
  induction l with
  | nil => rfl
  | cons p l ih =>
    have e : cellsP (p :: l) = .int .i64 (p.1 : Int) :: .int .i64 (p.2 : Int) :: cellsP l := rfl
    rw [e]; simp only [List.length_cons, ih]; omega

/-- Where the pairs of a list lie. -/
theorem pairs_cells {w : World} {base n : Nat} {v : Value} {l : List (Nat × Nat)} (h : w.ownsRow base 30 2 v n (cellsP l)) (hn : l.length = n) :
    ∃ A c, v = .slice A n c ∧ ∀ i (hi : i < l.length), ∃ g, A = some ⟨g, 0, none⟩ ∧ g < w.heap.size ∧ w.cell? ⟨g, i * 2, none⟩ = some (.int .i64 (l[i].1 : Int)) ∧ w.cell? ⟨g, i * 2 + 1, none⟩ = some (.int .i64 (l[i].2 : Int)) := by
  rcases h.2 with ⟨rfl, rfl⟩ | ⟨g, cap, cur, rfl, _, hg, _⟩
  · exact ⟨none, 0, rfl, fun i hi => by omega⟩
  · refine ⟨_, cap, rfl, fun i hi => ⟨g, rfl, (h.lt g rfl).2, ?_, ?_⟩⟩
    · rw [h.cellAt _ (by omega)]; exact (cellsP_at l hi).1
    · rw [h.cellAt _ (by omega)]; exact (cellsP_at l hi).2

/-- What is told of pairs: they are within both lists, of lines that are the same, and rise. -/
theorem pairs_ok {a b : List (List UInt8)} {pl : List (Nat × Nat)} (e : pairs a b = pl) {i : Nat} (hi : i < pl.length) : ∃ (h1 : pl[i].1 < a.length) (h2 : pl[i].2 < b.length), a[pl[i].1] = b[pl[i].2] := by
  subst e
  have h := (prs_ok _ 0 0 a b (Nat.le_refl _)).1 _ (List.getElem_mem (l := pairs a b) hi)
  obtain ⟨_, _, h1, h2, h3⟩ := h
  have h1' : (pairs a b)[i].1 < a.length := by omega
  have h2' : (pairs a b)[i].2 < b.length := by omega
  refine ⟨h1', h2', ?_⟩
  simp only [Nat.sub_zero] at h3
  rw [List.getElem?_eq_getElem h1', List.getElem?_eq_getElem h2'] at h3
  exact Option.some.inj h3
theorem pairs_rise {a b : List (List UInt8)} {pl : List (Nat × Nat)} (e : pairs a b = pl) {i : Nat} (hi : i + 1 < pl.length) : pl[i].1 < pl[i + 1].1 ∧ pl[i].2 < pl[i + 1].2 := by
  subst e
  have h : (pairs a b).Pairwise (fun p q => p.1 < q.1 ∧ p.2 < q.2) := (prs_ok _ 0 0 a b (Nat.le_refl _)).2
  exact List.pairwise_iff_getElem.1 h i (i + 1) (by omega) hi (by omega)

set_option maxRecDepth 100000 in
set_option maxHeartbeats 4000000 in
theorem lcsPairs_walk (A : Option Addr) (n c : Nat) (a : List (List UInt8)) (A1 : Option Addr) (n1 c1 : Nat) (b : List (List UInt8)) (w : World) (h : StrArg w A n c a) (h1 : StrArg w A1 n1 c1 b) :
    Calls Try.prog 4 #[.slice A n c, .slice A1 n1 c1] w (LawEnd w) := by
  go_enter Try.func4, Try.ntmps4
  go_wp2_with fail
  refine (awake w).mono ?_
  rintro e w1 ⟨rfl, hB1⟩
  go_wp2_with fail
  refine (Light _ _ _ _ 60 a _ h.len h.le (h.rd.below hB1) (by decide)).mono ?_
  rintro e w' ⟨rfl, rfl⟩
  go_wp2_with fail
  refine (Light _ _ _ _ 60 b _ h1.len h1.le (h1.rd.below hB1) (by decide)).mono ?_
  rintro e w' ⟨rfl, rfl⟩
  cases hl : light a 60 with
  | false =>
    clear hl
    go_wp2
    go_ret
    exact ⟨rfl, hB1⟩
  | true =>
  have hn := light_len hl h.len
  clear hl
  cases hl : light b 60 with
  | false =>
    clear hl
    go_wp2
    go_ret
    exact ⟨rfl, hB1⟩
  | true =>
  have hn1 := light_len hl h1.len
  clear hl
  have hle := lcs_le a b
  rw [h.len, h1.len] at hle
  have hpl := pairs_len a b
  obtain ⟨pl, hPL⟩ : ∃ pl, pairs a b = pl := ⟨_, rfl⟩
  obtain ⟨nl, hnl⟩ : ∃ nl, pl.length = nl := ⟨_, rfl⟩
  rw [hPL, hnl] at hpl
  rw [← hpl] at hle
  have HOK := Lib.hid (fun i (hi : i < pl.length) => pairs_ok hPL hi)
  have HRI := Lib.hid (fun i (hi : i + 1 < pl.length) => pairs_rise hPL hi)
  have HPL := Lib.hid hPL; clear hPL
  have HLC := Lib.hid hpl; clear hpl
  have HNL := Lib.hid hnl; clear hnl
  go_wp2_with fail
  refine (Pairs A A1 c c1 n n1 w.heap.size a b w1 h.len h1.len h.cap (by omega) (by omega) hB1.size (h.rd.below hB1) (h1.rd.below hB1)).mono ?_
  rw [HPL.out]
  rintro e w2 ⟨v, rfl, hrow, hb2⟩
  rw [HNL.out] at hrow
  obtain ⟨Ap, cp, rfl, hcells⟩ := pairs_cells hrow HNL.out
  have hB2 := hB1.trans (hb2.mono hB1.size)
  have HC := Lib.hid hcells; clear hcells hrow hb2
  obtain ⟨hle1, hle2⟩ := hle
  go_wp2
  go_loopw [9] (fun v9 wr => ∃ i : Nat, i ≤ nl ∧ v9 = .int .i64 (i : Int) ∧ Below w2.heap.size w2 wr) (fun v9 _ => nl - (intOf v9).toNat)
  case atStart => exact ⟨0, Nat.zero_le _, rfl, Below.refl _ _⟩
  case round =>
    obtain ⟨i, hi, rfl, hbr⟩ := hrel
    by_cases hlt : i < nl
    · have hip : i < pl.length := by rw [HNL.out]; exact hlt
      obtain ⟨g, rfl, hg, hc0, hc1⟩ := HC.out i hip
      obtain ⟨k1, k2, k3⟩ := HOK.out i hip
      have hBr := hB2.trans (hbr.mono hB2.size)
      have hd0 := (hbr.cell (p := ⟨g, i * 2, none⟩) hg).trans hc0
      have hd1 := (hbr.cell (p := ⟨g, i * 2 + 1, none⟩) hg).trans hc1
      obtain ⟨pa, rfl, hca⟩ := RdS.at' (h.rd.below hBr) k1
      obtain ⟨pb, rfl, hcb⟩ := RdS.at' (h1.rd.below hBr) k2
      have heq : (a[pl[i].1] == b[pl[i].2]) = true := by simpa using k3
      have hne : (a[pl[i].1] != b[pl[i].2]) = false := by simpa using k3
      rw [h.len] at k1
      rw [h1.len] at k2
      by_cases hi0 : i = 0
      · subst hi0
        generalize a[pl[0].1] = x at *
        generalize b[pl[0].2] = y at *
        generalize pl[0].1 = p0 at *
        generalize pl[0].2 = p1 at *
        have hal := fun (o : Obj) (q : Addr) (u : Value) (hq : wr.cell? q = some u) => (((Below.refl _ wr).alloc (Nat.le_refl _) o).cell (p := q) (World.block_lt_of_cell? wr q hq)).trans hq
        have f1 : decide ((p0 : Int) < 0) = false := decide_eq_false (by omega)
        have f2 : decide ((p1 : Int) < 0) = false := decide_eq_false (by omega)
        have f3 : decide ((n : Int) ≤ (p0 : Int)) = false := decide_eq_false (by omega)
        have f4 : decide ((n1 : Int) ≤ (p1 : Int)) = false := decide_eq_false (by omega)
        have f5 : decide (n ≤ p0) = false := decide_eq_false (by omega)
        have f6 : decide (n1 ≤ p1) = false := decide_eq_false (by omega)
        have f7 : (p0 : Int) < (n : Int) := by omega
        have f8 : (p1 : Int) < (n1 : Int) := by omega
        have hca' := fun o => hal o _ _ hca
        have hcb' := fun o => hal o _ _ hcb
        clear hal
        go_wp2
        go_quiet (fail)
        go_wp2
        exact ⟨⟨1, by omega, rfl, below_drewN (hbr.alloc hbr.size _) nq⟩, by simp [intOf]; omega⟩
      · obtain ⟨j, rfl⟩ : ∃ j, i = j + 1 := ⟨i - 1, by omega⟩
        have hri := HRI.out j hip
        obtain ⟨g', eg, _, hp0, hp1⟩ := HC.out j (by omega)
        injection eg with eg
        injection eg with eg
        subst eg
        have hq0 := (hbr.cell (p := ⟨g, j * 2, none⟩) hg).trans hp0
        have hq1 := (hbr.cell (p := ⟨g, j * 2 + 1, none⟩) hg).trans hp1
        generalize a[pl[j + 1].1] = x at *
        generalize b[pl[j + 1].2] = y at *
        generalize pl[j + 1].1 = p0 at *
        generalize pl[j + 1].2 = p1 at *
        generalize pl[j].1 = r0 at *
        generalize pl[j].2 = r1 at *
        generalize hji : j + 1 = i at *
        have hj : (i : Int) - 1 = (j : Int) := by omega
        have hjw : IntKind.i64.wrap ((i : Int) - 1) = (j : Int) := by rw [hj]; exact IntWalk.i64_in _ (by omega)
        have HJI := Lib.hid hji; clear hji
        have hal := fun (o : Obj) (q : Addr) (u : Value) (hq : wr.cell? q = some u) => (((Below.refl _ wr).alloc (Nat.le_refl _) o).cell (p := q) (World.block_lt_of_cell? wr q hq)).trans hq
        have f1 : decide ((p0 : Int) < 0) = false := decide_eq_false (by omega)
        have f2 : decide ((p1 : Int) < 0) = false := decide_eq_false (by omega)
        have f3 : decide ((n : Int) ≤ (p0 : Int)) = false := decide_eq_false (by omega)
        have f4 : decide ((n1 : Int) ≤ (p1 : Int)) = false := decide_eq_false (by omega)
        have f5 : decide (n ≤ p0) = false := decide_eq_false (by omega)
        have f6 : decide (n1 ≤ p1) = false := decide_eq_false (by omega)
        have f7 : (p0 : Int) < (n : Int) := by omega
        have f8 : (p1 : Int) < (n1 : Int) := by omega
        have hca' := fun o => hal o _ _ hca
        have hcb' := fun o => hal o _ _ hcb
        have hq0' := fun o => hal o _ _ hq0
        have hq1' := fun o => hal o _ _ hq1
        clear hal
        have f9 : decide ((0 : Int) < (i : Int)) = true := decide_eq_true (by omega)
        have f10 : decide (0 < i) = true := decide_eq_true (by omega)
        have f11 : decide (p0 ≤ r0) = false := decide_eq_false (by omega)
        have f12 : decide (p1 ≤ r1) = false := decide_eq_false (by omega)
        have f13 : (j : Int) < (nl : Int) := by omega
        have f14 : (0 : Int) ≤ (j : Int) := by omega
        go_wp2
        go_quiet (fail)
        clear hj hjw f1 f2 f3 f4 f5 f6 f7 f8 f9 f10 f11 f12 f13 f14
        go_wp2
        exact ⟨⟨i + 1, by omega, by go_num, below_drewN (hbr.alloc hbr.size _) nq⟩, by simp [intOf]; omega⟩
    · obtain rfl : i = nl := by omega
      have hBr := hB2.trans (hbr.mono hB2.size)
      go_wp2_with fail
      refine (Many A A1 c c1 n n1 w.heap.size a b wr h.len h1.len (by omega) (by omega) hBr.size (h.rd.below hBr) (h1.rd.below hBr)).mono ?_
      rw [← HLC.out]
      rintro e w3 ⟨rfl, hb3⟩
      go_wp2
      go_ret
      exact ⟨rfl, hBr.trans (hb3.mono hBr.size)⟩

end Lc
open Tx Lc
open Go.ChangeShapes Go.WideShapes Go.ChangeAt

theorem lcsPairs_own : ownKnob Try.prog.godebug = none := by kernel_rfl
theorem lcsPairs_laidOut : laidOutB Try.prog = true := by kernel_rfl

set_option maxRecDepth 100000 in
theorem lcsPairs_lifted (os : Os) (started : os.Started) (H : Type) (enc : TypeId × Value → H) :
    ReturnsInHanded {} Try.checked os 4 .any (Rows.lcsPairsSpec.pre6 enc Try.prog Try.f4 Rows.lcsPairsRow.domain false) (Rows.lcsPairsSpec.post enc Try.prog Try.f4 false true false false) := by
  refine returnsInHanded_of_change (C := Try.checked) lcsPairs_own started (by kernel_rfl) Try.func4
    (ChangeSpec.witness6 (enc := enc) (C := Try.checked) false ⟨#[], #[.slice none 0 0, .slice none 0 0], []⟩ 8 (by kernel_rfl) (by kernel_rfl) (by kernel_rfl) (by kernel_rfl)) ?_
  intro W base args ds gs before hval0 hW hcnd _
  have hval : ∀ (j : Nat) t v, Try.f4.params[j]? = some t → args[j]? = some v → Value.okWide Try.prog W .any base t v := hval0
  have hW' := hW
  obtain ⟨p, q, hA0, hV, rfl, hfz, hnd⟩ := hW
  have hA : DataW.TrodAll enc Try.prog W 0 (fun _ => true) true Try.f4.params.toList args.toList ds p := hA0
  rw [Try.params4] at hA hval
  obtain ⟨v0, vs0, d0, ds0, p0, q0, hargs, rfl, rfl, h0, r0⟩ := trodAll_cons hA
  obtain ⟨v1, vs1, d1, ds1, p1, q1, rfl, rfl, rfl, h1, r1⟩ := trodAll_cons r0
  obtain ⟨rfl, rfl, rfl⟩ := trodAll_nil r1
  obtain rfl : args = #[v0, v1] := by cases args; simp_all
  obtain ⟨rfl, rfl⟩ := trodVars_none hV
  obtain ⟨a0, n0, c0, rfl⟩ := okWide_slice Try.underlying22 (hval 0 22 v0 rfl rfl)
  have k0 := h0
  have lt0 : ∀ x ∈ p0, x.block < W.heap.size := by obtain ⟨m, hm⟩ := k0; exact DataW.trod_lt m _ _ _ hm
  obtain ⟨l0, s0⟩ : ∃ l, StrArg W a0 n0 c0 l := by
    obtain ⟨fuel, hf⟩ := h0
    exact strs_in hf (by simp [Value.cells])
  obtain ⟨a1, n1, c1, rfl⟩ := okWide_slice Try.underlying22 (hval 1 22 v1 rfl rfl)
  have k1 := h1
  have lt1 : ∀ x ∈ p1, x.block < W.heap.size := by obtain ⟨m, hm⟩ := k1; exact DataW.trod_lt m _ _ _ hm
  obtain ⟨l1, s1⟩ : ∃ l, StrArg W a1 n1 c1 l := by
    obtain ⟨fuel, hf⟩ := h1
    exact strs_in hf (by simp [Value.cells])
  clear hA0 hval0
  refine (lcsPairs_walk a0 n0 c0 l0 a1 n1 c1 l1 W s0 s1).mono fun e W' ⟨he, bel⟩ => ?_
  subst he
  exact ⟨_, rfl, _, _, _, [], _, [], hW', trodAll_mk1 (shut_bool Try.underlying4 _), (trodAll_cons_mk (Below.trod lcsPairs_laidOut (by kernel_rfl) (of_decide_eq_true (by kernel_rfl)) k0 bel lt0) (trodAll_cons_mk (Below.trod lcsPairs_laidOut (by kernel_rfl) (of_decide_eq_true (by kernel_rfl)) k1 bel lt1) trodAll_mk0)), rfl, bel.frame _, fun h => by cases h⟩

/-- The statement. -/
theorem lcsPairs_proved : Rows.LcsPairsSaid :=
  OpenClaim.holds_of_wide 4 Try.f4 rfl rfl rfl rfl rfl rfl rfl ⟨rfl, rfl, rfl, rfl, rfl⟩ rfl rfl rfl rfl rfl (by kernel_rfl) Try.func4 (by kernel_rfl)
    (of_decide_eq_true (by kernel_rfl)) (by unfold Func.isWrapper; first | (rw [if_pos (by decide +kernel)]; kernel_rfl) | (rw [if_neg (by decide +kernel)]; exact ⟨rfl, rfl⟩))
    (fun os started H enc _ => lcsPairs_lifted os started H enc)

#print axioms lcsPairs_proved
end Go.Proofs.Ytpogppkiccnoaaa
