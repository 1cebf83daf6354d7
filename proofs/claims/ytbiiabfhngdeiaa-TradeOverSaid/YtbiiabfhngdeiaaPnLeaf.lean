/-
  What package patch's Less, mayId and Find, the document's own Less, id and Find, and the law's Light and Few return (walks).
-/
import Derived.Test.YtbiiabfhngdeiaaGN
import Derived.Test.YtbiiabfhngdeiaaFlRef
import Derived.Laws.StructEq
import Derived.BigQuiet
set_option maxRecDepth 100000
namespace Go.Proofs.Ytbiiabfhngdeiaa
open Go.RowKit
set_option linter.unusedVariables false
set_option linter.unusedSimpArgs false
namespace Pn
open Tx Df Sq Hk Tr Pr Fl

abbrev idV (x : Id_) : Value := .agg #[.int .i64 x.1, .int .i64 x.2]
/-- Whether two ids are the same. -/
theorem eq_id (a b c d : Int) (w : World) : (Op.equalIn 10000 24 (.agg #[.int .i64 a, .int .i64 b]) (.agg #[.int .i64 c, .int .i64 d])).run Try.prog w = .ok (decide ((a, b) = (c, d))) w := by
  rw [show (10000 : Nat) = 9999 + 1 from rfl]
  go_simp
  by_cases h1 : a = c <;> by_cases h2 : b = d <;> simp [h1, h2]
theorem okI_iff {x y : Int} : okI (x, y) = true ↔ (0 ≤ x ∧ x < 8) ∧ (1 ≤ y ∧ y ≤ 1048576) := by
  unfold okI
  simp only [Bool.and_eq_true, decide_eq_true_eq]
theorem lessI_iff' {a b c d : Int} : lessI (a, b) (c, d) = true ↔ a < c ∨ (a = c ∧ b < d) := lessI_iff

/-- Is a patch light? -/
def lightN (p : Nm) (most : Nat) : Bool := fewP p.l most && (decide (p.deps.length ≤ 100) && decide (p.txt.length ≤ 200))
def fewN (l : List Nm) (most : Nat) : Bool := decide (l.length ≤ most) && l.all (lightN · 10)
theorem fewN_no {l : List Nm} {x : Nm} {k most : Nat} (hx : l[k]? = some x) (h : lightN x 10 = false) : fewN l most = false := by
  have : l.all (lightN · 10) = false := by
    rw [List.all_eq_false]
    exact ⟨x, List.mem_of_getElem? hx, by rw [h]; decide⟩
  unfold fewN
  rw [this, Bool.and_false]

theorem lightN_len {p : Nm} {most : Nat} (h : lightN p most = true) : p.l.length ≤ most ∧ p.deps.length ≤ 100 := by
  unfold lightN fewP at h
  simp only [Bool.and_eq_true, decide_eq_true_eq] at h
  exact ⟨h.1.1, h.2.1⟩
theorem fewN_len {l : List Nm} {most : Nat} (h : fewN l most = true) : l.length ≤ most := by
  unfold fewN at h
  simp only [Bool.and_eq_true, decide_eq_true_eq] at h
  exact h.1
theorem fewN_all {l : List Nm} {most : Nat} (h : fewN l most = true) : ∀ x ∈ l, lightN x 10 = true := by
  unfold fewN at h
  rw [Bool.and_eq_true, List.all_eq_true] at h
  exact h.2
theorem okP_light {x : Ch} (h : okP x = true) : lightP x = true := by
  unfold okP at h
  rw [Bool.and_eq_true] at h
  exact h.1
/-- All changes of a few light patches: not many, and light. -/
theorem allN_few : ∀ {l : List Nm}, (∀ x ∈ l, lightN x 10 = true) → (allN l).length ≤ l.length * 10 ∧ ∀ x ∈ allN l, lightP x = true
  | [], _ => ⟨Nat.le_refl _, fun x hx => by cases hx⟩
  | p :: l, h => by
    obtain ⟨h1, h2⟩ := allN_few fun x hx => h x (.tail _ hx)
    have hp := h p (.head _)
    have hl := (lightN_len hp).1
    rw [allN_cons]
    refine ⟨by rw [List.length_append, List.length_cons]; omega, fun x hx => ?_⟩
    rcases List.mem_append.1 hx with hx | hx
    · unfold lightN fewP at hp
      simp only [Bool.and_eq_true, decide_eq_true_eq, List.all_eq_true] at hp
      exact okP_light (hp.1.2 x hx)
    · exact h2 x hx

set_option maxHeartbeats 2000000 in
theorem LightN (D : Option Addr) (dn dc : Nat) (A : Option Addr) (n c most : Nat) (p : Nm) (w : World) (b : Bool) (hm : most ≤ 1000) (hv : NV w w.heap.size D dn dc A n c p) (hb : lightN p most = b) :
    Calls Try.prog 21 #[nmV p.id D dn dc p.txt A n c, .int .i64 (most : Int)] w (BoolEnd w b) := by
  obtain ⟨id, ds, t, l⟩ := p
  have HV := Lib.hid hv; have HB := Lib.hid hb.symm
  have HBX := Lib.hid (Blk.new w 28 #[.int .i64 id.1, .int .i64 id.2, .slice D dn dc, strV t, .slice A n c])
  have hba : Below w.heap.size w (w.alloc (.cells #[.int .i64 id.1, .int .i64 id.2, .slice D dn dc, strV t, .slice A n c] 28)) := (Below.refl _ _).alloc (Nat.le_refl _) _
  have HBA := Lib.hid hba
  have HTL := Lib.hid (size_strV t)
  clear hv hb hba
  dsimp only
  go_enter Try.func21, Try.ntmps21
  go_wp2_with fail
  obtain ⟨bl, hbl⟩ : ∃ b, fewP l most = b := ⟨_, rfl⟩
  have hv := HV.out.mv HBA.out
  refine (Fl.Few A n c most l _ bl hm ⟨hv.l, hv.k, hv.m, hv.r⟩ hbl).mono ?_
  rintro e w2 ⟨rfl, hb2⟩
  have HBL := Lib.hid hbl
  have hbw := below_mv HBA.out hb2
  have HBW := Lib.hid hbw
  have b2 := HBX.out.below hb2 HBX.out.lt
  have x1 := b2.cell 2 rfl
  have x2 := b2.cell 3 rfl
  have HDL := Lib.hid hv.dl
  clear hbl hv hb2 hbw b2
  cases bl with
  | false =>
    go_wp2
    go_ret
    exact ⟨ret_bool (by rw [HB.out]; unfold lightN; rw [HBL.out]; rfl), HBW.out⟩
  | true =>
    go_wp2
    all_goals go_ret
    all_goals refine ⟨ret_bool ?_, HBW.out⟩
    all_goals rw [HB.out]; unfold lightN; rw [HBL.out]; dsimp only at HDL ⊢; rw [HDL.out]
    all_goals rw [Bool.true_and, Bool.eq_iff_iff]
    all_goals simp only [Bool.and_eq_true, decide_eq_true_eq, Bool.false_eq_true]
    all_goals constructor <;> intro hz
    all_goals first | omega | exact hz.elim | (exfalso; omega)

set_option maxHeartbeats 2000000 in
theorem FewN (A : Option Addr) (n c most : Nat) (l : List Nm) (w : World) (b : Bool) (hm : most ≤ 1000) (h : NmsArg w A n c l) (hb : fewN l most = b) :
    Calls Try.prog 9 #[.slice A n c, .int .i64 (most : Int)] w (BoolEnd w b) := by
  have HR := Lib.hid h.rd; have HN := Lib.hid h.len
  have HB := Lib.hid hb.symm
  have hle := h.le
  clear h hb
  unfold maxLen at hle
  go_enter Try.func9, Try.ntmps9
  by_cases h0 : (most : Int) < (n : Int)
  · go_wp2
    go_ret
    exact ⟨ret_bool (by rw [HB.out]; unfold fewN; rw [HN.out, decide_eq_false (by omega)]; rfl), Below.refl _ _⟩
  · go_wp2
    go_loopw [5] (fun i wr => ∃ k : Nat, k ≤ n ∧ i = .int .i64 (k : Int) ∧ (l.take k).all (lightN · 10) = true ∧ Below w.heap.size w wr) (fun i _ => n - (intOf i).toNat)
    case atStart => exact ⟨0, Nat.zero_le _, rfl, rfl, Below.refl _ _⟩
    case round =>
      obtain ⟨k, hk, rfl, hall, hbw⟩ := hrel
      have HBW := Lib.hid hbw; have HAL := Lib.hid hall; clear hbw hall
      by_cases hlt : k < n
      · have hki : (k : Int) < (n : Int) := by omega
        obtain ⟨a, x, D, i, j, E, m, d, rfl, hS, hx, c0, c1, c2, c3, c4, c5⟩ := ((HR.out.mv HBW.out).elem (k := k) (by rw [HN.out]; exact hlt))
        have HX := Lib.hid hx; have HP := Lib.hid c5; clear hx c5 hS
        go_wp2_with fail
        obtain ⟨bl, hbl⟩ : ∃ b, lightN x 10 = b := ⟨_, rfl⟩
        refine (LightN D i j E m d 10 x _ bl (by decide) HP.out hbl).mono ?_
        rintro e w2 ⟨rfl, hb2⟩
        have HBL := Lib.hid hbl; clear hbl
        have hbw2 := below_mv HBW.out hb2
        have HBW2 := Lib.hid hbw2; clear hbw2 c0 c1 c2 c3 c4 hb2
        cases bl with
        | false =>
          go_wp2
          go_ret
          exact ⟨ret_bool (by rw [HB.out, fewN_no HX.out HBL.out]), HBW2.out⟩
        | true =>
          go_wp2_with fail
          refine ⟨⟨k + 1, by omega, by go_num, ?_, HBW2.out⟩, by simp [intOf]; omega⟩
          rw [take_at HX.out, List.all_append, HAL.out]
          simp [HBL.out]
      · go_wp2
        go_ret
        refine ⟨ret_bool ?_, HBW.out⟩
        have ek : l.take k = l := List.take_of_length_le (by rw [HN.out]; omega)
        have hall := HAL.out
        rw [ek] at hall
        rw [HB.out]
        unfold fewN
        rw [hall, HN.out, decide_eq_true (by omega)]
        rfl

/-! Find. -/
theorem findN_at {l : List Nm} {id : Id_} {k : Nat} {x : Nm} (hx : l[k]? = some x) (h : x.id = id) (hb : ∀ (j : Nat) (y : Nm), l[j]? = some y → j < k → y.id ≠ id) : findN l id = (k : Int) := by
  have key : l.findIdx? (fun p => decide (p.id = id)) = some k := by
    rw [List.findIdx?_eq_some_iff_getElem]
    obtain ⟨hk, e⟩ := List.getElem?_eq_some_iff.1 hx
    refine ⟨hk, by rw [e]; exact decide_eq_true h, fun j hj => ?_⟩
    have := hb j _ (List.getElem?_eq_getElem (by omega)) hj
    simpa using this
  unfold findN
  rw [key]
theorem findN_no {l : List Nm} {id : Id_} (h : ∀ (j : Nat) (y : Nm), l[j]? = some y → y.id ≠ id) : findN l id = -1 := by
  have key : l.findIdx? (fun p => decide (p.id = id)) = none := by
    rw [List.findIdx?_eq_none_iff]
    intro x hx
    obtain ⟨j, hj⟩ := List.getElem?_of_mem hx
    exact decide_eq_false (h j x hj)
  unfold findN
  rw [key]

theorem findN_le (l : List Nm) (id : Id_) : -1 ≤ findN l id ∧ findN l id < (l.length : Int) := by
  unfold findN
  cases h : l.findIdx? (fun p => decide (p.id = id)) with
  | none => dsimp only; omega
  | some k =>
    rw [List.findIdx?_eq_some_iff_getElem] at h
    obtain ⟨hk, _⟩ := h
    dsimp only
    omega
attribute [local go_sem] eq_id
end Pn
end Go.Proofs.Ytbiiabfhngdeiaa
