/-
  What slices.Index and Contains return over ids, and package trade's with (walks).
-/
import Derived.Test.YtbiiabfhngdeiaaTgMem
import Derived.Test.YtbiiabfhngdeiaaPnLeaf
import Derived.Deep.RegionWith
import Derived.Laws.StructEq
import Derived.BigQuiet
import Derived.Test.YtbiiabfhngdeiaaPnSame
set_option maxRecDepth 100000
namespace Go.Proofs.Ytbiiabfhngdeiaa
open Go.RowKit
set_option linter.unusedVariables false
set_option linter.unusedSimpArgs false
namespace Tg
open Tx Df Sq Hk Tr Pr Fl Pn

/-- Where an id stands first; -1: nowhere. -/
def findI (l : List Id_) (x : Id_) : Int := match l.findIdx? (fun y => decide (x = y)) with
  | some k => k
  | none => -1
theorem findI_at {l : List Id_} {x : Id_} {k : Nat} (hx : l[k]? = some x) (hb : ∀ (j : Nat) (y : Id_), l[j]? = some y → j < k → x ≠ y) : findI l x = (k : Int) := by
  have key : l.findIdx? (fun y => decide (x = y)) = some k := by
    rw [List.findIdx?_eq_some_iff_getElem]
    obtain ⟨hk, e⟩ := List.getElem?_eq_some_iff.1 hx
    refine ⟨hk, by rw [e]; exact decide_eq_true rfl, fun j hj => ?_⟩
    have := hb j _ (List.getElem?_eq_getElem (by omega)) hj
    simpa using this
  unfold findI
  rw [key]
theorem findI_no {l : List Id_} {x : Id_} (h : ∀ (j : Nat) (y : Id_), l[j]? = some y → x ≠ y) : findI l x = -1 := by
  have key : l.findIdx? (fun y => decide (x = y)) = none := by
    rw [List.findIdx?_eq_none_iff]
    intro y hy
    obtain ⟨j, hj⟩ := List.getElem?_of_mem hy
    exact decide_eq_false (h j y hj)
  unfold findI
  rw [key]
theorem findI_mem {l : List Id_} {x : Id_} : 0 ≤ findI l x ↔ x ∈ l := by
  unfold findI
  cases h : l.findIdx? (fun y => decide (x = y)) with
  | none =>
    rw [List.findIdx?_eq_none_iff] at h
    refine ⟨fun h => absurd h (by decide), fun hx => ?_⟩
    have := h x hx
    simp at this
  | some k =>
    rw [List.findIdx?_eq_some_iff_getElem] at h
    obtain ⟨hk, e, _⟩ := h
    have e := of_decide_eq_true e
    exact ⟨fun _ => e ▸ List.getElem_mem hk, fun _ => by dsimp only; omega⟩

attribute [local go_sem] eq_id
set_option maxHeartbeats 1000000 in
theorem IndexI (x : Id_) (A : Option Addr) (n c B : Nat) (l : List Id_) (w : World) (hn : l.length = n) (hln : n ≤ 1000000) (hB : B ≤ w.heap.size) (hR : RdI w B A l) :
    Calls Try.prog 38 #[.slice A n c, .agg #[.int .i64 x.1, .int .i64 x.2]] w (IntEnd w (findI l x)) := by
  obtain ⟨x, u⟩ := x
  have HN := Lib.hid hn; have HR := Lib.hid (Rd.up hR hB : RdI w w.heap.size A l)
  clear hn hR hB
  obtain ⟨iv, hiv⟩ : ∃ iv, findI l (x, u) = iv := ⟨_, rfl⟩
  rw [hiv]
  have HIV := Lib.hid hiv; clear hiv
  have b0 := Blk.new w 24 #[.int .i64 x, .int .i64 u]
  have hba : Below w.heap.size w (w.alloc (.cells #[.int .i64 x, .int .i64 u] 24)) := (Below.refl _ _).alloc (Nat.le_refl _) _
  have HB0 := Lib.hid b0; have HBA := Lib.hid hba
  clear b0 hba
  dsimp only
  go_enter Try.func38, Try.ntmps38
  go_wp2_with fail
  obtain ⟨w0, hw0⟩ : ∃ W, w.alloc (.cells #[.int .i64 x, .int .i64 u] 24) = W := ⟨_, rfl⟩
  obtain ⟨z, hz⟩ : ∃ z, w.heap.size = z := ⟨_, rfl⟩
  rw [hw0] at HB0 HBA ⊢
  rw [hz] at HB0 ⊢
  have HZ := Lib.hid hz
  clear hw0 hz
  have HR0 := Lib.hid (RdI.mv HR.out HBA.out)
  go_loopw [8] (fun i wr => ∃ k : Nat, k ≤ n ∧ i = .int .i64 (k : Int) ∧ (∀ (j : Nat) (y : Id_), l[j]? = some y → j < k → (x, u) ≠ y) ∧ Below w0.heap.size w0 wr) (fun i _ => n - (intOf i).toNat)
  case atStart => exact ⟨0, Nat.zero_le _, rfl, fun j _ _ hj => by omega, Below.refl _ _⟩
  case round =>
    obtain ⟨k, hk, rfl, hall, hbw⟩ := hrel
    have HA := Lib.hid hall; have HBW := Lib.hid hbw; clear hall hbw
    have HBE := Lib.hid (below_mv HBA.out HBW.out)
    by_cases hlt : k < n
    · have hki : (k : Int) < (n : Int) := by omega
      obtain ⟨a, y, rfl, hS, hy, c0, c1⟩ := ((RdI.mv HR0.out HBW.out).elem (k := k) (by rw [HN.out]; exact hlt))
      obtain ⟨y, v⟩ := y
      have HX := Lib.hid hy
      have bz := HB0.out.below HBW.out HB0.out.lt
      have z0 := bz.cell 0 rfl; have z1 := bz.cell 1 rfl; have hzl := bz.lt
      clear hy hS bz
      dsimp only at c0 c1
      by_cases e1 : x = y
      · subst e1
        by_cases e2 : u = v
        · subst e2
          have HE : Hid (iv = (k : Int)) := Lib.hid (by rw [← HIV.out]; exact findI_at HX.out HA.out)
          go_wp2
          go_quiet (fail)
          go_wp2
          go_ret
          exact ⟨by rw [HE.out]; rfl, below_drewN HBE.out _⟩
        · have e3 : (u == v) = false := by rw [beq_eq_false_iff_ne]; exact e2
          go_wp2
          go_quiet (fail)
          go_wp2
          refine ⟨⟨k + 1, by omega, by go_num, fun j y hy hj => ?_, below_drewN HBW.out _⟩, by simp [intOf]; omega⟩
          by_cases e : j = k
          · subst e
            have h1 := HX.out
            rw [h1] at hy
            injection hy with hy
            subst hy
            intro e; injection e with _ e; exact e2 e
          · exact HA.out j y hy (by omega)
      · have e3 : (x == y) = false := by rw [beq_eq_false_iff_ne]; exact e1
        go_wp2
        go_quiet (fail)
        go_wp2
        refine ⟨⟨k + 1, by omega, by go_num, fun j y hy hj => ?_, below_drewN HBW.out _⟩, by simp [intOf]; omega⟩
        by_cases e : j = k
        · subst e
          have h1 := HX.out
          rw [h1] at hy
          injection hy with hy
          subst hy
          intro e; injection e with e _; exact e1 e
        · exact HA.out j y hy (by omega)
    · have HE : Hid (iv = -1) := Lib.hid (by
        rw [← HIV.out]
        exact findI_no fun j y hy => HA.out j y hy (by have := (List.getElem?_eq_some_iff.1 hy).1; have := HN.out; omega))
      go_wp2
      go_ret
      exact ⟨by rw [HE.out]; rfl, HBE.out⟩
theorem ContainsI (x : Id_) (A : Option Addr) (n c B : Nat) (l : List Id_) (w : World) (b : Bool) (hn : l.length = n) (hln : n ≤ 1000000) (hB : B ≤ w.heap.size) (hR : RdI w B A l) (hb : decide (x ∈ l) = b) :
    Calls Try.prog 22 #[.slice A n c, .agg #[.int .i64 x.1, .int .i64 x.2]] w (BoolEnd w b) := by
  have HN := Lib.hid hn; have HR := Lib.hid hR; have HB := Lib.hid hb
  clear hn hR hb
  go_enter Try.func22, Try.ntmps22
  have hba : Below w.heap.size w (w.alloc (.cells #[.int .i64 x.1, .int .i64 x.2] 24)) := (Below.refl _ _).alloc (Nat.le_refl _) _
  go_wp2_with fail
  refine (IndexI x A n c B l _ HN.out hln (Nat.le_trans hB hba.size) (Rd.below HR.out (hba.mono hB))).mono ?_
  rintro e w1 ⟨rfl, hb1⟩
  have HB1 := Lib.hid (below_mv hba hb1); clear hb1 hba
  obtain ⟨i, hi⟩ : ∃ i, findI l x = i := ⟨_, rfl⟩
  have HI : Hid (decide (0 ≤ i) = b) := Lib.hid (by rw [← HB.out, ← hi]; exact decide_eq_decide.2 findI_mem)
  rw [hi]
  clear hi
  go_wp2
  go_ret
  exact ⟨ret_bool (by rw [← HI.out]), HB1.out⟩

end Tg
end Go.Proofs.Ytbiiabfhngdeiaa
