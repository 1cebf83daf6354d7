/-
  What Join of layer 1 returns for every list of lines (walk).
-/
import Derived.Test.YtobpdamfobldcaaTxSame
import Derived.Lib.AppendStr
namespace Go.Proofs.Ytobpdamfobldcaa
open Go.RowKit Go.Shelf
set_option linter.unusedVariables false
namespace Tx

/-- The bytes of lines: each with a line feed behind it. -/
def joinL (ls : List (List UInt8)) : List UInt8 := ls.flatMap fun l => l ++ [10]
theorem joinL_snoc (ls : List (List UInt8)) (x : List UInt8) : joinL (ls ++ [x]) = joinL ls ++ x ++ [10] := by simp [joinL]
theorem joinL_len {ls : List (List UInt8)} (h : ∀ x ∈ ls, x.length ≤ 80) : (joinL ls).length ≤ 81 * ls.length := by
  induction ls with
  | nil => simp [joinL]
  | cons x ls ih =>
    have h1 := h x (by simp)
    have h2 := ih (fun y hy => h y (by simp [hy]))
    have : joinL (x :: ls) = x ++ [10] ++ joinL ls := by simp [joinL]
    rw [this]
    simp only [List.length_append, List.length_cons, List.length_nil]
    omega

def joinE (ls : List (List UInt8)) : Int := if allMay ls then 0 else 1
def joinB (ls : List (List UInt8)) : List UInt8 := if allMay ls then joinL ls else []

def JoinPost (w : World) (bs : List UInt8) (er : Int) (e : Ending) (w' : World) : Prop :=
  ∃ v, e = .returned (.tuple #[v, .int .i64 er]) ∧ w'.ownsRow w.heap.size 5 1 v bs.length (bs.map byteV) ∧ Below w.heap.size w w'

theorem info_byte : (Try.prog.info? 5).map (fun i => (i.zero, i.size, i.bytes)) = some (some (.int .u8 0), 1, 1) := by kernel_rfl

theorem own_ge {w : World} {base e size n : Nat} {v : Value} {xs : List Value} (h : w.ownsRow base e size v n xs) : ∀ k, v.ownBlock = some k → base ≤ k := by
  intro k hk
  rcases h.2 with ⟨rfl, _⟩ | ⟨g, cap, _, rfl, hb, _⟩
  · simp [Value.ownBlock] at hk
  · have : g = k := by simpa [Value.ownBlock] using hk
    omega

theorem may_len {x : List UInt8} (h : may x = true) : x.length ≤ 80 := by
  unfold may at h
  simp only [Bool.and_eq_true, decide_eq_true_eq] at h
  exact h.1
theorem allMay_parts {ls : List (List UInt8)} (h : allMay ls = true) : ls.length ≤ 200 ∧ ∀ x ∈ ls, may x = true := by
  unfold allMay at h
  simp only [Bool.and_eq_true, decide_eq_true_eq, List.all_eq_true] at h
  exact h

/-- At the head of Join's loop. -/
def JoinRel (w : World) (ls : List (List UInt8)) (n : Nat) (v i : Value) (wr : World) : Prop :=
  ∃ k : Nat, k ≤ n ∧ i = .int .i64 k ∧ wr.ownsRow w.heap.size 5 1 v (joinL (ls.take k)).length ((joinL (ls.take k)).map byteV) ∧ Below w.heap.size w wr

theorem strCells_eq (x : List UInt8) : Lib.strCells ⟨x.toArray⟩ = x.map byteV := by simp [Lib.strCells, byteV]

/-- One round of Join: a line and a line feed behind. -/
theorem join_round {w wr w1 w2 : World} {ls : List (List UInt8)} {k : Nat} (hk : k < ls.length) {v v1 v2 : Value} {tmp : Obj}
    (hB : Below w.heap.size w wr) (hown : wr.ownsRow w.heap.size 5 1 v (joinL (ls.take k)).length ((joinL (ls.take k)).map byteV))
    (h1 : w1.ownsRow w.heap.size 5 1 v1 ((joinL (ls.take k)).length + (ByteArray.mk ls[k].toArray).size) ((joinL (ls.take k)).map byteV ++ Lib.strCells ⟨ls[k].toArray⟩)) (g1 : wr.grownBy w1 v.ownBlock)
    (h2 : w2.ownsRow w.heap.size 5 1 v2 ((joinL (ls.take k)).length + (ByteArray.mk ls[k].toArray).size + 1) ((joinL (ls.take k)).map byteV ++ Lib.strCells ⟨ls[k].toArray⟩ ++ [.int .u8 10])) (g2 : (w1.alloc tmp).grownBy w2 v1.ownBlock) :
    w2.ownsRow w.heap.size 5 1 v2 (joinL (ls.take (k + 1))).length ((joinL (ls.take (k + 1))).map byteV) ∧ Below w.heap.size w w2 := by
  have hb1 : Below w.heap.size w w1 := hB.grown g1 hB.size (own_ge hown)
  have hb2 : Below w.heap.size w w2 := (hb1.alloc hb1.size tmp).grown g2 (by have := hb1.size; simp; omega) (own_ge h1)
  refine ⟨?_, hb2⟩
  have e1 : joinL (ls.take (k + 1)) = joinL (ls.take k) ++ ls[k] ++ [10] := by rw [take_snoc' hk, joinL_snoc]
  have e2 : (joinL (ls.take (k + 1))).length = (joinL (ls.take k)).length + (ByteArray.mk ls[k].toArray).size + 1 := by rw [e1, size_strV]; simp; omega
  have e3 : (joinL (ls.take (k + 1))).map byteV = (joinL (ls.take k)).map byteV ++ Lib.strCells ⟨ls[k].toArray⟩ ++ [.int .u8 10] := by rw [e1, strCells_eq]; simp [byteV]
  rw [e2, e3]
  exact h2

theorem join_end {w wr : World} {ls : List (List UInt8)} {k : Nat} {v : Value} (hk : ls.length ≤ k) (hown : wr.ownsRow w.heap.size 5 1 v (joinL (ls.take k)).length ((joinL (ls.take k)).map byteV)) (hB : Below w.heap.size w wr) :
    JoinPost w (joinL ls) 0 (.returned (.tuple #[v, .int .i64 0])) wr := by
  rw [List.take_of_length_le hk] at hown
  exact ⟨v, rfl, hown, hB⟩

set_option maxHeartbeats 1000000 in
theorem join_yes (A : Option Addr) (cap n : Nat) (ls : List (List UInt8)) (w : World) (hn : ls.length = n) (hR : RdS w w.heap.size A ls) (ha : allMay ls = true) :
    Calls Try.prog 13 #[.slice A n cap] w (JoinPost w (joinL ls) 0) := by
  obtain ⟨i0, hi, hz0, hz1, hz2⟩ := info_parts info_byte
  have hparts := allMay_parts ha
  have hn200 : n ≤ 200 := by rw [← hn]; exact hparts.1
  have HP := Lib.hid hparts; clear hparts
  have HA := Lib.hid ha; clear ha
  have HN := Lib.hid hn; clear hn
  go_enter Try.func13, Try.ntmps13
  go_wp2_with fail
  refine (All _ _ _ _ ls _ HN.out hR).mono ?_
  rintro e w' ⟨rfl, rfl⟩
  rw [HA.out]
  go_wp2
  go_loopw [4, 12] (fun v i wr => JoinRel w ls n v i wr) (fun _ i _ => n - (intOf i).toNat)
  case atStart => exact ⟨0, Nat.zero_le _, rfl, by simpa [joinL] using World.ownsRow_nil _ _ _ _, Below.refl _ _⟩
  case round =>
    obtain ⟨k, hk, rfl, hown, hB⟩ := hrel
    by_cases hlt : k < n
    · have hkl : k < ls.length := by rw [HN.out]; exact hlt
      have hRw : RdS wr w.heap.size A ls := hR.below hB
      obtain ⟨a, rfl, hcell⟩ := hRw.at' hkl
      have HJ : Hid ((joinL (ls.take k)).length ≤ 81 * k ∧ (ByteArray.mk ls[k].toArray).size ≤ 80) := Lib.hid ⟨by
          have := joinL_len (ls := ls.take k) (fun x hx => may_len (HP.out.2 x (List.mem_of_mem_take hx)))
          rw [List.length_take] at this; omega, by rw [size_strV]; exact may_len (HP.out.2 _ (List.getElem_mem hkl))⟩
      have hw := hB.size
      go_wp2_with (first
        | (at_builtin; refine Lib.wpList_append_own_string _ rfl _ _ 22 9 rfl w.heap.size 5 i0 Try.underlying22 Try.underlying9 hi hz0 hz1 hz2 _ _ _ rfl hown ⟨ls[k].toArray⟩ rfl (by have := HJ.out; unfold maxLen; omega) (by have := HJ.out; omega) hw ?_; intro v1 w1 hown1 hgrow1 _)
        | (at_builtin; refine wpList_append_own _ rfl _ _ 22 rfl w.heap.size 5 i0 (.int .u8 0) 1 1 Try.underlying22 hi hz0 hz1 hz2 rfl (by decide) _ _ _ rfl (hown1.alloc _) ⟨w1.heap.size, 0, none⟩ 1 1 [.int .u8 10] rfl rfl (cell_one_new _ _ _) (by simp [Value.oneCell']) (by have := HJ.out; unfold maxLen; omega) (by have := HJ.out; omega) (by have := hgrow1.size; simp; omega) ?_; intro v2 w2 hown2 hgrow2 _))
      obtain ⟨hn1, hn2⟩ := join_round hkl hB hown hown1 hgrow1 hown2 hgrow2
      exact ⟨⟨k + 1, by omega, by go_num, hn1, hn2⟩, by simp [intOf]; omega⟩
    · have HF := Lib.hid (join_end (by rw [HN.out]; omega) hown hB)
      go_wp2
      go_ret2
      exact HF.out

set_option maxHeartbeats 400000 in
theorem join_no (A : Option Addr) (cap n : Nat) (ls : List (List UInt8)) (w : World) (hn : ls.length = n) (hR : RdS w w.heap.size A ls) (ha : allMay ls = false) :
    Calls Try.prog 13 #[.slice A n cap] w (JoinPost w [] 1) := by
  have HA := Lib.hid ha; clear ha
  have HN := Lib.hid hn; clear hn
  go_enter Try.func13, Try.ntmps13
  go_wp2_with fail
  refine (All _ _ _ _ ls _ HN.out hR).mono ?_
  rintro e w' ⟨rfl, rfl⟩
  rw [HA.out]
  go_wp2
  go_ret2
  exact ⟨_, rfl, World.ownsRow_nil _ _ _ _, Below.refl _ _⟩

/-- What Join answers, for every list of lines. -/
theorem Join (A : Option Addr) (cap n : Nat) (ls : List (List UInt8)) (w : World) (hn : ls.length = n) (hR : RdS w w.heap.size A ls) :
    Calls Try.prog 13 #[.slice A n cap] w (JoinPost w (joinB ls) (joinE ls)) := by
  unfold joinB joinE
  cases ha : allMay ls with
  | true => exact join_yes A cap n ls w hn hR ha
  | false => exact join_no A cap n ls w hn hR ha

end Tx
end Go.Proofs.Ytobpdamfobldcaa
