/-
  What the document's own lines of layer 13 return (walk): the changes of a file's lines, in memory that is new.
-/
import Derived.Test.YtjhjmfodpnipiaaNwComp
import Derived.Test.YtjhjmfodpnipiaaHkRefOf
import Derived.Test.YtjhjmfodpnipiaaTdWords
import Derived.Test.YtjhjmfodpnipiaaFlHi
import Derived.Deep.RegionHeld3
import Derived.Deep.RegionLaw
set_option maxRecDepth 100000
namespace Go.Proofs.Ytjhjmfodpnipiaa
open Go.RowKit
set_option linter.unusedVariables false
set_option linter.unusedSimpArgs false
namespace Nw
open Tx Df Sq Hk Tr Pr Fl

theorem map_snoc {hs : List HU} {k : Nat} {x : HU} {nm : List UInt8} (h : hs[k]? = some x) : (hs.take k).map (patchP nm) ++ [patchP nm x] = (hs.take (k + 1)).map (patchP nm) := by
  have := take_map_snoc (nm := nm) h []
  simpa using this

theorem wpList_ownS' {W : World} {ops : Array Oper} {rest : List Oper} {o : Oper} {a : Act} {Q : Exit → Act → World → Prop} {t : TypeId} (hgd : o.guard = none) (s x : Operand)
    (ho : o.op = .call { callee := .builtin .append, args := #[s, x], argTypes := #[t, t] }) (ht : Try.prog.underlying t = some (.slice 39))
    (S : Nat → Prop) (base m c : Nat) (v : Value) (A : Option Addr) (l u : List Ch) (ys : List Value) (hs : a.eval s = v) (hx : a.eval x = .slice A m c) (h : OwnS W S base v l) (hu : PCells W S u ys) (hyl : ys.length = u.length * 6) (hsrc : ∃ a, A = some a ∧ ∀ (j : Nat) x, ys[j]? = some x → W.cell? (a.add j) = some x)
    (hS : ∀ b, S b → some b ≠ v.ownBlock) (hm : u.length = m) (h0 : 0 < m) (hn : l.length + m ≤ 100000) (hbase : base ≤ W.heap.size)
    (hK : ∀ v' W', OwnS W' S base v' (l ++ u) → W.grownBy W' v.ownBlock → wpList Try.prog ops Q rest (a.put o.dst v') W') : wpList Try.prog ops Q (o :: rest) a W := by
  refine wpList_plain hgd fun K hK' => ?_
  obtain ⟨v', W', hrun, h2, h3⟩ := Td.run_ownS' (ty := o.type) (c := c) ht h hu hyl hsrc hS hm h0 hn hbase
  unfold Oper.wp execOp
  simp only [ho, resolve, invoke, builtin, Sem.run_bind, Sem.run_pure, Result.andThen_ok, List.map_toArray, List.map_cons, List.map_nil, hs, hx, hrun]
  exact hK' _ _ (hK v' W' h2 h3)

set_option maxRecDepth 100000 in
set_option maxHeartbeats 4000000 in
theorem refLines (nm : List UInt8) (A1 A2 : Option Addr) (m c1 m' c2 : Nat) (L L' : List (List UInt8)) (w : World) (hnm : nm.length ≤ 100000) (hm : L.length = m) (hm' : L'.length = m') (hc1 : m ≤ c1) (hc2 : m' ≤ c2) (hL : m ≤ 1000) (hL' : m' ≤ 1000)
    (hX : ∀ h ∈ hunks L L', (∀ x ∈ h.old, x.length ≤ 100000) ∧ ∀ x ∈ h.new, x.length ≤ 100000) (hR1 : RdS w w.heap.size A1 L) (hR2 : RdS w w.heap.size A2 L') :
    Calls Try.prog 24 #[strV nm, .slice A1 m c1, .slice A2 m' c2] w (LPHi w ((hunks L L').map (patchP nm))) := by
  have HMM := Lib.hid hm; have HMM' := Lib.hid hm'; have HX0 := Lib.hid hX; have HR1 := Lib.hid hR1; have HR2 := Lib.hid hR2
  clear hm hm' hX hR1 hR2
  go_enter Try.func24, Try.ntmps24
  go_wp2_with fail
  refine (refOfH A1 A2 c1 c2 m m' w.heap.size L L' w HMM.out HMM'.out hc1 hc2 hL hL' (Nat.le_refl _) HR1.out HR2.out).mono ?_
  rintro e w4 ⟨A4, c4, rfl, hc4, hr4, hh4, hb4⟩
  have hlen : (hunks L L').length ≤ 2000 := by
    unfold hunks
    rw [hks_len]
    have h1 := edits_len_le L L'
    rw [HMM.out, HMM'.out] at h1
    omega
  obtain ⟨H, hH⟩ : ∃ H, hunks L L' = H := ⟨_, rfl⟩
  have hH' : hks L 0 (edits L L') = H := hH
  rw [hH'] at hc4 hr4 hh4 ⊢
  rw [hH] at HX0 hlen ⊢
  obtain ⟨NH, hNH⟩ : ∃ NH, H.length = NH := ⟨_, rfl⟩
  rw [hNH] at hc4 hlen ⊢
  have HHE := Lib.hid hH; have HNH := Lib.hid hNH; have HR4 := Lib.hid hr4; have HH4 := Lib.hid hh4; have HB4 := Lib.hid hb4
  have HO4 : Hid (OwnS w4 (fun k => w.heap.size ≤ k ∧ k < w4.heap.size) w4.heap.size (.slice none 0 0) []) := Lib.hid ⟨[], World.ownsRow_nil _ _ _ _, PCells.nil _ _ _⟩
  obtain ⟨N, hN⟩ : ∃ N, w4.heap.size = N := ⟨_, rfl⟩
  have HNN := Lib.hid hN
  rw [hN] at HO4
  clear hH hH' hNH hr4 hh4 hb4 hL hL' HMM HMM' hc1 hc2 HR1 HR2 hN
  go_wp2_with fail
  go_loopw [8, 9] (fun v5 i wr => ∃ (k : Nat) (A5 : Option Addr) (c5 : Nat), k ≤ NH ∧ i = .int .i64 (k : Int) ∧ v5 = .slice A5 k c5 ∧ OwnS wr (fun k => w.heap.size ≤ k ∧ k < N) N (.slice A5 k c5) ((H.take k).map (patchP nm)) ∧ Below w4.heap.size w4 wr) (fun _ i _ => NH - (intOf i).toNat)
  case atStart => exact ⟨0, none, 0, Nat.zero_le _, rfl, rfl, HO4.out, Below.refl _ _⟩
  case round =>
    obtain ⟨k, A5, c5, hk, rfl, rfl, ho, hbr⟩ := hrel
    have HO := Lib.hid ho; have HBR := Lib.hid hbr
    clear ho hbr HO4
    by_cases hlt : k < NH
    · have hki : (k : Int) < (NH : Int) := by omega
      have hki0 : (0 : Int) ≤ (k : Int) := by omega
      obtain ⟨a, h, A7, n7, c7, A6, n6, c6, rfl, hx, x0, x1, x2, hpg⟩ := hunk_at (nm := nm) HR4.out HH4.out (fun _ h => h) ((alike_of HBR.out) : Fl.Alike (fun k => w.heap.size ≤ k ∧ k < w4.heap.size) w4 wr) (k := k) (by rw [HNH.out]; exact hlt) HX0.out hnm
      have HX := Lib.hid hx; have HPG := Lib.hid hpg
      clear hx hpg
      have hba : Below wr.heap.size wr (wr.alloc (.cells #[.int .i64 3, strV nm, .string ⟨#[]⟩, .int .i64 h.pos, .slice A7 n7 c7, .slice A6 n6 c6] 39)) := (Below.refl _ _).alloc (Nat.le_refl _) _
      have hbn := Blk.new wr 39 #[.int .i64 (patchP nm h).k, strV (patchP nm h).nm, strV (patchP nm h).to, .int .i64 (patchP nm h).h.pos, .slice A7 n7 c7, .slice A6 n6 c6]
      have hNr : N ≤ wr.heap.size := by rw [← HNN.out]; exact HBR.out.size
      have HO1 := Lib.hid (HO.out.below hba)
      have HC1 := Lib.hid (PCells.one (HPG.out.to_ (alike_of hba)))
      have HSRC := Lib.hid (one_srcP hbn)
      have HSN : Hid (∀ b, (fun k => w.heap.size ≤ k ∧ k < N) b → some b ≠ (Value.slice A5 k c5).ownBlock) := Lib.hid (fun b hb e => by have h1 := ownS_ge HO1.out b e.symm; have h2 : w.heap.size ≤ b ∧ b < N := hb; omega)
      have HLN : Hid (((H.take k).map (patchP nm)).length + 1 ≤ 100000) := Lib.hid (by rw [List.length_map, List.length_take]; omega)
      have HNA : Hid (N ≤ (wr.alloc (.cells #[.int .i64 3, strV nm, .string ⟨#[]⟩, .int .i64 h.pos, .slice A7 n7 c7, .slice A6 n6 c6] 39)).heap.size) := Lib.hid (Nat.le_trans hNr hba.size)
      have HBA := Lib.hid (HBR.out.trans (hba.mono HBR.out.size))
      have HC1' : Hid (PCells (wr.alloc (.cells #[.int .i64 3, strV nm, .string ⟨#[]⟩, .int .i64 h.pos, .slice A7 n7 c7, .slice A6 n6 c6] 39)) (fun k => w.heap.size ≤ k ∧ k < N) [patchP nm h] [.int .i64 3, strV nm, .string ⟨#[]⟩, .int .i64 h.pos, .slice A7 n7 c7, .slice A6 n6 c6]) := Lib.hid (by have := HC1.out; rw [HNN.out] at this; exact this)
      clear hba hbn HC1 hNr
      go_wp2_with (at_builtin; refine wpList_ownS' rfl (.tmp 19) (.tmp 26) rfl Try.underlying26 (fun k => w.heap.size ≤ k ∧ k < N) N 1 1 (.slice A5 k c5) (some ⟨wr.heap.size, 0, none⟩) _ [patchP nm h] _ rfl rfl HO1.out HC1'.out rfl ⟨_, rfl, HSRC.out⟩ HSN.out rfl Nat.one_pos HLN.out HNA.out ?_; intro v' W' ho hg; have HO2 := Lib.hid ho; have HG2 := Lib.hid hg; clear ho hg)
      have ho := HO2.out
      rw [map_snoc HX.out] at ho
      obtain ⟨A9, c9, rfl, hc9⟩ := ownS_slice ho
      have hl9 : ((H.take (k + 1)).map (patchP nm)).length = k + 1 := by rw [List.length_map, List.length_take, HNH.out]; omega
      rw [hl9] at ho ⊢
      exact ⟨⟨k + 1, A9, c9, by omega, by go_num, rfl, ho, HBA.out.grown HG2.out HBA.out.size (fun g e => by have h1 := ownS_ge HO1.out g e; rw [HNN.out]; exact h1)⟩, by simp [intOf]; omega⟩
    · obtain rfl : k = NH := by omega
      have ho := HO.out
      rw [List.take_of_length_le (by rw [HNH.out]; exact Nat.le_refl _)] at ho
      have hln : (H.map (patchP nm)).length = k := by rw [List.length_map, HNH.out]
      have hcc := (Td.own_len ho).2
      have hrd := rdP_of_own_hi (N := w.heap.size) ho (fun b hb => ⟨hb.1, Nat.lt_of_lt_of_le hb.2 (by rw [← HNN.out]; exact HBR.out.size)⟩) (by rw [← HNN.out]; exact HB4.out.size) hln
      have HRD := Lib.hid hrd; have HLN := Lib.hid hln
      have HBF : Hid (Below w.heap.size w wr) := Lib.hid (below_mv HB4.out HBR.out)
      clear ho hln hrd
      go_wp2
      go_ret
      rw [HHE.out]
      exact ⟨A5, c5, by rw [HLN.out]; rfl, by rw [HLN.out]; exact hcc, HRD.out, HBF.out⟩

end Nw
end Go.Proofs.Ytjhjmfodpnipiaa
