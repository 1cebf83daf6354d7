/-
  What bytes.IndexByte, bytes.Count (at one byte), and the iterator over lines of layer 1 do (walks). Over every slice of bytes.
-/
import Derived.Test.YtobpdamfobldcaaRows
import Derived.Test.YtobpdamfobldcaaTxMem
import Derived.Test.YtobpdamfobldcaaTxLeaf
import Derived.RangeFuncNested
import Derived.RangeFuncBound
import Derived.RangeFuncCalls
import Derived.RangeFuncLeaves
import Derived.RangeFuncBox
import Derived.Shelf.Abstract
import Derived.Shelf.RegionOpen
import Derived.WalkKit
import Derived.OwnWalkIn
import Derived.TacticsInMore
import Derived.LoopNIn
import Derived.LoopIn
import Derived.Maps.AppendAt
import Derived.WalkSpells
import Derived.WalkLawsBesides
import Derived.Lib.Hide
namespace Go.Proofs.Ytobpdamfobldcaa
open Go.RowKit Go.Shelf
namespace Tx
attribute [local go_sem] Oper.semAt_some

set_option maxHeartbeats 400000 in
theorem bytes_IndexByte (A : Option Addr) (c B : Nat) (bs : List UInt8) (cv : Int) (w : World) (h : RdB w B A bs) :
    Calls Try.prog 29 #[.slice A bs.length c, .int .u8 cv] w fun e w' => e = .returned (.int .i64 (Lib.indexByte bs cv.toNat.toUInt8)) ∧ w = w' := by
  go_enter Try.func29, Try.ntmps29
  go_wp2
  rw [run_callFunc_extern Try.func36 (by kernel_rfl) (by kernel_rfl) (by kernel_rfl) (e := Extern.BytealgIndexByte.indexByte) (by kernel_rfl), run_index h]
  simp only [Result.andThen]
  rw [Oper.upon_value]
  go_wp2
  go_ret
  exact ⟨rfl, rfl⟩

set_option maxHeartbeats 400000 in
theorem bytes_Count (A : Option Addr) (c B b2 d n : Nat) (bs : List UInt8) (cv : Int) (w : World) (hn : bs.length = n) (h : RdB w B A bs) (hc2 : w.cell? ⟨b2, 0, none⟩ = some (.int .u8 cv)) :
    Calls Try.prog 21 #[.slice A n c, .slice (some ⟨b2, 0, none⟩) 1 d] w fun e w' => e = .returned (.int .i64 (Lib.countByte bs cv.toNat.toUInt8)) ∧ w = w' := by
  subst hn
  go_enter Try.func21, Try.ntmps21
  go_wp2
  rw [run_callFunc_extern Try.func26 (by kernel_rfl) (by kernel_rfl) (by kernel_rfl) (e := Extern.BytealgCount.count) (by kernel_rfl), run_count h]
  simp only [Result.andThen]
  rw [Oper.upon_value]
  go_wp2
  go_ret
  exact ⟨rfl, rfl⟩

set_option maxHeartbeats 400000 in
theorem lines_in (n : Nat) (A : Option Addr) (l c : Nat) (w : World) :
    CallsIn Fence.wide n Try.prog 22 #[.slice A l c] w fun e w' => e = .returned (.func (.func 28) #[] #[.pointer (some ⟨w.heap.size, 0, none⟩)]) ∧ w' = w.alloc (.cells #[.slice A l c] 22) := by
  refine callsIn_of_wp Try.func22 rfl trivial ?_ rfl
  simp only [Try.ntmps22, List.size_toArray, List.length_cons, List.length_nil, Nat.reduceAdd, Nat.reduceSub, Array.replicate_succ, Array.replicate_zero, List.push_toArray, List.append_toArray, List.nil_append, List.cons_append]
  gi_wp2
  go_ret
  exact ⟨rfl, rfl⟩

/-- The length of a slice value. -/
def lenOf : Value → Nat
  | .slice _ n _ => n
  | _ => 0

/-- What stands at the loop's head: the lines that have come, the rest of the bytes. -/
def AtHead (n₀ : Nat) (bs : List UInt8) (J : List (List UInt8) → World → Prop) (v : Value) (wr : World) : Prop :=
  ∃ (pre : List (List UInt8)) (rest : List UInt8) (A : Option Addr) (cap : Nat), v = .slice A rest.length cap ∧ rest.length ≤ cap ∧ rest.length ≤ bs.length ∧ cut bs = pre ++ cut rest ∧ RdB wr n₀ A rest ∧ J pre wr

theorem head_next {n₀ cap' : Nat} {a : Addr} {bs rest p r : List UInt8} {J : List (List UInt8) → World → Prop} {pre : List (List UInt8)} {W3 : World} (hx : cut bs = pre ++ cut rest) (hpr : rest = p ++ 10 :: r) (hp : 10 ∉ p)
    (hc' : rest.length ≤ cap') (hr' : rest.length ≤ bs.length) (hRd : RdB W3 n₀ (some a) rest) (hJ : J (pre ++ [p]) W3) :
    AtHead n₀ bs J (.slice (if cap' = p.length + 1 then some a else some { block := a.block, off := a.off + (p.length + 1) }) (rest.length - (p.length + 1)) (cap' - (p.length + 1))) W3 := by
  have hrl : rest.length - (p.length + 1) = r.length := by rw [hpr]; simp; omega
  have h3 := hRd.drop (k := p.length + 1) (cap := cap') (by simpa using hc')
  have e : List.drop (p.length + 1) (rest.map byteV) = r.map byteV := by
    rw [hpr, List.map_append, List.map_cons]
    rw [show p.length + 1 = (p.map byteV).length + 1 by simp, ← List.drop_drop, List.drop_left]
    simp
  rw [e] at h3
  rw [hrl]
  refine ⟨pre ++ [p], r, _, _, rfl, by omega, by omega, ?_, ?_, hJ⟩
  · rw [hx, hpr, cut_some r hp]; simp
  · unfold RdB; simpa [Addr.add] using h3

set_option maxRecDepth 100000 in
set_option maxHeartbeats 1000000 in
theorem lines1_in (n : Nat) (l Bs n₀ cap : Nat) (A : Option Addr) (bs : List UInt8) (hcap : bs.length ≤ cap) (hlen : bs.length ≤ 9223372036854775807) (J Jx : List (List UInt8) → World → Prop)
    (hY : ∀ pre x W, J pre W → pre.length < (cut bs).length → YieldAt Fence.wide (n - 1) Try.prog l #[strV x] W fun e W' =>
      (e = .returned (.bool true) ∧ J (pre ++ [x]) W' ∧ Below n₀ W W') ∨ (e = .returned (.bool false) ∧ Jx (pre ++ [x]) W'))
    (W : World) (hBs : W.cell? ⟨Bs, 0, none⟩ = some (.slice A bs.length cap)) (hR : RdB W n₀ A bs) (h0 : J [] W) :
    CallsIn Fence.wide n Try.prog 28 #[.func (.yield l) #[] #[], .pointer (some ⟨Bs, 0, none⟩)] W fun e W' => (∃ v, e = .returned v) ∧
      ((∃ ys, ys = cut bs ∧ J ys W') ∨ (∃ pre, pre <+: cut bs ∧ Jx pre W')) := by
  refine callsIn_of_wp Try.func28 rfl trivial ?_ rfl
  simp only [Try.ntmps28, List.size_toArray, List.length_cons, List.length_nil, Nat.reduceAdd, Nat.reduceSub, Array.replicate_succ, Array.replicate_zero, List.push_toArray, List.append_toArray, List.nil_append, List.cons_append]
  gi_wp2
  gi_loopw [3] (fun v wr => AtHead n₀ bs J v wr) (fun v _ => lenOf v)
  case atStart => exact ⟨[], bs, A, cap, rfl, hcap, Nat.le_refl _, rfl, hR, h0⟩
  case round =>
    obtain ⟨pre, rest, A', cap', rfl, hc', hr', hx, hRd, hJs⟩ := hrel
    have HX := Lib.hid hx; clear hx
    rcases idx_cases 10 rest with ⟨hi, hn⟩ | ⟨p, r, hpr, hp, hi⟩
    · have HI := Lib.hid hi; clear hi
      have HN := Lib.hid hn; clear hn
      gi_wp2_with fail
      refine ⟨trivial, (fun h => by cases h), ?_⟩
      refine (callsIn_wide.2 (bytes_IndexByte A' cap' n₀ rest 10 _ hRd)).mono ?_
      rintro e w' ⟨rfl, rfl⟩
      rw [show ((10 : Int).toNat.toUInt8) = 10 from rfl, HI.out]
      gi_wp2
      refine ⟨fun _ h => (by cases h), ?_⟩
      gi_wp2
      refine bodyPost_ret (results_none rfl _ _ _) rfl ?_
      exact ⟨⟨_, rfl⟩, .inl ⟨pre, by rw [HX.out, cut_none HN.out]; simp, hJs⟩⟩
    · have hlp : p.length < rest.length := by rw [hpr]; simp
      obtain ⟨a, rfl, hab, _⟩ := hRd.at_ (k := 0) (by simp; omega)
      have HI := Lib.hid hi; clear hi
      have HP := Lib.hid hp; clear hp
      have hpc : p.length < cap' := by omega
      have hpl : p.length < 9223372036854775807 := by omega
      have hcp : ¬ cap' = 0 := by omega
      have htk' : RdB wr n₀ (some a) p := by
        have htk := hRd.take p.length
        have e : List.take p.length (rest.map byteV) = p.map byteV := by rw [hpr, List.map_append]; simp
        rw [e] at htk; exact htk
      have HPR := Lib.hid hpr; clear hpr
      have hcv := run_conv (P := Try.prog) htk' 22 9 5 cap' Try.underlying22 Try.underlying5 Try.underlying9
      obtain ⟨fn, tmps, assign, body, hy, hR'⟩ := hY pre p wr hJs (by rw [HX.out, HPR.out, cut_some r HP.out]; simp)
      gi_wp2_with fail
      refine ⟨trivial, (fun h => by cases h), ?_⟩
      refine (callsIn_wide.2 (bytes_IndexByte (some a) cap' n₀ rest 10 _ hRd)).mono ?_
      rintro e w' ⟨rfl, rfl⟩
      rw [show ((10 : Int).toNat.toUInt8) = 10 from rfl, HI.out]
      gi_wp2
      refine ⟨(fun h => by cases h), ?_⟩
      refine hR'.mono ?_
      rintro e W3 (⟨rfl, hJ3, hk3⟩ | ⟨rfl, hJx3⟩)
      · have hrl : p.length + 1 ≤ rest.length := by omega
        gi_wp2
        go_roundw
        case rel => exact head_next HX.out HPR.out HP.out hc' hr' (hRd.below hk3) hJ3
        case measure => simp only [lenOf]; omega
      · gi_wp2
        refine bodyPost_ret (results_none rfl _ _ _) rfl ?_
        exact ⟨⟨_, rfl⟩, .inr ⟨pre ++ [p], ⟨cut r, by rw [HX.out, HPR.out, cut_some r HP.out]; simp⟩, hJx3⟩⟩

theorem lines_stops (n : Nat) (Bs n₀ cap m : Nat) (A : Option Addr) (bs : List UInt8) (hm : bs.length = m) (hcap : bs.length ≤ cap) (hlen : bs.length ≤ 9223372036854775807) (w : World) (hBs : Bs < w.heap.size) (hn₀ : n₀ ≤ w.heap.size)
    (hc : w.cell? ⟨Bs, 0, none⟩ = some (.slice A m cap)) (hR : RdB w n₀ A bs) :
    SeqStopsK Fence.wide n Try.prog 28 #[.pointer (some ⟨Bs, 0, none⟩)] (fun x : List UInt8 => #[strV x]) (Below n₀) (fun ys => ys = cut bs) (fun pre => pre <+: cut bs) (cut bs).length w := fun l J Jx W hW _ _ hY h0 =>
  lines1_in n l Bs n₀ cap A bs hcap hlen J Jx hY W ((hW.cell (p := ⟨Bs, 0, none⟩) hBs).trans (hm ▸ hc)) (hR.below (hW.mono hn₀)) h0

end Tx
end Go.Proofs.Ytobpdamfobldcaa
