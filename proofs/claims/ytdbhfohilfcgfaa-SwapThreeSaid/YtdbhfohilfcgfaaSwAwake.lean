/-
  The example of layer 6 holds (walk).
-/
import Derived.Test.YtdbhfohilfcgfaaSwPass
namespace Go.Proofs.Ytdbhfohilfcgfaa
open Go.RowKit
set_option linter.unusedVariables false
namespace Sw
open Tx Df Hk

theorem ex_may1 : mayH ⟨0, [], [[120]]⟩ = true := by decide
theorem ex_may2 : mayH ⟨5, [[98]], []⟩ = true := by decide
theorem ex_pass1 : passH ⟨0, [], [[120]]⟩ ⟨5, [[98]], []⟩ = some (⟨4, [[98]], []⟩, ⟨0, [], [[120]]⟩) := passH_some ex_may1 ex_may2 (pass_ahead (by decide)) (by decide) (by decide)
theorem ex_pass2 : passH ⟨3, [], [[120]]⟩ ⟨4, [], [[121]]⟩ = none := passH_shut rfl rfl rfl rfl (fun h => absurd h.1 (by decide)) (fun h => absurd h.1 (by decide))

theorem rd_row (w : World) (l : List UInt8) : RdS (w.alloc (.cells #[strV l] 9)) (w.heap.size + 1) (some ⟨w.heap.size, 0, none⟩) [l] := by
  refine .inr ⟨_, rfl, by simp, fun j u hu => ?_⟩
  have h := World.alloc_heap_new w (.cells #[strV l] 9)
  have e : (⟨w.heap.size, 0, none⟩ : Addr).add j = ⟨w.heap.size, j, none⟩ := by unfold Addr.add; split <;> simp_all
  rw [e]
  unfold World.cell?
  rw [h]
  simpa using hu
theorem rd_old {w : World} {B : Nat} {A : Option Addr} {ls : List (List UInt8)} (h : RdS w B A ls) (hB : B ≤ w.heap.size) (o : Obj) : RdS (w.alloc o) B A ls := h.below ((Below.refl _ _).alloc hB _)

set_option maxRecDepth 100000 in
set_option maxHeartbeats 4000000 in
theorem awake (w : World) : Calls Try.prog 10 #[] w fun e w' => e = .returned (.bool true) ∧ Below w.heap.size w w' := by
  go_enter Try.func10, Try.ntmps10
  go_wp2_with fail
  obtain ⟨o0, ho0⟩ : ∃ o : Obj, o = .cells #[.string ⟨#[120]⟩] 9 (0, 0) := ⟨_, rfl⟩
  obtain ⟨o1, ho1⟩ : ∃ o : Obj, o = .cells #[.int .i64 0, .slice none 0 0, .slice (some ⟨w.heap.size, 0, none⟩) 1 1] 24 (0, 0) := ⟨_, rfl⟩
  obtain ⟨o2, ho2⟩ : ∃ o : Obj, o = .cells #[.string ⟨#[98]⟩] 9 (0, 0) := ⟨_, rfl⟩
  obtain ⟨o3, ho3⟩ : ∃ o : Obj, o = .cells #[.int .i64 5, .slice (some ⟨w.heap.size + 1 + 1, 0, none⟩) 1 1, .slice none 0 0] 24 (0, 0) := ⟨_, rfl⟩
  have r0 : RdS (w.alloc o0) (w.heap.size + 1) (some ⟨w.heap.size, 0, none⟩) [[120]] := by subst ho0; exact rd_row w [120]
  have r1 : RdS (((w.alloc o0).alloc o1).alloc o2) (w.heap.size + 1 + 1 + 1) (some ⟨w.heap.size + 1 + 1, 0, none⟩) [[98]] := by
    have := rd_row ((w.alloc o0).alloc o1) [98]
    subst ho2; simp only [World.size_alloc] at this; exact this
  have r0 := rd_old (rd_old (rd_old r0 (by simp) o1) (by simp) o2) (by simp) o3
  have r1 := rd_old r1 (by simp) o3
  have hb0 : Below w.heap.size w ((((w.alloc o0).alloc o1).alloc o2).alloc o3) := ((((Below.refl _ _).alloc (Nat.le_refl _) _).alloc (by simp) _).alloc (by simp; omega) _).alloc (by simp; omega) _
  rw [← ho0, ← ho1, ← ho2, ← ho3]
  have hsz : ((((w.alloc o0).alloc o1).alloc o2).alloc o3).heap.size = w.heap.size + 4 := by simp
  generalize ((((w.alloc o0).alloc o1).alloc o2).alloc o3) = w1 at *
  clear ho0 ho1 ho2 ho3
  refine (Pass none 0 0 (some ⟨w.heap.size, 0, none⟩) 1 1 (some ⟨w.heap.size + 1 + 1, 0, none⟩) 1 1 none 0 0 w1.heap.size ⟨0, [], [[120]]⟩ ⟨5, [[98]], []⟩ w1 (Nat.le_refl _) (by decide) (by decide) (by decide) (by decide)
    ⟨rfl, rfl, Nat.le_refl _, Nat.le_refl _, by decide, by decide, .inl rfl, Rd.up r0 (by omega), ⟨by decide, by decide⟩⟩ ⟨rfl, rfl, Nat.le_refl _, Nat.le_refl _, by decide, by decide, Rd.up r1 (by omega), .inl rfl, ⟨by decide, by decide⟩⟩).mono ?_
  rw [ex_pass1]
  intro e w2 he
  obtain ⟨A, c, A', c', D, k, D', k', rfl, _, _, hb1⟩ := passEnd_some he
  simp only [List.length_cons, List.length_nil, Nat.zero_add]
  have hb2 := hb0.trans (hb1.mono hb0.size)
  clear hb0 hb1 r0 r1 hsz he
  have HB2 := Lib.hid hb2; clear hb2
  go_wp2_with fail
  obtain ⟨o0, ho0⟩ : ∃ o : Obj, o = .cells #[.int .i64 4, .slice A 1 c, .slice A' 0 c'] 24 (0, 0) := ⟨_, rfl⟩
  obtain ⟨o1, ho1⟩ : ∃ o : Obj, o = .cells #[.int .i64 0, .slice D 0 k, .slice D' 1 k'] 24 (0, 0) := ⟨_, rfl⟩
  obtain ⟨o2, ho2⟩ : ∃ o : Obj, o = .cells #[.string ⟨#[120]⟩] 9 (0, 0) := ⟨_, rfl⟩
  obtain ⟨o3, ho3⟩ : ∃ o : Obj, o = .cells #[.string ⟨#[121]⟩] 9 (0, 0) := ⟨_, rfl⟩
  have b1 : Blk (w2.alloc o0) w2.heap.size 24 #[.int .i64 4, .slice A 1 c, .slice A' 0 c'] := by subst ho0; exact Blk.new w2 _ _
  have b2 : Blk ((w2.alloc o0).alloc o1) (w2.heap.size + 1) 24 #[.int .i64 0, .slice D 0 k, .slice D' 1 k'] := by
    have := Blk.new (w2.alloc o0) 24 #[.int .i64 0, .slice D 0 k, .slice D' 1 k']
    subst ho1; simp only [World.size_alloc] at this; exact this
  have r0 : RdS (((w2.alloc o0).alloc o1).alloc o2) (w2.heap.size + 1 + 1 + 1) (some ⟨w2.heap.size + 1 + 1, 0, none⟩) [[120]] := by
    have := rd_row ((w2.alloc o0).alloc o1) [120]
    subst ho2; simp only [World.size_alloc] at this; exact this
  have r1 : RdS ((((w2.alloc o0).alloc o1).alloc o2).alloc o3) (w2.heap.size + 1 + 1 + 1 + 1) (some ⟨w2.heap.size + 1 + 1 + 1, 0, none⟩) [[121]] := by
    have := rd_row (((w2.alloc o0).alloc o1).alloc o2) [121]
    subst ho3; simp only [World.size_alloc] at this; exact this
  have b1 := ((b1.alloc o1).alloc o2).alloc o3
  have b2 := (b2.alloc o2).alloc o3
  have r0 := rd_old r0 (by simp) o3
  have hb0 : Below w2.heap.size w2 ((((w2.alloc o0).alloc o1).alloc o2).alloc o3) := ((((Below.refl _ _).alloc (Nat.le_refl _) _).alloc (by simp) _).alloc (by simp; omega) _).alloc (by simp; omega) _
  rw [← ho0, ← ho1, ← ho2, ← ho3]
  have hsz : ((((w2.alloc o0).alloc o1).alloc o2).alloc o3).heap.size = w2.heap.size + 4 := by simp
  generalize ((((w2.alloc o0).alloc o1).alloc o2).alloc o3) = w3 at *
  clear ho0 ho1 ho2 ho3
  refine (Pass none 0 0 (some ⟨w2.heap.size + 1 + 1, 0, none⟩) 1 1 none 0 0 (some ⟨w2.heap.size + 1 + 1 + 1, 0, none⟩) 1 1 w3.heap.size ⟨3, [], [[120]]⟩ ⟨4, [], [[121]]⟩ w3 (Nat.le_refl _) (by decide) (by decide) (by decide) (by decide)
    ⟨rfl, rfl, Nat.le_refl _, Nat.le_refl _, by decide, by decide, .inl rfl, Rd.up r0 (by omega), ⟨by decide, by decide⟩⟩ ⟨rfl, rfl, Nat.le_refl _, Nat.le_refl _, by decide, by decide, .inl rfl, Rd.up r1 (by omega), ⟨by decide, by decide⟩⟩).mono ?_
  rw [ex_pass2]
  rintro e w4 ⟨G, n, l, G', n', l', H, m, j, H', m', j', rfl, _, _, hb1⟩
  have b1 := b1.below hb1 b1.lt
  have b2 := b2.below hb1 b2.lt
  have hb4 := HB2.out.trans ((hb0.trans (hb1.mono hb0.size)).mono HB2.out.size)
  clear r0 r1 hb0 hb1 hsz
  have HB4 := Lib.hid hb4; clear hb4
  generalize (outH none).1.pos = i1
  generalize (outH none).2.pos = i2
  rw [Option.isSome_none]
  generalize w2.heap.size = g at *
  have x0 : w4.cell? ⟨g, 0, none⟩ = some (.int .i64 4) := b1.cell 0 rfl
  have x1 : w4.cell? ⟨g, 1, none⟩ = some (.slice A 1 c) := b1.cell 1 rfl
  have y0 : w4.cell? ⟨g + 1, 0, none⟩ = some (.int .i64 0) := b2.cell 0 rfl
  have y2 : w4.cell? ⟨g + 1, 2, none⟩ = some (.slice D' 1 k') := b2.cell 2 rfl
  have lx := b1.lt; have ly := b2.lt
  clear b1 b2
  go_wp2_with fail
  go_ret
  exact ⟨rfl, (HB4.out.alloc HB4.out.size _).alloc (by have := HB4.out.size; simp; omega) _⟩

end Sw
end Go.Proofs.Ytdbhfohilfcgfaa
