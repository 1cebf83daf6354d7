/-
  What the document's own Back returns (walk), and the example of the chapter that every statement asks first.
-/
import Derived.Test.YtbiibpcejeedlaaSqRef
namespace Go.Proofs.Ytbiibpcejeedlaa
open Go.RowKit
set_option linter.unusedVariables false
namespace Sq
open Tx

theorem ref_step {a b : List (List UInt8)} {k f n n' j j' : Nat} (hf : front a b = f) (hN : a.length = n) (hN' : b.length = n') (hj : (n : Int) - 1 - k = j) (hj' : (n' : Int) - 1 - k = j') (h : a.drop (n - k) = b.drop (n' - k)) (h1 : j < a.length) (h2 : j' < b.length) (hk : f + k < n) (hk' : f + k < n') :
    (a[j] = b[j'] → a.drop (n - (k + 1)) = b.drop (n' - (k + 1))) ∧ (a[j] ≠ b[j'] → back a b = k) := by
  subst hN
  subst hN'
  subst hf
  obtain rfl : a.length - 1 - k = j := by omega
  obtain rfl : b.length - 1 - k = j' := by omega
  exact ⟨fun e => drop_step (by omega) (by omega) h e, fun e => back_is (by omega) (by omega) h (.inr (.inr ⟨h1, h2, e⟩))⟩

set_option maxRecDepth 100000 in
set_option maxHeartbeats 2000000 in
theorem RefBack (A A' : Option Addr) (cap cap' n n' B : Nat) (ls ms : List (List UInt8)) (w : World) (hn : ls.length = n) (hn' : ms.length = n') (hnm : n ≤ maxLen) (hnm' : n' ≤ maxLen) (hR : RdS w B A ls) (hR' : RdS w B A' ms) :
    Calls Try.prog 18 #[.slice A n cap, .slice A' n' cap'] w (NumEnd w (back ls ms)) := by
  have H := Lib.hid (RefFront A A' cap cap' n n' B ls ms w hn hn' hnm hnm' hR hR')
  have hf := front_le ls ms
  rw [hn, hn'] at hf
  have HN := Lib.hid hn; clear hn
  have HN' := Lib.hid hn'; clear hn'
  generalize hff : front ls ms = f at *
  have HF := Lib.hid hff; clear hff
  unfold maxLen at hnm hnm'
  obtain ⟨hf1, hf2⟩ := hf
  go_enter Try.func18, Try.ntmps18
  go_wp2_with fail
  refine H.out.mono ?_
  rintro e w' ⟨rfl, d0, rfl⟩
  go_wp2
  go_loopw [6] (fun i wr => ∃ k : Nat, f + k ≤ n ∧ f + k ≤ n' ∧ i = .int .i64 k ∧ ls.drop (n - k) = ms.drop (n' - k) ∧ ∃ d, wr = w.drewN d) (fun i _ => n - (intOf i).toNat)
  case atStart => exact ⟨0, by omega, by omega, rfl, by rw [List.drop_of_length_le (by rw [HN.out]; omega), List.drop_of_length_le (by rw [HN'.out]; omega)], d0, rfl⟩
  case round =>
    obtain ⟨k, hk, hk', rfl, hall, d, rfl⟩ := hrel
    have HA := Lib.hid hall; clear hall
    by_cases hlt : f + k < n ∧ f + k < n'
    · obtain ⟨hlt, hlt'⟩ := hlt
      obtain ⟨j, hj⟩ : ∃ j : Nat, (n : Int) - 1 - k = j := ⟨n - 1 - k, by omega⟩
      obtain ⟨j', hj'⟩ : ∃ j' : Nat, (n' : Int) - 1 - k = j' := ⟨n' - 1 - k, by omega⟩
      have hjl : j < ls.length := by rw [HN.out]; omega
      have hjm : j' < ms.length := by rw [HN'.out]; omega
      obtain ⟨a, rfl, hcell⟩ := hR.at' hjl
      obtain ⟨a', rfl, hcell'⟩ := hR'.at' hjm
      have HS := Lib.hid (ref_step HF.out HN.out HN'.out hj hj' HA.out hjl hjm hlt hlt')
      have hki : (k : Int) < (n : Int) - f := by omega
      have hki' : (k : Int) < (n' : Int) - f := by omega
      have hjn : j < n := by omega
      have hjn' : j' < n' := by omega
      go_wp2
      go_quiet (fail)
      go_wp2
      · have hb : (ls[j] == ms[j']) = true := by assumption
        exact ⟨⟨k + 1, by omega, by omega, by go_num, HS.out.1 (by simpa using hb), _, rfl⟩, by simp [intOf]; omega⟩
      · have hb : (ls[j] == ms[j']) = false := by assumption
        go_ret
        exact ⟨ret_int (by rw [HS.out.2 (by simpa using hb)]), d + nq, by simp⟩
    · have HE := Lib.hid (back_is (a := ls) (b := ms) (k := k) (by rw [HN.out, HF.out]; exact hk) (by rw [HN'.out, HF.out]; exact hk') (by rw [HN.out, HN'.out]; exact HA.out) (by have h1 := HN.out; have h2 := HN'.out; have h3 := HF.out; by_cases e : f + k = n; exact .inl (by omega); exact .inr (.inl (by omega))))
      by_cases hkn : (k : Int) < (n : Int) - f
      · have hd : decide ((k : Int) < (n' : Int) - f) = false := decide_eq_false (by omega)
        clear hlt
        go_wp2
        go_quiet (fail)
        go_wp2
        go_ret
        exact ⟨ret_int (by rw [HE.out]), d + nq, by simp⟩
      · have hd : decide ((k : Int) < (n : Int) - f) = false := decide_eq_false (by omega)
        clear hlt
        go_wp2
        go_quiet (fail)
        go_wp2
        go_ret
        exact ⟨ret_int (by rw [HE.out]), d + nq, by simp⟩

/-- A row of lines that was laid just now reads as them. -/
theorem rd_lit (w : World) (ls : List (List UInt8)) (fr : Nat × Nat) : RdS (w.alloc (.cells (ls.map strV).toArray 9 fr)) (w.heap.size + 1) (some ⟨w.heap.size, 0, none⟩) ls := by
  have hh : (w.alloc (.cells (ls.map strV).toArray 9 fr)).heap[w.heap.size]? = some (.cells (ls.map strV).toArray 9 fr) := heap_alloc_new w _
  refine .inr ⟨_, rfl, Nat.lt_succ_self _, fun j u hu => ?_⟩
  have e1 : (⟨w.heap.size, 0, none⟩ : Addr).add j = ⟨w.heap.size, j, none⟩ := by unfold Addr.add; split <;> simp_all
  rw [e1, cell_of_row _ _ j _ _ _ hh]
  simpa using hu

theorem ex_has : has [[97], [98], [99]] ((1 : Nat) : Int) [[98]] = true := by decide
theorem ex_swp : swp [[97], [98], [99]] 1 1 [[120], [121]] = ([[97], [120], [121], [99]] : List (List UInt8)) := by decide
theorem ex_front : front [[97], [98], [99]] ([[97], [120], [99]] : List (List UInt8)) = 1 := by decide
theorem ex_back : back [[97], [98], [99]] ([[97], [120], [99]] : List (List UInt8)) = 1 := by decide

/-- How the example's Swap ends. -/
def AwakeSwap (w : World) (e : Ending) (w' : World) : Prop :=
  ∃ a c, e = .returned (.tuple #[.slice (some a) 4 c, .bool true]) ∧ a.block < w'.heap.size ∧ w'.cell? (a.add 1) = some (.string ⟨#[120]⟩) ∧ w'.cell? (a.add 3) = some (.string ⟨#[99]⟩) ∧ Below w.heap.size w w'

theorem swap_awake (A A' A2 : Option Addr) (w : World) (h : RdS w w.heap.size A [[97], [98], [99]]) (h' : RdS w w.heap.size A' [[98]]) (h2 : RdS w w.heap.size A2 [[120], [121]]) :
    Calls Try.prog 10 #[.slice A 3 3, .int .i64 1, .slice A' 1 1, .slice A2 2 2] w (AwakeSwap w) := by
  refine (Swap_yes A A' A2 3 1 2 3 1 2 w.heap.size 1 [[97], [98], [99]] [[98]] [[120], [121]] w rfl rfl rfl (by decide) (by decide) (by decide) (by decide) (Nat.le_refl _) h h' h2 ex_has).mono ?_
  rw [ex_swp]
  rintro e w' ⟨v, rfl, ⟨A, c, rfl, _, _, hr, _⟩, hb⟩
  obtain ⟨a, rfl, h1⟩ := RdS.at' (ls := [[97], [120], [121], [99]]) hr (k := 1) (by decide)
  obtain ⟨a', ha', h3⟩ := RdS.at' (ls := [[97], [120], [121], [99]]) hr (k := 3) (by decide)
  injection ha' with ha'
  subst ha'
  obtain ⟨a', ha', hlt, _⟩ := Rd.at_ hr (k := 0) (by decide)
  injection ha' with ha'
  subst ha'
  exact ⟨a, c, rfl, hlt, h1, h3, hb⟩

theorem rd_old {w : World} {B : Nat} {A : Option Addr} {ls : List (List UInt8)} (h : RdS w B A ls) (hB : B ≤ w.heap.size) (o : Obj) : RdS (w.alloc o) (w.alloc o).heap.size A ls :=
  Rd.up (h.below ((Below.refl _ _).alloc hB _)) (by simp; omega)
theorem rd_new (w : World) (ls : List (List UInt8)) (fr : Nat × Nat) : RdS (w.alloc (.cells (ls.map strV).toArray 9 fr)) (w.alloc (.cells (ls.map strV).toArray 9 fr)).heap.size (some ⟨w.heap.size, 0, none⟩) ls :=
  Rd.up (rd_lit w ls fr) (by simp)

theorem three (w : World) (o0 o1 o2 : Obj) (h0 : o0 = .cells #[.string ⟨#[97]⟩, .string ⟨#[98]⟩, .string ⟨#[99]⟩] 9 (0, 0)) (h1 : o1 = .cells #[.string ⟨#[98]⟩] 9 (0, 0)) (h2 : o2 = .cells #[.string ⟨#[120]⟩, .string ⟨#[121]⟩] 9 (0, 0)) :
    RdS (((w.alloc o0).alloc o1).alloc o2) (((w.alloc o0).alloc o1).alloc o2).heap.size (some ⟨w.heap.size, 0, none⟩) [[97], [98], [99]] ∧ RdS (((w.alloc o0).alloc o1).alloc o2) (((w.alloc o0).alloc o1).alloc o2).heap.size (some ⟨w.heap.size + 1, 0, none⟩) [[98]] ∧
    RdS (((w.alloc o0).alloc o1).alloc o2) (((w.alloc o0).alloc o1).alloc o2).heap.size (some ⟨w.heap.size + 1 + 1, 0, none⟩) [[120], [121]] ∧ RdS (w.alloc o0) (w.alloc o0).heap.size (some ⟨w.heap.size, 0, none⟩) [[97], [98], [99]] ∧ Below (w.alloc o0).heap.size (w.alloc o0) (((w.alloc o0).alloc o1).alloc o2) := by
  have r0 : RdS (w.alloc o0) (w.alloc o0).heap.size (some ⟨w.heap.size, 0, none⟩) [[97], [98], [99]] := by subst h0; exact rd_new w [[97], [98], [99]] (0, 0)
  have e1 : (w.alloc o0).heap.size = w.heap.size + 1 := by simp
  have r1 : RdS ((w.alloc o0).alloc o1) ((w.alloc o0).alloc o1).heap.size (some ⟨w.heap.size + 1, 0, none⟩) [[98]] := by subst h1; rw [← e1]; exact rd_new (w.alloc o0) [[98]] (0, 0)
  have e2 : ((w.alloc o0).alloc o1).heap.size = w.heap.size + 1 + 1 := by simp
  have r2 : RdS (((w.alloc o0).alloc o1).alloc o2) (((w.alloc o0).alloc o1).alloc o2).heap.size (some ⟨w.heap.size + 1 + 1, 0, none⟩) [[120], [121]] := by subst h2; rw [← e2]; exact rd_new _ [[120], [121]] (0, 0)
  exact ⟨rd_old (rd_old r0 (Nat.le_refl _) _) (Nat.le_refl _) _, rd_old r1 (Nat.le_refl _) _, r2, r0, ((Below.refl _ _).alloc (Nat.le_refl _) _).alloc (by simp) _⟩

set_option maxRecDepth 100000 in
set_option maxHeartbeats 1000000 in
theorem awake (w : World) : Calls Try.prog 8 #[] w fun e w' => e = .returned (.bool true) ∧ Below w.heap.size w w' := by
  go_enter Try.func8, Try.ntmps8
  go_wp2_with fail
  obtain ⟨r0, r1, r2, r00, hb⟩ := three w _ _ _ rfl rfl rfl
  refine (swap_awake _ _ _ _ r0 r1 r2).mono ?_
  rintro e w1 ⟨a, c, rfl, hlt, hc1, hc3, hb1⟩
  have hb01 := hb.trans (hb1.mono hb.size)
  have hbw := ((Below.refl _ w).alloc (Nat.le_refl _) _).trans (hb01.mono (by simp))
  have hra : RdS w1 w1.heap.size (some ⟨w.heap.size, 0, none⟩) [[97], [98], [99]] := Rd.up (r00.below hb01) hb01.size
  have hw1 := hbw.size
  clear r0 r1 r2 r00 hb hb1 hb01
  have hca : ∀ o, (w1.alloc o).cell? ⟨a.block, a.off + 1, none⟩ = some (.string ⟨#[120]⟩) := fun o => (((Below.refl _ w1).alloc (Nat.le_refl _) o).cell (p := ⟨a.block, a.off + 1, none⟩) hlt).trans hc1
  have hcb : ∀ o, (w1.alloc o).cell? ⟨a.block, a.off + 3, none⟩ = some (.string ⟨#[99]⟩) := fun o => (((Below.refl _ w1).alloc (Nat.le_refl _) o).cell (p := ⟨a.block, a.off + 3, none⟩) hlt).trans hc3
  clear hc1 hc3
  go_wp2_with fail
  have r0 := rd_old hra (Nat.le_refl _) (.cells #[.string ⟨#[97]⟩, .string ⟨#[120]⟩, .string ⟨#[99]⟩] 9 (0, 0))
  have r1 : RdS (w1.alloc (.cells #[.string ⟨#[97]⟩, .string ⟨#[120]⟩, .string ⟨#[99]⟩] 9 (0, 0))) (w1.alloc (.cells #[.string ⟨#[97]⟩, .string ⟨#[120]⟩, .string ⟨#[99]⟩] 9 (0, 0))).heap.size (some ⟨w1.heap.size, 0, none⟩) [[97], [120], [99]] := rd_new w1 [[97], [120], [99]] (0, 0)
  have hb2 := hbw.alloc hw1 (.cells #[.string ⟨#[97]⟩, .string ⟨#[120]⟩, .string ⟨#[99]⟩] 9 (0, 0))
  clear hca hcb hra hlt hw1 hbw
  refine (Front _ _ 3 3 3 3 _ _ _ _ rfl rfl (by decide) (by decide) r0 r1).mono ?_
  rw [ex_front]
  rintro e w' ⟨rfl, d, rfl⟩
  go_wp2_with fail
  refine (Back _ _ 3 3 3 3 _ _ _ _ rfl rfl (by decide) (by decide) (by decide) (by decide) (r0.drewN d) (r1.drewN d)).mono ?_
  rw [ex_back]
  rintro e w' ⟨rfl, d', rfl⟩
  go_wp2
  go_ret
  exact ⟨rfl, below_drewN hb2 _⟩

end Sq
end Go.Proofs.Ytbiibpcejeedlaa
