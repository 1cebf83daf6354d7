/-
  Package code's read: the change of a line, and of those behind it, or how it ends (walks). Written by tools/cd_mkread.py.
-/
import Derived.Test.YtjhjmfodpnipiaaGreatDoorCdRead0
import Derived.Test.YtjhjmfodpnipiaaGreatDoorCdLeaf
import Derived.Test.YtjhjmfodpnipiaaGreatDoorGR
import Derived.Test.YtjhjmfodpnipiaaGreatDoorGQ
import Derived.Deep.RegionHeld3
set_option maxRecDepth 100000
namespace Go.Proofs.YtjhjmfodpnipiaaGreatDoor
open Go.RowKit Go.Shelf
set_option linter.unusedVariables false
set_option linter.unusedSimpArgs false
namespace Cd
open Tx Df Sq Hk Tr Pr

/-- The library's variables, whatever is done from block N on. -/
def VN (N : Nat) (w : World) : Prop := ∀ Y, Below N w Y → Vars Y
theorem VN.vars {N : Nat} {w : World} (h : VN N w) : Vars w := h w (Below.refl _ _)
theorem VN.to {N : Nat} {w w' : World} (h : VN N w) (hb : Below N w w') : VN N w' := fun Y hY => h Y (hb.trans hY)
theorem vn_of {w : World} (h : Vars w) : VN w.heap.size w := fun Y hb => h.mv hb

/-- How read ends: a change, its lines in memory that is new. -/
def RdEnd (w : World) (N R : Nat) (o : Option (Ch × List UInt8)) (e : Ending) (w' : World) : Prop :=
  match o with
  | some z => ∃ A n c A' n' c', e = .returned (prV z.1.k z.1.nm z.1.to z.1.h.pos A n c A' n' c') ∧ PV w' w'.heap.size A n c A' n' c' z.1 ∧ Hi w.heap.size A ∧ Hi w.heap.size A' ∧ Rest w' N R z.2 ∧ Gr R w w'
  | none => e = .panicked bad ∧ Gr R w w'

theorem word_at {w : World} {N B j : Nat} {ws : List (List UInt8)} {x : List UInt8} (h : RdS w N (some ⟨B, 0, none⟩) ws) (hx : ws[j]? = some x) : w.cell? ⟨B, j, none⟩ = some (strV x) := by
  rcases h with h | ⟨a, e, _, hc⟩
  · have : ws = [] := by simpa using h
    rw [this] at hx; simp at hx
  · injection e with e
    subst e
    have h1 := hc j (strV x) (by rw [List.getElem?_map, hx]; rfl)
    have hadd : (⟨B, 0, none⟩ : Addr).add j = ⟨B, j, none⟩ := by unfold Addr.add; split <;> simp_all
    rw [hadd] at h1
    exact h1
theorem word_lt {w : World} {N B : Nat} {ws : List (List UInt8)} (h : RdS w N (some ⟨B, 0, none⟩) ws) (hx : ws ≠ []) : B < N := by
  rcases h with h | ⟨a, e, hl, _⟩
  · exact absurd (by simpa using h) hx
  · injection e with e
    subst e
    exact hl
theorem oneC_none {s r k : List UInt8} {ws : List (List UInt8)} (hw : words s = k :: ws) (hA : ¬ (ws.length = 1 ∧ (kindB k = 0 ∨ kindB k = 1))) (hB : ¬ (ws.length = 2 ∧ kindB k = 2)) (hC : ¬ (ws.length = 4 ∧ (kindB k = 3 ∨ kindB k = 4))) : oneC s r = none := by
  unfold oneC
  rw [hw]
  match ws, hA, hB, hC with
  | [], _, _, _ => rfl
  | [nm], hA, _, _ => exact if_neg (fun h => hA ⟨rfl, h⟩)
  | [nm, tn], _, hB, _ => exact if_neg (fun h => hB ⟨rfl, h⟩)
  | [_, _, _], _, _, _ => rfl
  | [nm, a, x, y], _, _, hC => exact if_neg (fun h => hC ⟨rfl, h⟩)
  | _ :: _ :: _ :: _ :: _ :: _, _, _, _ => rfl
theorem word_len {s x : List UInt8} (hx : x ∈ words s) : x.length ≤ s.length := by
  have h := unwords_words s
  have key : ∀ (ws : List (List UInt8)), x ∈ ws → x.length ≤ (unwords ws).length := by
    intro ws
    induction ws with
    | nil => intro h; cases h
    | cons w ws ih =>
      intro h
      cases ws with
      | nil =>
        rcases List.mem_cons.1 h with e | e
        · rw [e]; exact Nat.le_refl _
        · cases e
      | cons v vs =>
        have e : unwords (w :: v :: vs) = w ++ 32 :: unwords (v :: vs) := rfl
        rw [e, List.length_append, List.length_cons]
        rcases List.mem_cons.1 h with e | e
        · rw [e]; omega
        · have := ih e; omega
  rw [← h]
  exact key _ hx
/-- Where what is done lies: in block R, and in what is new. -/
theorem rd_zero_hi (w : World) (N : Nat) : RdS w N none [] := .inl rfl

set_option maxRecDepth 100000 in
set_option maxHeartbeats 4000000 in
theorem read_k (s : List UInt8) (N R : Nat) (r : List UInt8) (w : World) (hs : s.length ≤ 200000) (hr : Rest w N R r) (hv : VN N w) (k : List UInt8) (ws : List (List UInt8)) (hw : words s = k :: ws) (hk : k.length ≠ 1) :
    Calls Tryz.prog 14 #[strV s, .func (.func 23) #[] #[.pointer (some ⟨R, 0, none⟩)]] w (RdEnd w N R (oneC s r)) := by
  have hneg : ¬ 0 ≤ kindB k := fun h => hk (by rw [kindB_sign rfl h]; rfl)
  have ho : oneC s r = none := oneC_none hw (fun h => by have := h.2; omega) (fun h => by have := h.2; omega) (fun h => by have := h.2; omega)
  clear hneg
  rw [ho]
  clear ho
  have HW := Lib.hid hw; clear hw
  obtain ⟨n, hn⟩ : ∃ n, (k :: ws).length = n := ⟨_, rfl⟩
  have HNL := Lib.hid hn
  have hn1 : 0 < n := by rw [← hn]; simp
  have hn2 : n ≤ 4294967295 := by have h1 : (words s).length ≤ s.length + 1 := words_length s; rw [HW.out] at h1; omega
  clear hn
  have HR := Lib.hid hr; have HV := Lib.hid hv; have HS := Lib.hid hs
  have hRw : R < w.heap.size := hr.ex.elim fun A h => h.elim fun c h => h.1.lt
  clear hr hv hs
  go_enter Tryz.func14, Tryz.ntmps14
  go_upto_region 1 with fail
  have bt := Blk.new w 34 #[.int .i64 0, .string ⟨#[]⟩, .string ⟨#[]⟩, .int .i64 0, .slice none 0 0, .slice none 0 0]
  have hb : Below w.heap.size w (w.alloc (.cells #[.int .i64 0, .string ⟨#[]⟩, .string ⟨#[]⟩, .int .i64 0, .slice none 0 0, .slice none 0 0] 34)) := (Below.refl _ _).alloc (Nat.le_refl _) _
  have hRS := HR.out.below hb
  have hNw : N ≤ w.heap.size := by have h1 := HR.out.le; omega
  have hV1 := HV.out.to (hb.mono hNw)
  have hG1 : Gr R w (w.alloc (.cells #[.int .i64 0, .string ⟨#[]⟩, .string ⟨#[]⟩, .int .i64 0, .slice none 0 0, .slice none 0 0] 34)) := Gr.of_below hb
  generalize w.alloc (.cells #[.int .i64 0, .string ⟨#[]⟩, .string ⟨#[]⟩, .int .i64 0, .slice none 0 0, .slice none 0 0] 34) = W at bt hb hRS hV1 hG1 ⊢
  obtain ⟨t0, ht⟩ : ∃ t0, w.heap.size = t0 := ⟨_, rfl⟩
  have HT := Lib.hid ht
  rw [ht] at bt hRw ⊢
  clear ht hb HR HV hNw
  have HBT := Lib.hid bt; have HRS := Lib.hid hRS; have HV := Lib.hid hV1; have HG := Lib.hid hG1; have HRT := Lib.hid hRw
  clear bt hRS hV1 hG1 hRw
  go_wp2_with fail
  refine (Split s n W HV.out.vars (by have := HS.out; omega) (by rw [HW.out]; first | rfl | exact HNL.out)).mono ?_
  rintro e w1 ⟨rfl, hrd, hb1⟩
  obtain ⟨B, hB⟩ : ∃ B, W.heap.size = B := ⟨_, rfl⟩
  have hlt : t0 < B := by rw [← hB]; exact HBT.out.lt
  rw [hB] at hrd ⊢
  rw [HW.out] at hrd
  have HBT1 := Lib.hid (HBT.out.below hb1 HBT.out.lt); have HRS1 := Lib.hid (HRS.out.below hb1); have HV1 := Lib.hid (HV.out.to (hb1.mono (by have h1 := HRS.out.le; have h2 := HRT.out; have h3 := HBT.out.lt; omega))); have HG1 := Lib.hid (HG.out.trans (Gr.of_below hb1)); have HLT := Lib.hid hlt
  have HRD := Lib.hid hrd
  have HGA : Hid (∀ o, Gr R w (w1.alloc o)) := Lib.hid (fun o => HG1.out.trans (Gr.of_below ((Below.refl w1.heap.size w1).alloc (Nat.le_refl _) o)))
  have y0 : w1.cell? ⟨B, 0, none⟩ = some (strV k) := word_at hrd rfl
  have hBl : B < w1.heap.size := word_lt hrd (by simp)
  clear hB hlt hrd hb1 HBT HRS HV HG
  go_wp2_with fail
  refine (kind_no k _ rfl hk w1).mono ?_
  rintro e w2 ⟨rfl, rfl⟩
  go_wp2
  exact ⟨rfl, rfl, HG1.out⟩

set_option maxRecDepth 100000 in
set_option maxHeartbeats 4000000 in
theorem read_n (s : List UInt8) (N R : Nat) (r : List UInt8) (w : World) (hs : s.length ≤ 200000) (hr : Rest w N R r) (hv : VN N w) (c : UInt8) (kv : Int) (ws : List (List UInt8)) (n : Nat) (hw : words s = [c] :: ws) (hn : ([c] :: ws).length = n) (hk : kindB [c] = kv) (h2 : n ≠ 2) (h3 : n ≠ 3) (h5 : n ≠ 5) :
    Calls Tryz.prog 14 #[strV s, .func (.func 23) #[] #[.pointer (some ⟨R, 0, none⟩)]] w (RdEnd w N R (oneC s r)) := by
  have hl : ws.length + 1 = n := by simpa using hn
  have ho : oneC s r = none := oneC_none hw (fun h => by omega) (fun h => by omega) (fun h => by omega)
  rw [ho]
  have HW := Lib.hid hw; have HNL := Lib.hid hn; have HK := Lib.hid hk
  have hn1 : 0 < n := by omega
  have hn2 : n ≤ 4294967295 := by have h1 : (words s).length ≤ s.length + 1 := words_length s; rw [hw, hn] at h1; omega
  have e2 : ((n : Int) == 2) = false := by rw [beq_eq_false_iff_ne]; omega
  have e3 : ((n : Int) == 3) = false := by rw [beq_eq_false_iff_ne]; omega
  have e5 : ((n : Int) == 5) = false := by rw [beq_eq_false_iff_ne]; omega
  clear hw hn hk h2 h3 h5 ho hl
  have HR := Lib.hid hr; have HV := Lib.hid hv; have HS := Lib.hid hs
  have hRw : R < w.heap.size := hr.ex.elim fun A h => h.elim fun c h => h.1.lt
  clear hr hv hs
  go_enter Tryz.func14, Tryz.ntmps14
  go_upto_region 1 with fail
  have bt := Blk.new w 34 #[.int .i64 0, .string ⟨#[]⟩, .string ⟨#[]⟩, .int .i64 0, .slice none 0 0, .slice none 0 0]
  have hb : Below w.heap.size w (w.alloc (.cells #[.int .i64 0, .string ⟨#[]⟩, .string ⟨#[]⟩, .int .i64 0, .slice none 0 0, .slice none 0 0] 34)) := (Below.refl _ _).alloc (Nat.le_refl _) _
  have hRS := HR.out.below hb
  have hNw : N ≤ w.heap.size := by have h1 := HR.out.le; omega
  have hV1 := HV.out.to (hb.mono hNw)
  have hG1 : Gr R w (w.alloc (.cells #[.int .i64 0, .string ⟨#[]⟩, .string ⟨#[]⟩, .int .i64 0, .slice none 0 0, .slice none 0 0] 34)) := Gr.of_below hb
  generalize w.alloc (.cells #[.int .i64 0, .string ⟨#[]⟩, .string ⟨#[]⟩, .int .i64 0, .slice none 0 0, .slice none 0 0] 34) = W at bt hb hRS hV1 hG1 ⊢
  obtain ⟨t0, ht⟩ : ∃ t0, w.heap.size = t0 := ⟨_, rfl⟩
  have HT := Lib.hid ht
  rw [ht] at bt hRw ⊢
  clear ht hb HR HV hNw
  have HBT := Lib.hid bt; have HRS := Lib.hid hRS; have HV := Lib.hid hV1; have HG := Lib.hid hG1; have HRT := Lib.hid hRw
  clear bt hRS hV1 hG1 hRw
  go_wp2_with fail
  refine (Split s n W HV.out.vars (by have := HS.out; omega) (by rw [HW.out]; first | rfl | exact HNL.out)).mono ?_
  rintro e w1 ⟨rfl, hrd, hb1⟩
  obtain ⟨B, hB⟩ : ∃ B, W.heap.size = B := ⟨_, rfl⟩
  have hlt : t0 < B := by rw [← hB]; exact HBT.out.lt
  rw [hB] at hrd ⊢
  rw [HW.out] at hrd
  have HBT1 := Lib.hid (HBT.out.below hb1 HBT.out.lt); have HRS1 := Lib.hid (HRS.out.below hb1); have HV1 := Lib.hid (HV.out.to (hb1.mono (by have h1 := HRS.out.le; have h2 := HRT.out; have h3 := HBT.out.lt; omega))); have HG1 := Lib.hid (HG.out.trans (Gr.of_below hb1)); have HLT := Lib.hid hlt
  have HRD := Lib.hid hrd
  have HGA : Hid (∀ o, Gr R w (w1.alloc o)) := Lib.hid (fun o => HG1.out.trans (Gr.of_below ((Below.refl w1.heap.size w1).alloc (Nat.le_refl _) o)))
  have y0 : w1.cell? ⟨B, 0, none⟩ = some (strV [c]) := word_at hrd rfl
  have hBl : B < w1.heap.size := word_lt hrd (by simp)
  clear hB hlt hrd hb1 HBT HRS HV HG
  go_wp2_with fail
  refine (kind_yes c w1).mono ?_
  rintro e w2 ⟨rfl, rfl⟩
  rw [HK.out]
  go_wp2_with fail
  refine (must_no _).mono ?_
  rintro e w2 ⟨rfl, rfl⟩
  go_wp2
  exact ⟨rfl, rfl, HGA.out _⟩

set_option maxRecDepth 100000 in
set_option maxHeartbeats 8000000 in
theorem read_2n (s : List UInt8) (N R : Nat) (r : List UInt8) (w : World) (hs : s.length ≤ 200000) (hr : Rest w N R r) (hv : VN N w) (c : UInt8) (kv : Int) (a1 : List UInt8) (hw : words s = [[c], a1]) (hk : kindB [c] = kv) (hc : kv = -1 ∨ kv = 2 ∨ kv = 3 ∨ kv = 4) :
    Calls Tryz.prog 14 #[strV s, .func (.func 23) #[] #[.pointer (some ⟨R, 0, none⟩)]] w (RdEnd w N R (oneC s r)) := by
  have ho : oneC s r = none := oneC_none hw (fun h => by have h1 := h.1; have h2 := h.2; simp at h1; try omega) (fun h => by have h1 := h.1; have h2 := h.2; simp at h1; try omega) (fun h => by have h1 := h.1; have h2 := h.2; simp at h1; try omega)
  rw [ho]
  have HW := Lib.hid hw; have HK := Lib.hid hk
  clear hw hk ho
  rcases hc with rfl | rfl | rfl | rfl
  all_goals
    have HR := Lib.hid hr; have HV := Lib.hid hv; have HS := Lib.hid hs
    have hRw : R < w.heap.size := hr.ex.elim fun A h => h.elim fun c h => h.1.lt
    clear hr hv hs
    go_enter Tryz.func14, Tryz.ntmps14
    go_upto_region 1 with fail
    have bt := Blk.new w 34 #[.int .i64 0, .string ⟨#[]⟩, .string ⟨#[]⟩, .int .i64 0, .slice none 0 0, .slice none 0 0]
    have hb : Below w.heap.size w (w.alloc (.cells #[.int .i64 0, .string ⟨#[]⟩, .string ⟨#[]⟩, .int .i64 0, .slice none 0 0, .slice none 0 0] 34)) := (Below.refl _ _).alloc (Nat.le_refl _) _
    have hRS := HR.out.below hb
    have hNw : N ≤ w.heap.size := by have h1 := HR.out.le; omega
    have hV1 := HV.out.to (hb.mono hNw)
    have hG1 : Gr R w (w.alloc (.cells #[.int .i64 0, .string ⟨#[]⟩, .string ⟨#[]⟩, .int .i64 0, .slice none 0 0, .slice none 0 0] 34)) := Gr.of_below hb
    generalize w.alloc (.cells #[.int .i64 0, .string ⟨#[]⟩, .string ⟨#[]⟩, .int .i64 0, .slice none 0 0, .slice none 0 0] 34) = W at bt hb hRS hV1 hG1 ⊢
    obtain ⟨t0, ht⟩ : ∃ t0, w.heap.size = t0 := ⟨_, rfl⟩
    have HT := Lib.hid ht
    rw [ht] at bt hRw ⊢
    clear ht hb HR HV hNw
    have HBT := Lib.hid bt; have HRS := Lib.hid hRS; have HV := Lib.hid hV1; have HG := Lib.hid hG1; have HRT := Lib.hid hRw
    clear bt hRS hV1 hG1 hRw
    go_wp2_with fail
    refine (Split s 2 W HV.out.vars (by have := HS.out; omega) (by rw [HW.out]; first | rfl | exact HNL.out)).mono ?_
    rintro e w1 ⟨rfl, hrd, hb1⟩
    obtain ⟨B, hB⟩ : ∃ B, W.heap.size = B := ⟨_, rfl⟩
    have hlt : t0 < B := by rw [← hB]; exact HBT.out.lt
    rw [hB] at hrd ⊢
    rw [HW.out] at hrd
    have HBT1 := Lib.hid (HBT.out.below hb1 HBT.out.lt); have HRS1 := Lib.hid (HRS.out.below hb1); have HV1 := Lib.hid (HV.out.to (hb1.mono (by have h1 := HRS.out.le; have h2 := HRT.out; have h3 := HBT.out.lt; omega))); have HG1 := Lib.hid (HG.out.trans (Gr.of_below hb1)); have HLT := Lib.hid hlt
    have HRD := Lib.hid hrd
    have HGA : Hid (∀ o, Gr R w (w1.alloc o)) := Lib.hid (fun o => HG1.out.trans (Gr.of_below ((Below.refl w1.heap.size w1).alloc (Nat.le_refl _) o)))
    have y0 : w1.cell? ⟨B, 0, none⟩ = some (strV [c]) := word_at hrd rfl
    have hBl : B < w1.heap.size := word_lt hrd (by simp)
    clear hB hlt hrd hb1 HBT HRS HV HG
    go_wp2_with fail
    refine (kind_yes c w1).mono ?_
    rintro e w2 ⟨rfl, rfl⟩
    rw [HK.out]
    go_wp2_with fail
    refine (must_no _).mono ?_
    rintro e w2 ⟨rfl, rfl⟩
    go_wp2
    exact ⟨rfl, rfl, HGA.out _⟩

set_option maxRecDepth 100000 in
set_option maxHeartbeats 8000000 in
theorem read_3n (s : List UInt8) (N R : Nat) (r : List UInt8) (w : World) (hs : s.length ≤ 200000) (hr : Rest w N R r) (hv : VN N w) (c : UInt8) (kv : Int) (a1 a2 : List UInt8) (hw : words s = [[c], a1, a2]) (hk : kindB [c] = kv) (hc : kv = -1 ∨ kv = 0 ∨ kv = 1 ∨ kv = 3 ∨ kv = 4) :
    Calls Tryz.prog 14 #[strV s, .func (.func 23) #[] #[.pointer (some ⟨R, 0, none⟩)]] w (RdEnd w N R (oneC s r)) := by
  have ho : oneC s r = none := oneC_none hw (fun h => by have h1 := h.1; have h2 := h.2; simp at h1; try omega) (fun h => by have h1 := h.1; have h2 := h.2; simp at h1; try omega) (fun h => by have h1 := h.1; have h2 := h.2; simp at h1; try omega)
  rw [ho]
  have HW := Lib.hid hw; have HK := Lib.hid hk
  clear hw hk ho
  rcases hc with rfl | rfl | rfl | rfl | rfl
  all_goals
    have HR := Lib.hid hr; have HV := Lib.hid hv; have HS := Lib.hid hs
    have hRw : R < w.heap.size := hr.ex.elim fun A h => h.elim fun c h => h.1.lt
    clear hr hv hs
    go_enter Tryz.func14, Tryz.ntmps14
    go_upto_region 1 with fail
    have bt := Blk.new w 34 #[.int .i64 0, .string ⟨#[]⟩, .string ⟨#[]⟩, .int .i64 0, .slice none 0 0, .slice none 0 0]
    have hb : Below w.heap.size w (w.alloc (.cells #[.int .i64 0, .string ⟨#[]⟩, .string ⟨#[]⟩, .int .i64 0, .slice none 0 0, .slice none 0 0] 34)) := (Below.refl _ _).alloc (Nat.le_refl _) _
    have hRS := HR.out.below hb
    have hNw : N ≤ w.heap.size := by have h1 := HR.out.le; omega
    have hV1 := HV.out.to (hb.mono hNw)
    have hG1 : Gr R w (w.alloc (.cells #[.int .i64 0, .string ⟨#[]⟩, .string ⟨#[]⟩, .int .i64 0, .slice none 0 0, .slice none 0 0] 34)) := Gr.of_below hb
    generalize w.alloc (.cells #[.int .i64 0, .string ⟨#[]⟩, .string ⟨#[]⟩, .int .i64 0, .slice none 0 0, .slice none 0 0] 34) = W at bt hb hRS hV1 hG1 ⊢
    obtain ⟨t0, ht⟩ : ∃ t0, w.heap.size = t0 := ⟨_, rfl⟩
    have HT := Lib.hid ht
    rw [ht] at bt hRw ⊢
    clear ht hb HR HV hNw
    have HBT := Lib.hid bt; have HRS := Lib.hid hRS; have HV := Lib.hid hV1; have HG := Lib.hid hG1; have HRT := Lib.hid hRw
    clear bt hRS hV1 hG1 hRw
    go_wp2_with fail
    refine (Split s 3 W HV.out.vars (by have := HS.out; omega) (by rw [HW.out]; first | rfl | exact HNL.out)).mono ?_
    rintro e w1 ⟨rfl, hrd, hb1⟩
    obtain ⟨B, hB⟩ : ∃ B, W.heap.size = B := ⟨_, rfl⟩
    have hlt : t0 < B := by rw [← hB]; exact HBT.out.lt
    rw [hB] at hrd ⊢
    rw [HW.out] at hrd
    have HBT1 := Lib.hid (HBT.out.below hb1 HBT.out.lt); have HRS1 := Lib.hid (HRS.out.below hb1); have HV1 := Lib.hid (HV.out.to (hb1.mono (by have h1 := HRS.out.le; have h2 := HRT.out; have h3 := HBT.out.lt; omega))); have HG1 := Lib.hid (HG.out.trans (Gr.of_below hb1)); have HLT := Lib.hid hlt
    have HRD := Lib.hid hrd
    have HGA : Hid (∀ o, Gr R w (w1.alloc o)) := Lib.hid (fun o => HG1.out.trans (Gr.of_below ((Below.refl w1.heap.size w1).alloc (Nat.le_refl _) o)))
    have y0 : w1.cell? ⟨B, 0, none⟩ = some (strV [c]) := word_at hrd rfl
    have hBl : B < w1.heap.size := word_lt hrd (by simp)
    clear hB hlt hrd hb1 HBT HRS HV HG
    go_wp2_with fail
    refine (kind_yes c w1).mono ?_
    rintro e w2 ⟨rfl, rfl⟩
    rw [HK.out]
    go_wp2_with fail
    refine (must_no _).mono ?_
    rintro e w2 ⟨rfl, rfl⟩
    go_wp2
    exact ⟨rfl, rfl, HGA.out _⟩

set_option maxRecDepth 100000 in
set_option maxHeartbeats 8000000 in
theorem read_5n (s : List UInt8) (N R : Nat) (r : List UInt8) (w : World) (hs : s.length ≤ 200000) (hr : Rest w N R r) (hv : VN N w) (c : UInt8) (kv : Int) (a1 a2 a3 a4 : List UInt8) (hw : words s = [[c], a1, a2, a3, a4]) (hk : kindB [c] = kv) (hc : kv = -1 ∨ kv = 0 ∨ kv = 1 ∨ kv = 2) :
    Calls Tryz.prog 14 #[strV s, .func (.func 23) #[] #[.pointer (some ⟨R, 0, none⟩)]] w (RdEnd w N R (oneC s r)) := by
  have ho : oneC s r = none := oneC_none hw (fun h => by have h1 := h.1; have h2 := h.2; simp at h1; try omega) (fun h => by have h1 := h.1; have h2 := h.2; simp at h1; try omega) (fun h => by have h1 := h.1; have h2 := h.2; simp at h1; try omega)
  rw [ho]
  have HW := Lib.hid hw; have HK := Lib.hid hk
  clear hw hk ho
  rcases hc with rfl | rfl | rfl | rfl
  all_goals
    have HR := Lib.hid hr; have HV := Lib.hid hv; have HS := Lib.hid hs
    have hRw : R < w.heap.size := hr.ex.elim fun A h => h.elim fun c h => h.1.lt
    clear hr hv hs
    go_enter Tryz.func14, Tryz.ntmps14
    go_upto_region 1 with fail
    have bt := Blk.new w 34 #[.int .i64 0, .string ⟨#[]⟩, .string ⟨#[]⟩, .int .i64 0, .slice none 0 0, .slice none 0 0]
    have hb : Below w.heap.size w (w.alloc (.cells #[.int .i64 0, .string ⟨#[]⟩, .string ⟨#[]⟩, .int .i64 0, .slice none 0 0, .slice none 0 0] 34)) := (Below.refl _ _).alloc (Nat.le_refl _) _
    have hRS := HR.out.below hb
    have hNw : N ≤ w.heap.size := by have h1 := HR.out.le; omega
    have hV1 := HV.out.to (hb.mono hNw)
    have hG1 : Gr R w (w.alloc (.cells #[.int .i64 0, .string ⟨#[]⟩, .string ⟨#[]⟩, .int .i64 0, .slice none 0 0, .slice none 0 0] 34)) := Gr.of_below hb
    generalize w.alloc (.cells #[.int .i64 0, .string ⟨#[]⟩, .string ⟨#[]⟩, .int .i64 0, .slice none 0 0, .slice none 0 0] 34) = W at bt hb hRS hV1 hG1 ⊢
    obtain ⟨t0, ht⟩ : ∃ t0, w.heap.size = t0 := ⟨_, rfl⟩
    have HT := Lib.hid ht
    rw [ht] at bt hRw ⊢
    clear ht hb HR HV hNw
    have HBT := Lib.hid bt; have HRS := Lib.hid hRS; have HV := Lib.hid hV1; have HG := Lib.hid hG1; have HRT := Lib.hid hRw
    clear bt hRS hV1 hG1 hRw
    go_wp2_with fail
    refine (Split s 5 W HV.out.vars (by have := HS.out; omega) (by rw [HW.out]; first | rfl | exact HNL.out)).mono ?_
    rintro e w1 ⟨rfl, hrd, hb1⟩
    obtain ⟨B, hB⟩ : ∃ B, W.heap.size = B := ⟨_, rfl⟩
    have hlt : t0 < B := by rw [← hB]; exact HBT.out.lt
    rw [hB] at hrd ⊢
    rw [HW.out] at hrd
    have HBT1 := Lib.hid (HBT.out.below hb1 HBT.out.lt); have HRS1 := Lib.hid (HRS.out.below hb1); have HV1 := Lib.hid (HV.out.to (hb1.mono (by have h1 := HRS.out.le; have h2 := HRT.out; have h3 := HBT.out.lt; omega))); have HG1 := Lib.hid (HG.out.trans (Gr.of_below hb1)); have HLT := Lib.hid hlt
    have HRD := Lib.hid hrd
    have HGA : Hid (∀ o, Gr R w (w1.alloc o)) := Lib.hid (fun o => HG1.out.trans (Gr.of_below ((Below.refl w1.heap.size w1).alloc (Nat.le_refl _) o)))
    have y0 : w1.cell? ⟨B, 0, none⟩ = some (strV [c]) := word_at hrd rfl
    have hBl : B < w1.heap.size := word_lt hrd (by simp)
    clear hB hlt hrd hb1 HBT HRS HV HG
    go_wp2_with fail
    refine (kind_yes c w1).mono ?_
    rintro e w2 ⟨rfl, rfl⟩
    rw [HK.out]
    go_wp2_with fail
    refine (must_no _).mono ?_
    rintro e w2 ⟨rfl, rfl⟩
    go_wp2
    exact ⟨rfl, rfl, HGA.out _⟩

theorem grownBy_set6 (X : World) (b : Nat) (v0 v1 v2 v3 v4 v5 : Value) : X.grownBy (World.setCell (World.setCell (World.setCell (World.setCell (World.setCell (World.setCell X ⟨b, 0, none⟩ v0) ⟨b, 1, none⟩ v1) ⟨b, 2, none⟩ v2) ⟨b, 3, none⟩ v3) ⟨b, 4, none⟩ v4) ⟨b, 5, none⟩ v5) (some b) :=
  (((((grownBy_set X b 0 v0).trans (grownBy_set _ b 1 v1)).trans (grownBy_set _ b 2 v2)).trans (grownBy_set _ b 3 v3)).trans (grownBy_set _ b 4 v4)).trans (grownBy_set _ b 5 v5)
theorem pv_light (W : World) (k : Int) (nm tn : List UInt8) (hk : 0 ≤ k ∧ k ≤ 4) (hn : nm.length ≤ 200000) (ht : tn.length ≤ 200000) : PV W W.heap.size none 0 0 none 0 0 ⟨k, nm, tn, noneH⟩ :=
  ⟨⟨rfl, rfl, Nat.le_refl _, Nat.le_refl _, by decide, by decide, .inl rfl, .inl rfl, ⟨show (-9223372036854775808 : Int) ≤ 0 by decide, show (0 : Int) ≤ 9223372036854775807 by decide⟩⟩, by constructor <;> (simp only; omega), by simp only; unfold maxLen; omega, by simp only; unfold maxLen; omega, fun x hx => (by cases hx), fun x hx => (by cases hx)⟩

theorem cell_bel {X Y : World} {p : Addr} {u : Value} (hc : X.cell? p = some u) (hb : Below X.heap.size X Y) : Y.cell? p = some u := (World.cell?_of_block (hb.block _ (World.block_lt_of_cell? X _ hc))).trans hc
/-- What stands while a change of lines is read: its box at P, the result's at t0, what is left, the words at B. -/
structure RI (w : World) (N R t0 P B : Nat) (x y : List UInt8) (r : List UInt8) (cs : Array Value) (X : World) : Prop where
  bp : Blk X P 34 cs
  bz : Blk X t0 34 #[.int .i64 0, .string ⟨#[]⟩, .string ⟨#[]⟩, .int .i64 0, .slice none 0 0, .slice none 0 0]
  rs : Rest X N R r
  gr : Gr R w X
  vn : VN N X
  cx : X.cell? ⟨B, 3, none⟩ = some (strV x)
  cy : X.cell? ⟨B, 4, none⟩ = some (strV y)
  o0 : w.heap.size = t0
  o1 : R < t0
  o2 : t0 < P
  o3 : B ≠ P
  o4 : t0 < B
section
variable {w X Y : World} {N R t0 P B : Nat} {x y r r' : List UInt8} {cs : Array Value}
theorem RI.nx (h : RI w N R t0 P B x y r cs X) : N ≤ X.heap.size := by have h1 := h.rs.le; have h2 := h.o1; have h3 := h.bz.lt; omega
theorem RI.below (h : RI w N R t0 P B x y r cs X) (hb : Below X.heap.size X Y) : RI w N R t0 P B x y r cs Y :=
  ⟨h.bp.below hb h.bp.lt, h.bz.below hb h.bz.lt, h.rs.below hb, h.gr.trans (Gr.of_below hb), h.vn.to (hb.mono h.nx), cell_bel h.cx hb, cell_bel h.cy hb, h.o0, h.o1, h.o2, h.o3, h.o4⟩
theorem RI.set (h : RI w N R t0 P B x y r cs X) (j : Nat) (v : Value) : RI w N R t0 P B x y r (cs.setIfInBounds j v) (X.setCell ⟨P, j, none⟩ v) := by
  have hg := grownBy_set X P j v
  have hN := h.rs.le; have h0 := h.o0; have h1 := h.o1; have h2 := h.o2; have h4 := h.o4
  exact ⟨h.bp.set j v, h.bz.set_ne (by omega) j v, h.rs.gr hg (fun e => by injection e with e; omega) (fun b e => by injection e with e; omega), h.gr.grown hg (fun b e => by injection e with e; omega),
    h.vn.to ((Below.refl N X).grown hg h.nx (fun b e => by injection e with e; omega)), cell_set h.cx h.o3 j v, cell_set h.cy h.o3 j v, h.o0, h.o1, h.o2, h.o3, h.o4⟩
theorem RI.read (h : RI w N R t0 P B x y r cs X) (hr : Rest Y N R r') (hg : Gr R X Y) : RI w N R t0 P B x y r' cs Y := by
  have hN := h.rs.le; have h1 := h.o1; have h2 := h.o2; have h4 := h.o4
  exact ⟨hg.blk h.bp (by omega), hg.blk h.bz (by omega), hr, h.gr.trans hg, h.vn.to (hg.below hN h.nx), cell_gr hg (fun e => by injection e with e; simp only at e; omega) h.cx, cell_gr hg (fun e => by injection e with e; simp only at e; omega) h.cy, h.o0, h.o1, h.o2, h.o3, h.o4⟩
end
/-- Lines in memory from lo on, all below M. -/
def Ln (W : World) (lo : Nat) (A : Option Addr) (ls : List (List UInt8)) : Prop := RdS W W.heap.size A ls ∧ Hi lo A
theorem Ln.gr {W W' : World} {lo b : Nat} {A : Option Addr} {ls : List (List UInt8)} (h : Ln W lo A ls) (hg : W.grownBy W' (some b)) (hb : b < lo) : Ln W' lo A ls := by
  refine ⟨?_, h.2⟩
  rcases h.1 with h0 | ⟨a, e, hl, hc⟩
  · exact .inl h0
  · refine .inr ⟨a, e, Nat.lt_of_lt_of_le hl hg.size, fun j u hu => cell_gr hg (fun e1 => ?_) (hc j u hu)⟩
    have h2 := h.2 a e
    rw [add_block] at e1
    injection e1 with e1
    omega
theorem ln_own {W X : World} {n c : Nat} {A : Option Addr} {ls : List (List UInt8)} {lo : Nat} (h : W.ownsRow X.heap.size 9 1 (.slice A n c) n (ls.map strV)) (hr : RdS W W.heap.size A ls) (hl : lo ≤ X.heap.size) : Ln W lo A ls := ⟨hr, (hi_own h).mono hl⟩
theorem sg_mem {c : UInt8} {x : List UInt8} : ∀ {ls : List (List UInt8)}, x ∈ ls → x.length ≤ (sg c ls).length
  | l :: ls, h => by
    have e : sg c (l :: ls) = (c :: l ++ [10]) ++ sg c ls := by unfold sg; rw [List.flatMap_cons]
    rw [e]
    rcases List.mem_cons.1 h with e1 | e1
    · rw [e1]; simp only [List.length_append, List.length_cons, List.length_nil]; omega
    · have := sg_mem (c := c) e1; rw [List.length_append]; omega

set_option maxRecDepth 100000 in
set_option maxHeartbeats 8000000 in
theorem read_0 (s : List UInt8) (N R : Nat) (r : List UInt8) (w : World) (hs : s.length ≤ 200000) (hr : Rest w N R r) (hv : VN N w) (c : UInt8) (nm : List UInt8) (hw : words s = [[c], nm]) (hk : kindB [c] = 0) :
    Calls Tryz.prog 14 #[strV s, .func (.func 23) #[] #[.pointer (some ⟨R, 0, none⟩)]] w (RdEnd w N R (oneC s r)) := by
  have HO : Hid (oneC s r = some (⟨0, nm, [], noneH⟩, r)) := Lib.hid (by unfold oneC; rw [hw]; simp only [hk]; rfl)
  have HW := Lib.hid hw; have HK := Lib.hid hk
  clear hw hk
  have HR := Lib.hid hr; have HV := Lib.hid hv; have HS := Lib.hid hs
  have hRw : R < w.heap.size := hr.ex.elim fun A h => h.elim fun c h => h.1.lt
  clear hr hv hs
  go_enter Tryz.func14, Tryz.ntmps14
  go_upto_region 1 with fail
  have bt := Blk.new w 34 #[.int .i64 0, .string ⟨#[]⟩, .string ⟨#[]⟩, .int .i64 0, .slice none 0 0, .slice none 0 0]
  have hb : Below w.heap.size w (w.alloc (.cells #[.int .i64 0, .string ⟨#[]⟩, .string ⟨#[]⟩, .int .i64 0, .slice none 0 0, .slice none 0 0] 34)) := (Below.refl _ _).alloc (Nat.le_refl _) _
  have hRS := HR.out.below hb
  have hNw : N ≤ w.heap.size := by have h1 := HR.out.le; omega
  have hV1 := HV.out.to (hb.mono hNw)
  have hG1 : Gr R w (w.alloc (.cells #[.int .i64 0, .string ⟨#[]⟩, .string ⟨#[]⟩, .int .i64 0, .slice none 0 0, .slice none 0 0] 34)) := Gr.of_below hb
  generalize w.alloc (.cells #[.int .i64 0, .string ⟨#[]⟩, .string ⟨#[]⟩, .int .i64 0, .slice none 0 0, .slice none 0 0] 34) = W at bt hb hRS hV1 hG1 ⊢
  obtain ⟨t0, ht⟩ : ∃ t0, w.heap.size = t0 := ⟨_, rfl⟩
  have HT := Lib.hid ht
  rw [ht] at bt hRw ⊢
  clear ht hb HR HV hNw
  have HBT := Lib.hid bt; have HRS := Lib.hid hRS; have HV := Lib.hid hV1; have HG := Lib.hid hG1; have HRT := Lib.hid hRw
  clear bt hRS hV1 hG1 hRw
  go_wp2_with fail
  refine (Split s 2 W HV.out.vars (by have := HS.out; omega) (by rw [HW.out]; first | rfl | exact HNL.out)).mono ?_
  rintro e w1 ⟨rfl, hrd, hb1⟩
  obtain ⟨B, hB⟩ : ∃ B, W.heap.size = B := ⟨_, rfl⟩
  have hlt : t0 < B := by rw [← hB]; exact HBT.out.lt
  rw [hB] at hrd ⊢
  rw [HW.out] at hrd
  have HBT1 := Lib.hid (HBT.out.below hb1 HBT.out.lt); have HRS1 := Lib.hid (HRS.out.below hb1); have HV1 := Lib.hid (HV.out.to (hb1.mono (by have h1 := HRS.out.le; have h2 := HRT.out; have h3 := HBT.out.lt; omega))); have HG1 := Lib.hid (HG.out.trans (Gr.of_below hb1)); have HLT := Lib.hid hlt
  have HRD := Lib.hid hrd
  have HGA : Hid (∀ o, Gr R w (w1.alloc o)) := Lib.hid (fun o => HG1.out.trans (Gr.of_below ((Below.refl w1.heap.size w1).alloc (Nat.le_refl _) o)))
  have y0 : w1.cell? ⟨B, 0, none⟩ = some (strV [c]) := word_at hrd rfl
  have y1 : w1.cell? ⟨B, 1, none⟩ = some (strV nm) := word_at hrd rfl
  have hBl : B < w1.heap.size := word_lt hrd (by simp)
  clear hB hlt hrd hb1 HBT HRS HV HG
  go_wp2_with fail
  refine (kind_yes c w1).mono ?_
  rintro e w2 ⟨rfl, rfl⟩
  rw [HK.out]
  go_upto_region 14 with fail
  have bp := Blk.new w1 34 #[.int .i64 0, strV nm, .string ⟨#[]⟩, .int .i64 0, .slice none 0 0, .slice none 0 0]
  have bz := HBT1.out.alloc (.cells #[.int .i64 0, strV nm, .string ⟨#[]⟩, .int .i64 0, .slice none 0 0, .slice none 0 0] 34)
  have hba : Below w1.heap.size w1 (w1.alloc (.cells #[.int .i64 0, strV nm, .string ⟨#[]⟩, .int .i64 0, .slice none 0 0, .slice none 0 0] 34)) := (Below.refl _ _).alloc (Nat.le_refl _) _
  have hgx := HGA.out (.cells #[.int .i64 0, strV nm, .string ⟨#[]⟩, .int .i64 0, .slice none 0 0, .slice none 0 0] 34)
  have hrx := HRS1.out.below hba
  have hvx := HV1.out.to (hba.mono (by have h1 := HRS1.out.le; have h2 := HRT.out; have h3 := HBT1.out.lt; omega))
  have hpt : t0 < w1.heap.size := HBT1.out.lt
  have hrdx := HRD.out.below hba
  clear y0
  clear y1
  generalize w1.alloc (.cells #[.int .i64 0, strV nm, .string ⟨#[]⟩, .int .i64 0, .slice none 0 0, .slice none 0 0] 34) = X at bp bz hba hgx hrx hvx hrdx ⊢
  generalize w1.heap.size = P at bp hpt hba hrdx ⊢
  have HPT := Lib.hid hpt; have HGX := Lib.hid hgx; have HRX := Lib.hid hrx; have HVX := Lib.hid hvx; have HRDX := Lib.hid hrdx
  have y0 : X.cell? ⟨B, 0, none⟩ = some (strV [c]) := word_at hrdx rfl
  have y1 : X.cell? ⟨B, 1, none⟩ = some (strV nm) := word_at hrdx rfl
  clear hpt hgx hrx hvx hba hrdx hBl HGA HRS1 HV1 HBT1 HG1
  clear y0 y1
  have p0 : X.cell? ⟨P, 0, none⟩ = some (.int .i64 0) := bp.cell 0 rfl
  have p1 : X.cell? ⟨P, 1, none⟩ = some (strV nm) := bp.cell 1 rfl
  have p2 : X.cell? ⟨P, 2, none⟩ = some (.string ⟨#[]⟩) := bp.cell 2 rfl
  have p3 : X.cell? ⟨P, 3, none⟩ = some (.int .i64 0) := bp.cell 3 rfl
  have p4 : X.cell? ⟨P, 4, none⟩ = some (.slice none 0 0) := bp.cell 4 rfl
  have p5 : X.cell? ⟨P, 5, none⟩ = some (.slice none 0 0) := bp.cell 5 rfl
  have z0 : X.cell? ⟨t0, 0, none⟩ = some (.int .i64 0) := bz.cell 0 rfl
  have z1 : X.cell? ⟨t0, 1, none⟩ = some (.string ⟨#[]⟩) := bz.cell 1 rfl
  have z2 : X.cell? ⟨t0, 2, none⟩ = some (.string ⟨#[]⟩) := bz.cell 2 rfl
  have z3 : X.cell? ⟨t0, 3, none⟩ = some (.int .i64 0) := bz.cell 3 rfl
  have z4 : X.cell? ⟨t0, 4, none⟩ = some (.slice none 0 0) := bz.cell 4 rfl
  have z5 : X.cell? ⟨t0, 5, none⟩ = some (.slice none 0 0) := bz.cell 5 rfl
  have f0 : X.frozen? ⟨t0, 0, none⟩ = false := bz.frozen 0
  have f1 : X.frozen? ⟨t0, 1, none⟩ = false := bz.frozen 1
  have f2 : X.frozen? ⟨t0, 2, none⟩ = false := bz.frozen 2
  have f3 : X.frozen? ⟨t0, 3, none⟩ = false := bz.frozen 3
  have f4 : X.frozen? ⟨t0, 4, none⟩ = false := bz.frozen 4
  have f5 : X.frozen? ⟨t0, 5, none⟩ = false := bz.frozen 5
  have b6 := blk6 bz (.int .i64 0) (strV nm) (.string ⟨#[]⟩) (.int .i64 0) (.slice none 0 0) (.slice none 0 0)
  have B6 := Lib.hid b6; have BZ := Lib.hid bz
  have hneP : P ≠ t0 := by have := HPT.out; omega
  clear b6 bp bz
  go_wp2
  clear p0 z0 f0 p1 z1 f1 p2 z2 f2 p3 z3 f3 p4 z4 f4 p5 z5 f5
  have hg6 : X.grownBy (World.setCell (World.setCell (World.setCell (World.setCell (World.setCell (World.setCell X ⟨t0, 0, none⟩ (.int .i64 0)) ⟨t0, 1, none⟩ (strV nm)) ⟨t0, 2, none⟩ (.string ⟨#[]⟩)) ⟨t0, 3, none⟩ (.int .i64 0)) ⟨t0, 4, none⟩ (.slice none 0 0)) ⟨t0, 5, none⟩ (.slice none 0 0)) (some t0) := grownBy_set6 X t0 _ _ _ _ _ _
  have b6 := B6.out
  clear B6
  generalize World.setCell (World.setCell (World.setCell (World.setCell (World.setCell (World.setCell X ⟨t0, 0, none⟩ (.int .i64 0)) ⟨t0, 1, none⟩ (strV nm)) ⟨t0, 2, none⟩ (.string ⟨#[]⟩)) ⟨t0, 3, none⟩ (.int .i64 0)) ⟨t0, 4, none⟩ (.slice none 0 0)) ⟨t0, 5, none⟩ (.slice none 0 0) = X6 at b6 hg6 ⊢
  have q0 : X6.cell? ⟨t0, 0, none⟩ = some (.int .i64 0) := b6.cell 0 rfl
  have q1 : X6.cell? ⟨t0, 1, none⟩ = some (strV nm) := b6.cell 1 rfl
  have q2 : X6.cell? ⟨t0, 2, none⟩ = some (.string ⟨#[]⟩) := b6.cell 2 rfl
  have q3 : X6.cell? ⟨t0, 3, none⟩ = some (.int .i64 0) := b6.cell 3 rfl
  have q4 : X6.cell? ⟨t0, 4, none⟩ = some (.slice none 0 0) := b6.cell 4 rfl
  have q5 : X6.cell? ⟨t0, 5, none⟩ = some (.slice none 0 0) := b6.cell 5 rfl
  refine bodyPost_ret (v := .agg #[.int .i64 0, strV nm, .string ⟨#[]⟩, .int .i64 0, .slice none 0 0, .slice none 0 0]) (by simp [results, Tryz.results14, go_sem, q0, q1, q2, q3, q4, q5]) rfl ?_
  have hN := HRX.out.le; have hrt := HRT.out; have ht := HT.out; have hs6 := HS.out
  have l1 := word_len (s := s) (x := nm) (by rw [HW.out]; simp)
  rw [HO.out]
  exact ⟨none, 0, 0, none, 0, 0, rfl, pv_light X6 0 nm [] (by decide) (by omega) (by simp), hi_none _, hi_none _, HRX.out.gr hg6 (fun e => by injection e with e; omega) (fun b e => by injection e with e; omega), HGX.out.grown hg6 (fun b e => by injection e with e; omega)⟩

set_option maxRecDepth 100000 in
set_option maxHeartbeats 8000000 in
theorem read_1 (s : List UInt8) (N R : Nat) (r : List UInt8) (w : World) (hs : s.length ≤ 200000) (hr : Rest w N R r) (hv : VN N w) (c : UInt8) (nm : List UInt8) (hw : words s = [[c], nm]) (hk : kindB [c] = 1) :
    Calls Tryz.prog 14 #[strV s, .func (.func 23) #[] #[.pointer (some ⟨R, 0, none⟩)]] w (RdEnd w N R (oneC s r)) := by
  have HO : Hid (oneC s r = some (⟨1, nm, [], noneH⟩, r)) := Lib.hid (by unfold oneC; rw [hw]; simp only [hk]; rfl)
  have HW := Lib.hid hw; have HK := Lib.hid hk
  clear hw hk
  have HR := Lib.hid hr; have HV := Lib.hid hv; have HS := Lib.hid hs
  have hRw : R < w.heap.size := hr.ex.elim fun A h => h.elim fun c h => h.1.lt
  clear hr hv hs
  go_enter Tryz.func14, Tryz.ntmps14
  go_upto_region 1 with fail
  have bt := Blk.new w 34 #[.int .i64 0, .string ⟨#[]⟩, .string ⟨#[]⟩, .int .i64 0, .slice none 0 0, .slice none 0 0]
  have hb : Below w.heap.size w (w.alloc (.cells #[.int .i64 0, .string ⟨#[]⟩, .string ⟨#[]⟩, .int .i64 0, .slice none 0 0, .slice none 0 0] 34)) := (Below.refl _ _).alloc (Nat.le_refl _) _
  have hRS := HR.out.below hb
  have hNw : N ≤ w.heap.size := by have h1 := HR.out.le; omega
  have hV1 := HV.out.to (hb.mono hNw)
  have hG1 : Gr R w (w.alloc (.cells #[.int .i64 0, .string ⟨#[]⟩, .string ⟨#[]⟩, .int .i64 0, .slice none 0 0, .slice none 0 0] 34)) := Gr.of_below hb
  generalize w.alloc (.cells #[.int .i64 0, .string ⟨#[]⟩, .string ⟨#[]⟩, .int .i64 0, .slice none 0 0, .slice none 0 0] 34) = W at bt hb hRS hV1 hG1 ⊢
  obtain ⟨t0, ht⟩ : ∃ t0, w.heap.size = t0 := ⟨_, rfl⟩
  have HT := Lib.hid ht
  rw [ht] at bt hRw ⊢
  clear ht hb HR HV hNw
  have HBT := Lib.hid bt; have HRS := Lib.hid hRS; have HV := Lib.hid hV1; have HG := Lib.hid hG1; have HRT := Lib.hid hRw
  clear bt hRS hV1 hG1 hRw
  go_wp2_with fail
  refine (Split s 2 W HV.out.vars (by have := HS.out; omega) (by rw [HW.out]; first | rfl | exact HNL.out)).mono ?_
  rintro e w1 ⟨rfl, hrd, hb1⟩
  obtain ⟨B, hB⟩ : ∃ B, W.heap.size = B := ⟨_, rfl⟩
  have hlt : t0 < B := by rw [← hB]; exact HBT.out.lt
  rw [hB] at hrd ⊢
  rw [HW.out] at hrd
  have HBT1 := Lib.hid (HBT.out.below hb1 HBT.out.lt); have HRS1 := Lib.hid (HRS.out.below hb1); have HV1 := Lib.hid (HV.out.to (hb1.mono (by have h1 := HRS.out.le; have h2 := HRT.out; have h3 := HBT.out.lt; omega))); have HG1 := Lib.hid (HG.out.trans (Gr.of_below hb1)); have HLT := Lib.hid hlt
  have HRD := Lib.hid hrd
  have HGA : Hid (∀ o, Gr R w (w1.alloc o)) := Lib.hid (fun o => HG1.out.trans (Gr.of_below ((Below.refl w1.heap.size w1).alloc (Nat.le_refl _) o)))
  have y0 : w1.cell? ⟨B, 0, none⟩ = some (strV [c]) := word_at hrd rfl
  have y1 : w1.cell? ⟨B, 1, none⟩ = some (strV nm) := word_at hrd rfl
  have hBl : B < w1.heap.size := word_lt hrd (by simp)
  clear hB hlt hrd hb1 HBT HRS HV HG
  go_wp2_with fail
  refine (kind_yes c w1).mono ?_
  rintro e w2 ⟨rfl, rfl⟩
  rw [HK.out]
  go_upto_region 14 with fail
  have bp := Blk.new w1 34 #[.int .i64 1, strV nm, .string ⟨#[]⟩, .int .i64 0, .slice none 0 0, .slice none 0 0]
  have bz := HBT1.out.alloc (.cells #[.int .i64 1, strV nm, .string ⟨#[]⟩, .int .i64 0, .slice none 0 0, .slice none 0 0] 34)
  have hba : Below w1.heap.size w1 (w1.alloc (.cells #[.int .i64 1, strV nm, .string ⟨#[]⟩, .int .i64 0, .slice none 0 0, .slice none 0 0] 34)) := (Below.refl _ _).alloc (Nat.le_refl _) _
  have hgx := HGA.out (.cells #[.int .i64 1, strV nm, .string ⟨#[]⟩, .int .i64 0, .slice none 0 0, .slice none 0 0] 34)
  have hrx := HRS1.out.below hba
  have hvx := HV1.out.to (hba.mono (by have h1 := HRS1.out.le; have h2 := HRT.out; have h3 := HBT1.out.lt; omega))
  have hpt : t0 < w1.heap.size := HBT1.out.lt
  have hrdx := HRD.out.below hba
  clear y0
  clear y1
  generalize w1.alloc (.cells #[.int .i64 1, strV nm, .string ⟨#[]⟩, .int .i64 0, .slice none 0 0, .slice none 0 0] 34) = X at bp bz hba hgx hrx hvx hrdx ⊢
  generalize w1.heap.size = P at bp hpt hba hrdx ⊢
  have HPT := Lib.hid hpt; have HGX := Lib.hid hgx; have HRX := Lib.hid hrx; have HVX := Lib.hid hvx; have HRDX := Lib.hid hrdx
  have y0 : X.cell? ⟨B, 0, none⟩ = some (strV [c]) := word_at hrdx rfl
  have y1 : X.cell? ⟨B, 1, none⟩ = some (strV nm) := word_at hrdx rfl
  clear hpt hgx hrx hvx hba hrdx hBl HGA HRS1 HV1 HBT1 HG1
  clear y0 y1
  have p0 : X.cell? ⟨P, 0, none⟩ = some (.int .i64 1) := bp.cell 0 rfl
  have p1 : X.cell? ⟨P, 1, none⟩ = some (strV nm) := bp.cell 1 rfl
  have p2 : X.cell? ⟨P, 2, none⟩ = some (.string ⟨#[]⟩) := bp.cell 2 rfl
  have p3 : X.cell? ⟨P, 3, none⟩ = some (.int .i64 0) := bp.cell 3 rfl
  have p4 : X.cell? ⟨P, 4, none⟩ = some (.slice none 0 0) := bp.cell 4 rfl
  have p5 : X.cell? ⟨P, 5, none⟩ = some (.slice none 0 0) := bp.cell 5 rfl
  have z0 : X.cell? ⟨t0, 0, none⟩ = some (.int .i64 0) := bz.cell 0 rfl
  have z1 : X.cell? ⟨t0, 1, none⟩ = some (.string ⟨#[]⟩) := bz.cell 1 rfl
  have z2 : X.cell? ⟨t0, 2, none⟩ = some (.string ⟨#[]⟩) := bz.cell 2 rfl
  have z3 : X.cell? ⟨t0, 3, none⟩ = some (.int .i64 0) := bz.cell 3 rfl
  have z4 : X.cell? ⟨t0, 4, none⟩ = some (.slice none 0 0) := bz.cell 4 rfl
  have z5 : X.cell? ⟨t0, 5, none⟩ = some (.slice none 0 0) := bz.cell 5 rfl
  have f0 : X.frozen? ⟨t0, 0, none⟩ = false := bz.frozen 0
  have f1 : X.frozen? ⟨t0, 1, none⟩ = false := bz.frozen 1
  have f2 : X.frozen? ⟨t0, 2, none⟩ = false := bz.frozen 2
  have f3 : X.frozen? ⟨t0, 3, none⟩ = false := bz.frozen 3
  have f4 : X.frozen? ⟨t0, 4, none⟩ = false := bz.frozen 4
  have f5 : X.frozen? ⟨t0, 5, none⟩ = false := bz.frozen 5
  have b6 := blk6 bz (.int .i64 1) (strV nm) (.string ⟨#[]⟩) (.int .i64 0) (.slice none 0 0) (.slice none 0 0)
  have B6 := Lib.hid b6; have BZ := Lib.hid bz
  have hneP : P ≠ t0 := by have := HPT.out; omega
  clear b6 bp bz
  go_wp2
  clear p0 z0 f0 p1 z1 f1 p2 z2 f2 p3 z3 f3 p4 z4 f4 p5 z5 f5
  have hg6 : X.grownBy (World.setCell (World.setCell (World.setCell (World.setCell (World.setCell (World.setCell X ⟨t0, 0, none⟩ (.int .i64 1)) ⟨t0, 1, none⟩ (strV nm)) ⟨t0, 2, none⟩ (.string ⟨#[]⟩)) ⟨t0, 3, none⟩ (.int .i64 0)) ⟨t0, 4, none⟩ (.slice none 0 0)) ⟨t0, 5, none⟩ (.slice none 0 0)) (some t0) := grownBy_set6 X t0 _ _ _ _ _ _
  have b6 := B6.out
  clear B6
  generalize World.setCell (World.setCell (World.setCell (World.setCell (World.setCell (World.setCell X ⟨t0, 0, none⟩ (.int .i64 1)) ⟨t0, 1, none⟩ (strV nm)) ⟨t0, 2, none⟩ (.string ⟨#[]⟩)) ⟨t0, 3, none⟩ (.int .i64 0)) ⟨t0, 4, none⟩ (.slice none 0 0)) ⟨t0, 5, none⟩ (.slice none 0 0) = X6 at b6 hg6 ⊢
  have q0 : X6.cell? ⟨t0, 0, none⟩ = some (.int .i64 1) := b6.cell 0 rfl
  have q1 : X6.cell? ⟨t0, 1, none⟩ = some (strV nm) := b6.cell 1 rfl
  have q2 : X6.cell? ⟨t0, 2, none⟩ = some (.string ⟨#[]⟩) := b6.cell 2 rfl
  have q3 : X6.cell? ⟨t0, 3, none⟩ = some (.int .i64 0) := b6.cell 3 rfl
  have q4 : X6.cell? ⟨t0, 4, none⟩ = some (.slice none 0 0) := b6.cell 4 rfl
  have q5 : X6.cell? ⟨t0, 5, none⟩ = some (.slice none 0 0) := b6.cell 5 rfl
  refine bodyPost_ret (v := .agg #[.int .i64 1, strV nm, .string ⟨#[]⟩, .int .i64 0, .slice none 0 0, .slice none 0 0]) (by simp [results, Tryz.results14, go_sem, q0, q1, q2, q3, q4, q5]) rfl ?_
  have hN := HRX.out.le; have hrt := HRT.out; have ht := HT.out; have hs6 := HS.out
  have l1 := word_len (s := s) (x := nm) (by rw [HW.out]; simp)
  rw [HO.out]
  exact ⟨none, 0, 0, none, 0, 0, rfl, pv_light X6 1 nm [] (by decide) (by omega) (by simp), hi_none _, hi_none _, HRX.out.gr hg6 (fun e => by injection e with e; omega) (fun b e => by injection e with e; omega), HGX.out.grown hg6 (fun b e => by injection e with e; omega)⟩

set_option maxRecDepth 100000 in
set_option maxHeartbeats 8000000 in
theorem read_2 (s : List UInt8) (N R : Nat) (r : List UInt8) (w : World) (hs : s.length ≤ 200000) (hr : Rest w N R r) (hv : VN N w) (c : UInt8) (nm tn : List UInt8) (hw : words s = [[c], nm, tn]) (hk : kindB [c] = 2) :
    Calls Tryz.prog 14 #[strV s, .func (.func 23) #[] #[.pointer (some ⟨R, 0, none⟩)]] w (RdEnd w N R (oneC s r)) := by
  have HO : Hid (oneC s r = some (⟨2, nm, tn, noneH⟩, r)) := Lib.hid (by unfold oneC; rw [hw]; simp only [hk]; rfl)
  have HW := Lib.hid hw; have HK := Lib.hid hk
  clear hw hk
  have HR := Lib.hid hr; have HV := Lib.hid hv; have HS := Lib.hid hs
  have hRw : R < w.heap.size := hr.ex.elim fun A h => h.elim fun c h => h.1.lt
  clear hr hv hs
  go_enter Tryz.func14, Tryz.ntmps14
  go_upto_region 1 with fail
  have bt := Blk.new w 34 #[.int .i64 0, .string ⟨#[]⟩, .string ⟨#[]⟩, .int .i64 0, .slice none 0 0, .slice none 0 0]
  have hb : Below w.heap.size w (w.alloc (.cells #[.int .i64 0, .string ⟨#[]⟩, .string ⟨#[]⟩, .int .i64 0, .slice none 0 0, .slice none 0 0] 34)) := (Below.refl _ _).alloc (Nat.le_refl _) _
  have hRS := HR.out.below hb
  have hNw : N ≤ w.heap.size := by have h1 := HR.out.le; omega
  have hV1 := HV.out.to (hb.mono hNw)
  have hG1 : Gr R w (w.alloc (.cells #[.int .i64 0, .string ⟨#[]⟩, .string ⟨#[]⟩, .int .i64 0, .slice none 0 0, .slice none 0 0] 34)) := Gr.of_below hb
  generalize w.alloc (.cells #[.int .i64 0, .string ⟨#[]⟩, .string ⟨#[]⟩, .int .i64 0, .slice none 0 0, .slice none 0 0] 34) = W at bt hb hRS hV1 hG1 ⊢
  obtain ⟨t0, ht⟩ : ∃ t0, w.heap.size = t0 := ⟨_, rfl⟩
  have HT := Lib.hid ht
  rw [ht] at bt hRw ⊢
  clear ht hb HR HV hNw
  have HBT := Lib.hid bt; have HRS := Lib.hid hRS; have HV := Lib.hid hV1; have HG := Lib.hid hG1; have HRT := Lib.hid hRw
  clear bt hRS hV1 hG1 hRw
  go_wp2_with fail
  refine (Split s 3 W HV.out.vars (by have := HS.out; omega) (by rw [HW.out]; first | rfl | exact HNL.out)).mono ?_
  rintro e w1 ⟨rfl, hrd, hb1⟩
  obtain ⟨B, hB⟩ : ∃ B, W.heap.size = B := ⟨_, rfl⟩
  have hlt : t0 < B := by rw [← hB]; exact HBT.out.lt
  rw [hB] at hrd ⊢
  rw [HW.out] at hrd
  have HBT1 := Lib.hid (HBT.out.below hb1 HBT.out.lt); have HRS1 := Lib.hid (HRS.out.below hb1); have HV1 := Lib.hid (HV.out.to (hb1.mono (by have h1 := HRS.out.le; have h2 := HRT.out; have h3 := HBT.out.lt; omega))); have HG1 := Lib.hid (HG.out.trans (Gr.of_below hb1)); have HLT := Lib.hid hlt
  have HRD := Lib.hid hrd
  have HGA : Hid (∀ o, Gr R w (w1.alloc o)) := Lib.hid (fun o => HG1.out.trans (Gr.of_below ((Below.refl w1.heap.size w1).alloc (Nat.le_refl _) o)))
  have y0 : w1.cell? ⟨B, 0, none⟩ = some (strV [c]) := word_at hrd rfl
  have y1 : w1.cell? ⟨B, 1, none⟩ = some (strV nm) := word_at hrd rfl
  have y2 : w1.cell? ⟨B, 2, none⟩ = some (strV tn) := word_at hrd rfl
  have hBl : B < w1.heap.size := word_lt hrd (by simp)
  clear hB hlt hrd hb1 HBT HRS HV HG
  go_wp2_with fail
  refine (kind_yes c w1).mono ?_
  rintro e w2 ⟨rfl, rfl⟩
  rw [HK.out]
  go_upto_region 8 with fail
  have bp := Blk.new w1 34 #[.int .i64 2, .string ⟨#[]⟩, .string ⟨#[]⟩, .int .i64 0, .slice none 0 0, .slice none 0 0]
  have bz := HBT1.out.alloc (.cells #[.int .i64 2, .string ⟨#[]⟩, .string ⟨#[]⟩, .int .i64 0, .slice none 0 0, .slice none 0 0] 34)
  have hba : Below w1.heap.size w1 (w1.alloc (.cells #[.int .i64 2, .string ⟨#[]⟩, .string ⟨#[]⟩, .int .i64 0, .slice none 0 0, .slice none 0 0] 34)) := (Below.refl _ _).alloc (Nat.le_refl _) _
  have hgx := HGA.out (.cells #[.int .i64 2, .string ⟨#[]⟩, .string ⟨#[]⟩, .int .i64 0, .slice none 0 0, .slice none 0 0] 34)
  have hrx := HRS1.out.below hba
  have hvx := HV1.out.to (hba.mono (by have h1 := HRS1.out.le; have h2 := HRT.out; have h3 := HBT1.out.lt; omega))
  have hpt : t0 < w1.heap.size := HBT1.out.lt
  have hrdx := HRD.out.below hba
  clear y0
  clear y1
  clear y2
  generalize w1.alloc (.cells #[.int .i64 2, .string ⟨#[]⟩, .string ⟨#[]⟩, .int .i64 0, .slice none 0 0, .slice none 0 0] 34) = X at bp bz hba hgx hrx hvx hrdx ⊢
  generalize w1.heap.size = P at bp hpt hba hrdx ⊢
  have HPT := Lib.hid hpt; have HGX := Lib.hid hgx; have HRX := Lib.hid hrx; have HVX := Lib.hid hvx; have HRDX := Lib.hid hrdx
  have y0 : X.cell? ⟨B, 0, none⟩ = some (strV [c]) := word_at hrdx rfl
  have y1 : X.cell? ⟨B, 1, none⟩ = some (strV nm) := word_at hrdx rfl
  have y2 : X.cell? ⟨B, 2, none⟩ = some (strV tn) := word_at hrdx rfl
  clear hpt hgx hrx hvx hba hrdx hBl HGA HRS1 HV1 HBT1 HG1
  have p1 : X.cell? ⟨P, 1, none⟩ = some (.string ⟨#[]⟩) := bp.cell 1 rfl
  have p2 : X.cell? ⟨P, 2, none⟩ = some (.string ⟨#[]⟩) := bp.cell 2 rfl
  have f1 : X.frozen? ⟨P, 1, none⟩ = false := bp.frozen 1
  have f2 : X.frozen? ⟨P, 2, none⟩ = false := bp.frozen 2
  have BP := Lib.hid bp; have BZ0 := Lib.hid bz
  clear bp bz
  go_region
  have hne : P ≠ t0 := by have := HPT.out; omega
  have bp := (BP.out.set 1 (strV nm)).set 2 (strV tn)
  have bz := (BZ0.out.set_ne (fun e => hne e.symm) 1 (strV nm)).set_ne (fun e => hne e.symm) 2 (strV tn)
  have hgp := (grownBy_set X P 1 (strV nm)).trans (grownBy_set (X.setCell ⟨P, 1, none⟩ (strV nm)) P 2 (strV tn))
  clear y0 y1 y2 p1 p2 f1 f2 BP BZ0
  go_upto_region 14 with fail
  change Blk ((World.setCell (X.setCell ⟨P, 1, none⟩ (strV nm)) ⟨P, 2, none⟩ (strV tn)).drew) P 34 #[.int .i64 2, strV nm, strV tn, .int .i64 0, .slice none 0 0, .slice none 0 0] at bp
  change Blk ((World.setCell (X.setCell ⟨P, 1, none⟩ (strV nm)) ⟨P, 2, none⟩ (strV tn)).drew) t0 _ _ at bz
  replace hgp : X.grownBy ((World.setCell (X.setCell ⟨P, 1, none⟩ (strV nm)) ⟨P, 2, none⟩ (strV tn)).drew) (some P) := gr_drewN hgp 1
  generalize ((World.setCell (X.setCell ⟨P, 1, none⟩ (strV nm)) ⟨P, 2, none⟩ (strV tn)).drew) = Y at bp bz hgp ⊢
  have hN0 := HRX.out.le; have hrt0 := HRT.out; have hpt0 := HPT.out; have ht0 := HT.out
  replace HRX := Lib.hid (HRX.out.gr hgp (fun e => by injection e with e; omega) (fun b e => by injection e with e; omega))
  replace HGX := Lib.hid (HGX.out.grown hgp (fun b e => by injection e with e; omega))
  clear hgp hN0 hrt0 hpt0 ht0
  have p0 : Y.cell? ⟨P, 0, none⟩ = some (.int .i64 2) := bp.cell 0 rfl
  have p1 : Y.cell? ⟨P, 1, none⟩ = some (strV nm) := bp.cell 1 rfl
  have p2 : Y.cell? ⟨P, 2, none⟩ = some (strV tn) := bp.cell 2 rfl
  have p3 : Y.cell? ⟨P, 3, none⟩ = some (.int .i64 0) := bp.cell 3 rfl
  have p4 : Y.cell? ⟨P, 4, none⟩ = some (.slice none 0 0) := bp.cell 4 rfl
  have p5 : Y.cell? ⟨P, 5, none⟩ = some (.slice none 0 0) := bp.cell 5 rfl
  have z0 : Y.cell? ⟨t0, 0, none⟩ = some (.int .i64 0) := bz.cell 0 rfl
  have z1 : Y.cell? ⟨t0, 1, none⟩ = some (.string ⟨#[]⟩) := bz.cell 1 rfl
  have z2 : Y.cell? ⟨t0, 2, none⟩ = some (.string ⟨#[]⟩) := bz.cell 2 rfl
  have z3 : Y.cell? ⟨t0, 3, none⟩ = some (.int .i64 0) := bz.cell 3 rfl
  have z4 : Y.cell? ⟨t0, 4, none⟩ = some (.slice none 0 0) := bz.cell 4 rfl
  have z5 : Y.cell? ⟨t0, 5, none⟩ = some (.slice none 0 0) := bz.cell 5 rfl
  have f0 : Y.frozen? ⟨t0, 0, none⟩ = false := bz.frozen 0
  have f1 : Y.frozen? ⟨t0, 1, none⟩ = false := bz.frozen 1
  have f2 : Y.frozen? ⟨t0, 2, none⟩ = false := bz.frozen 2
  have f3 : Y.frozen? ⟨t0, 3, none⟩ = false := bz.frozen 3
  have f4 : Y.frozen? ⟨t0, 4, none⟩ = false := bz.frozen 4
  have f5 : Y.frozen? ⟨t0, 5, none⟩ = false := bz.frozen 5
  have b6 := blk6 bz (.int .i64 2) (strV nm) (strV tn) (.int .i64 0) (.slice none 0 0) (.slice none 0 0)
  have B6 := Lib.hid b6; have BZ := Lib.hid bz
  have hneP : P ≠ t0 := by have := HPT.out; omega
  clear b6 bp bz
  go_wp2
  clear p0 z0 f0 p1 z1 f1 p2 z2 f2 p3 z3 f3 p4 z4 f4 p5 z5 f5
  have hg6 : Y.grownBy (World.setCell (World.setCell (World.setCell (World.setCell (World.setCell (World.setCell Y ⟨t0, 0, none⟩ (.int .i64 2)) ⟨t0, 1, none⟩ (strV nm)) ⟨t0, 2, none⟩ (strV tn)) ⟨t0, 3, none⟩ (.int .i64 0)) ⟨t0, 4, none⟩ (.slice none 0 0)) ⟨t0, 5, none⟩ (.slice none 0 0)) (some t0) := grownBy_set6 Y t0 _ _ _ _ _ _
  have b6 := B6.out
  clear B6
  generalize World.setCell (World.setCell (World.setCell (World.setCell (World.setCell (World.setCell Y ⟨t0, 0, none⟩ (.int .i64 2)) ⟨t0, 1, none⟩ (strV nm)) ⟨t0, 2, none⟩ (strV tn)) ⟨t0, 3, none⟩ (.int .i64 0)) ⟨t0, 4, none⟩ (.slice none 0 0)) ⟨t0, 5, none⟩ (.slice none 0 0) = Y6 at b6 hg6 ⊢
  have q0 : Y6.cell? ⟨t0, 0, none⟩ = some (.int .i64 2) := b6.cell 0 rfl
  have q1 : Y6.cell? ⟨t0, 1, none⟩ = some (strV nm) := b6.cell 1 rfl
  have q2 : Y6.cell? ⟨t0, 2, none⟩ = some (strV tn) := b6.cell 2 rfl
  have q3 : Y6.cell? ⟨t0, 3, none⟩ = some (.int .i64 0) := b6.cell 3 rfl
  have q4 : Y6.cell? ⟨t0, 4, none⟩ = some (.slice none 0 0) := b6.cell 4 rfl
  have q5 : Y6.cell? ⟨t0, 5, none⟩ = some (.slice none 0 0) := b6.cell 5 rfl
  refine bodyPost_ret (v := .agg #[.int .i64 2, strV nm, strV tn, .int .i64 0, .slice none 0 0, .slice none 0 0]) (by simp [results, Tryz.results14, go_sem, q0, q1, q2, q3, q4, q5]) rfl ?_
  have hN := HRX.out.le; have hrt := HRT.out; have ht := HT.out; have hs6 := HS.out
  have l1 := word_len (s := s) (x := nm) (by rw [HW.out]; simp)
  have l2 := word_len (s := s) (x := tn) (by rw [HW.out]; simp)
  rw [HO.out]
  exact ⟨none, 0, 0, none, 0, 0, rfl, pv_light Y6 2 nm tn (by decide) (by omega) (by omega), hi_none _, hi_none _, HRX.out.gr hg6 (fun e => by injection e with e; omega) (fun b e => by injection e with e; omega), HGX.out.grown hg6 (fun b e => by injection e with e; omega)⟩

set_option maxRecDepth 100000 in
set_option maxHeartbeats 16000000 in
theorem read_3 (s : List UInt8) (N R : Nat) (r : List UInt8) (w : World) (hs : s.length ≤ 200000) (hr : Rest w N R r) (hv : VN N w) (c : UInt8) (nm a x y : List UInt8) (hw : words s = [[c], nm, a, x, y]) (hk : kindB [c] = 3) :
    Calls Tryz.prog 14 #[strV s, .func (.func 23) #[] #[.pointer (some ⟨R, 0, none⟩)]] w (RdEnd w N R (oneC s r)) := by
  have HO : Hid (oneC s r = ((dig a).bind fun i => (dig x).bind fun n => (dig y).bind fun m => (some_ 45 n r).bind fun z => (some_ 43 m z.2).bind fun u => some (⟨3, nm, [], ⟨i, z.1, u.1⟩⟩, u.2))) := Lib.hid (by unfold oneC; rw [hw]; simp only [hk]; rfl)
  have HW := Lib.hid hw; have HK := Lib.hid hk; have HRL := Lib.hid hr.len
  clear hw hk
  have HR := Lib.hid hr; have HV := Lib.hid hv; have HS := Lib.hid hs
  have hRw : R < w.heap.size := hr.ex.elim fun A h => h.elim fun c h => h.1.lt
  clear hr hv hs
  go_enter Tryz.func14, Tryz.ntmps14
  go_upto_region 1 with fail
  have bt := Blk.new w 34 #[.int .i64 0, .string ⟨#[]⟩, .string ⟨#[]⟩, .int .i64 0, .slice none 0 0, .slice none 0 0]
  have hb : Below w.heap.size w (w.alloc (.cells #[.int .i64 0, .string ⟨#[]⟩, .string ⟨#[]⟩, .int .i64 0, .slice none 0 0, .slice none 0 0] 34)) := (Below.refl _ _).alloc (Nat.le_refl _) _
  have hRS := HR.out.below hb
  have hNw : N ≤ w.heap.size := by have h1 := HR.out.le; omega
  have hV1 := HV.out.to (hb.mono hNw)
  have hG1 : Gr R w (w.alloc (.cells #[.int .i64 0, .string ⟨#[]⟩, .string ⟨#[]⟩, .int .i64 0, .slice none 0 0, .slice none 0 0] 34)) := Gr.of_below hb
  generalize w.alloc (.cells #[.int .i64 0, .string ⟨#[]⟩, .string ⟨#[]⟩, .int .i64 0, .slice none 0 0, .slice none 0 0] 34) = W at bt hb hRS hV1 hG1 ⊢
  obtain ⟨t0, ht⟩ : ∃ t0, w.heap.size = t0 := ⟨_, rfl⟩
  have HT := Lib.hid ht
  rw [ht] at bt hRw ⊢
  clear ht hb HR HV hNw
  have HBT := Lib.hid bt; have HRS := Lib.hid hRS; have HV := Lib.hid hV1; have HG := Lib.hid hG1; have HRT := Lib.hid hRw
  clear bt hRS hV1 hG1 hRw
  go_wp2_with fail
  refine (Split s 5 W HV.out.vars (by have := HS.out; omega) (by rw [HW.out]; first | rfl | exact HNL.out)).mono ?_
  rintro e w1 ⟨rfl, hrd, hb1⟩
  obtain ⟨B, hB⟩ : ∃ B, W.heap.size = B := ⟨_, rfl⟩
  have hlt : t0 < B := by rw [← hB]; exact HBT.out.lt
  rw [hB] at hrd ⊢
  rw [HW.out] at hrd
  have HBT1 := Lib.hid (HBT.out.below hb1 HBT.out.lt); have HRS1 := Lib.hid (HRS.out.below hb1); have HV1 := Lib.hid (HV.out.to (hb1.mono (by have h1 := HRS.out.le; have h2 := HRT.out; have h3 := HBT.out.lt; omega))); have HG1 := Lib.hid (HG.out.trans (Gr.of_below hb1)); have HLT := Lib.hid hlt
  have HRD := Lib.hid hrd
  have HGA : Hid (∀ o, Gr R w (w1.alloc o)) := Lib.hid (fun o => HG1.out.trans (Gr.of_below ((Below.refl w1.heap.size w1).alloc (Nat.le_refl _) o)))
  have y0 : w1.cell? ⟨B, 0, none⟩ = some (strV [c]) := word_at hrd rfl
  have y1 : w1.cell? ⟨B, 1, none⟩ = some (strV nm) := word_at hrd rfl
  have y2 : w1.cell? ⟨B, 2, none⟩ = some (strV a) := word_at hrd rfl
  have y3 : w1.cell? ⟨B, 3, none⟩ = some (strV x) := word_at hrd rfl
  have y4 : w1.cell? ⟨B, 4, none⟩ = some (strV y) := word_at hrd rfl
  have hBl : B < w1.heap.size := word_lt hrd (by simp)
  clear hB hlt hrd hb1 HBT HRS HV HG
  go_wp2_with fail
  refine (kind_yes c w1).mono ?_
  rintro e w2 ⟨rfl, rfl⟩
  rw [HK.out]
  go_upto_region 10 with fail
  have bp := Blk.new w1 34 #[.int .i64 3, .string ⟨#[]⟩, .string ⟨#[]⟩, .int .i64 0, .slice none 0 0, .slice none 0 0]
  have bz := HBT1.out.alloc (.cells #[.int .i64 3, .string ⟨#[]⟩, .string ⟨#[]⟩, .int .i64 0, .slice none 0 0, .slice none 0 0] 34)
  have hba : Below w1.heap.size w1 (w1.alloc (.cells #[.int .i64 3, .string ⟨#[]⟩, .string ⟨#[]⟩, .int .i64 0, .slice none 0 0, .slice none 0 0] 34)) := (Below.refl _ _).alloc (Nat.le_refl _) _
  have hgx := HGA.out (.cells #[.int .i64 3, .string ⟨#[]⟩, .string ⟨#[]⟩, .int .i64 0, .slice none 0 0, .slice none 0 0] 34)
  have hrx := HRS1.out.below hba
  have hvx := HV1.out.to (hba.mono (by have h1 := HRS1.out.le; have h2 := HRT.out; have h3 := HBT1.out.lt; omega))
  have hpt : t0 < w1.heap.size := HBT1.out.lt
  have hrdx := HRD.out.below hba
  clear y0
  clear y1
  clear y2
  clear y3
  clear y4
  generalize w1.alloc (.cells #[.int .i64 3, .string ⟨#[]⟩, .string ⟨#[]⟩, .int .i64 0, .slice none 0 0, .slice none 0 0] 34) = X at bp bz hba hgx hrx hvx hrdx ⊢
  generalize w1.heap.size = P at bp hpt hba hrdx ⊢
  have HPT := Lib.hid hpt; have HGX := Lib.hid hgx; have HRX := Lib.hid hrx; have HVX := Lib.hid hvx; have HRDX := Lib.hid hrdx
  have y0 : X.cell? ⟨B, 0, none⟩ = some (strV [c]) := word_at hrdx rfl
  have y1 : X.cell? ⟨B, 1, none⟩ = some (strV nm) := word_at hrdx rfl
  have y2 : X.cell? ⟨B, 2, none⟩ = some (strV a) := word_at hrdx rfl
  have y3 : X.cell? ⟨B, 3, none⟩ = some (strV x) := word_at hrdx rfl
  have y4 : X.cell? ⟨B, 4, none⟩ = some (strV y) := word_at hrdx rfl
  clear hpt hgx hrx hvx hba hrdx hBl HGA HRS1 HV1 HBT1 HG1
  have HBP := Lib.hid bp; have HBZ := Lib.hid bz
  have hBP : B ≠ P := by have h1 := word_lt HRDX.out (by simp); omega
  have HNE := Lib.hid hBP
  have hNX : N ≤ X.heap.size := by have h1 := HRX.out.le; have h2 := HRT.out; have h3 := HBZ.out.lt; omega
  have HNX := Lib.hid hNX
  have HC : Hid (∀ Y, Below X.heap.size X Y → Y.cell? ⟨B, 1, none⟩ = some (strV nm) ∧ Y.cell? ⟨B, 2, none⟩ = some (strV a)) := Lib.hid (fun Y hb => ⟨word_at (Rd.below HRDX.out (hb.mono (Nat.le_of_lt HBP.out.lt))) rfl, word_at (Rd.below HRDX.out (hb.mono (Nat.le_of_lt HBP.out.lt))) rfl⟩)
  have HKD := Lib.hid (HC.out X.drew (below_drewN (Below.refl _ _) 1))
  have la : a.length ≤ s.length := word_len (by rw [HW.out]; simp)
  have lx : x.length ≤ s.length := word_len (by rw [HW.out]; simp)
  have ly : y.length ≤ s.length := word_len (by rw [HW.out]; simp)
  have ln : nm.length ≤ s.length := word_len (by rw [HW.out]; simp)
  have HLA := Lib.hid la; have HLX := Lib.hid lx; have HLY := Lib.hid ly; have HLN := Lib.hid ln
  have HI0 : Hid (RI w N R t0 P B x y r #[.int .i64 3, .string ⟨#[]⟩, .string ⟨#[]⟩, .int .i64 0, .slice none 0 0, .slice none 0 0] X) := Lib.hid ⟨HBP.out, HBZ.out, HRX.out, HGX.out, HVX.out, y3, y4, HT.out, HRT.out, HPT.out, HNE.out, HLT.out⟩
  clear bp bz y0 y3 y4 la lx ly ln hBP hNX
  cases hda : dig a with
  | none =>
    have HNO : Hid (∀ Y, Below X.heap.size X Y → Calls Tryz.prog 27 #[strV a] Y fun e u => e = .panicked bad ∧ Below Y.heap.size Y u) := Lib.hid (fun Y hb => number_no a (by have := HLA.out; have := HS.out; omega) hda Y (HVX.out Y (hb.mono HNX.out)))
    have ho : oneC s r = none := by rw [HO.out, hda]; rfl
    rw [ho]
    clear ho hda HO y1 y2
    refine wp_region_held_drew (S := (fun Y : World => Y.cell? ⟨B, 1, none⟩ = some (strV nm) ∧ Y.cell? ⟨B, 2, none⟩ = some (strV a))) (by kernel_rfl) HKD.out (fun hz => ?_)
    refine wpAnyH_take (i := 0) (v := ?_) rfl (by kernel_rfl) (by kernel_rfl) (by kernel_rfl) (fun _ _ _ h => h) (Or.inl ⟨by rfl, ?_⟩) hz ?_
    rotate_left
    · intro X hX
      obtain ⟨s0, s1⟩ := hX
      go_simp
      try with_reducible rfl
    try simp only [Act.put, List.getElem_toArray, List.getElem_cons_succ, List.getElem_cons_zero, List.setIfInBounds_toArray, List.set_cons_succ, List.set_cons_zero]
    refine wpAnyH_take (i := 1) (v := ?_) rfl (by kernel_rfl) (by kernel_rfl) (by kernel_rfl) (fun _ _ _ h => h) (Or.inl ⟨by rfl, ?_⟩) hz ?_
    rotate_left
    · intro X hX
      obtain ⟨s0, s1⟩ := hX
      go_simp
      try with_reducible rfl
    try simp only [Act.put, List.getElem_toArray, List.getElem_cons_succ, List.getElem_cons_zero, List.setIfInBounds_toArray, List.set_cons_succ, List.set_cons_zero]
    refine wpAnyH_take (i := 2) (v := ?_) rfl (by kernel_rfl) (by kernel_rfl) (by kernel_rfl) (fun _ _ _ h => h) (Or.inl ⟨by rfl, ?_⟩) hz ?_
    rotate_left
    · intro X hX
      obtain ⟨s0, s1⟩ := hX
      go_simp
      try with_reducible rfl
    try simp only [Act.put, List.getElem_toArray, List.getElem_cons_succ, List.getElem_cons_zero, List.setIfInBounds_toArray, List.set_cons_succ, List.set_cons_zero]
    refine wpAnyH_take (i := 3) (v := ?_) rfl (by kernel_rfl) (by kernel_rfl) (by kernel_rfl) (fun _ _ _ h => h) (Or.inl ⟨by rfl, ?_⟩) hz ?_
    rotate_left
    · intro X hX
      obtain ⟨s0, s1⟩ := hX
      go_simp
      try with_reducible rfl
    try simp only [Act.put, List.getElem_toArray, List.getElem_cons_succ, List.getElem_cons_zero, List.setIfInBounds_toArray, List.set_cons_succ, List.set_cons_zero]
    refine wpAnyH_take (i := 4) (v := ?_) rfl (by kernel_rfl) (by kernel_rfl) (by kernel_rfl) (fun _ _ _ h => h) (Or.inl ⟨by rfl, ?_⟩) hz ?_
    rotate_left
    · intro X hX
      obtain ⟨s0, s1⟩ := hX
      go_simp
      try with_reducible rfl
    try simp only [Act.put, List.getElem_toArray, List.getElem_cons_succ, List.getElem_cons_zero, List.setIfInBounds_toArray, List.set_cons_succ, List.set_cons_zero]
    refine wpAnyH_take (i := 5) (v := ?_) rfl (by kernel_rfl) (by kernel_rfl) (by kernel_rfl) (fun _ _ _ h => h) (Or.inl ⟨by rfl, ?_⟩) hz ?_
    rotate_left
    · intro X hX
      obtain ⟨s0, s1⟩ := hX
      go_simp
      try with_reducible rfl
    try simp only [Act.put, List.getElem_toArray, List.getElem_cons_succ, List.getElem_cons_zero, List.setIfInBounds_toArray, List.set_cons_succ, List.set_cons_zero]
    refine wpAnyH_take (i := 7) (v := ?_) rfl (by kernel_rfl) (by kernel_rfl) (by kernel_rfl) (fun _ _ _ h => h) (Or.inl ⟨by rfl, ?_⟩) hz ?_
    rotate_left
    · intro X hX
      obtain ⟨s0, s1⟩ := hX
      go_simp
      try with_reducible rfl
    try simp only [Act.put, List.getElem_toArray, List.getElem_cons_succ, List.getElem_cons_zero, List.setIfInBounds_toArray, List.set_cons_succ, List.set_cons_zero]
    refine wpAnyH_ready (rs := [6]) (by kernel_rfl) (by simp) ?_
    refine AllReadyH.cons rfl (fun K' hK' => ?_) AllReadyH.nil
    go_simp
    refine (HNO.out X.drew (below_drewN (Below.refl _ _) 1)).mono ?_
    rintro e u1 ⟨rfl, hbu⟩
    exact ⟨rfl, rfl, HGX.out.trans (Gr.of_below ((below_drewN (Below.refl X.heap.size X) 1).trans hbu))⟩
  | some i =>
    have HNUM : Hid (∀ Y, Below X.heap.size X Y → Calls Tryz.prog 27 #[strV a] Y fun e u => e = .returned (.int .i64 (i : Int)) ∧ Below Y.heap.size Y u) := Lib.hid (fun Y hb => number_yes a (by have := HLA.out; have := HS.out; omega) i hda Y (HVX.out Y (hb.mono HNX.out)))
    have HI := Lib.hid (dig_iff.1 hda).1
    rw [hda, Option.bind_some] at HO
    clear hda
    go_region_held3 (fun Y => Y.cell? ⟨B, 1, none⟩ = some (strV nm) ∧ Y.cell? ⟨B, 2, none⟩ = some (strV a))
      (first | (with_reducible exact HKD.out) | (with_reducible exact hS1) | (with_reducible exact HK2.out _ _) | (with_reducible exact HK3.out _ _ _ _))
      (first
        | (go_at_call 27; (with_reducible refine (HNUM.out X.drew (below_drewN (Below.refl _ _) 1)).mono ?_); rintro e u1 ⟨rfl, hbu⟩; have hu1 : Below X.heap.size X u1 := (below_drewN (Below.refl X.heap.size X) 1).trans hbu; have hS1 := HC.out u1 hu1; have HU1 := Lib.hid hu1;
            have HK2 := Lib.hid (fun (j : Nat) (v : Value) => And.intro (cell_set hS1.1 HNE.out j v) (cell_set hS1.2 HNE.out j v));
            have HK3 := Lib.hid (fun (j : Nat) (v : Value) (j' : Nat) (v' : Value) => And.intro (cell_set (cell_set hS1.1 HNE.out j v) HNE.out j' v') (cell_set (cell_set hS1.2 HNE.out j v) HNE.out j' v'));
            have bq := HBP.out.below hu1 HBP.out.lt; have p1 : u1.cell? ⟨P, 1, none⟩ = some (.string ⟨#[]⟩) := bq.cell 1 rfl; have p3 : u1.cell? ⟨P, 3, none⟩ = some (.int .i64 0) := bq.cell 3 rfl; have f1 := bq.frozen 1; have f3 := bq.frozen 3; clear hbu hu1 bq))
    have HI2 := Lib.hid (((HI0.out.below HU1.out).set 1 (strV nm)).set 3 (.int .i64 (i : Int)))
    clear hS1 HK2 HK3 p1 p3 f1 f3 HU1 HNUM HC HKD y1 y2 HI0 HBP HBZ HRX HGX HVX HRDX HNX
    go_upto_region 11 with fail
    replace HI2 : Hid (RI w N R t0 P B x y r #[.int .i64 3, strV nm, .string ⟨#[]⟩, .int .i64 (i : Int), .slice none 0 0, .slice none 0 0] (World.setCell (u1.setCell ⟨P, 1, none⟩ (strV nm)) ⟨P, 3, none⟩ (.int .i64 (i : Int)))) := HI2
    generalize (World.setCell (u1.setCell ⟨P, 1, none⟩ (strV nm)) ⟨P, 3, none⟩ (.int .i64 (i : Int))) = X2 at HI2 ⊢
    have HC : Hid (∀ Y, Below X2.heap.size X2 Y → Y.cell? ⟨B, 3, none⟩ = some (strV x) ∧ Y.cell? ⟨B, 4, none⟩ = some (strV y)) := Lib.hid (fun Y hb => ⟨(HI2.out.below hb).cx, (HI2.out.below hb).cy⟩)
    have HKD := Lib.hid (HC.out X2.drew (below_drewN (Below.refl _ _) 1))
    cases hdx : dig x with
    | none =>
      have HNO : Hid (∀ Y, Below X2.heap.size X2 Y → Calls Tryz.prog 27 #[strV x] Y fun e u => e = .panicked bad ∧ Below Y.heap.size Y u) := Lib.hid (fun Y hb => number_no x (by have := HLX.out; have := HS.out; omega) hdx Y ((HI2.out.below hb).vn.vars))
      have ho : oneC s r = none := by rw [HO.out, hdx]; rfl
      rw [ho]
      clear ho hdx HO
      refine wp_region_held_drew (S := (fun Y : World => Y.cell? ⟨B, 3, none⟩ = some (strV x) ∧ Y.cell? ⟨B, 4, none⟩ = some (strV y))) (by kernel_rfl) HKD.out (fun hz => ?_)
      refine wpAnyH_take (i := 0) (v := ?_) rfl (by kernel_rfl) (by kernel_rfl) (by kernel_rfl) (fun _ _ _ h => h) (Or.inl ⟨by rfl, ?_⟩) hz ?_
      rotate_left
      · intro X hX
        obtain ⟨s0, s1⟩ := hX
        go_simp
        try with_reducible rfl
      try simp only [Act.put, List.getElem_toArray, List.getElem_cons_succ, List.getElem_cons_zero, List.setIfInBounds_toArray, List.set_cons_succ, List.set_cons_zero]
      refine wpAnyH_take (i := 1) (v := ?_) rfl (by kernel_rfl) (by kernel_rfl) (by kernel_rfl) (fun _ _ _ h => h) (Or.inl ⟨by rfl, ?_⟩) hz ?_
      rotate_left
      · intro X hX
        obtain ⟨s0, s1⟩ := hX
        go_simp
        try with_reducible rfl
      try simp only [Act.put, List.getElem_toArray, List.getElem_cons_succ, List.getElem_cons_zero, List.setIfInBounds_toArray, List.set_cons_succ, List.set_cons_zero]
      refine wpAnyH_take (i := 2) (v := ?_) rfl (by kernel_rfl) (by kernel_rfl) (by kernel_rfl) (fun _ _ _ h => h) (Or.inl ⟨by rfl, ?_⟩) hz ?_
      rotate_left
      · intro X hX
        obtain ⟨s0, s1⟩ := hX
        go_simp
        try with_reducible rfl
      try simp only [Act.put, List.getElem_toArray, List.getElem_cons_succ, List.getElem_cons_zero, List.setIfInBounds_toArray, List.set_cons_succ, List.set_cons_zero]
      refine wpAnyH_take (i := 4) (v := ?_) rfl (by kernel_rfl) (by kernel_rfl) (by kernel_rfl) (fun _ _ _ h => h) (Or.inl ⟨by rfl, ?_⟩) hz ?_
      rotate_left
      · intro X hX
        obtain ⟨s0, s1⟩ := hX
        go_simp
        try with_reducible rfl
      try simp only [Act.put, List.getElem_toArray, List.getElem_cons_succ, List.getElem_cons_zero, List.setIfInBounds_toArray, List.set_cons_succ, List.set_cons_zero]
      refine wpAnyH_take (i := 5) (v := ?_) rfl (by kernel_rfl) (by kernel_rfl) (by kernel_rfl) (fun _ _ _ h => h) (Or.inl ⟨by rfl, ?_⟩) hz ?_
      rotate_left
      · intro X hX
        obtain ⟨s0, s1⟩ := hX
        go_simp
        try with_reducible rfl
      try simp only [Act.put, List.getElem_toArray, List.getElem_cons_succ, List.getElem_cons_zero, List.setIfInBounds_toArray, List.set_cons_succ, List.set_cons_zero]
      refine wpAnyH_take (i := 6) (v := ?_) rfl (by kernel_rfl) (by kernel_rfl) (by kernel_rfl) (fun _ _ _ h => h) (Or.inl ⟨by rfl, ?_⟩) hz ?_
      rotate_left
      · intro X hX
        obtain ⟨s0, s1⟩ := hX
        go_simp
        try with_reducible rfl
      try simp only [Act.put, List.getElem_toArray, List.getElem_cons_succ, List.getElem_cons_zero, List.setIfInBounds_toArray, List.set_cons_succ, List.set_cons_zero]
      refine wpAnyH_ready (rs := [3]) (by kernel_rfl) (by simp) ?_
      refine AllReadyH.cons rfl (fun K' hK' => ?_) AllReadyH.nil
      go_simp
      refine (HNO.out X2.drew (below_drewN (Below.refl _ _) 1)).mono ?_
      rintro e u2 ⟨rfl, hbu⟩
      exact ⟨rfl, rfl, HI2.out.gr.trans (Gr.of_below ((below_drewN (Below.refl X2.heap.size X2) 1).trans hbu))⟩
    | some n1 =>
      have HNUX : Hid (∀ Y, Below X2.heap.size X2 Y → Calls Tryz.prog 27 #[strV x] Y fun e u => e = .returned (.int .i64 (n1 : Int)) ∧ Below Y.heap.size Y u) := Lib.hid (fun Y hb => number_yes x (by have := HLX.out; have := HS.out; omega) n1 hdx Y ((HI2.out.below hb).vn.vars))
      have HN1 := Lib.hid (dig_iff.1 hdx).1
      rw [hdx, Option.bind_some] at HO
      clear hdx
      cases hdy : dig y with
      | none =>
        have HNO : Hid (∀ Y, Below X2.heap.size X2 Y → Calls Tryz.prog 27 #[strV y] Y fun e u => e = .panicked bad ∧ Below Y.heap.size Y u) := Lib.hid (fun Y hb => number_no y (by have := HLY.out; have := HS.out; omega) hdy Y ((HI2.out.below hb).vn.vars))
        have ho : oneC s r = none := by rw [HO.out, hdy]; rfl
        rw [ho]
        clear ho hdy HO
        refine wp_region_held_drew (S := (fun Y : World => Y.cell? ⟨B, 3, none⟩ = some (strV x) ∧ Y.cell? ⟨B, 4, none⟩ = some (strV y))) (by kernel_rfl) HKD.out (fun hz => ?_)
        refine wpAnyH_take (i := 0) (v := ?_) rfl (by kernel_rfl) (by kernel_rfl) (by kernel_rfl) (fun _ _ _ h => h) (Or.inl ⟨by rfl, ?_⟩) hz ?_
        rotate_left
        · intro X hX
          obtain ⟨s0, s1⟩ := hX
          go_simp
          try with_reducible rfl
        try simp only [Act.put, List.getElem_toArray, List.getElem_cons_succ, List.getElem_cons_zero, List.setIfInBounds_toArray, List.set_cons_succ, List.set_cons_zero]
        refine wpAnyH_take (i := 1) (v := ?_) rfl (by kernel_rfl) (by kernel_rfl) (by kernel_rfl) (fun _ _ _ h => h) (Or.inl ⟨by rfl, ?_⟩) hz ?_
        rotate_left
        · intro X hX
          obtain ⟨s0, s1⟩ := hX
          go_simp
          try with_reducible rfl
        try simp only [Act.put, List.getElem_toArray, List.getElem_cons_succ, List.getElem_cons_zero, List.setIfInBounds_toArray, List.set_cons_succ, List.set_cons_zero]
        refine wpAnyH_take (i := 2) (v := ?_) rfl (by kernel_rfl) (by kernel_rfl) (by kernel_rfl) (fun _ _ _ h => h) (Or.inl ⟨by rfl, ?_⟩) hz ?_
        rotate_left
        · intro X hX
          obtain ⟨s0, s1⟩ := hX
          go_simp
          try with_reducible rfl
        try simp only [Act.put, List.getElem_toArray, List.getElem_cons_succ, List.getElem_cons_zero, List.setIfInBounds_toArray, List.set_cons_succ, List.set_cons_zero]
        refine wpAnyH_take (i := 4) (v := ?_) rfl (by kernel_rfl) (by kernel_rfl) (by kernel_rfl) (fun _ _ _ h => h) (Or.inl ⟨by rfl, ?_⟩) hz ?_
        rotate_left
        · intro X hX
          obtain ⟨s0, s1⟩ := hX
          go_simp
          try with_reducible rfl
        try simp only [Act.put, List.getElem_toArray, List.getElem_cons_succ, List.getElem_cons_zero, List.setIfInBounds_toArray, List.set_cons_succ, List.set_cons_zero]
        refine wpAnyH_take (i := 5) (v := ?_) rfl (by kernel_rfl) (by kernel_rfl) (by kernel_rfl) (fun _ _ _ h => h) (Or.inl ⟨by rfl, ?_⟩) hz ?_
        rotate_left
        · intro X hX
          obtain ⟨s0, s1⟩ := hX
          go_simp
          try with_reducible rfl
        try simp only [Act.put, List.getElem_toArray, List.getElem_cons_succ, List.getElem_cons_zero, List.setIfInBounds_toArray, List.set_cons_succ, List.set_cons_zero]
        refine wpAnyH_take (i := 6) (v := ?_) rfl (by kernel_rfl) (by kernel_rfl) (by kernel_rfl) (fun _ _ _ h => h) (Or.inl ⟨by rfl, ?_⟩) hz ?_
        rotate_left
        · intro X hX
          obtain ⟨s0, s1⟩ := hX
          go_simp
          try with_reducible rfl
        try simp only [Act.put, List.getElem_toArray, List.getElem_cons_succ, List.getElem_cons_zero, List.setIfInBounds_toArray, List.set_cons_succ, List.set_cons_zero]
        refine wpAnyH_ready (rs := [3]) (by kernel_rfl) (by simp) ?_
        refine AllReadyH.cons rfl (fun K' hK' => ?_) AllReadyH.nil
        go_simp
        refine (HNUX.out X2.drew (below_drewN (Below.refl _ _) 1)).mono ?_
        rintro e u2 ⟨rfl, hbu⟩
        have hu2 : Below X2.heap.size X2 u2 := (below_drewN (Below.refl X2.heap.size X2) 1).trans hbu
        have HU2 := Lib.hid hu2
        refine hK'.out _ _ (HC.out u2 hu2) (fun hz => ?_)
        clear hK' K' hbu hu2
        try simp only [Act.put, List.getElem_toArray, List.getElem_cons_succ, List.getElem_cons_zero, List.setIfInBounds_toArray, List.set_cons_succ, List.set_cons_zero]
        refine wpAnyH_ready (rs := [7]) (by kernel_rfl) (by simp) ?_
        refine AllReadyH.cons rfl (fun K' hK' => ?_) AllReadyH.nil
        go_simp
        refine (HNO.out u2 HU2.out).mono ?_
        rintro e u3 ⟨rfl, hbu⟩
        exact ⟨rfl, rfl, HI2.out.gr.trans (Gr.of_below (HU2.out.trans (hbu.mono HU2.out.size)))⟩
      | some n2 =>
        have HNUY : Hid (∀ Y, Below X2.heap.size X2 Y → Calls Tryz.prog 27 #[strV y] Y fun e u => e = .returned (.int .i64 (n2 : Int)) ∧ Below Y.heap.size Y u) := Lib.hid (fun Y hb => number_yes y (by have := HLY.out; have := HS.out; omega) n2 hdy Y ((HI2.out.below hb).vn.vars))
        have HN2 := Lib.hid (dig_iff.1 hdy).1
        rw [hdy, Option.bind_some] at HO
        clear hdy
        have y3 := (HC.out X2 (Below.refl _ _)).1
        have y4 := (HC.out X2 (Below.refl _ _)).2
        go_region_held3 (fun Y => Y.cell? ⟨B, 3, none⟩ = some (strV x) ∧ Y.cell? ⟨B, 4, none⟩ = some (strV y))
          (first | (with_reducible exact HKD.out) | (with_reducible exact hS2) | (with_reducible exact hS3))
          (first
            | (go_at_call 27; (with_reducible refine (HNUX.out X2.drew (below_drewN (Below.refl _ _) 1)).mono ?_); rintro e u2 ⟨rfl, hbu⟩; have hu2 : Below X2.heap.size X2 u2 := (below_drewN (Below.refl X2.heap.size X2) 1).trans hbu; have hS2 := HC.out u2 hu2; have HU2 := Lib.hid hu2; clear hbu hu2)
            | (go_at_call 27; (with_reducible refine (HNUY.out u2 HU2.out).mono ?_); rintro e u3 ⟨rfl, hbu⟩; have hu3 : Below X2.heap.size X2 u3 := HU2.out.trans (hbu.mono HU2.out.size); have hS3 := HC.out u3 hu3; have HU3 := Lib.hid hu3; clear hbu hu3))
        have HI3 := Lib.hid (HI2.out.below HU3.out)
        clear hS2 hS3 HU2 HU3 HNUX HNUY HC HKD y3 y4 HI2
        go_wp2_with fail
        cases hz1 : some_ 45 n1 r with
        | none =>
          have ho : oneC s r = none := by rw [HO.out, hz1]; rfl
          rw [ho]
          have key := readLines n1 45 N R r u3 HN1.out HI3.out.rs
          rw [hz1] at key
          refine key.mono ?_
          rintro e Y ⟨rfl, hg⟩
          have HGY := Lib.hid (HI3.out.gr.trans hg)
          clear hg key ho hz1 HO
          go_wp2
          exact ⟨rfl, rfl, HGY.out⟩
        | some z =>
          obtain ⟨l, r1⟩ := z
          have key := readLines n1 45 N R r u3 HN1.out HI3.out.rs
          rw [hz1] at key
          have HZ1 := Lib.hid (some_inv hz1)
          rw [hz1, Option.bind_some] at HO
          refine key.mono ?_
          rintro e Y ⟨v, rfl, hown, hrest, hg⟩
          simp only at hown hrest
          obtain ⟨A1, c1, rfl, hc1, hrd1⟩ := rd_of_own hown
          obtain ⟨nl, hnl⟩ : ∃ nl, l.length = nl := ⟨_, rfl⟩
          rw [hnl] at hown hc1 ⊢
          have HI4 := Lib.hid (HI3.out.read hrest hg)
          have hu3 : P < u3.heap.size := HI3.out.bp.lt
          have HLO := Lib.hid hu3
          have HL1 := Lib.hid (ln_own (lo := P + 1) hown hrd1 hu3)
          have HNL := Lib.hid hnl; have HC1 := Lib.hid hc1
          have p4 : Y.cell? ⟨P, 4, none⟩ = some (.slice none 0 0) := HI4.out.bp.cell 4 rfl
          have f4 : Y.frozen? ⟨P, 4, none⟩ = false := HI4.out.bp.frozen 4
          clear key hz1 hown hrest hg hc1 hrd1 hnl HI3 hu3
          go_wp2_with fail
          have HI5 : Hid (RI w N R t0 P B x y r1 #[.int .i64 3, strV nm, .string ⟨#[]⟩, .int .i64 (i : Int), .slice A1 nl c1, .slice none 0 0] (Y.setCell ⟨P, 4, none⟩ (.slice A1 nl c1))) := Lib.hid (HI4.out.set 4 (.slice A1 nl c1))
          replace HL1 := Lib.hid (HL1.out.gr (grownBy_set Y P 4 (.slice A1 nl c1)) (Nat.lt_succ_self P))
          generalize Y.setCell ⟨P, 4, none⟩ (.slice A1 nl c1) = Y2 at HI5 HL1 ⊢
          clear p4 f4 HI4
          cases hz2 : some_ 43 n2 r1 with
          | none =>
            have ho : oneC s r = none := by rw [HO.out, hz2]; rfl
            rw [ho]
            have key := readLines n2 43 N R r1 Y2 HN2.out HI5.out.rs
            rw [hz2] at key
            refine key.mono ?_
            rintro e Y3 ⟨rfl, hg⟩
            have HGY := Lib.hid (HI5.out.gr.trans hg)
            clear hg key ho hz2 HO
            go_wp2
            exact ⟨rfl, rfl, HGY.out⟩
          | some z =>
            obtain ⟨m, r2⟩ := z
            have key := readLines n2 43 N R r1 Y2 HN2.out HI5.out.rs
            rw [hz2] at key
            have HZ2 := Lib.hid (some_inv hz2)
            rw [hz2, Option.bind_some] at HO
            refine key.mono ?_
            rintro e Y3 ⟨v, rfl, hown, hrest, hg⟩
            simp only at hown hrest
            obtain ⟨A2, c2, rfl, hc2, hrd2⟩ := rd_of_own hown
            obtain ⟨nm2, hnm⟩ : ∃ nm2, m.length = nm2 := ⟨_, rfl⟩
            rw [hnm] at hown hc2 ⊢
            have HI6 := Lib.hid (HI5.out.read hrest hg)
            have hy2 : P < Y2.heap.size := HI5.out.bp.lt
            have HL2 := Lib.hid (ln_own (lo := P + 1) hown hrd2 hy2)
            have HL1' := Lib.hid (HL1.out.gr hg (by have h1 := HI5.out.o1; have h2 := HI5.out.o2; omega))
            have HNM := Lib.hid hnm; have HC2 := Lib.hid hc2
            have p5 : Y3.cell? ⟨P, 5, none⟩ = some (.slice none 0 0) := HI6.out.bp.cell 5 rfl
            have f5 : Y3.frozen? ⟨P, 5, none⟩ = false := HI6.out.bp.frozen 5
            clear key hz2 hown hrest hg hc2 hrd2 hnm HI5 hy2 HL1
            go_upto_region 14 with fail
            have HI7 : Hid (RI w N R t0 P B x y r2 #[.int .i64 3, strV nm, .string ⟨#[]⟩, .int .i64 (i : Int), .slice A1 nl c1, .slice A2 nm2 c2] (Y3.setCell ⟨P, 5, none⟩ (.slice A2 nm2 c2))) := Lib.hid (HI6.out.set 5 (.slice A2 nm2 c2))
            replace HL1' := Lib.hid (HL1'.out.gr (grownBy_set Y3 P 5 (.slice A2 nm2 c2)) (Nat.lt_succ_self P))
            replace HL2 := Lib.hid (HL2.out.gr (grownBy_set Y3 P 5 (.slice A2 nm2 c2)) (Nat.lt_succ_self P))
            generalize Y3.setCell ⟨P, 5, none⟩ (.slice A2 nm2 c2) = Z at HI7 HL1' HL2 ⊢
            clear p5 f5 HI6
            have bp := HI7.out.bp
            have bz := HI7.out.bz
            have p0 : Z.cell? ⟨P, 0, none⟩ = some (.int .i64 3) := bp.cell 0 rfl
            have p1 : Z.cell? ⟨P, 1, none⟩ = some (strV nm) := bp.cell 1 rfl
            have p2 : Z.cell? ⟨P, 2, none⟩ = some (.string ⟨#[]⟩) := bp.cell 2 rfl
            have p3 : Z.cell? ⟨P, 3, none⟩ = some (.int .i64 (i : Int)) := bp.cell 3 rfl
            have p4 : Z.cell? ⟨P, 4, none⟩ = some (.slice A1 nl c1) := bp.cell 4 rfl
            have p5 : Z.cell? ⟨P, 5, none⟩ = some (.slice A2 nm2 c2) := bp.cell 5 rfl
            have z0 : Z.cell? ⟨t0, 0, none⟩ = some (.int .i64 0) := bz.cell 0 rfl
            have z1 : Z.cell? ⟨t0, 1, none⟩ = some (.string ⟨#[]⟩) := bz.cell 1 rfl
            have z2 : Z.cell? ⟨t0, 2, none⟩ = some (.string ⟨#[]⟩) := bz.cell 2 rfl
            have z3 : Z.cell? ⟨t0, 3, none⟩ = some (.int .i64 0) := bz.cell 3 rfl
            have z4 : Z.cell? ⟨t0, 4, none⟩ = some (.slice none 0 0) := bz.cell 4 rfl
            have z5 : Z.cell? ⟨t0, 5, none⟩ = some (.slice none 0 0) := bz.cell 5 rfl
            have f0 : Z.frozen? ⟨t0, 0, none⟩ = false := bz.frozen 0
            have f1 : Z.frozen? ⟨t0, 1, none⟩ = false := bz.frozen 1
            have f2 : Z.frozen? ⟨t0, 2, none⟩ = false := bz.frozen 2
            have f3 : Z.frozen? ⟨t0, 3, none⟩ = false := bz.frozen 3
            have f4 : Z.frozen? ⟨t0, 4, none⟩ = false := bz.frozen 4
            have f5 : Z.frozen? ⟨t0, 5, none⟩ = false := bz.frozen 5
            have b6 := blk6 bz (.int .i64 3) (strV nm) (.string ⟨#[]⟩) (.int .i64 (i : Int)) (.slice A1 nl c1) (.slice A2 nm2 c2)
            have B6 := Lib.hid b6; have BZ := Lib.hid bz
            have hneP : P ≠ t0 := by have := HPT.out; omega
            clear b6 bp bz
            go_wp2
            clear p0 z0 f0 p1 z1 f1 p2 z2 f2 p3 z3 f3 p4 z4 f4 p5 z5 f5
            have hg6 : Z.grownBy (World.setCell (World.setCell (World.setCell (World.setCell (World.setCell (World.setCell Z ⟨t0, 0, none⟩ (.int .i64 3)) ⟨t0, 1, none⟩ (strV nm)) ⟨t0, 2, none⟩ (.string ⟨#[]⟩)) ⟨t0, 3, none⟩ (.int .i64 (i : Int))) ⟨t0, 4, none⟩ (.slice A1 nl c1)) ⟨t0, 5, none⟩ (.slice A2 nm2 c2)) (some t0) := grownBy_set6 Z t0 _ _ _ _ _ _
            have b6 := B6.out
            clear B6
            generalize World.setCell (World.setCell (World.setCell (World.setCell (World.setCell (World.setCell Z ⟨t0, 0, none⟩ (.int .i64 3)) ⟨t0, 1, none⟩ (strV nm)) ⟨t0, 2, none⟩ (.string ⟨#[]⟩)) ⟨t0, 3, none⟩ (.int .i64 (i : Int))) ⟨t0, 4, none⟩ (.slice A1 nl c1)) ⟨t0, 5, none⟩ (.slice A2 nm2 c2) = Z6 at b6 hg6 ⊢
            have q0 : Z6.cell? ⟨t0, 0, none⟩ = some (.int .i64 3) := b6.cell 0 rfl
            have q1 : Z6.cell? ⟨t0, 1, none⟩ = some (strV nm) := b6.cell 1 rfl
            have q2 : Z6.cell? ⟨t0, 2, none⟩ = some (.string ⟨#[]⟩) := b6.cell 2 rfl
            have q3 : Z6.cell? ⟨t0, 3, none⟩ = some (.int .i64 (i : Int)) := b6.cell 3 rfl
            have q4 : Z6.cell? ⟨t0, 4, none⟩ = some (.slice A1 nl c1) := b6.cell 4 rfl
            have q5 : Z6.cell? ⟨t0, 5, none⟩ = some (.slice A2 nm2 c2) := b6.cell 5 rfl
            refine bodyPost_ret (v := .agg #[.int .i64 3, strV nm, .string ⟨#[]⟩, .int .i64 (i : Int), .slice A1 nl c1, .slice A2 nm2 c2]) (by simp [results, Tryz.results14, go_sem, q0, q1, q2, q3, q4, q5]) rfl ?_
            have hN := HI7.out.rs.le; have hrt := HI7.out.o1; have ht := HI7.out.o0; have hs6 := HS.out; have hpp := HI7.out.o2
            have hi6 := HI.out; have ll := HLN.out
            have hl1 := HL1'.out.gr hg6 (by omega); have hl2 := HL2.out.gr hg6 (by omega)
            have hr0 := HZ1.out.1; have hr1 := HZ2.out.1
            have hlen := congrArg List.length hr0
            have hlen1 := congrArg List.length hr1
            rw [List.length_append] at hlen hlen1
            have hrl := HRL.out
            have hsz : P < Z6.heap.size := by have h1 := HI7.out.bp.lt; have h2 := hg6.size; omega
            have q1 := HZ1.out.2; have q2 := HZ2.out.2; have q3 := HN1.out; have q4 := HN2.out; have q5 := HNL.out; have q6 := HNM.out
            rw [HO.out]
            refine ⟨A1, nl, c1, A2, nm2, c2, rfl, ⟨⟨q5, q6, HC1.out, HC2.out, by unfold maxLen; omega, by unfold maxLen; omega, hl1.1, hl2.1, ?_⟩, ?_, ?_, ?_, ?_, ?_⟩, hl1.2.mono (by omega), hl2.2.mono (by omega), HI7.out.rs.gr hg6 (fun e => by injection e with e; omega) (fun b e => by injection e with e; omega), HI7.out.gr.grown hg6 (fun b e => by injection e with e; omega)⟩
            · constructor <;> (simp only; omega)
            · constructor <;> (simp only; omega)
            · show nm.length ≤ maxLen
              unfold maxLen; omega
            · show ([] : List UInt8).length ≤ maxLen
              unfold maxLen; simp
            · intro u hu
              have h1 := sg_mem (c := 45) (show u ∈ l from hu)
              unfold maxLen; omega
            · intro u hu
              have h1 := sg_mem (c := 43) (show u ∈ m from hu)
              unfold maxLen; omega

set_option maxRecDepth 100000 in
set_option maxHeartbeats 16000000 in
theorem read_4 (s : List UInt8) (N R : Nat) (r : List UInt8) (w : World) (hs : s.length ≤ 200000) (hr : Rest w N R r) (hv : VN N w) (c : UInt8) (nm a x y : List UInt8) (hw : words s = [[c], nm, a, x, y]) (hk : kindB [c] = 4) :
    Calls Tryz.prog 14 #[strV s, .func (.func 23) #[] #[.pointer (some ⟨R, 0, none⟩)]] w (RdEnd w N R (oneC s r)) := by
  have HO : Hid (oneC s r = ((dig a).bind fun i => (dig x).bind fun n => (dig y).bind fun m => (some_ 45 n r).bind fun z => (some_ 43 m z.2).bind fun u => some (⟨4, nm, [], ⟨i, z.1, u.1⟩⟩, u.2))) := Lib.hid (by unfold oneC; rw [hw]; simp only [hk]; rfl)
  have HW := Lib.hid hw; have HK := Lib.hid hk; have HRL := Lib.hid hr.len
  clear hw hk
  have HR := Lib.hid hr; have HV := Lib.hid hv; have HS := Lib.hid hs
  have hRw : R < w.heap.size := hr.ex.elim fun A h => h.elim fun c h => h.1.lt
  clear hr hv hs
  go_enter Tryz.func14, Tryz.ntmps14
  go_upto_region 1 with fail
  have bt := Blk.new w 34 #[.int .i64 0, .string ⟨#[]⟩, .string ⟨#[]⟩, .int .i64 0, .slice none 0 0, .slice none 0 0]
  have hb : Below w.heap.size w (w.alloc (.cells #[.int .i64 0, .string ⟨#[]⟩, .string ⟨#[]⟩, .int .i64 0, .slice none 0 0, .slice none 0 0] 34)) := (Below.refl _ _).alloc (Nat.le_refl _) _
  have hRS := HR.out.below hb
  have hNw : N ≤ w.heap.size := by have h1 := HR.out.le; omega
  have hV1 := HV.out.to (hb.mono hNw)
  have hG1 : Gr R w (w.alloc (.cells #[.int .i64 0, .string ⟨#[]⟩, .string ⟨#[]⟩, .int .i64 0, .slice none 0 0, .slice none 0 0] 34)) := Gr.of_below hb
  generalize w.alloc (.cells #[.int .i64 0, .string ⟨#[]⟩, .string ⟨#[]⟩, .int .i64 0, .slice none 0 0, .slice none 0 0] 34) = W at bt hb hRS hV1 hG1 ⊢
  obtain ⟨t0, ht⟩ : ∃ t0, w.heap.size = t0 := ⟨_, rfl⟩
  have HT := Lib.hid ht
  rw [ht] at bt hRw ⊢
  clear ht hb HR HV hNw
  have HBT := Lib.hid bt; have HRS := Lib.hid hRS; have HV := Lib.hid hV1; have HG := Lib.hid hG1; have HRT := Lib.hid hRw
  clear bt hRS hV1 hG1 hRw
  go_wp2_with fail
  refine (Split s 5 W HV.out.vars (by have := HS.out; omega) (by rw [HW.out]; first | rfl | exact HNL.out)).mono ?_
  rintro e w1 ⟨rfl, hrd, hb1⟩
  obtain ⟨B, hB⟩ : ∃ B, W.heap.size = B := ⟨_, rfl⟩
  have hlt : t0 < B := by rw [← hB]; exact HBT.out.lt
  rw [hB] at hrd ⊢
  rw [HW.out] at hrd
  have HBT1 := Lib.hid (HBT.out.below hb1 HBT.out.lt); have HRS1 := Lib.hid (HRS.out.below hb1); have HV1 := Lib.hid (HV.out.to (hb1.mono (by have h1 := HRS.out.le; have h2 := HRT.out; have h3 := HBT.out.lt; omega))); have HG1 := Lib.hid (HG.out.trans (Gr.of_below hb1)); have HLT := Lib.hid hlt
  have HRD := Lib.hid hrd
  have HGA : Hid (∀ o, Gr R w (w1.alloc o)) := Lib.hid (fun o => HG1.out.trans (Gr.of_below ((Below.refl w1.heap.size w1).alloc (Nat.le_refl _) o)))
  have y0 : w1.cell? ⟨B, 0, none⟩ = some (strV [c]) := word_at hrd rfl
  have y1 : w1.cell? ⟨B, 1, none⟩ = some (strV nm) := word_at hrd rfl
  have y2 : w1.cell? ⟨B, 2, none⟩ = some (strV a) := word_at hrd rfl
  have y3 : w1.cell? ⟨B, 3, none⟩ = some (strV x) := word_at hrd rfl
  have y4 : w1.cell? ⟨B, 4, none⟩ = some (strV y) := word_at hrd rfl
  have hBl : B < w1.heap.size := word_lt hrd (by simp)
  clear hB hlt hrd hb1 HBT HRS HV HG
  go_wp2_with fail
  refine (kind_yes c w1).mono ?_
  rintro e w2 ⟨rfl, rfl⟩
  rw [HK.out]
  go_upto_region 10 with fail
  have bp := Blk.new w1 34 #[.int .i64 4, .string ⟨#[]⟩, .string ⟨#[]⟩, .int .i64 0, .slice none 0 0, .slice none 0 0]
  have bz := HBT1.out.alloc (.cells #[.int .i64 4, .string ⟨#[]⟩, .string ⟨#[]⟩, .int .i64 0, .slice none 0 0, .slice none 0 0] 34)
  have hba : Below w1.heap.size w1 (w1.alloc (.cells #[.int .i64 4, .string ⟨#[]⟩, .string ⟨#[]⟩, .int .i64 0, .slice none 0 0, .slice none 0 0] 34)) := (Below.refl _ _).alloc (Nat.le_refl _) _
  have hgx := HGA.out (.cells #[.int .i64 4, .string ⟨#[]⟩, .string ⟨#[]⟩, .int .i64 0, .slice none 0 0, .slice none 0 0] 34)
  have hrx := HRS1.out.below hba
  have hvx := HV1.out.to (hba.mono (by have h1 := HRS1.out.le; have h2 := HRT.out; have h3 := HBT1.out.lt; omega))
  have hpt : t0 < w1.heap.size := HBT1.out.lt
  have hrdx := HRD.out.below hba
  clear y0
  clear y1
  clear y2
  clear y3
  clear y4
  generalize w1.alloc (.cells #[.int .i64 4, .string ⟨#[]⟩, .string ⟨#[]⟩, .int .i64 0, .slice none 0 0, .slice none 0 0] 34) = X at bp bz hba hgx hrx hvx hrdx ⊢
  generalize w1.heap.size = P at bp hpt hba hrdx ⊢
  have HPT := Lib.hid hpt; have HGX := Lib.hid hgx; have HRX := Lib.hid hrx; have HVX := Lib.hid hvx; have HRDX := Lib.hid hrdx
  have y0 : X.cell? ⟨B, 0, none⟩ = some (strV [c]) := word_at hrdx rfl
  have y1 : X.cell? ⟨B, 1, none⟩ = some (strV nm) := word_at hrdx rfl
  have y2 : X.cell? ⟨B, 2, none⟩ = some (strV a) := word_at hrdx rfl
  have y3 : X.cell? ⟨B, 3, none⟩ = some (strV x) := word_at hrdx rfl
  have y4 : X.cell? ⟨B, 4, none⟩ = some (strV y) := word_at hrdx rfl
  clear hpt hgx hrx hvx hba hrdx hBl HGA HRS1 HV1 HBT1 HG1
  have HBP := Lib.hid bp; have HBZ := Lib.hid bz
  have hBP : B ≠ P := by have h1 := word_lt HRDX.out (by simp); omega
  have HNE := Lib.hid hBP
  have hNX : N ≤ X.heap.size := by have h1 := HRX.out.le; have h2 := HRT.out; have h3 := HBZ.out.lt; omega
  have HNX := Lib.hid hNX
  have HC : Hid (∀ Y, Below X.heap.size X Y → Y.cell? ⟨B, 1, none⟩ = some (strV nm) ∧ Y.cell? ⟨B, 2, none⟩ = some (strV a)) := Lib.hid (fun Y hb => ⟨word_at (Rd.below HRDX.out (hb.mono (Nat.le_of_lt HBP.out.lt))) rfl, word_at (Rd.below HRDX.out (hb.mono (Nat.le_of_lt HBP.out.lt))) rfl⟩)
  have HKD := Lib.hid (HC.out X.drew (below_drewN (Below.refl _ _) 1))
  have la : a.length ≤ s.length := word_len (by rw [HW.out]; simp)
  have lx : x.length ≤ s.length := word_len (by rw [HW.out]; simp)
  have ly : y.length ≤ s.length := word_len (by rw [HW.out]; simp)
  have ln : nm.length ≤ s.length := word_len (by rw [HW.out]; simp)
  have HLA := Lib.hid la; have HLX := Lib.hid lx; have HLY := Lib.hid ly; have HLN := Lib.hid ln
  have HI0 : Hid (RI w N R t0 P B x y r #[.int .i64 4, .string ⟨#[]⟩, .string ⟨#[]⟩, .int .i64 0, .slice none 0 0, .slice none 0 0] X) := Lib.hid ⟨HBP.out, HBZ.out, HRX.out, HGX.out, HVX.out, y3, y4, HT.out, HRT.out, HPT.out, HNE.out, HLT.out⟩
  clear bp bz y0 y3 y4 la lx ly ln hBP hNX
  cases hda : dig a with
  | none =>
    have HNO : Hid (∀ Y, Below X.heap.size X Y → Calls Tryz.prog 27 #[strV a] Y fun e u => e = .panicked bad ∧ Below Y.heap.size Y u) := Lib.hid (fun Y hb => number_no a (by have := HLA.out; have := HS.out; omega) hda Y (HVX.out Y (hb.mono HNX.out)))
    have ho : oneC s r = none := by rw [HO.out, hda]; rfl
    rw [ho]
    clear ho hda HO y1 y2
    refine wp_region_held_drew (S := (fun Y : World => Y.cell? ⟨B, 1, none⟩ = some (strV nm) ∧ Y.cell? ⟨B, 2, none⟩ = some (strV a))) (by kernel_rfl) HKD.out (fun hz => ?_)
    refine wpAnyH_take (i := 0) (v := ?_) rfl (by kernel_rfl) (by kernel_rfl) (by kernel_rfl) (fun _ _ _ h => h) (Or.inl ⟨by rfl, ?_⟩) hz ?_
    rotate_left
    · intro X hX
      obtain ⟨s0, s1⟩ := hX
      go_simp
      try with_reducible rfl
    try simp only [Act.put, List.getElem_toArray, List.getElem_cons_succ, List.getElem_cons_zero, List.setIfInBounds_toArray, List.set_cons_succ, List.set_cons_zero]
    refine wpAnyH_take (i := 1) (v := ?_) rfl (by kernel_rfl) (by kernel_rfl) (by kernel_rfl) (fun _ _ _ h => h) (Or.inl ⟨by rfl, ?_⟩) hz ?_
    rotate_left
    · intro X hX
      obtain ⟨s0, s1⟩ := hX
      go_simp
      try with_reducible rfl
    try simp only [Act.put, List.getElem_toArray, List.getElem_cons_succ, List.getElem_cons_zero, List.setIfInBounds_toArray, List.set_cons_succ, List.set_cons_zero]
    refine wpAnyH_take (i := 2) (v := ?_) rfl (by kernel_rfl) (by kernel_rfl) (by kernel_rfl) (fun _ _ _ h => h) (Or.inl ⟨by rfl, ?_⟩) hz ?_
    rotate_left
    · intro X hX
      obtain ⟨s0, s1⟩ := hX
      go_simp
      try with_reducible rfl
    try simp only [Act.put, List.getElem_toArray, List.getElem_cons_succ, List.getElem_cons_zero, List.setIfInBounds_toArray, List.set_cons_succ, List.set_cons_zero]
    refine wpAnyH_take (i := 3) (v := ?_) rfl (by kernel_rfl) (by kernel_rfl) (by kernel_rfl) (fun _ _ _ h => h) (Or.inl ⟨by rfl, ?_⟩) hz ?_
    rotate_left
    · intro X hX
      obtain ⟨s0, s1⟩ := hX
      go_simp
      try with_reducible rfl
    try simp only [Act.put, List.getElem_toArray, List.getElem_cons_succ, List.getElem_cons_zero, List.setIfInBounds_toArray, List.set_cons_succ, List.set_cons_zero]
    refine wpAnyH_take (i := 4) (v := ?_) rfl (by kernel_rfl) (by kernel_rfl) (by kernel_rfl) (fun _ _ _ h => h) (Or.inl ⟨by rfl, ?_⟩) hz ?_
    rotate_left
    · intro X hX
      obtain ⟨s0, s1⟩ := hX
      go_simp
      try with_reducible rfl
    try simp only [Act.put, List.getElem_toArray, List.getElem_cons_succ, List.getElem_cons_zero, List.setIfInBounds_toArray, List.set_cons_succ, List.set_cons_zero]
    refine wpAnyH_take (i := 5) (v := ?_) rfl (by kernel_rfl) (by kernel_rfl) (by kernel_rfl) (fun _ _ _ h => h) (Or.inl ⟨by rfl, ?_⟩) hz ?_
    rotate_left
    · intro X hX
      obtain ⟨s0, s1⟩ := hX
      go_simp
      try with_reducible rfl
    try simp only [Act.put, List.getElem_toArray, List.getElem_cons_succ, List.getElem_cons_zero, List.setIfInBounds_toArray, List.set_cons_succ, List.set_cons_zero]
    refine wpAnyH_take (i := 7) (v := ?_) rfl (by kernel_rfl) (by kernel_rfl) (by kernel_rfl) (fun _ _ _ h => h) (Or.inl ⟨by rfl, ?_⟩) hz ?_
    rotate_left
    · intro X hX
      obtain ⟨s0, s1⟩ := hX
      go_simp
      try with_reducible rfl
    try simp only [Act.put, List.getElem_toArray, List.getElem_cons_succ, List.getElem_cons_zero, List.setIfInBounds_toArray, List.set_cons_succ, List.set_cons_zero]
    refine wpAnyH_ready (rs := [6]) (by kernel_rfl) (by simp) ?_
    refine AllReadyH.cons rfl (fun K' hK' => ?_) AllReadyH.nil
    go_simp
    refine (HNO.out X.drew (below_drewN (Below.refl _ _) 1)).mono ?_
    rintro e u1 ⟨rfl, hbu⟩
    exact ⟨rfl, rfl, HGX.out.trans (Gr.of_below ((below_drewN (Below.refl X.heap.size X) 1).trans hbu))⟩
  | some i =>
    have HNUM : Hid (∀ Y, Below X.heap.size X Y → Calls Tryz.prog 27 #[strV a] Y fun e u => e = .returned (.int .i64 (i : Int)) ∧ Below Y.heap.size Y u) := Lib.hid (fun Y hb => number_yes a (by have := HLA.out; have := HS.out; omega) i hda Y (HVX.out Y (hb.mono HNX.out)))
    have HI := Lib.hid (dig_iff.1 hda).1
    rw [hda, Option.bind_some] at HO
    clear hda
    go_region_held3 (fun Y => Y.cell? ⟨B, 1, none⟩ = some (strV nm) ∧ Y.cell? ⟨B, 2, none⟩ = some (strV a))
      (first | (with_reducible exact HKD.out) | (with_reducible exact hS1) | (with_reducible exact HK2.out _ _) | (with_reducible exact HK3.out _ _ _ _))
      (first
        | (go_at_call 27; (with_reducible refine (HNUM.out X.drew (below_drewN (Below.refl _ _) 1)).mono ?_); rintro e u1 ⟨rfl, hbu⟩; have hu1 : Below X.heap.size X u1 := (below_drewN (Below.refl X.heap.size X) 1).trans hbu; have hS1 := HC.out u1 hu1; have HU1 := Lib.hid hu1;
            have HK2 := Lib.hid (fun (j : Nat) (v : Value) => And.intro (cell_set hS1.1 HNE.out j v) (cell_set hS1.2 HNE.out j v));
            have HK3 := Lib.hid (fun (j : Nat) (v : Value) (j' : Nat) (v' : Value) => And.intro (cell_set (cell_set hS1.1 HNE.out j v) HNE.out j' v') (cell_set (cell_set hS1.2 HNE.out j v) HNE.out j' v'));
            have bq := HBP.out.below hu1 HBP.out.lt; have p1 : u1.cell? ⟨P, 1, none⟩ = some (.string ⟨#[]⟩) := bq.cell 1 rfl; have p3 : u1.cell? ⟨P, 3, none⟩ = some (.int .i64 0) := bq.cell 3 rfl; have f1 := bq.frozen 1; have f3 := bq.frozen 3; clear hbu hu1 bq))
    have HI2 := Lib.hid (((HI0.out.below HU1.out).set 1 (strV nm)).set 3 (.int .i64 (i : Int)))
    clear hS1 HK2 HK3 p1 p3 f1 f3 HU1 HNUM HC HKD y1 y2 HI0 HBP HBZ HRX HGX HVX HRDX HNX
    go_upto_region 11 with fail
    replace HI2 : Hid (RI w N R t0 P B x y r #[.int .i64 4, strV nm, .string ⟨#[]⟩, .int .i64 (i : Int), .slice none 0 0, .slice none 0 0] (World.setCell (u1.setCell ⟨P, 1, none⟩ (strV nm)) ⟨P, 3, none⟩ (.int .i64 (i : Int)))) := HI2
    generalize (World.setCell (u1.setCell ⟨P, 1, none⟩ (strV nm)) ⟨P, 3, none⟩ (.int .i64 (i : Int))) = X2 at HI2 ⊢
    have HC : Hid (∀ Y, Below X2.heap.size X2 Y → Y.cell? ⟨B, 3, none⟩ = some (strV x) ∧ Y.cell? ⟨B, 4, none⟩ = some (strV y)) := Lib.hid (fun Y hb => ⟨(HI2.out.below hb).cx, (HI2.out.below hb).cy⟩)
    have HKD := Lib.hid (HC.out X2.drew (below_drewN (Below.refl _ _) 1))
    cases hdx : dig x with
    | none =>
      have HNO : Hid (∀ Y, Below X2.heap.size X2 Y → Calls Tryz.prog 27 #[strV x] Y fun e u => e = .panicked bad ∧ Below Y.heap.size Y u) := Lib.hid (fun Y hb => number_no x (by have := HLX.out; have := HS.out; omega) hdx Y ((HI2.out.below hb).vn.vars))
      have ho : oneC s r = none := by rw [HO.out, hdx]; rfl
      rw [ho]
      clear ho hdx HO
      refine wp_region_held_drew (S := (fun Y : World => Y.cell? ⟨B, 3, none⟩ = some (strV x) ∧ Y.cell? ⟨B, 4, none⟩ = some (strV y))) (by kernel_rfl) HKD.out (fun hz => ?_)
      refine wpAnyH_take (i := 0) (v := ?_) rfl (by kernel_rfl) (by kernel_rfl) (by kernel_rfl) (fun _ _ _ h => h) (Or.inl ⟨by rfl, ?_⟩) hz ?_
      rotate_left
      · intro X hX
        obtain ⟨s0, s1⟩ := hX
        go_simp
        try with_reducible rfl
      try simp only [Act.put, List.getElem_toArray, List.getElem_cons_succ, List.getElem_cons_zero, List.setIfInBounds_toArray, List.set_cons_succ, List.set_cons_zero]
      refine wpAnyH_take (i := 1) (v := ?_) rfl (by kernel_rfl) (by kernel_rfl) (by kernel_rfl) (fun _ _ _ h => h) (Or.inl ⟨by rfl, ?_⟩) hz ?_
      rotate_left
      · intro X hX
        obtain ⟨s0, s1⟩ := hX
        go_simp
        try with_reducible rfl
      try simp only [Act.put, List.getElem_toArray, List.getElem_cons_succ, List.getElem_cons_zero, List.setIfInBounds_toArray, List.set_cons_succ, List.set_cons_zero]
      refine wpAnyH_take (i := 2) (v := ?_) rfl (by kernel_rfl) (by kernel_rfl) (by kernel_rfl) (fun _ _ _ h => h) (Or.inl ⟨by rfl, ?_⟩) hz ?_
      rotate_left
      · intro X hX
        obtain ⟨s0, s1⟩ := hX
        go_simp
        try with_reducible rfl
      try simp only [Act.put, List.getElem_toArray, List.getElem_cons_succ, List.getElem_cons_zero, List.setIfInBounds_toArray, List.set_cons_succ, List.set_cons_zero]
      refine wpAnyH_take (i := 4) (v := ?_) rfl (by kernel_rfl) (by kernel_rfl) (by kernel_rfl) (fun _ _ _ h => h) (Or.inl ⟨by rfl, ?_⟩) hz ?_
      rotate_left
      · intro X hX
        obtain ⟨s0, s1⟩ := hX
        go_simp
        try with_reducible rfl
      try simp only [Act.put, List.getElem_toArray, List.getElem_cons_succ, List.getElem_cons_zero, List.setIfInBounds_toArray, List.set_cons_succ, List.set_cons_zero]
      refine wpAnyH_take (i := 5) (v := ?_) rfl (by kernel_rfl) (by kernel_rfl) (by kernel_rfl) (fun _ _ _ h => h) (Or.inl ⟨by rfl, ?_⟩) hz ?_
      rotate_left
      · intro X hX
        obtain ⟨s0, s1⟩ := hX
        go_simp
        try with_reducible rfl
      try simp only [Act.put, List.getElem_toArray, List.getElem_cons_succ, List.getElem_cons_zero, List.setIfInBounds_toArray, List.set_cons_succ, List.set_cons_zero]
      refine wpAnyH_take (i := 6) (v := ?_) rfl (by kernel_rfl) (by kernel_rfl) (by kernel_rfl) (fun _ _ _ h => h) (Or.inl ⟨by rfl, ?_⟩) hz ?_
      rotate_left
      · intro X hX
        obtain ⟨s0, s1⟩ := hX
        go_simp
        try with_reducible rfl
      try simp only [Act.put, List.getElem_toArray, List.getElem_cons_succ, List.getElem_cons_zero, List.setIfInBounds_toArray, List.set_cons_succ, List.set_cons_zero]
      refine wpAnyH_ready (rs := [3]) (by kernel_rfl) (by simp) ?_
      refine AllReadyH.cons rfl (fun K' hK' => ?_) AllReadyH.nil
      go_simp
      refine (HNO.out X2.drew (below_drewN (Below.refl _ _) 1)).mono ?_
      rintro e u2 ⟨rfl, hbu⟩
      exact ⟨rfl, rfl, HI2.out.gr.trans (Gr.of_below ((below_drewN (Below.refl X2.heap.size X2) 1).trans hbu))⟩
    | some n1 =>
      have HNUX : Hid (∀ Y, Below X2.heap.size X2 Y → Calls Tryz.prog 27 #[strV x] Y fun e u => e = .returned (.int .i64 (n1 : Int)) ∧ Below Y.heap.size Y u) := Lib.hid (fun Y hb => number_yes x (by have := HLX.out; have := HS.out; omega) n1 hdx Y ((HI2.out.below hb).vn.vars))
      have HN1 := Lib.hid (dig_iff.1 hdx).1
      rw [hdx, Option.bind_some] at HO
      clear hdx
      cases hdy : dig y with
      | none =>
        have HNO : Hid (∀ Y, Below X2.heap.size X2 Y → Calls Tryz.prog 27 #[strV y] Y fun e u => e = .panicked bad ∧ Below Y.heap.size Y u) := Lib.hid (fun Y hb => number_no y (by have := HLY.out; have := HS.out; omega) hdy Y ((HI2.out.below hb).vn.vars))
        have ho : oneC s r = none := by rw [HO.out, hdy]; rfl
        rw [ho]
        clear ho hdy HO
        refine wp_region_held_drew (S := (fun Y : World => Y.cell? ⟨B, 3, none⟩ = some (strV x) ∧ Y.cell? ⟨B, 4, none⟩ = some (strV y))) (by kernel_rfl) HKD.out (fun hz => ?_)
        refine wpAnyH_take (i := 0) (v := ?_) rfl (by kernel_rfl) (by kernel_rfl) (by kernel_rfl) (fun _ _ _ h => h) (Or.inl ⟨by rfl, ?_⟩) hz ?_
        rotate_left
        · intro X hX
          obtain ⟨s0, s1⟩ := hX
          go_simp
          try with_reducible rfl
        try simp only [Act.put, List.getElem_toArray, List.getElem_cons_succ, List.getElem_cons_zero, List.setIfInBounds_toArray, List.set_cons_succ, List.set_cons_zero]
        refine wpAnyH_take (i := 1) (v := ?_) rfl (by kernel_rfl) (by kernel_rfl) (by kernel_rfl) (fun _ _ _ h => h) (Or.inl ⟨by rfl, ?_⟩) hz ?_
        rotate_left
        · intro X hX
          obtain ⟨s0, s1⟩ := hX
          go_simp
          try with_reducible rfl
        try simp only [Act.put, List.getElem_toArray, List.getElem_cons_succ, List.getElem_cons_zero, List.setIfInBounds_toArray, List.set_cons_succ, List.set_cons_zero]
        refine wpAnyH_take (i := 2) (v := ?_) rfl (by kernel_rfl) (by kernel_rfl) (by kernel_rfl) (fun _ _ _ h => h) (Or.inl ⟨by rfl, ?_⟩) hz ?_
        rotate_left
        · intro X hX
          obtain ⟨s0, s1⟩ := hX
          go_simp
          try with_reducible rfl
        try simp only [Act.put, List.getElem_toArray, List.getElem_cons_succ, List.getElem_cons_zero, List.setIfInBounds_toArray, List.set_cons_succ, List.set_cons_zero]
        refine wpAnyH_take (i := 4) (v := ?_) rfl (by kernel_rfl) (by kernel_rfl) (by kernel_rfl) (fun _ _ _ h => h) (Or.inl ⟨by rfl, ?_⟩) hz ?_
        rotate_left
        · intro X hX
          obtain ⟨s0, s1⟩ := hX
          go_simp
          try with_reducible rfl
        try simp only [Act.put, List.getElem_toArray, List.getElem_cons_succ, List.getElem_cons_zero, List.setIfInBounds_toArray, List.set_cons_succ, List.set_cons_zero]
        refine wpAnyH_take (i := 5) (v := ?_) rfl (by kernel_rfl) (by kernel_rfl) (by kernel_rfl) (fun _ _ _ h => h) (Or.inl ⟨by rfl, ?_⟩) hz ?_
        rotate_left
        · intro X hX
          obtain ⟨s0, s1⟩ := hX
          go_simp
          try with_reducible rfl
        try simp only [Act.put, List.getElem_toArray, List.getElem_cons_succ, List.getElem_cons_zero, List.setIfInBounds_toArray, List.set_cons_succ, List.set_cons_zero]
        refine wpAnyH_take (i := 6) (v := ?_) rfl (by kernel_rfl) (by kernel_rfl) (by kernel_rfl) (fun _ _ _ h => h) (Or.inl ⟨by rfl, ?_⟩) hz ?_
        rotate_left
        · intro X hX
          obtain ⟨s0, s1⟩ := hX
          go_simp
          try with_reducible rfl
        try simp only [Act.put, List.getElem_toArray, List.getElem_cons_succ, List.getElem_cons_zero, List.setIfInBounds_toArray, List.set_cons_succ, List.set_cons_zero]
        refine wpAnyH_ready (rs := [3]) (by kernel_rfl) (by simp) ?_
        refine AllReadyH.cons rfl (fun K' hK' => ?_) AllReadyH.nil
        go_simp
        refine (HNUX.out X2.drew (below_drewN (Below.refl _ _) 1)).mono ?_
        rintro e u2 ⟨rfl, hbu⟩
        have hu2 : Below X2.heap.size X2 u2 := (below_drewN (Below.refl X2.heap.size X2) 1).trans hbu
        have HU2 := Lib.hid hu2
        refine hK'.out _ _ (HC.out u2 hu2) (fun hz => ?_)
        clear hK' K' hbu hu2
        try simp only [Act.put, List.getElem_toArray, List.getElem_cons_succ, List.getElem_cons_zero, List.setIfInBounds_toArray, List.set_cons_succ, List.set_cons_zero]
        refine wpAnyH_ready (rs := [7]) (by kernel_rfl) (by simp) ?_
        refine AllReadyH.cons rfl (fun K' hK' => ?_) AllReadyH.nil
        go_simp
        refine (HNO.out u2 HU2.out).mono ?_
        rintro e u3 ⟨rfl, hbu⟩
        exact ⟨rfl, rfl, HI2.out.gr.trans (Gr.of_below (HU2.out.trans (hbu.mono HU2.out.size)))⟩
      | some n2 =>
        have HNUY : Hid (∀ Y, Below X2.heap.size X2 Y → Calls Tryz.prog 27 #[strV y] Y fun e u => e = .returned (.int .i64 (n2 : Int)) ∧ Below Y.heap.size Y u) := Lib.hid (fun Y hb => number_yes y (by have := HLY.out; have := HS.out; omega) n2 hdy Y ((HI2.out.below hb).vn.vars))
        have HN2 := Lib.hid (dig_iff.1 hdy).1
        rw [hdy, Option.bind_some] at HO
        clear hdy
        have y3 := (HC.out X2 (Below.refl _ _)).1
        have y4 := (HC.out X2 (Below.refl _ _)).2
        go_region_held3 (fun Y => Y.cell? ⟨B, 3, none⟩ = some (strV x) ∧ Y.cell? ⟨B, 4, none⟩ = some (strV y))
          (first | (with_reducible exact HKD.out) | (with_reducible exact hS2) | (with_reducible exact hS3))
          (first
            | (go_at_call 27; (with_reducible refine (HNUX.out X2.drew (below_drewN (Below.refl _ _) 1)).mono ?_); rintro e u2 ⟨rfl, hbu⟩; have hu2 : Below X2.heap.size X2 u2 := (below_drewN (Below.refl X2.heap.size X2) 1).trans hbu; have hS2 := HC.out u2 hu2; have HU2 := Lib.hid hu2; clear hbu hu2)
            | (go_at_call 27; (with_reducible refine (HNUY.out u2 HU2.out).mono ?_); rintro e u3 ⟨rfl, hbu⟩; have hu3 : Below X2.heap.size X2 u3 := HU2.out.trans (hbu.mono HU2.out.size); have hS3 := HC.out u3 hu3; have HU3 := Lib.hid hu3; clear hbu hu3))
        have HI3 := Lib.hid (HI2.out.below HU3.out)
        clear hS2 hS3 HU2 HU3 HNUX HNUY HC HKD y3 y4 HI2
        go_wp2_with fail
        cases hz1 : some_ 45 n1 r with
        | none =>
          have ho : oneC s r = none := by rw [HO.out, hz1]; rfl
          rw [ho]
          have key := readLines n1 45 N R r u3 HN1.out HI3.out.rs
          rw [hz1] at key
          refine key.mono ?_
          rintro e Y ⟨rfl, hg⟩
          have HGY := Lib.hid (HI3.out.gr.trans hg)
          clear hg key ho hz1 HO
          go_wp2
          exact ⟨rfl, rfl, HGY.out⟩
        | some z =>
          obtain ⟨l, r1⟩ := z
          have key := readLines n1 45 N R r u3 HN1.out HI3.out.rs
          rw [hz1] at key
          have HZ1 := Lib.hid (some_inv hz1)
          rw [hz1, Option.bind_some] at HO
          refine key.mono ?_
          rintro e Y ⟨v, rfl, hown, hrest, hg⟩
          simp only at hown hrest
          obtain ⟨A1, c1, rfl, hc1, hrd1⟩ := rd_of_own hown
          obtain ⟨nl, hnl⟩ : ∃ nl, l.length = nl := ⟨_, rfl⟩
          rw [hnl] at hown hc1 ⊢
          have HI4 := Lib.hid (HI3.out.read hrest hg)
          have hu3 : P < u3.heap.size := HI3.out.bp.lt
          have HLO := Lib.hid hu3
          have HL1 := Lib.hid (ln_own (lo := P + 1) hown hrd1 hu3)
          have HNL := Lib.hid hnl; have HC1 := Lib.hid hc1
          have p4 : Y.cell? ⟨P, 4, none⟩ = some (.slice none 0 0) := HI4.out.bp.cell 4 rfl
          have f4 : Y.frozen? ⟨P, 4, none⟩ = false := HI4.out.bp.frozen 4
          clear key hz1 hown hrest hg hc1 hrd1 hnl HI3 hu3
          go_wp2_with fail
          have HI5 : Hid (RI w N R t0 P B x y r1 #[.int .i64 4, strV nm, .string ⟨#[]⟩, .int .i64 (i : Int), .slice A1 nl c1, .slice none 0 0] (Y.setCell ⟨P, 4, none⟩ (.slice A1 nl c1))) := Lib.hid (HI4.out.set 4 (.slice A1 nl c1))
          replace HL1 := Lib.hid (HL1.out.gr (grownBy_set Y P 4 (.slice A1 nl c1)) (Nat.lt_succ_self P))
          generalize Y.setCell ⟨P, 4, none⟩ (.slice A1 nl c1) = Y2 at HI5 HL1 ⊢
          clear p4 f4 HI4
          cases hz2 : some_ 43 n2 r1 with
          | none =>
            have ho : oneC s r = none := by rw [HO.out, hz2]; rfl
            rw [ho]
            have key := readLines n2 43 N R r1 Y2 HN2.out HI5.out.rs
            rw [hz2] at key
            refine key.mono ?_
            rintro e Y3 ⟨rfl, hg⟩
            have HGY := Lib.hid (HI5.out.gr.trans hg)
            clear hg key ho hz2 HO
            go_wp2
            exact ⟨rfl, rfl, HGY.out⟩
          | some z =>
            obtain ⟨m, r2⟩ := z
            have key := readLines n2 43 N R r1 Y2 HN2.out HI5.out.rs
            rw [hz2] at key
            have HZ2 := Lib.hid (some_inv hz2)
            rw [hz2, Option.bind_some] at HO
            refine key.mono ?_
            rintro e Y3 ⟨v, rfl, hown, hrest, hg⟩
            simp only at hown hrest
            obtain ⟨A2, c2, rfl, hc2, hrd2⟩ := rd_of_own hown
            obtain ⟨nm2, hnm⟩ : ∃ nm2, m.length = nm2 := ⟨_, rfl⟩
            rw [hnm] at hown hc2 ⊢
            have HI6 := Lib.hid (HI5.out.read hrest hg)
            have hy2 : P < Y2.heap.size := HI5.out.bp.lt
            have HL2 := Lib.hid (ln_own (lo := P + 1) hown hrd2 hy2)
            have HL1' := Lib.hid (HL1.out.gr hg (by have h1 := HI5.out.o1; have h2 := HI5.out.o2; omega))
            have HNM := Lib.hid hnm; have HC2 := Lib.hid hc2
            have p5 : Y3.cell? ⟨P, 5, none⟩ = some (.slice none 0 0) := HI6.out.bp.cell 5 rfl
            have f5 : Y3.frozen? ⟨P, 5, none⟩ = false := HI6.out.bp.frozen 5
            clear key hz2 hown hrest hg hc2 hrd2 hnm HI5 hy2 HL1
            go_upto_region 14 with fail
            have HI7 : Hid (RI w N R t0 P B x y r2 #[.int .i64 4, strV nm, .string ⟨#[]⟩, .int .i64 (i : Int), .slice A1 nl c1, .slice A2 nm2 c2] (Y3.setCell ⟨P, 5, none⟩ (.slice A2 nm2 c2))) := Lib.hid (HI6.out.set 5 (.slice A2 nm2 c2))
            replace HL1' := Lib.hid (HL1'.out.gr (grownBy_set Y3 P 5 (.slice A2 nm2 c2)) (Nat.lt_succ_self P))
            replace HL2 := Lib.hid (HL2.out.gr (grownBy_set Y3 P 5 (.slice A2 nm2 c2)) (Nat.lt_succ_self P))
            generalize Y3.setCell ⟨P, 5, none⟩ (.slice A2 nm2 c2) = Z at HI7 HL1' HL2 ⊢
            clear p5 f5 HI6
            have bp := HI7.out.bp
            have bz := HI7.out.bz
            have p0 : Z.cell? ⟨P, 0, none⟩ = some (.int .i64 4) := bp.cell 0 rfl
            have p1 : Z.cell? ⟨P, 1, none⟩ = some (strV nm) := bp.cell 1 rfl
            have p2 : Z.cell? ⟨P, 2, none⟩ = some (.string ⟨#[]⟩) := bp.cell 2 rfl
            have p3 : Z.cell? ⟨P, 3, none⟩ = some (.int .i64 (i : Int)) := bp.cell 3 rfl
            have p4 : Z.cell? ⟨P, 4, none⟩ = some (.slice A1 nl c1) := bp.cell 4 rfl
            have p5 : Z.cell? ⟨P, 5, none⟩ = some (.slice A2 nm2 c2) := bp.cell 5 rfl
            have z0 : Z.cell? ⟨t0, 0, none⟩ = some (.int .i64 0) := bz.cell 0 rfl
            have z1 : Z.cell? ⟨t0, 1, none⟩ = some (.string ⟨#[]⟩) := bz.cell 1 rfl
            have z2 : Z.cell? ⟨t0, 2, none⟩ = some (.string ⟨#[]⟩) := bz.cell 2 rfl
            have z3 : Z.cell? ⟨t0, 3, none⟩ = some (.int .i64 0) := bz.cell 3 rfl
            have z4 : Z.cell? ⟨t0, 4, none⟩ = some (.slice none 0 0) := bz.cell 4 rfl
            have z5 : Z.cell? ⟨t0, 5, none⟩ = some (.slice none 0 0) := bz.cell 5 rfl
            have f0 : Z.frozen? ⟨t0, 0, none⟩ = false := bz.frozen 0
            have f1 : Z.frozen? ⟨t0, 1, none⟩ = false := bz.frozen 1
            have f2 : Z.frozen? ⟨t0, 2, none⟩ = false := bz.frozen 2
            have f3 : Z.frozen? ⟨t0, 3, none⟩ = false := bz.frozen 3
            have f4 : Z.frozen? ⟨t0, 4, none⟩ = false := bz.frozen 4
            have f5 : Z.frozen? ⟨t0, 5, none⟩ = false := bz.frozen 5
            have b6 := blk6 bz (.int .i64 4) (strV nm) (.string ⟨#[]⟩) (.int .i64 (i : Int)) (.slice A1 nl c1) (.slice A2 nm2 c2)
            have B6 := Lib.hid b6; have BZ := Lib.hid bz
            have hneP : P ≠ t0 := by have := HPT.out; omega
            clear b6 bp bz
            go_wp2
            clear p0 z0 f0 p1 z1 f1 p2 z2 f2 p3 z3 f3 p4 z4 f4 p5 z5 f5
            have hg6 : Z.grownBy (World.setCell (World.setCell (World.setCell (World.setCell (World.setCell (World.setCell Z ⟨t0, 0, none⟩ (.int .i64 4)) ⟨t0, 1, none⟩ (strV nm)) ⟨t0, 2, none⟩ (.string ⟨#[]⟩)) ⟨t0, 3, none⟩ (.int .i64 (i : Int))) ⟨t0, 4, none⟩ (.slice A1 nl c1)) ⟨t0, 5, none⟩ (.slice A2 nm2 c2)) (some t0) := grownBy_set6 Z t0 _ _ _ _ _ _
            have b6 := B6.out
            clear B6
            generalize World.setCell (World.setCell (World.setCell (World.setCell (World.setCell (World.setCell Z ⟨t0, 0, none⟩ (.int .i64 4)) ⟨t0, 1, none⟩ (strV nm)) ⟨t0, 2, none⟩ (.string ⟨#[]⟩)) ⟨t0, 3, none⟩ (.int .i64 (i : Int))) ⟨t0, 4, none⟩ (.slice A1 nl c1)) ⟨t0, 5, none⟩ (.slice A2 nm2 c2) = Z6 at b6 hg6 ⊢
            have q0 : Z6.cell? ⟨t0, 0, none⟩ = some (.int .i64 4) := b6.cell 0 rfl
            have q1 : Z6.cell? ⟨t0, 1, none⟩ = some (strV nm) := b6.cell 1 rfl
            have q2 : Z6.cell? ⟨t0, 2, none⟩ = some (.string ⟨#[]⟩) := b6.cell 2 rfl
            have q3 : Z6.cell? ⟨t0, 3, none⟩ = some (.int .i64 (i : Int)) := b6.cell 3 rfl
            have q4 : Z6.cell? ⟨t0, 4, none⟩ = some (.slice A1 nl c1) := b6.cell 4 rfl
            have q5 : Z6.cell? ⟨t0, 5, none⟩ = some (.slice A2 nm2 c2) := b6.cell 5 rfl
            refine bodyPost_ret (v := .agg #[.int .i64 4, strV nm, .string ⟨#[]⟩, .int .i64 (i : Int), .slice A1 nl c1, .slice A2 nm2 c2]) (by simp [results, Tryz.results14, go_sem, q0, q1, q2, q3, q4, q5]) rfl ?_
            have hN := HI7.out.rs.le; have hrt := HI7.out.o1; have ht := HI7.out.o0; have hs6 := HS.out; have hpp := HI7.out.o2
            have hi6 := HI.out; have ll := HLN.out
            have hl1 := HL1'.out.gr hg6 (by omega); have hl2 := HL2.out.gr hg6 (by omega)
            have hr0 := HZ1.out.1; have hr1 := HZ2.out.1
            have hlen := congrArg List.length hr0
            have hlen1 := congrArg List.length hr1
            rw [List.length_append] at hlen hlen1
            have hrl := HRL.out
            have hsz : P < Z6.heap.size := by have h1 := HI7.out.bp.lt; have h2 := hg6.size; omega
            have q1 := HZ1.out.2; have q2 := HZ2.out.2; have q3 := HN1.out; have q4 := HN2.out; have q5 := HNL.out; have q6 := HNM.out
            rw [HO.out]
            refine ⟨A1, nl, c1, A2, nm2, c2, rfl, ⟨⟨q5, q6, HC1.out, HC2.out, by unfold maxLen; omega, by unfold maxLen; omega, hl1.1, hl2.1, ?_⟩, ?_, ?_, ?_, ?_, ?_⟩, hl1.2.mono (by omega), hl2.2.mono (by omega), HI7.out.rs.gr hg6 (fun e => by injection e with e; omega) (fun b e => by injection e with e; omega), HI7.out.gr.grown hg6 (fun b e => by injection e with e; omega)⟩
            · constructor <;> (simp only; omega)
            · constructor <;> (simp only; omega)
            · show nm.length ≤ maxLen
              unfold maxLen; omega
            · show ([] : List UInt8).length ≤ maxLen
              unfold maxLen; simp
            · intro u hu
              have h1 := sg_mem (c := 45) (show u ∈ l from hu)
              unfold maxLen; omega
            · intro u hu
              have h1 := sg_mem (c := 43) (show u ∈ m from hu)
              unfold maxLen; omega

theorem read (s : List UInt8) (N R : Nat) (r : List UInt8) (w : World) (hs : s.length ≤ 200000) (hr : Rest w N R r) (hv : VN N w) :
    Calls Tryz.prog 14 #[strV s, .func (.func 23) #[] #[.pointer (some ⟨R, 0, none⟩)]] w (RdEnd w N R (oneC s r)) := by
  cases hw : words s with
  | nil => exact absurd hw (words_ne s)
  | cons k ws =>
    by_cases hk : k.length = 1
    · obtain ⟨c, rfl⟩ : ∃ c, k = [c] := by
        match k, hk with
        | [c], _ => exact ⟨c, rfl⟩
      obtain ⟨kv, hkv⟩ : ∃ kv, kindB [c] = kv := ⟨_, rfl⟩
      have hr6 : kv = -1 ∨ kv = 0 ∨ kv = 1 ∨ kv = 2 ∨ kv = 3 ∨ kv = 4 := by
        rw [← hkv]
        unfold kindB
        repeat' (split; · simp)
        simp
      match ws, hw with
      | [a1], hw =>
        rcases hr6 with rfl | rfl | rfl | rfl | rfl | rfl
        · exact read_2n s N R r w hs hr hv c _ a1 hw hkv (by decide)
        · exact read_0 s N R r w hs hr hv c a1 hw hkv
        · exact read_1 s N R r w hs hr hv c a1 hw hkv
        · exact read_2n s N R r w hs hr hv c _ a1 hw hkv (by decide)
        · exact read_2n s N R r w hs hr hv c _ a1 hw hkv (by decide)
        · exact read_2n s N R r w hs hr hv c _ a1 hw hkv (by decide)
      | [a1, a2], hw =>
        rcases hr6 with rfl | rfl | rfl | rfl | rfl | rfl
        · exact read_3n s N R r w hs hr hv c _ a1 a2 hw hkv (by decide)
        · exact read_3n s N R r w hs hr hv c _ a1 a2 hw hkv (by decide)
        · exact read_3n s N R r w hs hr hv c _ a1 a2 hw hkv (by decide)
        · exact read_2 s N R r w hs hr hv c a1 a2 hw hkv
        · exact read_3n s N R r w hs hr hv c _ a1 a2 hw hkv (by decide)
        · exact read_3n s N R r w hs hr hv c _ a1 a2 hw hkv (by decide)
      | [a1, a2, a3, a4], hw =>
        rcases hr6 with rfl | rfl | rfl | rfl | rfl | rfl
        · exact read_5n s N R r w hs hr hv c _ a1 a2 a3 a4 hw hkv (by decide)
        · exact read_5n s N R r w hs hr hv c _ a1 a2 a3 a4 hw hkv (by decide)
        · exact read_5n s N R r w hs hr hv c _ a1 a2 a3 a4 hw hkv (by decide)
        · exact read_5n s N R r w hs hr hv c _ a1 a2 a3 a4 hw hkv (by decide)
        · exact read_3 s N R r w hs hr hv c a1 a2 a3 a4 hw hkv
        · exact read_4 s N R r w hs hr hv c a1 a2 a3 a4 hw hkv
      | [], hw => exact read_n s N R r w hs hr hv c kv _ 1 hw rfl hkv (by decide) (by decide) (by decide)
      | [a1, a2, a3], hw => exact read_n s N R r w hs hr hv c kv _ 4 hw rfl hkv (by decide) (by decide) (by decide)
      | a1 :: a2 :: a3 :: a4 :: a5 :: az, hw => exact read_n s N R r w hs hr hv c kv _ _ hw rfl hkv (by simp) (by simp) (by simp)
    · exact read_k s N R r w hs hr hv k ws hw hk

end Cd
end Go.Proofs.YtjhjmfodpnipiaaGreatDoor
