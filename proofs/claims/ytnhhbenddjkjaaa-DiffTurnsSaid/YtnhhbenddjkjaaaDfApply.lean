/-
  What own, rise and Apply of layer 4 return (walks).
-/
import Derived.Test.YtnhhbenddjkjaaaDfCost
import Derived.Test.YtnhhbenddjkjaaaQApp
import Derived.RangeFuncBox
namespace Go.Proofs.Ytnhhbenddjkjaaa
open Go.RowKit
set_option linter.unusedVariables false
namespace Df
open Tx

def BoolEnd (w : World) (b : Bool) (e : Ending) (w' : World) : Prop := e = .returned (.bool b) ∧ Below w.heap.size w w'

theorem drop_at {α : Type} {l : List α} {k : Nat} (h : k < l.length) : l.drop k = l[k] :: l.drop (k + 1) := List.drop_eq_getElem_cons h

set_option maxHeartbeats 800000 in
theorem rise (A : Option Addr) (c ne n B : Nat) (es : List E) (w : World) (hne : es.length = ne) (hnem : ne ≤ maxLen) (hn : n ≤ 1000000) (hB : B ≤ w.heap.size) (hR : RdE w B A es) :
    Calls Try.prog 27 #[.slice A ne c, .int .i64 n] w (BoolEnd w (risB n 0 es)) := by
  unfold maxLen at hnem
  have HN := Lib.hid hne; clear hne
  go_enter Try.func27, Try.ntmps27
  go_wp2
  go_loopw [5, 10] (fun v5 v10 wr => ∃ (k : Nat) (m : Int), k ≤ ne ∧ 0 ≤ m ∧ m ≤ n + 1 ∧ v10 = .int .i64 k ∧ v5 = .int .i64 m ∧ risB n 0 es = risB n m (es.drop k) ∧ Below w.heap.size w wr) (fun _ v10 _ => ne - (intOf v10).toNat)
  case atStart => exact ⟨0, 0, Nat.zero_le _, by omega, by omega, rfl, rfl, rfl, Below.refl _ _⟩
  case round =>
    obtain ⟨k, m, hk, hm0, hm1, rfl, rfl, hris, hbr⟩ := hrel
    by_cases hlt : k < ne
    · have hkl : k < es.length := by rw [HN.out]; exact hlt
      obtain ⟨a, rfl, hab, hat⟩ := (hR.below (hbr.mono hB)).at_ hkl
      rw [drop_at hkl] at hris
      have HR := Lib.hid hris; clear hris
      generalize es[k] = x at *
      obtain ⟨c0, c1, ⟨A2, c2, h2, h3, h4⟩, hp, ho, hl⟩ := hat
      obtain ⟨p, o, l⟩ := x
      simp only at *
      unfold I64 at hp ho
      by_cases g1 : p < m
      · have HF := Lib.hid (HR.out.trans (risB_no _ (by simp only; omega)))
        go_wp2
        go_ret
        exact ⟨ret_bool HF.out.symm, hbr.alloc hbr.size _⟩
      · by_cases g2 : o < 0
        · have HF := Lib.hid (HR.out.trans (risB_no _ (by simp only; omega)))
          go_wp2
          go_ret
          exact ⟨ret_bool HF.out.symm, hbr.alloc hbr.size _⟩
        · by_cases g3 : (n : Int) - p < o
          · have HF := Lib.hid (HR.out.trans (risB_no _ (by simp only; omega)))
            go_wp2
            go_ret
            exact ⟨ret_bool HF.out.symm, hbr.alloc hbr.size _⟩
          · have HF := Lib.hid (HR.out.trans (risB_yes _ (by simp only; omega) (by simp only; omega) (by simp only; omega)))
            go_wp2
            go_roundw
            case rel => exact ⟨k + 1, p + o + 1, by omega, by omega, by omega, by go_num, rfl, HF.out, hbr.alloc hbr.size _⟩
            case measure => simp [intOf]; omega
    · have HF : Hid (risB n 0 es = true) := Lib.hid (by rw [hris, List.drop_of_length_le (by rw [HN.out]; omega)]; rfl)
      clear hris
      go_wp2
      go_ret
      exact ⟨ret_bool HF.out.symm, hbr⟩

/-- How Apply ends: what the edits make, and whether they fit. -/
def ApplyEnd (w : World) (o : Option (List (List UInt8))) (e : Ending) (w' : World) : Prop :=
  ∃ v, e = .returned (.tuple #[v, .bool o.isSome]) ∧ App w' w.heap.size 9 v (o.getD []).length ((o.getD []).map strV) ∧ Below w.heap.size w w'

theorem app_below {w w' : World} {base : Nat} {e : TypeId} {v : Value} {n : Nat} {xs : List Value} (h : App w base e v n xs) (hb : Below w.heap.size w w') : App w' base e v n xs := by
  obtain ⟨A, c, h1, h2, h3, h4, h5⟩ := h
  refine ⟨A, c, h1, h2, h3, (Rd.below h4 hb).up hb.size, h5.imp id fun h => ?_⟩
  refine ⟨h.1, ?_⟩
  rcases h.2 with h | ⟨g, cap, cur, k1, k2, k3, k4⟩
  · exact .inl h
  · exact .inr ⟨g, cap, cur, k1, k2, (hb.block g (Array.getElem?_eq_some_iff.1 k3).1).trans k3, k4⟩

theorem cell_of {w : World} {g : Nat} {cs : Array Value} {t : TypeId} {fr : Nat × Nat} (h : w.heap[g]? = some (.cells cs t fr)) (j : Nat) {u : Value} (hu : cs[j]? = some u) : w.cell? ⟨g, j, none⟩ = some u := by
  unfold World.cell?; rw [h]; exact hu

theorem mid_map {a : List (List UInt8)} {i j : Nat} : (mid a i j).map strV = ((a.map strV).drop i).take (j - i) := by
  unfold mid; rw [List.map_take, List.map_drop]

set_option maxRecDepth 100000 in
set_option maxHeartbeats 2000000 in
theorem Apply_yes (A A' : Option Addr) (c c' n ne B : Nat) (ls : List (List UInt8)) (es : List E) (r : List (List UInt8)) (w : World) (hn : ls.length = n) (hne : es.length = ne) (hnc : n ≤ c) (hln : n ≤ 1000000) (hnem : ne ≤ maxLen) (hB : B ≤ w.heap.size)
    (hR : RdS w B A ls) (hR' : RdE w B A' es) (hr : appl ls es = some r) (hrl : r.length ≤ 1000000) :
    Calls Try.prog 17 #[.slice A n c, .slice A' ne c'] w (ApplyEnd w (some r)) := by
  obtain ⟨j0, hj, hy0, hy1, hy2⟩ := info_parts info_str
  have hris := appl_risB ls es
  rw [hr, hn] at hris
  have HRI : Hid (risB n 0 es = true) := Lib.hid hris.symm
  clear hris
  have HN := Lib.hid hn; clear hn
  have HE := Lib.hid hne; clear hne
  have HR := Lib.hid hr; clear hr
  go_enter Try.func17, Try.ntmps17
  go_wp2_with fail
  refine (rise A' c' ne n B es w HE.out hnem hln hB hR').mono ?_
  rw [HRI.out]
  rintro e w1 ⟨rfl, hb1⟩
  have hrs := hR.below (hb1.mono hB)
  unfold maxLen at hnem
  go_wp2
  go_loopw [6, 7, 17] (fun v6 v7 v17 wr => ∃ (k f : Nat) (out r' : List (List UInt8)), k ≤ ne ∧ f ≤ n ∧ v17 = .int .i64 k ∧ v7 = .int .i64 f ∧ App wr w.heap.size 9 v6 out.length (out.map strV) ∧ apl ls f (decide (k = 0)) (es.drop k) = some r' ∧ r = out ++ r' ∧ Below w.heap.size w wr) (fun _ _ v17 _ => ne - (intOf v17).toNat)
  case atStart => exact ⟨0, 0, [], r, Nat.zero_le _, Nat.zero_le _, rfl, rfl, app_nil _ _ _, HR.out, rfl, hb1⟩
  case round =>
    obtain ⟨k, f, out, r', hk, hf, rfl, rfl, happ, hap, hrr, hbr⟩ := hrel
    have HRR := Lib.hid hrr; clear hrr
    by_cases hlt : k < ne
    · have hkl : k < es.length := by rw [HE.out]; exact hlt
      obtain ⟨a, rfl, hab, hat⟩ := (hR'.below (hbr.mono hB)).at_ hkl
      rw [drop_at hkl] at hap
      generalize es[k] = x at *
      obtain ⟨⟨f1, f2, f3, f4, f5⟩, r'', hr'', hrm⟩ := apl_some hap
      clear hap
      rw [HN.out] at f3 f5
      obtain ⟨c0, c1, ⟨A2, c2, h2, h3, h4⟩, hp, ho, hl⟩ := hat
      obtain ⟨p, o, l⟩ := x
      simp only at *
      obtain ⟨p, rfl⟩ : ∃ q : Nat, p = q := ⟨p.toNat, by omega⟩
      obtain ⟨o, rfl⟩ : ∃ q : Nat, o = q := ⟨o.toNat, by omega⟩
      simp only [Int.toNat_natCast] at hrm
      rw [show ((p : Int) + (o : Int)).toNat = p + o by omega] at hr''
      have hfp : f ≤ p := by omega
      have hpo : p + o ≤ n := by omega
      clear f1 f2 f3 f4 f5 hp ho
      have hrl2 := hrl
      rw [HRR.out, hrm] at hrl2
      simp only [List.length_append] at hrl2
      rw [mid_len (by rw [HN.out]; omega)] at hrl2
      have HRM := Lib.hid hrm; clear hrm
      have HAP := Lib.hid hr''; clear hr''
      obtain ⟨ol, hol⟩ : ∃ ol, out.length = ol := ⟨_, rfl⟩
      obtain ⟨ll, hll⟩ : ∃ ll, l.length = ll := ⟨_, rfl⟩
      rw [hol] at happ hrl2
      rw [hll] at hrl2 h2 h3 hl
      have HOL := Lib.hid hol; clear hol
      have HLL := Lib.hid hll; clear hll
      have hRr : RdS wr B A ls := Rd.below hR (hbr.mono hB)
      have hD := Rd.drop hRr (k := f) (cap := c) (by rw [List.length_map, HN.out]; exact hnc)
      have hmm : ((ls.map strV).drop f).take (p - f) = (mid ls f p).map strV := mid_map.symm
      have HM : Hid (((mid ls f p).map strV).length = p - f) := Lib.hid (by rw [List.length_map, mid_len (by rw [HN.out]; omega)])
      have happ' := app_below happ ((Below.refl _ _).alloc (Nat.le_refl _) (.cells #[.int .i64 (p : Int), .int .i64 (o : Int), .slice A2 ll c2] 37))
      rcases Classical.em (f = c) with hcf | hcf
      all_goals
        first | (subst hcf; rw [if_pos rfl] at hD) | rw [if_neg (Ne.symm hcf)] at hD
        have hDT := hD.take (p - f)
        rw [hmm] at hDT
        have hDT' := Rd.below hDT (w' := wr.alloc (.cells #[.int .i64 (p : Int), .int .i64 (o : Int), .slice A2 ll c2] 37)) ((Below.refl _ _).alloc (by have := hbr.size; omega) _)
        clear hD hDT hmm
        have hnew := World.alloc_heap_new wr (.cells #[.int .i64 (p : Int), .int .i64 (o : Int), .slice A2 ll c2] 37)
        go_wp2_with (first
          | (at_builtin; refine wpList_appT rfl (.tmp 21) (.tmp 26) 22 rfl w.heap.size 9 j0 (.string ⟨#[]⟩) 16 Try.underlying22 hj hy0 hy1 hy2 rfl _ ol (out.map strV) rfl happ' B _ (p - f) _ ((mid ls f p).map strV) rfl HM.out hDT' (strs_one _) (by unfold maxLen; omega) (by omega) (by have := hbr.size; simp; omega) ?_; intro v2 w2 hA2 hB2 hT2; have hB02 := (hbr.alloc hbr.size _).trans hB2; have hbl := hT2 _ _ _ _ hnew (by decide); have hl0 := cell_of hbl 0 rfl; have hl1 := cell_of hbl 1 rfl; have hl2 := cell_of hbl 2 rfl)
          | (at_builtin; refine wpList_appT rfl (.tmp 28) (.tmp 30) 22 rfl w.heap.size 9 j0 (.string ⟨#[]⟩) 16 Try.underlying22 hj hy0 hy1 hy2 rfl _ _ _ rfl hA2 B A2 ll c2 (l.map strV) rfl (by rw [List.length_map]; exact HLL.out) (Rd.below h4 (((Below.refl _ _).alloc (by have := hbr.size; omega) _).trans (hB2.mono hB))) (strs_one _) (by unfold maxLen; omega) (by omega) hB02.size ?_; intro v3 w3 hA3 hB3 hT3; have hB03 := hB02.trans hB3; have hbl3 := hT3 _ _ _ _ hbl (by decide); have hm0 := cell_of hbl3 0 rfl; have hm1 := cell_of hbl3 1 rfl; clear hB3 hbl3 hT3))
        go_roundw
        case rel =>
          refine ⟨k + 1, p + o, out ++ mid ls f p ++ l, r'', by omega, by omega, by go_num, by go_num, ?_, ?_, ?_, hB03⟩
          · have e1 : (out ++ mid ls f p ++ l).length = ol + (p - f) + ll := by
              have := HM.out; rw [List.length_map] at this
              rw [List.length_append, List.length_append, HOL.out, HLL.out, this]
            rw [e1, List.map_append, List.map_append]; exact hA3
          · rw [decide_eq_false (by omega)]; exact HAP.out
          · rw [HRR.out, HRM.out]; simp only [List.append_assoc]
        case measure => simp [intOf]; omega
    · have hap2 := hap
      rw [List.drop_of_length_le (by rw [HE.out]; omega), apl_nil] at hap2
      have HRL : Hid (r = out ++ ls.drop f) := Lib.hid (by rw [HRR.out]; injection hap2 with h; rw [h])
      clear hap hap2 HRR
      have hrl2 := hrl
      rw [HRL.out, List.length_append, List.length_drop, HN.out] at hrl2
      obtain ⟨ol, hol⟩ : ∃ ol, out.length = ol := ⟨_, rfl⟩
      rw [hol] at happ hrl2
      have HOL := Lib.hid hol; clear hol
      have hRr : RdS wr B A ls := Rd.below hR (hbr.mono hB)
      have hD := Rd.drop hRr (k := f) (cap := c) (by rw [List.length_map, HN.out]; exact hnc)
      rw [← List.map_drop] at hD
      have HM : Hid (((ls.drop f).map strV).length = n - f) := Lib.hid (by rw [List.length_map, List.length_drop, HN.out])
      rcases Classical.em (f = c) with hcf | hcf
      all_goals
        first | (subst hcf; rw [if_pos rfl] at hD) | rw [if_neg (Ne.symm hcf)] at hD
        go_wp2_with (first | (at_builtin; refine wpList_appT rfl (.tmp 38) (.tmp 41) 22 rfl w.heap.size 9 j0 (.string ⟨#[]⟩) 16 Try.underlying22 hj hy0 hy1 hy2 rfl _ ol (out.map strV) rfl happ B _ (n - f) _ ((ls.drop f).map strV) rfl HM.out hD (strs_one _) (by unfold maxLen; omega) (by omega) hbr.size ?_; intro v2 w2 hA2 hB2 hT2) | (at_builtin; refine wpList_appT rfl (.tmp 38) (.tmp 41) 22 rfl w.heap.size 9 j0 (.string ⟨#[]⟩) 16 Try.underlying22 hj hy0 hy1 hy2 rfl _ ol (out.map strV) rfl happ B _ 0 _ ((ls.drop f).map strV) rfl (HM.out.trans (by omega)) hD (strs_one _) (by unfold maxLen; omega) (by omega) hbr.size ?_; intro v2 w2 hA2 hB2 hT2))
        go_ret2
        refine ⟨_, rfl, ?_, hbr.trans hB2⟩
        have e1 : r.length = ol + (n - f) := by
          have := HM.out; rw [List.length_map] at this
          rw [HRL.out, List.length_append, HOL.out, this]
        rw [Option.getD_some, e1, HRL.out, List.map_append]; first | exact hA2 | (rw [show n - f = 0 by omega]; exact hA2)

set_option maxHeartbeats 800000 in
theorem Apply_no (A A' : Option Addr) (c c' n ne B : Nat) (ls : List (List UInt8)) (es : List E) (w : World) (hn : ls.length = n) (hne : es.length = ne) (hln : n ≤ 1000000) (hnem : ne ≤ maxLen) (hB : B ≤ w.heap.size)
    (hR' : RdE w B A' es) (hr : appl ls es = none) :
    Calls Try.prog 17 #[.slice A n c, .slice A' ne c'] w (ApplyEnd w none) := by
  have hris := appl_risB ls es
  rw [hr, hn] at hris
  have HRI : Hid (risB n 0 es = false) := Lib.hid hris.symm
  clear hris hr
  have HE := Lib.hid hne; clear hne
  go_enter Try.func17, Try.ntmps17
  go_wp2_with fail
  refine (rise A' c' ne n B es w HE.out hnem hln hB hR').mono ?_
  rw [HRI.out]
  rintro e w1 ⟨rfl, hb1⟩
  go_wp2
  go_ret2
  exact ⟨_, rfl, app_nil _ _ _, hb1⟩

theorem Apply (A A' : Option Addr) (c c' n ne B : Nat) (ls : List (List UInt8)) (es : List E) (w : World) (hn : ls.length = n) (hne : es.length = ne) (hnc : n ≤ c) (hln : n ≤ 1000000) (hnem : ne ≤ maxLen) (hB : B ≤ w.heap.size)
    (hR : RdS w B A ls) (hR' : RdE w B A' es) (hrl : ∀ r, appl ls es = some r → r.length ≤ 1000000) :
    Calls Try.prog 17 #[.slice A n c, .slice A' ne c'] w (ApplyEnd w (appl ls es)) := by
  cases h : appl ls es with
  | none => exact Apply_no A A' c c' n ne B ls es w hn hne hln hnem hB hR' h
  | some r => exact Apply_yes A A' c c' n ne B ls es r w hn hne hnc hln hnem hB hR hR' h (hrl r h)

end Df
end Go.Proofs.Ytnhhbenddjkjaaa
