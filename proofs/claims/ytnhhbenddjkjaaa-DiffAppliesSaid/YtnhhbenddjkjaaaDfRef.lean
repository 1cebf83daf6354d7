/-
  What the document's Cost and Apply of layer 4 return (walks).
-/
import Derived.Test.YtnhhbenddjkjaaaDfApply
import Derived.Deep.QuietTactic
import Derived.BigQuiet
namespace Go.Proofs.Ytnhhbenddjkjaaa
open Go.RowKit
set_option linter.unusedVariables false
namespace Df
open Tx

theorem wrap_cost2 (a b c : Int) : wrap64 (wrap64 (wrap64 a + b) + c) = wrap64 (a + (b + c)) := by unfold wrap64; omega

set_option maxHeartbeats 800000 in
theorem refCost (A : Option Addr) (c n B : Nat) (es : List E) (w : World) (hn : es.length = n) (hnm : n ≤ maxLen) (hB : B ≤ w.heap.size) (hR : RdE w B A es) :
    Calls Try.prog 21 #[.slice A n c] w (NumEnd w (wrap64 (cost es))) := by
  unfold maxLen at hnm
  have HN := Lib.hid hn; clear hn
  go_enter Try.func21, Try.ntmps21
  go_wp2
  go_loopw [3, 4] (fun v3 v4 wr => ∃ k : Nat, k ≤ n ∧ v4 = .int .i64 k ∧ v3 = .int .i64 (wrap64 (cost (es.take k))) ∧ Below w.heap.size w wr) (fun _ v4 _ => n - (intOf v4).toNat)
  case atStart => exact ⟨0, Nat.zero_le _, rfl, by rw [List.take_zero, wrap_none], Below.refl _ _⟩
  case round =>
    obtain ⟨k, hk, rfl, rfl, hbr⟩ := hrel
    by_cases hlt : k < n
    · have hkl : k < es.length := by rw [HN.out]; exact hlt
      obtain ⟨a, rfl, hab, hat⟩ := (hR.below (hbr.mono hB)).at_ hkl
      have HT := Lib.hid (take_snoc' hkl)
      generalize es[k] = x at *
      obtain ⟨c0, c1, ⟨A2, c2, h2, h3, h4⟩, hp, ho, hl⟩ := hat
      obtain ⟨N0, hN0⟩ : ∃ N0, wrap64 (cost (es.take k)) = N0 := ⟨_, rfl⟩
      rw [hN0]
      have HN0 := Lib.hid hN0; clear hN0
      have f1 : (k : Int) < (n : Int) := by omega
      have f2 : (0 : Int) ≤ (k : Int) := by omega
      clear hp ho hl h3 h4 hab
      go_wp2
      go_quiet (fail)
      go_wp2
      go_roundw
      case rel => exact ⟨k + 1, by omega, by go_num, by rw [HT.out, cost_snoc, ← wrap_cost2, HN0.out], below_drewN hbr _⟩
      case measure => simp [intOf]; omega
    · go_wp2
      go_ret
      refine ⟨ret_int ?_, hbr⟩
      rw [List.take_of_length_le (by rw [HN.out]; omega)]

set_option maxRecDepth 100000 in
set_option maxHeartbeats 4000000 in
theorem refApply (A A' : Option Addr) (c c' n ne B : Nat) (ls : List (List UInt8)) (es : List E) (w : World) (hn : ls.length = n) (hne : es.length = ne) (hnc : n ≤ c) (hln : n ≤ 60) (hnem : ne ≤ 60) (hB : B ≤ w.heap.size)
    (hR : RdS w B A ls) (hR' : RdE w B A' es) (hnw : ∀ x ∈ es, x.new.length ≤ 60) :
    Calls Try.prog 18 #[.slice A n c, .slice A' ne c'] w (ApplyEnd w (appl ls es)) := by
  obtain ⟨j0, hj, hy0, hy1, hy2⟩ := info_parts info_str
  have HN := Lib.hid hn; clear hn
  have HE := Lib.hid hne; clear hne
  have HNW := Lib.hid hnw; clear hnw
  go_enter Try.func18, Try.ntmps18
  go_wp2
  go_loopw [6, 7, 8] (fun v6 v7 v8 wr => ∃ (k f : Nat) (out : List (List UInt8)), k ≤ ne ∧ f ≤ n ∧ v8 = .int .i64 k ∧ v7 = .int .i64 f ∧ App wr w.heap.size 9 v6 out.length (out.map strV) ∧ appl ls es = (apl ls f (decide (k = 0)) (es.drop k)).map (fun r => out ++ r) ∧ out.length ≤ 120 * k ∧ Below w.heap.size w wr) (fun _ _ v8 _ => ne - (intOf v8).toNat)
  case atStart => exact ⟨0, 0, [], Nat.zero_le _, Nat.zero_le _, rfl, rfl, app_nil _ _ _, by show appl ls es = (appl ls es).map _; simp, Nat.zero_le _, Below.refl _ _⟩
  case round =>
    obtain ⟨k, f, out, hk, hf, rfl, rfl, happ, hap, hol, hbr⟩ := hrel
    by_cases hlt : k < ne
    · have hkl : k < es.length := by rw [HE.out]; exact hlt
      obtain ⟨a, rfl, hab, hat⟩ := (hR'.below (hbr.mono hB)).at_ hkl
      have hl60 := HNW.out _ (List.getElem_mem hkl)
      rw [drop_at hkl] at hap
      generalize es[k] = x at *
      obtain ⟨c0, c1, ⟨A2, c2, h2, h3, h4⟩, hp, ho, hl⟩ := hat
      by_cases hfit : fits ls.length f (decide (k = 0)) x
      · rw [apl_yes _ hfit, Option.map_map] at hap
        obtain ⟨f1, f2, f3, f4, f5⟩ := hfit
        rw [HN.out] at f3 f5
        obtain ⟨p, o, l⟩ := x
        simp only at *
        obtain ⟨p, rfl⟩ : ∃ q : Nat, p = q := ⟨p.toNat, by omega⟩
        obtain ⟨o, rfl⟩ : ∃ q : Nat, o = q := ⟨o.toNat, by omega⟩
        rw [show ((p : Int) + (o : Int)).toNat = p + o by omega, Int.toNat_natCast] at hap
        have hfp : f ≤ p := by omega
        have hpo : p + o ≤ n := by omega
        have hfk : 0 < k → f < p := fun hk0 => by have := f2 (decide_eq_false (by omega)); omega
        clear f1 f2 f3 f4 f5 hp ho
        have HAP := Lib.hid hap; clear hap
        obtain ⟨ol, hol'⟩ : ∃ ol, out.length = ol := ⟨_, rfl⟩
        obtain ⟨ll, hll⟩ : ∃ ll, l.length = ll := ⟨_, rfl⟩
        rw [hol'] at happ hol
        rw [hll] at h2 h3 hl hl60
        have HOL := Lib.hid hol'; clear hol'
        have HLL := Lib.hid hll; clear hll
        have hRr : RdS wr B A ls := Rd.below hR (hbr.mono hB)
        have hD := Rd.drop hRr (k := f) (cap := c) (by rw [List.length_map, HN.out]; exact hnc)
        have hmm : ((ls.map strV).drop f).take (p - f) = (mid ls f p).map strV := mid_map.symm
        have HM : Hid (((mid ls f p).map strV).length = p - f) := Lib.hid (by rw [List.length_map, mid_len (by rw [HN.out]; omega)])
        have happ' := app_below happ ((Below.refl _ _).alloc (Nat.le_refl _) (.cells #[.int .i64 (p : Int), .int .i64 (o : Int), .slice A2 ll c2] 37))
        have HEND : Hid (∀ (v3 : Value) (w3 : World), App w3 w.heap.size 9 v3 (ol + (p - f) + ll) (out.map strV ++ (mid ls f p).map strV ++ l.map strV) → App w3 w.heap.size 9 v3 (out ++ mid ls f p ++ l).length ((out ++ mid ls f p ++ l).map strV)) := Lib.hid (fun v3 w3 hA => by
          have e1 : (out ++ mid ls f p ++ l).length = ol + (p - f) + ll := by
            have := HM.out; rw [List.length_map] at this
            rw [List.length_append, List.length_append, HOL.out, HLL.out, this]
          rw [e1, List.map_append, List.map_append]; exact hA)
        have HLE : Hid ((out ++ mid ls f p ++ l).length ≤ 120 * (k + 1)) := Lib.hid (by
          have := HM.out; rw [List.length_map] at this
          rw [List.length_append, List.length_append, HOL.out, HLL.out, this]; omega)
        have HAP2 : Hid (appl ls es = (apl ls (p + o) (decide (k + 1 = 0)) (es.drop (k + 1))).map (fun r => (out ++ mid ls f p ++ l) ++ r)) := Lib.hid (by
          rw [decide_eq_false (by omega), HAP.out]
          congr 1
          funext r
          simp only [Function.comp, List.append_assoc])
        rcases Classical.em (f = c) with hcf | hcf
        all_goals
          first | (subst hcf; rw [if_pos rfl] at hD) | rw [if_neg (Ne.symm hcf)] at hD
          have hDT := hD.take (p - f)
          rw [hmm] at hDT
          have hDT' := Rd.below hDT (w' := wr.alloc (.cells #[.int .i64 (p : Int), .int .i64 (o : Int), .slice A2 ll c2] 37)) ((Below.refl _ _).alloc (by have := hbr.size; omega) _)
          clear hD hDT hmm
          have hnew := World.alloc_heap_new wr (.cells #[.int .i64 (p : Int), .int .i64 (o : Int), .slice A2 ll c2] 37)
          by_cases hk0 : k = 0
          all_goals
            first
              | (have hq3 : decide (0 < k) = false := decide_eq_false (by omega); have hq4 : decide ((0 : Int) < (k : Int)) = false := decide_eq_false (by omega); clear hk0 hfk)
              | (have hq1 := hfk (by omega); have hq2 : ((p : Int) == (f : Int)) = false := beq_eq_false_iff_ne.2 (by omega); have hq3 : decide (0 < k) = true := decide_eq_true (by omega); have hq4 : decide ((0 : Int) < (k : Int)) = true := decide_eq_true (by omega); clear hk0 hfk)
            go_wp2_with (first
              | (at_builtin; refine wpList_appT rfl (.tmp 56) (.tmp 61) 22 rfl w.heap.size 9 j0 (.string ⟨#[]⟩) 16 Try.underlying22 hj hy0 hy1 hy2 rfl _ ol (out.map strV) rfl happ' B _ (p - f) _ ((mid ls f p).map strV) rfl HM.out hDT' (strs_one _) (by unfold maxLen; omega) (by omega) (by have := hbr.size; simp; omega) ?_; intro v2 w2 hA2 hB2 hT2; have hB02 := (hbr.alloc hbr.size _).trans hB2; have hbl := hT2 _ _ _ _ hnew (by decide); have hl0 := cell_of hbl 0 rfl; have hl1 := cell_of hbl 1 rfl; have hl2 := cell_of hbl 2 rfl)
              | (at_builtin; refine wpList_appT rfl (.tmp 63) (.tmp 65) 22 rfl w.heap.size 9 j0 (.string ⟨#[]⟩) 16 Try.underlying22 hj hy0 hy1 hy2 rfl _ _ _ rfl hA2 B A2 ll c2 (l.map strV) rfl (by rw [List.length_map]; exact HLL.out) (Rd.below h4 (((Below.refl _ _).alloc (by have := hbr.size; omega) _).trans (hB2.mono hB))) (strs_one _) (by unfold maxLen; omega) (by omega) hB02.size ?_; intro v3 w3 hA3 hB3 hT3; have hB03 := hB02.trans hB3; have hbl3 := hT3 _ _ _ _ hbl (by decide); have hm0 := cell_of hbl3 0 rfl; have hm1 := cell_of hbl3 1 rfl; clear hB3 hbl3 hT3))
            go_roundw
            case rel => exact ⟨_, p + o, out ++ mid ls f p ++ l, by omega, by omega, by go_num, by go_num, HEND.out _ _ hA3, HAP2.out, HLE.out, hB03⟩
            case measure => simp [intOf]; omega
      · rw [apl_no _ hfit, Option.map_none] at hap
        have HAP := Lib.hid hap; clear hap
        have hno : ¬ ((f : Int) ≤ x.pos ∧ (0 < k → (f : Int) < x.pos) ∧ x.pos ≤ n ∧ 0 ≤ x.old ∧ x.old ≤ n - x.pos) := by
          rintro ⟨g1, g2, g3, g4, g5⟩
          exact hfit ⟨g1, fun e => g2 (by simp at e; omega), by rw [HN.out]; exact g3, g4, by rw [HN.out]; exact g5⟩
        clear hfit
        have HBR := Lib.hid hbr
        obtain ⟨p, o, l⟩ := x
        unfold I64 at hp ho
        simp only at *
        have fin : ∀ o', ApplyEnd w (appl ls es) (.returned (.tuple #[.slice none 0 0, .bool false])) (wr.alloc o') := fun o' => by
          rw [HAP.out]; exact ⟨_, rfl, app_nil _ _ _, HBR.out.alloc HBR.out.size _⟩
        have FIN := Lib.hid fin; clear fin
        by_cases g1 : p < f
        · go_wp2
          go_ret2
          exact FIN.out _
        · by_cases g2 : 0 < k ∧ p = f
          · obtain ⟨g2, g2'⟩ := g2
            subst g2'
            have hq3 : decide (0 < k) = true := decide_eq_true g2
            have hq4 : decide ((0 : Int) < (k : Int)) = true := decide_eq_true (by omega)
            go_wp2
            go_ret2
            exact FIN.out _
          · have HNO := Lib.hid hno; clear hno
            by_cases hk0 : k = 0
            · have hq3 : decide (0 < k) = false := decide_eq_false (by omega)
              have hq4 : decide ((0 : Int) < (k : Int)) = false := decide_eq_false (by omega)
              have HK0 := Lib.hid hk0
              clear hk0 g2
              by_cases g3 : (n : Int) < p
              · go_wp2
                go_ret2
                exact FIN.out _
              · by_cases g4 : o < 0
                · go_wp2
                  go_ret2
                  exact FIN.out _
                · have g5 : (n : Int) - p < o := by
                    apply Decidable.byContradiction
                    intro g6
                    exact HNO.out ⟨by omega, fun h0 => absurd h0 (by rw [HK0.out]; exact Nat.lt_irrefl 0), by omega, by omega, by omega⟩
                  go_wp2
                  go_ret2
                  exact FIN.out _
            · have hpf : p ≠ (f : Int) := fun e => g2 ⟨by omega, e⟩
              have hq2 : (p == (f : Int)) = false := beq_eq_false_iff_ne.2 hpf
              have hq3 : decide (0 < k) = true := decide_eq_true (by omega)
              have hq4 : decide ((0 : Int) < (k : Int)) = true := decide_eq_true (by omega)
              have hpf' : (f : Int) < p := by omega
              clear hk0 g2 hpf
              by_cases g3 : (n : Int) < p
              · go_wp2
                go_ret2
                exact FIN.out _
              · by_cases g4 : o < 0
                · go_wp2
                  go_ret2
                  exact FIN.out _
                · have g5 : (n : Int) - p < o := by
                    apply Decidable.byContradiction
                    intro g6
                    exact HNO.out ⟨by omega, fun h0 => hpf', by omega, by omega, by omega⟩
                  go_wp2
                  go_ret2
                  exact FIN.out _
    · rw [List.drop_of_length_le (by rw [HE.out]; omega), apl_nil, Option.map_some] at hap
      have HRL := Lib.hid hap; clear hap
      obtain ⟨ol, hol'⟩ : ∃ ol, out.length = ol := ⟨_, rfl⟩
      rw [hol'] at happ hol
      have HOL := Lib.hid hol'; clear hol'
      have hRr : RdS wr B A ls := Rd.below hR (hbr.mono hB)
      have hD := Rd.drop hRr (k := f) (cap := c) (by rw [List.length_map, HN.out]; exact hnc)
      rw [← List.map_drop] at hD
      have HM : Hid (((ls.drop f).map strV).length = n - f) := Lib.hid (by rw [List.length_map, List.length_drop, HN.out])
      have HEND : Hid (∀ (v3 : Value) (w3 : World), App w3 w.heap.size 9 v3 (ol + (n - f)) (out.map strV ++ (ls.drop f).map strV) → Below w.heap.size w w3 → ApplyEnd w (appl ls es) (.returned (.tuple #[v3, .bool true])) w3) := Lib.hid (fun v3 w3 hA hb => by
        rw [HRL.out]
        refine ⟨_, rfl, ?_, hb⟩
        have e1 : (out ++ ls.drop f).length = ol + (n - f) := by
          have := HM.out; rw [List.length_map] at this
          rw [List.length_append, HOL.out, this]
        rw [Option.getD_some, e1, List.map_append]; exact hA)
      rcases Classical.em (f = c) with hcf | hcf
      all_goals
        first | (subst hcf; rw [if_pos rfl] at hD) | rw [if_neg (Ne.symm hcf)] at hD
        go_wp2_with (first | (at_builtin; refine wpList_appT rfl (.tmp 72) (.tmp 75) 22 rfl w.heap.size 9 j0 (.string ⟨#[]⟩) 16 Try.underlying22 hj hy0 hy1 hy2 rfl _ ol (out.map strV) rfl happ B _ (n - f) _ ((ls.drop f).map strV) rfl HM.out hD (strs_one _) (by unfold maxLen; omega) (by omega) hbr.size ?_; intro v2 w2 hA2 hB2 hT2) | (at_builtin; refine wpList_appT rfl (.tmp 72) (.tmp 75) 22 rfl w.heap.size 9 j0 (.string ⟨#[]⟩) 16 Try.underlying22 hj hy0 hy1 hy2 rfl _ ol (out.map strV) rfl happ B _ 0 _ ((ls.drop f).map strV) rfl (HM.out.trans (by omega)) hD (strs_one _) (by unfold maxLen; omega) (by omega) hbr.size ?_; intro v2 w2 hA2 hB2 hT2))
        go_ret2
        refine HEND.out _ _ ?_ (hbr.trans hB2)
        first | exact hA2 | (rw [show n - f = 0 by omega]; exact hA2)

end Df
end Go.Proofs.Ytnhhbenddjkjaaa
