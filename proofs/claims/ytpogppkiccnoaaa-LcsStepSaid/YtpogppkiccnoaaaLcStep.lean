/-
  The statement LcsStep: for every two lists of lines and every line the law returns true, and all of them read as they did. No conditions.
-/
import Derived.Test.YtpogppkiccnoaaaLcLaw
import Derived.ChangeMaps5
namespace Go.Proofs.Ytpogppkiccnoaaa
open Go.RowKit
set_option linter.unusedVariables false
namespace Lc
open Tx

theorem app_new {w w' : World} {base : Nat} {e : TypeId} {v : Value} {n : Nat} {xs : List Value} (h : App w base e v n xs) (hb : Below w.heap.size w w') : App w' base e v n xs := by
  obtain ⟨A, c, rfl, h2, h3, h4, h5⟩ := h
  refine ⟨A, c, rfl, h2, h3, (h4.below hb).up hb.size, h5.imp id fun h => h.kept (grown_of_below hb none) ?_⟩
  cases A <;> simp [Value.ownBlock]
theorem app_alloc {w : World} {base : Nat} {e : TypeId} {v : Value} {n : Nat} {xs : List Value} (h : App w base e v n xs) (o : Obj) : App (w.alloc o) base e v n xs := app_new h ((Below.refl _ _).alloc (Nat.le_refl _) o)

set_option maxRecDepth 100000 in
set_option maxHeartbeats 4000000 in
theorem lcsStep_walk (A : Option Addr) (n c : Nat) (a : List (List UInt8)) (A1 : Option Addr) (n1 c1 : Nat) (b : List (List UInt8)) (s : ByteArray) (w : World) (h : StrArg w A n c a) (h1 : StrArg w A1 n1 c1 b) (hs : s.size ≤ maxLen) :
    Calls Try.prog 7 #[.slice A n c, .slice A1 n1 c1, .string s] w (LawEnd w) := by
  obtain ⟨j0, hj, hy0, hy1, hy2⟩ := info_parts info_str
  unfold maxLen at hs
  go_enter Try.func7, Try.ntmps7
  go_wp2_with fail
  refine (awake w).mono ?_
  rintro e w1 ⟨rfl, hB1⟩
  go_wp2_with fail
  refine (Light _ _ _ _ 60 a _ h.len h.le (h.rd.below hB1) (by decide)).mono ?_
  rintro e w' ⟨rfl, rfl⟩
  go_wp2_with fail
  refine (Light _ _ _ _ 60 b _ h1.len h1.le (h1.rd.below hB1) (by decide)).mono ?_
  rintro e w' ⟨rfl, rfl⟩
  cases hl : light a 60 with
  | false =>
    clear hl
    go_wp2
    go_ret
    exact ⟨rfl, hB1⟩
  | true =>
  have hn := light_len hl h.len
  clear hl
  cases hl : light b 60 with
  | false =>
    clear hl
    go_wp2
    go_ret
    exact ⟨rfl, hB1⟩
  | true =>
  have hn1 := light_len hl h1.len
  clear hl
  by_cases hsz : 200 < s.size
  · go_wp2
    go_ret
    exact ⟨rfl, hB1⟩
  obtain ⟨l, rfl⟩ : ∃ l : List UInt8, s = ⟨l.toArray⟩ := ⟨s.data.toList, by cases s; simp⟩
  have hll : l.length ≤ 200 := by rw [← size_strV l]; omega
  have hlli : ¬ (200 : Int) < (l.length : Int) := by omega
  clear hsz hs
  have hle := lcs_le a b
  rw [h.len, h1.len] at hle
  obtain ⟨hle1, hle2⟩ := hle
  have HS := Lib.hid (lcs_snoc a b l)
  have HO := Lib.hid (lcs_one a b l)
  generalize hk : lcs a b = k at *
  have HK := Lib.hid hk; clear hk
  have hn' : n ≤ 1000 := by omega
  have hn1' : n1 ≤ 1000 := by omega
  go_wp2_with fail
  refine (Many A A1 c c1 n n1 w.heap.size a b w1 h.len h1.len hn' hn1' hB1.size (h.rd.below hB1) (h1.rd.below hB1)).mono ?_
  rw [HK.out]
  rintro e w2 ⟨rfl, hb2⟩
  have hB2 := hB1.trans (hb2.mono hB1.size)
  clear hb2 hB1
  go_wp2_with (first
    | (at_builtin; refine wpList_app rfl (.const (.slice none 0 0)) (.tmp 38) 22 rfl w.heap.size 9 j0 (.string ⟨#[]⟩) 16 Try.underlying22 hj hy0 hy1 hy2 rfl (.slice none 0 0) 0 [] rfl (app_nil _ _ _) w.heap.size A n c (a.map strV) rfl (by rw [List.length_map]; exact h.len) (h.rd.below hB2) (strs_one _) (by unfold maxLen; omega) (by omega) hB2.size ?_; intro v' w3 hA3 hb3; simp only [Nat.zero_add, List.nil_append] at hA3; have HA3 := Lib.hid hA3; obtain ⟨Am3, cm3, rfl, _⟩ := hA3; have hB3 := hB2.trans hb3; clear hb3 hB2)
    | (at_builtin; refine wpList_app rfl (.tmp 39) (.tmp 41) 22 rfl w.heap.size 9 j0 (.string ⟨#[]⟩) 16 Try.underlying22 hj hy0 hy1 hy2 rfl (.slice Am3 n cm3) n (a.map strV) rfl (app_alloc HA3.out _) _ (some ⟨w3.heap.size, 0, none⟩) 1 1 [strV l] rfl rfl (rd_new w3 [l] (0, 0)) (strs_one [l]) (by unfold maxLen; omega) (by omega) (by have := hB3.size; simp; omega) ?_; intro v' w4 hA4 hb4; have HA4 := Lib.hid hA4; obtain ⟨Am4, cm4, rfl, _⟩ := hA4; have hB4 := (hB3.alloc hB3.size _).trans hb4; clear hb4 hB3 HA3)
    | (at_builtin; refine wpList_app rfl (.const (.slice none 0 0)) (.tmp 43) 22 rfl w4.heap.size 9 j0 (.string ⟨#[]⟩) 16 Try.underlying22 hj hy0 hy1 hy2 rfl (.slice none 0 0) 0 [] rfl (app_nil _ _ _) w.heap.size A1 n1 c1 (b.map strV) rfl (by rw [List.length_map]; exact h1.len) (h1.rd.below hB4) (strs_one _) (by unfold maxLen; omega) (by omega) (Nat.le_refl _) ?_; intro v' w5 hA5 hb5; simp only [Nat.zero_add, List.nil_append] at hA5; have HA5 := Lib.hid hA5; obtain ⟨Am5, cm5, rfl, _⟩ := hA5)
    | (at_builtin; refine wpList_app rfl (.tmp 44) (.tmp 46) 22 rfl w4.heap.size 9 j0 (.string ⟨#[]⟩) 16 Try.underlying22 hj hy0 hy1 hy2 rfl (.slice Am5 n1 cm5) n1 (b.map strV) rfl (app_alloc HA5.out _) _ (some ⟨w5.heap.size, 0, none⟩) 1 1 [strV l] rfl rfl (rd_new w5 [l] (0, 0)) (strs_one [l]) (by unfold maxLen; omega) (by omega) (by have := hb5.size; simp; omega) ?_; intro v' w6 hA6 hb6; obtain ⟨Am6, cm6, rfl, _, _, hrd6, _⟩ := hA6; have hb46 := (hb5.alloc hb5.size _).trans hb6; clear hb5 hb6 HA5)
    | fail)
  obtain ⟨Ax, cx, ex, _, _, hrdx, _⟩ := HA4.out
  obtain ⟨rfl, rfl⟩ : Am4 = Ax ∧ cm4 = cx := by injection ex with e1 _ e2; exact ⟨e1, e2⟩
  clear ex HA4
  have hB6 := hB4.trans (hb46.mono hB4.size)
  have hRx : RdS w6 w6.heap.size Am4 (a ++ [l]) := by unfold RdS; rw [List.map_append]; exact (hrdx.below hb46).up hb46.size
  have hRy : RdS w6 w6.heap.size Am6 (b ++ [l]) := by unfold RdS; rw [List.map_append]; exact hrd6
  have HLx : Hid ((a ++ [l]).length = n + 1) := Lib.hid (by rw [List.length_append, h.len]; rfl)
  have HLy : Hid ((b ++ [l]).length = n1 + 1) := Lib.hid (by rw [List.length_append, h1.len]; rfl)
  clear hrdx hrd6 hb46 hB4
  refine (Many Am4 A1 cm4 c1 (n + 1) n1 w6.heap.size (a ++ [l]) b w6 HLx.out h1.len (by omega) hn1' (Nat.le_refl _) hRx ((h1.rd.below hB6).up hB6.size)).mono ?_
  generalize ho : lcs (a ++ [l]) b = o at *
  have HOO := Lib.hid ho; clear ho
  rintro e w7 ⟨rfl, hb7⟩
  have hB7 := hB6.trans (hb7.mono hB6.size)
  go_wp2_with fail
  refine (Many Am4 Am6 cm4 cm6 (n + 1) (n1 + 1) w6.heap.size (a ++ [l]) (b ++ [l]) w7 HLx.out HLy.out (by omega) (by omega) hb7.size (hRx.below hb7) (hRy.below hb7)).mono ?_
  rw [HS.out]
  rintro e w8 ⟨rfl, hb8⟩
  have hB8 := hB7.trans (hb8.mono hB7.size)
  clear hb7 hb8 hRx hRy
  rcases HO.out with rfl | rfl
  · go_wp2
    go_ret
    exact ⟨rfl, hB8⟩
  · go_wp2
    go_ret
    exact ⟨rfl, hB8⟩

end Lc
open Tx Lc
open Go.ChangeShapes Go.WideShapes Go.ChangeAt
open Go.ChangeMaps (open_string shut_string)

theorem lcsStep_own : ownKnob Try.prog.godebug = none := by kernel_rfl
theorem lcsStep_laidOut : laidOutB Try.prog = true := by kernel_rfl

set_option maxRecDepth 100000 in
theorem lcsStep_lifted (os : Os) (started : os.Started) (H : Type) (enc : TypeId × Value → H) :
    ReturnsInHanded {} Try.checked os 7 .any (Rows.lcsStepSpec.pre6 enc Try.prog Try.f7 Rows.lcsStepRow.domain false) (Rows.lcsStepSpec.post enc Try.prog Try.f7 false true false false) := by
  refine returnsInHanded_of_change (C := Try.checked) lcsStep_own started (by kernel_rfl) Try.func7
    (ChangeSpec.witness6 (enc := enc) (C := Try.checked) false ⟨#[], #[.slice none 0 0, .slice none 0 0, .string ByteArray.empty], []⟩ 8 (by kernel_rfl) (by kernel_rfl) (by kernel_rfl) (by kernel_rfl)) ?_
  intro W base args ds gs before hval0 hW hcnd _
  have hval : ∀ (j : Nat) t v, Try.f7.params[j]? = some t → args[j]? = some v → Value.okWide Try.prog W .any base t v := hval0
  have hW' := hW
  obtain ⟨p, q, hA0, hV, rfl, hfz, hnd⟩ := hW
  have hA : DataW.TrodAll enc Try.prog W 0 (fun _ => true) true Try.f7.params.toList args.toList ds p := hA0
  rw [Try.params7] at hA hval
  obtain ⟨v0, vs0, d0, ds0, p0, q0, hargs, rfl, rfl, h0, r0⟩ := trodAll_cons hA
  obtain ⟨v1, vs1, d1, ds1, p1, q1, rfl, rfl, rfl, h1, r1⟩ := trodAll_cons r0
  obtain ⟨v2, vs2, d2, ds2, p2, q2, rfl, rfl, rfl, h2, r2⟩ := trodAll_cons r1
  obtain ⟨rfl, rfl, rfl⟩ := trodAll_nil r2
  obtain rfl : args = #[v0, v1, v2] := by cases args; simp_all
  obtain ⟨rfl, rfl⟩ := trodVars_none hV
  obtain ⟨a0, n0, c0, rfl⟩ := okWide_slice Try.underlying22 (hval 0 22 v0 rfl rfl)
  have k0 := h0
  have lt0 : ∀ x ∈ p0, x.block < W.heap.size := by obtain ⟨m, hm⟩ := k0; exact DataW.trod_lt m _ _ _ hm
  obtain ⟨l0, s0⟩ : ∃ l, StrArg W a0 n0 c0 l := by
    obtain ⟨fuel, hf⟩ := h0
    exact strs_in hf (by simp [Value.cells])
  obtain ⟨a1, n1, c1, rfl⟩ := okWide_slice Try.underlying22 (hval 1 22 v1 rfl rfl)
  have k1 := h1
  have lt1 : ∀ x ∈ p1, x.block < W.heap.size := by obtain ⟨m, hm⟩ := k1; exact DataW.trod_lt m _ _ _ hm
  obtain ⟨l1, s1⟩ : ∃ l, StrArg W a1 n1 c1 l := by
    obtain ⟨fuel, hf⟩ := h1
    exact strs_in hf (by simp [Value.cells])
  obtain ⟨a2, rfl, rfl, rfl, w2⟩ := open_string Try.underlying9 (hval 2 9 v2 rfl rfl) h2
  clear hA0 hval0
  refine (lcsStep_walk a0 n0 c0 l0 a1 n1 c1 l1 a2 W s0 s1 w2).mono fun e W' ⟨he, bel⟩ => ?_
  subst he
  exact ⟨_, rfl, _, _, _, [], _, [], hW', trodAll_mk1 (shut_bool Try.underlying4 _), (trodAll_cons_mk (Below.trod lcsStep_laidOut (by kernel_rfl) (of_decide_eq_true (by kernel_rfl)) k0 bel lt0) (trodAll_cons_mk (Below.trod lcsStep_laidOut (by kernel_rfl) (of_decide_eq_true (by kernel_rfl)) k1 bel lt1) (trodAll_cons_mk (shut_string Try.underlying9 w2) trodAll_mk0))), rfl, bel.frame _, fun h => by cases h⟩

/-- The statement. -/
theorem lcsStep_proved : Rows.LcsStepSaid :=
  OpenClaim.holds_of_wide 7 Try.f7 rfl rfl rfl rfl rfl rfl rfl ⟨rfl, rfl, rfl, rfl, rfl⟩ rfl rfl rfl rfl rfl (by kernel_rfl) Try.func7 (by kernel_rfl)
    (of_decide_eq_true (by kernel_rfl)) (by unfold Func.isWrapper; first | (rw [if_pos (by decide +kernel)]; kernel_rfl) | (rw [if_neg (by decide +kernel)]; exact ⟨rfl, rfl⟩))
    (fun os started H enc _ => lcsStep_lifted os started H enc)

#print axioms lcsStep_proved
end Go.Proofs.Ytpogppkiccnoaaa
