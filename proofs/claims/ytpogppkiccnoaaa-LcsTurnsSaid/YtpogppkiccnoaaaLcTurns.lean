/-
  The statement LcsTurns: for every three lists of lines the law returns true, and all of them read as they did. No conditions.
-/
import Derived.Test.YtpogppkiccnoaaaLcLaw
namespace Go.Proofs.Ytpogppkiccnoaaa
open Go.RowKit
set_option linter.unusedVariables false
namespace Lc
open Tx

set_option maxRecDepth 100000 in
set_option maxHeartbeats 4000000 in
theorem lcsTurns_walk (A : Option Addr) (n c : Nat) (a : List (List UInt8)) (A1 : Option Addr) (n1 c1 : Nat) (b : List (List UInt8)) (A2 : Option Addr) (n2 c2 : Nat) (d : List (List UInt8)) (w : World) (h : StrArg w A n c a) (h1 : StrArg w A1 n1 c1 b) (h2 : StrArg w A2 n2 c2 d) :
    Calls Try.prog 6 #[.slice A n c, .slice A1 n1 c1, .slice A2 n2 c2] w (LawEnd w) := by
  obtain ⟨j0, hj, hy0, hy1, hy2⟩ := info_parts info_str
  go_enter Try.func6, Try.ntmps6
  go_wp2_with fail
  refine (awake w).mono ?_
  rintro e w1 ⟨rfl, hB1⟩
  go_wp2_with fail
  refine (Light _ _ _ _ 60 a _ h.len h.le (h.rd.below hB1) (by decide)).mono ?_
  rintro e w' ⟨rfl, rfl⟩
  go_wp2_with fail
  refine (Light _ _ _ _ 60 b _ h1.len h1.le (h1.rd.below hB1) (by decide)).mono ?_
  rintro e w' ⟨rfl, rfl⟩
  go_wp2_with fail
  refine (Light _ _ _ _ 60 d _ h2.len h2.le (h2.rd.below hB1) (by decide)).mono ?_
  rintro e w' ⟨rfl, rfl⟩
  cases hl : light a 60 with
  | false =>
    clear hl
    go_wp2
    go_ret
    exact ⟨rfl, hB1⟩
  | true =>
  have hn := light_len hl h.len
  clear hl
  cases hl : light b 60 with
  | false =>
    clear hl
    go_wp2
    go_ret
    exact ⟨rfl, hB1⟩
  | true =>
  have hn1 := light_len hl h1.len
  clear hl
  cases hl : light d 60 with
  | false =>
    clear hl
    go_wp2
    go_ret
    exact ⟨rfl, hB1⟩
  | true =>
  have hn2 := light_len hl h2.len
  clear hl
  go_wp2_with (first
    | (at_builtin; refine wpList_app rfl (.const (.slice none 0 0)) (.tmp 34) 22 rfl w.heap.size 9 j0 (.string ⟨#[]⟩) 16 Try.underlying22 hj hy0 hy1 hy2 rfl (.slice none 0 0) 0 [] rfl (app_nil _ _ _) w.heap.size A1 n1 c1 (b.map strV) rfl (by rw [List.length_map]; exact h1.len) (h1.rd.below hB1) (strs_one _) (by unfold maxLen; omega) (by omega) hB1.size ?_; intro v' w2 hA2 hb2; simp only [Nat.zero_add, List.nil_append] at hA2; have HA2 := Lib.hid hA2; obtain ⟨Am2, cm2, rfl, _⟩ := hA2; have hB2 := hB1.trans hb2; clear hb2 hB1)
    | (at_builtin; refine wpList_app rfl (.tmp 35) (.tmp 36) 22 rfl w.heap.size 9 j0 (.string ⟨#[]⟩) 16 Try.underlying22 hj hy0 hy1 hy2 rfl (.slice Am2 n1 cm2) n1 (b.map strV) rfl HA2.out w.heap.size A n c (a.map strV) rfl (by rw [List.length_map]; exact h.len) (h.rd.below hB2) (strs_one _) (by unfold maxLen; omega) (by omega) hB2.size ?_; intro v' w3 hA3 hb3; have HA3 := Lib.hid hA3; obtain ⟨Am3, cm3, rfl, _⟩ := hA3; have hB3 := hB2.trans hb3; clear hb3 hB2 HA2)
    | (at_builtin; refine wpList_app rfl (.tmp 37) (.tmp 38) 22 rfl w.heap.size 9 j0 (.string ⟨#[]⟩) 16 Try.underlying22 hj hy0 hy1 hy2 rfl (.slice Am3 (n1 + n) cm3) (n1 + n) (b.map strV ++ a.map strV) rfl HA3.out w.heap.size A2 n2 c2 (d.map strV) rfl (by rw [List.length_map]; exact h2.len) (h2.rd.below hB3) (strs_one _) (by unfold maxLen; omega) (by omega) hB3.size ?_; intro v' w4 hA4 hb4; obtain ⟨Am4, cm4, rfl, _, _, hrd4, _⟩ := hA4; have hB4 := hB3.trans hb4; clear hb4 hB3 HA3)
    | fail)
  have hR4 : RdS w4 w4.heap.size Am4 (b ++ a ++ d) := by unfold RdS; rw [List.map_append, List.map_append]; exact hrd4
  have HL4 : Hid ((b ++ a ++ d).length = n1 + n + n2) := Lib.hid (by rw [List.length_append, List.length_append, h.len, h1.len, h2.len])
  have hle := lcs_le a b
  rw [h.len, h1.len] at hle
  obtain ⟨hle1, hle2⟩ := hle
  have HC := Lib.hid (lcs_comm b a)
  have HS : Hid (lcs a a = n) := Lib.hid (by rw [lcs_self, h.len])
  have HP : Hid (lcs a (b ++ a ++ d) = n) := Lib.hid (by rw [lcs_mid, h.len])
  generalize hk : lcs a b = k at *
  have HK := Lib.hid hk; clear hk
  clear hrd4
  have hn' : n ≤ 1000 := by omega
  have hn1' : n1 ≤ 1000 := by omega
  have hw4 := hB4.size
  have rd : ∀ {X : World} {B : Option Addr} {q e : Nat} {l : List (List UInt8)}, StrArg w B q e l → Below w.heap.size w X → RdS X w.heap.size B l := fun s hb => s.rd.below hb
  refine (Many A A1 c c1 n n1 w.heap.size a b w4 h.len h1.len hn' hn1' hw4 (rd h hB4) (rd h1 hB4)).mono ?_
  rw [HK.out]
  rintro e w5 ⟨rfl, hb5⟩
  have hB5 := hB4.trans (hb5.mono hw4)
  go_wp2_with fail
  refine (Many A1 A c1 c n1 n w.heap.size b a w5 h1.len h.len hn1' hn' hB5.size (rd h1 hB5) (rd h hB5)).mono ?_
  rw [HC.out]
  rintro e w6 ⟨rfl, hb6⟩
  have hB6 := hB5.trans (hb6.mono hB5.size)
  go_wp2_with fail
  refine (Many A A c c n n w.heap.size a a w6 h.len h.len hn' hn' hB6.size (rd h hB6) (rd h hB6)).mono ?_
  rw [HS.out]
  rintro e w7 ⟨rfl, hb7⟩
  have hB7 := hB6.trans (hb7.mono hB6.size)
  have hb47 : Below w4.heap.size w4 w7 := (hb5.trans (hb6.mono hb5.size)).trans (hb7.mono (Nat.le_trans hb5.size hb6.size))
  have hR7 := hR4.below hb47
  go_wp2_with fail
  refine (Many A Am4 c cm4 n (n1 + n + n2) w4.heap.size a (b ++ a ++ d) w7 h.len HL4.out hn' (by omega) hb47.size ((rd h hB7).up hw4) hR7).mono ?_
  rw [HP.out]
  rintro e w8 ⟨rfl, hb8⟩
  have hB8 := hB7.trans (hb8.mono hB7.size)
  go_wp2_with fail
  refine (Many A A1 c c1 n n1 w.heap.size a b w8 h.len h1.len hn' hn1' hB8.size (rd h hB8) (rd h1 hB8)).mono ?_
  rw [HK.out]
  rintro e w9 ⟨rfl, hb9⟩
  have hB9 := hB8.trans (hb9.mono hB8.size)
  go_wp2_with fail
  refine (Many A A1 c c1 n n1 w.heap.size a b w9 h.len h1.len hn' hn1' hB9.size (rd h hB9) (rd h1 hB9)).mono ?_
  rw [HK.out]
  rintro e w10 ⟨rfl, hb10⟩
  have hB10 := hB9.trans (hb10.mono hB9.size)
  clear hb5 hb6 hb7 hb8 hb9 hb10 hR4 hR7 rd
  go_wp2
  go_ret
  exact ⟨rfl, hB10⟩

end Lc
open Tx Lc
open Go.ChangeShapes Go.WideShapes Go.ChangeAt

theorem lcsTurns_own : ownKnob Try.prog.godebug = none := by kernel_rfl
theorem lcsTurns_laidOut : laidOutB Try.prog = true := by kernel_rfl

set_option maxRecDepth 100000 in
theorem lcsTurns_lifted (os : Os) (started : os.Started) (H : Type) (enc : TypeId × Value → H) :
    ReturnsInHanded {} Try.checked os 6 .any (Rows.lcsTurnsSpec.pre6 enc Try.prog Try.f6 Rows.lcsTurnsRow.domain false) (Rows.lcsTurnsSpec.post enc Try.prog Try.f6 false true false false) := by
  refine returnsInHanded_of_change (C := Try.checked) lcsTurns_own started (by kernel_rfl) Try.func6
    (ChangeSpec.witness6 (enc := enc) (C := Try.checked) false ⟨#[], #[.slice none 0 0, .slice none 0 0, .slice none 0 0], []⟩ 8 (by kernel_rfl) (by kernel_rfl) (by kernel_rfl) (by kernel_rfl)) ?_
  intro W base args ds gs before hval0 hW hcnd _
  have hval : ∀ (j : Nat) t v, Try.f6.params[j]? = some t → args[j]? = some v → Value.okWide Try.prog W .any base t v := hval0
  have hW' := hW
  obtain ⟨p, q, hA0, hV, rfl, hfz, hnd⟩ := hW
  have hA : DataW.TrodAll enc Try.prog W 0 (fun _ => true) true Try.f6.params.toList args.toList ds p := hA0
  rw [Try.params6] at hA hval
  obtain ⟨v0, vs0, d0, ds0, p0, q0, hargs, rfl, rfl, h0, r0⟩ := trodAll_cons hA
  obtain ⟨v1, vs1, d1, ds1, p1, q1, rfl, rfl, rfl, h1, r1⟩ := trodAll_cons r0
  obtain ⟨v2, vs2, d2, ds2, p2, q2, rfl, rfl, rfl, h2, r2⟩ := trodAll_cons r1
  obtain ⟨rfl, rfl, rfl⟩ := trodAll_nil r2
  obtain rfl : args = #[v0, v1, v2] := by cases args; simp_all
  obtain ⟨rfl, rfl⟩ := trodVars_none hV
  obtain ⟨a0, n0, c0, rfl⟩ := okWide_slice Try.underlying22 (hval 0 22 v0 rfl rfl)
  have k0 := h0
  have lt0 : ∀ x ∈ p0, x.block < W.heap.size := by obtain ⟨m, hm⟩ := k0; exact DataW.trod_lt m _ _ _ hm
  obtain ⟨l0, s0⟩ : ∃ l, StrArg W a0 n0 c0 l := by
    obtain ⟨fuel, hf⟩ := h0
    exact strs_in hf (by simp [Value.cells])
  obtain ⟨a1, n1, c1, rfl⟩ := okWide_slice Try.underlying22 (hval 1 22 v1 rfl rfl)
  have k1 := h1
  have lt1 : ∀ x ∈ p1, x.block < W.heap.size := by obtain ⟨m, hm⟩ := k1; exact DataW.trod_lt m _ _ _ hm
  obtain ⟨l1, s1⟩ : ∃ l, StrArg W a1 n1 c1 l := by
    obtain ⟨fuel, hf⟩ := h1
    exact strs_in hf (by simp [Value.cells])
  obtain ⟨a2, n2, c2, rfl⟩ := okWide_slice Try.underlying22 (hval 2 22 v2 rfl rfl)
  have k2 := h2
  have lt2 : ∀ x ∈ p2, x.block < W.heap.size := by obtain ⟨m, hm⟩ := k2; exact DataW.trod_lt m _ _ _ hm
  obtain ⟨l2, s2⟩ : ∃ l, StrArg W a2 n2 c2 l := by
    obtain ⟨fuel, hf⟩ := h2
    exact strs_in hf (by simp [Value.cells])
  clear hA0 hval0
  refine (lcsTurns_walk a0 n0 c0 l0 a1 n1 c1 l1 a2 n2 c2 l2 W s0 s1 s2).mono fun e W' ⟨he, bel⟩ => ?_
  subst he
  exact ⟨_, rfl, _, _, _, [], _, [], hW', trodAll_mk1 (shut_bool Try.underlying4 _), (trodAll_cons_mk (Below.trod lcsTurns_laidOut (by kernel_rfl) (of_decide_eq_true (by kernel_rfl)) k0 bel lt0) (trodAll_cons_mk (Below.trod lcsTurns_laidOut (by kernel_rfl) (of_decide_eq_true (by kernel_rfl)) k1 bel lt1) (trodAll_cons_mk (Below.trod lcsTurns_laidOut (by kernel_rfl) (of_decide_eq_true (by kernel_rfl)) k2 bel lt2) trodAll_mk0))), rfl, bel.frame _, fun h => by cases h⟩

/-- The statement. -/
theorem lcsTurns_proved : Rows.LcsTurnsSaid :=
  OpenClaim.holds_of_wide 6 Try.f6 rfl rfl rfl rfl rfl rfl rfl ⟨rfl, rfl, rfl, rfl, rfl⟩ rfl rfl rfl rfl rfl (by kernel_rfl) Try.func6 (by kernel_rfl)
    (of_decide_eq_true (by kernel_rfl)) (by unfold Func.isWrapper; first | (rw [if_pos (by decide +kernel)]; kernel_rfl) | (rw [if_neg (by decide +kernel)]; exact ⟨rfl, rfl⟩))
    (fun os started H enc _ => lcsTurns_lifted os started H enc)

#print axioms lcsTurns_proved
end Go.Proofs.Ytpogppkiccnoaaa
