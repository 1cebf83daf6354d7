/-
  What the document's own line, words, kind and some of layer 12 return (walks).
-/
import Derived.Test.YtjhjmfodpnipiaaGreatDoorCdRefNum
import Derived.BigQuiet
set_option maxRecDepth 100000
namespace Go.Proofs.YtjhjmfodpnipiaaGreatDoor
open Go.RowKit Go.Shelf
set_option linter.unusedVariables false
set_option linter.unusedSimpArgs false
namespace Cd
open Tx Df Sq Hk Tr Pr

/-- How line ends. -/
def LineEnd (w : World) (N : Nat) (o : Option (List UInt8 × List UInt8)) (e : Ending) (w' : World) : Prop :=
  match o with
  | some z => ∃ A n c, e = .returned (.tuple #[strV z.1, .slice A n c, .bool true]) ∧ z.2.length = n ∧ n ≤ c ∧ RdB w' N A z.2 ∧ Below w.heap.size w w'
  | none => e = .returned (.tuple #[strV [], .slice none 0 0, .bool false]) ∧ Below w.heap.size w w'
theorem cutLine_take : ∀ {b : List UInt8} {k : Nat}, 10 ∉ b.take k → b[k]? = some 10 → cutLine b = some (b.take k, b.drop (k + 1))
  | [], k, _, h => by simp at h
  | c :: b, 0, _, h => by
    simp only [List.getElem?_cons_zero, Option.some.injEq] at h
    subst h
    rfl
  | c :: b, k + 1, hn, h => by
    rw [List.take_succ_cons] at hn
    have h1 : cutLine b = some (b.take k, b.drop (k + 1)) := cutLine_take (fun hm => hn (.tail _ hm)) (by simpa using h)
    have hc : ¬ c = 10 := fun e => hn (by rw [e]; exact .head _)
    rw [cutLine, if_neg hc, h1]
    rfl

set_option maxHeartbeats 2000000 in
theorem refLine (A : Option Addr) (n c N : Nat) (bs : List UInt8) (w : World) (hn : bs.length = n) (hnc : n ≤ c) (hle : n ≤ 1000000) (hR : RdB w N A bs) (hNw : N ≤ w.heap.size) :
    Calls Tryz.prog 31 #[.slice A n c] w (LineEnd w N (cutLine bs)) := by
  have HN := Lib.hid hn; have HR := Lib.hid hR
  clear hn hR
  go_enter Tryz.func31, Tryz.ntmps31
  go_wp2
  go_loopw [5] (fun i W => ∃ k : Nat, k ≤ n ∧ i = .int .i64 (k : Int) ∧ 10 ∉ bs.take k ∧ w = W) (fun i _ => n - (intOf i).toNat)
  case atStart => exact ⟨0, Nat.zero_le _, rfl, by simp, rfl⟩
  case round =>
    obtain ⟨k, hk, rfl, hno, rfl⟩ := hrel
    have HNO := Lib.hid hno; clear hno
    by_cases hlt : k < n
    · have hki : (k : Int) < (n : Int) := by omega
      obtain ⟨d, hd⟩ : ∃ d, bs[k]? = some d := ⟨_, List.getElem?_eq_getElem (by rw [HN.out]; exact hlt)⟩
      obtain ⟨a, rfl, hab, hcell⟩ := HR.out.at_ (k := k) (by rw [List.length_map, HN.out]; exact hlt)
      have hc : w.cell? (a.add k) = some (.int .u8 (d.toNat : Int)) := by
        rw [hcell, List.getElem_map]
        obtain ⟨h1, h2⟩ := List.getElem?_eq_some_iff.1 hd
        rw [h2]; rfl
      have HD := Lib.hid hd
      clear hcell hd
      by_cases h10 : d = 10
      · subst h10
        have e10 : ((10 : UInt8).toNat : Int) = 10 := rfl
        rw [e10] at hc
        have hcut := cutLine_take HNO.out HD.out
        rw [hcut]
        have HTK : Hid (RdB w N (some a) (bs.take k)) := Lib.hid (by have h := HR.out.take k; rw [← List.map_take] at h; exact h)
        have hdr := HR.out.drop (k := k + 1) (cap := c) (by rw [List.length_map, HN.out]; exact hnc)
        rw [← List.map_drop] at hdr
        have HDR := Lib.hid hdr
        have htl : (bs.take k).length = k := by rw [List.length_take, HN.out]; omega
        have hdl : (bs.drop (k + 1)).length = n - (k + 1) := by rw [List.length_drop, HN.out]
        have HDL := Lib.hid hdl
        have hcv := run_conv (P := Tryz.prog) HTK.out 22 9 5 c Tryz.underlying22 Tryz.underlying5 Tryz.underlying9
        have hcv' := run_conv (P := Tryz.prog) (show RdB w.drew N (some a) (bs.take k) from Rd.below HTK.out (below_drewN (Below.refl _ _) 1)) 22 9 5 c Tryz.underlying22 Tryz.underlying5 Tryz.underlying9
        rw [htl] at hcv hcv'
        have hkc : k ≤ c := by omega
        have hk1 : k + 1 ≤ n := hlt
        clear hcut hdr htl hdl
        go_wp2
        go_region
        have hb1 : Below w.heap.size w w.drew := below_drewN (Below.refl _ _) 1
        have HB1 := Lib.hid hb1; clear hb1
        have HBN : Hid (Below N w w.drew) := Lib.hid (below_drewN (Below.refl _ _) 1)
        go_wp2
        · have h := Lib.hid (show c = k + 1 by assumption)
          rw [if_pos h.out] at HDR
          go_ret3
          exact ⟨_, _, _, rfl, HDL.out, by omega, Rd.below HDR.out HBN.out, HB1.out⟩
        · have h := Lib.hid (show ¬ c = k + 1 by assumption)
          rw [if_neg h.out] at HDR
          go_ret3
          exact ⟨_, _, _, rfl, HDL.out, by omega, by have h1 := Rd.below HDR.out HBN.out; simpa [RdB, Addr.add] using h1, HB1.out⟩
      · have hne : ((d.toNat : Int) == 10) = false := by
          rw [beq_eq_false_iff_ne]
          intro h
          have h1 : d.toNat = 10 := by omega
          exact h10 (UInt8.toNat_inj.1 h1)
        go_wp2
        refine ⟨⟨k + 1, by omega, by go_num, fun hm => ?_, trivial⟩, by simp [intOf]; omega⟩
        obtain ⟨hk', e⟩ := List.getElem?_eq_some_iff.1 HD.out
        rw [List.take_succ_eq_append_getElem hk', e] at hm
        rcases List.mem_append.1 hm with hm | hm
        · exact HNO.out hm
        · exact h10 (List.mem_singleton.1 hm).symm
    · have hcut : cutLine bs = none := by
        have h1 := HNO.out
        rw [List.take_of_length_le (by rw [HN.out]; omega)] at h1
        exact cutLine_none.2 h1
      rw [hcut]
      have hkn : ¬ (k : Int) < (n : Int) := by omega
      go_wp2
      go_ret3
      exact ⟨rfl, Below.refl _ _⟩

set_option maxHeartbeats 4000000 in
theorem refKind (s : List UInt8) (w : World) :
    Calls Tryz.prog 33 #[strV s] w fun e w' => e = .returned (.int .i64 (kindB s)) ∧ w = w' := by
  go_enter Tryz.func33, Tryz.ntmps33
  go_wp2
  go_loopw [4] (fun i W => ∃ k : Nat, k ≤ 5 ∧ i = .int .i64 (k : Int) ∧ (1 ≤ k → s ≠ [43]) ∧ (2 ≤ k → s ≠ [45]) ∧ (3 ≤ k → s ≠ [62]) ∧ (4 ≤ k → s ≠ [64]) ∧ (5 ≤ k → s ≠ [61]) ∧ w = W) (fun i _ => 5 - (intOf i).toNat)
  case atStart => exact ⟨0, by decide, rfl, fun h => absurd h (by decide), fun h => absurd h (by decide), fun h => absurd h (by decide), fun h => absurd h (by decide), fun h => absurd h (by decide), rfl⟩
  case round =>
    obtain ⟨k, hk, rfl, h0, h1, h2, h3, h4, rfl⟩ := hrel
    have H0 := Lib.hid h0; have H1 := Lib.hid h1; have H2 := Lib.hid h2; have H3 := Lib.hid h3; have H4 := Lib.hid h4
    clear h0 h1 h2 h3 h4
    have hk6 : k = 0 ∨ k = 1 ∨ k = 2 ∨ k = 3 ∨ k = 4 ∨ k = 5 := by omega
    rcases hk6 with rfl | rfl | rfl | rfl | rfl | rfl
    · have es : (ByteArray.mk #[43, 45, 62, 64, 61]).extract 0 1 = ByteArray.mk #[43] := by decide
      by_cases hx : s = [43]
      · subst hx
        have hK : kindB [43] = ((0 : Nat) : Int) := by decide
        have HK := Lib.hid hK; clear hK
        go_wp2
        go_ret
        exact ⟨by rw [HK.out]; rfl, rfl⟩
      · have hb : (s == [43]) = false := by simpa using hx
        have HX := Lib.hid hx; clear hx
        go_wp2
        exact ⟨⟨1, by decide, rfl, fun _ => HX.out, fun h => absurd h (by decide), fun h => absurd h (by decide), fun h => absurd h (by decide), fun h => absurd h (by decide), trivial⟩, by simp [intOf]⟩
    · have es : (ByteArray.mk #[43, 45, 62, 64, 61]).extract 1 2 = ByteArray.mk #[45] := by decide
      by_cases hx : s = [45]
      · subst hx
        have hK : kindB [45] = ((1 : Nat) : Int) := by decide
        have HK := Lib.hid hK; clear hK
        go_wp2
        go_ret
        exact ⟨by rw [HK.out]; rfl, rfl⟩
      · have hb : (s == [45]) = false := by simpa using hx
        have HX := Lib.hid hx; clear hx
        go_wp2
        exact ⟨⟨2, by decide, rfl, fun h => H0.out (by decide), fun _ => HX.out, fun h => absurd h (by decide), fun h => absurd h (by decide), fun h => absurd h (by decide), trivial⟩, by simp [intOf]⟩
    · have es : (ByteArray.mk #[43, 45, 62, 64, 61]).extract 2 3 = ByteArray.mk #[62] := by decide
      by_cases hx : s = [62]
      · subst hx
        have hK : kindB [62] = ((2 : Nat) : Int) := by decide
        have HK := Lib.hid hK; clear hK
        go_wp2
        go_ret
        exact ⟨by rw [HK.out]; rfl, rfl⟩
      · have hb : (s == [62]) = false := by simpa using hx
        have HX := Lib.hid hx; clear hx
        go_wp2
        exact ⟨⟨3, by decide, rfl, fun h => H0.out (by decide), fun h => H1.out (by decide), fun _ => HX.out, fun h => absurd h (by decide), fun h => absurd h (by decide), trivial⟩, by simp [intOf]⟩
    · have es : (ByteArray.mk #[43, 45, 62, 64, 61]).extract 3 4 = ByteArray.mk #[64] := by decide
      by_cases hx : s = [64]
      · subst hx
        have hK : kindB [64] = ((3 : Nat) : Int) := by decide
        have HK := Lib.hid hK; clear hK
        go_wp2
        go_ret
        exact ⟨by rw [HK.out]; rfl, rfl⟩
      · have hb : (s == [64]) = false := by simpa using hx
        have HX := Lib.hid hx; clear hx
        go_wp2
        exact ⟨⟨4, by decide, rfl, fun h => H0.out (by decide), fun h => H1.out (by decide), fun h => H2.out (by decide), fun _ => HX.out, fun h => absurd h (by decide), trivial⟩, by simp [intOf]⟩
    · have es : (ByteArray.mk #[43, 45, 62, 64, 61]).extract 4 5 = ByteArray.mk #[61] := by decide
      by_cases hx : s = [61]
      · subst hx
        have hK : kindB [61] = ((4 : Nat) : Int) := by decide
        have HK := Lib.hid hK; clear hK
        go_wp2
        go_ret
        exact ⟨by rw [HK.out]; rfl, rfl⟩
      · have hb : (s == [61]) = false := by simpa using hx
        have HX := Lib.hid hx; clear hx
        go_wp2
        exact ⟨⟨5, by decide, rfl, fun h => H0.out (by decide), fun h => H1.out (by decide), fun h => H2.out (by decide), fun h => H3.out (by decide), fun _ => HX.out, trivial⟩, by simp [intOf]⟩
    · have hK : kindB s = -1 := by
        unfold kindB
        rw [if_neg (H0.out (by decide)), if_neg (H1.out (by decide)), if_neg (H2.out (by decide)), if_neg (H3.out (by decide)), if_neg (H4.out (by decide))]
      have HK := Lib.hid hK; clear hK
      go_wp2
      go_ret
      exact ⟨by rw [HK.out]; rfl, rfl⟩

/-- How words ends: a row of its own. -/
theorem words_snoc : ∀ {a : List UInt8} (u : List UInt8), 32 ∉ u → words (a ++ 32 :: u) = words a ++ [u]
  | [], u, h => by
    have h1 := words_app (a := []) u (by simp)
    rw [words_one h] at h1
    exact h1
  | c :: a, u, h => by
    have ih := words_snoc (a := a) u h
    rw [List.cons_append, words, words, ih]
    by_cases hc : c = 32
    · rw [if_pos hc, if_pos hc]; rfl
    · rw [if_neg hc, if_neg hc]
      cases hw : words a with
      | nil => exact absurd hw (words_ne a)
      | cons w ws => rfl
/-- What stands before the k-th byte, in words but the last one, and where that begins. -/
def Cut (s : List UInt8) (k f : Nat) (l : List (List UInt8)) : Prop := f ≤ k ∧ 32 ∉ (s.take k).drop f ∧ words (s.take k) = l ++ [(s.take k).drop f]
theorem cut_start (s : List UInt8) : Cut s 0 0 [] := ⟨Nat.le_refl _, by simp, rfl⟩
theorem cut_blank {s : List UInt8} {k f : Nat} {l : List (List UInt8)} (h : Cut s k f l) (hc : s[k]? = some 32) : Cut s (k + 1) (k + 1) (l ++ [(s.take k).drop f]) := by
  obtain ⟨hk, e⟩ := List.getElem?_eq_some_iff.1 hc
  have ht : s.take (k + 1) = s.take k ++ 32 :: [] := by rw [List.take_succ_eq_append_getElem hk, e]
  have hl : (s.take (k + 1)).drop (k + 1) = [] := List.drop_of_length_le (by rw [List.length_take]; omega)
  refine ⟨Nat.le_refl _, by rw [hl]; simp, ?_⟩
  rw [hl, ht, words_snoc [] (by simp), h.2.2]
theorem words_more : ∀ {a : List UInt8} {l : List (List UInt8)} {u : List UInt8} (c : UInt8), c ≠ 32 → words a = l ++ [u] → words (a ++ [c]) = l ++ [u ++ [c]]
  | [], l, u, c, hc, h => by
    have h1 : l = [] ∧ u = [] := by
      cases l with
      | nil => injection h with h; exact ⟨rfl, h.symm⟩
      | cons x l => simp [words] at h
    obtain ⟨rfl, rfl⟩ := h1
    show words [c] = _
    rw [words, if_neg hc]; rfl
  | d :: a, l, u, c, hc, h => by
    rw [words] at h
    rw [List.cons_append, words]
    by_cases hd : d = 32
    · rw [if_pos hd] at h ⊢
      cases l with
      | nil =>
        injection h with h1 h2
        exact absurd h2 (words_ne a)
      | cons x l =>
        injection h with h1 h2
        rw [words_more c hc h2, ← h1]; rfl
    · rw [if_neg hd] at h ⊢
      cases hw : words a with
      | nil => exact absurd hw (words_ne a)
      | cons w ws =>
        rw [hw] at h
        simp only at h
        cases l with
        | nil =>
          injection h with h1 h2
          subst h2
          have h3 := words_more (a := a) (l := []) (u := w) c hc hw
          rw [h3]
          simp only [List.nil_append]
          rw [← h1]; rfl
        | cons x l =>
          injection h with h1 h2
          have h3 := words_more (a := a) (l := w :: l) (u := u) c hc (by rw [hw, h2]; rfl)
          rw [h3, ← h1]; rfl
theorem cut_more {s : List UInt8} {k f : Nat} {c : UInt8} {l : List (List UInt8)} (h : Cut s k f l) (hc : s[k]? = some c) (h32 : c ≠ 32) : Cut s (k + 1) f l := by
  obtain ⟨hk, e⟩ := List.getElem?_eq_some_iff.1 hc
  have ht : s.take (k + 1) = s.take k ++ [c] := by rw [List.take_succ_eq_append_getElem hk, e]
  have hd : (s.take (k + 1)).drop f = (s.take k).drop f ++ [c] := by
    rw [ht, List.drop_append_of_le_length (by rw [List.length_take]; have := h.1; omega)]
  refine ⟨Nat.le_succ_of_le h.1, ?_, ?_⟩
  · rw [hd]
    intro hm
    rcases List.mem_append.1 hm with hm | hm
    · exact h.2.1 hm
    · exact h32 (List.mem_singleton.1 hm).symm
  · rw [hd, ht]
    exact words_more c h32 h.2.2

end Cd
end Go.Proofs.YtjhjmfodpnipiaaGreatDoor
