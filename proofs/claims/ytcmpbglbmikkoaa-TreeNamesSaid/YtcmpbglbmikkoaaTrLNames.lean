/-
  The statement TreeNames: names are those of files that are there, rising; each file has its own among them.
-/
import Derived.Test.YtcmpbglbmikkoaaTrApp
import Derived.Test.YtcmpbglbmikkoaaTrLaw
import Derived.OpenShut
import Derived.ShutString
import Derived.BigQuiet
namespace Go.Proofs.Ytcmpbglbmikkoaa
open Go.RowKit
set_option linter.unusedVariables false
open Tr Tx
namespace TrL

theorem rdS_cell {w : World} {B : Nat} {a : Addr} {l : List (List UInt8)} (h : RdS w B (some a) l) {k : Nat} (hk : k < l.length) : w.cell? (a.add k) = some (strV l[k]) := by
  obtain ⟨a', e, hc⟩ := h.at' hk
  injection e with e
  subst e
  exact hc
theorem some_of_mem {t : TR} {n : List UInt8} (h : n ∈ t.map (·.1)) : (get t n).isSome = true := by
  cases hg : get t n with
  | some x => rfl
  | none =>
    obtain ⟨f, hf, rfl⟩ := List.mem_map.1 h
    exact absurd rfl (get_none.1 hg f hf)
theorem any_snoc {l : List (List UInt8)} {n : List UInt8} {k : Nat} (hk : k < l.length) : (l.take (k + 1)).any (· == n) = ((l.take k).any (· == n) || l[k] == n) := by
  rw [take_snoc' hk, List.any_append]; simp
theorem all_one {w : World} {B : Nat} {A' : Option Addr} {t u : TR} (hR' : RdT w B A' u) (hB : B ≤ w.heap.size) (v1 : Value) (w1 : World) (h1 : OwnT w1 w.heap.size v1 ([] ++ t)) (h2 : w.grownBy w1 (Value.slice none 0 0).ownBlock) : OwnT w1 w.heap.size v1 t ∧ Below w.heap.size w w1 ∧ w.heap.size ≤ w1.heap.size ∧
    ∃ zs : List Value, zs.length = u.length * 2 ∧ FCells w1 v1.ownBlock u zs ∧ (zs = [] ∨ ∃ a, A' = some a ∧ ∀ j x, zs[j]? = some x → w1.cell? (a.add j) = some x) := by
  rw [List.nil_append] at h1
  have hb : Below w.heap.size w w1 := (Below.refl _ _).grown h2 (Nat.le_refl _) (fun k e => by cases e)
  exact ⟨h1, hb, hb.size, flat_cells (hR'.below (hb.mono hB)) (Nat.le_trans hB hb.size) fun k hk => Nat.le_trans hB (ownT_ge h1 k hk)⟩
theorem all_two {w : World} {t u : TR} {n n' : Nat} (hn : t.length = n) (hn' : u.length = n') (v1 : Value) (w1 : World) (v2 : Value) (w2 : World) (h1 : OwnT w1 w.heap.size v1 t) (h2 : Below w.heap.size w w1) (h3 : OwnT w2 w.heap.size v2 (t ++ u)) (h4 : w1.grownBy w2 v1.ownBlock) :
    ∃ Aa ca, v2 = .slice Aa (n + n') ca ∧ n + n' ≤ ca ∧ RdT w2 w2.heap.size Aa (t ++ u) ∧ Below w.heap.size w w2 := by
  obtain ⟨Aa, ca, rfl, hc, hr⟩ := rdT_own h3
  rw [List.length_append, hn, hn'] at hc ⊢
  exact ⟨Aa, ca, rfl, hc, hr, h2.grown h4 h2.size (ownT_ge h1)⟩
theorem any_mem {l : List (List UInt8)} {n : List UInt8} (h : n ∈ l) : l.any (· == n) = true := by
  rw [List.any_eq_true]; exact ⟨n, h, by simp⟩

set_option maxRecDepth 100000 in
set_option maxHeartbeats 4000000 in
theorem treeNames_walk (A_t : Option Addr) (n_t c_t : Nat) (t : TR) (A_u : Option Addr) (n_u c_u : Nat) (u : TR) (w : World) (h_t : TreeArg w A_t n_t c_t t) (h_u : TreeArg w A_u n_u c_u u) :
    Calls Try.prog 7 #[.slice A_t n_t c_t, .slice A_u n_u c_u] w (LawEnd w) := by
  have HT_t := Lib.hid h_t.rd; have HN_t := Lib.hid h_t.len; have HF_t := Lib.hid h_t.fit; have HC_t := Lib.hid h_t.le
  have HT_u := Lib.hid h_u.rd; have HN_u := Lib.hid h_u.len; have HF_u := Lib.hid h_u.fit; have HC_u := Lib.hid h_u.le
  have HB := Lib.hid (Below.refl w.heap.size w)
  clear h_t h_u
  go_enter Try.func7, Try.ntmps7
  go_wp2_with fail
  refine (awake w).mono ?_
  rintro e w1 ⟨rfl, hb⟩
  replace HT_t := Lib.hid (HT_t.out.mv hb)
  replace HT_u := Lib.hid (HT_u.out.mv hb)
  replace HB := Lib.hid (below_mv HB.out hb)
  clear hb
  go_wp2_with fail
  refine (LightT A_t c_t n_t _ t _ HN_t.out HC_t.out HF_t.out HT_t.out).mono ?_
  rintro e w' ⟨rfl, rfl⟩
  go_wp2_with fail
  refine (LightT A_u c_u n_u _ u _ HN_u.out HC_u.out HF_u.out HT_u.out).mono ?_
  rintro e w' ⟨rfl, rfl⟩
  cases hl : lightT t with
  | false =>
    clear hl
    go_wp2
    go_ret
    exact ⟨rfl, HB.out⟩
  | true =>
  have HS_t := Lib.hid (lightT_small hl).2; have HK_t := Lib.hid (lightT_small hl).1; clear hl HF_t HC_t
  cases hl : lightT u with
  | false =>
    clear hl
    go_wp2
    go_ret
    exact ⟨rfl, HB.out⟩
  | true =>
  have HS_u := Lib.hid (lightT_small hl).2; have HK_u := Lib.hid (lightT_small hl).1; clear hl HF_u HC_u
  obtain ⟨v, hq⟩ : ∃ X, names Op.bytesLess (t.map (·.1) ++ u.map (·.1)) = X := ⟨_, rfl⟩
  have HQ_v := Lib.hid hq
  obtain ⟨n_v, hn⟩ : ∃ k, v.length = k := ⟨_, rfl⟩
  have HN_v := Lib.hid hn
  clear hq hn
  have HS_v : Hid (SmallL v) := Lib.hid (by rw [← HQ_v.out]; exact small_names HS_t.out HS_u.out HK_t.out HK_u.out)
  go_wp2_with fail
  refine (NamesC HN_t.out HN_u.out HS_t.out HS_u.out HT_t.out HT_u.out HQ_v.out HN_v.out).mono ?_
  rintro e w2 ⟨A_v, c_v, rfl, hc, hr, hb⟩
  replace HT_t := Lib.hid (HT_t.out.mv hb)
  replace HT_u := Lib.hid (HT_u.out.mv hb)
  replace HB := Lib.hid (below_mv HB.out hb)
  clear hb
  have HT_v := Lib.hid hr; clear hr hc
  have hms : ∀ x, x ∈ v ↔ x ∈ t.map (·.1) ++ u.map (·.1) := fun x => by rw [← HQ_v.out]; exact names_mem
  have hrs : v.Pairwise fun a b => Op.bytesLess a b = true := by rw [← HQ_v.out]; exact names_rise lin _
  have HMS := Lib.hid hms; have HRS := Lib.hid hrs; clear hms hrs
  have hnv : n_v ≤ 100000 := by rw [← HN_v.out]; exact HS_v.out.1
  go_wp2_with fail
  go_loopw [9] (fun i wr => ∃ k : Nat, k ≤ n_v ∧ i = .int .i64 (k : Int) ∧ Below w2.heap.size w2 wr) (fun i _ => n_v - (intOf i).toNat)
  case atStart => exact ⟨0, Nat.zero_le _, rfl, Below.refl _ _⟩
  case round =>
    obtain ⟨k, hk, rfl, hbw⟩ := hrel
    have HBW := Lib.hid hbw; clear hbw
    by_cases hlt : k < n_v
    · have hkv : k < v.length := by rw [HN_v.out]; exact hlt
      obtain ⟨av, rfl, _⟩ := RdS.at' HT_v.out hkv
      have hcell : ∀ W, Below w2.heap.size w2 W → ∀ j (hj : j < v.length), W.cell? (av.add j) = some (strV v[j]) := fun W hb j hj => rdS_cell (rdS_mv HT_v.out hb) hj
      have HCELL := Lib.hid hcell; clear hcell
      have hin : v[k] ∈ t.map (·.1) ++ u.map (·.1) := (HMS.out _).1 (List.getElem_mem hkv)
      obtain ⟨nm, hnm⟩ : ∃ nm, v[k] = nm := ⟨_, rfl⟩
      have hnmc : ∀ W, Below w2.heap.size w2 W → W.cell? (av.add k) = some (strV nm) := fun W hb => by rw [← hnm]; exact HCELL.out W hb k hkv
      rw [hnm] at hin
      have HNM := Lib.hid hnm; have HNMC := Lib.hid hnmc
      obtain ⟨bx, hbx⟩ : ∃ b, (get t nm).isSome = b := ⟨_, rfl⟩
      obtain ⟨b2, hb2⟩ : ∃ b, (get u nm).isSome = b := ⟨_, rfl⟩
      obtain ⟨n1, hn1⟩ : ∃ k, ((get t nm).getD []).length = k := ⟨_, rfl⟩
      obtain ⟨n2, hn2⟩ : ∃ k, ((get u nm).getD []).length = k := ⟨_, rfl⟩
      have hor : bx = true ∨ b2 = true := by
        rcases List.mem_append.1 hin with h | h
        · exact .inl (by rw [← hbx]; exact some_of_mem h)
        · exact .inr (by rw [← hb2]; exact some_of_mem h)
      have HBX := Lib.hid hbx; have HB2 := Lib.hid hb2; have HN1 := Lib.hid hn1; have HN2 := Lib.hid hn2; have HOR := Lib.hid hor
      clear hin hnm hnmc hbx hb2 hn1 hn2 hor
      have y0 := HNMC.out wr HBW.out
      go_wp2_with fail
      refine (GetC (b := bx) HN_t.out HS_t.out (HT_t.out.mv HBW.out) rfl HBX.out HN1.out).mono ?_
      rintro e w8 ⟨A8, c8, rfl, _, _, hb8⟩
      have HBW8 := Lib.hid (HBW.out.trans (hb8.mono HBW.out.size))
      clear hb8 y0
      have y0 := HNMC.out w8 HBW8.out
      go_wp2_with fail
      refine (GetC (b := b2) HN_u.out HS_u.out (HT_u.out.mv HBW8.out) rfl HB2.out HN2.out).mono ?_
      rintro e w9 ⟨A9, c9, rfl, _, _, hb9⟩
      have HBW9 := Lib.hid (HBW8.out.trans (hb9.mono HBW8.out.size))
      clear hb9 y0
      have y0 := HNMC.out w9 HBW9.out
      have HBD : Hid (∀ d, Below w2.heap.size w2 (w9.drewN d)) := Lib.hid (fun d => below_drewN HBW9.out d)
      have z1 : (k : Int) < (n_v : Int) := by omega
      have z2 : (0 : Int) ≤ (k : Int) := by omega
      rcases Nat.eq_zero_or_pos k with hk0 | hk0
      · subst hk0
        have hor := HOR.out
        cases bx <;> cases b2 <;> first
          | (exfalso; simp at hor; done)
          | (clear hor
             go_wp2
             go_quiet (fail)
             go_wp2
             go_roundw
             case rel => exact ⟨1, by omega, rfl, HBD.out _⟩
             case measure => simp [intOf]; omega)
      · obtain ⟨j, hj⟩ : ∃ j, k = j + 1 := ⟨k - 1, by omega⟩
        subst hj
        have hjv : j < v.length := by omega
        have y0b : w9.cell? ⟨av.block, av.off + (j + 1), none⟩ = some (strV nm) := by have := y0; unfold Addr.add at this; simpa using this
        have y1 := HCELL.out w9 HBW9.out j hjv
        have hlt2 := List.pairwise_iff_getElem.1 HRS.out j (j + 1) hjv hkv (by omega)
        rw [HNM.out] at hlt2
        obtain ⟨nj, hnj⟩ : ∃ nj, v[j] = nj := ⟨_, rfl⟩
        rw [hnj] at y1 hlt2
        have q1 : Op.bytesLess nm nj = false := lin.asym hlt2
        have q2 : (nm == nj) = false := by have := lin.ne hlt2; simpa using fun e => this e.symm
        have q3 : (Op.bytesLess nm nj || nm == nj) = false := by rw [q1, q2]; rfl
        have q4 : ¬ nm = nj := fun e => lin.ne hlt2 e.symm
        have w1a : IntKind.i64.wrap ((j : Int) + 1 - 1) = (j : Int) := by rw [IntWalk.i64_in _ (by omega)]; omega
        have w1b : IntKind.i64.wrap (((j + 1 : Nat) : Int) - 1) = (j : Int) := by rw [IntWalk.i64_in _ (by omega)]; omega
        have w2a : (0 : Int) < (j : Int) + 1 := by omega
        have w3a : (j : Int) < (n_v : Int) := by omega
        have w4a : (0 : Int) ≤ (j : Int) := by omega
        have w5a : (j : Int) + 1 < (n_v : Int) := by omega
        have w6a : ((j : Int) + 1).toNat = j + 1 := by omega
        have w7a : (0 : Int) ≤ (j : Int) + 1 := by omega
        clear hnj hlt2
        have hor := HOR.out
        cases bx <;> cases b2 <;> first
          | (exfalso; simp at hor; done)
          | (clear hor
             go_wp2
             go_quiet (fail)
             clear w1a w1b
             go_wp2
             go_roundw
             case rel => exact ⟨j + 1 + 1, by omega, by go_num, HBD.out _⟩
             case measure => simp [intOf]; omega)
    · obtain rfl : n_v = k := by omega
      clear hlt hk
      replace HT_t := Lib.hid (HT_t.out.mv HBW.out); replace HT_u := Lib.hid (HT_u.out.mv HBW.out); replace HT_v := Lib.hid (rdS_mv HT_v.out HBW.out); replace HB := Lib.hid (below_mv HB.out HBW.out)
      clear HBW HRS
      obtain ⟨ys, y1, y2, y3⟩ := flat_cells (row := none) HT_t.out (Nat.le_refl _) (fun k e => by cases e)
      have hk1 := HK_t.out; have hk2 := HK_u.out
      rw [HN_t.out] at hk1
      rw [HN_u.out] at hk2
      have hn0 : ([] : TR).length + n_t ≤ 100000 := by show 0 + n_t ≤ _; omega
      have hn1 : t.length + n_u ≤ 100000 := by rw [HN_t.out]; omega
      have HF1 := Lib.hid (fun v1 w1 => all_one (t := t) HT_u.out (Nat.le_refl _) v1 w1)
      have HF2 := Lib.hid (fun v1 w1 v2 w2 => all_two (w := wr) HN_t.out HN_u.out v1 w1 v2 w2)
      have Y1 := Lib.hid y1; have Y2 := Lib.hid y2; have Y3 := Lib.hid y3
      clear y1 y2 y3
      go_wp2_with (first
        | (at_builtin; refine wpList_ownT rfl (.const (.slice none 0 0)) (.tmp 83) rfl wr.heap.size n_t c_t (.slice none 0 0) A_t [] t ys rfl rfl (ownT_nil _ _) Y2.out Y1.out Y3.out HN_t.out hn0 (Nat.le_refl _) ?_; intro v1 w8 ho hg; obtain ⟨e1, e2, e3, zs, e4, e5, e6⟩ := HF1.out v1 w8 ho hg; have E1 := Lib.hid e1; have E2 := Lib.hid e2; have E4 := Lib.hid e4; have E5 := Lib.hid e5; have E6 := Lib.hid e6; clear ho hg e1 e2 e4 e5 e6)
        | (at_builtin; refine wpList_ownT rfl (.tmp 84) (.tmp 85) rfl wr.heap.size n_u c_u v1 A_u t u zs rfl rfl E1.out E5.out E4.out E6.out HN_u.out hn1 e3 ?_; intro v2 w9 ho hg; obtain ⟨Aa, ca, rfl, hca, f1, f2⟩ := HF2.out v1 w8 v2 w9 E1.out E2.out ho hg; have F1 := Lib.hid f1; have F2 := Lib.hid f2; clear ho hg f1 f2))
      clear E1 E2 E4 E5 E6 e3 HF1 HF2 Y1 Y2 Y3
      replace HT_v := Lib.hid (rdS_mv HT_v.out F2.out)
      have hbn := below_mv HB.out F2.out
      have HBN := Lib.hid hbn; clear hbn F2
      obtain ⟨N, hN⟩ : ∃ N, n_t + n_u = N := ⟨_, rfl⟩
      have hNl : N ≤ 80 := by omega
      obtain ⟨T, hT⟩ : ∃ T, t ++ u = T := ⟨_, rfl⟩
      have hTN : T.length = N := by rw [← hT, List.length_append, HN_t.out, HN_u.out]; exact hN
      have hmap : t.map (·.1) ++ u.map (·.1) = T.map (·.1) := by rw [← hT, List.map_append]
      rw [hT] at F1
      rw [hN] at hca ⊢
      have HTN := Lib.hid hTN; have HMAP := Lib.hid hmap
      clear hT hTN hmap hN hn0 hn1 hk1 hk2
      go_loopw [15] (fun i wr => ∃ (k d : Nat), k ≤ N ∧ i = .int .i64 (k : Int) ∧ wr = w9.drewN d) (fun i _ => N - (intOf i).toNat)
      case atStart => exact ⟨0, 0, Nat.zero_le _, rfl, rfl⟩
      case round =>
        obtain ⟨k, d, hk, rfl, rfl⟩ := hrel
        by_cases hlt : k < N
        · have hkT : k < T.length := by rw [HTN.out]; exact hlt
          obtain ⟨a, rfl, hab, hat⟩ := RdT.at_ F1.out hkT
          have c0 := hat.c0
          have hmem : T[k].1 ∈ v := (HMS.out _).2 (by rw [HMAP.out]; exact List.mem_map.2 ⟨_, List.getElem_mem hkT, rfl⟩)
          obtain ⟨nm, hnm⟩ : ∃ nm, T[k].1 = nm := ⟨_, rfl⟩
          rw [hnm] at c0 hmem
          have HMEM := Lib.hid hmem
          clear hat hnm hmem
          go_wp2
          go_loopw [16, 17] (fun b i w' => ∃ (q e : Nat), q ≤ n_v ∧ i = .int .i64 (q : Int) ∧ b = .bool ((v.take q).any (· == nm)) ∧ w' = w9.drewN e) (fun _ i _ => n_v - (intOf i).toNat)
          case atStart => exact ⟨0, d, Nat.zero_le _, rfl, by simp, rfl⟩
          case round =>
            obtain ⟨q, e, hq, rfl, rfl, rfl⟩ := hrel
            by_cases hlq : q < n_v
            · have hqv : q < v.length := by rw [HN_v.out]; exact hlq
              obtain ⟨av, rfl, y0⟩ := RdS.at' HT_v.out hqv
              have has := any_snoc (n := nm) hqv
              obtain ⟨nq, hnq⟩ : ∃ nq, v[q] = nq := ⟨_, rfl⟩
              rw [hnq] at y0 has
              obtain ⟨b1, hb1⟩ : ∃ b, (v.take q).any (· == nm) = b := ⟨_, rfl⟩
              rw [hb1] at has ⊢
              have z1 : (q : Int) < (n_v : Int) := by omega
              have z2 : (0 : Int) ≤ (q : Int) := by omega
              have z3 : (k : Int) < (N : Int) := by omega
              have z4 : (0 : Int) ≤ (k : Int) := by omega
              clear hnq hb1
              cases he : (nq == nm) with
              | true =>
                rw [he] at has
                have HAS := Lib.hid has; clear has
                cases b1 <;>
                  (go_wp2
                   go_quiet (fail)
                   go_wp2
                   go_roundw
                   case rel => exact ⟨q + 1, _, by omega, by go_num, by first | (rw [HAS.out]; done) | (rw [HAS.out]; rfl), rfl⟩
                   case measure => simp [intOf]; omega)
              | false =>
                rw [he] at has
                have HAS := Lib.hid has; clear has
                cases b1 <;>
                  (go_wp2
                   go_quiet (fail)
                   go_wp2
                   go_roundw
                   case rel => exact ⟨q + 1, _, by omega, by go_num, by first | (rw [HAS.out]; done) | (rw [HAS.out]; rfl), rfl⟩
                   case measure => simp [intOf]; omega)
            · obtain rfl : q = n_v := by omega
              rw [List.take_of_length_le (by rw [HN_v.out]; exact Nat.le_refl _), any_mem HMEM.out]
              go_wp2
              go_roundw
              case rel => exact ⟨k + 1, _, by omega, by go_num, rfl⟩
              case measure => simp [intOf]; omega
        · obtain rfl : k = N := by omega
          have HBF : Hid (Below w.heap.size w (w9.drewN d)) := Lib.hid (below_drewN HBN.out d)
          go_wp2
          go_ret
          exact ⟨rfl, HBF.out⟩

end TrL
open TrL
open Tx
open Go.ChangeShapes Go.WideShapes Go.ChangeAt

theorem treeNames_own : ownKnob Try.prog.godebug = none := by kernel_rfl
theorem treeNames_laidOut : laidOutB Try.prog = true := by kernel_rfl

set_option maxRecDepth 100000 in
theorem treeNames_lifted (os : Os) (started : os.Started) (H : Type) (enc : TypeId × Value → H) :
    ReturnsInHanded {} Try.checked os 7 .any (Rows.treeNamesSpec.pre6 enc Try.prog Try.f7 Rows.treeNamesRow.domain false) (Rows.treeNamesSpec.post enc Try.prog Try.f7 false true false false) := by
  refine returnsInHanded_of_change (C := Try.checked) treeNames_own started (by kernel_rfl) Try.func7
    (ChangeSpec.witness6 (enc := enc) (C := Try.checked) false ⟨#[], #[.slice none 0 0, .slice none 0 0], []⟩ 8 (by kernel_rfl) (by kernel_rfl) (by kernel_rfl) (by kernel_rfl)) ?_
  intro W base args ds gs before hval0 hW hcnd _
  have hval : ∀ (j : Nat) t v, Try.f7.params[j]? = some t → args[j]? = some v → Value.okWide Try.prog W .any base t v := hval0
  have hW' := hW
  obtain ⟨p, q, hA0, hV, rfl, hfz, hnd⟩ := hW
  have hA : DataW.TrodAll enc Try.prog W 0 (fun _ => true) true Try.f7.params.toList args.toList ds p := hA0
  rw [Try.params7] at hA hval
  obtain ⟨v0, vs0, d0, ds0, p0, q0, hargs, rfl, rfl, h0, r0⟩ := trodAll_cons hA
  obtain ⟨v1, vs1, d1, ds1, p1, q1, rfl, rfl, rfl, h1, r1⟩ := trodAll_cons r0
  obtain ⟨rfl, rfl, rfl⟩ := trodAll_nil r1
  obtain rfl : args = #[v0, v1] := by cases args; simp_all
  obtain ⟨rfl, rfl⟩ := trodVars_none hV
  obtain ⟨a0, n0, c0, rfl⟩ := okWide_slice Try.underlying23 (hval 0 23 v0 rfl rfl)
  have k0 := h0
  have lt0 : ∀ x ∈ p0, x.block < W.heap.size := by obtain ⟨m, hm⟩ := k0; exact DataW.trod_lt m _ _ _ hm
  obtain ⟨l0, s0⟩ : ∃ l, TreeArg W a0 n0 c0 l := by
    obtain ⟨fuel, hf⟩ := h0
    exact tree_in hf (by simp [Value.cells])
  obtain ⟨a1, n1, c1, rfl⟩ := okWide_slice Try.underlying23 (hval 1 23 v1 rfl rfl)
  have k1 := h1
  have lt1 : ∀ x ∈ p1, x.block < W.heap.size := by obtain ⟨m, hm⟩ := k1; exact DataW.trod_lt m _ _ _ hm
  obtain ⟨l1, s1⟩ : ∃ l, TreeArg W a1 n1 c1 l := by
    obtain ⟨fuel, hf⟩ := h1
    exact tree_in hf (by simp [Value.cells])
  clear hA0 hval0
  refine (treeNames_walk a0 n0 c0 l0 a1 n1 c1 l1 W s0 s1).mono fun e W' ⟨he, bel⟩ => ?_
  subst he
  exact ⟨_, rfl, _, _, _, [], _, [], hW', trodAll_mk1 (shut_bool Try.underlying4 _), (trodAll_cons_mk (Below.trod treeNames_laidOut (by kernel_rfl) (of_decide_eq_true (by kernel_rfl)) k0 bel lt0) (trodAll_cons_mk (Below.trod treeNames_laidOut (by kernel_rfl) (of_decide_eq_true (by kernel_rfl)) k1 bel lt1) trodAll_mk0)), rfl, bel.frame _, fun h => by cases h⟩

/-- The statement. -/
theorem treeNames_proved : Rows.TreeNamesSaid :=
  OpenClaim.holds_of_wide 7 Try.f7 rfl rfl rfl rfl rfl rfl rfl ⟨rfl, rfl, rfl, rfl, rfl⟩ rfl rfl rfl rfl rfl (by kernel_rfl) Try.func7 (by kernel_rfl)
    (of_decide_eq_true (by kernel_rfl)) (by unfold Func.isWrapper; first | (rw [if_pos (by decide +kernel)]; kernel_rfl) | (rw [if_neg (by decide +kernel)]; exact ⟨rfl, rfl⟩))
    (fun os started H enc _ => treeNames_lifted os started H enc)

#print axioms treeNames_proved
end Go.Proofs.Ytcmpbglbmikkoaa
