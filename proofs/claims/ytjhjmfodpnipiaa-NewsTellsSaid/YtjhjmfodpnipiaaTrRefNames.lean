/-
  What the document's Names of layer 7 returns (walk).
-/
import Derived.Test.YtjhjmfodpnipiaaGT
import Derived.Test.YtjhjmfodpnipiaaGQ
import Derived.BigQuiet
set_option maxRecDepth 100000
namespace Go.Proofs.Ytjhjmfodpnipiaa
open Go.RowKit
set_option linter.unusedVariables false
namespace Tr
open Tx

/-- What the inner loop knows: where the name goes, and whether it is there. -/
def atN (o : List (List UInt8)) (n : List UInt8) (k : Nat) : Nat := k + nat Op.bytesLess (o.drop k) n
def isThere (o : List (List UInt8)) (n : List UInt8) (k : Nat) : Bool := (o.drop k).any (· == n)
theorem atN_start {o : List (List UInt8)} {n : List UInt8} : atN o n o.length = o.length := by unfold atN; rw [List.drop_length]; rfl
theorem isThere_start {o : List (List UInt8)} {n : List UInt8} : isThere o n o.length = false := by unfold isThere; rw [List.drop_length]; rfl
theorem atN_gt {o : List (List UInt8)} {n : List UInt8} {k : Nat} (hk : k < o.length) (h : Op.bytesLess n o[k] = true) : atN o n k = k := by unfold atN; rw [nat_drop hk, if_pos h]; rfl
theorem atN_le {o : List (List UInt8)} {n : List UInt8} {k : Nat} (hk : k < o.length) (h : Op.bytesLess n o[k] = false) : atN o n k = atN o n (k + 1) := by
  unfold atN
  rw [nat_drop hk, if_neg (by rw [h]; decide)]; omega
theorem isThere_step {o : List (List UInt8)} {n : List UInt8} {k : Nat} (hk : k < o.length) : isThere o n k = (isThere o n (k + 1) || o[k] == n) := by
  unfold isThere
  rw [List.drop_eq_getElem_cons hk, List.any_cons, Bool.or_comm]
theorem atN_end {o : List (List UInt8)} {n : List UInt8} : atN o n 0 = nat Op.bytesLess o n := by unfold atN; rw [List.drop_zero, Nat.zero_add]
theorem isThere_end {o : List (List UInt8)} {n : List UInt8} : isThere o n 0 = true ↔ n ∈ o := by
  unfold isThere
  rw [List.drop_zero, List.any_eq_true]
  constructor
  · rintro ⟨x, hx, h⟩
    have : x = n := by simpa using h
    exact this ▸ hx
  · intro h; exact ⟨n, h, by simp⟩
theorem nin_yes {o : List (List UInt8)} {n : List UInt8} (h : isThere o n 0 = true) : nin Op.bytesLess o n = o := by unfold nin; rw [if_pos (isThere_end.1 h)]
theorem nin_no {o : List (List UInt8)} {n : List UInt8} (h : isThere o n 0 = false) : nin Op.bytesLess o n = o.take (atN o n 0) ++ n :: o.drop (atN o n 0) := by
  unfold nin
  rw [if_neg (fun e => by rw [isThere_end.2 e] at h; cases h), insN_at, atN_end]

/-- Lines in the order of the names. -/
theorem names_next {l : List (List UInt8)} {i : Nat} (hi : i < l.length) : names Op.bytesLess (l.take (i + 1)) = nin Op.bytesLess (names Op.bytesLess (l.take i)) l[i] := by
  rw [take_snoc' hi, names_snoc]

/-- A value that may be appended to, behind a new block. -/
theorem app_alloc {w : World} {base : Nat} {e : TypeId} {v : Value} {n : Nat} {xs : List Value} (h : App w base e v n xs) (o : Obj) : App (w.alloc o) base e v n xs := by
  obtain ⟨A, c, h1, h2, h3, h4, h5⟩ := h
  exact ⟨A, c, h1, h2, h3, (h4.below ((Below.refl _ _).alloc (Nat.le_refl _) o)).up (by simp), h5.imp id fun h => h.alloc o⟩

set_option maxRecDepth 100000 in
set_option maxHeartbeats 8000000 in
theorem refNames (A A' : Option Addr) (n c n' c' B : Nat) (t u : TR) (w : World) (hn : t.length = n) (hn' : u.length = n') (hln : n ≤ 1000) (hln' : n' ≤ 1000) (hB : B ≤ w.heap.size) (hR : RdT w B A t) (hR' : RdT w B A' u) :
    Calls Try.prog 22 #[.slice A n c, .slice A' n' c'] w (LinesEnd w (names Op.bytesLess (t.map (·.1) ++ u.map (·.1)))) := by
  obtain ⟨j0, hj, hy0, hy1, hy2⟩ := info_parts info_str
  obtain ⟨ys, y1, y2, y3⟩ := flat_cells (row := none) hR hB (fun k e => by cases e)
  have hn0 : ([] : TR).length + n ≤ 100000 := by show 0 + n ≤ _; omega
  have hn1 : t.length + n' ≤ 100000 := by omega
  have hf1 : ∀ v1 w1, OwnT w1 w.heap.size v1 ([] ++ t) → w.grownBy w1 (Value.slice none 0 0).ownBlock → OwnT w1 w.heap.size v1 t ∧ Below w.heap.size w w1 ∧ w.heap.size ≤ w1.heap.size ∧
      ∃ zs : List Value, zs.length = u.length * 2 ∧ FCells w1 v1.ownBlock u zs ∧ (zs = [] ∨ ∃ a, A' = some a ∧ ∀ j x, zs[j]? = some x → w1.cell? (a.add j) = some x) := fun v1 w1 h1 h2 => by
    rw [List.nil_append] at h1
    have hb : Below w.heap.size w w1 := (Below.refl _ _).grown h2 (Nat.le_refl _) (fun k e => by cases e)
    exact ⟨h1, hb, hb.size, flat_cells (hR'.below (hb.mono hB)) (Nat.le_trans hB hb.size) fun k hk => Nat.le_trans hB (ownT_ge h1 k hk)⟩
  have hf2 : ∀ v1 w1 v2 w2, OwnT w1 w.heap.size v1 t → Below w.heap.size w w1 → OwnT w2 w.heap.size v2 (t ++ u) → w1.grownBy w2 v1.ownBlock → ∃ Aa ca, v2 = .slice Aa (n + n') ca ∧ n + n' ≤ ca ∧ RdT w2 w2.heap.size Aa (t ++ u) ∧ Below w.heap.size w w2 := fun v1 w1 v2 w2 h1 h2 h3 h4 => by
    obtain ⟨Aa, ca, rfl, hc, hr⟩ := rdT_own h3
    rw [List.length_append, hn, hn'] at hc ⊢
    exact ⟨Aa, ca, rfl, hc, hr, h2.grown h4 h2.size (ownT_ge h1)⟩
  have HN := Lib.hid hn; have HN' := Lib.hid hn'; have Y1 := Lib.hid y1; have Y2 := Lib.hid y2; have Y3 := Lib.hid y3; have HF1 := Lib.hid hf1; have HF2 := Lib.hid hf2
  clear hn hn' y1 y2 y3 hf1 hf2 hR hR'
  go_enter Try.func22, Try.ntmps22
  go_wp2_with (first
    | (at_builtin; refine wpList_ownT rfl (.const (.slice none 0 0)) (.tmp 12) rfl w.heap.size n c (.slice none 0 0) A [] t ys rfl rfl (ownT_nil _ _) Y2.out Y1.out Y3.out HN.out hn0 (Nat.le_refl _) ?_; intro v1 w1 ho hg; obtain ⟨e1, e2, e3, zs, e4, e5, e6⟩ := HF1.out v1 w1 ho hg; have E1 := Lib.hid e1; have E2 := Lib.hid e2; have E4 := Lib.hid e4; have E5 := Lib.hid e5; have E6 := Lib.hid e6; clear ho hg e1 e2 e4 e5 e6)
    | (at_builtin; refine wpList_ownT rfl (.tmp 13) (.tmp 14) rfl w.heap.size n' c' v1 A' t u zs rfl rfl E1.out E5.out E4.out E6.out HN'.out hn1 e3 ?_; intro v2 w2 ho hg; obtain ⟨Aa, ca, rfl, hca, f1, f2⟩ := HF2.out v1 w1 v2 w2 E1.out E2.out ho hg; have F1 := Lib.hid f1; have F2 := Lib.hid f2; clear ho hg f1 f2))
  clear E1 E2 E4 E5 E6 e3 HF1 HF2 Y1 Y2 Y3
  obtain ⟨N, hN⟩ : ∃ N, n + n' = N := ⟨_, rfl⟩
  have hNl : N ≤ 2000 := by omega
  obtain ⟨T, hT⟩ : ∃ T, t ++ u = T := ⟨_, rfl⟩
  have hTN : T.length = N := by rw [← hT, List.length_append, HN.out, HN'.out]; exact hN
  have hmap : t.map (·.1) ++ u.map (·.1) = T.map (·.1) := by rw [← hT, List.map_append]
  rw [hT] at F1
  rw [hN] at hca ⊢
  have HTN := Lib.hid hTN; have HMAP := Lib.hid hmap
  clear hT hTN hmap hN hn0 hn1
  go_loopw [6, 7] (fun v6 v7 wr => ∃ (i : Nat) (Ao : Option Addr) (co : Nat), i ≤ N ∧ v7 = .int .i64 (i : Int) ∧ v6 = .slice Ao (names Op.bytesLess ((T.map (·.1)).take i)).length co ∧ (names Op.bytesLess ((T.map (·.1)).take i)).length ≤ co ∧ RdS wr wr.heap.size Ao (names Op.bytesLess ((T.map (·.1)).take i)) ∧ Below w2.heap.size w2 wr) (fun _ v7 _ => N - (intOf v7).toNat)
  case atStart => exact ⟨0, none, 0, Nat.zero_le _, rfl, rfl, Nat.le_refl _, .inl rfl, Below.refl _ _⟩
  case round =>
    obtain ⟨i, Ao, co, hi, rfl, rfl, hco, hro, hbw⟩ := hrel
    have hle := names_len (lt := Op.bytesLess) ((T.map (·.1)).take i)
    rw [List.length_take] at hle
    have hnext := fun h => names_next (l := T.map (·.1)) (i := i) h
    obtain ⟨o, ho⟩ : ∃ o, names Op.bytesLess ((T.map (·.1)).take i) = o := ⟨_, rfl⟩
    rw [ho] at hco hro hle hnext ⊢
    have HOO := Lib.hid ho
    clear ho
    obtain ⟨K, hK⟩ : ∃ K, o.length = K := ⟨_, rfl⟩
    rw [hK] at hco hle ⊢
    have HK := Lib.hid hK
    have hK2 : K ≤ 2000 := by omega
    have HRO := Lib.hid hro; have HBW := Lib.hid hbw; have HNX := Lib.hid hnext
    clear hK hro hbw hle hnext
    by_cases hlt : i < N
    · have hiT : i < T.length := by rw [HTN.out]; exact hlt
      obtain ⟨a, rfl, hab, hat⟩ := (RdT.below F1.out HBW.out).at_ hiT
      have hni : (T.map (·.1))[i]'(by rw [List.length_map]; exact hiT) = T[i].1 := by rw [List.getElem_map]
      have hnx := HNX.out (by rw [List.length_map]; exact hiT)
      rw [hni] at hnx
      have c0 := hat.c0
      obtain ⟨nm, hnm⟩ : ∃ nm, T[i].1 = nm := ⟨_, rfl⟩
      rw [hnm] at hnx c0
      have HNEXT := Lib.hid hnx
      clear hat hni hnm hnx HNX
      go_wp2
      go_loopw [8, 9, 10] (fun v8 v9 v10 w' => ∃ (k d : Nat), k ≤ K ∧ v10 = .int .i64 ((k : Int) - 1) ∧ v8 = .int .i64 ((atN o nm k : Nat) : Int) ∧ v9 = .bool (isThere o nm k) ∧ w' = wr.drewN d) (fun _ _ v10 _ => (intOf v10 + 1).toNat)
      case atStart => exact ⟨K, 0, Nat.le_refl _, rfl, by rw [← HK.out, atN_start], by rw [← HK.out, isThere_start], rfl⟩
      case round =>
        obtain ⟨k, d, hk, rfl, rfl, rfl, rfl⟩ := hrel
        cases k with
        | succ k =>
          have hko : k < o.length := by rw [HK.out]; omega
          obtain ⟨ao, rfl, y0⟩ := RdS.at' HRO.out hko
          have e : (((k + 1 : Nat) : Int) - 1) = (k : Int) := by omega
          rw [e]; clear e
          have z1 : (k : Int) < (K : Int) := by omega
          have z2 : (0 : Int) ≤ (k : Int) := by omega
          have z3 : (i : Int) < (N : Int) := by omega
          obtain ⟨bt, hb⟩ : ∃ b, isThere o nm (k + 1) = b := ⟨_, rfl⟩
          rw [hb]
          cases bt with
          | false =>
            cases hg : Op.bytesLess nm o[k] with
            | false =>
              cases he : (o[k] == nm) with
              | false =>
                · have HAT := Lib.hid (atN_le hko hg); have HTH : Hid (isThere o nm k = (false || false)) := Lib.hid (by rw [isThere_step hko, hb, he])
                  have q1 : (!Op.bytesLess o[k] nm && !(o[k] == nm)) = false := by rw [gt_eq]; exact hg
                  have q2 : (o[k] == nm) = false := he
                  have q3 : Op.bytesLess o[k] nm = true := by rcases lin.tri (show o[k] ≠ nm by simpa using he) with h | h; exact h; rw [hg] at h; cases h
                  clear hb hg he
                  go_wp2
                  go_quiet (fail)
                  go_wp2
                  go_quiet (fail)
                  go_wp2
                  go_roundw
                  case rel => exact ⟨k, _, by omega, rfl, by first | (rw [HAT.out]; done) | (rw [HAT.out]; rfl) | (rw [HAT.out]; go_num), by first | (rw [HTH.out]; done) | (rw [HTH.out]; rfl), rfl⟩
                  case measure => simp [intOf]
              | true =>
                · have HAT := Lib.hid (atN_le hko hg); have HTH : Hid (isThere o nm k = (false || true)) := Lib.hid (by rw [isThere_step hko, hb, he])
                  have q1 : (!Op.bytesLess o[k] nm && !(o[k] == nm)) = false := by rw [gt_eq]; exact hg
                  have q2 : (o[k] == nm) = true := he
                  have q3 : Op.bytesLess o[k] nm = false := by rw [show o[k] = nm by simpa using he]; exact lin.irr nm
                  clear hb hg he
                  go_wp2
                  go_quiet (fail)
                  go_wp2
                  go_quiet (fail)
                  go_wp2
                  go_roundw
                  case rel => exact ⟨k, _, by omega, rfl, by first | (rw [HAT.out]; done) | (rw [HAT.out]; rfl) | (rw [HAT.out]; go_num), by first | (rw [HTH.out]; done) | (rw [HTH.out]; rfl), rfl⟩
                  case measure => simp [intOf]
            | true =>
              cases he : (o[k] == nm) with
              | false =>
                · have HAT := Lib.hid (atN_gt hko hg); have HTH : Hid (isThere o nm k = (false || false)) := Lib.hid (by rw [isThere_step hko, hb, he])
                  have q1 : (!Op.bytesLess o[k] nm && !(o[k] == nm)) = true := by rw [gt_eq]; exact hg
                  have q2 : (o[k] == nm) = false := he
                  have q3 : Op.bytesLess o[k] nm = false := lin.asym hg
                  clear hb hg he
                  go_wp2
                  go_quiet (fail)
                  go_wp2
                  go_quiet (fail)
                  go_wp2
                  go_roundw
                  case rel => exact ⟨k, _, by omega, rfl, by first | (rw [HAT.out]; done) | (rw [HAT.out]; rfl) | (rw [HAT.out]; go_num), by first | (rw [HTH.out]; done) | (rw [HTH.out]; rfl), rfl⟩
                  case measure => simp [intOf]
              | true =>
                exact absurd (by simpa using he) (lin.ne hg).symm
          | true =>
            cases hg : Op.bytesLess nm o[k] with
            | false =>
              cases he : (o[k] == nm) with
              | false =>
                · have HAT := Lib.hid (atN_le hko hg); have HTH : Hid (isThere o nm k = (true || false)) := Lib.hid (by rw [isThere_step hko, hb, he])
                  have q1 : (!Op.bytesLess o[k] nm && !(o[k] == nm)) = false := by rw [gt_eq]; exact hg
                  have q2 : (o[k] == nm) = false := he
                  have q3 : Op.bytesLess o[k] nm = true := by rcases lin.tri (show o[k] ≠ nm by simpa using he) with h | h; exact h; rw [hg] at h; cases h
                  clear hb hg he
                  go_wp2
                  go_quiet (fail)
                  go_wp2
                  go_quiet (fail)
                  go_wp2
                  go_roundw
                  case rel => exact ⟨k, _, by omega, rfl, by first | (rw [HAT.out]; done) | (rw [HAT.out]; rfl) | (rw [HAT.out]; go_num), by first | (rw [HTH.out]; done) | (rw [HTH.out]; rfl), rfl⟩
                  case measure => simp [intOf]
              | true =>
                · have HAT := Lib.hid (atN_le hko hg); have HTH : Hid (isThere o nm k = (true || true)) := Lib.hid (by rw [isThere_step hko, hb, he])
                  have q1 : (!Op.bytesLess o[k] nm && !(o[k] == nm)) = false := by rw [gt_eq]; exact hg
                  have q2 : (o[k] == nm) = true := he
                  have q3 : Op.bytesLess o[k] nm = false := by rw [show o[k] = nm by simpa using he]; exact lin.irr nm
                  clear hb hg he
                  go_wp2
                  go_quiet (fail)
                  go_wp2
                  go_quiet (fail)
                  go_wp2
                  go_roundw
                  case rel => exact ⟨k, _, by omega, rfl, by first | (rw [HAT.out]; done) | (rw [HAT.out]; rfl) | (rw [HAT.out]; go_num), by first | (rw [HTH.out]; done) | (rw [HTH.out]; rfl), rfl⟩
                  case measure => simp [intOf]
            | true =>
              cases he : (o[k] == nm) with
              | false =>
                · have HAT := Lib.hid (atN_gt hko hg); have HTH : Hid (isThere o nm k = (true || false)) := Lib.hid (by rw [isThere_step hko, hb, he])
                  have q1 : (!Op.bytesLess o[k] nm && !(o[k] == nm)) = true := by rw [gt_eq]; exact hg
                  have q2 : (o[k] == nm) = false := he
                  have q3 : Op.bytesLess o[k] nm = false := lin.asym hg
                  clear hb hg he
                  go_wp2
                  go_quiet (fail)
                  go_wp2
                  go_quiet (fail)
                  go_wp2
                  go_roundw
                  case rel => exact ⟨k, _, by omega, rfl, by first | (rw [HAT.out]; done) | (rw [HAT.out]; rfl) | (rw [HAT.out]; go_num), by first | (rw [HTH.out]; done) | (rw [HTH.out]; rfl), rfl⟩
                  case measure => simp [intOf]
              | true =>
                exact absurd (by simpa using he) (lin.ne hg).symm
        | zero =>
          have e : (((0 : Nat) : Int) - 1) = -1 := rfl
          rw [e]; clear e
          cases hth : isThere o nm 0 with
          | true =>
            have HEQ : Hid (names Op.bytesLess ((T.map (·.1)).take (i + 1)) = o) := Lib.hid (by rw [HNEXT.out]; exact nin_yes hth)
            clear hth
            go_wp2
            go_roundw
            case rel => exact ⟨i + 1, Ao, co, by omega, by go_num, by rw [HEQ.out, HK.out], by rw [HEQ.out, HK.out]; exact hco, by rw [HEQ.out]; exact Rd.drewN HRO.out d, below_drewN HBW.out d⟩
            case measure => simp [intOf]; omega
          | false =>
            have heq : names Op.bytesLess ((T.map (·.1)).take (i + 1)) = o.take (atN o nm 0) ++ nm :: o.drop (atN o nm 0) := by rw [HNEXT.out]; exact nin_no hth
            have hqK : atN o nm 0 ≤ K := by rw [atN_end, ← HK.out]; exact nat_le o nm
            obtain ⟨q, hq⟩ : ∃ q, atN o nm 0 = q := ⟨_, rfl⟩
            rw [hq] at heq hqK ⊢
            clear hq hth
            have hdl : K - q + q = K := by omega
            have HL1 : Hid (((o.map strV).take q).length = q) := Lib.hid (by rw [List.length_take, List.length_map, HK.out]; omega)
            have HL3 : Hid (((o.map strV).drop q).length = K - q) := Lib.hid (by rw [List.length_drop, List.length_map, HK.out])
            have HL4 : Hid (∀ x ∈ (o.map strV).drop q, x.oneCell' = true) := Lib.hid (fun x hx => strs_one o x (List.mem_of_mem_drop hx))
            have HL7 : Hid (∀ x ∈ (o.map strV).take q, x.oneCell' = true) := Lib.hid (fun x hx => strs_one o x (List.mem_of_mem_take hx))
            have HL8 : Hid (names Op.bytesLess ((T.map (·.1)).take (i + 1)) = o.take q ++ nm :: o.drop q) := Lib.hid heq
            have HL9 : Hid ((o.take q ++ nm :: o.drop q).length = q + 1 + (K - q)) := Lib.hid (by rw [List.length_append, List.length_take, List.length_cons, List.length_drop, HK.out]; omega)
            have HL10 : Hid ((o.take q ++ nm :: o.drop q).map strV = (o.map strV).take q ++ [strV nm] ++ (o.map strV).drop q) := Lib.hid (by simp)
            have HRT : Hid (Rd (wr.drewN d) wr.heap.size Ao ((o.map strV).take q)) := Lib.hid ((Rd.drewN HRO.out d).take q)
            have hT := Rd.drop HRO.out (k := q) (cap := co) (by rw [List.length_map, HK.out]; exact hco)
            have habw : a.block < wr.heap.size := Nat.lt_of_lt_of_le hab HBW.out.size
            have hp1 : ∀ w3 v, w3.ownsRow (wr.drewN d).heap.size 9 1 v q ((o.map strV).take q) → (wr.drewN d).grownBy w3 none → w3.cell? (a.add (i * 2)) = some (strV nm) ∧ App (w3.alloc (.cells #[strV nm] 9)) wr.heap.size 9 v q ((o.map strV).take q) ∧
                Rd (w3.alloc (.cells #[strV nm] 9)) (w3.heap.size + 1) (some ⟨w3.heap.size, 0, none⟩) [strV nm] ∧ Below wr.heap.size (wr.drewN d) (w3.alloc (.cells #[strV nm] 9)) := fun w3 v h1 h2 => by
              have hb := below_gr h2
              refine ⟨(hb.cell (p := a.add (i * 2)) (by rw [add_block]; exact habw)).trans (by simpa using c0), app_alloc (app_own h1) _, .inr ⟨_, rfl, by show w3.heap.size < w3.heap.size + 1; omega, fun j v hv => ?_⟩, hb.alloc hb.size _⟩
              cases j with
              | zero =>
                cases hv
                rw [add_zero']
                exact (Blk.new w3 9 #[strV nm]).cell 0 rfl
              | succ j => simp at hv
            have hrd : ∀ w4, Below wr.heap.size (wr.drewN d) w4 → Rd w4 wr.heap.size (if co = q then Ao else Ao.map (·.add q)) ((o.map strV).drop q) := fun w4 hb => (hT.drewN d).below hb
            have HP1 := Lib.hid hp1
            have m1 : q ≤ maxLen := by unfold maxLen; omega
            have m2 : q * 16 ≤ 140737488355328 := by omega
            have m3 : q + 1 ≤ maxLen := by unfold maxLen; omega
            have m4 : (q + 1) * 16 ≤ 140737488355328 := by omega
            have m5 : q + 1 + (K - q) ≤ maxLen := by unfold maxLen; omega
            have m6 : (q + 1 + (K - q)) * 16 ≤ 140737488355328 := by omega
            have HC0 := Lib.hid c0
            clear hT hp1 heq habw c0
            obtain hck | hck := Classical.em (co = q)
            all_goals first | simp only [if_pos hck] at hrd | simp only [if_neg hck] at hrd
            all_goals
              have HRD := Lib.hid hrd
              clear hrd
            all_goals
              go_wp2_with (first
                | (at_builtin; refine wpList_nil' rfl (.const (.slice none 0 0)) (.tmp 58) 33 rfl 9 j0 (.string ⟨#[]⟩) 16 Try.underlying33 hj hy0 hy1 hy2 rfl rfl wr.heap.size Ao q _ ((o.map strV).take q) rfl HL1.out HRT.out HL7.out m1 m2 ?_; intro A2 c2 w3 ho hg; obtain ⟨z0, a1, a2, a3⟩ := HP1.out w3 _ ho hg; have HA1 := Lib.hid a1; have HA2 := Lib.hid a2; have HA3 := Lib.hid a3; have a4 := a3.size; clear ho hg a1 a2 a3)
                | (at_builtin; refine wpList_app rfl (.tmp 60) (.tmp 66) 33 rfl wr.heap.size 9 j0 (.string ⟨#[]⟩) 16 Try.underlying33 hj hy0 hy1 hy2 rfl _ q _ rfl HA1.out _ _ 1 1 [strV nm] rfl rfl HA2.out (strs_one [nm]) m3 m4 a4 ?_; intro v3 w4 hA3 hB3; have hB4 := HA3.out.trans hB3; have b2 := hB4.size; have HA4 := Lib.hid hA3; have HB4 := Lib.hid hB4; clear hA3 hB3 hB4)
                | (at_builtin; refine wpList_app rfl (.tmp 68) (.tmp 71) 33 rfl wr.heap.size 9 j0 (.string ⟨#[]⟩) 16 Try.underlying33 hj hy0 hy1 hy2 rfl v3 (q + 1) _ rfl HA4.out wr.heap.size _ (K - q) _ ((o.map strV).drop q) rfl HL3.out (HRD.out w4 HB4.out) HL4.out m5 m6 b2 ?_; intro v4 w5 hA5 hB5; have HA5 := Lib.hid hA5; have HB5 := Lib.hid (HB4.out.trans hB5); clear hA5 hB5))
              go_roundw
            all_goals first
              | (case rel =>
                  obtain ⟨A9, c9, e1, e2, e3, e4, _⟩ := HA5.out
                  refine ⟨i + 1, A9, c9, by omega, by go_num, ?_, ?_, ?_, HBW.out.trans ((below_drewN (Below.refl _ _) d |>.trans HB5.out).mono HBW.out.size)⟩
                  · rw [HL8.out, HL9.out]; exact e1
                  · rw [HL8.out, HL9.out]; exact e2
                  · rw [HL8.out]; unfold RdS; rw [HL10.out]; exact e4)
              | (case measure => simp [intOf]; omega)
    · obtain rfl : i = N := by omega
      have HOF : Hid (o = names Op.bytesLess (t.map (·.1) ++ u.map (·.1))) := Lib.hid (by rw [← HOO.out, HMAP.out, List.take_of_length_le (by rw [List.length_map, HTN.out]; exact Nat.le_refl _)])
      have HBF : Hid (Below w.heap.size w wr) := Lib.hid (F2.out.trans (HBW.out.mono F2.out.size))
      go_wp2
      go_ret
      rw [← HOF.out]
      exact ⟨Ao, co, by rw [HK.out]; rfl, by rw [HK.out]; exact hco, HRO.out, HBF.out⟩

end Tr
end Go.Proofs.Ytjhjmfodpnipiaa
