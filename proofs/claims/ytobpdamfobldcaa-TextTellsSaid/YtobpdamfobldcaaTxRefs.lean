/-
  What the document's own Join and Split return (walks): the same plain functions as the program's.
-/
import Derived.Test.YtobpdamfobldcaaTxRef
namespace Go.Proofs.Ytobpdamfobldcaa
open Go.RowKit Go.Shelf
set_option linter.unusedVariables false
namespace Tx

set_option maxHeartbeats 1000000 in
theorem refJoin_yes (A : Option Addr) (cap n : Nat) (ls : List (List UInt8)) (w : World) (hn : ls.length = n) (hnm : n ≤ maxLen) (hR : RdS w w.heap.size A ls) (hlen : ∀ x ∈ ls, x.length ≤ maxLen) (ha : allMay ls = true) :
    Calls Try.prog 14 #[.slice A n cap] w (JoinPost w (joinL ls) 0) := by
  obtain ⟨i0, hi, hz0, hz1, hz2⟩ := info_parts info_byte
  have hparts := allMay_parts ha
  have hn200 : n ≤ 200 := by rw [← hn]; exact hparts.1
  have HP := Lib.hid hparts; clear hparts
  have HA := Lib.hid ha; clear ha
  have HN := Lib.hid hn; clear hn
  have HM := Lib.hid hnm; clear hnm
  have HL := Lib.hid hlen; clear hlen
  go_enter Try.func14, Try.ntmps14
  go_wp2_with fail
  refine (RefAll _ _ _ _ ls _ HN.out HM.out hR HL.out).mono ?_
  rintro e w' ⟨rfl, rfl⟩
  rw [HA.out]
  go_wp2
  go_loopw [5, 6] (fun v i wr => JoinRel w ls n v i wr) (fun _ i _ => n - (intOf i).toNat)
  case atStart => exact ⟨0, Nat.zero_le _, rfl, by simpa [joinL] using World.ownsRow_nil _ _ _ _, Below.refl _ _⟩
  case round =>
    obtain ⟨k, hk, rfl, hown, hB⟩ := hrel
    by_cases hlt : k < n
    · have hkl : k < ls.length := by rw [HN.out]; exact hlt
      have hRw : RdS wr w.heap.size A ls := hR.below hB
      obtain ⟨a, rfl, hcell⟩ := hRw.at' hkl
      have HJ : Hid ((joinL (ls.take k)).length ≤ 81 * k ∧ (ByteArray.mk ls[k].toArray).size ≤ 80) := Lib.hid ⟨by
          have := joinL_len (ls := ls.take k) (fun x hx => may_len (HP.out.2 x (List.mem_of_mem_take hx)))
          rw [List.length_take] at this; omega, by rw [size_strV]; exact may_len (HP.out.2 _ (List.getElem_mem hkl))⟩
      have hw := hB.size
      go_wp2_with (first
        | (at_builtin; refine Lib.wpList_append_own_string _ rfl _ _ 22 9 rfl w.heap.size 5 i0 Try.underlying22 Try.underlying9 hi hz0 hz1 hz2 _ _ _ rfl hown ⟨ls[k].toArray⟩ rfl (by have := HJ.out; unfold maxLen; omega) (by have := HJ.out; omega) hw ?_; intro v1 w1 hown1 hgrow1 _)
        | (at_builtin; refine wpList_append_own _ rfl _ _ 22 rfl w.heap.size 5 i0 (.int .u8 0) 1 1 Try.underlying22 hi hz0 hz1 hz2 rfl (by decide) _ _ _ rfl (hown1.alloc _) ⟨w1.heap.size, 0, none⟩ 1 1 [.int .u8 10] rfl rfl (cell_one_new _ _ _) (by simp [Value.oneCell']) (by have := HJ.out; unfold maxLen; omega) (by have := HJ.out; omega) (by have := hgrow1.size; simp; omega) ?_; intro v2 w2 hown2 hgrow2 _))
      obtain ⟨hn1, hn2⟩ := join_round hkl hB hown hown1 hgrow1 hown2 hgrow2
      exact ⟨⟨k + 1, by omega, by go_num, hn1, hn2⟩, by simp [intOf]; omega⟩
    · have HF := Lib.hid (join_end (by rw [HN.out]; omega) hown hB)
      go_wp2
      go_ret2
      exact HF.out

set_option maxHeartbeats 400000 in
theorem refJoin_no (A : Option Addr) (cap n : Nat) (ls : List (List UInt8)) (w : World) (hn : ls.length = n) (hnm : n ≤ maxLen) (hR : RdS w w.heap.size A ls) (hlen : ∀ x ∈ ls, x.length ≤ maxLen) (ha : allMay ls = false) :
    Calls Try.prog 14 #[.slice A n cap] w (JoinPost w [] 1) := by
  have HA := Lib.hid ha; clear ha
  have HN := Lib.hid hn; clear hn
  have HM := Lib.hid hnm; clear hnm
  have HL := Lib.hid hlen; clear hlen
  go_enter Try.func14, Try.ntmps14
  go_wp2_with fail
  refine (RefAll _ _ _ _ ls _ HN.out HM.out hR HL.out).mono ?_
  rintro e w' ⟨rfl, rfl⟩
  rw [HA.out]
  go_wp2
  go_ret2
  exact ⟨_, rfl, World.ownsRow_nil _ _ _ _, Below.refl _ _⟩

/-- What the document's Join answers. -/
theorem RefJoin (A : Option Addr) (cap n : Nat) (ls : List (List UInt8)) (w : World) (hn : ls.length = n) (hnm : n ≤ maxLen) (hR : RdS w w.heap.size A ls) (hlen : ∀ x ∈ ls, x.length ≤ maxLen) :
    Calls Try.prog 14 #[.slice A n cap] w (JoinPost w (joinB ls) (joinE ls)) := by
  unfold joinB joinE
  cases ha : allMay ls with
  | true => exact refJoin_yes A cap n ls w hn hnm hR hlen ha
  | false => exact refJoin_no A cap n ls w hn hnm hR hlen ha

/-- At the head of the document's second loop: the lines so far, and where the next one begins. -/
def RefRel (w : World) (bs : List UInt8) (n : Nat) (out fr i : Value) (wr : World) : Prop :=
  ∃ (k f : Nat) (L : List (List UInt8)), f ≤ k ∧ k ≤ n ∧ i = .int .i64 k ∧ fr = .int .i64 f ∧ cut bs = L ++ cutL ((bs.take k).drop f) (bs.drop k) ∧ (∀ x ∈ L, may x = true) ∧ L.length ≤ 200 ∧
    wr.ownsRow w.heap.size 9 1 out L.length (L.map strV) ∧ Below w.heap.size w wr

theorem drop_cons {bs : List UInt8} {k : Nat} (h : k < bs.length) : bs.drop k = bs[k] :: bs.drop (k + 1) := List.drop_eq_getElem_cons h
theorem cut_other {bs : List UInt8} {k f : Nat} {L : List (List UInt8)} (hf : f ≤ k) (h : k < bs.length) (hb : bs[k] ≠ 10) (e : cut bs = L ++ cutL ((bs.take k).drop f) (bs.drop k)) : cut bs = L ++ cutL ((bs.take (k + 1)).drop f) (bs.drop (k + 1)) := by
  rw [e, drop_cons h, cutL, if_neg hb, take_snoc' h, List.drop_append_of_le_length (by simp; omega)]
theorem cut_feed {bs : List UInt8} {k f : Nat} {L : List (List UInt8)} (h : k < bs.length) (hb : bs[k] = 10) (e : cut bs = L ++ cutL ((bs.take k).drop f) (bs.drop k)) : cut bs = (L ++ [(bs.take k).drop f]) ++ cutL ((bs.take (k + 1)).drop (k + 1)) (bs.drop (k + 1)) := by
  rw [e, drop_cons h, cutL, if_pos hb, List.drop_of_length_le (l := bs.take (k + 1)) (by simp; omega)]
  simp

theorem sub_rd {w : World} {B : Nat} {a : Addr} {bs : List UInt8} (h : RdB w B (some a) bs) (f k : Nat) : RdB w B (some (a.add f)) ((bs.take k).drop f) := by
  have h2 := (h.take k).drop (k := f) (cap := (List.take k (bs.map byteV)).length + f + 1) (by omega)
  rw [if_neg (by omega)] at h2
  unfold RdB
  rw [List.map_drop, List.map_take]
  exact h2

theorem count_snoc {bs : List UInt8} {k : Nat} (h : k < bs.length) : (bs.take (k + 1)).count 10 = (bs.take k).count 10 + if bs[k] = 10 then 1 else 0 := by
  rw [take_snoc' h, List.count_append]
  by_cases hb : bs[k] = 10
  · rw [if_pos hb, hb]; simp
  · rw [if_neg hb, List.count_eq_zero_of_not_mem (a := 10) (l := [bs[k]]) (by simpa using fun e => hb e.symm)]

theorem refS_end {w wr : World} {bs : List UInt8} {n k f : Nat} {L : List (List UInt8)} {v : Value} (hk : bs.length ≤ k) (hcut : cut bs = L ++ cutL ((bs.take k).drop f) (bs.drop k))
    (hown : wr.ownsRow w.heap.size 9 1 v L.length (L.map strV)) (hB : Below w.heap.size w wr) (hall : ∀ x ∈ L, may x = true) :
    (cut bs).all may = true ∧ ∃ v', Ending.returned (.tuple #[v, .int .i64 0]) = .returned (.tuple #[v', .int .i64 0]) ∧ wr.ownsRow w.heap.size 9 1 v' (cut bs).length ((cut bs).map strV) ∧ Below w.heap.size w wr := by
  have e : cut bs = L := by rw [hcut, List.drop_of_length_le hk]; simp [cutL]
  rw [e]
  exact ⟨all_of hall, v, rfl, hown, hB⟩

/-- How the document's Split ends: as Split's, but of nil and empty nothing is said. -/
def RefEnd (w : World) (ls : List (List UInt8)) (er : Int) (e : Ending) (w' : World) : Prop :=
  ∃ v, e = .returned (.tuple #[v, .int .i64 er]) ∧ w'.ownsRow w.heap.size 9 1 v ls.length (ls.map strV) ∧ Below w.heap.size w w'
theorem refEnd_nil {w w' : World} (er : Int) (h : Below w.heap.size w w') : RefEnd w [] er (.returned (.tuple #[.slice none 0 0, .int .i64 er])) w' := ⟨_, rfl, World.ownsRow_nil _ _ _ _, h⟩

set_option maxRecDepth 100000 in
set_option maxHeartbeats 2000000 in
theorem refSplit1 (a : Addr) (cap n : Nat) (bs : List UInt8) (w : World) (hn : bs.length = n) (h0 : 0 < n) (h3 : n ≤ 3000) (hcap : n ≤ cap) (hR : RdB w w.heap.size (some a) bs) :
    Calls Try.prog 11 #[.slice (some a) n cap] w (RefEnd w (splitL bs) (splitE bs)) := by
  obtain ⟨j0, hj, hy0, hy1, hy2⟩ := info_parts info_str
  have HN := Lib.hid hn; clear hn
  have hcells : ∀ wr, Below w.heap.size w wr → ∀ k (hk : k < bs.length), wr.cell? (a.add k) = some (.int .u8 bs[k].toNat) := by
    intro wr hb k hk
    obtain ⟨a', e, _, hc⟩ := (hR.below hb).at_ (k := k) (by simpa using hk)
    injection e with e; subst e
    rw [hc]; simp [byteV]
  have HC := Lib.hid hcells; clear hcells
  go_enter Try.func11, Try.ntmps11
  go_wp2
  go_loop [4, 5] (fun fd i => ∃ k : Nat, k ≤ n ∧ i = .int .i64 k ∧ fd = .int .i64 ((bs.take k).count 10)) (fun _ i => n - (intOf i).toNat)
  case atStart => exact ⟨0, Nat.zero_le _, rfl, by simp⟩
  case round =>
    obtain ⟨k, hk, rfl, rfl⟩ := hrel
    have hck : (bs.take k).count 10 ≤ k := Nat.le_trans List.count_le_length (by simp; omega)
    by_cases hlt : k < n
    · have hkl : k < bs.length := by rw [HN.out]; exact hlt
      have HT := Lib.hid (count_snoc hkl)
      have hcell := HC.out w (Below.refl _ _) k hkl
      generalize hck' : (bs.take k).count 10 = ck at *
      have HCK := Lib.hid hck'; clear hck'
      by_cases hb : bs[k] = 10
      · have HB := Lib.hid hb
        rw [hb] at hcell
        simp only [show ((10 : UInt8).toNat : Int) = 10 from rfl] at hcell
        clear hb
        go_wp2
        go_round
        case rel => exact ⟨k + 1, by omega, by go_num, by rw [HT.out, if_pos HB.out]; go_num⟩
        case measure => simp [intOf]; omega
      · have hbn : ((bs[k].toNat : Int) == 10) = false := by
          rw [beq_eq_false_iff_ne]; intro e; apply hb; apply UInt8.toNat_inj.1; simp; omega
        have HB := Lib.hid hb; clear hb
        go_wp2
        go_round
        case rel => exact ⟨k + 1, by omega, by go_num, by rw [HT.out, if_neg HB.out]; simp⟩
        case measure => simp [intOf]; omega
    · have HE : Hid ((bs.take k).count 10 = bs.count 10) := Lib.hid (by rw [List.take_of_length_le (by rw [HN.out]; omega)])
      rw [HE.out] at hck ⊢
      generalize hcb : bs.count 10 = cb at *
      have HCB := Lib.hid hcb; clear hcb
      clear HE
      by_cases h200 : 200 < cb
      · have HF : Hid (splitE bs = 8 ∧ splitL bs = []) := Lib.hid (by
          have e : splitE bs = 8 := by unfold splitE; rw [if_pos (.inr (by rw [HCB.out]; exact h200))]
          exact ⟨e, by unfold splitL; rw [e]; rfl⟩)
        go_wp2
        go_ret2
        rw [HF.out.1, HF.out.2]
        exact refEnd_nil 8 (Below.refl _ _)
      · have hkl : n - 1 < bs.length := by rw [HN.out]; omega
        have hcl := HC.out w (Below.refl _ _) (n - 1) hkl
        have hlast : bs.getLast? = some bs[n - 1] := by
          rw [getLast_eq (by rw [HN.out]; exact h0)]
          congr 1
          have := HN.out
          congr 1
          omega
        by_cases hb : bs[n - 1] = 10
        · have HF : Hid (splitE bs = if (cut bs).all may then 0 else 2) := Lib.hid (by
            unfold splitE
            rw [if_neg (by rw [HCB.out, HN.out]; omega), if_neg (by rintro ⟨_, h⟩; exact h (by rw [hlast, hb]))])
          rw [hb] at hcl
          simp only [show ((10 : UInt8).toNat : Int) = 10 from rfl] at hcl
          clear hb hlast
          go_wp2
          clear hcl
          go_loopw [6, 7, 8] (fun out fr i wr => RefRel w bs n out fr i wr) (fun _ _ i _ => n - (intOf i).toNat)
          case atStart => exact ⟨0, 0, [], Nat.le_refl _, Nat.zero_le _, rfl, rfl, by simp [cut], by simp, by simp, World.ownsRow_nil _ _ _ _, Below.refl _ _⟩
          case round =>
            obtain ⟨k2, f, L, hf, hk2, rfl, rfl, hcut, hall, hL, hown, hB⟩ := hrel
            have HCUT := Lib.hid hcut; clear hcut
            have HALL := Lib.hid hall; clear hall
            have hw := hB.size
            by_cases hlt2 : k2 < n
            · have hkl2 : k2 < bs.length := by rw [HN.out]; exact hlt2
              have hcell := HC.out wr hB k2 hkl2
              by_cases hb : bs[k2] = 10
              · have HFEED := Lib.hid (cut_feed hkl2 hb HCUT.out)
                rw [hb] at hcell
                simp only [show ((10 : UInt8).toNat : Int) = 10 from rfl] at hcell
                clear hb
                have hcf : ¬ cap = f := by omega
                have hacc := sub_rd (hR.below hB) f k2
                have hal : ((bs.take k2).drop f).length = k2 - f := by simp; have := HN.out; omega
                have hcv := run_conv (P := Try.prog) hacc 22 9 5 (cap - f) Try.underlying22 Try.underlying5 Try.underlying9
                rw [hal] at hcv
                clear hacc
                generalize hac : (bs.take k2).drop f = acc at *
                have HAL : Hid (acc.length ≤ maxLen) := Lib.hid (by rw [hal]; unfold maxLen; omega)
                clear hal hac
                cases hmx : may acc with
                | true =>
                  go_wp2_with fail
                  refine (RefMayV acc _ HAL.out).mono ?_
                  rintro e w' ⟨rfl, rfl⟩
                  have hL2 : L.length < 200 := by
                    have h1 := congrArg List.length HFEED.out
                    rw [cut_length, HCB.out] at h1
                    simp only [List.length_append, List.length_cons, List.length_nil] at h1
                    omega
                  go_wp2_with (at_builtin; refine wpList_append_own _ rfl _ _ 23 rfl w.heap.size 9 j0 (.string ⟨#[]⟩) 1 16 Try.underlying23 hj hy0 hy1 hy2 rfl (by decide) _ _ _ rfl (hown.alloc _) ⟨wr.heap.size, 0, none⟩ 1 1 [strV acc] rfl rfl (cell_one_new _ _ _) (by simp [Value.oneCell']) (by unfold maxLen; omega) (by omega) (by simp; omega) ?_; intro v' w1 hown' hgrow _)
                  have hB1 : Below w.heap.size w w1 := (hB.alloc hw _).grown hgrow (by simp; omega) (own_ge hown)
                  refine ⟨⟨k2 + 1, k2 + 1, L ++ [acc], Nat.le_refl _, by omega, by go_num, by go_num, HFEED.out, ?_, by simp; omega, by simpa using hown', hB1⟩, by simp [intOf]; omega⟩
                  intro y hy
                  rcases List.mem_append.1 hy with h | h
                  · exact HALL.out y h
                  · simp at h; rw [h]; exact hmx
                | false =>
                  have HX : Hid ((cut bs).all may = false) := Lib.hid (not_all_of (x := acc) (by rw [HFEED.out]; simp) hmx)
                  have HF2 : Hid (splitE bs = 2 ∧ splitL bs = []) := Lib.hid (by
                    have e : splitE bs = 2 := by rw [HF.out, HX.out]; rfl
                    exact ⟨e, by unfold splitL; rw [e]; rfl⟩)
                  go_wp2_with fail
                  refine (RefMayV acc _ HAL.out).mono ?_
                  rintro e w' ⟨rfl, rfl⟩
                  go_wp2
                  go_ret2
                  rw [HF2.out.1, HF2.out.2]
                  exact refEnd_nil 2 hB
              · have HO := Lib.hid (cut_other hf hkl2 hb HCUT.out)
                have hbn : ((bs[k2].toNat : Int) != 10) = true := by
                  rw [bne_iff_ne]; intro e; apply hb; apply UInt8.toNat_inj.1; simp; omega
                clear hb
                go_wp2
                exact ⟨⟨k2 + 1, f, L, by omega, by omega, by go_num, rfl, HO.out, HALL.out, hL, hown, hB⟩, by simp [intOf]; omega⟩
            · have HE := Lib.hid (refS_end (n := n) (by rw [HN.out]; omega) HCUT.out hown hB HALL.out)
              have HF2 : Hid (splitE bs = 0 ∧ splitL bs = cut bs) := Lib.hid (by
                have e : splitE bs = 0 := by rw [HF.out, HE.out.1]; rfl
                exact ⟨e, by unfold splitL; rw [if_pos e]⟩)
              go_wp2
              go_ret2
              rw [HF2.out.1, HF2.out.2]
              exact HE.out.2
        · have hbn : ((bs[n - 1].toNat : Int) != 10) = true := by
            rw [bne_iff_ne]; intro e; apply hb; apply UInt8.toNat_inj.1; simp; omega
          have HF : Hid (splitE bs = 2 ∧ splitL bs = []) := Lib.hid (by
            have e : splitE bs = 2 := by
              unfold splitE
              rw [if_neg (by rw [HCB.out, HN.out]; omega), if_pos ⟨by intro e; have := HN.out; rw [e] at this; simp at this; omega, by rw [hlast]; simpa using hb⟩]
            exact ⟨e, by unfold splitL; rw [e]; rfl⟩)
          clear hb hlast
          go_wp2
          go_ret2
          rw [HF.out.1, HF.out.2]
          exact refEnd_nil 2 (Below.refl _ _)

set_option maxRecDepth 100000 in
set_option maxHeartbeats 1000000 in
theorem refSplit0 (A : Option Addr) (cap n : Nat) (w : World) (h0 : ¬ 0 < n) :
    Calls Try.prog 11 #[.slice A n cap] w (RefEnd w [] 0) := by
  go_enter Try.func11, Try.ntmps11
  go_wp2
  go_loop [4, 5] (fun fd i => fd = .int .i64 0 ∧ i = .int .i64 0) (fun _ _ => 0)
  case atStart => exact ⟨rfl, rfl⟩
  case round =>
    obtain ⟨rfl, rfl⟩ := hrel
    go_wp2
    go_loop [6, 7, 8] (fun o f i => o = .slice none 0 0 ∧ f = .int .i64 0 ∧ i = .int .i64 0) (fun _ _ _ => 0)
    case atStart => exact ⟨rfl, rfl, rfl⟩
    case round =>
      obtain ⟨rfl, rfl, rfl⟩ := hrel
      go_wp2
      go_ret2
      exact refEnd_nil 0 (Below.refl _ _)

/-- What the document's Split answers, of at most 3000 bytes. -/
theorem RefSplit (A : Option Addr) (cap n : Nat) (bs : List UInt8) (w : World) (hn : bs.length = n) (h3 : n ≤ 3000) (hcap : n ≤ cap) (hR : RdB w w.heap.size A bs) :
    Calls Try.prog 11 #[.slice A n cap] w (RefEnd w (splitL bs) (splitE bs)) := by
  by_cases h0 : 0 < n
  · obtain ⟨a, rfl, _, _⟩ := hR.at_ (k := 0) (by simp; omega)
    exact refSplit1 a cap n bs w hn h0 h3 hcap hR
  · have hb : bs = [] := List.eq_nil_of_length_eq_zero (by omega)
    subst hb
    exact refSplit0 A cap n w h0

end Tx
end Go.Proofs.Ytobpdamfobldcaa
