/-
  Words and contracts, joined: CdRefWords CdRefOne CdRefGet.
-/
import Derived.Test.YtjhjmfodpnipiaaGreatDoorCdRefBytes
import Derived.Test.YtjhjmfodpnipiaaGreatDoorCdRead0
import Derived.Test.YtjhjmfodpnipiaaGreatDoorCdGot
import Derived.Test.YtjhjmfodpnipiaaGreatDoorFlRef
import Derived.Stop.LaidErr
import Derived.Deep.Cut
import Derived.Test.YtjhjmfodpnipiaaGreatDoorCdRefPut
set_option maxRecDepth 100000
namespace Go.Proofs.YtjhjmfodpnipiaaGreatDoor
open Go.RowKit Go.Shelf
set_option linter.unusedVariables false
set_option linter.unusedSimpArgs false
namespace Cd
open Tx Df Sq Hk Tr Pr

/-- Lines in a row of one's own. -/
def OwnL (w : World) (base : Nat) (v : Value) (ls : List (List UInt8)) : Prop := w.ownsRow base 9 1 v ls.length (ls.map strV)
theorem ownL_nil (w : World) (base : Nat) : OwnL w base (.slice none 0 0) [] := World.ownsRow_nil _ _ _ _
section
variable {w : World} {base : Nat} {v : Value} {ls : List (List UInt8)}
/-- A line behind lines: the block that holds it is made ahead. -/
theorem wpList_line {ops : Array Oper} {rest : List Oper} {o : Oper} {a : Act} {Q : Exit → Act → World → Prop} (hgd : o.guard = none) (s x : Operand) (ho : o.op = .call { callee := .builtin .append, args := #[s, x], argTypes := #[30, 30] })
    (u : List UInt8) (t : ByteArray) (ht : t = ⟨u.toArray⟩) (hs : a.eval s = v) (hown : OwnL w base v ls) (hx : a.eval x = .slice (some ⟨w.heap.size, 0, none⟩) 1 1) (hlen : ls.length ≤ 10000000) (hbase : base ≤ w.heap.size)
    (h : ∀ v' w', OwnL w' base v' (ls ++ [u]) → Below base w w' → base ≤ w'.heap.size → wpList Tryz.prog ops Q rest (a.put o.dst v') w') : wpList Tryz.prog ops Q (o :: rest) a (w.alloc (.cells #[.string t] 9)) := by
  subst ht
  obtain ⟨j0, hj, hy0, hy1, hy2⟩ := info_parts info_str
  refine wpList_append_own _ hgd s x 30 ho base 9 j0 (.string ⟨#[]⟩) 1 16 Tryz.underlying30 hj hy0 hy1 hy2 rfl (by decide) v ls.length (ls.map strV) hs (World.ownsRow.alloc (show World.ownsRow w _ _ _ _ _ _ from hown) _) ⟨w.heap.size, 0, none⟩ 1 1 [strV u] hx rfl (cell_one_new _ _ _) (by simp [Value.oneCell']) (by unfold maxLen; omega) (by omega) (by simp; omega) ?_
  intro v' w' hown' hg _
  refine h v' w' ?_ (((Below.refl base w).alloc hbase _).grown hg (by simp; omega) (own_ge hown)) (by have := hg.size; simp at this; omega)
  unfold OwnL
  rw [List.length_append, List.map_append]
  exact hown'
end
theorem ext_cut (s : List UInt8) (f k : Nat) (hfk : f ≤ k) (hk : k ≤ s.length) : (ByteArray.mk s.toArray).extract f k = ByteArray.mk ((s.take k).drop f).toArray := by
  apply ByteArray.ext
  simp [ByteArray.data_extract, List.extract_toArray, List.extract_eq_take_drop, List.drop_take]
theorem words_len (s : List UInt8) (k f : Nat) (l : List (List UInt8)) (h : Cut s k f l) : l.length ≤ k + 1 := by
  have h1 := words_length (s.take k)
  rw [h.2.2, List.length_append, List.length_singleton, List.length_take] at h1
  omega

/-- At the head of words' loop. -/
def WdRel (w : World) (s : List UInt8) (n : Nat) (v f i : Value) (W : World) : Prop :=
  ∃ (k g : Nat) (l : List (List UInt8)), k ≤ n + 1 ∧ i = .int .i64 (k : Int) ∧ f = .int .i64 (g : Int) ∧ OwnL W w.heap.size v l ∧ Below w.heap.size w W ∧ w.heap.size ≤ W.heap.size ∧ (k ≤ n → Cut s k g l) ∧ (k = n + 1 → l = words s)

set_option maxHeartbeats 4000000 in
theorem refWords (s : List UInt8) (n : Nat) (hn : s.length = n) (hle : n ≤ 1000000) (w : World) :
    Calls Tryz.prog 32 #[strV s] w fun e w' => ∃ v, e = .returned v ∧ OwnL w' w.heap.size v (words s) ∧ Below w.heap.size w w' := by
  have HN := Lib.hid hn
  go_enter Tryz.func32, Tryz.ntmps32
  go_wp2
  go_loopw [3, 4, 5] (fun v f i W => WdRel w s n v f i W) (fun _ _ i _ => n + 1 - (intOf i).toNat)
  case atStart => exact ⟨0, 0, [], Nat.zero_le _, rfl, rfl, ownL_nil _ _, Below.refl _ _, Nat.le_refl _, fun _ => cut_start s, fun h => by omega⟩
  case round =>
    obtain ⟨k, g, l, hk, rfl, rfl, hown, hbw, hsz, hc, hw⟩ := hrel
    have HO := Lib.hid hown; have HBW := Lib.hid hbw; have HS := Lib.hid hsz; have HW := Lib.hid hw
    clear hown hbw hw
    by_cases hlt : k ≤ n
    · have hki : (k : Int) ≤ (n : Int) := by omega
      have hcut := hc hlt
      have HC := Lib.hid hcut
      have hgk : g ≤ k := hcut.1
      have hll := words_len s k g l hcut
      have es := ext_cut s g k hgk (by rw [HN.out]; exact hlt)
      have hgi : (g : Int) ≤ (k : Int) := by omega
      clear hc hcut hsz
      by_cases hkn : k = n
      · subst hkn
        go_wp2_with (at_builtin; refine wpList_line rfl (.tmp 22) (.tmp 27) rfl ((s.take k).drop g) _ rfl rfl HO.out rfl (by omega) HS.out ?_; intro v2 w2 ho hb hs; have HO2 := Lib.hid ho; have HB2 := Lib.hid hb; have HS2 := Lib.hid hs; clear ho hb hs)
        exact ⟨⟨k + 1, k + 1, _, by omega, by go_num, by go_num, HO2.out, HBW.out.trans (HB2.out.mono (Nat.le_refl _)), HS2.out, fun h => by omega, fun _ => by
          have h1 := HC.out.2.2
          rw [List.take_of_length_le (Nat.le_of_eq HN.out)] at h1 ⊢
          exact h1.symm⟩, by simp [intOf]⟩
      · have hkn' : k < n := by omega
        obtain ⟨c, hc⟩ : ∃ c, s[k]? = some c := ⟨_, List.getElem?_eq_getElem (by rw [HN.out]; exact hkn')⟩
        have hb : k < (ByteArray.mk s.toArray).size := by show k < s.toArray.size; rw [List.size_toArray, HN.out]; exact hkn'
        have hix : (ByteArray.mk s.toArray)[k] = c := by
          obtain ⟨h1, h2⟩ := List.getElem?_eq_some_iff.1 hc
          show s.toArray[k] = c
          rw [List.getElem_toArray]; exact h2
        have HCH := Lib.hid hc
        have ek : ((k : Int) == (n : Int)) = false := by rw [beq_eq_false_iff_ne]; omega
        clear hc
        by_cases h32 : c = 32
        · subst h32
          have e32 : ((32 : UInt8).toNat : Int) = 32 := rfl
          go_wp2_with (at_builtin; refine wpList_line rfl (.tmp 22) (.tmp 27) rfl ((s.take k).drop g) _ rfl rfl HO.out rfl (by omega) HS.out ?_; intro v2 w2 ho hb hs; have HO2 := Lib.hid ho; have HB2 := Lib.hid hb; have HS2 := Lib.hid hs; clear ho hb hs)
          exact ⟨⟨k + 1, k + 1, _, by omega, by go_num, by go_num, HO2.out, HBW.out.trans HB2.out, HS2.out, fun _ => cut_blank HC.out HCH.out, fun h => by omega⟩, by simp [intOf]; omega⟩
        · have hne : ((c.toNat : Int) == 32) = false := by
            rw [beq_eq_false_iff_ne]
            intro h
            have h1 : c.toNat = 32 := by omega
            exact h32 (UInt8.toNat_inj.1 h1)
          go_wp2
          exact ⟨⟨k + 1, g, l, by omega, by go_num, rfl, HO.out, HBW.out, HS.out, fun _ => cut_more HC.out HCH.out h32, fun h => by omega⟩, by simp [intOf]; omega⟩
    · have hkn : k = n + 1 := by omega
      have he := HW.out hkn
      subst he
      obtain ⟨A1, c1, e1, _, _⟩ := rd_of_own (show World.ownsRow wr _ _ _ _ _ _ from HO.out)
      subst e1
      have hki : ¬ (k : Int) ≤ (n : Int) := by omega
      go_wp2
      go_ret
      exact ⟨_, rfl, HO.out, HBW.out⟩

/-- How some ends. -/
def SomeEnd (w : World) (N : Nat) (o : Option (List (List UInt8) × List UInt8)) (e : Ending) (w' : World) : Prop :=
  match o with
  | some z => ∃ v A n c, e = .returned (.tuple #[v, .slice A n c, .bool true]) ∧ OwnL w' w.heap.size v z.1 ∧ z.2.length = n ∧ n ≤ c ∧ RdB w' N A z.2 ∧ Below w.heap.size w w'
  | none => e = .returned (.tuple #[.slice none 0 0, .slice none 0 0, .bool false]) ∧ Below w.heap.size w w'

/-- At the head of some's loop. -/
def SmRel (w : World) (N : Nat) (c : UInt8) (n : Nat) (o : Option (List (List UInt8) × List UInt8)) (b v i : Value) (W : World) : Prop :=
  ∃ (k : Nat) (acc : List (List UInt8)) (r : List UInt8) (A : Option Addr) (m d : Nat), k ≤ n ∧ i = .int .i64 (k : Int) ∧ b = .slice A m d ∧ r.length = m ∧ m ≤ d ∧ m ≤ 1000000 ∧ RdB W N A r ∧ acc.length = k ∧
    o = (some_ c (n - k) r).map (fun z => (acc ++ z.1, z.2)) ∧ OwnL W w.heap.size v acc ∧ Below w.heap.size w W ∧ w.heap.size ≤ W.heap.size

set_option maxHeartbeats 4000000 in
theorem refSome (A : Option Addr) (m d n N : Nat) (c : UInt8) (r : List UInt8) (w : World) (hn : n ≤ 1048576) (hm : r.length = m) (hmd : m ≤ d) (hle : m ≤ 1000000) (hR : RdB w N A r) (hNw : N ≤ w.heap.size) :
    Calls Tryz.prog 35 #[.slice A m d, .int .u8 (c.toNat : Int), .int .i64 (n : Int)] w (SomeEnd w N (some_ c n r)) := by
  obtain ⟨o, ho⟩ : ∃ o, some_ c n r = o := ⟨_, rfl⟩
  rw [ho]
  have HOO := Lib.hid ho.symm; have HR := Lib.hid hR; have HMM := Lib.hid hm
  clear ho hR hm
  go_enter Tryz.func35, Tryz.ntmps35
  go_wp2
  go_loopw [0, 9, 10] (fun b v i W => SmRel w N c n o b v i W) (fun _ _ i _ => n - (intOf i).toNat)
  case atStart => exact ⟨0, [], r, A, m, d, Nat.zero_le _, rfl, rfl, HMM.out, hmd, hle, HR.out, rfl, by rw [HOO.out, Nat.sub_zero]; cases some_ c n r <;> rfl, ownL_nil _ _, Below.refl _ _, Nat.le_refl _⟩
  case round =>
    obtain ⟨k, acc, rk, Ak, mk, dk, hk, rfl, rfl, hmk, hmd2, hle2, hrk, hacc, hox, hown, hbw, hsz⟩ := hrel
    have HOX := Lib.hid hox; have HW := Lib.hid hown; have HB := Lib.hid hbw; have HAC := Lib.hid hacc; have HS := Lib.hid hsz; have HMK := Lib.hid hmk
    have HLK := Lib.hid (refLine Ak mk dk N rk wr hmk hmd2 hle2 hrk (Nat.le_trans hNw hsz))
    have HRK := Lib.hid hrk; have HLE := Lib.hid hle2; have HMD := Lib.hid hmd2
    clear hox hown hbw hacc hsz hmk hrk hle2 hmd2
    by_cases hlt : k < n
    · have hki : (k : Int) < (n : Int) := by omega
      obtain ⟨j, hj2⟩ : ∃ j, n - k = j + 1 := ⟨n - k - 1, by omega⟩
      rw [hj2] at HOX
      have key := HLK.out
      cases hcut : cutLine rk with
      | none =>
        have ho : o = none := by rw [HOX.out, some_, hcut]; rfl
        subst ho
        rw [hcut] at key
        have KEY := Lib.hid key
        clear key hcut HLK
        go_wp2_with fail
        refine KEY.out.mono ?_
        rintro e w2 ⟨rfl, hb⟩
        have HB2 := Lib.hid (HB.out.trans (hb.mono HS.out))
        clear hb KEY
        go_wp2
        go_ret3
        exact ⟨rfl, HB2.out⟩
      | some z =>
        obtain ⟨s, r'⟩ := z
        rw [hcut] at key
        have HCU := Lib.hid hcut
        have hlen : s.length + 1 + r'.length = mk := by
          have h1 := congrArg List.length (cutLine_inv HCU.out).1
          rw [HMK.out, List.length_append, List.length_cons] at h1
          omega
        have KEY : Hid (Calls Tryz.prog 31 #[.slice Ak mk dk] wr fun e w' => ∃ A n c, e = .returned (.tuple #[strV s, .slice A n c, .bool true]) ∧ r'.length = n ∧ n ≤ c ∧ RdB w' N A r' ∧ Below wr.heap.size wr w') := Lib.hid key
        clear key hcut HLK
        cases s with
        | nil =>
          have ho : o = none := by rw [HOX.out, some_, HCU.out]; rfl
          subst ho
          go_wp2_with fail
          refine KEY.out.mono ?_
          rintro e w2 ⟨A2, n2, c2, rfl, hn2, hc2, hr2, hb⟩
          have HB2 := Lib.hid (HB.out.trans (hb.mono HS.out))
          clear hn2 hc2 hr2 hb KEY
          go_wp2
          go_ret3
          exact ⟨rfl, HB2.out⟩
        | cons d0 s' =>
          have HCU2 := HCU
          obtain ⟨u, hu⟩ : ∃ u, d0 :: s' = u := ⟨_, rfl⟩
          obtain ⟨nl, hnl⟩ : ∃ nl, u.length = nl := ⟨_, rfl⟩
          have hnl1 : 1 ≤ nl := by rw [← hnl, ← hu]; simp
          have hb0 : 0 < (ByteArray.mk u.toArray).size := by show 0 < u.toArray.size; rw [← hu]; simp
          have hix : (ByteArray.mk u.toArray)[0] = d0 := by
            have h0 : u.toArray[0]'hb0 = d0 := by rw [List.getElem_toArray]; subst hu; rfl
            exact h0
          have es : (ByteArray.mk u.toArray).extract 1 nl = ByteArray.mk s'.toArray := by
            rw [ext_cut _ 1 nl hnl1 (by rw [hnl]; exact Nat.le_refl _), ← hnl, List.take_length, ← hu]; rfl
          rw [hu] at KEY
          have HLEN := Lib.hid hlen
          clear hu hlen
          have hn0 : ((nl : Int) == 0) = false := by rw [beq_eq_false_iff_ne]; omega
          have hn1i : (1 : Int) ≤ (nl : Int) := by omega
          by_cases hd : d0 = c
          · have hdi : ((d0.toNat : Int) == (c.toNat : Int)) = true := by rw [hd]; simp
            have HDD := Lib.hid hd
            clear hd
            go_wp2_with fail
            refine KEY.out.mono ?_
            rintro e w2 ⟨A2, n2, c2, rfl, hn2, hc2, hr2, hb⟩
            have HN2 := Lib.hid hn2; have HC2 := Lib.hid hc2; have HR2 := Lib.hid hr2
            have HB2 := Lib.hid (HB.out.trans (hb.mono HS.out)); have HW2 : Hid (OwnL w2 w.heap.size u9 acc) := Lib.hid (own_gr HW.out (below_gr_row hb)); have HS2 := Lib.hid (Nat.le_trans HS.out hb.size)
            have hacl : acc.length ≤ 10000000 := by rw [HAC.out]; omega
            clear hn2 hc2 hr2 hb KEY
            go_wp2_with (at_builtin; refine wpList_line rfl (.tmp 38) (.tmp 41) rfl s' _ rfl rfl HW2.out rfl hacl HS2.out ?_; intro v3 w3 ho hb hs; have HO3 := Lib.hid ho; have HB3 := Lib.hid hb; have HS3 := Lib.hid hs; clear ho hb hs)
            refine ⟨⟨k + 1, acc ++ [s'], r', A2, n2, c2, by omega, by go_num, rfl, HN2.out, HC2.out, ?_, Rd.below HR2.out (HB3.out.mono hNw), by rw [List.length_append, HAC.out]; rfl, ?_, HO3.out, HB2.out.trans HB3.out, HS3.out⟩, by simp [intOf]; omega⟩
            · have h1 := HLEN.out; have h2 := HN2.out; have h3 := HLE.out; omega
            · have h1 := HOX.out
              rw [some_, HCU2.out] at h1
              simp only at h1
              rw [if_pos HDD.out] at h1
              rw [h1, show n - (k + 1) = j by omega]
              cases some_ c j r' <;> simp
          · have ho : o = none := by
              rw [HOX.out, some_, HCU2.out]
              simp only
              rw [if_neg hd]; rfl
            subst ho
            have hdi : ((d0.toNat : Int) == (c.toNat : Int)) = false := by
              rw [beq_eq_false_iff_ne]
              intro h
              exact hd (UInt8.toNat_inj.1 (by omega))
            go_wp2_with fail
            refine KEY.out.mono ?_
            rintro e w2 ⟨A2, n2, c2, rfl, hn2, hc2, hr2, hb⟩
            have HB2 := Lib.hid (HB.out.trans (hb.mono HS.out))
            clear hn2 hc2 hr2 hb KEY
            go_wp2
            go_ret3
            exact ⟨rfl, HB2.out⟩
    · have hki : ¬ (k : Int) < (n : Int) := by omega
      obtain ⟨A1, c1, e1, hc1, _⟩ := rd_of_own (show World.ownsRow wr _ _ _ _ _ _ from HW.out)
      subst e1
      have hkn : k = n := by omega
      have HKN := Lib.hid hkn
      clear hkn HLK
      go_wp2
      go_ret3
      have h1 := HOX.out
      have h2 : n - k = 0 := by have := HKN.out; omega
      rw [h2] at h1
      subst h1
      have h3 : (some_ c 0 rk).map (fun z => (acc ++ z.1, z.2)) = some (acc, rk) := by show some (acc ++ [], rk) = _; rw [List.append_nil]
      rw [h3]
      exact ⟨_, _, _, _, rfl, HW.out, HMK.out, HMD.out, HRK.out, HB.out⟩

end Cd
end Go.Proofs.YtjhjmfodpnipiaaGreatDoor

namespace Go.Proofs.YtjhjmfodpnipiaaGreatDoor
open Go.RowKit Go.Shelf
set_option linter.unusedVariables false
set_option linter.unusedSimpArgs false
namespace Cd
open Tx Df Sq Hk Tr Pr Fl

/-- Where lines of one's own lie. -/
theorem ownL_block {w : World} {base : Nat} {v : Value} {ls : List (List UInt8)} (h : OwnL w base v ls) (h0 : ls ≠ []) : ∃ g c, v = .slice (some ⟨g, 0, none⟩) ls.length c ∧ base ≤ g ∧ ls.length ≤ c ∧ ∀ (j : Nat) x, ls[j]? = some x → w.cell? ⟨g, j, none⟩ = some (strV x) := by
  obtain ⟨A, c, rfl, hc, hr⟩ := rd_of_own (show World.ownsRow w _ _ _ _ _ _ from h)
  rcases h.2 with ⟨_, h1⟩ | ⟨g, cap, cur, e, hbg, _, _, _⟩
  · exact absurd (List.eq_nil_of_length_eq_zero h1) h0
  · injection e with e1 e2 e3
    subst e1
    exact ⟨g, c, rfl, hbg, hc, fun j x hx => word_at hr hx⟩

theorem kindB_range (k : List UInt8) : -1 ≤ kindB k ∧ kindB k ≤ 4 := by
  unfold kindB
  repeat' (split; · decide)
  decide
theorem pv_kind (W : World) (k : Int) (nm : List UInt8) (hk : -1 ≤ k ∧ k ≤ 4) (hn : nm.length ≤ 200000) : PV W W.heap.size none 0 0 none 0 0 ⟨k, nm, [], noneH⟩ :=
  ⟨⟨rfl, rfl, Nat.le_refl _, Nat.le_refl _, by decide, by decide, .inl rfl, .inl rfl, ⟨show (-9223372036854775808 : Int) ≤ 0 by decide, show (0 : Int) ≤ 9223372036854775807 by decide⟩⟩, by constructor <;> (simp only; omega), by simp only; unfold maxLen; omega, (show ([] : List UInt8).length ≤ maxLen by decide), fun x hx => (by cases hx), fun x hx => (by cases hx)⟩
theorem pv_move (W : World) (nm tn : List UInt8) (hn : nm.length ≤ 200000) (ht : tn.length ≤ 200000) : PV W W.heap.size none 0 0 none 0 0 ⟨2, nm, tn, noneH⟩ := pv_light W 2 nm tn (by decide) hn ht

theorem dig_what (s : List UInt8) : (digB s = false ∧ dig s = none) ∨ ∃ n : Nat, digB s = true ∧ digN s = n ∧ dig s = some n ∧ n ≤ 1048576 := by
  unfold digB digN
  cases h : dig s with
  | none => exact .inl ⟨rfl, rfl⟩
  | some n => exact .inr ⟨n, rfl, rfl, rfl, (dig_iff.1 h).1⟩
theorem some_short {c : UInt8} {n : Nat} {b r : List UInt8} {l : List (List UInt8)} (h : some_ c n b = some (l, r)) : ∀ x ∈ l, x.length ≤ b.length := fun x hx => by
  have h1 := congrArg List.length (some_inv h).1
  rw [List.length_append] at h1
  have h2 : ∀ {ls : List (List UInt8)}, x ∈ ls → x.length ≤ (sg c ls).length := by
    intro ls
    induction ls with
    | nil => intro h; cases h
    | cons y ls ih =>
      intro h
      unfold sg
      rw [List.flatMap_cons, List.length_append]
      rcases List.mem_cons.1 h with rfl | h
      · simp; omega
      · have h3 := ih h
        unfold sg at h3
        omega
  have := h2 hx
  omega

/-- How one ends. -/
def OneEnd (w : World) (N : Nat) (o : Option (Ch × List UInt8)) (e : Ending) (w' : World) : Prop :=
  match o with
  | some z => ∃ A1 n1 c1 A2 n2 c2 B m d, e = .returned (.tuple #[prV z.1.k z.1.nm z.1.to z.1.h.pos A1 n1 c1 A2 n2 c2, .slice B m d, .bool true]) ∧ PV w' w'.heap.size A1 n1 c1 A2 n2 c2 z.1 ∧ Hi w.heap.size A1 ∧ Hi w.heap.size A2 ∧ z.2.length = m ∧ m ≤ d ∧ RdB w' N B z.2 ∧ Below w.heap.size w w'
  | none => e = .returned (.tuple #[.agg #[.int .i64 0, .string ⟨#[]⟩, .string ⟨#[]⟩, .int .i64 0, .slice none 0 0, .slice none 0 0], .slice none 0 0, .bool false]) ∧ Below w.heap.size w w'

/-- The two boxes that are made at the start. -/
structure OneBox (w : World) (T : Nat) (W : World) : Prop where
  bt : Blk W T 34 #[.int .i64 0, .string ⟨#[]⟩, .string ⟨#[]⟩, .int .i64 0, .slice none 0 0, .slice none 0 0]
  bz : Blk W (T + 1) 34 #[.int .i64 0, .string ⟨#[]⟩, .string ⟨#[]⟩, .int .i64 0, .slice none 0 0, .slice none 0 0]
  bw : Below T w W
  nw : w.heap.size = T
theorem OneBox.below {w W W' : World} {T : Nat} (h : OneBox w T W) (hb : Below W.heap.size W W') : OneBox w T W' :=
  ⟨h.bt.below hb h.bt.lt, h.bz.below hb h.bz.lt, h.bw.trans (hb.mono (Nat.le_of_lt h.bt.lt)), h.nw⟩

set_option maxRecDepth 100000 in
set_option maxHeartbeats 8000000 in
theorem refOne (A : Option Addr) (n c N : Nat) (bs : List UInt8) (w : World) (hn : bs.length = n) (hnc : n ≤ c) (hle : n ≤ 200000) (hR : RdB w N A bs) (hNw : N ≤ w.heap.size) :
    Calls Tryz.prog 16 #[.slice A n c] w (OneEnd w N (oneB bs)) := by
  obtain ⟨o, ho⟩ : ∃ o, oneB bs = o := ⟨_, rfl⟩
  rw [ho]
  have HO := Lib.hid ho.symm; have HN := Lib.hid hn; have HR := Lib.hid hR
  clear ho hn hR
  go_enter Tryz.func16, Tryz.ntmps16
  go_upto_region 2 with fail
  have bt := (Blk.new w 34 #[.int .i64 0, .string ⟨#[]⟩, .string ⟨#[]⟩, .int .i64 0, .slice none 0 0, .slice none 0 0]).alloc (.cells #[.int .i64 0, .string ⟨#[]⟩, .string ⟨#[]⟩, .int .i64 0, .slice none 0 0, .slice none 0 0] 34)
  have bz := Blk.new (w.alloc (.cells #[.int .i64 0, .string ⟨#[]⟩, .string ⟨#[]⟩, .int .i64 0, .slice none 0 0, .slice none 0 0] 34)) 34 #[.int .i64 0, .string ⟨#[]⟩, .string ⟨#[]⟩, .int .i64 0, .slice none 0 0, .slice none 0 0]
  have hb0 := two_box w (.cells #[.int .i64 0, .string ⟨#[]⟩, .string ⟨#[]⟩, .int .i64 0, .slice none 0 0, .slice none 0 0] 34) (.cells #[.int .i64 0, .string ⟨#[]⟩, .string ⟨#[]⟩, .int .i64 0, .slice none 0 0, .slice none 0 0] 34)
  simp only [World.size_alloc] at bz
  obtain ⟨T, hT⟩ : ∃ T, w.heap.size = T := ⟨_, rfl⟩
  have HBX := Lib.hid (show OneBox w w.heap.size _ from ⟨bt, bz, hb0, rfl⟩)
  generalize (w.alloc (.cells #[.int .i64 0, .string ⟨#[]⟩, .string ⟨#[]⟩, .int .i64 0, .slice none 0 0, .slice none 0 0] 34)).alloc (.cells #[.int .i64 0, .string ⟨#[]⟩, .string ⟨#[]⟩, .int .i64 0, .slice none 0 0, .slice none 0 0] 34) = W at HBX ⊢
  rw [hT] at HBX hNw ⊢
  have HT := Lib.hid hT
  have HRW : Hid (RdB W N A bs) := Lib.hid (Rd.below HR.out (HBX.out.bw.mono hNw))
  have hTW : T < W.heap.size := HBX.out.bt.lt
  have key := refLine A n c N bs W HN.out hnc (by omega) HRW.out (by omega)
  clear bt bz hb0 hT HR
  cases hcut : cutLine bs with
  | none =>
    have ho : o = none := by rw [HO.out, oneB, hcut]
    subst ho
    rw [hcut] at key
    have KEY := Lib.hid key
    clear key hcut HRW
    go_wp2_with fail
    refine KEY.out.mono ?_
    rintro e w1 ⟨rfl, hb⟩
    have HBX1 := Lib.hid (HBX.out.below hb)
    clear hb KEY HBX
    go_wp2_with fail
    refine (refWords [] 0 rfl (by decide) w1).mono ?_
    rintro e w2 ⟨v, rfl, ho, hb⟩
    have HBX2 := Lib.hid (HBX1.out.below hb)
    obtain ⟨Av, cv, rfl, _, _⟩ := rd_of_own (show World.ownsRow w2 _ _ _ _ _ _ from ho)
    clear ho hb HBX1
    have hbx := HBX2.out
    have bt := hbx.bt
    have bz := hbx.bz
    have z0 : w2.cell? ⟨T + 1, 0, none⟩ = some (.int .i64 0) := bz.cell 0 rfl
    have z1 : w2.cell? ⟨T + 1, 1, none⟩ = some (.string ⟨#[]⟩) := bz.cell 1 rfl
    have z2 : w2.cell? ⟨T + 1, 2, none⟩ = some (.string ⟨#[]⟩) := bz.cell 2 rfl
    have z3 : w2.cell? ⟨T + 1, 3, none⟩ = some (.int .i64 0) := bz.cell 3 rfl
    have z4 : w2.cell? ⟨T + 1, 4, none⟩ = some (.slice none 0 0) := bz.cell 4 rfl
    have z5 : w2.cell? ⟨T + 1, 5, none⟩ = some (.slice none 0 0) := bz.cell 5 rfl
    have t0 : w2.cell? ⟨T, 0, none⟩ = some (.int .i64 0) := bt.cell 0 rfl
    have t1 : w2.cell? ⟨T, 1, none⟩ = some (.string ⟨#[]⟩) := bt.cell 1 rfl
    have t2 : w2.cell? ⟨T, 2, none⟩ = some (.string ⟨#[]⟩) := bt.cell 2 rfl
    have t3 : w2.cell? ⟨T, 3, none⟩ = some (.int .i64 0) := bt.cell 3 rfl
    have t4 : w2.cell? ⟨T, 4, none⟩ = some (.slice none 0 0) := bt.cell 4 rfl
    have t5 : w2.cell? ⟨T, 5, none⟩ = some (.slice none 0 0) := bt.cell 5 rfl
    have f0 : w2.frozen? ⟨T, 0, none⟩ = false := bt.frozen 0
    have f1 : w2.frozen? ⟨T, 1, none⟩ = false := bt.frozen 1
    have f2 : w2.frozen? ⟨T, 2, none⟩ = false := bt.frozen 2
    have f3 : w2.frozen? ⟨T, 3, none⟩ = false := bt.frozen 3
    have f4 : w2.frozen? ⟨T, 4, none⟩ = false := bt.frozen 4
    have f5 : w2.frozen? ⟨T, 5, none⟩ = false := bt.frozen 5
    have BT := Lib.hid bt
    have hneT : T + 1 ≠ T := by omega
    clear hbx bt bz
    go_wp2
    clear z0 z1 z2 z3 z4 z5 t0 t1 t2 t3 t4 t5 f0 f1 f2 f3 f4 f5
    have hg6 : w2.grownBy (World.setCell (World.setCell (World.setCell (World.setCell (World.setCell (World.setCell w2 ⟨T, 0, none⟩ (.int .i64 0)) ⟨T, 1, none⟩ (.string ⟨#[]⟩)) ⟨T, 2, none⟩ (.string ⟨#[]⟩)) ⟨T, 3, none⟩ (.int .i64 0)) ⟨T, 4, none⟩ (.slice none 0 0)) ⟨T, 5, none⟩ (.slice none 0 0)) (some T) := grownBy_set6 w2 T _ _ _ _ _ _
    have b6 := blk6 BT.out (.int .i64 0) (.string ⟨#[]⟩) (.string ⟨#[]⟩) (.int .i64 0) (.slice none 0 0) (.slice none 0 0)
    generalize World.setCell (World.setCell (World.setCell (World.setCell (World.setCell (World.setCell w2 ⟨T, 0, none⟩ (.int .i64 0)) ⟨T, 1, none⟩ (.string ⟨#[]⟩)) ⟨T, 2, none⟩ (.string ⟨#[]⟩)) ⟨T, 3, none⟩ (.int .i64 0)) ⟨T, 4, none⟩ (.slice none 0 0)) ⟨T, 5, none⟩ (.slice none 0 0) = Z6 at b6 hg6 ⊢
    have q0 : Z6.cell? ⟨T, 0, none⟩ = some (.int .i64 0) := b6.cell 0 rfl
    have q1 : Z6.cell? ⟨T, 1, none⟩ = some (.string ⟨#[]⟩) := b6.cell 1 rfl
    have q2 : Z6.cell? ⟨T, 2, none⟩ = some (.string ⟨#[]⟩) := b6.cell 2 rfl
    have q3 : Z6.cell? ⟨T, 3, none⟩ = some (.int .i64 0) := b6.cell 3 rfl
    have q4 : Z6.cell? ⟨T, 4, none⟩ = some (.slice none 0 0) := b6.cell 4 rfl
    have q5 : Z6.cell? ⟨T, 5, none⟩ = some (.slice none 0 0) := b6.cell 5 rfl
    try simp only [Exit.inBlock, Exit.then]
    refine bodyPost_ret (v := .tuple #[.agg #[.int .i64 0, .string ⟨#[]⟩, .string ⟨#[]⟩, .int .i64 0, .slice none 0 0, .slice none 0 0], .slice none 0 0, .bool false]) (by simp [results, Tryz.results16, go_sem, q0, q1, q2, q3, q4, q5]) rfl ?_
    exact ⟨rfl, by rw [HBX2.out.nw]; exact HBX2.out.bw.grown hg6 (Nat.le_of_lt BT.out.lt) (fun b e => by injection e with e; omega)⟩
  | some z =>
    obtain ⟨s, r'⟩ := z
    rw [hcut] at key
    have HCU := Lib.hid hcut
    have hsl : s.length ≤ 200000 := by
      have h1 := congrArg List.length (cutLine_inv hcut).1
      rw [HN.out, List.length_append, List.length_cons] at h1
      omega
    have KEY : Hid (Calls Tryz.prog 31 #[.slice A n c] W fun e w' => ∃ A n c, e = .returned (.tuple #[strV s, .slice A n c, .bool true]) ∧ r'.length = n ∧ n ≤ c ∧ RdB w' N A r' ∧ Below W.heap.size W w') := Lib.hid key
    clear key hcut HRW
    go_wp2_with fail
    refine KEY.out.mono ?_
    rintro e w1 ⟨A2, n2, c2, rfl, hn2, hc2, hr2, hb⟩
    have HBX1 := Lib.hid (HBX.out.below hb)
    have HN2 := Lib.hid hn2; have HC2 := Lib.hid hc2; have HR2 := Lib.hid hr2
    have HWW1 := Lib.hid hb.size
    clear hb KEY HBX hn2 hc2 hr2
    go_wp2_with fail
    refine (refWords s s.length rfl (by omega) w1).mono ?_
    rintro e w2 ⟨v, rfl, ho, hb⟩
    have HBX2 := Lib.hid (HBX1.out.below hb)
    have HR22 : Hid (RdB w2 N A2 r') := Lib.hid (Rd.below HR2.out (hb.mono (by have := HWW1.out; omega)))
    cases hw : words s with
    | nil => exact absurd hw (words_ne s)
    | cons k ws =>
      rw [hw] at ho
      have HWD := Lib.hid hw
      clear hw hb HBX1 HR2
      cases ws with
      | nil =>
        have ho2 : o = none := by rw [HO.out, oneB, HCU.out]; simp only; rw [HWD.out]
        subst ho2
        obtain ⟨Av, cv, rfl, _, _⟩ := rd_of_own (show World.ownsRow w2 _ _ _ _ _ _ from ho)
        clear ho
        have hbx := HBX2.out
        have bt := hbx.bt
        have bz := hbx.bz
        have z0 : w2.cell? ⟨T + 1, 0, none⟩ = some (.int .i64 0) := bz.cell 0 rfl
        have z1 : w2.cell? ⟨T + 1, 1, none⟩ = some (.string ⟨#[]⟩) := bz.cell 1 rfl
        have z2 : w2.cell? ⟨T + 1, 2, none⟩ = some (.string ⟨#[]⟩) := bz.cell 2 rfl
        have z3 : w2.cell? ⟨T + 1, 3, none⟩ = some (.int .i64 0) := bz.cell 3 rfl
        have z4 : w2.cell? ⟨T + 1, 4, none⟩ = some (.slice none 0 0) := bz.cell 4 rfl
        have z5 : w2.cell? ⟨T + 1, 5, none⟩ = some (.slice none 0 0) := bz.cell 5 rfl
        have t0 : w2.cell? ⟨T, 0, none⟩ = some (.int .i64 0) := bt.cell 0 rfl
        have t1 : w2.cell? ⟨T, 1, none⟩ = some (.string ⟨#[]⟩) := bt.cell 1 rfl
        have t2 : w2.cell? ⟨T, 2, none⟩ = some (.string ⟨#[]⟩) := bt.cell 2 rfl
        have t3 : w2.cell? ⟨T, 3, none⟩ = some (.int .i64 0) := bt.cell 3 rfl
        have t4 : w2.cell? ⟨T, 4, none⟩ = some (.slice none 0 0) := bt.cell 4 rfl
        have t5 : w2.cell? ⟨T, 5, none⟩ = some (.slice none 0 0) := bt.cell 5 rfl
        have f0 : w2.frozen? ⟨T, 0, none⟩ = false := bt.frozen 0
        have f1 : w2.frozen? ⟨T, 1, none⟩ = false := bt.frozen 1
        have f2 : w2.frozen? ⟨T, 2, none⟩ = false := bt.frozen 2
        have f3 : w2.frozen? ⟨T, 3, none⟩ = false := bt.frozen 3
        have f4 : w2.frozen? ⟨T, 4, none⟩ = false := bt.frozen 4
        have f5 : w2.frozen? ⟨T, 5, none⟩ = false := bt.frozen 5
        have BT := Lib.hid bt
        have hneT : T + 1 ≠ T := by omega
        clear hbx bt bz
        go_wp2
        clear z0 z1 z2 z3 z4 z5 t0 t1 t2 t3 t4 t5 f0 f1 f2 f3 f4 f5
        have hg6 : w2.grownBy (World.setCell (World.setCell (World.setCell (World.setCell (World.setCell (World.setCell w2 ⟨T, 0, none⟩ (.int .i64 0)) ⟨T, 1, none⟩ (.string ⟨#[]⟩)) ⟨T, 2, none⟩ (.string ⟨#[]⟩)) ⟨T, 3, none⟩ (.int .i64 0)) ⟨T, 4, none⟩ (.slice none 0 0)) ⟨T, 5, none⟩ (.slice none 0 0)) (some T) := grownBy_set6 w2 T _ _ _ _ _ _
        have b6 := blk6 BT.out (.int .i64 0) (.string ⟨#[]⟩) (.string ⟨#[]⟩) (.int .i64 0) (.slice none 0 0) (.slice none 0 0)
        generalize World.setCell (World.setCell (World.setCell (World.setCell (World.setCell (World.setCell w2 ⟨T, 0, none⟩ (.int .i64 0)) ⟨T, 1, none⟩ (.string ⟨#[]⟩)) ⟨T, 2, none⟩ (.string ⟨#[]⟩)) ⟨T, 3, none⟩ (.int .i64 0)) ⟨T, 4, none⟩ (.slice none 0 0)) ⟨T, 5, none⟩ (.slice none 0 0) = Z6 at b6 hg6 ⊢
        have q0 : Z6.cell? ⟨T, 0, none⟩ = some (.int .i64 0) := b6.cell 0 rfl
        have q1 : Z6.cell? ⟨T, 1, none⟩ = some (.string ⟨#[]⟩) := b6.cell 1 rfl
        have q2 : Z6.cell? ⟨T, 2, none⟩ = some (.string ⟨#[]⟩) := b6.cell 2 rfl
        have q3 : Z6.cell? ⟨T, 3, none⟩ = some (.int .i64 0) := b6.cell 3 rfl
        have q4 : Z6.cell? ⟨T, 4, none⟩ = some (.slice none 0 0) := b6.cell 4 rfl
        have q5 : Z6.cell? ⟨T, 5, none⟩ = some (.slice none 0 0) := b6.cell 5 rfl
        try simp only [Exit.inBlock, Exit.then]
        refine bodyPost_ret (v := .tuple #[.agg #[.int .i64 0, .string ⟨#[]⟩, .string ⟨#[]⟩, .int .i64 0, .slice none 0 0, .slice none 0 0], .slice none 0 0, .bool false]) (by simp [results, Tryz.results16, go_sem, q0, q1, q2, q3, q4, q5]) rfl ?_
        exact ⟨rfl, by rw [HBX2.out.nw]; exact HBX2.out.bw.grown hg6 (Nat.le_of_lt BT.out.lt) (fun b e => by injection e with e; omega)⟩
      | cons nm ws =>
        obtain ⟨g, cv, rfl, hwg, hcg, hcell⟩ := ownL_block ho (by simp)
        obtain ⟨nw, hnw⟩ : ∃ nw, ws.length = nw := ⟨_, rfl⟩
        have HNW := Lib.hid hnw
        have e2 : (k :: nm :: ws).length = nw + 2 := by rw [← hnw]; rfl
        rw [e2]
        have hnwl : nw + 2 ≤ 200001 := by
          have h1 := words_length s
          rw [HWD.out, e2] at h1
          omega
        have HCEL := Lib.hid hcell
        have c0 : w2.cell? ⟨g, 0, none⟩ = some (strV k) := hcell 0 k rfl
        have c1 : w2.cell? ⟨g, 1, none⟩ = some (strV nm) := hcell 1 nm rfl
        have hlt2 : ¬ ((nw + 2 : Nat) : Int) < 2 := by omega
        have h0i : (0 : Int) < ((nw + 2 : Nat) : Int) := by omega
        have h1i : (1 : Int) < ((nw + 2 : Nat) : Int) := by omega
        obtain ⟨kv, hkv⟩ : ∃ kv, kindB k = kv := ⟨_, rfl⟩
        have HKV := Lib.hid hkv
        have HKI := Lib.hid (fun Y => refKind k Y)
        rw [hkv] at HKI
        have HS2 := Lib.hid ((HBX2.out.below (below_drewN (Below.refl w2.heap.size w2) 1)))
        have HKD : Hid (w2.drew.cell? ⟨g, 0, none⟩ = some (strV k) ∧ w2.drew.cell? ⟨g, 1, none⟩ = some (strV nm)) := Lib.hid ⟨c0, c1⟩
        have HKA : Hid (∀ o, (w2.alloc o).drew.cell? ⟨g, 0, none⟩ = some (strV k) ∧ (w2.alloc o).drew.cell? ⟨g, 1, none⟩ = some (strV nm)) := Lib.hid (fun o => ⟨cell?_alloc_old o c0, cell?_alloc_old o c1⟩)
        have HNML : Hid (nm.length ≤ 200000) := Lib.hid (by
          have h1 := word_len (s := s) (x := nm) (by rw [HWD.out]; simp)
          omega)
        have h0j : (0 : Int) < (nw : Int) + 2 := by omega
        have h1j : (1 : Int) < (nw : Int) + 2 := by omega
        clear ho hcell hkv hnw e2
        go_upto_region 6 with fail
        go_cut [10] from 23 (fun s10 wx => s10 = .pointer (some ⟨w2.heap.size, 0, none⟩) ∧ wx = (w2.alloc (.cells #[.int .i64 kv, strV nm, .string ⟨#[]⟩, .int .i64 0, .slice none 0 0, .slice none 0 0] 34)).drew)
        case first =>
          go_region_held3 (fun Y => Y.cell? ⟨g, 0, none⟩ = some (strV k) ∧ Y.cell? ⟨g, 1, none⟩ = some (strV nm))
            (first | (with_reducible exact HKD.out) | (with_reducible exact HKA.out _))
            (first | (go_at_call 33; (with_reducible refine (HKI.out _).mono ?_); rintro e u1 ⟨rfl, rfl⟩))
          all_goals (try go_wp2_with fail)
          all_goals go_meet
          all_goals (exact ⟨rfl, rfl⟩)
        case rest =>
          obtain ⟨rfl, rfl⟩ := hcut
          have hb3 : Below w2.heap.size w2 ((w2.alloc (.cells #[.int .i64 kv, strV nm, .string ⟨#[]⟩, .int .i64 0, .slice none 0 0, .slice none 0 0] 34)).drew) := below_drewN ((Below.refl _ _).alloc (Nat.le_refl _) _) 1
          have hbp := (Blk.new w2 34 #[.int .i64 kv, strV nm, .string ⟨#[]⟩, .int .i64 0, .slice none 0 0, .slice none 0 0]).drewN 1
          change Blk ((w2.alloc (.cells #[.int .i64 kv, strV nm, .string ⟨#[]⟩, .int .i64 0, .slice none 0 0, .slice none 0 0] 34)).drew) _ _ _ at hbp
          have hcel3 : ∀ (j : Nat) x, (k :: nm :: ws)[j]? = some x → ((w2.alloc (.cells #[.int .i64 kv, strV nm, .string ⟨#[]⟩, .int .i64 0, .slice none 0 0, .slice none 0 0] 34)).drew).cell? ⟨g, j, none⟩ = some (strV x) := fun j x hx => cell?_alloc_old _ (HCEL.out j x hx)
          generalize (w2.alloc (.cells #[.int .i64 kv, strV nm, .string ⟨#[]⟩, .int .i64 0, .slice none 0 0, .slice none 0 0] 34)).drew = W3 at hb3 hbp hcel3 ⊢
          obtain ⟨P, hP⟩ : ∃ P, w2.heap.size = P := ⟨_, rfl⟩
          have HBX3 := Lib.hid (HBX2.out.below hb3)
          have hT2 : T < w2.heap.size := HBX2.out.bt.lt
          have HR23 : Hid (RdB W3 N A2 r') := Lib.hid (Rd.below HR22.out (hb3.mono (by omega)))
          rw [hP] at hbp ⊢
          have HBP := Lib.hid hbp; have HCE := Lib.hid hcel3
          have hkr : -1 ≤ kv ∧ kv ≤ 4 := by rw [← HKV.out]; exact kindB_range k
          clear hb3 hbp hcel3 hT2 c0 c1
          have P0 : W3.cell? ⟨P, 0, none⟩ = some (.int .i64 kv) := HBP.out.cell 0 rfl
          by_cases h2 : kv = 2 ∧ nw = 1
          · obtain ⟨h2k, h2n⟩ := h2
            obtain ⟨tn, htn⟩ : ∃ tn, ws = [tn] := by
              have h1 := HNW.out
              rw [h2n] at h1
              match ws, h1 with
              | [t], _ => exact ⟨t, rfl⟩
            subst htn
            have hom : o = some (⟨2, nm, tn, noneH⟩, r') := by
              rw [HO.out, oneB, HCU.out]
              simp only
              rw [HWD.out]
              simp only
              rw [if_pos ⟨by rw [HKV.out]; exact h2k, rfl⟩]; rfl
            subst hom
            subst h2k
            subst h2n
            have HTNL : Hid (tn.length ≤ 200000) := Lib.hid (by
              have h1 := word_len (s := s) (x := tn) (by rw [HWD.out]; simp)
              omega)
            have C2 : W3.cell? ⟨g, 2, none⟩ = some (strV tn) := HCE.out 2 tn rfl
            have P2 : W3.cell? ⟨P, 2, none⟩ = some (.string ⟨#[]⟩) := HBP.out.cell 2 rfl
            have F2 : W3.frozen? ⟨P, 2, none⟩ = false := HBP.out.frozen 2
            go_upto_region 9 with fail
            have hg2 := grownBy_set W3 P 2 (strV tn)
            have hTP : T + 1 < P := by rw [← hP]; exact HBX2.out.bz.lt
            have hPW : P < W3.heap.size := HBP.out.lt
            have hTW3 : T ≤ W3.heap.size := Nat.le_of_lt HBX3.out.bt.lt
            have HBP4 := Lib.hid (HBP.out.set 2 (strV tn))
            have HBX4 : Hid (OneBox w T (W3.setCell ⟨P, 2, none⟩ (strV tn))) := Lib.hid ⟨HBX3.out.bt.gr hg2 (fun e => by injection e with e; omega), HBX3.out.bz.gr hg2 (fun e => by injection e with e; omega), HBX3.out.bw.grown hg2 hTW3 (fun b e => by injection e with e; omega), HBX3.out.nw⟩
            have HR24 : Hid (RdB (W3.setCell ⟨P, 2, none⟩ (strV tn)) N A2 r') := Lib.hid (Rd.below HR23.out ((Below.refl N W3).grown hg2 (by omega) (fun b e => by injection e with e; omega)))
            replace HBP4 : Hid (Blk (W3.setCell ⟨P, 2, none⟩ (strV tn)) P 34 #[.int .i64 2, strV nm, strV tn, .int .i64 0, .slice none 0 0, .slice none 0 0]) := HBP4
            generalize W3.setCell ⟨P, 2, none⟩ (strV tn) = W4 at HBP4 HBX4 HR24 ⊢
            clear P0 C2 P2 F2 hg2 hTP hPW hTW3
            have hbx := HBX4.out
            have bt := hbx.bt
            have bp := HBP4.out
            have p0 : W4.cell? ⟨P, 0, none⟩ = some (.int .i64 2) := bp.cell 0 rfl
            have p1 : W4.cell? ⟨P, 1, none⟩ = some (strV nm) := bp.cell 1 rfl
            have p2 : W4.cell? ⟨P, 2, none⟩ = some (strV tn) := bp.cell 2 rfl
            have p3 : W4.cell? ⟨P, 3, none⟩ = some (.int .i64 0) := bp.cell 3 rfl
            have p4 : W4.cell? ⟨P, 4, none⟩ = some (.slice none 0 0) := bp.cell 4 rfl
            have p5 : W4.cell? ⟨P, 5, none⟩ = some (.slice none 0 0) := bp.cell 5 rfl
            have t0 : W4.cell? ⟨T, 0, none⟩ = some (.int .i64 0) := bt.cell 0 rfl
            have t1 : W4.cell? ⟨T, 1, none⟩ = some (.string ⟨#[]⟩) := bt.cell 1 rfl
            have t2 : W4.cell? ⟨T, 2, none⟩ = some (.string ⟨#[]⟩) := bt.cell 2 rfl
            have t3 : W4.cell? ⟨T, 3, none⟩ = some (.int .i64 0) := bt.cell 3 rfl
            have t4 : W4.cell? ⟨T, 4, none⟩ = some (.slice none 0 0) := bt.cell 4 rfl
            have t5 : W4.cell? ⟨T, 5, none⟩ = some (.slice none 0 0) := bt.cell 5 rfl
            have f0 : W4.frozen? ⟨T, 0, none⟩ = false := bt.frozen 0
            have f1 : W4.frozen? ⟨T, 1, none⟩ = false := bt.frozen 1
            have f2 : W4.frozen? ⟨T, 2, none⟩ = false := bt.frozen 2
            have f3 : W4.frozen? ⟨T, 3, none⟩ = false := bt.frozen 3
            have f4 : W4.frozen? ⟨T, 4, none⟩ = false := bt.frozen 4
            have f5 : W4.frozen? ⟨T, 5, none⟩ = false := bt.frozen 5
            have BT := Lib.hid bt
            clear hbx bt bp
            go_wp2
            clear p0 p1 p2 p3 p4 p5 t0 t1 t2 t3 t4 t5 f0 f1 f2 f3 f4 f5
            have hg6 : W4.grownBy (World.setCell (World.setCell (World.setCell (World.setCell (World.setCell (World.setCell W4 ⟨T, 0, none⟩ (.int .i64 2)) ⟨T, 1, none⟩ (strV nm)) ⟨T, 2, none⟩ (strV tn)) ⟨T, 3, none⟩ (.int .i64 0)) ⟨T, 4, none⟩ (.slice none 0 0)) ⟨T, 5, none⟩ (.slice none 0 0)) (some T) := grownBy_set6 W4 T _ _ _ _ _ _
            have b6 := blk6 BT.out (.int .i64 2) (strV nm) (strV tn) (.int .i64 0) (.slice none 0 0) (.slice none 0 0)
            generalize World.setCell (World.setCell (World.setCell (World.setCell (World.setCell (World.setCell W4 ⟨T, 0, none⟩ (.int .i64 2)) ⟨T, 1, none⟩ (strV nm)) ⟨T, 2, none⟩ (strV tn)) ⟨T, 3, none⟩ (.int .i64 0)) ⟨T, 4, none⟩ (.slice none 0 0)) ⟨T, 5, none⟩ (.slice none 0 0) = Z6 at b6 hg6 ⊢
            have q0 : Z6.cell? ⟨T, 0, none⟩ = some (.int .i64 2) := b6.cell 0 rfl
            have q1 : Z6.cell? ⟨T, 1, none⟩ = some (strV nm) := b6.cell 1 rfl
            have q2 : Z6.cell? ⟨T, 2, none⟩ = some (strV tn) := b6.cell 2 rfl
            have q3 : Z6.cell? ⟨T, 3, none⟩ = some (.int .i64 0) := b6.cell 3 rfl
            have q4 : Z6.cell? ⟨T, 4, none⟩ = some (.slice none 0 0) := b6.cell 4 rfl
            have q5 : Z6.cell? ⟨T, 5, none⟩ = some (.slice none 0 0) := b6.cell 5 rfl
            try simp only [Exit.inBlock, Exit.then]
            refine bodyPost_ret (v := .tuple #[.agg #[.int .i64 2, strV nm, strV tn, .int .i64 0, .slice none 0 0, .slice none 0 0], .slice A2 n2 c2, .bool true]) (by simp [results, Tryz.results16, go_sem, q0, q1, q2, q3, q4, q5]) rfl ?_
            have hTT : w.heap.size = T := HBX4.out.nw
            have hsT : T < W4.heap.size := BT.out.lt
            have hbe : Below w.heap.size w Z6 := by rw [hTT]; exact HBX4.out.bw.grown hg6 (Nat.le_of_lt hsT) (fun b e => by injection e with e; omega)
            have hrr : RdB Z6 N A2 r' := Rd.below HR24.out ((Below.refl N W4).grown hg6 (by omega) (fun b e => by injection e with e; omega))
            exact ⟨none, 0, 0, none, 0, 0, A2, n2, c2, rfl, pv_move Z6 nm tn (by have h1 := HNML.out; omega) (by have h1 := HTNL.out; omega), hi_none _, hi_none _, HN2.out, HC2.out, hrr, hbe⟩
          · by_cases h3 : 3 ≤ kv ∧ nw = 3
            · obtain ⟨h3k, h3n⟩ := h3
              obtain ⟨d2, d3, d4, hws⟩ : ∃ a b c, ws = [a, b, c] := by
                have h1 := HNW.out
                rw [h3n] at h1
                match ws, h1 with
                | [a, b, c], _ => exact ⟨a, b, c, rfl⟩
              subst hws
              subst h3n
              have hk2 : (kv == 2) = false := by rw [beq_eq_false_iff_ne]; omega
              have hkk3 : kv ≠ 2 := by omega
              have y2 : W3.cell? ⟨g, 2, none⟩ = some (strV d2) := HCE.out 2 d2 rfl
              have y3 : W3.cell? ⟨g, 3, none⟩ = some (strV d3) := HCE.out 3 d3 rfl
              have y4 : W3.cell? ⟨g, 4, none⟩ = some (strV d4) := HCE.out 4 d4 rfl
              have HLD2 : Hid (d2.length ≤ 200000) := Lib.hid (by have h1 := word_len (s := s) (x := d2) (by rw [HWD.out]; simp); omega)
              have HLD3 : Hid (d3.length ≤ 200000) := Lib.hid (by have h1 := word_len (s := s) (x := d3) (by rw [HWD.out]; simp); omega)
              have HLD4 : Hid (d4.length ≤ 200000) := Lib.hid (by have h1 := word_len (s := s) (x := d4) (by rw [HWD.out]; simp); omega)
              have HOM : Hid (o = match [d2, d3, d4].map dig with
                  | [some i, some x, some y] => if 200 < x ∨ 200 < y then none else
                    match some_ 45 x r' with
                    | some (l, r1) => match some_ 43 y r1 with
                      | some (m, r2) => some (⟨kv, nm, [], ⟨i, l, m⟩⟩, r2)
                      | none => none
                    | none => none
                  | _ => none) := Lib.hid (by
                rw [HO.out, oneB, HCU.out]
                simp only
                rw [HWD.out]
                simp only
                rw [if_neg (by rw [HKV.out]; exact fun e => hkk3 e.1), if_pos ⟨by rw [HKV.out]; exact h3k, rfl⟩, HKV.out]
                rfl)
              obtain ⟨i2, hi2⟩ : ∃ i, digN d2 = i := ⟨_, rfl⟩
              obtain ⟨i3, hi3⟩ : ∃ i, digN d3 = i := ⟨_, rfl⟩
              obtain ⟨i4, hi4⟩ : ∃ i, digN d4 = i := ⟨_, rfl⟩
              obtain ⟨b2, hb2'⟩ : ∃ b, digB d2 = b := ⟨_, rfl⟩
              obtain ⟨b3, hb3'⟩ : ∃ b, digB d3 = b := ⟨_, rfl⟩
              obtain ⟨b4, hb4'⟩ : ∃ b, digB d4 = b := ⟨_, rfl⟩
              have HPT : Hid (T + 1 < P) := Lib.hid (by rw [← hP]; exact HBX2.out.bz.lt)
              have hNT : N ≤ T := by have h1 := HT.out; omega
              clear h2 hkk3 HBX2
              have hq2 := refDigits d2 (by have h1 := HLD2.out; unfold maxLen; omega) W3
              rw [hi2, hb2'] at hq2
              go_wp2_with fail
              refine hq2.mono ?_
              rintro e w4 ⟨rfl, hb2⟩
              have HBXw4 := Lib.hid (HBX3.out.below hb2); have HBPw4 := Lib.hid (HBP.out.below hb2 HBP.out.lt); have HRw4 : Hid (RdB w4 N A2 r') := Lib.hid (Rd.below HR23.out (hb2.mono (by have h1 := HBX3.out.bt.lt; omega)))
              have y3 := cell_b hb2 y3 (World.block_lt_of_cell? _ _ y3)
              have y4 := cell_b hb2 y4 (World.block_lt_of_cell? _ _ y4)
              clear hb2 hq2 y2 HBX3 HBP HR23
              have hq3 := refDigits d3 (by have h1 := HLD3.out; unfold maxLen; omega) w4
              rw [hi3, hb3'] at hq3
              go_wp2_with fail
              refine hq3.mono ?_
              rintro e w5 ⟨rfl, hb3⟩
              have HBXw5 := Lib.hid (HBXw4.out.below hb3); have HBPw5 := Lib.hid (HBPw4.out.below hb3 HBPw4.out.lt); have HRw5 : Hid (RdB w5 N A2 r') := Lib.hid (Rd.below HRw4.out (hb3.mono (by have h1 := HBXw4.out.bt.lt; omega)))
              have y4 := cell_b hb3 y4 (World.block_lt_of_cell? _ _ y4)
              clear hb3 hq3 y3 HBXw4 HBPw4 HRw4
              have hq4 := refDigits d4 (by have h1 := HLD4.out; unfold maxLen; omega) w5
              rw [hi4, hb4'] at hq4
              go_wp2_with fail
              refine hq4.mono ?_
              rintro e w6 ⟨rfl, hb4⟩
              have HBXw6 := Lib.hid (HBXw5.out.below hb4); have HBPw6 := Lib.hid (HBPw5.out.below hb4 HBPw5.out.lt); have HRw6 : Hid (RdB w6 N A2 r') := Lib.hid (Rd.below HRw5.out (hb4.mono (by have h1 := HBXw5.out.bt.lt; omega)))

              clear hb4 hq4 y4 HBXw5 HBPw5 HRw5
              rcases dig_what d2 with ⟨e1, e2⟩ | ⟨m2, e1, e2, e3, e4⟩
              · have hoc : o = none := by rw [HOM.out]; simp only [List.map_cons, e2]
                subst hoc
                rw [hb2'] at e1
                subst e1
                clear hi2 hi3 hi4 hb2' hb3' hb4' HOM
                have hbx := HBXw6.out
                have bt := hbx.bt
                have bz := hbx.bz
                have z0 : w6.cell? ⟨T + 1, 0, none⟩ = some (.int .i64 0) := bz.cell 0 rfl
                have z1 : w6.cell? ⟨T + 1, 1, none⟩ = some (.string ⟨#[]⟩) := bz.cell 1 rfl
                have z2 : w6.cell? ⟨T + 1, 2, none⟩ = some (.string ⟨#[]⟩) := bz.cell 2 rfl
                have z3 : w6.cell? ⟨T + 1, 3, none⟩ = some (.int .i64 0) := bz.cell 3 rfl
                have z4 : w6.cell? ⟨T + 1, 4, none⟩ = some (.slice none 0 0) := bz.cell 4 rfl
                have z5 : w6.cell? ⟨T + 1, 5, none⟩ = some (.slice none 0 0) := bz.cell 5 rfl
                have t0 : w6.cell? ⟨T, 0, none⟩ = some (.int .i64 0) := bt.cell 0 rfl
                have t1 : w6.cell? ⟨T, 1, none⟩ = some (.string ⟨#[]⟩) := bt.cell 1 rfl
                have t2 : w6.cell? ⟨T, 2, none⟩ = some (.string ⟨#[]⟩) := bt.cell 2 rfl
                have t3 : w6.cell? ⟨T, 3, none⟩ = some (.int .i64 0) := bt.cell 3 rfl
                have t4 : w6.cell? ⟨T, 4, none⟩ = some (.slice none 0 0) := bt.cell 4 rfl
                have t5 : w6.cell? ⟨T, 5, none⟩ = some (.slice none 0 0) := bt.cell 5 rfl
                have f0 : w6.frozen? ⟨T, 0, none⟩ = false := bt.frozen 0
                have f1 : w6.frozen? ⟨T, 1, none⟩ = false := bt.frozen 1
                have f2 : w6.frozen? ⟨T, 2, none⟩ = false := bt.frozen 2
                have f3 : w6.frozen? ⟨T, 3, none⟩ = false := bt.frozen 3
                have f4 : w6.frozen? ⟨T, 4, none⟩ = false := bt.frozen 4
                have f5 : w6.frozen? ⟨T, 5, none⟩ = false := bt.frozen 5
                have BT := Lib.hid bt
                have hneT : T + 1 ≠ T := by omega
                clear hbx bt bz
                go_wp2
                clear z0 z1 z2 z3 z4 z5 t0 t1 t2 t3 t4 t5 f0 f1 f2 f3 f4 f5
                have hg6 : w6.grownBy (World.setCell (World.setCell (World.setCell (World.setCell (World.setCell (World.setCell w6 ⟨T, 0, none⟩ (.int .i64 0)) ⟨T, 1, none⟩ (.string ⟨#[]⟩)) ⟨T, 2, none⟩ (.string ⟨#[]⟩)) ⟨T, 3, none⟩ (.int .i64 0)) ⟨T, 4, none⟩ (.slice none 0 0)) ⟨T, 5, none⟩ (.slice none 0 0)) (some T) := grownBy_set6 w6 T _ _ _ _ _ _
                have b6 := blk6 BT.out (.int .i64 0) (.string ⟨#[]⟩) (.string ⟨#[]⟩) (.int .i64 0) (.slice none 0 0) (.slice none 0 0)
                generalize World.setCell (World.setCell (World.setCell (World.setCell (World.setCell (World.setCell w6 ⟨T, 0, none⟩ (.int .i64 0)) ⟨T, 1, none⟩ (.string ⟨#[]⟩)) ⟨T, 2, none⟩ (.string ⟨#[]⟩)) ⟨T, 3, none⟩ (.int .i64 0)) ⟨T, 4, none⟩ (.slice none 0 0)) ⟨T, 5, none⟩ (.slice none 0 0) = Z6 at b6 hg6 ⊢
                have q0 : Z6.cell? ⟨T, 0, none⟩ = some (.int .i64 0) := b6.cell 0 rfl
                have q1 : Z6.cell? ⟨T, 1, none⟩ = some (.string ⟨#[]⟩) := b6.cell 1 rfl
                have q2 : Z6.cell? ⟨T, 2, none⟩ = some (.string ⟨#[]⟩) := b6.cell 2 rfl
                have q3 : Z6.cell? ⟨T, 3, none⟩ = some (.int .i64 0) := b6.cell 3 rfl
                have q4 : Z6.cell? ⟨T, 4, none⟩ = some (.slice none 0 0) := b6.cell 4 rfl
                have q5 : Z6.cell? ⟨T, 5, none⟩ = some (.slice none 0 0) := b6.cell 5 rfl
                try simp only [Exit.inBlock, Exit.then]
                refine bodyPost_ret (v := .tuple #[.agg #[.int .i64 0, .string ⟨#[]⟩, .string ⟨#[]⟩, .int .i64 0, .slice none 0 0, .slice none 0 0], .slice none 0 0, .bool false]) (by simp [results, Tryz.results16, go_sem, q0, q1, q2, q3, q4, q5]) rfl ?_
                exact ⟨rfl, by rw [HBXw6.out.nw]; exact HBXw6.out.bw.grown hg6 (Nat.le_of_lt BT.out.lt) (fun b e => by injection e with e; omega)⟩
              rw [hb2'] at e1
              subst e1
              rcases dig_what d3 with ⟨f1, f2⟩ | ⟨m3, f1, f2, f3, f4⟩
              · have hoc : o = none := by rw [HOM.out]; simp only [List.map_cons, e3, f2]
                subst hoc
                rw [hb3'] at f1
                subst f1
                clear hi2 hi3 hi4 hb2' hb3' hb4' HOM
                have hbx := HBXw6.out
                have bt := hbx.bt
                have bz := hbx.bz
                have z0 : w6.cell? ⟨T + 1, 0, none⟩ = some (.int .i64 0) := bz.cell 0 rfl
                have z1 : w6.cell? ⟨T + 1, 1, none⟩ = some (.string ⟨#[]⟩) := bz.cell 1 rfl
                have z2 : w6.cell? ⟨T + 1, 2, none⟩ = some (.string ⟨#[]⟩) := bz.cell 2 rfl
                have z3 : w6.cell? ⟨T + 1, 3, none⟩ = some (.int .i64 0) := bz.cell 3 rfl
                have z4 : w6.cell? ⟨T + 1, 4, none⟩ = some (.slice none 0 0) := bz.cell 4 rfl
                have z5 : w6.cell? ⟨T + 1, 5, none⟩ = some (.slice none 0 0) := bz.cell 5 rfl
                have t0 : w6.cell? ⟨T, 0, none⟩ = some (.int .i64 0) := bt.cell 0 rfl
                have t1 : w6.cell? ⟨T, 1, none⟩ = some (.string ⟨#[]⟩) := bt.cell 1 rfl
                have t2 : w6.cell? ⟨T, 2, none⟩ = some (.string ⟨#[]⟩) := bt.cell 2 rfl
                have t3 : w6.cell? ⟨T, 3, none⟩ = some (.int .i64 0) := bt.cell 3 rfl
                have t4 : w6.cell? ⟨T, 4, none⟩ = some (.slice none 0 0) := bt.cell 4 rfl
                have t5 : w6.cell? ⟨T, 5, none⟩ = some (.slice none 0 0) := bt.cell 5 rfl
                have f0 : w6.frozen? ⟨T, 0, none⟩ = false := bt.frozen 0
                have f1 : w6.frozen? ⟨T, 1, none⟩ = false := bt.frozen 1
                have f2 : w6.frozen? ⟨T, 2, none⟩ = false := bt.frozen 2
                have f3 : w6.frozen? ⟨T, 3, none⟩ = false := bt.frozen 3
                have f4 : w6.frozen? ⟨T, 4, none⟩ = false := bt.frozen 4
                have f5 : w6.frozen? ⟨T, 5, none⟩ = false := bt.frozen 5
                have BT := Lib.hid bt
                have hneT : T + 1 ≠ T := by omega
                clear hbx bt bz
                go_wp2
                clear z0 z1 z2 z3 z4 z5 t0 t1 t2 t3 t4 t5 f0 f1 f2 f3 f4 f5
                have hg6 : w6.grownBy (World.setCell (World.setCell (World.setCell (World.setCell (World.setCell (World.setCell w6 ⟨T, 0, none⟩ (.int .i64 0)) ⟨T, 1, none⟩ (.string ⟨#[]⟩)) ⟨T, 2, none⟩ (.string ⟨#[]⟩)) ⟨T, 3, none⟩ (.int .i64 0)) ⟨T, 4, none⟩ (.slice none 0 0)) ⟨T, 5, none⟩ (.slice none 0 0)) (some T) := grownBy_set6 w6 T _ _ _ _ _ _
                have b6 := blk6 BT.out (.int .i64 0) (.string ⟨#[]⟩) (.string ⟨#[]⟩) (.int .i64 0) (.slice none 0 0) (.slice none 0 0)
                generalize World.setCell (World.setCell (World.setCell (World.setCell (World.setCell (World.setCell w6 ⟨T, 0, none⟩ (.int .i64 0)) ⟨T, 1, none⟩ (.string ⟨#[]⟩)) ⟨T, 2, none⟩ (.string ⟨#[]⟩)) ⟨T, 3, none⟩ (.int .i64 0)) ⟨T, 4, none⟩ (.slice none 0 0)) ⟨T, 5, none⟩ (.slice none 0 0) = Z6 at b6 hg6 ⊢
                have q0 : Z6.cell? ⟨T, 0, none⟩ = some (.int .i64 0) := b6.cell 0 rfl
                have q1 : Z6.cell? ⟨T, 1, none⟩ = some (.string ⟨#[]⟩) := b6.cell 1 rfl
                have q2 : Z6.cell? ⟨T, 2, none⟩ = some (.string ⟨#[]⟩) := b6.cell 2 rfl
                have q3 : Z6.cell? ⟨T, 3, none⟩ = some (.int .i64 0) := b6.cell 3 rfl
                have q4 : Z6.cell? ⟨T, 4, none⟩ = some (.slice none 0 0) := b6.cell 4 rfl
                have q5 : Z6.cell? ⟨T, 5, none⟩ = some (.slice none 0 0) := b6.cell 5 rfl
                try simp only [Exit.inBlock, Exit.then]
                refine bodyPost_ret (v := .tuple #[.agg #[.int .i64 0, .string ⟨#[]⟩, .string ⟨#[]⟩, .int .i64 0, .slice none 0 0, .slice none 0 0], .slice none 0 0, .bool false]) (by simp [results, Tryz.results16, go_sem, q0, q1, q2, q3, q4, q5]) rfl ?_
                exact ⟨rfl, by rw [HBXw6.out.nw]; exact HBXw6.out.bw.grown hg6 (Nat.le_of_lt BT.out.lt) (fun b e => by injection e with e; omega)⟩
              rw [hb3'] at f1
              subst f1
              rcases dig_what d4 with ⟨j1, j2⟩ | ⟨m4, j1, j2, j3, j4⟩
              · have hoc : o = none := by rw [HOM.out]; simp only [List.map_cons, List.map_nil, e3, f3, j2]
                subst hoc
                rw [hb4'] at j1
                subst j1
                clear hi2 hi3 hi4 hb2' hb3' hb4' HOM
                have hbx := HBXw6.out
                have bt := hbx.bt
                have bz := hbx.bz
                have z0 : w6.cell? ⟨T + 1, 0, none⟩ = some (.int .i64 0) := bz.cell 0 rfl
                have z1 : w6.cell? ⟨T + 1, 1, none⟩ = some (.string ⟨#[]⟩) := bz.cell 1 rfl
                have z2 : w6.cell? ⟨T + 1, 2, none⟩ = some (.string ⟨#[]⟩) := bz.cell 2 rfl
                have z3 : w6.cell? ⟨T + 1, 3, none⟩ = some (.int .i64 0) := bz.cell 3 rfl
                have z4 : w6.cell? ⟨T + 1, 4, none⟩ = some (.slice none 0 0) := bz.cell 4 rfl
                have z5 : w6.cell? ⟨T + 1, 5, none⟩ = some (.slice none 0 0) := bz.cell 5 rfl
                have t0 : w6.cell? ⟨T, 0, none⟩ = some (.int .i64 0) := bt.cell 0 rfl
                have t1 : w6.cell? ⟨T, 1, none⟩ = some (.string ⟨#[]⟩) := bt.cell 1 rfl
                have t2 : w6.cell? ⟨T, 2, none⟩ = some (.string ⟨#[]⟩) := bt.cell 2 rfl
                have t3 : w6.cell? ⟨T, 3, none⟩ = some (.int .i64 0) := bt.cell 3 rfl
                have t4 : w6.cell? ⟨T, 4, none⟩ = some (.slice none 0 0) := bt.cell 4 rfl
                have t5 : w6.cell? ⟨T, 5, none⟩ = some (.slice none 0 0) := bt.cell 5 rfl
                have f0 : w6.frozen? ⟨T, 0, none⟩ = false := bt.frozen 0
                have f1 : w6.frozen? ⟨T, 1, none⟩ = false := bt.frozen 1
                have f2 : w6.frozen? ⟨T, 2, none⟩ = false := bt.frozen 2
                have f3 : w6.frozen? ⟨T, 3, none⟩ = false := bt.frozen 3
                have f4 : w6.frozen? ⟨T, 4, none⟩ = false := bt.frozen 4
                have f5 : w6.frozen? ⟨T, 5, none⟩ = false := bt.frozen 5
                have BT := Lib.hid bt
                have hneT : T + 1 ≠ T := by omega
                clear hbx bt bz
                go_wp2
                clear z0 z1 z2 z3 z4 z5 t0 t1 t2 t3 t4 t5 f0 f1 f2 f3 f4 f5
                have hg6 : w6.grownBy (World.setCell (World.setCell (World.setCell (World.setCell (World.setCell (World.setCell w6 ⟨T, 0, none⟩ (.int .i64 0)) ⟨T, 1, none⟩ (.string ⟨#[]⟩)) ⟨T, 2, none⟩ (.string ⟨#[]⟩)) ⟨T, 3, none⟩ (.int .i64 0)) ⟨T, 4, none⟩ (.slice none 0 0)) ⟨T, 5, none⟩ (.slice none 0 0)) (some T) := grownBy_set6 w6 T _ _ _ _ _ _
                have b6 := blk6 BT.out (.int .i64 0) (.string ⟨#[]⟩) (.string ⟨#[]⟩) (.int .i64 0) (.slice none 0 0) (.slice none 0 0)
                generalize World.setCell (World.setCell (World.setCell (World.setCell (World.setCell (World.setCell w6 ⟨T, 0, none⟩ (.int .i64 0)) ⟨T, 1, none⟩ (.string ⟨#[]⟩)) ⟨T, 2, none⟩ (.string ⟨#[]⟩)) ⟨T, 3, none⟩ (.int .i64 0)) ⟨T, 4, none⟩ (.slice none 0 0)) ⟨T, 5, none⟩ (.slice none 0 0) = Z6 at b6 hg6 ⊢
                have q0 : Z6.cell? ⟨T, 0, none⟩ = some (.int .i64 0) := b6.cell 0 rfl
                have q1 : Z6.cell? ⟨T, 1, none⟩ = some (.string ⟨#[]⟩) := b6.cell 1 rfl
                have q2 : Z6.cell? ⟨T, 2, none⟩ = some (.string ⟨#[]⟩) := b6.cell 2 rfl
                have q3 : Z6.cell? ⟨T, 3, none⟩ = some (.int .i64 0) := b6.cell 3 rfl
                have q4 : Z6.cell? ⟨T, 4, none⟩ = some (.slice none 0 0) := b6.cell 4 rfl
                have q5 : Z6.cell? ⟨T, 5, none⟩ = some (.slice none 0 0) := b6.cell 5 rfl
                try simp only [Exit.inBlock, Exit.then]
                refine bodyPost_ret (v := .tuple #[.agg #[.int .i64 0, .string ⟨#[]⟩, .string ⟨#[]⟩, .int .i64 0, .slice none 0 0, .slice none 0 0], .slice none 0 0, .bool false]) (by simp [results, Tryz.results16, go_sem, q0, q1, q2, q3, q4, q5]) rfl ?_
                exact ⟨rfl, by rw [HBXw6.out.nw]; exact HBXw6.out.bw.grown hg6 (Nat.le_of_lt BT.out.lt) (fun b e => by injection e with e; omega)⟩
              rw [hb4'] at j1
              subst j1
              rw [hi2] at e2
              rw [hi3] at f2
              rw [hi4] at j2
              subst i2
              subst i3
              subst i4
              replace HOM : Hid (o = if 200 < m3 ∨ 200 < m4 then none else
                    match some_ 45 m3 r' with
                    | some (l, r1) => match some_ 43 m4 r1 with
                      | some (m, r2) => some (⟨kv, nm, [], ⟨m2, l, m⟩⟩, r2)
                      | none => none
                    | none => none) := Lib.hid (by rw [HOM.out]; simp only [List.map_cons, List.map_nil, e3, f3, j3])
              clear e3 f3 j3
              try clear hi2
              try clear hi3
              try clear hi4
              try clear hb2'
              try clear hb3'
              try clear hb4'
              by_cases hx3 : 200 < m3
              · have hoc : o = none := by rw [HOM.out, if_pos (.inl hx3)]
                subst hoc
                clear HOM
                have hz1 : (200 : Int) < (m3 : Int) := by omega
                have hbx := HBXw6.out
                have bt := hbx.bt
                have bz := hbx.bz
                have z0 : w6.cell? ⟨T + 1, 0, none⟩ = some (.int .i64 0) := bz.cell 0 rfl
                have z1 : w6.cell? ⟨T + 1, 1, none⟩ = some (.string ⟨#[]⟩) := bz.cell 1 rfl
                have z2 : w6.cell? ⟨T + 1, 2, none⟩ = some (.string ⟨#[]⟩) := bz.cell 2 rfl
                have z3 : w6.cell? ⟨T + 1, 3, none⟩ = some (.int .i64 0) := bz.cell 3 rfl
                have z4 : w6.cell? ⟨T + 1, 4, none⟩ = some (.slice none 0 0) := bz.cell 4 rfl
                have z5 : w6.cell? ⟨T + 1, 5, none⟩ = some (.slice none 0 0) := bz.cell 5 rfl
                have t0 : w6.cell? ⟨T, 0, none⟩ = some (.int .i64 0) := bt.cell 0 rfl
                have t1 : w6.cell? ⟨T, 1, none⟩ = some (.string ⟨#[]⟩) := bt.cell 1 rfl
                have t2 : w6.cell? ⟨T, 2, none⟩ = some (.string ⟨#[]⟩) := bt.cell 2 rfl
                have t3 : w6.cell? ⟨T, 3, none⟩ = some (.int .i64 0) := bt.cell 3 rfl
                have t4 : w6.cell? ⟨T, 4, none⟩ = some (.slice none 0 0) := bt.cell 4 rfl
                have t5 : w6.cell? ⟨T, 5, none⟩ = some (.slice none 0 0) := bt.cell 5 rfl
                have f0 : w6.frozen? ⟨T, 0, none⟩ = false := bt.frozen 0
                have f1 : w6.frozen? ⟨T, 1, none⟩ = false := bt.frozen 1
                have f2 : w6.frozen? ⟨T, 2, none⟩ = false := bt.frozen 2
                have f3 : w6.frozen? ⟨T, 3, none⟩ = false := bt.frozen 3
                have f4 : w6.frozen? ⟨T, 4, none⟩ = false := bt.frozen 4
                have f5 : w6.frozen? ⟨T, 5, none⟩ = false := bt.frozen 5
                have BT := Lib.hid bt
                have hneT : T + 1 ≠ T := by omega
                clear hbx bt bz
                go_wp2
                clear z0 z1 z2 z3 z4 z5 t0 t1 t2 t3 t4 t5 f0 f1 f2 f3 f4 f5
                have hg6 : w6.grownBy (World.setCell (World.setCell (World.setCell (World.setCell (World.setCell (World.setCell w6 ⟨T, 0, none⟩ (.int .i64 0)) ⟨T, 1, none⟩ (.string ⟨#[]⟩)) ⟨T, 2, none⟩ (.string ⟨#[]⟩)) ⟨T, 3, none⟩ (.int .i64 0)) ⟨T, 4, none⟩ (.slice none 0 0)) ⟨T, 5, none⟩ (.slice none 0 0)) (some T) := grownBy_set6 w6 T _ _ _ _ _ _
                have b6 := blk6 BT.out (.int .i64 0) (.string ⟨#[]⟩) (.string ⟨#[]⟩) (.int .i64 0) (.slice none 0 0) (.slice none 0 0)
                generalize World.setCell (World.setCell (World.setCell (World.setCell (World.setCell (World.setCell w6 ⟨T, 0, none⟩ (.int .i64 0)) ⟨T, 1, none⟩ (.string ⟨#[]⟩)) ⟨T, 2, none⟩ (.string ⟨#[]⟩)) ⟨T, 3, none⟩ (.int .i64 0)) ⟨T, 4, none⟩ (.slice none 0 0)) ⟨T, 5, none⟩ (.slice none 0 0) = Z6 at b6 hg6 ⊢
                have q0 : Z6.cell? ⟨T, 0, none⟩ = some (.int .i64 0) := b6.cell 0 rfl
                have q1 : Z6.cell? ⟨T, 1, none⟩ = some (.string ⟨#[]⟩) := b6.cell 1 rfl
                have q2 : Z6.cell? ⟨T, 2, none⟩ = some (.string ⟨#[]⟩) := b6.cell 2 rfl
                have q3 : Z6.cell? ⟨T, 3, none⟩ = some (.int .i64 0) := b6.cell 3 rfl
                have q4 : Z6.cell? ⟨T, 4, none⟩ = some (.slice none 0 0) := b6.cell 4 rfl
                have q5 : Z6.cell? ⟨T, 5, none⟩ = some (.slice none 0 0) := b6.cell 5 rfl
                try simp only [Exit.inBlock, Exit.then]
                refine bodyPost_ret (v := .tuple #[.agg #[.int .i64 0, .string ⟨#[]⟩, .string ⟨#[]⟩, .int .i64 0, .slice none 0 0, .slice none 0 0], .slice none 0 0, .bool false]) (by simp [results, Tryz.results16, go_sem, q0, q1, q2, q3, q4, q5]) rfl ?_
                exact ⟨rfl, by rw [HBXw6.out.nw]; exact HBXw6.out.bw.grown hg6 (Nat.le_of_lt BT.out.lt) (fun b e => by injection e with e; omega)⟩
              by_cases hx4 : 200 < m4
              · have hoc : o = none := by rw [HOM.out, if_pos (.inr hx4)]
                subst hoc
                clear HOM
                have hz1 : ¬ (200 : Int) < (m3 : Int) := by omega
                have hz2 : (200 : Int) < (m4 : Int) := by omega
                have hbx := HBXw6.out
                have bt := hbx.bt
                have bz := hbx.bz
                have z0 : w6.cell? ⟨T + 1, 0, none⟩ = some (.int .i64 0) := bz.cell 0 rfl
                have z1 : w6.cell? ⟨T + 1, 1, none⟩ = some (.string ⟨#[]⟩) := bz.cell 1 rfl
                have z2 : w6.cell? ⟨T + 1, 2, none⟩ = some (.string ⟨#[]⟩) := bz.cell 2 rfl
                have z3 : w6.cell? ⟨T + 1, 3, none⟩ = some (.int .i64 0) := bz.cell 3 rfl
                have z4 : w6.cell? ⟨T + 1, 4, none⟩ = some (.slice none 0 0) := bz.cell 4 rfl
                have z5 : w6.cell? ⟨T + 1, 5, none⟩ = some (.slice none 0 0) := bz.cell 5 rfl
                have t0 : w6.cell? ⟨T, 0, none⟩ = some (.int .i64 0) := bt.cell 0 rfl
                have t1 : w6.cell? ⟨T, 1, none⟩ = some (.string ⟨#[]⟩) := bt.cell 1 rfl
                have t2 : w6.cell? ⟨T, 2, none⟩ = some (.string ⟨#[]⟩) := bt.cell 2 rfl
                have t3 : w6.cell? ⟨T, 3, none⟩ = some (.int .i64 0) := bt.cell 3 rfl
                have t4 : w6.cell? ⟨T, 4, none⟩ = some (.slice none 0 0) := bt.cell 4 rfl
                have t5 : w6.cell? ⟨T, 5, none⟩ = some (.slice none 0 0) := bt.cell 5 rfl
                have f0 : w6.frozen? ⟨T, 0, none⟩ = false := bt.frozen 0
                have f1 : w6.frozen? ⟨T, 1, none⟩ = false := bt.frozen 1
                have f2 : w6.frozen? ⟨T, 2, none⟩ = false := bt.frozen 2
                have f3 : w6.frozen? ⟨T, 3, none⟩ = false := bt.frozen 3
                have f4 : w6.frozen? ⟨T, 4, none⟩ = false := bt.frozen 4
                have f5 : w6.frozen? ⟨T, 5, none⟩ = false := bt.frozen 5
                have BT := Lib.hid bt
                have hneT : T + 1 ≠ T := by omega
                clear hbx bt bz
                go_wp2
                clear z0 z1 z2 z3 z4 z5 t0 t1 t2 t3 t4 t5 f0 f1 f2 f3 f4 f5
                have hg6 : w6.grownBy (World.setCell (World.setCell (World.setCell (World.setCell (World.setCell (World.setCell w6 ⟨T, 0, none⟩ (.int .i64 0)) ⟨T, 1, none⟩ (.string ⟨#[]⟩)) ⟨T, 2, none⟩ (.string ⟨#[]⟩)) ⟨T, 3, none⟩ (.int .i64 0)) ⟨T, 4, none⟩ (.slice none 0 0)) ⟨T, 5, none⟩ (.slice none 0 0)) (some T) := grownBy_set6 w6 T _ _ _ _ _ _
                have b6 := blk6 BT.out (.int .i64 0) (.string ⟨#[]⟩) (.string ⟨#[]⟩) (.int .i64 0) (.slice none 0 0) (.slice none 0 0)
                generalize World.setCell (World.setCell (World.setCell (World.setCell (World.setCell (World.setCell w6 ⟨T, 0, none⟩ (.int .i64 0)) ⟨T, 1, none⟩ (.string ⟨#[]⟩)) ⟨T, 2, none⟩ (.string ⟨#[]⟩)) ⟨T, 3, none⟩ (.int .i64 0)) ⟨T, 4, none⟩ (.slice none 0 0)) ⟨T, 5, none⟩ (.slice none 0 0) = Z6 at b6 hg6 ⊢
                have q0 : Z6.cell? ⟨T, 0, none⟩ = some (.int .i64 0) := b6.cell 0 rfl
                have q1 : Z6.cell? ⟨T, 1, none⟩ = some (.string ⟨#[]⟩) := b6.cell 1 rfl
                have q2 : Z6.cell? ⟨T, 2, none⟩ = some (.string ⟨#[]⟩) := b6.cell 2 rfl
                have q3 : Z6.cell? ⟨T, 3, none⟩ = some (.int .i64 0) := b6.cell 3 rfl
                have q4 : Z6.cell? ⟨T, 4, none⟩ = some (.slice none 0 0) := b6.cell 4 rfl
                have q5 : Z6.cell? ⟨T, 5, none⟩ = some (.slice none 0 0) := b6.cell 5 rfl
                try simp only [Exit.inBlock, Exit.then]
                refine bodyPost_ret (v := .tuple #[.agg #[.int .i64 0, .string ⟨#[]⟩, .string ⟨#[]⟩, .int .i64 0, .slice none 0 0, .slice none 0 0], .slice none 0 0, .bool false]) (by simp [results, Tryz.results16, go_sem, q0, q1, q2, q3, q4, q5]) rfl ?_
                exact ⟨rfl, by rw [HBXw6.out.nw]; exact HBXw6.out.bw.grown hg6 (Nat.le_of_lt BT.out.lt) (fun b e => by injection e with e; omega)⟩
              replace HOM : Hid (o = match some_ 45 m3 r' with
                    | some (l, r1) => match some_ 43 m4 r1 with
                      | some (m, r2) => some (⟨kv, nm, [], ⟨m2, l, m⟩⟩, r2)
                      | none => none
                    | none => none) := Lib.hid (by rw [HOM.out, if_neg (by omega)])
              have hz1 : ¬ (200 : Int) < (m3 : Int) := by omega
              have hz2 : ¬ (200 : Int) < (m4 : Int) := by omega
              have P3 : w6.cell? ⟨P, 3, none⟩ = some (.int .i64 0) := HBPw6.out.cell 3 rfl
              have F3 : w6.frozen? ⟨P, 3, none⟩ = false := HBPw6.out.frozen 3
              have HI4 : Hid (m2 ≤ 1048576) := Lib.hid e4
              have hx3' : m3 ≤ 200 := by omega
              have hx4' : m4 ≤ 200 := by omega
              clear e4 f4 j4
              go_upto_region 16 with fail
              have hg2 := grownBy_set w6 P 3 (.int .i64 (m2 : Int))
              have hTP : T + 1 < P := by have h1 := HPT.out; omega
              have hPW : P < w6.heap.size := HBPw6.out.lt
              have hTW6 : T ≤ w6.heap.size := Nat.le_of_lt HBXw6.out.bt.lt
              have HBP7 := Lib.hid (HBPw6.out.set 3 (.int .i64 (m2 : Int)))
              have HBX7 : Hid (OneBox w T (w6.setCell ⟨P, 3, none⟩ (.int .i64 (m2 : Int)))) := Lib.hid ⟨HBXw6.out.bt.gr hg2 (fun e => by injection e with e; omega), HBXw6.out.bz.gr hg2 (fun e => by injection e with e; omega), HBXw6.out.bw.grown hg2 hTW6 (fun b e => by injection e with e; omega), HBXw6.out.nw⟩
              have HR7 : Hid (RdB (w6.setCell ⟨P, 3, none⟩ (.int .i64 (m2 : Int))) N A2 r') := Lib.hid (Rd.below HRw6.out ((Below.refl N w6).grown hg2 (by omega) (fun b e => by injection e with e; omega)))
              replace HBP7 : Hid (Blk (w6.setCell ⟨P, 3, none⟩ (.int .i64 (m2 : Int))) P 34 #[.int .i64 kv, strV nm, .string ⟨#[]⟩, .int .i64 (m2 : Int), .slice none 0 0, .slice none 0 0]) := HBP7
              generalize w6.setCell ⟨P, 3, none⟩ (.int .i64 (m2 : Int)) = W7 at HBP7 HBX7 HR7 ⊢
              have HPW7 := Lib.hid HBP7.out.lt
              clear P3 F3 hg2 hTP hPW hTW6 HBPw6 HBXw6 HRw6
              have HRL : Hid (r'.length ≤ 200000) := Lib.hid (by
                have h1 := congrArg List.length (cutLine_inv HCU.out).1
                rw [HN.out, List.length_append, List.length_cons] at h1
                omega)
              obtain ⟨o1, ho1⟩ : ∃ o1, some_ 45 m3 r' = o1 := ⟨_, rfl⟩
              have hcs := refSome A2 n2 c2 m3 N 45 r' W7 (by omega) HN2.out HC2.out (by have h1 := HRL.out; have h2 := HN2.out; omega) HR7.out (by have h1 := HBX7.out.bt.lt; omega)
              rw [ho1] at hcs
              have hom := HOM.out
              rw [ho1] at hom
              have HOM2 := Lib.hid hom
              clear hom HOM
              cases o1 with
              | none =>
                have hoc : o = none := HOM2.out
                subst hoc
                go_wp2_with fail
                refine hcs.mono ?_
                rintro e w8 ⟨rfl, hb8⟩
                have HBX8 := Lib.hid (HBX7.out.below hb8)
                clear hb8 hcs HBX7 HR7
                obtain ⟨o9, ho9⟩ : ∃ o9, some_ 43 m4 ([] : List UInt8) = o9 := ⟨_, rfl⟩
                have hcs := refSome none 0 0 m4 N 43 [] w8 (by omega) rfl (Nat.le_refl _) (by decide) (.inl rfl) (by have h1 := HBX8.out.bt.lt; omega)
                rw [ho9] at hcs
                cases o9 with
                | none =>
                  go_wp2_with fail
                  refine hcs.mono ?_
                  rintro e w9 ⟨rfl, hb9⟩
                  have HBX9 := Lib.hid (HBX8.out.below hb9)
                  clear hb9 hcs HBX8
                  have hbx := HBX9.out
                  have bt := hbx.bt
                  have bz := hbx.bz
                  have z0 : w9.cell? ⟨T + 1, 0, none⟩ = some (.int .i64 0) := bz.cell 0 rfl
                  have z1 : w9.cell? ⟨T + 1, 1, none⟩ = some (.string ⟨#[]⟩) := bz.cell 1 rfl
                  have z2 : w9.cell? ⟨T + 1, 2, none⟩ = some (.string ⟨#[]⟩) := bz.cell 2 rfl
                  have z3 : w9.cell? ⟨T + 1, 3, none⟩ = some (.int .i64 0) := bz.cell 3 rfl
                  have z4 : w9.cell? ⟨T + 1, 4, none⟩ = some (.slice none 0 0) := bz.cell 4 rfl
                  have z5 : w9.cell? ⟨T + 1, 5, none⟩ = some (.slice none 0 0) := bz.cell 5 rfl
                  have t0 : w9.cell? ⟨T, 0, none⟩ = some (.int .i64 0) := bt.cell 0 rfl
                  have t1 : w9.cell? ⟨T, 1, none⟩ = some (.string ⟨#[]⟩) := bt.cell 1 rfl
                  have t2 : w9.cell? ⟨T, 2, none⟩ = some (.string ⟨#[]⟩) := bt.cell 2 rfl
                  have t3 : w9.cell? ⟨T, 3, none⟩ = some (.int .i64 0) := bt.cell 3 rfl
                  have t4 : w9.cell? ⟨T, 4, none⟩ = some (.slice none 0 0) := bt.cell 4 rfl
                  have t5 : w9.cell? ⟨T, 5, none⟩ = some (.slice none 0 0) := bt.cell 5 rfl
                  have f0 : w9.frozen? ⟨T, 0, none⟩ = false := bt.frozen 0
                  have f1 : w9.frozen? ⟨T, 1, none⟩ = false := bt.frozen 1
                  have f2 : w9.frozen? ⟨T, 2, none⟩ = false := bt.frozen 2
                  have f3 : w9.frozen? ⟨T, 3, none⟩ = false := bt.frozen 3
                  have f4 : w9.frozen? ⟨T, 4, none⟩ = false := bt.frozen 4
                  have f5 : w9.frozen? ⟨T, 5, none⟩ = false := bt.frozen 5
                  have BT := Lib.hid bt
                  have hneT : T + 1 ≠ T := by omega
                  clear hbx bt bz
                  go_wp2
                  clear z0 z1 z2 z3 z4 z5 t0 t1 t2 t3 t4 t5 f0 f1 f2 f3 f4 f5
                  have hg6 : w9.grownBy (World.setCell (World.setCell (World.setCell (World.setCell (World.setCell (World.setCell w9 ⟨T, 0, none⟩ (.int .i64 0)) ⟨T, 1, none⟩ (.string ⟨#[]⟩)) ⟨T, 2, none⟩ (.string ⟨#[]⟩)) ⟨T, 3, none⟩ (.int .i64 0)) ⟨T, 4, none⟩ (.slice none 0 0)) ⟨T, 5, none⟩ (.slice none 0 0)) (some T) := grownBy_set6 w9 T _ _ _ _ _ _
                  have b6 := blk6 BT.out (.int .i64 0) (.string ⟨#[]⟩) (.string ⟨#[]⟩) (.int .i64 0) (.slice none 0 0) (.slice none 0 0)
                  generalize World.setCell (World.setCell (World.setCell (World.setCell (World.setCell (World.setCell w9 ⟨T, 0, none⟩ (.int .i64 0)) ⟨T, 1, none⟩ (.string ⟨#[]⟩)) ⟨T, 2, none⟩ (.string ⟨#[]⟩)) ⟨T, 3, none⟩ (.int .i64 0)) ⟨T, 4, none⟩ (.slice none 0 0)) ⟨T, 5, none⟩ (.slice none 0 0) = Z6 at b6 hg6 ⊢
                  have q0 : Z6.cell? ⟨T, 0, none⟩ = some (.int .i64 0) := b6.cell 0 rfl
                  have q1 : Z6.cell? ⟨T, 1, none⟩ = some (.string ⟨#[]⟩) := b6.cell 1 rfl
                  have q2 : Z6.cell? ⟨T, 2, none⟩ = some (.string ⟨#[]⟩) := b6.cell 2 rfl
                  have q3 : Z6.cell? ⟨T, 3, none⟩ = some (.int .i64 0) := b6.cell 3 rfl
                  have q4 : Z6.cell? ⟨T, 4, none⟩ = some (.slice none 0 0) := b6.cell 4 rfl
                  have q5 : Z6.cell? ⟨T, 5, none⟩ = some (.slice none 0 0) := b6.cell 5 rfl
                  try simp only [Exit.inBlock, Exit.then]
                  refine bodyPost_ret (v := .tuple #[.agg #[.int .i64 0, .string ⟨#[]⟩, .string ⟨#[]⟩, .int .i64 0, .slice none 0 0, .slice none 0 0], .slice none 0 0, .bool false]) (by simp [results, Tryz.results16, go_sem, q0, q1, q2, q3, q4, q5]) rfl ?_
                  exact ⟨rfl, by rw [HBX9.out.nw]; exact HBX9.out.bw.grown hg6 (Nat.le_of_lt BT.out.lt) (fun b e => by injection e with e; omega)⟩
                | some z9 =>
                  go_wp2_with fail
                  refine hcs.mono ?_
                  rintro e w9 ⟨v9, A9, n9, c9, rfl, hov, _, _, _, hb9⟩
                  have HBX9 := Lib.hid (HBX8.out.below hb9)
                  obtain ⟨AV, cV, rfl, _, _⟩ := rd_of_own (show World.ownsRow w9 _ _ _ _ _ _ from hov)
                  clear hb9 hcs HBX8 hov
                  have hbx := HBX9.out
                  have bt := hbx.bt
                  have bz := hbx.bz
                  have z0 : w9.cell? ⟨T + 1, 0, none⟩ = some (.int .i64 0) := bz.cell 0 rfl
                  have z1 : w9.cell? ⟨T + 1, 1, none⟩ = some (.string ⟨#[]⟩) := bz.cell 1 rfl
                  have z2 : w9.cell? ⟨T + 1, 2, none⟩ = some (.string ⟨#[]⟩) := bz.cell 2 rfl
                  have z3 : w9.cell? ⟨T + 1, 3, none⟩ = some (.int .i64 0) := bz.cell 3 rfl
                  have z4 : w9.cell? ⟨T + 1, 4, none⟩ = some (.slice none 0 0) := bz.cell 4 rfl
                  have z5 : w9.cell? ⟨T + 1, 5, none⟩ = some (.slice none 0 0) := bz.cell 5 rfl
                  have t0 : w9.cell? ⟨T, 0, none⟩ = some (.int .i64 0) := bt.cell 0 rfl
                  have t1 : w9.cell? ⟨T, 1, none⟩ = some (.string ⟨#[]⟩) := bt.cell 1 rfl
                  have t2 : w9.cell? ⟨T, 2, none⟩ = some (.string ⟨#[]⟩) := bt.cell 2 rfl
                  have t3 : w9.cell? ⟨T, 3, none⟩ = some (.int .i64 0) := bt.cell 3 rfl
                  have t4 : w9.cell? ⟨T, 4, none⟩ = some (.slice none 0 0) := bt.cell 4 rfl
                  have t5 : w9.cell? ⟨T, 5, none⟩ = some (.slice none 0 0) := bt.cell 5 rfl
                  have f0 : w9.frozen? ⟨T, 0, none⟩ = false := bt.frozen 0
                  have f1 : w9.frozen? ⟨T, 1, none⟩ = false := bt.frozen 1
                  have f2 : w9.frozen? ⟨T, 2, none⟩ = false := bt.frozen 2
                  have f3 : w9.frozen? ⟨T, 3, none⟩ = false := bt.frozen 3
                  have f4 : w9.frozen? ⟨T, 4, none⟩ = false := bt.frozen 4
                  have f5 : w9.frozen? ⟨T, 5, none⟩ = false := bt.frozen 5
                  have BT := Lib.hid bt
                  have hneT : T + 1 ≠ T := by omega
                  clear hbx bt bz
                  go_wp2
                  clear z0 z1 z2 z3 z4 z5 t0 t1 t2 t3 t4 t5 f0 f1 f2 f3 f4 f5
                  have hg6 : w9.grownBy (World.setCell (World.setCell (World.setCell (World.setCell (World.setCell (World.setCell w9 ⟨T, 0, none⟩ (.int .i64 0)) ⟨T, 1, none⟩ (.string ⟨#[]⟩)) ⟨T, 2, none⟩ (.string ⟨#[]⟩)) ⟨T, 3, none⟩ (.int .i64 0)) ⟨T, 4, none⟩ (.slice none 0 0)) ⟨T, 5, none⟩ (.slice none 0 0)) (some T) := grownBy_set6 w9 T _ _ _ _ _ _
                  have b6 := blk6 BT.out (.int .i64 0) (.string ⟨#[]⟩) (.string ⟨#[]⟩) (.int .i64 0) (.slice none 0 0) (.slice none 0 0)
                  generalize World.setCell (World.setCell (World.setCell (World.setCell (World.setCell (World.setCell w9 ⟨T, 0, none⟩ (.int .i64 0)) ⟨T, 1, none⟩ (.string ⟨#[]⟩)) ⟨T, 2, none⟩ (.string ⟨#[]⟩)) ⟨T, 3, none⟩ (.int .i64 0)) ⟨T, 4, none⟩ (.slice none 0 0)) ⟨T, 5, none⟩ (.slice none 0 0) = Z6 at b6 hg6 ⊢
                  have q0 : Z6.cell? ⟨T, 0, none⟩ = some (.int .i64 0) := b6.cell 0 rfl
                  have q1 : Z6.cell? ⟨T, 1, none⟩ = some (.string ⟨#[]⟩) := b6.cell 1 rfl
                  have q2 : Z6.cell? ⟨T, 2, none⟩ = some (.string ⟨#[]⟩) := b6.cell 2 rfl
                  have q3 : Z6.cell? ⟨T, 3, none⟩ = some (.int .i64 0) := b6.cell 3 rfl
                  have q4 : Z6.cell? ⟨T, 4, none⟩ = some (.slice none 0 0) := b6.cell 4 rfl
                  have q5 : Z6.cell? ⟨T, 5, none⟩ = some (.slice none 0 0) := b6.cell 5 rfl
                  try simp only [Exit.inBlock, Exit.then]
                  refine bodyPost_ret (v := .tuple #[.agg #[.int .i64 0, .string ⟨#[]⟩, .string ⟨#[]⟩, .int .i64 0, .slice none 0 0, .slice none 0 0], .slice none 0 0, .bool false]) (by simp [results, Tryz.results16, go_sem, q0, q1, q2, q3, q4, q5]) rfl ?_
                  exact ⟨rfl, by rw [HBX9.out.nw]; exact HBX9.out.bw.grown hg6 (Nat.le_of_lt BT.out.lt) (fun b e => by injection e with e; omega)⟩
              | some z =>
                obtain ⟨l, r1⟩ := z
                go_wp2_with fail
                refine hcs.mono ?_
                rintro e w8 ⟨v8, A4, n4, c4, rfl, hov, hn4, hc4, hr4, hb8⟩
                have HBX8 := Lib.hid (HBX7.out.below hb8); have HBP8 := Lib.hid (HBP7.out.below hb8 HBP7.out.lt)
                obtain ⟨AL, cl, rfl, hcl, hrl⟩ := rd_of_own (show World.ownsRow w8 _ _ _ _ _ _ from hov)
                have HHL0 := Lib.hid (hi_own (show World.ownsRow w8 _ _ _ _ _ _ from hov))
                have HS7 := Lib.hid hb8.size
                obtain ⟨nl, hnl⟩ : ∃ nl, l.length = nl := ⟨_, rfl⟩
                have hln := (some_inv ho1).2
                have hll : nl ≤ 200 := by rw [← hnl, hln]; omega
                rw [hnl] at hcl ⊢
                have HNL := Lib.hid hnl; have HCL := Lib.hid hcl; have HRL8 := Lib.hid hrl; have HN4 := Lib.hid hn4; have HC4 := Lib.hid hc4; have HR4 := Lib.hid hr4
                have HR1L : Hid (r1.length ≤ 200000) := Lib.hid (by have h1 := some_len ho1; have h2 := HRL.out; omega)
                have HSL : Hid (∀ x ∈ l, x.length ≤ maxLen) := Lib.hid (fun x hx => by
                  have h1 := some_short ho1 x hx
                  have h2 := HRL.out
                  unfold maxLen; omega)
                clear hb8 hcs HBX7 HBP7 HR7 hov hnl hln hcl hrl hn4 hc4 hr4
                obtain ⟨o2, ho2⟩ : ∃ o2, some_ 43 m4 r1 = o2 := ⟨_, rfl⟩
                have hcs := refSome A4 n4 c4 m4 N 43 r1 w8 (by omega) HN4.out HC4.out (by have h1 := HR1L.out; have h2 : r1.length = n4 := HN4.out; omega) HR4.out (by have h1 := HBX8.out.bt.lt; omega)
                rw [ho2] at hcs
                have hom := HOM2.out
                try simp only at hom
                rw [ho2] at hom
                have HOM3 := Lib.hid hom
                clear hom HOM2
                cases o2 with
                | none =>
                  have hoc : o = none := HOM3.out
                  subst hoc
                  go_wp2_with fail
                  refine hcs.mono ?_
                  rintro e w9 ⟨rfl, hb9⟩
                  have HBX9 := Lib.hid (HBX8.out.below hb9)
                  clear hb9 hcs HBX8
                  have hbx := HBX9.out
                  have bt := hbx.bt
                  have bz := hbx.bz
                  have z0 : w9.cell? ⟨T + 1, 0, none⟩ = some (.int .i64 0) := bz.cell 0 rfl
                  have z1 : w9.cell? ⟨T + 1, 1, none⟩ = some (.string ⟨#[]⟩) := bz.cell 1 rfl
                  have z2 : w9.cell? ⟨T + 1, 2, none⟩ = some (.string ⟨#[]⟩) := bz.cell 2 rfl
                  have z3 : w9.cell? ⟨T + 1, 3, none⟩ = some (.int .i64 0) := bz.cell 3 rfl
                  have z4 : w9.cell? ⟨T + 1, 4, none⟩ = some (.slice none 0 0) := bz.cell 4 rfl
                  have z5 : w9.cell? ⟨T + 1, 5, none⟩ = some (.slice none 0 0) := bz.cell 5 rfl
                  have t0 : w9.cell? ⟨T, 0, none⟩ = some (.int .i64 0) := bt.cell 0 rfl
                  have t1 : w9.cell? ⟨T, 1, none⟩ = some (.string ⟨#[]⟩) := bt.cell 1 rfl
                  have t2 : w9.cell? ⟨T, 2, none⟩ = some (.string ⟨#[]⟩) := bt.cell 2 rfl
                  have t3 : w9.cell? ⟨T, 3, none⟩ = some (.int .i64 0) := bt.cell 3 rfl
                  have t4 : w9.cell? ⟨T, 4, none⟩ = some (.slice none 0 0) := bt.cell 4 rfl
                  have t5 : w9.cell? ⟨T, 5, none⟩ = some (.slice none 0 0) := bt.cell 5 rfl
                  have f0 : w9.frozen? ⟨T, 0, none⟩ = false := bt.frozen 0
                  have f1 : w9.frozen? ⟨T, 1, none⟩ = false := bt.frozen 1
                  have f2 : w9.frozen? ⟨T, 2, none⟩ = false := bt.frozen 2
                  have f3 : w9.frozen? ⟨T, 3, none⟩ = false := bt.frozen 3
                  have f4 : w9.frozen? ⟨T, 4, none⟩ = false := bt.frozen 4
                  have f5 : w9.frozen? ⟨T, 5, none⟩ = false := bt.frozen 5
                  have BT := Lib.hid bt
                  have hneT : T + 1 ≠ T := by omega
                  clear hbx bt bz
                  go_wp2
                  clear z0 z1 z2 z3 z4 z5 t0 t1 t2 t3 t4 t5 f0 f1 f2 f3 f4 f5
                  have hg6 : w9.grownBy (World.setCell (World.setCell (World.setCell (World.setCell (World.setCell (World.setCell w9 ⟨T, 0, none⟩ (.int .i64 0)) ⟨T, 1, none⟩ (.string ⟨#[]⟩)) ⟨T, 2, none⟩ (.string ⟨#[]⟩)) ⟨T, 3, none⟩ (.int .i64 0)) ⟨T, 4, none⟩ (.slice none 0 0)) ⟨T, 5, none⟩ (.slice none 0 0)) (some T) := grownBy_set6 w9 T _ _ _ _ _ _
                  have b6 := blk6 BT.out (.int .i64 0) (.string ⟨#[]⟩) (.string ⟨#[]⟩) (.int .i64 0) (.slice none 0 0) (.slice none 0 0)
                  generalize World.setCell (World.setCell (World.setCell (World.setCell (World.setCell (World.setCell w9 ⟨T, 0, none⟩ (.int .i64 0)) ⟨T, 1, none⟩ (.string ⟨#[]⟩)) ⟨T, 2, none⟩ (.string ⟨#[]⟩)) ⟨T, 3, none⟩ (.int .i64 0)) ⟨T, 4, none⟩ (.slice none 0 0)) ⟨T, 5, none⟩ (.slice none 0 0) = Z6 at b6 hg6 ⊢
                  have q0 : Z6.cell? ⟨T, 0, none⟩ = some (.int .i64 0) := b6.cell 0 rfl
                  have q1 : Z6.cell? ⟨T, 1, none⟩ = some (.string ⟨#[]⟩) := b6.cell 1 rfl
                  have q2 : Z6.cell? ⟨T, 2, none⟩ = some (.string ⟨#[]⟩) := b6.cell 2 rfl
                  have q3 : Z6.cell? ⟨T, 3, none⟩ = some (.int .i64 0) := b6.cell 3 rfl
                  have q4 : Z6.cell? ⟨T, 4, none⟩ = some (.slice none 0 0) := b6.cell 4 rfl
                  have q5 : Z6.cell? ⟨T, 5, none⟩ = some (.slice none 0 0) := b6.cell 5 rfl
                  try simp only [Exit.inBlock, Exit.then]
                  refine bodyPost_ret (v := .tuple #[.agg #[.int .i64 0, .string ⟨#[]⟩, .string ⟨#[]⟩, .int .i64 0, .slice none 0 0, .slice none 0 0], .slice none 0 0, .bool false]) (by simp [results, Tryz.results16, go_sem, q0, q1, q2, q3, q4, q5]) rfl ?_
                  exact ⟨rfl, by rw [HBX9.out.nw]; exact HBX9.out.bw.grown hg6 (Nat.le_of_lt BT.out.lt) (fun b e => by injection e with e; omega)⟩
                | some z =>
                  obtain ⟨m, r2⟩ := z
                  have hoc : o = some (⟨kv, nm, [], ⟨m2, l, m⟩⟩, r2) := HOM3.out
                  subst hoc
                  have F84 : w8.frozen? ⟨P, 4, none⟩ = false := HBP8.out.frozen 4
                  clear F84
                  go_wp2_with fail
                  refine hcs.mono ?_
                  rintro e w9 ⟨v9, A5, n5, c5, rfl, hov, hn5, hc5, hr5, hb9⟩
                  have HBX9 := Lib.hid (HBX8.out.below hb9); have HBP9 := Lib.hid (HBP8.out.below hb9 HBP8.out.lt)
                  obtain ⟨AM, cm, rfl, hcm, hrm⟩ := rd_of_own (show World.ownsRow w9 _ _ _ _ _ _ from hov)
                  have HHM0 := Lib.hid ((hi_own (show World.ownsRow w9 _ _ _ _ _ _ from hov)).mono HS7.out)
                  obtain ⟨nm_, hnm_⟩ : ∃ nm_, m.length = nm_ := ⟨_, rfl⟩
                  have hmn := (some_inv ho2).2
                  have hmm : nm_ ≤ 200 := by rw [← hnm_, hmn]; omega
                  rw [hnm_] at hcm ⊢
                  have HNM_ := Lib.hid hnm_; have HCM := Lib.hid hcm; have HN5 := Lib.hid hn5; have HC5 := Lib.hid hc5
                  have HSM : Hid (∀ x ∈ m, x.length ≤ maxLen) := Lib.hid (fun x hx => by
                    have h1 := some_short ho2 x hx
                    have h2 := HR1L.out
                    unfold maxLen; omega)
                  obtain ⟨lo, hlo⟩ : ∃ lo, W7.heap.size = lo := ⟨_, rfl⟩
                  have HLOP : Hid (P < lo) := Lib.hid (by rw [← hlo]; exact HPW7.out)
                  have HLOT : Hid (T < lo) := Lib.hid (by have h1 := HLOP.out; have h2 := HPT.out; omega)
                  have hg1 := (rdG_hi (lo := lo) (Rd.up (Rd.below HRL8.out hb9) hb9.size) (by rw [← hlo]; exact HHL0.out))
                  have hg2 := (rdG_hi (lo := lo) hrm (by rw [← hlo]; exact HHM0.out))
                  have HG91 := Lib.hid hg1; have HG92 := Lib.hid hg2; have HR5 := Lib.hid hr5
                  have HLW : Hid (w.heap.size ≤ lo) := Lib.hid (by have h1 := HLOT.out; have h2 := HT.out; omega)
                  have HHL : Hid (Hi w.heap.size AL) := Lib.hid (HHL0.out.mono (by rw [hlo]; exact HLW.out))
                  have HHM : Hid (Hi w.heap.size AM) := Lib.hid (HHM0.out.mono (by rw [hlo]; exact HLW.out))
                  have HML : Hid (nl ≤ maxLen) := Lib.hid (by unfold maxLen; omega)
                  have HMM_ : Hid (nm_ ≤ maxLen) := Lib.hid (by unfold maxLen; omega)
                  have HII : Hid (I64 (m2 : Int)) := Lib.hid (by have := HI4.out; unfold I64; omega)
                  have p4 : w9.cell? ⟨P, 4, none⟩ = some (.slice none 0 0) := HBP9.out.cell 4 rfl
                  have p5 : w9.cell? ⟨P, 5, none⟩ = some (.slice none 0 0) := HBP9.out.cell 5 rfl
                  have f4 : w9.frozen? ⟨P, 4, none⟩ = false := HBP9.out.frozen 4
                  have f5 : w9.frozen? ⟨P, 5, none⟩ = false := HBP9.out.frozen 5
                  clear hb9 hcs HBX8 HBP8 hov hnm_ hmn hcm hrm hn5 hc5 hr5 hg1 hg2 HRL8 HR4
                  go_upto_region 23 with fail
                  have hga := grownBy_set w9 P 4 (.slice AL nl cl)
                  have hgb := grownBy_set (w9.setCell ⟨P, 4, none⟩ (.slice AL nl cl)) P 5 (.slice AM nm_ cm)
                  have hg2 := hga.trans hgb
                  have hPT := HPT.out
                  have hTW : T ≤ w9.heap.size := Nat.le_of_lt HBX9.out.bt.lt
                  have HBPA := Lib.hid ((HBP9.out.set 4 (.slice AL nl cl)).set 5 (.slice AM nm_ cm))
                  have HBXA : Hid (OneBox w T ((w9.setCell ⟨P, 4, none⟩ (.slice AL nl cl)).setCell ⟨P, 5, none⟩ (.slice AM nm_ cm))) := Lib.hid ⟨HBX9.out.bt.gr hg2 (fun e => by injection e with e; omega), HBX9.out.bz.gr hg2 (fun e => by injection e with e; omega), HBX9.out.bw.grown hg2 hTW (fun b e => by injection e with e; omega), HBX9.out.nw⟩
                  have HRE : Hid (RdB ((w9.setCell ⟨P, 4, none⟩ (.slice AL nl cl)).setCell ⟨P, 5, none⟩ (.slice AM nm_ cm)) N A5 r2) := Lib.hid (Rd.below HR5.out ((Below.refl N w9).grown hg2 (by omega) (fun b e => by injection e with e; omega)))
                  have hzz : ∀ b, lo ≤ b ∧ b < w9.heap.size → ((w9.setCell ⟨P, 4, none⟩ (.slice AL nl cl)).setCell ⟨P, 5, none⟩ (.slice AM nm_ cm)).heap[b]? = w9.heap[b]? := fun b hb => hg2.block b hb.2 (fun e => by injection e with e; have := HLOP.out; omega)
                  have HG1 := Lib.hid ((HG91.out.to (W' := (w9.setCell ⟨P, 4, none⟩ (.slice AL nl cl)).setCell ⟨P, 5, none⟩ (.slice AM nm_ cm)) (fun b hb _ => hzz b hb)).mono (fun b hb => (⟨hb.1, Nat.lt_of_lt_of_le hb.2 hg2.size⟩ : lo ≤ b ∧ b < ((w9.setCell ⟨P, 4, none⟩ (.slice AL nl cl)).setCell ⟨P, 5, none⟩ (.slice AM nm_ cm)).heap.size)))
                  have HG2 := Lib.hid ((HG92.out.to (W' := (w9.setCell ⟨P, 4, none⟩ (.slice AL nl cl)).setCell ⟨P, 5, none⟩ (.slice AM nm_ cm)) (fun b hb _ => hzz b hb)).mono (fun b hb => (⟨hb.1, Nat.lt_of_lt_of_le hb.2 hg2.size⟩ : lo ≤ b ∧ b < ((w9.setCell ⟨P, 4, none⟩ (.slice AL nl cl)).setCell ⟨P, 5, none⟩ (.slice AM nm_ cm)).heap.size)))
                  replace HBPA : Hid (Blk ((w9.setCell ⟨P, 4, none⟩ (.slice AL nl cl)).setCell ⟨P, 5, none⟩ (.slice AM nm_ cm)) P 34 #[.int .i64 kv, strV nm, .string ⟨#[]⟩, .int .i64 (m2 : Int), .slice AL nl cl, .slice AM nm_ cm]) := HBPA
                  generalize (w9.setCell ⟨P, 4, none⟩ (.slice AL nl cl)).setCell ⟨P, 5, none⟩ (.slice AM nm_ cm) = WA at HBPA HBXA HRE HG1 HG2 ⊢
                  clear hga hgb hg2 hPT hTW hzz p4 p5 f4 f5 HBX9 HBP9 HR5 HG91 HG92
                  have hbx := HBXA.out
                  have bt := hbx.bt
                  have bp := HBPA.out
                  have p0 : WA.cell? ⟨P, 0, none⟩ = some (.int .i64 kv) := bp.cell 0 rfl
                  have p1 : WA.cell? ⟨P, 1, none⟩ = some (strV nm) := bp.cell 1 rfl
                  have p2 : WA.cell? ⟨P, 2, none⟩ = some (.string ⟨#[]⟩) := bp.cell 2 rfl
                  have p3 : WA.cell? ⟨P, 3, none⟩ = some (.int .i64 (m2 : Int)) := bp.cell 3 rfl
                  have p4 : WA.cell? ⟨P, 4, none⟩ = some (.slice AL nl cl) := bp.cell 4 rfl
                  have p5 : WA.cell? ⟨P, 5, none⟩ = some (.slice AM nm_ cm) := bp.cell 5 rfl
                  have t0 : WA.cell? ⟨T, 0, none⟩ = some (.int .i64 0) := bt.cell 0 rfl
                  have t1 : WA.cell? ⟨T, 1, none⟩ = some (.string ⟨#[]⟩) := bt.cell 1 rfl
                  have t2 : WA.cell? ⟨T, 2, none⟩ = some (.string ⟨#[]⟩) := bt.cell 2 rfl
                  have t3 : WA.cell? ⟨T, 3, none⟩ = some (.int .i64 0) := bt.cell 3 rfl
                  have t4 : WA.cell? ⟨T, 4, none⟩ = some (.slice none 0 0) := bt.cell 4 rfl
                  have t5 : WA.cell? ⟨T, 5, none⟩ = some (.slice none 0 0) := bt.cell 5 rfl
                  have f0 : WA.frozen? ⟨T, 0, none⟩ = false := bt.frozen 0
                  have f1 : WA.frozen? ⟨T, 1, none⟩ = false := bt.frozen 1
                  have f2 : WA.frozen? ⟨T, 2, none⟩ = false := bt.frozen 2
                  have f3 : WA.frozen? ⟨T, 3, none⟩ = false := bt.frozen 3
                  have f4 : WA.frozen? ⟨T, 4, none⟩ = false := bt.frozen 4
                  have f5 : WA.frozen? ⟨T, 5, none⟩ = false := bt.frozen 5
                  have BT := Lib.hid bt
                  clear hbx bt bp
                  go_wp2
                  clear p0 p1 p2 p3 p4 p5 t0 t1 t2 t3 t4 t5 f0 f1 f2 f3 f4 f5
                  have hg6 : WA.grownBy (World.setCell (World.setCell (World.setCell (World.setCell (World.setCell (World.setCell WA ⟨T, 0, none⟩ (.int .i64 kv)) ⟨T, 1, none⟩ (strV nm)) ⟨T, 2, none⟩ (.string ⟨#[]⟩)) ⟨T, 3, none⟩ (.int .i64 (m2 : Int))) ⟨T, 4, none⟩ (.slice AL nl cl)) ⟨T, 5, none⟩ (.slice AM nm_ cm)) (some T) := grownBy_set6 WA T _ _ _ _ _ _
                  have b6 := blk6 BT.out (.int .i64 kv) (strV nm) (.string ⟨#[]⟩) (.int .i64 (m2 : Int)) (.slice AL nl cl) (.slice AM nm_ cm)
                  generalize World.setCell (World.setCell (World.setCell (World.setCell (World.setCell (World.setCell WA ⟨T, 0, none⟩ (.int .i64 kv)) ⟨T, 1, none⟩ (strV nm)) ⟨T, 2, none⟩ (.string ⟨#[]⟩)) ⟨T, 3, none⟩ (.int .i64 (m2 : Int))) ⟨T, 4, none⟩ (.slice AL nl cl)) ⟨T, 5, none⟩ (.slice AM nm_ cm) = Z6 at b6 hg6 ⊢
                  have q0 : Z6.cell? ⟨T, 0, none⟩ = some (.int .i64 kv) := b6.cell 0 rfl
                  have q1 : Z6.cell? ⟨T, 1, none⟩ = some (strV nm) := b6.cell 1 rfl
                  have q2 : Z6.cell? ⟨T, 2, none⟩ = some (.string ⟨#[]⟩) := b6.cell 2 rfl
                  have q3 : Z6.cell? ⟨T, 3, none⟩ = some (.int .i64 (m2 : Int)) := b6.cell 3 rfl
                  have q4 : Z6.cell? ⟨T, 4, none⟩ = some (.slice AL nl cl) := b6.cell 4 rfl
                  have q5 : Z6.cell? ⟨T, 5, none⟩ = some (.slice AM nm_ cm) := b6.cell 5 rfl
                  try simp only [Exit.inBlock, Exit.then]
                  refine bodyPost_ret (v := .tuple #[.agg #[.int .i64 kv, strV nm, .string ⟨#[]⟩, .int .i64 (m2 : Int), .slice AL nl cl, .slice AM nm_ cm], .slice A5 n5 c5, .bool true]) (by simp [results, Tryz.results16, go_sem, q0, q1, q2, q3, q4, q5]) rfl ?_
                  have hTT : w.heap.size = T := HBXA.out.nw
                  have hsT : T < WA.heap.size := BT.out.lt
                  have hbe : Below w.heap.size w Z6 := by rw [hTT]; exact HBXA.out.bw.grown hg6 (Nat.le_of_lt hsT) (fun b e => by injection e with e; omega)
                  have hrr : RdB Z6 N A5 r2 := Rd.below HRE.out ((Below.refl N WA).grown hg6 (by omega) (fun b e => by injection e with e; omega))
                  have hz : ∀ b, lo ≤ b ∧ b < WA.heap.size → Z6.heap[b]? = WA.heap[b]? := fun b hb => hg6.block b hb.2 (fun e => by injection e with e; have := HLOT.out; omega)
                  have g1 := (HG1.out.to (W' := Z6) (fun b hb _ => hz b hb)).mono (fun b hb => (Nat.lt_of_lt_of_le hb.2 hg6.size : b < Z6.heap.size))
                  have g2 := (HG2.out.to (W' := Z6) (fun b hb _ => hz b hb)).mono (fun b hb => (Nat.lt_of_lt_of_le hb.2 hg6.size : b < Z6.heap.size))
                  refine ⟨AL, nl, cl, AM, nm_, cm, A5, n5, c5, rfl, ⟨⟨HNL.out, HNM_.out, HCL.out, HCM.out, HML.out, HMM_.out, g1.rd, g2.rd, HII.out⟩, by constructor <;> (simp only; omega), by simp only; unfold maxLen; have h1 := HNML.out; omega, (show ([] : List UInt8).length ≤ maxLen by decide), HSL.out, HSM.out⟩, HHL.out, HHM.out, HN5.out, HC5.out, hrr, hbe⟩
            · have hoc : o = some (⟨kv, nm, [], noneH⟩, r') := by
                rw [HO.out, oneB, HCU.out]
                simp only
                rw [HWD.out]
                simp only
                rw [HKV.out, HNW.out, if_neg h2, if_neg h3]
              subst hoc
              by_cases hk2 : kv = 2
              · have hnw1 : ((((nw : Int) + 2)) == 3) = false := by rw [beq_eq_false_iff_ne]; have := h2; omega
                have hkk : (kv == 2) = true := by simpa using hk2
                have hk3 : ¬ (3 : Int) ≤ kv := by omega
                have HK2 := Lib.hid hk2
                clear h2 h3 hk2
                have hbx := HBX3.out
                have bt := hbx.bt
                have bp := HBP.out
                have p0 : W3.cell? ⟨P, 0, none⟩ = some (.int .i64 kv) := bp.cell 0 rfl
                have p1 : W3.cell? ⟨P, 1, none⟩ = some (strV nm) := bp.cell 1 rfl
                have p2 : W3.cell? ⟨P, 2, none⟩ = some (.string ⟨#[]⟩) := bp.cell 2 rfl
                have p3 : W3.cell? ⟨P, 3, none⟩ = some (.int .i64 0) := bp.cell 3 rfl
                have p4 : W3.cell? ⟨P, 4, none⟩ = some (.slice none 0 0) := bp.cell 4 rfl
                have p5 : W3.cell? ⟨P, 5, none⟩ = some (.slice none 0 0) := bp.cell 5 rfl
                have t0 : W3.cell? ⟨T, 0, none⟩ = some (.int .i64 0) := bt.cell 0 rfl
                have t1 : W3.cell? ⟨T, 1, none⟩ = some (.string ⟨#[]⟩) := bt.cell 1 rfl
                have t2 : W3.cell? ⟨T, 2, none⟩ = some (.string ⟨#[]⟩) := bt.cell 2 rfl
                have t3 : W3.cell? ⟨T, 3, none⟩ = some (.int .i64 0) := bt.cell 3 rfl
                have t4 : W3.cell? ⟨T, 4, none⟩ = some (.slice none 0 0) := bt.cell 4 rfl
                have t5 : W3.cell? ⟨T, 5, none⟩ = some (.slice none 0 0) := bt.cell 5 rfl
                have f0 : W3.frozen? ⟨T, 0, none⟩ = false := bt.frozen 0
                have f1 : W3.frozen? ⟨T, 1, none⟩ = false := bt.frozen 1
                have f2 : W3.frozen? ⟨T, 2, none⟩ = false := bt.frozen 2
                have f3 : W3.frozen? ⟨T, 3, none⟩ = false := bt.frozen 3
                have f4 : W3.frozen? ⟨T, 4, none⟩ = false := bt.frozen 4
                have f5 : W3.frozen? ⟨T, 5, none⟩ = false := bt.frozen 5
                have BT := Lib.hid bt
                clear hbx bt bp
                go_wp2
                clear p0 p1 p2 p3 p4 p5 t0 t1 t2 t3 t4 t5 f0 f1 f2 f3 f4 f5
                have hg6 : W3.grownBy (World.setCell (World.setCell (World.setCell (World.setCell (World.setCell (World.setCell W3 ⟨T, 0, none⟩ (.int .i64 kv)) ⟨T, 1, none⟩ (strV nm)) ⟨T, 2, none⟩ (.string ⟨#[]⟩)) ⟨T, 3, none⟩ (.int .i64 0)) ⟨T, 4, none⟩ (.slice none 0 0)) ⟨T, 5, none⟩ (.slice none 0 0)) (some T) := grownBy_set6 W3 T _ _ _ _ _ _
                have b6 := blk6 BT.out (.int .i64 kv) (strV nm) (.string ⟨#[]⟩) (.int .i64 0) (.slice none 0 0) (.slice none 0 0)
                generalize World.setCell (World.setCell (World.setCell (World.setCell (World.setCell (World.setCell W3 ⟨T, 0, none⟩ (.int .i64 kv)) ⟨T, 1, none⟩ (strV nm)) ⟨T, 2, none⟩ (.string ⟨#[]⟩)) ⟨T, 3, none⟩ (.int .i64 0)) ⟨T, 4, none⟩ (.slice none 0 0)) ⟨T, 5, none⟩ (.slice none 0 0) = Z6 at b6 hg6 ⊢
                have q0 : Z6.cell? ⟨T, 0, none⟩ = some (.int .i64 kv) := b6.cell 0 rfl
                have q1 : Z6.cell? ⟨T, 1, none⟩ = some (strV nm) := b6.cell 1 rfl
                have q2 : Z6.cell? ⟨T, 2, none⟩ = some (.string ⟨#[]⟩) := b6.cell 2 rfl
                have q3 : Z6.cell? ⟨T, 3, none⟩ = some (.int .i64 0) := b6.cell 3 rfl
                have q4 : Z6.cell? ⟨T, 4, none⟩ = some (.slice none 0 0) := b6.cell 4 rfl
                have q5 : Z6.cell? ⟨T, 5, none⟩ = some (.slice none 0 0) := b6.cell 5 rfl
                try simp only [Exit.inBlock, Exit.then]
                refine bodyPost_ret (v := .tuple #[.agg #[.int .i64 kv, strV nm, .string ⟨#[]⟩, .int .i64 0, .slice none 0 0, .slice none 0 0], .slice A2 n2 c2, .bool true]) (by simp [results, Tryz.results16, go_sem, q0, q1, q2, q3, q4, q5]) rfl ?_
                have hTT : w.heap.size = T := HBX3.out.nw
                have hsT : T < W3.heap.size := BT.out.lt
                have hbe : Below w.heap.size w Z6 := by rw [hTT]; exact HBX3.out.bw.grown hg6 (Nat.le_of_lt hsT) (fun b e => by injection e with e; omega)
                have hrr : RdB Z6 N A2 r' := Rd.below HR23.out ((Below.refl N W3).grown hg6 (by omega) (fun b e => by injection e with e; omega))
                exact ⟨none, 0, 0, none, 0, 0, A2, n2, c2, rfl, pv_kind Z6 kv nm hkr (by have h1 := HNML.out; omega), hi_none _, hi_none _, HN2.out, HC2.out, hrr, hbe⟩
              · have hkk : (kv == 2) = false := by simpa using hk2
                by_cases hk3 : 3 ≤ kv
                · have hnw3 : ((((nw : Int) + 2)) == 5) = false := by rw [beq_eq_false_iff_ne]; omega
                  clear h2 h3 hk2
                  have hbx := HBX3.out
                  have bt := hbx.bt
                  have bp := HBP.out
                  have p0 : W3.cell? ⟨P, 0, none⟩ = some (.int .i64 kv) := bp.cell 0 rfl
                  have p1 : W3.cell? ⟨P, 1, none⟩ = some (strV nm) := bp.cell 1 rfl
                  have p2 : W3.cell? ⟨P, 2, none⟩ = some (.string ⟨#[]⟩) := bp.cell 2 rfl
                  have p3 : W3.cell? ⟨P, 3, none⟩ = some (.int .i64 0) := bp.cell 3 rfl
                  have p4 : W3.cell? ⟨P, 4, none⟩ = some (.slice none 0 0) := bp.cell 4 rfl
                  have p5 : W3.cell? ⟨P, 5, none⟩ = some (.slice none 0 0) := bp.cell 5 rfl
                  have t0 : W3.cell? ⟨T, 0, none⟩ = some (.int .i64 0) := bt.cell 0 rfl
                  have t1 : W3.cell? ⟨T, 1, none⟩ = some (.string ⟨#[]⟩) := bt.cell 1 rfl
                  have t2 : W3.cell? ⟨T, 2, none⟩ = some (.string ⟨#[]⟩) := bt.cell 2 rfl
                  have t3 : W3.cell? ⟨T, 3, none⟩ = some (.int .i64 0) := bt.cell 3 rfl
                  have t4 : W3.cell? ⟨T, 4, none⟩ = some (.slice none 0 0) := bt.cell 4 rfl
                  have t5 : W3.cell? ⟨T, 5, none⟩ = some (.slice none 0 0) := bt.cell 5 rfl
                  have f0 : W3.frozen? ⟨T, 0, none⟩ = false := bt.frozen 0
                  have f1 : W3.frozen? ⟨T, 1, none⟩ = false := bt.frozen 1
                  have f2 : W3.frozen? ⟨T, 2, none⟩ = false := bt.frozen 2
                  have f3 : W3.frozen? ⟨T, 3, none⟩ = false := bt.frozen 3
                  have f4 : W3.frozen? ⟨T, 4, none⟩ = false := bt.frozen 4
                  have f5 : W3.frozen? ⟨T, 5, none⟩ = false := bt.frozen 5
                  have BT := Lib.hid bt
                  clear hbx bt bp
                  go_wp2
                  clear p0 p1 p2 p3 p4 p5 t0 t1 t2 t3 t4 t5 f0 f1 f2 f3 f4 f5
                  have hg6 : W3.grownBy (World.setCell (World.setCell (World.setCell (World.setCell (World.setCell (World.setCell W3 ⟨T, 0, none⟩ (.int .i64 kv)) ⟨T, 1, none⟩ (strV nm)) ⟨T, 2, none⟩ (.string ⟨#[]⟩)) ⟨T, 3, none⟩ (.int .i64 0)) ⟨T, 4, none⟩ (.slice none 0 0)) ⟨T, 5, none⟩ (.slice none 0 0)) (some T) := grownBy_set6 W3 T _ _ _ _ _ _
                  have b6 := blk6 BT.out (.int .i64 kv) (strV nm) (.string ⟨#[]⟩) (.int .i64 0) (.slice none 0 0) (.slice none 0 0)
                  generalize World.setCell (World.setCell (World.setCell (World.setCell (World.setCell (World.setCell W3 ⟨T, 0, none⟩ (.int .i64 kv)) ⟨T, 1, none⟩ (strV nm)) ⟨T, 2, none⟩ (.string ⟨#[]⟩)) ⟨T, 3, none⟩ (.int .i64 0)) ⟨T, 4, none⟩ (.slice none 0 0)) ⟨T, 5, none⟩ (.slice none 0 0) = Z6 at b6 hg6 ⊢
                  have q0 : Z6.cell? ⟨T, 0, none⟩ = some (.int .i64 kv) := b6.cell 0 rfl
                  have q1 : Z6.cell? ⟨T, 1, none⟩ = some (strV nm) := b6.cell 1 rfl
                  have q2 : Z6.cell? ⟨T, 2, none⟩ = some (.string ⟨#[]⟩) := b6.cell 2 rfl
                  have q3 : Z6.cell? ⟨T, 3, none⟩ = some (.int .i64 0) := b6.cell 3 rfl
                  have q4 : Z6.cell? ⟨T, 4, none⟩ = some (.slice none 0 0) := b6.cell 4 rfl
                  have q5 : Z6.cell? ⟨T, 5, none⟩ = some (.slice none 0 0) := b6.cell 5 rfl
                  try simp only [Exit.inBlock, Exit.then]
                  refine bodyPost_ret (v := .tuple #[.agg #[.int .i64 kv, strV nm, .string ⟨#[]⟩, .int .i64 0, .slice none 0 0, .slice none 0 0], .slice A2 n2 c2, .bool true]) (by simp [results, Tryz.results16, go_sem, q0, q1, q2, q3, q4, q5]) rfl ?_
                  have hTT : w.heap.size = T := HBX3.out.nw
                  have hsT : T < W3.heap.size := BT.out.lt
                  have hbe : Below w.heap.size w Z6 := by rw [hTT]; exact HBX3.out.bw.grown hg6 (Nat.le_of_lt hsT) (fun b e => by injection e with e; omega)
                  have hrr : RdB Z6 N A2 r' := Rd.below HR23.out ((Below.refl N W3).grown hg6 (by omega) (fun b e => by injection e with e; omega))
                  exact ⟨none, 0, 0, none, 0, 0, A2, n2, c2, rfl, pv_kind Z6 kv nm hkr (by have h1 := HNML.out; omega), hi_none _, hi_none _, HN2.out, HC2.out, hrr, hbe⟩
                · clear h2 h3 hk2
                  have hbx := HBX3.out
                  have bt := hbx.bt
                  have bp := HBP.out
                  have p0 : W3.cell? ⟨P, 0, none⟩ = some (.int .i64 kv) := bp.cell 0 rfl
                  have p1 : W3.cell? ⟨P, 1, none⟩ = some (strV nm) := bp.cell 1 rfl
                  have p2 : W3.cell? ⟨P, 2, none⟩ = some (.string ⟨#[]⟩) := bp.cell 2 rfl
                  have p3 : W3.cell? ⟨P, 3, none⟩ = some (.int .i64 0) := bp.cell 3 rfl
                  have p4 : W3.cell? ⟨P, 4, none⟩ = some (.slice none 0 0) := bp.cell 4 rfl
                  have p5 : W3.cell? ⟨P, 5, none⟩ = some (.slice none 0 0) := bp.cell 5 rfl
                  have t0 : W3.cell? ⟨T, 0, none⟩ = some (.int .i64 0) := bt.cell 0 rfl
                  have t1 : W3.cell? ⟨T, 1, none⟩ = some (.string ⟨#[]⟩) := bt.cell 1 rfl
                  have t2 : W3.cell? ⟨T, 2, none⟩ = some (.string ⟨#[]⟩) := bt.cell 2 rfl
                  have t3 : W3.cell? ⟨T, 3, none⟩ = some (.int .i64 0) := bt.cell 3 rfl
                  have t4 : W3.cell? ⟨T, 4, none⟩ = some (.slice none 0 0) := bt.cell 4 rfl
                  have t5 : W3.cell? ⟨T, 5, none⟩ = some (.slice none 0 0) := bt.cell 5 rfl
                  have f0 : W3.frozen? ⟨T, 0, none⟩ = false := bt.frozen 0
                  have f1 : W3.frozen? ⟨T, 1, none⟩ = false := bt.frozen 1
                  have f2 : W3.frozen? ⟨T, 2, none⟩ = false := bt.frozen 2
                  have f3 : W3.frozen? ⟨T, 3, none⟩ = false := bt.frozen 3
                  have f4 : W3.frozen? ⟨T, 4, none⟩ = false := bt.frozen 4
                  have f5 : W3.frozen? ⟨T, 5, none⟩ = false := bt.frozen 5
                  have BT := Lib.hid bt
                  clear hbx bt bp
                  go_wp2
                  clear p0 p1 p2 p3 p4 p5 t0 t1 t2 t3 t4 t5 f0 f1 f2 f3 f4 f5
                  have hg6 : W3.grownBy (World.setCell (World.setCell (World.setCell (World.setCell (World.setCell (World.setCell W3 ⟨T, 0, none⟩ (.int .i64 kv)) ⟨T, 1, none⟩ (strV nm)) ⟨T, 2, none⟩ (.string ⟨#[]⟩)) ⟨T, 3, none⟩ (.int .i64 0)) ⟨T, 4, none⟩ (.slice none 0 0)) ⟨T, 5, none⟩ (.slice none 0 0)) (some T) := grownBy_set6 W3 T _ _ _ _ _ _
                  have b6 := blk6 BT.out (.int .i64 kv) (strV nm) (.string ⟨#[]⟩) (.int .i64 0) (.slice none 0 0) (.slice none 0 0)
                  generalize World.setCell (World.setCell (World.setCell (World.setCell (World.setCell (World.setCell W3 ⟨T, 0, none⟩ (.int .i64 kv)) ⟨T, 1, none⟩ (strV nm)) ⟨T, 2, none⟩ (.string ⟨#[]⟩)) ⟨T, 3, none⟩ (.int .i64 0)) ⟨T, 4, none⟩ (.slice none 0 0)) ⟨T, 5, none⟩ (.slice none 0 0) = Z6 at b6 hg6 ⊢
                  have q0 : Z6.cell? ⟨T, 0, none⟩ = some (.int .i64 kv) := b6.cell 0 rfl
                  have q1 : Z6.cell? ⟨T, 1, none⟩ = some (strV nm) := b6.cell 1 rfl
                  have q2 : Z6.cell? ⟨T, 2, none⟩ = some (.string ⟨#[]⟩) := b6.cell 2 rfl
                  have q3 : Z6.cell? ⟨T, 3, none⟩ = some (.int .i64 0) := b6.cell 3 rfl
                  have q4 : Z6.cell? ⟨T, 4, none⟩ = some (.slice none 0 0) := b6.cell 4 rfl
                  have q5 : Z6.cell? ⟨T, 5, none⟩ = some (.slice none 0 0) := b6.cell 5 rfl
                  try simp only [Exit.inBlock, Exit.then]
                  refine bodyPost_ret (v := .tuple #[.agg #[.int .i64 kv, strV nm, .string ⟨#[]⟩, .int .i64 0, .slice none 0 0, .slice none 0 0], .slice A2 n2 c2, .bool true]) (by simp [results, Tryz.results16, go_sem, q0, q1, q2, q3, q4, q5]) rfl ?_
                  have hTT : w.heap.size = T := HBX3.out.nw
                  have hsT : T < W3.heap.size := BT.out.lt
                  have hbe : Below w.heap.size w Z6 := by rw [hTT]; exact HBX3.out.bw.grown hg6 (Nat.le_of_lt hsT) (fun b e => by injection e with e; omega)
                  have hrr : RdB Z6 N A2 r' := Rd.below HR23.out ((Below.refl N W3).grown hg6 (by omega) (fun b e => by injection e with e; omega))
                  exact ⟨none, 0, 0, none, 0, 0, A2, n2, c2, rfl, pv_kind Z6 kv nm hkr (by have h1 := HNML.out; omega), hi_none _, hi_none _, HN2.out, HC2.out, hrr, hbe⟩

end Cd
end Go.Proofs.YtjhjmfodpnipiaaGreatDoor

namespace Go.Proofs.YtjhjmfodpnipiaaGreatDoor
open Go.RowKit Go.Shelf
set_option linter.unusedVariables false
set_option linter.unusedSimpArgs false
namespace Cd
open Tx Df Sq Hk Tr Pr Fl

theorem ownP_lt' {W : World} {base : Nat} {v : Value} {l : List Ch} (h : OwnP W base v l) : ∀ g, v.ownBlock = some g → g < W.heap.size := fun g hg => by
  obtain ⟨xs, hr, hF⟩ := h
  rcases hr.2 with ⟨rfl, _⟩ | ⟨g', cap, cur, rfl, hbg, hg', hc, _⟩
  · cases hg
  · injection hg with hg
    subst hg
    exact (Array.getElem?_eq_some_iff.1 hg').1
theorem alike_of' {S : Nat → Prop} {W W1 : World} (hb : Below W.heap.size W W1) : Fl.Alike S W W1 := fun k _ hl => hb.block k hl
theorem getP_none_of {b : List UInt8} (h : readL b = none) : getP b = none := by unfold getP; rw [h]
theorem getP_none_long {b : List UInt8} {acc : List Ch} {x : Ch} {o : Option (List Ch)} (h : readL b = o.map ((acc ++ [x]) ++ ·)) (ha : 200 ≤ acc.length) : getP b = none := by
  cases o with
  | none => exact getP_none_of h
  | some l =>
    unfold getP
    rw [h]
    simp only [Option.map_some]
    rw [if_neg]
    intro hp
    obtain ⟨h1, _⟩ := putP_ok.1 hp
    rw [List.length_append, List.length_append] at h1
    simp at h1
    omega
theorem read_next {b r r' : List UInt8} {acc : List Ch} {p : Ch} (hb : readL b = (readL r).map (acc ++ ·)) (hr : r ≠ []) (h : oneB r = some (p, r')) : readL b = (readL r').map ((acc ++ [p]) ++ ·) := by
  rw [hb, readL_cons hr h]
  cases readL r' with
  | none => rfl
  | some l => simp
theorem readL_none {r : List UInt8} (hr : r ≠ []) (h : oneB r = none) : readL r = none := by
  rw [readL, if_neg hr]
  split
  · rfl
  · rename_i p' r' h1; rw [h] at h1; cases h1

set_option maxRecDepth 100000 in
set_option maxHeartbeats 8000000 in
theorem refGet (A : Option Addr) (n c : Nat) (bs : List UInt8) (w : World) (hn : bs.length = n) (hnc : n ≤ c) (hle : n ≤ 200000) (hR : RdB w w.heap.size A bs) :
    Calls Tryz.prog 6 #[.slice A n c] w (GetEnd w (getP bs)) := by
  obtain ⟨o, ho⟩ : ∃ o, getP bs = o := ⟨_, rfl⟩
  rw [ho]
  have HO := Lib.hid ho; have HL := Lib.hid hn; have HR := Lib.hid hR
  clear ho hn hR
  go_enter Tryz.func6, Tryz.ntmps6
  go_wp2_with fail
  go_loopw [4, 5] (fun v4 v5 wr => ∃ (acc : List Ch) (r : List UInt8) (A4 : Option Addr) (n4 c4 : Nat) (B : Option Addr) (m d : Nat), v4 = .slice A4 n4 c4 ∧ v5 = .slice B m d ∧ OwnP wr w.heap.size (.slice A4 n4 c4) acc ∧ acc.length = n4 ∧ n4 ≤ 200 ∧ r.length = m ∧ m ≤ d ∧ m ≤ n ∧ RdB wr w.heap.size B r ∧ Below w.heap.size w wr ∧ readL bs = (readL r).map (acc ++ ·)) (fun _ v5 _ => (match v5 with | .slice _ m _ => m | _ => 0))
  case atStart => exact ⟨[], bs, none, 0, 0, A, n, c, rfl, rfl, ownP_nil _ _, rfl, Nat.zero_le _, HL.out, hnc, Nat.le_refl _, HR.out, Below.refl _ _, by cases readL bs <;> simp⟩
  case round =>
    obtain ⟨acc, r, A4, n4, c4, B, m, d, rfl, rfl, hown, hal, h200, hm, hmd, hmn, hrd, hbw, hread⟩ := hrel
    have HW := Lib.hid hown; have HAL := Lib.hid hal; have HM := Lib.hid hm; have HMD := Lib.hid hmd; have HRD := Lib.hid hrd; have HBW := Lib.hid hbw; have HRE := Lib.hid hread
    clear hown hal hm hmd hrd hbw hread
    by_cases hlt : 0 < m
    · have hmi : (0 : Int) < (m : Int) := by omega
      have hrne : r ≠ [] := fun e => by have h1 := HM.out; rw [e] at h1; simp at h1; omega
      have key := refOne B m d w.heap.size r wr HM.out HMD.out (by omega) HRD.out HBW.out.size
      obtain ⟨o1, ho1⟩ : ∃ o1, oneB r = o1 := ⟨_, rfl⟩
      rw [ho1] at key
      have HO1 := Lib.hid ho1
      cases o1 with
      | none =>
        have hoc : o = none := by rw [← HO.out]; exact getP_none_of (by rw [HRE.out, readL_none hrne ho1]; rfl)
        subst hoc
        have KEY := Lib.hid key
        clear key ho1
        go_wp2_with fail
        refine KEY.out.mono ?_
        rintro e w4 ⟨rfl, hb⟩
        have HB4 := Lib.hid (below_mv HBW.out hb)
        clear hb KEY
        go_wp2
        go_ret2
        exact ⟨rfl, HB4.out.alloc HB4.out.size _⟩
      | some z =>
        obtain ⟨p, r'⟩ := z
        have hnx := read_next HRE.out hrne ho1
        have hsh := oneB_short ho1
        have HNX := Lib.hid hnx; have HSH := Lib.hid hsh
        have KEY : Hid (Calls Tryz.prog 16 #[.slice B m d] wr fun e w' => ∃ A1 n1 c1 A2 n2 c2 B m d, e = .returned (.tuple #[prV p.k p.nm p.to p.h.pos A1 n1 c1 A2 n2 c2, .slice B m d, .bool true]) ∧ PV w' w'.heap.size A1 n1 c1 A2 n2 c2 p ∧ Hi wr.heap.size A1 ∧ Hi wr.heap.size A2 ∧ r'.length = m ∧ m ≤ d ∧ RdB w' w.heap.size B r' ∧ Below wr.heap.size wr w') := Lib.hid key
        clear key ho1 hnx hsh
        go_wp2_with fail
        refine KEY.out.mono ?_
        rintro e w4 ⟨A1, n1, c1, A2, n2, c2, B5, m5, d5, rfl, hpv, hh1, hh2, hm5, hmd5, hrd5, hb⟩
        have HB4 := Lib.hid (below_mv HBW.out hb)
        have HPG := Lib.hid (pg_hi hpv hh1 hh2); have HM5 := Lib.hid hm5; have HMD5 := Lib.hid hmd5; have HRD5 := Lib.hid hrd5
        have HRW := Lib.hid (ownP_lt' HW.out)
        have HW4 := Lib.hid (HW.out.below hb)
        have HSZ4 := Lib.hid hb.size
        clear hpv hh1 hh2 hm5 hmd5 hrd5 hb KEY
        by_cases hge : 200 ≤ n4
        · have hoc : o = none := by
            rw [← HO.out]
            exact getP_none_long (o := readL r') HNX.out (by rw [HAL.out]; exact hge)
          subst hoc
          have hg1 : (200 : Int) ≤ (n4 : Int) := by omega
          clear hge
          go_wp2
          go_ret2
          exact ⟨rfl, HB4.out.alloc HB4.out.size _⟩
        · have hg1 : ¬ (200 : Int) ≤ (n4 : Int) := by omega
          go_upto_region 7 with fail
          have bP := Blk.new w4 34 #[.int .i64 p.k, strV p.nm, strV p.to, .int .i64 p.h.pos, .slice A1 n1 c1, .slice A2 n2 c2]
          have hb5 : Below w4.heap.size w4 (w4.alloc (.cells #[.int .i64 p.k, strV p.nm, strV p.to, .int .i64 p.h.pos, .slice A1 n1 c1, .slice A2 n2 c2] 34)) := (Below.refl _ _).alloc (Nat.le_refl _) _
          generalize w4.alloc (.cells #[.int .i64 p.k, strV p.nm, strV p.to, .int .i64 p.h.pos, .slice A1 n1 c1, .slice A2 n2 c2] 34) = W5 at bP hb5 ⊢
          have HB5 := Lib.hid (HB4.out.trans (hb5.mono HB4.out.size))
          have HW5 := Lib.hid (HW4.out.below hb5)
          have HPG5 := Lib.hid (HPG.out.to_ (alike_of' hb5))
          have HRD5' := Lib.hid (Rd.below HRD5.out (hb5.mono HB4.out.size))
          have HS45 := Lib.hid hb5.size
          obtain ⟨P, hP⟩ : ∃ P, w4.heap.size = P := ⟨_, rfl⟩
          rw [hP] at bP HPG5 HS45 ⊢
          have y0 := bP.cell 0 rfl; have y1 := bP.cell 1 rfl; have y2 := bP.cell 2 rfl; have y3 := bP.cell 3 rfl; have y4 := bP.cell 4 rfl; have y5 := bP.cell 5 rfl
          have hb6 : Below W5.heap.size W5 (W5.alloc (.cells #[.int .i64 p.k, strV p.nm, strV p.to, .int .i64 p.h.pos, .slice A1 n1 c1, .slice A2 n2 c2] 34)) := (Below.refl _ _).alloc (Nat.le_refl _) _
          have bN := Blk.new W5 34 #[.int .i64 p.k, strV p.nm, strV p.to, .int .i64 p.h.pos, .slice A1 n1 c1, .slice A2 n2 c2]
          have HOA := Lib.hid (HW5.out.below hb6)
          have HBA := Lib.hid (HB5.out.trans (hb6.mono HB5.out.size))
          have HSRC := Lib.hid (one_srcP bN)
          have HCA : Hid (PCells (W5.alloc (.cells #[.int .i64 p.k, strV p.nm, strV p.to, .int .i64 p.h.pos, .slice A1 n1 c1, .slice A2 n2 c2] 34)) (Out (W5.alloc (.cells #[.int .i64 p.k, strV p.nm, strV p.to, .int .i64 p.h.pos, .slice A1 n1 c1, .slice A2 n2 c2] 34)) (Value.slice A4 n4 c4).ownBlock) [p] [.int .i64 p.k, strV p.nm, strV p.to, .int .i64 p.h.pos, .slice A1 n1 c1, .slice A2 n2 c2]) := Lib.hid (PCells.one ((HPG5.out.to_ (alike_of' hb6)).mono (fun b hb => ⟨Nat.lt_of_lt_of_le hb.2 (Nat.le_trans HS45.out hb6.size), fun e => by have h1 := HRW.out b e.symm; omega⟩)))
          have HLA : Hid (acc.length + 1 ≤ 100000) := Lib.hid (by rw [HAL.out]; omega)
          have HRD6 := Lib.hid (Rd.below HRD5'.out (hb6.mono HB5.out.size))
          clear bP hb5 hb6 bN hP
          go_wp2_with (at_builtin; refine wpList_ownP rfl (.tmp 28) (.tmp 30) rfl w.heap.size 1 1 (.slice A4 n4 c4) (some ⟨W5.heap.size, 0, none⟩) acc [p] _ rfl rfl HOA.out HCA.out rfl (.inr ⟨_, rfl, HSRC.out⟩) rfl HLA.out HBA.out.size ?_; intro vv w6 ho hg; obtain ⟨A6, c6, hvv, _, _, _⟩ := rdP_own ho; obtain ⟨n6, hn6⟩ : ∃ q, List.length (acc ++ [p]) = q := ⟨_, rfl⟩; rw [hn6] at hvv; subst hvv; have HN6 := Lib.hid hn6; clear hn6; have HO6 := Lib.hid ho; have HG6 := Lib.hid hg; clear ho hg)
          have hbw6 := HBA.out.grown HG6.out HBA.out.size (fun g e => ownP_ge HOA.out g e)
          have hrd6 : RdB w6 w.heap.size B5 r' := Rd.below HRD6.out ((Below.refl _ _).grown HG6.out HBA.out.size (fun g e => ownP_ge HOA.out g e))
          have hn6 : n6 = n4 + 1 := by rw [← HN6.out, List.length_append, HAL.out]; rfl
          have h1 := HSH.out
          rw [HM.out, HM5.out] at h1
          refine ⟨⟨acc ++ [p], r', A6, n6, c6, B5, m5, d5, rfl, rfl, HO6.out, HN6.out, by omega, HM5.out, HMD5.out, by omega, hrd6, hbw6, HNX.out⟩, ?_⟩
          show m5 < m
          exact h1
    · have hr0 : r = [] := List.eq_nil_of_length_eq_zero (by rw [HM.out]; omega)
      obtain rfl : m = 0 := by omega
      have hra : readL bs = some acc := by rw [HRE.out, hr0, readL_nil]; simp
      have HRA := Lib.hid hra
      obtain ⟨A', c', e1, hc', hrp, _⟩ := rdP_own HW.out
      injection e1 with e1 e2 e3
      subst e1 e2 e3
      obtain ⟨er, x, hp⟩ : ∃ er x, putP acc = (er, x) := ⟨_, _, rfl⟩
      have HRP := Lib.hid hrp; have HP := Lib.hid hp; have HC' := Lib.hid hc'
      have HOG : Hid (o = if putP acc = (0, bs) then some acc else none) := Lib.hid (by rw [← HO.out]; unfold getP; rw [hra])
      clear hr0 hra hrp hp hc' HRE HRD HM HMD hlt HW
      go_wp2_with fail
      refine (refPut A4 _ c4 acc wr er x rfl (by unfold maxLen; omega) HRP.out HP.out).mono ?_
      rintro e w5 ⟨B6, n6, d6, rfl, hn6, hd6, hr6, hb⟩
      have HB5 := Lib.hid (below_mv HBW.out hb)
      have HN6 := Lib.hid hn6; have HR6 := Lib.hid hr6
      have HRP5 := Lib.hid (HRP.out.mv hb)
      have HRB5 := Lib.hid (Rd.up (Rd.below HR.out HB5.out) HB5.out.size)
      clear hn6 hd6 hr6 hb HRP HBW HR
      by_cases h0 : er = 0
      · subst h0
        have hcv1 := run_conv (P := Tryz.prog) HR6.out 22 9 5 d6 Tryz.underlying22 Tryz.underlying5 Tryz.underlying9
        have hcv2 := run_conv (P := Tryz.prog) HRB5.out 22 9 5 c Tryz.underlying22 Tryz.underlying5 Tryz.underlying9
        rw [HN6.out] at hcv1
        rw [HL.out] at hcv2
        by_cases hxb : x = bs
        · have hoc : o = some acc := by rw [HOG.out, HP.out, hxb, if_pos rfl]
          subst hoc
          subst hxb
          go_wp2
          go_ret2
          exact ⟨A4, _, c4, rfl, rfl, HC'.out, HRP5.out, HB5.out⟩
        · have hoc : o = none := by
            rw [HOG.out, HP.out, if_neg]
            intro e
            injection e with _ e
            exact hxb e
          subst hoc
          have hxe : (x == bs) = false := by simpa using hxb
          have hx2 : x ≠ bs := hxb
          go_wp2
          go_ret2
          exact ⟨rfl, HB5.out⟩
      · have hE : ((er : Int) != 0) = true := by rw [bne_iff_ne]; exact h0
        have hoc : o = none := by
          rw [HOG.out, HP.out, if_neg]
          intro e
          injection e with e _
          exact h0 e
        subst hoc
        clear h0
        go_wp2
        go_ret2
        exact ⟨rfl, HB5.out⟩

end Cd
end Go.Proofs.YtjhjmfodpnipiaaGreatDoor
