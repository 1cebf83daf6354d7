/-
  What the document's Put of layer 7 returns (walk).
-/
import Derived.Test.YtdjeebfbffoehaaTrRefDel
import Derived.Test.YtdjeebfbffoehaaTrAgain
namespace Go.Proofs.Ytdjeebfbffoehaa
open Go.RowKit
set_option linter.unusedVariables false
namespace Tr
open Tx

/-- The files gone through, with the one that is put, if it is ahead of one of them. -/
def insTo (s : List UInt8) (l : List (List UInt8)) (t : TR) (k : Nat) (b : Bool) : TR := if b then ins Op.bytesLess (t.take k) s l else t.take k
theorem any_take {t : TR} {s : List UInt8} {k : Nat} (hk : k < t.length) : (t.take (k + 1)).any (gtN s) = ((t.take k).any (gtN s) || gtN s t[k]) := by
  rw [take_snoc' hk, List.any_append]; simp
theorem any_no {t : TR} {s : List UInt8} (h : t.any (gtN s) = false) : ∀ f ∈ t, Op.bytesLess s f.1 = false := fun f hf => by
  rw [List.any_eq_false] at h
  simpa [gtN] using h f hf
theorem any_yes {t : TR} {s : List UInt8} (h : t.any (gtN s) = true) : ∃ f ∈ t, Op.bytesLess s f.1 = true := by
  rw [List.any_eq_true] at h
  exact h
theorem insTo_past {s : List UInt8} {l : List (List UInt8)} {t : TR} {k : Nat} (hk : k < t.length) (h : (t.take k).any (gtN s) = true) : insTo s l t (k + 1) true = insTo s l t k true ++ [t[k]] := by
  unfold insTo
  rw [if_pos rfl, if_pos rfl, take_snoc' hk]
  exact ins_past (any_yes h)
theorem insTo_none {s : List UInt8} {l : List (List UInt8)} {t : TR} {k : Nat} (hk : k < t.length) : insTo s l t (k + 1) false = insTo s l t k false ++ [t[k]] := take_snoc' hk
theorem insTo_here {s : List UInt8} {l : List (List UInt8)} {t : TR} {k : Nat} (hk : k < t.length) (h : (t.take k).any (gtN s) = false) (hg : gtN s t[k] = true) : insTo s l t (k + 1) true = (insTo s l t k false ++ [(s, l)]) ++ [t[k]] := by
  unfold insTo
  rw [if_pos rfl, if_neg (by decide), take_snoc' hk, ins_here (any_no h) hg, List.append_assoc]
  rfl
theorem insTo_end {s : List UInt8} {l : List (List UInt8)} {t : TR} (h : t.any (gtN s) = false) : ins Op.bytesLess t s l = insTo s l t t.length false ++ [(s, l)] := by
  unfold insTo
  rw [if_neg (by decide), List.take_length]
  exact ins_none (any_no h)
theorem insTo_len {s : List UInt8} {l : List (List UInt8)} {t : TR} {k : Nat} {b : Bool} : (insTo s l t k b).length ≤ t.length + 1 := by
  unfold insTo
  split
  · rw [ins_len, List.length_take]; omega
  · rw [List.length_take]; omega

/-- A file in the place of another one, in a row that may have more room. -/
theorem put_upd2 {w w4 : World} {base g n cap k m c : Nat} {t : TR} {xs : List Value} {s : List UInt8} {l : List (List UInt8)} (hrow : w4.ownsRow base 44 2 (.slice (some ⟨g, 0, none⟩) n cap) n xs) (hF : FCells w4 (some g) t xs) (hn : t.length = n) (hi : ixF (isN s) t = some k)
    {A : Option Addr} (hm : l.length = m) (hc : m ≤ c) (hr : RdX w4 (some g) A l) (hb : Below w.heap.size w w4) (hbase : w.heap.size ≤ base) :
    TreeEnd w (upd t s l) (.returned (.slice (some ⟨g, 0, none⟩) n cap)) ((w4.setCell ⟨g, k * 2, none⟩ (strV s)).setCell ⟨g, k * 2 + 1, none⟩ (.slice A m c)) := by
  subst hm
  obtain ⟨hk, _⟩ := ixF_some hi
  have hu := upd_set (l := l) hi
  obtain ⟨⟨xs', r1, r2⟩, r3⟩ := store_file (k := k) (t2 := upd t s l) (x := (s, l)) (A := A) (c := c) hrow hF (fun j y hne hy => by
      rw [hu, List.getElem?_set_ne (fun e => hne e.symm)] at hy
      exact hy) (fun y hy => by
      rw [hu, List.getElem?_set_self hk] at hy
      injection hy with hy
      exact hy.symm) (by omega) hc hr
  have hlen : (upd t s l).length = n := by rw [upd_len]; exact hn
  refine treeEnd_own (base := base) ⟨xs', by rw [hlen]; exact r1, r2⟩ ?_
  have hg : w.heap.size ≤ g := Nat.le_trans hbase (hrow.lt g rfl).1
  exact (hb.setCell (p := ⟨g, k * 2, none⟩) hg _).setCell (p := ⟨g, k * 2 + 1, none⟩) hg _

set_option maxRecDepth 100000 in
set_option maxHeartbeats 4000000 in
theorem refPut (s : List UInt8) (A A' : Option Addr) (c n B m c' : Nat) (t : TR) (l : List (List UInt8)) (w : World) (hn : t.length = n) (hs : Small t) (h9 : n ≤ 50000) (hm : l.length = m) (hm5 : m ≤ 100000) (hB : B ≤ w.heap.size) (hR : RdT w B A t) (hR' : RdS w B A' l) :
    Calls Try.prog 30 #[.slice A n c, strV s, .slice A' m c'] w (TreeEnd w (put Op.bytesLess t s l)) := by
  obtain ⟨j0, hj, hy0, hy1, hy2⟩ := info_parts info_str
  have hln : n ≤ 100000 := by omega
  have hW := refWhere s A c n B t w hn hln hR
  obtain ⟨o, ho⟩ : ∃ o, ixF (isN s) t = o := ⟨_, rfl⟩
  rw [ho] at hW
  have HN := Lib.hid hn; have HM := Lib.hid hm; have HS := Lib.hid hs; have R := Lib.hid hR; have R' := Lib.hid hR'; have HW := Lib.hid hW; have HO := Lib.hid ho
  clear hn hm hs hR hR' hW ho
  go_enter Try.func30, Try.ntmps30
  go_wp2_with fail
  refine HW.out.mono ?_
  rintro e w1 ⟨rfl, rfl⟩
  have hchunk : ∀ w1 A1 c1, w1.ownsRow w.heap.size 9 1 (.slice A1 m c1) m (l.map strV) → w.grownBy w1 none → RdS w1 w1.heap.size A1 l ∧ m ≤ c1 ∧ Below w.heap.size w w1 := fun w1 A1 c1 h1 h2 => by
    obtain ⟨A2, c2, e, hc, hr⟩ := rd_of_own h1
    cases e
    exact ⟨hr, hc, below_gr h2⟩
  have HCH := Lib.hid hchunk; clear hchunk
  have HLM : Hid ((l.map strV).length = m) := Lib.hid (by rw [List.length_map]; exact HM.out)
  have hm6 : m ≤ maxLen := by unfold maxLen; omega
  have hm7 : m * 16 ≤ 140737488355328 := by omega
  have hw2 : ∀ w1 A1 c1, RdS w1 w1.heap.size A1 l → Below w.heap.size w w1 → Below w.heap.size w (w1.alloc (.cells #[strV s, .slice A1 m c1] 44)) ∧ Blk (w1.alloc (.cells #[strV s, .slice A1 m c1] 44)) w1.heap.size 44 #[strV s, .slice A1 m c1] ∧ RdS (w1.alloc (.cells #[strV s, .slice A1 m c1] 44)) (w1.alloc (.cells #[strV s, .slice A1 m c1] 44)).heap.size A1 l ∧ w1.heap.size < (w1.alloc (.cells #[strV s, .slice A1 m c1] 44)).heap.size := fun w1 A1 c1 h1 h2 =>
    have hb : Below w1.heap.size w1 (w1.alloc (.cells #[strV s, .slice A1 m c1] 44)) := (Below.refl _ _).alloc (Nat.le_refl _) _
    ⟨h2.trans (hb.mono h2.size), Blk.new _ _ _, (Rd.below h1 hb).up hb.size, by simp⟩
  have HW2 := Lib.hid hw2; clear hw2
  cases o with
  | some k =>
    have hkn : k < n := by have := (ixF_some HO.out).1; rw [HN.out] at this; exact this
    have hput : put Op.bytesLess t s l = upd t s l := by unfold put; rw [(get_ix HO.out).2.2.1]; rfl
    have HPUT := Lib.hid hput; clear hput
    have hn0 : ([] : TR).length + n ≤ 100000 := by show 0 + n ≤ _; omega
    have hn1 : 0 < n := by omega
    simp only [ixV]
    go_wp2_with (first
      | (at_builtin; refine wpList_nil' rfl (.const (.slice none 0 0)) (.tmp 17) 24 rfl 9 j0 (.string ⟨#[]⟩) 16 Try.underlying24 hj hy0 hy1 hy2 rfl rfl B A' m c' (l.map strV) rfl HLM.out R'.out (strs_one _) hm6 hm7 ?_; intro A1 c1 w1 hA hg;
          have hX := HCH.out w1 A1 c1 hA hg; have hY := HW2.out w1 A1 c1 hX.1 hX.2.2; obtain ⟨ys, y1, y2, y3⟩ := flat_cells (row := none) (RdT.below R.out (hY.1.mono hB)) (Nat.le_trans hB hY.1.size) (fun k e => by cases e); have HX := Lib.hid hX; have HY := Lib.hid hY; have Y1 := Lib.hid y1; have Y2 := Lib.hid y2; have Y3 := Lib.hid y3; clear hA hg hX hY y1 y2 y3)
      | (at_builtin; refine wpList_ownT rfl (.const (.slice none 0 0)) (.tmp 22) rfl (w1.alloc (.cells #[strV s, .slice A1 m c1] 44)).heap.size n c (.slice none 0 0) A [] t ys rfl rfl (ownT_nil _ _) Y2.out Y1.out Y3.out HN.out hn0 (Nat.le_refl _) ?_; intro v' W' ho hg; obtain ⟨xs, hrow, hF⟩ := ho; rw [List.nil_append] at hrow hF; rw [HN.out] at hrow; obtain ⟨g', cap, rfl, _, _⟩ := hrow.form hn1; obtain ⟨v0, v1, q0, q1, f0, f1⟩ := file_cells hrow hkn; have hbx := HY.out.2.1.gr hg (nn _); have x0 : W'.cell? ⟨w1.heap.size, 0, none⟩ = some (strV s) := hbx.cell 0 rfl; have x1 : W'.cell? ⟨w1.heap.size, 1, none⟩ = some (.slice A1 m c1) := hbx.cell 1 rfl;
          have hte := put_upd2 (w := w) (k := k) (s := s) (l := l) (A := A1) (m := m) (c := c1) hrow hF HN.out HO.out HM.out HX.out.2.1 (RdX.of (Rd.below HY.out.2.2.1 ((Below.refl _ _).grown hg (Nat.le_refl _) (fun k e => by cases e))) hg.size (fun k e => by injection e with e; subst e; exact (hrow.lt _ rfl).1)) (HY.out.1.grown hg HY.out.1.size (fun k e => by cases e)) HY.out.1.size; have HTE := Lib.hid hte; clear hrow hF hg hbx hte))
    go_ret
    rw [HPUT.out]
    exact HTE.out
  | none =>
    have hput : put Op.bytesLess t s l = ins Op.bytesLess t s l := by unfold put; rw [get_ix_none HO.out]; rfl
    have HPUT := Lib.hid hput; clear hput
    simp only [ixV]
    go_wp2_with (first
      | (at_builtin; refine wpList_nil' rfl (.const (.slice none 0 0)) (.tmp 17) 24 rfl 9 j0 (.string ⟨#[]⟩) 16 Try.underlying24 hj hy0 hy1 hy2 rfl rfl B A' m c' (l.map strV) rfl HLM.out R'.out (strs_one _) hm6 hm7 ?_; intro A1 c1 w1 hA hg;
          have hX := HCH.out w1 A1 c1 hA hg; have hY := HW2.out w1 A1 c1 hX.1 hX.2.2; have HX := Lib.hid hX; have HY := Lib.hid hY; clear hA hg hX hY))
    obtain ⟨fb, hfb⟩ : ∃ fb, w1.heap.size = fb := ⟨_, rfl⟩
    obtain ⟨w2, hw2⟩ : ∃ w2, w1.alloc (.cells #[strV s, .slice A1 m c1] 44) = w2 := ⟨_, rfl⟩
    have hY := HY.out
    rw [hw2, hfb] at hY
    rw [hw2, hfb]
    have hc1 : m ≤ c1 := HX.out.2.1
    have HBL := Lib.hid hY.2.1; have HRL := Lib.hid hY.2.2.1; have HB2 := Lib.hid hY.1; have hfg := hY.2.2.2
    clear hw2 hfb HX HY hY
    obtain ⟨g, hg⟩ : ∃ g, w2.heap.size = g := ⟨_, rfl⟩
    rw [hg] at HRL hfg
    have HG := Lib.hid hg
    have hBg : B ≤ g := by rw [← hg]; exact Nat.le_trans hB HB2.out.size
    clear hg
    have R2 := Lib.hid (RdT.below R.out (HB2.out.mono hB))
    go_loopw [10, 11, 12] (fun v d i wr => ∃ (k : Nat) (b : Bool), k ≤ n ∧ i = .int .i64 (k : Int) ∧ d = .bool b ∧ b = (t.take k).any (gtN s) ∧ OwnT wr g v (insTo s l t k b) ∧ Below g w2 wr) (fun _ _ i _ => n - (intOf i).toNat)
    case atStart => exact ⟨0, false, Nat.zero_le _, rfl, rfl, by simp, ownT_nil _ _, Below.refl _ _⟩
    case round =>
      obtain ⟨k, b, hk, rfl, rfl, hb, hown, hbw⟩ := hrel
      have HOWN := Lib.hid hown; have HBW := Lib.hid hbw; have HBB := Lib.hid hb
      clear hown hbw hb
      have hgw : g ≤ wr.heap.size := by have := HBW.out.size; rw [HG.out] at this; exact this
      have hbl := HBL.out.below HBW.out hfg
      have x0 : wr.cell? ⟨fb, 0, none⟩ = some (strV s) := hbl.cell 0 rfl
      have x1 : wr.cell? ⟨fb, 1, none⟩ = some (.slice A1 m c1) := hbl.cell 1 rfl
      have hrl := Rd.below HRL.out HBW.out
      have hlen := insTo_len (s := s) (l := l) (t := t) (k := k) (b := b)
      rw [HN.out] at hlen
      clear hbl
      by_cases hlt : k < n
      · have hkl : k < t.length := by rw [HN.out]; exact hlt
        obtain ⟨a, rfl, hab, hat⟩ := (RdT.below R2.out (HBW.out.mono hBg)).at_ hkl
        have hany := any_take (s := s) hkl
        have hpast := insTo_past (s := s) (l := l) hkl
        have hnone := insTo_none (s := s) (l := l) hkl
        have hhere := insTo_here (s := s) (l := l) hkl
        obtain ⟨x, hx⟩ : ∃ x, t[k] = x := ⟨_, rfl⟩
        rw [hx] at hat hany hpast hnone hhere
        clear hx
        obtain ⟨c0, A2, c2, k1, hc2, r1⟩ := hat
        obtain ⟨m2, hm2⟩ : ∃ m, x.2.length = m := ⟨_, rfl⟩
        rw [hm2] at k1 hc2
        rw [← HBB.out] at hany hpast hhere
        cases b with
        | true =>
          obtain ⟨D, hDe⟩ : ∃ D, insTo s l t k true = D := ⟨_, rfl⟩
          have hd := hpast rfl
          rw [hDe] at hd hlen
          have hown := HOWN.out
          rw [hDe] at hown
          obtain ⟨s1, s2, s3, s4⟩ := one_src (t := 44) hown hm2 hc2 r1 hBg hgw
          have hba : Below g w2 (wr.alloc (.cells #[strV x.1, .slice A2 m2 c2] 44)) := HBW.out.alloc hgw _
          have hge := ownT_ge hown
          have HD := Lib.hid hd; have S1 := Lib.hid s1; have S2 := Lib.hid s2; have S3 := Lib.hid s3; have HBA := Lib.hid hba; have HGE := Lib.hid hge; have HAN := Lib.hid hany
          have hdn : D.length + 1 ≤ 100000 := by omega
          clear hd s1 s2 s3 hba hm2 r1 hown hge hDe hany hpast hnone hhere hrl
          go_wp2_with (at_builtin; refine wpList_ownT rfl (.tmp 50) (.tmp 55) rfl g 1 1 u10 (some ⟨wr.heap.size, 0, none⟩) D [x] [strV x.1, .slice A2 m2 c2] rfl rfl S1.out S2.out rfl (.inr ⟨_, rfl, S3.out⟩) rfl hdn s4 ?_; intro v' W' ho hg; have HO2 := Lib.hid ho; have HB3 := Lib.hid (HBA.out.grown hg s4 HGE.out); clear ho hg)
          go_roundw
          case rel => exact ⟨k + 1, true, by omega, by go_num, rfl, by rw [HAN.out]; rfl, by rw [HD.out]; exact HO2.out, HB3.out⟩
          case measure => simp [intOf]; omega
        | false =>
          cases hgt : gtN s x with
          | false =>
            have h1 : Op.bytesLess s x.1 = false := hgt
            have h2 : (!Op.bytesLess x.1 s && !(x.1 == s)) = false := by rw [gt_eq]; exact hgt
            obtain ⟨D, hDe⟩ : ∃ D, insTo s l t k false = D := ⟨_, rfl⟩
            have hd := hnone
            rw [hDe] at hd hlen
            have hown := HOWN.out
            rw [hDe] at hown
            rw [hgt] at hany
            obtain ⟨s1, s2, s3, s4⟩ := one_src (t := 44) hown hm2 hc2 r1 hBg hgw
            have hba : Below g w2 (wr.alloc (.cells #[strV x.1, .slice A2 m2 c2] 44)) := HBW.out.alloc hgw _
            have hge := ownT_ge hown
            have HD := Lib.hid hd; have S1 := Lib.hid s1; have S2 := Lib.hid s2; have S3 := Lib.hid s3; have HBA := Lib.hid hba; have HGE := Lib.hid hge; have HAN := Lib.hid hany
            have hdn : D.length + 1 ≤ 100000 := by omega
            clear hd s1 s2 s3 hba hm2 r1 hown hge hDe hany hpast hnone hhere hrl hgt
            go_wp2_with (at_builtin; refine wpList_ownT rfl (.tmp 50) (.tmp 55) rfl g 1 1 u10 (some ⟨wr.heap.size, 0, none⟩) D [x] [strV x.1, .slice A2 m2 c2] rfl rfl S1.out S2.out rfl (.inr ⟨_, rfl, S3.out⟩) rfl hdn s4 ?_; intro v' W' ho hg; have HO2 := Lib.hid ho; have HB3 := Lib.hid (HBA.out.grown hg s4 HGE.out); clear ho hg)
            go_roundw
            case rel => exact ⟨k + 1, false, by omega, by go_num, rfl, by rw [HAN.out]; rfl, by rw [HD.out]; exact HO2.out, HB3.out⟩
            case measure => simp [intOf]; omega
          | true =>
            have h1 : Op.bytesLess s x.1 = true := hgt
            have h2 : (!Op.bytesLess x.1 s && !(x.1 == s)) = true := by rw [gt_eq]; exact hgt
            obtain ⟨D, hDe⟩ : ∃ D, insTo s l t k false = D := ⟨_, rfl⟩
            have hd := hhere rfl hgt
            rw [hDe] at hd hlen
            have hown := HOWN.out
            rw [hDe] at hown
            rw [hgt] at hany
            obtain ⟨p1, p2, p3, p4⟩ := one_src (x := (s, l)) (t := 44) hown HM.out hc1 hrl (Nat.le_refl _) hgw
            have hba : Below g w2 (wr.alloc (.cells #[strV s, .slice A1 m c1] 44)) := HBW.out.alloc hgw _
            have hge := ownT_ge hown
            have habg : a.block < g := Nat.lt_of_lt_of_le hab hBg
            have hxc : ∀ W, Below g wr W → W.cell? (a.add (k * 2)) = some (strV x.1) ∧ W.cell? ⟨(a.add (k * 2)).block, (a.add (k * 2)).off + 1, none⟩ = some (.slice A2 m2 c2) ∧ RdS W B A2 x.2 := fun W hb =>
              ⟨(hb.cell (by rw [add_block]; exact habg)).trans c0, (hb.cell (by show (a.add (k * 2)).block < g; rw [add_block]; exact habg)).trans k1, Rd.below r1 (hb.mono hBg)⟩
            have hsrc : ∀ W v1, OwnT W g v1 (D ++ [(s, l)]) → Below g w2 W → RdS W B A2 x.2 → OwnT (W.alloc (.cells #[strV x.1, .slice A2 m2 c2] 44)) g v1 (D ++ [(s, l)]) ∧ FCells (W.alloc (.cells #[strV x.1, .slice A2 m2 c2] 44)) v1.ownBlock [x] [strV x.1, .slice A2 m2 c2] ∧ (∀ j u, ([strV x.1, .slice A2 m2 c2] : List Value)[j]? = some u → (W.alloc (.cells #[strV x.1, .slice A2 m2 c2] 44)).cell? ((⟨W.heap.size, 0, none⟩ : Addr).add j) = some u) ∧ g ≤ (W.alloc (.cells #[strV x.1, .slice A2 m2 c2] 44)).heap.size ∧ Below g w2 (W.alloc (.cells #[strV x.1, .slice A2 m2 c2] 44)) := fun W v1 h1 h2 h3 =>
              have hz : g ≤ W.heap.size := by have := h2.size; rw [HG.out] at this; exact this
              have z := one_src (t := 44) h1 hm2 hc2 h3 hBg hz
              ⟨z.1, z.2.1, z.2.2.1, z.2.2.2, h2.alloc hz _⟩
            have hwr : ∀ W, (wr.alloc (.cells #[strV s, .slice A1 m c1] 44)).grownBy W u10.ownBlock → Below g wr W := fun W h => ((Below.refl g wr).alloc hgw _).grown h p4 hge
            have HD := Lib.hid hd; have P1 := Lib.hid p1; have P2 := Lib.hid p2; have P3 := Lib.hid p3; have HBA := Lib.hid hba; have HGE := Lib.hid hge; have HAN := Lib.hid hany; have HXC := Lib.hid hxc; have HSRC := Lib.hid hsrc; have HWR := Lib.hid hwr
            have hdn : D.length + 1 ≤ 100000 := by omega
            have hdn2 : (D ++ [(s, l)]).length + 1 ≤ 100000 := by rw [List.length_append]; show D.length + 1 + 1 ≤ _; omega
            have HDN2 := Lib.hid hdn2
            clear hd p1 p2 p3 hba hm2 r1 hown hge hDe hany hpast hnone hhere hrl hgt hxc hsrc hdn2 hwr
            go_wp2_with (first
              | (at_builtin; refine wpList_ownT rfl (.tmp 46) (.tmp 48) rfl g 1 1 u10 (some ⟨wr.heap.size, 0, none⟩) D [(s, l)] [strV s, .slice A1 m c1] rfl rfl P1.out P2.out rfl (.inr ⟨_, rfl, P3.out⟩) rfl hdn p4 ?_; intro v1 W1 ho hg; have hb3 := HBA.out.grown hg p4 HGE.out; obtain ⟨y0, y1, y2⟩ := HXC.out W1 (HWR.out W1 hg); obtain ⟨s1, s2, s3, s4, s5⟩ := HSRC.out W1 v1 ho hb3 y2; have hge1 := ownT_ge ho; have S1 := Lib.hid s1; have S2 := Lib.hid s2; have S3 := Lib.hid s3; have S5 := Lib.hid s5; have HGE1 := Lib.hid hge1; clear ho hg hb3 y2 s1 s2 s3 s5 hge1)
              | (at_builtin; refine wpList_ownT rfl (.tmp 50) (.tmp 55) rfl g 1 1 v1 (some ⟨W1.heap.size, 0, none⟩) (D ++ [(s, l)]) [x] [strV x.1, .slice A2 m2 c2] rfl rfl S1.out S2.out rfl (.inr ⟨_, rfl, S3.out⟩) rfl HDN2.out s4 ?_; intro v' W' ho hg; have HO2 := Lib.hid ho; have HB3 := Lib.hid (S5.out.grown hg s4 HGE1.out); clear ho hg))
            go_roundw
            case rel => exact ⟨k + 1, true, by omega, by go_num, rfl, by rw [HAN.out]; rfl, by rw [HD.out]; exact HO2.out, HB3.out⟩
            case measure => simp [intOf]; omega
      · obtain rfl : k = n := by omega
        have hfin : ∀ v' W', OwnT W' g v' (ins Op.bytesLess t s l) → Below g w2 W' → TreeEnd w (put Op.bytesLess t s l) (.returned v') W' := fun v' W' h1 h2 => by
          rw [HPUT.out]
          exact treeEnd_own h1 (HB2.out.trans (h2.mono (by have := HB2.out.size; rw [HG.out] at this; exact this)))
        have HFIN := Lib.hid hfin; clear hfin
        have htl : t.take k = t := List.take_of_length_le (by rw [HN.out]; exact Nat.le_refl _)
        have hbb := HBB.out
        rw [htl] at hbb
        cases b with
        | true =>
          have hown := HOWN.out
          rw [show insTo s l t k true = ins Op.bytesLess t s l by unfold insTo; rw [if_pos rfl, htl]] at hown
          have HTE := Lib.hid (HFIN.out _ _ hown HBW.out)
          clear hown htl hbb
          go_wp2
          go_ret
          exact HTE.out
        | false =>
          have hend := insTo_end (s := s) (l := l) hbb.symm
          rw [HN.out] at hend
          obtain ⟨D, hDe⟩ : ∃ D, insTo s l t k false = D := ⟨_, rfl⟩
          rw [hDe] at hend hlen
          have hown := HOWN.out
          rw [hDe] at hown
          obtain ⟨p1, p2, p3, p4⟩ := one_src (x := (s, l)) (t := 44) hown HM.out hc1 hrl (Nat.le_refl _) hgw
          have hba : Below g w2 (wr.alloc (.cells #[strV s, .slice A1 m c1] 44)) := HBW.out.alloc hgw _
          have hge := ownT_ge hown
          have HEND := Lib.hid hend; have P1 := Lib.hid p1; have P2 := Lib.hid p2; have P3 := Lib.hid p3; have HBA := Lib.hid hba; have HGE := Lib.hid hge
          have hdn : D.length + 1 ≤ 100000 := by omega
          clear hend p1 p2 p3 hba hown hge hDe htl hbb hrl
          go_wp2_with (at_builtin; refine wpList_ownT rfl (.tmp 59) (.tmp 61) rfl g 1 1 u10 (some ⟨wr.heap.size, 0, none⟩) D [(s, l)] [strV s, .slice A1 m c1] rfl rfl P1.out P2.out rfl (.inr ⟨_, rfl, P3.out⟩) rfl hdn p4 ?_; intro v' W' ho hg; rw [← HEND.out] at ho; have HTE := Lib.hid (HFIN.out v' W' ho (HBA.out.grown hg p4 HGE.out)); clear ho hg)
          go_ret
          exact HTE.out

end Tr
end Go.Proofs.Ytdjeebfbffoehaa
