/-
  What the document's own Of of layer 13 returns (walk): what changes one tree into another one.
-/
import Derived.Test.YtjhjmfodpnipiaaNwRefL
import Derived.Test.YtjhjmfodpnipiaaNwOf
import Derived.Test.YtjhjmfodpnipiaaTrRefLaw
set_option maxRecDepth 100000
namespace Go.Proofs.Ytjhjmfodpnipiaa
open Go.RowKit
set_option linter.unusedVariables false
set_option linter.unusedSimpArgs false
namespace Nw
open Tx Df Sq Hk Tr Pr Fl

theorem chV_eq (W : World) (k : Int) (nm : List UInt8) : W.alloc (.cells #[.int .i64 k, strV nm, .string ⟨#[]⟩, .int .i64 0, .slice none 0 0, .slice none 0 0] 39) = W.alloc (.cells #[.int .i64 (⟨k, nm, [], noneH⟩ : Ch).k, strV (⟨k, nm, [], noneH⟩ : Ch).nm, strV (⟨k, nm, [], noneH⟩ : Ch).to, .int .i64 (⟨k, nm, [], noneH⟩ : Ch).h.pos, .slice none 0 0, .slice none 0 0] 39) := rfl

set_option maxRecDepth 100000 in
set_option maxHeartbeats 8000000 in
theorem refOfN (A A' : Option Addr) (n c n' c' : Nat) (t u : TR) (w : World) (hn : t.length = n) (hn' : u.length = n') (hs : Small t) (hs' : Small u) (h40 : t.length ≤ 40) (h40' : u.length ≤ 40) (hf : Few60 t) (hf' : Few60 u) (hR : RdT w w.heap.size A t) (hR' : RdT w w.heap.size A' u) :
    Calls Try.prog 9 #[.slice A n c, .slice A' n' c'] w (NewsEnd w (newsP t u)) := by
  have HN := Lib.hid hn; have HN' := Lib.hid hn'; have HS := Lib.hid hs; have HS' := Lib.hid hs'; have HR := Lib.hid hR; have HR' := Lib.hid hR'
  have HF := Lib.hid hf; have HF' := Lib.hid hf'; have H40 := Lib.hid h40; have H40' := Lib.hid h40'
  clear hn hn' hs hs' hR hR' hf hf' h40 h40'
  obtain ⟨bt, hbt⟩ : ∃ b, mayT t = b := ⟨_, rfl⟩
  obtain ⟨bu, hbu⟩ : ∃ b, mayT u = b := ⟨_, rfl⟩
  have HBT := Lib.hid hbt; have HBU := Lib.hid hbu
  clear hbt hbu
  go_enter Try.func9, Try.ntmps9
  go_wp2_with fail
  refine (refMayC (b := bt) HN.out HS.out HR.out HBT.out).mono ?_
  rintro e w1 ⟨rfl, hb1⟩
  have HB1 := Lib.hid hb1
  clear hb1
  go_wp2_with fail
  refine (refMayC (b := bu) HN'.out HS'.out (HR'.out.mv HB1.out) HBU.out).mono ?_
  rintro e w2 ⟨rfl, hb2⟩
  have HB2 := Lib.hid (below_mv HB1.out hb2)
  clear hb2 HB1
  by_cases hbb : (bt && bu) = false
  · have HE : Hid (newsP t u = (1, [])) := Lib.hid (by unfold newsP; rw [HBT.out, HBU.out, hbb]; rfl)
    cases bt <;> cases bu
    case true.true => cases hbb
    all_goals
      clear hbb
      go_wp2
      go_ret2
      exact ⟨none, 0, 0, (by rw [HE.out]; rfl), Nat.le_refl _, by rw [HE.out]; rfl, by rw [HE.out]; exact .inl rfl, HB2.out⟩
  obtain ⟨rfl, rfl⟩ : bt = true ∧ bu = true := by
    cases bt <;> cases bu <;> first | exact ⟨rfl, rfl⟩ | exact absurd rfl hbb
  have HE : Hid (newsP t u = (0, newsL t u)) := Lib.hid (by unfold newsP; rw [HBT.out, HBU.out]; rfl)
  clear hbb HBT HBU
  obtain ⟨NS, hNS⟩ : ∃ NS, namesN t u = NS := ⟨_, rfl⟩
  have hNS' : names Op.bytesLess (t.map (·.1) ++ u.map (·.1)) = NS := hNS
  obtain ⟨K, hK⟩ : ∃ K, NS.length = K := ⟨_, rfl⟩
  have HNS := Lib.hid hNS'; have HK := Lib.hid hK
  have hK80 : NS.length ≤ 80 := by
    have h1 := names_len (lt := Op.bytesLess) (t.map (·.1) ++ u.map (·.1))
    rw [hNS', List.length_append, List.length_map, List.length_map] at h1
    have := H40.out; have := H40'.out
    omega
  have hnm : ∀ x ∈ NS, x.length ≤ 100000 := by
    have h1 := (small_names HS.out HS'.out H40.out H40'.out).2
    rw [hNS'] at h1
    exact h1
  have HNM := Lib.hid hnm; have HK80 := Lib.hid hK80
  have HLF : Hid (newsL t u = NS.flatMap fun n => oneN n (get t n) (get u n)) := Lib.hid (by unfold newsL; rw [hNS])
  rw [hK] at hK80
  clear hNS hNS' hK hnm
  go_wp2_with fail
  refine (refNamesC H40.out H40'.out HN.out HN'.out HS.out HS'.out (HR.out.to (Nat.le_refl _) HB2.out) (HR'.out.to (Nat.le_refl _) HB2.out) HNS.out HK.out).mono ?_
  rintro e w3 ⟨A3, c3, rfl, hc3, hr3, hb3⟩
  have HB3 := Lib.hid (below_mv HB2.out hb3); have HR3 := Lib.hid hr3
  have hsz := HB3.out.size
  have HSZ := Lib.hid hsz
  clear hb3 hr3 HB2 hsz
  go_wp2_with fail
  go_loopw [9, 10] (fun v9 i wr => ∃ (k : Nat) (A5 : Option Addr) (n5 c5 : Nat), k ≤ K ∧ i = .int .i64 (k : Int) ∧ v9 = .slice A5 n5 c5 ∧ OwnP wr w3.heap.size (.slice A5 n5 c5) ((NS.take k).flatMap fun n => oneN n (get t n) (get u n)) ∧ Below w3.heap.size w3 wr) (fun _ i _ => K - (intOf i).toNat)
  case atStart => exact ⟨0, none, 0, 0, Nat.zero_le _, rfl, rfl, ownP_nil _ _, Below.refl _ _⟩
  case round =>
    obtain ⟨k, A5, n5, c5, hk, rfl, rfl, ho, hbr⟩ := hrel
    have HO := Lib.hid ho; have HBR := Lib.hid hbr
    clear ho hbr
    by_cases hlt : k < K
    · have hki : (k : Int) < (K : Int) := by omega
      have hki0 : (0 : Int) ≤ (k : Int) := by omega
      have hkl : k < NS.length := by rw [HK.out]; exact hlt
      obtain ⟨nm, hnm⟩ : ∃ nm, NS[k]? = some nm := ⟨_, List.getElem?_eq_getElem hkl⟩
      obtain ⟨a, rfl, hcell⟩ : ∃ a, A3 = some a ∧ ∀ W, Below w3.heap.size w3 W → W.cell? (a.add k) = some (strV nm) := by
        rcases HR3.out with h | ⟨a, e, hal, hc⟩
        · have : NS = [] := List.map_eq_nil_iff.1 h
          rw [this] at hkl
          exact absurd hkl (by simp)
        · exact ⟨a, e, fun W hb => (hb.cell (by rw [add_block]; exact hal)).trans (hc k _ (by rw [List.getElem?_map, hnm]; rfl))⟩
      have HC := Lib.hid hcell
      have HX := Lib.hid hnm
      have hnl := HNM.out nm (List.mem_of_getElem? hnm)
      have x0 := HC.out wr HBR.out
      have HFL := Lib.hid (flat_take (fun n => oneN_len n _ _ (get_few HF.out n) (get_few HF'.out n)) NS k HK80.out)
      have HFS := Lib.hid (flat_snoc (f := fun n => oneN n (get t n) (get u n)) hnm)
      have HL1 := Lib.hid (get_few HF.out nm); have HL2 := Lib.hid (get_few HF'.out nm)
      obtain ⟨PF, hPF⟩ : ∃ PF, ((NS.take k).flatMap fun n => oneN n (get t n) (get u n)) = PF := ⟨_, rfl⟩
      have hfs := HFS.out; have hfl := HFL.out
      rw [hPF] at HO hfs hfl
      replace HFS := Lib.hid hfs
      replace HFL := Lib.hid hfl
      have hb0 := HB3.out.trans (HBR.out.mono HSZ.out)
      have HBW := Lib.hid hb0
      have HLTT := Lib.hid (ownP_lt HO.out)
      clear hcell hnm hPF hfs hfl hb0 hkl
      go_wp2_with fail
      refine (refGetH nm A c n w.heap.size t wr HN.out HS.out HBW.out.size (HR.out.below HBW.out)).mono ?_
      rintro e w4 ⟨A1, c1, rfl, hc1, hr1, hh1, hb4⟩
      obtain ⟨x, hx⟩ : ∃ x, get t nm = x := ⟨_, rfl⟩
      have HGX := Lib.hid hx
      have HL := HL1.out
      rw [hx] at hc1 hr1 HL ⊢
      obtain ⟨L, hLe⟩ : ∃ L, x.getD [] = L := ⟨_, rfl⟩
      rw [hLe] at hc1 hr1 HL ⊢
      obtain ⟨m, hm⟩ : ∃ m, L.length = m := ⟨_, rfl⟩
      rw [hm] at hc1 HL ⊢
      have HLE := Lib.hid hLe; have HMM := Lib.hid hm; have HC1 := Lib.hid hc1; have HR1 := Lib.hid hr1; have HH1 := Lib.hid hh1
      have HB4 := Lib.hid (below_mv HBR.out hb4)
      have HO4 := Lib.hid (HO.out.below hb4)
      have HBW4 := Lib.hid (below_mv HBW.out hb4)
      have HSZ4 := Lib.hid hb4.size
      have x4 := HC.out w4 HB4.out
      clear hx hLe hm hc1 hr1 hh1 hb4 x0 HO HL1 HBW
      go_wp2_with fail
      refine (refGetH nm A' c' n' w.heap.size u w4 HN'.out HS'.out HBW4.out.size (HR'.out.below HBW4.out)).mono ?_
      rintro e w5 ⟨A2, c2, rfl, hc2, hr2, hh2, hb5⟩
      obtain ⟨y, hy⟩ : ∃ y, get u nm = y := ⟨_, rfl⟩
      have HGY := Lib.hid hy
      have HL' := HL2.out
      rw [hy] at hc2 hr2 HL' ⊢
      obtain ⟨L', hLe'⟩ : ∃ L', y.getD [] = L' := ⟨_, rfl⟩
      rw [hLe'] at hc2 hr2 HL' ⊢
      obtain ⟨m', hm'⟩ : ∃ m', L'.length = m' := ⟨_, rfl⟩
      rw [hm'] at hc2 HL' ⊢
      have HLE' := Lib.hid hLe'; have HMM' := Lib.hid hm'; have HC2 := Lib.hid hc2
      have HX0 := Lib.hid (hunks_short HS.out HS'.out HGX.out HGY.out HLE.out HLE'.out)
      have HR15 := Lib.hid (rdS_mv HR1.out hb5); have HR25 := Lib.hid hr2
      have HH15 := HH1; have HH25 := Lib.hid (hh2.mono HSZ4.out)
      have HO5 := Lib.hid (HO4.out.below hb5)
      have HB5 := Lib.hid (below_mv HB4.out hb5)
      have HLT5 : Hid (∀ g, (Value.slice A5 n5 c5).ownBlock = some g → g < wr.heap.size) := Lib.hid HLTT.out
      have HS5 := Lib.hid (Nat.le_trans HSZ4.out hb5.size)
      have x5 := HC.out w5 HB5.out
      obtain ⟨bx, hbx⟩ : ∃ bx, x.isSome = bx := ⟨_, rfl⟩
      obtain ⟨by_, hby⟩ : ∃ bx, y.isSome = bx := ⟨_, rfl⟩
      rw [hbx, hby]
      have HBX := Lib.hid hbx; have HBY := Lib.hid hby
      clear hy hLe' hm' hc2 hr2 hh2 hb5 x4 HO4 HL2 HB4 HBW4 hbx hby HR1 HH1
      cases bx
      case false =>
        cases by_
        case false =>
          have hba : Below w5.heap.size w5 (w5.alloc (.cells #[.int .i64 0, strV nm, .string ⟨#[]⟩, .int .i64 0, .slice none 0 0, .slice none 0 0] 39)) := (Below.refl _ _).alloc (Nat.le_refl _) _
          have hbn := Blk.new w5 39 #[.int .i64 (addP nm).k, strV (addP nm).nm, strV (addP nm).to, .int .i64 (addP nm).h.pos, .slice none 0 0, .slice none 0 0]
          have HOA := Lib.hid (HO5.out.below hba)
          have HCA : Hid (PCells (w5.alloc (.cells #[.int .i64 0, strV nm, .string ⟨#[]⟩, .int .i64 0, .slice none 0 0, .slice none 0 0] 39)) (Out (w5.alloc (.cells #[.int .i64 0, strV nm, .string ⟨#[]⟩, .int .i64 0, .slice none 0 0, .slice none 0 0] 39)) (Value.slice A5 n5 c5).ownBlock) [addP nm] [.int .i64 0, strV nm, .string ⟨#[]⟩, .int .i64 0, .slice none 0 0, .slice none 0 0]) := Lib.hid (PCells.one (pg_none (w5.alloc (.cells #[.int .i64 0, strV nm, .string ⟨#[]⟩, .int .i64 0, .slice none 0 0, .slice none 0 0] 39)) _ 0 nm (by decide) hnl))
          have HSRC := Lib.hid (one_srcP hbn)
          have HBA := Lib.hid (HB5.out.trans (hba.mono HB5.out.size))
          have HSA := Lib.hid hba.size
          clear hba hbn
          go_wp2_with (at_builtin; (refine wpList_ownP rfl (.tmp 54) (.tmp 60) rfl w3.heap.size 1 1 (.slice A5 n5 c5) (some ⟨w5.heap.size, 0, none⟩) (PF) [addP nm] _ rfl rfl HOA.out HCA.out rfl (.inr ⟨_, rfl, HSRC.out⟩) rfl (by have h0 := HFL.out; first | omega | (rw [List.length_append]; simp only [List.length_cons, List.length_nil]; omega)) HBA.out.size ?_; intro vv w6 ho hg; obtain ⟨A6, c6, hvv, _, _, _⟩ := rdP_own ho; obtain ⟨n6, hn2⟩ : ∃ q, List.length (PF ++ [addP nm]) = q := ⟨_, rfl⟩; rw [hn2] at hvv; subst hvv; clear hn2; have HOB := Lib.hid ho; have HGB := Lib.hid hg; have HBB := Lib.hid (HBA.out.grown hg HBA.out.size (fun g e => ownP_ge HOA.out g e)); have xn := HC.out w6 HBB.out; clear ho hg))
          have HALK : Hid (∀ b, wr.heap.size ≤ b → b < w5.heap.size → w6.heap[b]? = w5.heap[b]?) := Lib.hid (fun b h1 h2 => (HGB.out.block b (Nat.lt_of_lt_of_le h2 HSA.out) (fun e => by have := HLT5.out b e.symm; omega)).trans (((Below.refl w5.heap.size w5).alloc (Nat.le_refl _) _).block b h2))
          have hs56 := Nat.le_trans HSA.out HGB.out.size
          have HR16 : Hid (RdS w6 w6.heap.size A1 L) := Lib.hid ((((rdG_hi HR15.out HH15.out).to (W' := w6) (fun b hb _ => HALK.out b hb.1 hb.2)).mono (fun b hb => Nat.lt_of_lt_of_le hb.2 hs56)).rd)
          have HR26 : Hid (RdS w6 w6.heap.size A2 L') := Lib.hid ((((rdG_hi HR25.out HH25.out).to (W' := w6) (fun b hb _ => HALK.out b hb.1 hb.2)).mono (fun b hb => Nat.lt_of_lt_of_le hb.2 hs56)).rd)
          have HLT6 := Lib.hid (ownP_lt HOB.out)
          have HO6 := HOB; have HB6 := HBB
          clear HALK HR15 HR25 hs56 HGB HOA HCA HSRC HBA HSA HOB HBB
          go_wp2_with fail
          refine (refLines nm A1 A2 m c1 m' c2 L L' w6 hnl HMM.out HMM'.out HC1.out HC2.out (by omega) (by omega) HX0.out HR16.out HR26.out).mono ?_
          rintro e w7 ⟨A7, c7, rfl, hc7, hr7, hb7⟩
          obtain ⟨H, hH⟩ : ∃ H, (hunks L L').map (patchP nm) = H := ⟨_, rfl⟩
          have hlen : H.length ≤ 200 := by
            rw [← hH, List.length_map]
            unfold hunks
            rw [hks_len]
            have h1 := edits_len_le L L'
            rw [HMM.out, HMM'.out] at h1
            omega
          rw [hH] at hc7 hr7 ⊢
          obtain ⟨n7, hn7⟩ : ∃ n7, H.length = n7 := ⟨_, rfl⟩
          rw [hn7] at hc7 hlen ⊢
          have HHH := Lib.hid hH; have HN7 := Lib.hid hn7; have HR7 := Lib.hid hr7
          have HO7 := Lib.hid (HO6.out.below hb7)
          have HB7 := Lib.hid (below_mv HB6.out hb7)
          have HL7 : Hid ((PF ++ [addP nm]).length + n7 ≤ 100000) := Lib.hid (by have h0 := HFL.out; first | omega | (rw [List.length_append]; simp only [List.length_cons, List.length_nil]; omega))
          have HP8 : Hid (PF ++ [addP nm] ++ H = PF ++ ((if x.isSome then [] else [addP nm]) ++ (hunks (x.getD []) (y.getD [])).map (patchP nm))) := Lib.hid (by
            rw [HLE.out, HLE'.out, HHH.out]; rw [HBX.out]; simp)
          have HL8 : Hid ((PF ++ [addP nm] ++ H).length ≤ 90000) := Lib.hid (by have h0 := HFL.out; have h1 := HN7.out; rw [List.length_append]; first | omega | (rw [List.length_append]; simp only [List.length_cons, List.length_nil]; omega))
          obtain ⟨l8, hl8⟩ : ∃ l8, PF ++ [addP nm] ++ H = l8 := ⟨_, rfl⟩
          rw [hl8] at HP8 HL8
          have HL88 := Lib.hid hl8
          clear hH hn7 hr7 hc7 hb7 hl8
          go_wp2_with (at_builtin; first
            | (refine wpList_ownPH rfl (.tmp 62) (.tmp 69) rfl w3.heap.size w6.heap.size n7 c7 (.slice A6 n6 c6) A7 (PF ++ [addP nm]) H rfl rfl HO7.out HLT6.out HR7.out HN7.out HL7.out HB7.out.size ?_; intro vv w8 ho hg; obtain ⟨A8, c8, hvv, _, _, _⟩ := rdP_own ho; rw [HL88.out] at ho hvv; obtain ⟨n8, hn8⟩ : ∃ q, List.length l8 = q := ⟨_, rfl⟩; rw [hn8] at hvv; subst hvv; clear hn8; have HO8 := Lib.hid ho; have HB8 := Lib.hid (HB7.out.grown hg HB7.out.size (fun g e => ownP_ge HO7.out g e)); clear ho hg; have x8 := HC.out w8 HB8.out; clear HO7 HB7 HR7; have hba : Below w8.heap.size w8 (w8.alloc (.cells #[.int .i64 1, strV nm, .string ⟨#[]⟩, .int .i64 0, .slice none 0 0, .slice none 0 0] 39)) := (Below.refl _ _).alloc (Nat.le_refl _) _; have hbn := Blk.new w8 39 #[.int .i64 (rmP nm).k, strV (rmP nm).nm, strV (rmP nm).to, .int .i64 (rmP nm).h.pos, .slice none 0 0, .slice none 0 0]; have HOA := Lib.hid (HO8.out.below hba); have HCA : Hid (PCells (w8.alloc (.cells #[.int .i64 1, strV nm, .string ⟨#[]⟩, .int .i64 0, .slice none 0 0, .slice none 0 0] 39)) (Out (w8.alloc (.cells #[.int .i64 1, strV nm, .string ⟨#[]⟩, .int .i64 0, .slice none 0 0, .slice none 0 0] 39)) (Value.slice A8 n8 c8).ownBlock) [rmP nm] [.int .i64 1, strV nm, .string ⟨#[]⟩, .int .i64 0, .slice none 0 0, .slice none 0 0]) := Lib.hid (PCells.one (pg_none (w8.alloc (.cells #[.int .i64 1, strV nm, .string ⟨#[]⟩, .int .i64 0, .slice none 0 0, .slice none 0 0] 39)) _ 1 nm (by decide) hnl)); have HSRC := Lib.hid (one_srcP hbn); have HBA := Lib.hid (HB8.out.trans (hba.mono HB8.out.size)); have HSA := Lib.hid hba.size; clear hba hbn)
            | (refine wpList_ownP rfl (.tmp 73) (.tmp 79) rfl w3.heap.size 1 1 (.slice A8 n8 c8) (some ⟨w8.heap.size, 0, none⟩) (l8) [rmP nm] _ rfl rfl HOA.out HCA.out rfl (.inr ⟨_, rfl, HSRC.out⟩) rfl (by have h0 := HL8.out; first | omega | (rw [List.length_append]; simp only [List.length_cons, List.length_nil]; omega)) HBA.out.size ?_; intro vv w9 ho hg; obtain ⟨A9, c9, hvv, _, _, _⟩ := rdP_own ho; obtain ⟨n9, hn2⟩ : ∃ q, List.length (l8 ++ [rmP nm]) = q := ⟨_, rfl⟩; rw [hn2] at hvv; subst hvv; clear hn2; have HOB := Lib.hid ho; have HGB := Lib.hid hg; have HBB := Lib.hid (HBA.out.grown hg HBA.out.size (fun g e => ownP_ge HOA.out g e)); have xn := HC.out w9 HBB.out; clear ho hg))
          have HF8 : Hid (l8 ++ [rmP nm] = (NS.take (k + 1)).flatMap fun n => oneN n (get t n) (get u n)) := Lib.hid (by
            have hz : (if y.isSome then [] else [rmP nm]) = [rmP nm] := by rw [HBY.out]; rfl
            rw [← HFS.out, HP8.out, HGX.out, HGY.out]; unfold oneN; rw [hz]; simp only [List.append_assoc])
          have ho := HOB.out
          rw [HF8.out] at ho
          exact ⟨⟨k + 1, A9, n9, c9, by omega, by go_num, rfl, ho, HBB.out⟩, by simp [intOf]; omega⟩
        case true =>
          have hba : Below w5.heap.size w5 (w5.alloc (.cells #[.int .i64 0, strV nm, .string ⟨#[]⟩, .int .i64 0, .slice none 0 0, .slice none 0 0] 39)) := (Below.refl _ _).alloc (Nat.le_refl _) _
          have hbn := Blk.new w5 39 #[.int .i64 (addP nm).k, strV (addP nm).nm, strV (addP nm).to, .int .i64 (addP nm).h.pos, .slice none 0 0, .slice none 0 0]
          have HOA := Lib.hid (HO5.out.below hba)
          have HCA : Hid (PCells (w5.alloc (.cells #[.int .i64 0, strV nm, .string ⟨#[]⟩, .int .i64 0, .slice none 0 0, .slice none 0 0] 39)) (Out (w5.alloc (.cells #[.int .i64 0, strV nm, .string ⟨#[]⟩, .int .i64 0, .slice none 0 0, .slice none 0 0] 39)) (Value.slice A5 n5 c5).ownBlock) [addP nm] [.int .i64 0, strV nm, .string ⟨#[]⟩, .int .i64 0, .slice none 0 0, .slice none 0 0]) := Lib.hid (PCells.one (pg_none (w5.alloc (.cells #[.int .i64 0, strV nm, .string ⟨#[]⟩, .int .i64 0, .slice none 0 0, .slice none 0 0] 39)) _ 0 nm (by decide) hnl))
          have HSRC := Lib.hid (one_srcP hbn)
          have HBA := Lib.hid (HB5.out.trans (hba.mono HB5.out.size))
          have HSA := Lib.hid hba.size
          clear hba hbn
          go_wp2_with (at_builtin; (refine wpList_ownP rfl (.tmp 54) (.tmp 60) rfl w3.heap.size 1 1 (.slice A5 n5 c5) (some ⟨w5.heap.size, 0, none⟩) (PF) [addP nm] _ rfl rfl HOA.out HCA.out rfl (.inr ⟨_, rfl, HSRC.out⟩) rfl (by have h0 := HFL.out; first | omega | (rw [List.length_append]; simp only [List.length_cons, List.length_nil]; omega)) HBA.out.size ?_; intro vv w6 ho hg; obtain ⟨A6, c6, hvv, _, _, _⟩ := rdP_own ho; obtain ⟨n6, hn2⟩ : ∃ q, List.length (PF ++ [addP nm]) = q := ⟨_, rfl⟩; rw [hn2] at hvv; subst hvv; clear hn2; have HOB := Lib.hid ho; have HGB := Lib.hid hg; have HBB := Lib.hid (HBA.out.grown hg HBA.out.size (fun g e => ownP_ge HOA.out g e)); have xn := HC.out w6 HBB.out; clear ho hg))
          have HALK : Hid (∀ b, wr.heap.size ≤ b → b < w5.heap.size → w6.heap[b]? = w5.heap[b]?) := Lib.hid (fun b h1 h2 => (HGB.out.block b (Nat.lt_of_lt_of_le h2 HSA.out) (fun e => by have := HLT5.out b e.symm; omega)).trans (((Below.refl w5.heap.size w5).alloc (Nat.le_refl _) _).block b h2))
          have hs56 := Nat.le_trans HSA.out HGB.out.size
          have HR16 : Hid (RdS w6 w6.heap.size A1 L) := Lib.hid ((((rdG_hi HR15.out HH15.out).to (W' := w6) (fun b hb _ => HALK.out b hb.1 hb.2)).mono (fun b hb => Nat.lt_of_lt_of_le hb.2 hs56)).rd)
          have HR26 : Hid (RdS w6 w6.heap.size A2 L') := Lib.hid ((((rdG_hi HR25.out HH25.out).to (W' := w6) (fun b hb _ => HALK.out b hb.1 hb.2)).mono (fun b hb => Nat.lt_of_lt_of_le hb.2 hs56)).rd)
          have HLT6 := Lib.hid (ownP_lt HOB.out)
          have HO6 := HOB; have HB6 := HBB
          clear HALK HR15 HR25 hs56 HGB HOA HCA HSRC HBA HSA HOB HBB
          go_wp2_with fail
          refine (refLines nm A1 A2 m c1 m' c2 L L' w6 hnl HMM.out HMM'.out HC1.out HC2.out (by omega) (by omega) HX0.out HR16.out HR26.out).mono ?_
          rintro e w7 ⟨A7, c7, rfl, hc7, hr7, hb7⟩
          obtain ⟨H, hH⟩ : ∃ H, (hunks L L').map (patchP nm) = H := ⟨_, rfl⟩
          have hlen : H.length ≤ 200 := by
            rw [← hH, List.length_map]
            unfold hunks
            rw [hks_len]
            have h1 := edits_len_le L L'
            rw [HMM.out, HMM'.out] at h1
            omega
          rw [hH] at hc7 hr7 ⊢
          obtain ⟨n7, hn7⟩ : ∃ n7, H.length = n7 := ⟨_, rfl⟩
          rw [hn7] at hc7 hlen ⊢
          have HHH := Lib.hid hH; have HN7 := Lib.hid hn7; have HR7 := Lib.hid hr7
          have HO7 := Lib.hid (HO6.out.below hb7)
          have HB7 := Lib.hid (below_mv HB6.out hb7)
          have HL7 : Hid ((PF ++ [addP nm]).length + n7 ≤ 100000) := Lib.hid (by have h0 := HFL.out; first | omega | (rw [List.length_append]; simp only [List.length_cons, List.length_nil]; omega))
          have HP8 : Hid (PF ++ [addP nm] ++ H = PF ++ ((if x.isSome then [] else [addP nm]) ++ (hunks (x.getD []) (y.getD [])).map (patchP nm))) := Lib.hid (by
            rw [HLE.out, HLE'.out, HHH.out]; rw [HBX.out]; simp)
          have HL8 : Hid ((PF ++ [addP nm] ++ H).length ≤ 90000) := Lib.hid (by have h0 := HFL.out; have h1 := HN7.out; rw [List.length_append]; first | omega | (rw [List.length_append]; simp only [List.length_cons, List.length_nil]; omega))
          obtain ⟨l8, hl8⟩ : ∃ l8, PF ++ [addP nm] ++ H = l8 := ⟨_, rfl⟩
          rw [hl8] at HP8 HL8
          have HL88 := Lib.hid hl8
          clear hH hn7 hr7 hc7 hb7 hl8
          go_wp2_with (at_builtin; (refine wpList_ownPH rfl (.tmp 62) (.tmp 69) rfl w3.heap.size w6.heap.size n7 c7 (.slice A6 n6 c6) A7 (PF ++ [addP nm]) H rfl rfl HO7.out HLT6.out HR7.out HN7.out HL7.out HB7.out.size ?_; intro vv w8 ho hg; obtain ⟨A8, c8, hvv, _, _, _⟩ := rdP_own ho; rw [HL88.out] at ho hvv; obtain ⟨n8, hn8⟩ : ∃ q, List.length l8 = q := ⟨_, rfl⟩; rw [hn8] at hvv; subst hvv; clear hn8; have HO8 := Lib.hid ho; have HB8 := Lib.hid (HB7.out.grown hg HB7.out.size (fun g e => ownP_ge HO7.out g e)); clear ho hg; have x8 := HC.out w8 HB8.out; clear HO7 HB7 HR7))
          have HF8 : Hid (l8 = (NS.take (k + 1)).flatMap fun n => oneN n (get t n) (get u n)) := Lib.hid (by
            have hz : (if y.isSome then [] else [rmP nm]) = [] := by rw [HBY.out]; rfl
            rw [← HFS.out, HP8.out, HGX.out, HGY.out]; unfold oneN; rw [hz, List.append_nil])
          have ho := HO8.out
          rw [HF8.out] at ho
          exact ⟨⟨k + 1, A8, n8, c8, by omega, by go_num, rfl, ho, HB8.out⟩, by simp [intOf]; omega⟩
      case true =>
        cases by_
        case false =>
          have HR16 := HR15; have HR26 := HR25
          have HLT6 := Lib.hid (ownP_lt HO5.out)
          go_wp2_with fail
          refine (refLines nm A1 A2 m c1 m' c2 L L' w5 hnl HMM.out HMM'.out HC1.out HC2.out (by omega) (by omega) HX0.out HR16.out HR26.out).mono ?_
          rintro e w7 ⟨A7, c7, rfl, hc7, hr7, hb7⟩
          obtain ⟨H, hH⟩ : ∃ H, (hunks L L').map (patchP nm) = H := ⟨_, rfl⟩
          have hlen : H.length ≤ 200 := by
            rw [← hH, List.length_map]
            unfold hunks
            rw [hks_len]
            have h1 := edits_len_le L L'
            rw [HMM.out, HMM'.out] at h1
            omega
          rw [hH] at hc7 hr7 ⊢
          obtain ⟨n7, hn7⟩ : ∃ n7, H.length = n7 := ⟨_, rfl⟩
          rw [hn7] at hc7 hlen ⊢
          have HHH := Lib.hid hH; have HN7 := Lib.hid hn7; have HR7 := Lib.hid hr7
          have HO7 := Lib.hid (HO5.out.below hb7)
          have HB7 := Lib.hid (below_mv HB5.out hb7)
          have HL7 : Hid ((PF).length + n7 ≤ 100000) := Lib.hid (by have h0 := HFL.out; first | omega | (rw [List.length_append]; simp only [List.length_cons, List.length_nil]; omega))
          have HP8 : Hid (PF ++ H = PF ++ ((if x.isSome then [] else [addP nm]) ++ (hunks (x.getD []) (y.getD [])).map (patchP nm))) := Lib.hid (by
            rw [HLE.out, HLE'.out, HHH.out]; rw [HBX.out]; simp)
          have HL8 : Hid ((PF ++ H).length ≤ 90000) := Lib.hid (by have h0 := HFL.out; have h1 := HN7.out; rw [List.length_append]; first | omega | (rw [List.length_append]; simp only [List.length_cons, List.length_nil]; omega))
          obtain ⟨l8, hl8⟩ : ∃ l8, PF ++ H = l8 := ⟨_, rfl⟩
          rw [hl8] at HP8 HL8
          have HL88 := Lib.hid hl8
          clear hH hn7 hr7 hc7 hb7 hl8
          go_wp2_with (at_builtin; first
            | (refine wpList_ownPH rfl (.tmp 62) (.tmp 69) rfl w3.heap.size w5.heap.size n7 c7 (.slice A5 n5 c5) A7 (PF) H rfl rfl HO7.out HLT6.out HR7.out HN7.out HL7.out HB7.out.size ?_; intro vv w8 ho hg; obtain ⟨A8, c8, hvv, _, _, _⟩ := rdP_own ho; rw [HL88.out] at ho hvv; obtain ⟨n8, hn8⟩ : ∃ q, List.length l8 = q := ⟨_, rfl⟩; rw [hn8] at hvv; subst hvv; clear hn8; have HO8 := Lib.hid ho; have HB8 := Lib.hid (HB7.out.grown hg HB7.out.size (fun g e => ownP_ge HO7.out g e)); clear ho hg; have x8 := HC.out w8 HB8.out; clear HO7 HB7 HR7; have hba : Below w8.heap.size w8 (w8.alloc (.cells #[.int .i64 1, strV nm, .string ⟨#[]⟩, .int .i64 0, .slice none 0 0, .slice none 0 0] 39)) := (Below.refl _ _).alloc (Nat.le_refl _) _; have hbn := Blk.new w8 39 #[.int .i64 (rmP nm).k, strV (rmP nm).nm, strV (rmP nm).to, .int .i64 (rmP nm).h.pos, .slice none 0 0, .slice none 0 0]; have HOA := Lib.hid (HO8.out.below hba); have HCA : Hid (PCells (w8.alloc (.cells #[.int .i64 1, strV nm, .string ⟨#[]⟩, .int .i64 0, .slice none 0 0, .slice none 0 0] 39)) (Out (w8.alloc (.cells #[.int .i64 1, strV nm, .string ⟨#[]⟩, .int .i64 0, .slice none 0 0, .slice none 0 0] 39)) (Value.slice A8 n8 c8).ownBlock) [rmP nm] [.int .i64 1, strV nm, .string ⟨#[]⟩, .int .i64 0, .slice none 0 0, .slice none 0 0]) := Lib.hid (PCells.one (pg_none (w8.alloc (.cells #[.int .i64 1, strV nm, .string ⟨#[]⟩, .int .i64 0, .slice none 0 0, .slice none 0 0] 39)) _ 1 nm (by decide) hnl)); have HSRC := Lib.hid (one_srcP hbn); have HBA := Lib.hid (HB8.out.trans (hba.mono HB8.out.size)); have HSA := Lib.hid hba.size; clear hba hbn)
            | (refine wpList_ownP rfl (.tmp 73) (.tmp 79) rfl w3.heap.size 1 1 (.slice A8 n8 c8) (some ⟨w8.heap.size, 0, none⟩) (l8) [rmP nm] _ rfl rfl HOA.out HCA.out rfl (.inr ⟨_, rfl, HSRC.out⟩) rfl (by have h0 := HL8.out; first | omega | (rw [List.length_append]; simp only [List.length_cons, List.length_nil]; omega)) HBA.out.size ?_; intro vv w9 ho hg; obtain ⟨A9, c9, hvv, _, _, _⟩ := rdP_own ho; obtain ⟨n9, hn2⟩ : ∃ q, List.length (l8 ++ [rmP nm]) = q := ⟨_, rfl⟩; rw [hn2] at hvv; subst hvv; clear hn2; have HOB := Lib.hid ho; have HGB := Lib.hid hg; have HBB := Lib.hid (HBA.out.grown hg HBA.out.size (fun g e => ownP_ge HOA.out g e)); have xn := HC.out w9 HBB.out; clear ho hg))
          have HF8 : Hid (l8 ++ [rmP nm] = (NS.take (k + 1)).flatMap fun n => oneN n (get t n) (get u n)) := Lib.hid (by
            have hz : (if y.isSome then [] else [rmP nm]) = [rmP nm] := by rw [HBY.out]; rfl
            rw [← HFS.out, HP8.out, HGX.out, HGY.out]; unfold oneN; rw [hz]; simp only [List.append_assoc])
          have ho := HOB.out
          rw [HF8.out] at ho
          exact ⟨⟨k + 1, A9, n9, c9, by omega, by go_num, rfl, ho, HBB.out⟩, by simp [intOf]; omega⟩
        case true =>
          have HR16 := HR15; have HR26 := HR25
          have HLT6 := Lib.hid (ownP_lt HO5.out)
          go_wp2_with fail
          refine (refLines nm A1 A2 m c1 m' c2 L L' w5 hnl HMM.out HMM'.out HC1.out HC2.out (by omega) (by omega) HX0.out HR16.out HR26.out).mono ?_
          rintro e w7 ⟨A7, c7, rfl, hc7, hr7, hb7⟩
          obtain ⟨H, hH⟩ : ∃ H, (hunks L L').map (patchP nm) = H := ⟨_, rfl⟩
          have hlen : H.length ≤ 200 := by
            rw [← hH, List.length_map]
            unfold hunks
            rw [hks_len]
            have h1 := edits_len_le L L'
            rw [HMM.out, HMM'.out] at h1
            omega
          rw [hH] at hc7 hr7 ⊢
          obtain ⟨n7, hn7⟩ : ∃ n7, H.length = n7 := ⟨_, rfl⟩
          rw [hn7] at hc7 hlen ⊢
          have HHH := Lib.hid hH; have HN7 := Lib.hid hn7; have HR7 := Lib.hid hr7
          have HO7 := Lib.hid (HO5.out.below hb7)
          have HB7 := Lib.hid (below_mv HB5.out hb7)
          have HL7 : Hid ((PF).length + n7 ≤ 100000) := Lib.hid (by have h0 := HFL.out; first | omega | (rw [List.length_append]; simp only [List.length_cons, List.length_nil]; omega))
          have HP8 : Hid (PF ++ H = PF ++ ((if x.isSome then [] else [addP nm]) ++ (hunks (x.getD []) (y.getD [])).map (patchP nm))) := Lib.hid (by
            rw [HLE.out, HLE'.out, HHH.out]; rw [HBX.out]; simp)
          have HL8 : Hid ((PF ++ H).length ≤ 90000) := Lib.hid (by have h0 := HFL.out; have h1 := HN7.out; rw [List.length_append]; first | omega | (rw [List.length_append]; simp only [List.length_cons, List.length_nil]; omega))
          obtain ⟨l8, hl8⟩ : ∃ l8, PF ++ H = l8 := ⟨_, rfl⟩
          rw [hl8] at HP8 HL8
          have HL88 := Lib.hid hl8
          clear hH hn7 hr7 hc7 hb7 hl8
          go_wp2_with (at_builtin; (refine wpList_ownPH rfl (.tmp 62) (.tmp 69) rfl w3.heap.size w5.heap.size n7 c7 (.slice A5 n5 c5) A7 (PF) H rfl rfl HO7.out HLT6.out HR7.out HN7.out HL7.out HB7.out.size ?_; intro vv w8 ho hg; obtain ⟨A8, c8, hvv, _, _, _⟩ := rdP_own ho; rw [HL88.out] at ho hvv; obtain ⟨n8, hn8⟩ : ∃ q, List.length l8 = q := ⟨_, rfl⟩; rw [hn8] at hvv; subst hvv; clear hn8; have HO8 := Lib.hid ho; have HB8 := Lib.hid (HB7.out.grown hg HB7.out.size (fun g e => ownP_ge HO7.out g e)); clear ho hg; have x8 := HC.out w8 HB8.out; clear HO7 HB7 HR7))
          have HF8 : Hid (l8 = (NS.take (k + 1)).flatMap fun n => oneN n (get t n) (get u n)) := Lib.hid (by
            have hz : (if y.isSome then [] else [rmP nm]) = [] := by rw [HBY.out]; rfl
            rw [← HFS.out, HP8.out, HGX.out, HGY.out]; unfold oneN; rw [hz, List.append_nil])
          have ho := HO8.out
          rw [HF8.out] at ho
          exact ⟨⟨k + 1, A8, n8, c8, by omega, by go_num, rfl, ho, HB8.out⟩, by simp [intOf]; omega⟩
    · obtain rfl : k = K := by omega
      have ho := HO.out
      rw [List.take_of_length_le (by rw [HK.out]; exact Nat.le_refl _), ← HLF.out] at ho
      obtain ⟨Av, cv, e1, hcv, hrd, _⟩ := rdP_own ho
      injection e1 with e1 e2 e3
      subst e1 e2 e3
      have HRD := Lib.hid hrd; have HCV := Lib.hid hcv
      have HBF : Hid (Below w.heap.size w wr) := Lib.hid (HB3.out.trans (HBR.out.mono HSZ.out))
      clear ho hrd hcv
      go_wp2
      go_ret2
      exact ⟨A5, _, c5, (by rw [HE.out]; rfl), HCV.out, by rw [HE.out], by rw [HE.out]; exact HRD.out, HBF.out⟩

end Nw
end Go.Proofs.Ytjhjmfodpnipiaa
