/-
  What compare of layer 13 tells (walk): the changes of one file.
-/
import Derived.Test.YtjhjmfodpnipiaaNwTell
import Derived.Test.YtjhjmfodpnipiaaNwPlain
import Derived.Test.YtjhjmfodpnipiaaGT
import Derived.Test.YtjhjmfodpnipiaaHkOf
set_option maxRecDepth 100000
namespace Go.Proofs.Ytjhjmfodpnipiaa
open Go.RowKit
set_option linter.unusedVariables false
set_option linter.unusedSimpArgs false
namespace Nw
open Tx Df Sq Hk Tr Pr Fl

/-- The method value that tells. -/
abbrev tellV (b : Nat) : Value := .func (.func 18) #[.pointer (some ⟨b, 0, none⟩)] #[]

theorem alike_trans {S T : Nat → Prop} {W W1 W2 : World} (h : Fl.Alike S W W1) (hs : W.heap.size ≤ W1.heap.size) (h' : Fl.Alike T W1 W2) (ht : ∀ k, S k → T k) : Fl.Alike S W W2 := fun k hk hl => (h' k (ht k hk) (Nat.lt_of_lt_of_le hl hs)).trans (h k hk hl)
theorem alike_of {S : Nat → Prop} {W W1 : World} (hb : Below W.heap.size W W1) : Fl.Alike S W W1 := fun k _ hl => hb.block k hl
theorem since_lt {S : Nat → Prop} {W W1 : World} {b : Nat} (hS : ∀ k, S k → k < W.heap.size ∧ k ≠ b) (hb : b < W.heap.size) (hs : W.heap.size ≤ W1.heap.size) : ∀ k, Since S W W1 k → k < W1.heap.size ∧ k ≠ b := fun k hk => by
  rcases hk with hk | hk
  · have := hS k hk; omega
  · omega
theorem rd_since {S : Nat → Prop} {W W1 W2 : World} {A : Option Addr} {L : List (List UInt8)} (h : RdS W1 W1.heap.size A L) (hi : Hi W.heap.size A) (ha : Fl.Alike (Since S W W1) W1 W2) (hs : W1.heap.size ≤ W2.heap.size) (hS : ∀ k, Since S W W1 k → k < W1.heap.size) : RdS W2 W2.heap.size A L :=
  ((((rdG_hi h hi).mono (T := Since S W W1) fun k hk => .inr hk).to ha).mono fun k hk => Nat.lt_of_lt_of_le (hS k hk) hs).rd
theorem pg_none (W : World) (S : Nat → Prop) (k : Int) (nm : List UInt8) (hk : 0 ≤ k ∧ k ≤ 4) (hn : nm.length ≤ 100000) : PG W S none 0 0 none 0 0 ⟨k, nm, [], noneH⟩ :=
  ⟨rfl, rfl, Nat.le_refl _, Nat.le_refl _, Nat.zero_le _, Nat.zero_le _, .inl rfl, .inl rfl, (by unfold I64; show -9223372036854775808 ≤ (0 : Int) ∧ (0 : Int) ≤ _; omega), (by unfold I64; show -9223372036854775808 ≤ k ∧ k ≤ _; omega), Nat.le_trans hn (by decide), Nat.zero_le _, (fun x hx => by cases hx), (fun x hx => by cases hx)⟩
/-- One of the hunks, its lines apart from what is told. -/
theorem hunk_at {w w' : World} {S : Nat → Prop} {lo : Nat} {A : Option Addr} {hs : List HU} {k : Nat} {nm : List UInt8} (hr : RdH w w.heap.size A hs) (hh : HkHi w lo A hs) (hS : ∀ k, lo ≤ k ∧ k < w.heap.size → S k) (ha : Fl.Alike S w w') (hk : k < hs.length)
    (hl : ∀ h ∈ hs, (∀ x ∈ h.old, x.length ≤ 100000) ∧ ∀ x ∈ h.new, x.length ≤ 100000) (hnm : nm.length ≤ 100000) :
    ∃ a x A1 n1 c1 A2 n2 c2, A = some a ∧ hs[k]? = some x ∧ w'.cell? (a.add (k * 3)) = some (.int .i64 x.pos) ∧ w'.cell? ⟨(a.add (k * 3)).block, (a.add (k * 3)).off + 1, none⟩ = some (.slice A1 n1 c1) ∧ w'.cell? ⟨(a.add (k * 3)).block, (a.add (k * 3)).off + 2, none⟩ = some (.slice A2 n2 c2) ∧
      PG w' S A1 n1 c1 A2 n2 c2 (patchP nm x) := by
  obtain ⟨a, rfl, hlt, c0, A1, c1, A2, c2, k1, k2, hv⟩ := hr.at_ hk
  obtain ⟨a', A1', d1, A2', d2, e, hlo, j1, j2, g1, g2⟩ := hh k _ (List.getElem?_eq_getElem hk)
  injection e with e
  subst e
  rw [k1] at j1
  rw [k2] at j2
  injection j1 with j1
  injection j2 with j2
  injection j1 with j1
  injection j2 with j2
  subst j1 j2
  obtain ⟨hl1, hl2⟩ := hl _ (List.getElem_mem hk)
  have hb : S (a.add (k * 3)).block := by rw [add_block]; exact hS _ ⟨hlo, hlt⟩
  refine ⟨a, hs[k], A1, _, c1, A2, _, c2, rfl, List.getElem?_eq_getElem hk, cell_to ha hb c0, cell_to ha hb k1, cell_to ha hb k2, ?_⟩
  refine PG.to_ (W := w) ⟨hv.l, hv.l', hv.k, hv.k', hv.m, hv.m', (rdG_hi hv.r g1).mono hS, (rdG_hi hv.r' g2).mono hS, hv.p, (by unfold I64; show -9223372036854775808 ≤ (3 : Int) ∧ (3 : Int) ≤ _; omega), Nat.le_trans hnm (by decide), Nat.zero_le _, fun x hx => Nat.le_trans (hl1 x hx) (by decide), fun x hx => Nat.le_trans (hl2 x hx) (by decide)⟩ ha
theorem take_map_snoc {hs : List HU} {k : Nat} {x : HU} {nm : List UInt8} (h : hs[k]? = some x) (l : List Ch) : l ++ (hs.take k).map (patchP nm) ++ [patchP nm x] = l ++ (hs.take (k + 1)).map (patchP nm) := by
  rw [List.take_add_one, h, List.map_append, List.append_assoc]; rfl
/-- Lines of hunks are those of files. -/
theorem hunks_short {t u : TR} {nm : List UInt8} {x y : Option (List (List UInt8))} {L L' : List (List UInt8)} (hs : Small t) (hs' : Small u) (hx : get t nm = x) (hy : get u nm = y) (hL : x.getD [] = L) (hL' : y.getD [] = L') :
    ∀ h ∈ hunks L L', (∀ x ∈ h.old, x.length ≤ 100000) ∧ ∀ x ∈ h.new, x.length ≤ 100000 := fun h hh => by
  obtain ⟨m1, m2⟩ := edits_mem L L' h hh
  have key : ∀ {t : TR} {x : Option (List (List UInt8))} {L}, Small t → get t nm = x → x.getD [] = L → ∀ y ∈ L, y.length ≤ 100000 := fun {t x L} hs hx hL y hy => by
    cases x with
    | none => rw [← hL] at hy; cases hy
    | some z =>
      rw [← hL] at hy
      exact (hs.all _ (get_mem hx)).s y hy
  exact ⟨fun y hy => key hs hx hL y (m1 y hy), fun y hy => key hs' ‹get u nm = _› hL' y (m2 y hy)⟩

set_option maxRecDepth 100000 in
set_option maxHeartbeats 4000000 in
theorem compare (B b : Nat) (S : Nat → Prop) (A A' : Option Addr) (n c n' c' : Nat) (nm : List UInt8) (t u : TR) (l : List Ch) (w : World) (hn : t.length = n) (hn' : u.length = n') (hs : Small t) (hs' : Small u)
    (hL : ((get t nm).getD []).length ≤ 1000) (hL' : ((get u nm).getD []).length ≤ 1000) (hnm : nm.length ≤ 100000) (hB : B ≤ b) (hR : RdT w B A t) (hR' : RdT w B A' u) (hG : Gat w S b l) (hS : ∀ k, S k → k < w.heap.size ∧ k ≠ b) (hl : l.length ≤ 40000) :
    Calls Try.prog 20 #[.slice A n c, .slice A' n' c', strV nm, tellV b] w (GatEnd w S b (l ++ oneN nm (get t nm) (get u nm))) := by
  have hbw := hG.lt
  have HN := Lib.hid hn; have HN' := Lib.hid hn'; have HS := Lib.hid hs; have HS' := Lib.hid hs'; have HR := Lib.hid hR; have HR' := Lib.hid hR'; have HG := Lib.hid hG; have HSS := Lib.hid hS
  clear hn hn' hs hs' hR hR' hG hS
  go_enter Try.func20, Try.ntmps20
  go_wp2_with fail
  refine (GetH nm A c n B t w HN.out HS.out.wide (by omega) HR.out).mono ?_
  rintro e w1 ⟨A1, c1, rfl, hc1, hr1, hh1, hb1⟩
  obtain ⟨x, hx⟩ : ∃ x, get t nm = x := ⟨_, rfl⟩
  rw [hx] at hc1 hr1 hL ⊢
  have HX := Lib.hid hx
  obtain ⟨L, hLe⟩ : ∃ L, x.getD [] = L := ⟨_, rfl⟩
  rw [hLe] at hc1 hr1 hL ⊢
  obtain ⟨m, hm⟩ : ∃ m, L.length = m := ⟨_, rfl⟩
  rw [hm] at hc1 hL ⊢
  have HL := Lib.hid hLe; have HMM := Lib.hid hm; have HC1 := Lib.hid hc1; have HR1 := Lib.hid hr1; have HB1 := Lib.hid hb1; have HH1 := Lib.hid hh1
  have hsz1 := hb1.size
  clear hx hLe hm hc1 hr1 hb1 hh1
  go_wp2_with fail
  refine (GetH nm A' c' n' B u w1 HN'.out HS'.out.wide (by omega) (HR'.out.below (HB1.out.mono (by omega)))).mono ?_
  rintro e w2 ⟨A2, c2, rfl, hc2, hr2, hh2, hb2⟩
  obtain ⟨y, hy⟩ : ∃ y, get u nm = y := ⟨_, rfl⟩
  rw [hy] at hc2 hr2 hL' ⊢
  obtain ⟨L', hLe'⟩ : ∃ L', y.getD [] = L' := ⟨_, rfl⟩
  rw [hLe'] at hc2 hr2 hL' ⊢
  obtain ⟨m', hm'⟩ : ∃ m', L'.length = m' := ⟨_, rfl⟩
  rw [hm'] at hc2 hL' ⊢
  have HY := Lib.hid hy; have HL' := Lib.hid hLe'; have HMM' := Lib.hid hm'; have HC2 := Lib.hid hc2; have HR2 := Lib.hid hr2; have HH2 := Lib.hid (hh2.mono hsz1)
  have hbb := HB1.out.trans (hb2.mono hsz1)
  have HG2 := Lib.hid (HG.out.since hbb)
  have HR1' := Lib.hid (rdS_mv HR1.out hb2)
  have hsz2 := hb2.size
  have HS2 := Lib.hid (since_lt HSS.out hbw hbb.size)
  have HBB : Hid (Below b w w2) := Lib.hid (hbb.mono (by omega))
  have HAA : Hid (Fl.Alike S w w2) := Lib.hid (alike_of hbb)
  have HX0 := Lib.hid (hunks_short HS.out HS'.out HX.out HY.out HL.out HL'.out)
  obtain ⟨bx, hbx⟩ : ∃ bx, x.isSome = bx := ⟨_, rfl⟩
  obtain ⟨by_, hby⟩ : ∃ bx, y.isSome = bx := ⟨_, rfl⟩
  rw [hbx, hby]
  have HBX := Lib.hid hbx; have HBY := Lib.hid hby
  have hbw2 : b < w2.heap.size := by omega
  have hww2 : w.heap.size ≤ w2.heap.size := by omega
  obtain ⟨S2, hS2⟩ : ∃ S2, Since S w w2 = S2 := ⟨_, rfl⟩
  have HRD : Hid (∀ w3, Fl.Alike S2 w2 w3 → w2.heap.size ≤ w3.heap.size → RdS w3 w3.heap.size A1 L ∧ RdS w3 w3.heap.size A2 L') := Lib.hid (by
    rw [← hS2]
    exact fun w3 ha hs => ⟨rd_since HR1'.out HH1.out ha hs fun k hk => (HS2.out k hk).1, rd_since HR2.out HH2.out ha hs fun k hk => (HS2.out k hk).1⟩)
  have HSU : Hid (∀ k, S k → S2 k) := Lib.hid (by rw [← hS2]; exact fun k hk => .inl hk)
  rw [hS2] at HG2 HS2
  clear hS2 hbx hby HR HR' HS HS' HN HN' hy hLe' hm' hc2 hr2 hh2 hb2 hbb HG HR1 HB1 HR1' HR2 HH1 HH2 HSS
  have HWW2 := Lib.hid hww2
  clear hsz1 hsz2 hww2
  cases bx
  case false =>
    go_wp2_with fail
    refine (tell S2 b l none 0 0 none 0 0 (addP nm) w2 HG2.out HS2.out (by omega) (pg_none _ _ 0 nm (by decide) hnm)).mono ?_
    rintro e w3 ⟨rfl, hg3, hb3, ha3⟩
    have hsz3 : w2.heap.size ≤ w3.heap.size := hb3.size
    have HG3 := Lib.hid hg3; have HBB3 := Lib.hid (HBB.out.trans hb3)
    have HAA3 := Lib.hid (alike_trans HAA.out HWW2.out ha3 HSU.out)
    have HRD3 := Lib.hid (HRD.out w3 ha3 hsz3)
    have hbw3 : b < w3.heap.size := by omega
    have HS3 : Hid (∀ k, S2 k → k < w3.heap.size ∧ k ≠ b) := Lib.hid (fun k hk => ⟨Nat.lt_of_lt_of_le (HS2.out k hk).1 hsz3, (HS2.out k hk).2⟩)
    obtain ⟨l1, hl1⟩ : ∃ l1, l ++ [addP nm] = l1 := ⟨_, rfl⟩
    have hl1l : l1.length ≤ 40001 := by rw [← hl1]; first | omega | (rw [List.length_append]; simp; omega)
    rw [hl1] at HG3
    have HPRE : Hid (l ++ (if x.isSome then [] else [addP nm]) = l1) := Lib.hid (by rw [← hl1, HBX.out]; rfl)
    have HW23 := Lib.hid (Nat.le_trans HWW2.out hsz3)
    clear hl1 hg3 hb3 ha3 hsz3 HG2 HS2 HBB HAA HRD HWW2 hl hbw2
    go_wp2_with fail
    refine (OfH A1 A2 c1 c2 m m' w3.heap.size L L' w3 HMM.out HMM'.out HC1.out HC2.out hL hL' (Nat.le_refl _) HRD3.out.1 HRD3.out.2).mono ?_
    rintro e w4 ⟨A4, c4, rfl, hc4, hr4, hh4, hb4⟩
    have hlen : (hunks L L').length ≤ 2000 := by
      unfold hunks
      rw [hks_len]
      have h1 := edits_len_le L L'
      rw [HMM.out, HMM'.out] at h1
      omega
    obtain ⟨H, hH⟩ : ∃ H, hunks L L' = H := ⟨_, rfl⟩
    have hH' : hks L 0 (edits L L') = H := hH
    rw [hH'] at hc4 hr4 hh4 ⊢
    rw [hH] at HX0 hlen
    obtain ⟨NH, hNH⟩ : ∃ NH, H.length = NH := ⟨_, rfl⟩
    rw [hNH] at hc4 hlen ⊢
    have HHE := Lib.hid hH; have HNH := Lib.hid hNH; have HR4 := Lib.hid hr4; have HH4 := Lib.hid hh4
    have HG4 := Lib.hid (HG3.out.since hb4)
    have HS4 := Lib.hid (since_lt HS3.out hbw3 hb4.size)
    have HBB4 := Lib.hid (HBB3.out.trans (hb4.mono (Nat.le_of_lt hbw3)))
    have HAA4 := Lib.hid (alike_trans HAA3.out HW23.out (alike_of (S := S) hb4) (fun _ h => h))
    have HW4 := Lib.hid (Nat.le_trans HW23.out hb4.size)
    have HIN : Hid (∀ k, w3.heap.size ≤ k ∧ k < w4.heap.size → Since S2 w3 w4 k) := Lib.hid (fun k hk => .inr hk)
    have HSU4 : Hid (∀ k, S k → Since S2 w3 w4 k) := Lib.hid (fun k hk => .inl (HSU.out k hk))
    obtain ⟨S4, hS4⟩ : ∃ S4, Since S2 w3 w4 = S4 := ⟨_, rfl⟩
    rw [hS4] at HG4 HS4 HIN HSU4
    clear hS4 hH hH' hNH hr4 hh4 hb4 HG3 HS3 HBB3 HAA3 HRD3 HSU hL hL' HMM HMM' HC1 HC2 HW23
    go_wp2_with fail
    go_loopw [36] (fun i wr => ∃ k : Nat, k ≤ NH ∧ i = .int .i64 (k : Int) ∧ Gat wr S4 b (l1 ++ (H.take k).map (patchP nm)) ∧ Below b w wr ∧ Fl.Alike S4 w4 wr ∧ w4.heap.size ≤ wr.heap.size) (fun i _ => NH - (intOf i).toNat)
    case atStart => exact ⟨0, Nat.zero_le _, rfl, by rw [List.take_zero, List.map_nil, List.append_nil]; exact HG4.out, HBB4.out, fun _ _ _ => rfl, Nat.le_refl _⟩
    case round =>
      obtain ⟨k, hk, rfl, hg, hbr, har, hsr⟩ := hrel
      have HGR := Lib.hid hg; have HBR := Lib.hid hbr; have HAR := Lib.hid har; have HSR := Lib.hid hsr
      clear hg hbr har hsr HG4 HBB4
      by_cases hlt : k < NH
      · have hki : (k : Int) < (NH : Int) := by omega
        obtain ⟨a, h, A5, n5, c5, A6, n6, c6, rfl, hx, x0, x1, x2, hpg⟩ := hunk_at (nm := nm) HR4.out HH4.out HIN.out HAR.out (k := k) (by rw [HNH.out]; exact hlt) HX0.out hnm
        have HX := Lib.hid hx; have HPG := Lib.hid hpg
        have HSW : Hid (∀ k, S4 k → k < wr.heap.size ∧ k ≠ b) := Lib.hid (fun k hk => ⟨Nat.lt_of_lt_of_le (HS4.out k hk).1 HSR.out, (HS4.out k hk).2⟩)
        clear hx hpg
        go_wp2_with fail
        have hba : Below wr.heap.size wr (wr.alloc (.cells #[.int .i64 h.pos, .slice A5 n5 c5, .slice A6 n6 c6] 37)) := (Below.refl _ _).alloc (Nat.le_refl _) _
        have hbrw : b < wr.heap.size := by have := HSR.out; have := HBR.out.size; omega
        refine (tell S4 b _ A5 n5 c5 A6 n6 c6 (patchP nm h) _ (HGR.out.below hba) (fun k hk => ⟨Nat.lt_of_lt_of_le (HSW.out k hk).1 hba.size, (HSW.out k hk).2⟩) (by rw [List.length_append, List.length_map, List.length_take]; omega) (HPG.out.to_ (alike_of hba))).mono ?_
        rintro e w5 ⟨rfl, hg5, hb5, ha5⟩
        rw [take_map_snoc HX.out] at hg5
        have HG5 := Lib.hid hg5; have HB5 := Lib.hid (HBR.out.trans ((hba.mono (Nat.le_of_lt hbrw)).trans hb5)); have HA5 := Lib.hid (alike_trans (alike_trans HAR.out HSR.out (alike_of (S := S4) hba) (fun _ h => h)) (Nat.le_trans HSR.out hba.size) ha5 (fun _ h => h))
        have HS5 := Lib.hid (Nat.le_trans HSR.out (Nat.le_trans hba.size hb5.size))
        clear hg5 hb5 ha5 hba x0 x1 x2 hbrw HGR HBR HAR HSR HPG HX
        go_wp2
        go_roundw
        case rel => exact ⟨k + 1, by omega, by go_num, HG5.out, HB5.out, HA5.out, HS5.out⟩
        case measure => simp [intOf]; omega
      · obtain rfl : k = NH := by omega
        have HAF := Lib.hid (alike_trans HAA4.out HW4.out HAR.out HSU4.out)
        have HF : Hid (l1 ++ (H.take k).map (patchP nm) = l ++ ((if x.isSome then [] else [addP nm]) ++ (hunks (x.getD []) (y.getD [])).map (patchP nm))) := Lib.hid (by
          rw [List.take_of_length_le (by rw [HNH.out]; exact Nat.le_refl _), HL.out, HL'.out, HHE.out, ← HPRE.out, List.append_assoc])
        cases by_
        case true =>
          have HE : Hid (l1 ++ (H.take k).map (patchP nm) = l ++ oneN nm (get t nm) (get u nm)) := Lib.hid (by
            have hz : (if y.isSome then [] else [rmP nm]) = [] := by rw [HBY.out]; rfl
            rw [HF.out, HX.out, HY.out]; unfold oneN; rw [hz, List.append_nil])
          have HGF := HGR.out.mono HSU4.out
          rw [HE.out] at HGF
          have HGG := Lib.hid HGF
          clear HGF HF HE hlt
          go_wp2
          go_end0
          exact ⟨rfl, HGG.out, HBR.out, HAF.out⟩
        case false =>
          have HE : Hid (l1 ++ (H.take k).map (patchP nm) ++ [rmP nm] = l ++ oneN nm (get t nm) (get u nm)) := Lib.hid (by
            have hz : (if y.isSome then [] else [rmP nm]) = [rmP nm] := by rw [HBY.out]; rfl
            rw [HF.out, HX.out, HY.out]; unfold oneN; rw [hz]; simp only [List.append_assoc])
          have HSW : Hid (∀ k, S4 k → k < wr.heap.size ∧ k ≠ b) := Lib.hid (fun k hk => ⟨Nat.lt_of_lt_of_le (HS4.out k hk).1 HSR.out, (HS4.out k hk).2⟩)
          clear HF hlt
          go_wp2_with fail
          refine (tell S4 b _ none 0 0 none 0 0 (rmP nm) wr HGR.out HSW.out (by rw [List.length_append, List.length_map, List.length_take]; omega) (pg_none _ _ 1 nm (by decide) hnm)).mono ?_
          rintro e w5 ⟨rfl, hg5, hb5, ha5⟩
          rw [HE.out] at hg5
          have HG5 := Lib.hid (hg5.mono HSU4.out); have HB5 := Lib.hid (HBR.out.trans hb5); have HA5 := Lib.hid (alike_trans HAF.out (Nat.le_trans HW4.out HSR.out) ha5 HSU4.out)
          clear hg5 hb5 ha5
          go_wp2
          go_end0
          exact ⟨rfl, HG5.out, HB5.out, HA5.out⟩
  case true =>
    obtain ⟨w3, hg3, hb3, ha3, hw⟩ : ∃ w3, Gat w3 S2 b l ∧ Below b w2 w3 ∧ Fl.Alike S2 w2 w3 ∧ w2 = w3 := ⟨w2, HG2.out, Below.refl _ _, (fun _ _ _ => rfl), rfl⟩
    have hsz3 : w2.heap.size ≤ w3.heap.size := hb3.size
    have HG3 := Lib.hid hg3; have HBB3 := Lib.hid (HBB.out.trans hb3)
    have HAA3 := Lib.hid (alike_trans HAA.out HWW2.out ha3 HSU.out)
    have HRD3 := Lib.hid (HRD.out w3 ha3 hsz3)
    have hbw3 : b < w3.heap.size := by omega
    have HS3 : Hid (∀ k, S2 k → k < w3.heap.size ∧ k ≠ b) := Lib.hid (fun k hk => ⟨Nat.lt_of_lt_of_le (HS2.out k hk).1 hsz3, (HS2.out k hk).2⟩)
    obtain ⟨l1, hl1⟩ : ∃ l1, l = l1 := ⟨_, rfl⟩
    have hl1l : l1.length ≤ 40001 := by rw [← hl1]; first | omega | (rw [List.length_append]; simp; omega)
    rw [hl1] at HG3
    have HPRE : Hid (l ++ (if x.isSome then [] else [addP nm]) = l1) := Lib.hid (by rw [← hl1, HBX.out]; exact List.append_nil l)
    have HW23 := Lib.hid (Nat.le_trans HWW2.out hsz3)
    clear hl1 hg3 hb3 ha3 hsz3 HG2 HS2 HBB HAA HRD HWW2 hl hbw2
    rw [hw]
    clear hw
    go_wp2_with fail
    refine (OfH A1 A2 c1 c2 m m' w3.heap.size L L' w3 HMM.out HMM'.out HC1.out HC2.out hL hL' (Nat.le_refl _) HRD3.out.1 HRD3.out.2).mono ?_
    rintro e w4 ⟨A4, c4, rfl, hc4, hr4, hh4, hb4⟩
    have hlen : (hunks L L').length ≤ 2000 := by
      unfold hunks
      rw [hks_len]
      have h1 := edits_len_le L L'
      rw [HMM.out, HMM'.out] at h1
      omega
    obtain ⟨H, hH⟩ : ∃ H, hunks L L' = H := ⟨_, rfl⟩
    have hH' : hks L 0 (edits L L') = H := hH
    rw [hH'] at hc4 hr4 hh4 ⊢
    rw [hH] at HX0 hlen
    obtain ⟨NH, hNH⟩ : ∃ NH, H.length = NH := ⟨_, rfl⟩
    rw [hNH] at hc4 hlen ⊢
    have HHE := Lib.hid hH; have HNH := Lib.hid hNH; have HR4 := Lib.hid hr4; have HH4 := Lib.hid hh4
    have HG4 := Lib.hid (HG3.out.since hb4)
    have HS4 := Lib.hid (since_lt HS3.out hbw3 hb4.size)
    have HBB4 := Lib.hid (HBB3.out.trans (hb4.mono (Nat.le_of_lt hbw3)))
    have HAA4 := Lib.hid (alike_trans HAA3.out HW23.out (alike_of (S := S) hb4) (fun _ h => h))
    have HW4 := Lib.hid (Nat.le_trans HW23.out hb4.size)
    have HIN : Hid (∀ k, w3.heap.size ≤ k ∧ k < w4.heap.size → Since S2 w3 w4 k) := Lib.hid (fun k hk => .inr hk)
    have HSU4 : Hid (∀ k, S k → Since S2 w3 w4 k) := Lib.hid (fun k hk => .inl (HSU.out k hk))
    obtain ⟨S4, hS4⟩ : ∃ S4, Since S2 w3 w4 = S4 := ⟨_, rfl⟩
    rw [hS4] at HG4 HS4 HIN HSU4
    clear hS4 hH hH' hNH hr4 hh4 hb4 HG3 HS3 HBB3 HAA3 HRD3 HSU hL hL' HMM HMM' HC1 HC2 HW23
    go_wp2_with fail
    go_loopw [36] (fun i wr => ∃ k : Nat, k ≤ NH ∧ i = .int .i64 (k : Int) ∧ Gat wr S4 b (l1 ++ (H.take k).map (patchP nm)) ∧ Below b w wr ∧ Fl.Alike S4 w4 wr ∧ w4.heap.size ≤ wr.heap.size) (fun i _ => NH - (intOf i).toNat)
    case atStart => exact ⟨0, Nat.zero_le _, rfl, by rw [List.take_zero, List.map_nil, List.append_nil]; exact HG4.out, HBB4.out, fun _ _ _ => rfl, Nat.le_refl _⟩
    case round =>
      obtain ⟨k, hk, rfl, hg, hbr, har, hsr⟩ := hrel
      have HGR := Lib.hid hg; have HBR := Lib.hid hbr; have HAR := Lib.hid har; have HSR := Lib.hid hsr
      clear hg hbr har hsr HG4 HBB4
      by_cases hlt : k < NH
      · have hki : (k : Int) < (NH : Int) := by omega
        obtain ⟨a, h, A5, n5, c5, A6, n6, c6, rfl, hx, x0, x1, x2, hpg⟩ := hunk_at (nm := nm) HR4.out HH4.out HIN.out HAR.out (k := k) (by rw [HNH.out]; exact hlt) HX0.out hnm
        have HX := Lib.hid hx; have HPG := Lib.hid hpg
        have HSW : Hid (∀ k, S4 k → k < wr.heap.size ∧ k ≠ b) := Lib.hid (fun k hk => ⟨Nat.lt_of_lt_of_le (HS4.out k hk).1 HSR.out, (HS4.out k hk).2⟩)
        clear hx hpg
        go_wp2_with fail
        have hba : Below wr.heap.size wr (wr.alloc (.cells #[.int .i64 h.pos, .slice A5 n5 c5, .slice A6 n6 c6] 37)) := (Below.refl _ _).alloc (Nat.le_refl _) _
        have hbrw : b < wr.heap.size := by have := HSR.out; have := HBR.out.size; omega
        refine (tell S4 b _ A5 n5 c5 A6 n6 c6 (patchP nm h) _ (HGR.out.below hba) (fun k hk => ⟨Nat.lt_of_lt_of_le (HSW.out k hk).1 hba.size, (HSW.out k hk).2⟩) (by rw [List.length_append, List.length_map, List.length_take]; omega) (HPG.out.to_ (alike_of hba))).mono ?_
        rintro e w5 ⟨rfl, hg5, hb5, ha5⟩
        rw [take_map_snoc HX.out] at hg5
        have HG5 := Lib.hid hg5; have HB5 := Lib.hid (HBR.out.trans ((hba.mono (Nat.le_of_lt hbrw)).trans hb5)); have HA5 := Lib.hid (alike_trans (alike_trans HAR.out HSR.out (alike_of (S := S4) hba) (fun _ h => h)) (Nat.le_trans HSR.out hba.size) ha5 (fun _ h => h))
        have HS5 := Lib.hid (Nat.le_trans HSR.out (Nat.le_trans hba.size hb5.size))
        clear hg5 hb5 ha5 hba x0 x1 x2 hbrw HGR HBR HAR HSR HPG HX
        go_wp2
        go_roundw
        case rel => exact ⟨k + 1, by omega, by go_num, HG5.out, HB5.out, HA5.out, HS5.out⟩
        case measure => simp [intOf]; omega
      · obtain rfl : k = NH := by omega
        have HAF := Lib.hid (alike_trans HAA4.out HW4.out HAR.out HSU4.out)
        have HF : Hid (l1 ++ (H.take k).map (patchP nm) = l ++ ((if x.isSome then [] else [addP nm]) ++ (hunks (x.getD []) (y.getD [])).map (patchP nm))) := Lib.hid (by
          rw [List.take_of_length_le (by rw [HNH.out]; exact Nat.le_refl _), HL.out, HL'.out, HHE.out, ← HPRE.out, List.append_assoc])
        cases by_
        case true =>
          have HE : Hid (l1 ++ (H.take k).map (patchP nm) = l ++ oneN nm (get t nm) (get u nm)) := Lib.hid (by
            have hz : (if y.isSome then [] else [rmP nm]) = [] := by rw [HBY.out]; rfl
            rw [HF.out, HX.out, HY.out]; unfold oneN; rw [hz, List.append_nil])
          have HGF := HGR.out.mono HSU4.out
          rw [HE.out] at HGF
          have HGG := Lib.hid HGF
          clear HGF HF HE hlt
          go_wp2
          go_end0
          exact ⟨rfl, HGG.out, HBR.out, HAF.out⟩
        case false =>
          have HE : Hid (l1 ++ (H.take k).map (patchP nm) ++ [rmP nm] = l ++ oneN nm (get t nm) (get u nm)) := Lib.hid (by
            have hz : (if y.isSome then [] else [rmP nm]) = [rmP nm] := by rw [HBY.out]; rfl
            rw [HF.out, HX.out, HY.out]; unfold oneN; rw [hz]; simp only [List.append_assoc])
          have HSW : Hid (∀ k, S4 k → k < wr.heap.size ∧ k ≠ b) := Lib.hid (fun k hk => ⟨Nat.lt_of_lt_of_le (HS4.out k hk).1 HSR.out, (HS4.out k hk).2⟩)
          clear HF hlt
          go_wp2_with fail
          refine (tell S4 b _ none 0 0 none 0 0 (rmP nm) wr HGR.out HSW.out (by rw [List.length_append, List.length_map, List.length_take]; omega) (pg_none _ _ 1 nm (by decide) hnm)).mono ?_
          rintro e w5 ⟨rfl, hg5, hb5, ha5⟩
          rw [HE.out] at hg5
          have HG5 := Lib.hid (hg5.mono HSU4.out); have HB5 := Lib.hid (HBR.out.trans hb5); have HA5 := Lib.hid (alike_trans HAF.out (Nat.le_trans HW4.out HSR.out) ha5 HSU4.out)
          clear hg5 hb5 ha5
          go_wp2
          go_end0
          exact ⟨rfl, HG5.out, HB5.out, HA5.out⟩

end Nw
end Go.Proofs.Ytjhjmfodpnipiaa
