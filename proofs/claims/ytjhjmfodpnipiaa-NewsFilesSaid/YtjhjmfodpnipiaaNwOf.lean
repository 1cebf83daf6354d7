/-
  What Of of layer 13 returns (walk): what changes one tree into another one.
-/
import Derived.Test.YtjhjmfodpnipiaaNwComp
import Derived.Test.YtjhjmfodpnipiaaTrNames
import Derived.Test.YtjhjmfodpnipiaaGU
set_option maxRecDepth 100000
namespace Go.Proofs.Ytjhjmfodpnipiaa
open Go.RowKit
set_option linter.unusedVariables false
set_option linter.unusedSimpArgs false
namespace Nw
open Tx Df Sq Hk Tr Pr Fl

/-- How Of ends. -/
def NewsEnd (w : World) (r : Int × List Ch) (e : Ending) (w' : World) : Prop :=
  ∃ A n c, e = .returned (.tuple #[.slice A n c, .int .i64 r.1]) ∧ n ≤ c ∧ r.2.length = n ∧ RdP w' (· < w'.heap.size) A r.2 ∧ Below w.heap.size w w'
/-- What a block of one slice value holds is no lines. -/
theorem rdG_out {W : World} {b : Nat} {t : TypeId} {A0 : Option Addr} {n0 c0 : Nat} {A : Option Addr} {ls : List (List UInt8)} (h : RdS W W.heap.size A ls) (hb : Blk W b t #[.slice A0 n0 c0]) : RdG W (fun k => k < W.heap.size ∧ k ≠ b) A (ls.map strV) := by
  rcases h with h | ⟨a, e, hlt, hc⟩
  · exact .inl h
  · cases ls with
    | nil => exact .inl rfl
    | cons x ls =>
      refine .inr ⟨a, e, ⟨hlt, fun eq => ?_⟩, hc⟩
      have hcell := hc 0 (strV x) rfl
      unfold World.cell? at hcell
      rw [add_block, eq, show W.heap[b]? = _ from hb] at hcell
      simp only at hcell
      split at hcell
      · cases hcell
      · generalize (a.add 0).off = o at hcell
        match o, hcell with
        | 0, h => simp at h
        | o + 1, h => simp at h
theorem oneN_len (nm : List UInt8) (x y : Option (List (List UInt8))) (hx : (x.getD []).length ≤ 100) (hy : (y.getD []).length ≤ 100) : (oneN nm x y).length ≤ 202 := by
  have h1 := edits_len_le (x.getD []) (y.getD [])
  have h2 : (hunks (x.getD []) (y.getD [])).length = (edits (x.getD []) (y.getD [])).length := hks_len _ _ _
  have h3 : (if x.isSome then ([] : List Ch) else [addP nm]).length ≤ 1 := by split <;> simp
  have h4 : (if y.isSome then ([] : List Ch) else [rmP nm]).length ≤ 1 := by split <;> simp
  unfold oneN
  rw [List.length_append, List.length_append, List.length_map, h2]
  omega
theorem flat_len {f : List UInt8 → List Ch} (hf : ∀ n, (f n).length ≤ 202) : ∀ (l : List (List UInt8)), (l.flatMap f).length ≤ l.length * 202
  | [] => by simp
  | n :: l => by
    have h1 := hf n
    have h2 := flat_len hf l
    rw [List.flatMap_cons, List.length_append, List.length_cons]
    omega
theorem get_few {t : TR} (h : Few60 t) (n : List UInt8) : ((get t n).getD []).length ≤ 100 := by
  cases hg : get t n with
  | none => simp
  | some l => exact h _ (get_mem hg)
theorem news_len {t u : TR} (ht : Few60 t) (hu : Few60 u) (h40 : t.length ≤ 40) (h40' : u.length ≤ 40) : (newsL t u).length ≤ 16160 := by
  have h1 := names_len (lt := lt) (t.map (·.1) ++ u.map (·.1))
  rw [List.length_append, List.length_map, List.length_map] at h1
  have h2 := flat_len (f := fun n => oneN n (get t n) (get u n)) (fun n => oneN_len n _ _ (get_few ht n) (get_few hu n)) (namesN t u)
  unfold newsL
  unfold namesN at h2 ⊢
  omega
theorem flat_snoc {f : List UInt8 → List Ch} {l : List (List UInt8)} {k : Nat} {x : List UInt8} (h : l[k]? = some x) : (l.take k).flatMap f ++ f x = (l.take (k + 1)).flatMap f := by
  rw [List.take_add_one, h, List.flatMap_append]
  simp
theorem flat_take {f : List UInt8 → List Ch} (hf : ∀ n, (f n).length ≤ 202) (l : List (List UInt8)) (k : Nat) (hl : l.length ≤ 80) : ((l.take k).flatMap f).length ≤ 40000 := by
  have h1 := flat_len hf (l.take k)
  rw [List.length_take] at h1
  omega

set_option maxRecDepth 100000 in
set_option maxHeartbeats 4000000 in
theorem Of (A A' : Option Addr) (n c n' c' : Nat) (t u : TR) (w : World) (hn : t.length = n) (hn' : u.length = n') (hs : Small t) (hs' : Small u) (h40 : t.length ≤ 40) (h40' : u.length ≤ 40) (hf : Few60 t) (hf' : Few60 u) (hR : RdT w w.heap.size A t) (hR' : RdT w w.heap.size A' u) :
    Calls Try.prog 8 #[.slice A n c, .slice A' n' c'] w (NewsEnd w (newsP t u)) := by
  have HN := Lib.hid hn; have HN' := Lib.hid hn'; have HS := Lib.hid hs; have HS' := Lib.hid hs'; have HR := Lib.hid hR; have HR' := Lib.hid hR'
  have HF := Lib.hid hf; have HF' := Lib.hid hf'; have H40 := Lib.hid h40; have H40' := Lib.hid h40'
  clear hn hn' hs hs' hR hR' hf hf' h40 h40'
  go_enter Try.func8, Try.ntmps8
  go_wp2_with fail
  cases hm : mayT t with
  | false =>
    refine (MayC (b := false) HN.out HS.out HR.out hm).mono ?_
    rintro e w1 ⟨rfl, hb1⟩
    have HE : Hid (newsP t u = (1, [])) := Lib.hid (by unfold newsP; rw [hm]; rfl)
    clear hm
    go_wp2
    go_ret2
    exact ⟨none, 0, 0, (by rw [HE.out]; rfl), Nat.le_refl _, by rw [HE.out]; rfl, by rw [HE.out]; exact .inl rfl, hb1⟩
  | true =>
  refine (MayC (b := true) HN.out HS.out HR.out hm).mono ?_
  rintro e w1 ⟨rfl, hb1⟩
  have HM := Lib.hid hm; have HB1 := Lib.hid hb1
  clear hm hb1
  go_wp2_with fail
  cases hm' : mayT u with
  | false =>
    refine (MayC (b := false) HN'.out HS'.out (HR'.out.mv HB1.out) hm').mono ?_
    rintro e w2 ⟨rfl, hb2⟩
    have HE : Hid (newsP t u = (1, [])) := Lib.hid (by unfold newsP; rw [hm', Bool.and_false]; rfl)
    have HB2 := Lib.hid (below_mv HB1.out hb2)
    clear hm' hb2
    go_wp2
    go_ret2
    exact ⟨none, 0, 0, (by rw [HE.out]; rfl), Nat.le_refl _, by rw [HE.out]; rfl, by rw [HE.out]; exact .inl rfl, HB2.out⟩
  | true =>
  refine (MayC (b := true) HN'.out HS'.out (HR'.out.mv HB1.out) hm').mono ?_
  rintro e w2 ⟨rfl, hb2⟩
  have HE : Hid (newsP t u = (0, newsL t u)) := Lib.hid (by unfold newsP; rw [HM.out, hm']; rfl)
  have HB2 := Lib.hid (below_mv HB1.out hb2)
  clear hm' hb2 HB1 HM
  have hbn := Blk.new w2 44 #[.slice none 0 0]
  have hba : Below w2.heap.size w2 (w2.alloc (.cells #[.slice none 0 0] 44)) := (Below.refl _ _).alloc (Nat.le_refl _) _
  have HBN := Lib.hid hbn; have HBA := Lib.hid hba
  have HG0 : Hid (Gat (w2.alloc (.cells #[.slice none 0 0] 44)) (fun _ => False) w2.heap.size []) := Lib.hid ⟨_, hbn, ownG_nil _ _, fun g hg h => h⟩
  have HB3 := Lib.hid (HB2.out.trans (hba.mono HB2.out.size))
  have HSZ := Lib.hid HB2.out.size
  clear hbn hba HB2
  go_wp2_with fail
  refine (Names A A' n c n' c' w.heap.size t u _ HN.out HN'.out HS.out HS'.out HB3.out.size (HR.out.below HB3.out) (HR'.out.below HB3.out)).mono ?_
  rintro e w3 ⟨A3, c3, rfl, hc3, hr3, hb3⟩
  obtain ⟨b, hb⟩ : ∃ b, w2.heap.size = b := ⟨_, rfl⟩
  rw [hb] at HSZ HG0 HBN ⊢
  have hbl3 : b < (w2.alloc (.cells #[.slice none 0 0] 44)).heap.size := HBN.out.lt
  obtain ⟨NS, hNS⟩ : ∃ NS, namesN t u = NS := ⟨_, rfl⟩
  have hNS' : names Op.bytesLess (t.map (·.1) ++ u.map (·.1)) = NS := hNS
  rw [hNS'] at hc3 hr3 ⊢
  have hK80 : NS.length ≤ 80 := by
    have h1 := names_len (lt := Op.bytesLess) (t.map (·.1) ++ u.map (·.1))
    rw [hNS', List.length_append, List.length_map, List.length_map] at h1
    have := H40.out; have := H40'.out
    omega
  have hnm : ∀ x ∈ NS, x.length ≤ 100000 := by
    have h1 := (small_names HS.out HS'.out H40.out H40'.out).2
    rw [hNS'] at h1
    exact h1
  have HNM := Lib.hid hnm; have HK80 := Lib.hid hK80
  have HNG := Lib.hid (rdG_out hr3 (HBN.out.below hb3 hbl3))
  have HGG : Hid (Gat w3 (fun k => k < w3.heap.size ∧ k ≠ b) b []) := Lib.hid (by
    obtain ⟨v, h1, h2, h3⟩ := HG0.out.below hb3
    have hv : v = .slice none 0 0 := by
      have e1 := (HBN.out.below hb3 hbl3).cell 0 rfl
      rw [h1.cell 0 rfl] at e1
      injection e1
    subst hv
    exact ⟨_, h1, h2, fun g hg => by cases hg⟩)
  have HBW : Hid (Below w.heap.size w w3) := Lib.hid (below_mv HB3.out hb3)
  have hb3' : b < w3.heap.size := Nat.lt_of_lt_of_le hbl3 hb3.size
  have HLF : Hid (newsL t u = NS.flatMap fun n => oneN n (get t n) (get u n)) := Lib.hid (by unfold newsL; rw [hNS])
  obtain ⟨K, hK⟩ : ∃ K, NS.length = K := ⟨_, rfl⟩
  rw [hK] at hc3 hK80 ⊢
  have HK := Lib.hid hK
  have HSS : Hid (∀ k, (fun k => k < w3.heap.size ∧ k ≠ b) k → k < w3.heap.size ∧ k ≠ b) := Lib.hid (fun k hk => hk)
  obtain ⟨S, hS⟩ : ∃ S : Nat → Prop, (fun k => k < w3.heap.size ∧ k ≠ b) = S := ⟨_, rfl⟩
  rw [hS] at HGG HNG HSS
  clear hS hK hr3 hb3 hNS hNS' hnm HG0 HBN HBA HB3 hbl3 hb
  go_wp2_with fail
  go_loopw [23] (fun i wr => ∃ k : Nat, k ≤ K ∧ i = .int .i64 (k : Int) ∧ Gat wr S b ((NS.take k).flatMap fun n => oneN n (get t n) (get u n)) ∧ Below b w3 wr ∧ Fl.Alike S w3 wr ∧ w3.heap.size ≤ wr.heap.size) (fun i _ => K - (intOf i).toNat)
  case atStart => exact ⟨0, Nat.zero_le _, rfl, HGG.out, Below.refl _ _, fun _ _ _ => rfl, Nat.le_refl _⟩
  case round =>
    obtain ⟨k, hk, rfl, hg, hbr, har, hsr⟩ := hrel
    have HGR := Lib.hid hg; have HBR := Lib.hid hbr; have HAR := Lib.hid har; have HSR := Lib.hid hsr
    clear hg hbr har hsr HGG
    by_cases hlt : k < K
    · have hki : (k : Int) < (K : Int) := by omega
      have hkl : k < NS.length := by rw [HK.out]; exact hlt
      have hrn := HNG.out.to HAR.out
      obtain ⟨nm, hnm⟩ : ∃ nm, NS[k]? = some nm := ⟨_, List.getElem?_eq_getElem hkl⟩
      obtain ⟨a, rfl, x0⟩ : ∃ a, A3 = some a ∧ wr.cell? (a.add k) = some (strV nm) := by
        rcases hrn with h | ⟨a, e, _, hc⟩
        · have : NS = [] := List.map_eq_nil_iff.1 h
          rw [this] at hkl
          exact absurd hkl (by simp)
        · exact ⟨a, e, hc k _ (by rw [List.getElem?_map, hnm]; rfl)⟩
      have HX := Lib.hid hnm
      have HNL := Lib.hid (HNM.out nm (List.mem_of_getElem? hnm))
      clear hrn hnm
      go_wp2_with fail
      have hbe : Below w.heap.size w wr := HBW.out.trans (HBR.out.mono HSZ.out)
      refine (compare w.heap.size b S A A' n c n' c' nm t u _ wr HN.out HN'.out HS.out HS'.out (Nat.le_trans (get_few HF.out nm) (by decide)) (Nat.le_trans (get_few HF'.out nm) (by decide)) HNL.out HSZ.out (HR.out.below hbe) (HR'.out.below hbe) HGR.out (fun k hk => ⟨Nat.lt_of_lt_of_le (HSS.out k hk).1 HSR.out, (HSS.out k hk).2⟩) (flat_take (fun n => oneN_len n _ _ (get_few HF.out n) (get_few HF'.out n)) NS k HK80.out)).mono ?_
      rintro e w5 ⟨rfl, hg5, hb5, ha5⟩
      rw [flat_snoc (f := fun n => oneN n (get t n) (get u n)) HX.out] at hg5
      have HG5 := Lib.hid hg5; have HB5 := Lib.hid (HBR.out.trans hb5); have HA5 := Lib.hid (alike_trans HAR.out HSR.out ha5 (fun _ h => h))
      have HS5 := Lib.hid (Nat.le_trans HSR.out hb5.size)
      clear hg5 hb5 ha5 hbe x0
      go_wp2
      go_roundw
      case rel => exact ⟨k + 1, by omega, by go_num, HG5.out, HB5.out, HA5.out, HS5.out⟩
      case measure => simp [intOf]; omega
    · obtain rfl : k = K := by omega
      have hg := HGR.out
      rw [List.take_of_length_le (by rw [HK.out]; exact Nat.le_refl _), ← HLF.out] at hg
      obtain ⟨v, h1, h2, h3⟩ := hg
      obtain ⟨Av, cv, rfl, hcv, hrd, _⟩ := rdP_own (ownG_own h2)
      have b0 := h1.cell 0 rfl
      obtain ⟨nv, hnv⟩ : ∃ nv, (newsL t u).length = nv := ⟨_, rfl⟩
      rw [hnv] at b0 hcv
      have HRD := Lib.hid hrd; have HNV := Lib.hid hnv; have HCV := Lib.hid hcv
      have HBF : Hid (Below w.heap.size w wr) := Lib.hid (HBW.out.trans (HBR.out.mono HSZ.out))
      clear h1 h2 h3 hrd hnv hcv HGR hlt
      go_wp2
      go_ret2
      exact ⟨Av, nv, cv, (by rw [HE.out]; rfl), HCV.out, by rw [HE.out]; exact HNV.out, by rw [HE.out]; exact HRD.out, HBF.out⟩

end Nw
end Go.Proofs.Ytjhjmfodpnipiaa
