/-
  What the document's Del of layer 7 returns (walk).
-/
import Derived.Test.YtdjeebfbffoehaaTrRef
import Derived.Test.YtdjeebfbffoehaaTrApp
namespace Go.Proofs.Ytdjeebfbffoehaa
open Go.RowKit
set_option linter.unusedVariables false
namespace Tr
open Tx

/-- What is left of the files gone through. -/
def delTo (o : Option Nat) (t : TR) (k : Nat) : TR :=
  match o with
  | none => t.take k
  | some i => if k ≤ i then t.take k else t.take i ++ (t.take k).drop (i + 1)
theorem delTo_here {t : TR} {i : Nat} : delTo (some i) t (i + 1) = delTo (some i) t i := by
  unfold delTo
  simp only
  rw [if_neg (by omega), if_pos (Nat.le_refl _), List.drop_of_length_le (by rw [List.length_take]; omega), List.append_nil]
theorem delTo_next {o : Option Nat} {t : TR} {k : Nat} (hk : k < t.length) (h : o ≠ some k) : delTo o t (k + 1) = delTo o t k ++ [t[k]] := by
  cases o with
  | none => exact take_snoc' hk
  | some i =>
    have hne : i ≠ k := fun e => h (by rw [e])
    unfold delTo
    simp only
    by_cases hki : k ≤ i
    · rw [if_pos (by omega), if_pos hki]; exact take_snoc' hk
    · rw [if_neg (by omega), if_neg hki, take_snoc' hk, List.drop_append_of_le_length (by rw [List.length_take]; omega), List.append_assoc]
theorem delTo_end {t : TR} {s : List UInt8} : delTo (ixF (isN s) t) t t.length = del t s := by
  cases hi : ixF (isN s) t with
  | none => rw [del_no (get_ix_none hi)]; exact List.take_length
  | some i =>
    obtain ⟨hk, h1, _, h3⟩ := get_ix hi
    rw [del_at hk h1 h3]
    unfold delTo
    simp only
    rw [if_neg (by omega), List.take_length]
theorem delTo_len {o : Option Nat} {t : TR} {k : Nat} : (delTo o t k).length ≤ t.length := by
  cases o with
  | none => unfold delTo; rw [List.length_take]; omega
  | some i => unfold delTo; simp only; split <;> simp only [List.length_append, List.length_take, List.length_drop] <;> omega

/-- One file that is read, appended. -/
theorem one_src {wr : World} {g B : Nat} {v : Value} {D : TR} {x : FL} {A : Option Addr} {m c : Nat} {t : TypeId} (hown : OwnT wr g v D) (hm : x.2.length = m) (hc : m ≤ c) (hr : RdS wr B A x.2) (hB : B ≤ g) (hg : g ≤ wr.heap.size) :
    OwnT (wr.alloc (.cells #[strV x.1, .slice A m c] t)) g v D ∧ FCells (wr.alloc (.cells #[strV x.1, .slice A m c] t)) v.ownBlock [x] [strV x.1, .slice A m c] ∧
      (∀ j u, ([strV x.1, .slice A m c] : List Value)[j]? = some u → (wr.alloc (.cells #[strV x.1, .slice A m c] t)).cell? ((⟨wr.heap.size, 0, none⟩ : Addr).add j) = some u) ∧ g ≤ (wr.alloc (.cells #[strV x.1, .slice A m c] t)).heap.size := by
  have hb : Below wr.heap.size wr (wr.alloc (.cells #[strV x.1, .slice A m c] t)) := (Below.refl _ _).alloc (Nat.le_refl _) _
  have hBW : B ≤ wr.heap.size := Nat.le_trans hB hg
  refine ⟨hown.below hb, FCells.one hm hc (RdX.of (Rd.below hr (hb.mono hBW)) (Nat.le_trans hBW hb.size) fun k hk => Nat.le_trans hB (ownT_ge hown k hk)), ?_, Nat.le_trans hg hb.size⟩
  exact World.news_of_block (cs := #[strV x.1, .slice A m c]) (t := t) (fr := (0, 0)) (Blk.new wr t _)

set_option maxHeartbeats 2000000 in
theorem refDel (s : List UInt8) (A : Option Addr) (c n B : Nat) (t : TR) (w : World) (hn : t.length = n) (hs : Small t) (hB : B ≤ w.heap.size) (hR : RdT w B A t) (h9 : n ≤ 50000) :
    Calls Try.prog 31 #[.slice A n c, strV s] w (TreeEnd w (del t s)) := by
  have hln : n ≤ 100000 := by rw [← hn]; exact hs.len
  have hW := refWhere s A c n B t w hn hln hR
  have hend := delTo_end (t := t) (s := s)
  rw [hn] at hend
  have hin : ∀ i, ixF (isN s) t = some i → i < n := fun i hi => by rw [← hn]; exact (ixF_some hi).1
  obtain ⟨o, ho⟩ : ∃ o, ixF (isN s) t = o := ⟨_, rfl⟩
  rw [ho] at hW hend hin
  obtain ⟨iv, hiv⟩ : ∃ iv, ixV o = iv := ⟨_, rfl⟩
  rw [hiv] at hW
  have hiq : ∀ k : Nat, (o = some k → ((k : Int) != iv) = false ∧ (k : Int) = iv) ∧ (o ≠ some k → ((k : Int) != iv) = true ∧ ¬ (k : Int) = iv) := fun k => by
    have hz : ¬ (k : Int) = iv ↔ o ≠ some k := by
      cases o with
      | none => simp only [ixV] at hiv; constructor
                · intro _ e; cases e
                · intro _; omega
      | some i => simp only [ixV] at hiv; constructor
                  · intro h e; injection e with e; subst e; exact h hiv
                  · intro h e; exact h (by congr 1; omega)
    refine ⟨fun e => ?_, fun e => ?_⟩
    · have : (k : Int) = iv := by
        refine Classical.byContradiction fun h => ?_
        exact (hz.1 h) e
      exact ⟨by simpa using this, this⟩
    · exact ⟨by simpa using hz.2 e, hz.2 e⟩
  have HN := Lib.hid hn; have R := Lib.hid hR; have HW := Lib.hid hW; have HEND := Lib.hid hend; have HIQ := Lib.hid hiq; have HS := Lib.hid hs
  clear hn hR hW hend hiq ho hiv hin hs
  obtain ⟨g, hg⟩ : ∃ g, w.heap.size = g := ⟨_, rfl⟩
  have HG := Lib.hid hg
  rw [hg] at hB
  clear hg
  go_enter Try.func31, Try.ntmps31
  go_wp2_with fail
  refine HW.out.mono ?_
  rintro e w1 ⟨rfl, rfl⟩
  go_wp2_with fail
  go_loopw [6, 7] (fun v i wr => ∃ k : Nat, k ≤ n ∧ i = .int .i64 (k : Int) ∧ OwnT wr g v (delTo o t k) ∧ Below g w wr) (fun _ i _ => n - (intOf i).toNat)
  case atStart => exact ⟨0, Nat.zero_le _, rfl, by rw [show delTo o t 0 = [] by cases o <;> simp [delTo]]; exact ownT_nil _ _, Below.refl _ _⟩
  case round =>
    obtain ⟨k, hk, rfl, hown, hbw⟩ := hrel
    have HOWN := Lib.hid hown; have HBW := Lib.hid hbw
    clear hown hbw
    have hgw : g ≤ wr.heap.size := by have := HBW.out.size; rw [HG.out] at this; exact this
    by_cases hlt : k < n
    · have hkl : k < t.length := by rw [HN.out]; exact hlt
      obtain ⟨a, rfl, hab, hat⟩ := (RdT.below R.out (HBW.out.mono hB)).at_ hkl
      rcases Classical.em (o = some k) with e | e
      · obtain ⟨h1, h2⟩ := (HIQ.out k).1 e
        have HD : Hid (delTo o t (k + 1) = delTo o t k) := Lib.hid (by rw [e]; exact delTo_here)
        clear h2 e
        go_wp2
        go_roundw
        case rel => exact ⟨k + 1, by omega, by go_num, by rw [HD.out]; exact HOWN.out, HBW.out⟩
        case measure => simp [intOf]; omega
      · obtain ⟨h1, h2⟩ := (HIQ.out k).2 e
        have hd := delTo_next (o := o) hkl e
        have hdl := delTo_len (o := o) (t := t) (k := k)
        rw [HN.out] at hdl
        have hsm := HS.out.all _ (List.getElem_mem hkl)
        obtain ⟨x, hx⟩ : ∃ x, t[k] = x := ⟨_, rfl⟩
        rw [hx] at hat hd hsm
        clear hx h2 e
        obtain ⟨c0, A1, c1, k1, hc1, r1⟩ := hat
        obtain ⟨m, hm⟩ : ∃ m, x.2.length = m := ⟨_, rfl⟩
        rw [hm] at k1 hc1
        obtain ⟨D, hDe⟩ : ∃ D, delTo o t k = D := ⟨_, rfl⟩
        rw [hDe] at hd hdl
        have hown := HOWN.out
        rw [hDe] at hown
        obtain ⟨s1, s2, s3, s4⟩ := one_src (t := 44) hown hm hc1 r1 hB hgw
        have hba : Below g w (wr.alloc (.cells #[strV x.1, .slice A1 m c1] 44)) := HBW.out.alloc hgw _
        have hge := ownT_ge hown
        have HD := Lib.hid hd; have S1 := Lib.hid s1; have S2 := Lib.hid s2; have S3 := Lib.hid s3; have HBA := Lib.hid hba; have HGE := Lib.hid hge
        have hdn : D.length + 1 ≤ 100000 := by omega
        clear hd s1 s2 s3 hba hm r1 hown hge hDe hsm
        go_wp2_with (at_builtin; refine wpList_ownT rfl (.tmp 20) (.tmp 25) rfl g 1 1 u6 (some ⟨wr.heap.size, 0, none⟩) D [x] [strV x.1, .slice A1 m c1] rfl rfl S1.out S2.out rfl (.inr ⟨_, rfl, S3.out⟩) rfl hdn s4 ?_; intro v' W' ho hg; have HO := Lib.hid ho; have HB2 := Lib.hid (HBA.out.grown hg s4 HGE.out); clear ho hg)
        go_roundw
        case rel => exact ⟨k + 1, by omega, by go_num, by rw [HD.out]; exact HO.out, HB2.out⟩
        case measure => simp [intOf]; omega
    · obtain rfl : k = n := by omega
      have hown := HOWN.out
      rw [HEND.out] at hown
      obtain ⟨A1, c1, rfl, hc1, hrd⟩ := rdT_own hown
      have hte : TreeEnd w (del t s) (.returned (.slice A1 (del t s).length c1)) wr := ⟨A1, c1, rfl, hc1, hrd, by rw [HG.out]; exact HBW.out⟩
      have HTE := Lib.hid hte
      clear hown hrd hte hc1 HOWN
      go_wp2
      go_ret
      exact HTE.out

end Tr
end Go.Proofs.Ytdjeebfbffoehaa
