/-
  What the program's own Apply of a list of changes returns (walk), for lists of any length that is thought of here: trees are held wide alone.
-/
import Derived.Test.YtjhjmfodpnipiaaGreatFlLeaf
set_option maxRecDepth 100000
namespace Go.Proofs.YtjhjmfodpnipiaaGreat
open Go.RowKit
set_option linter.unusedVariables false
set_option linter.unusedSimpArgs false
namespace Fl
open Tx Df Sq Hk Tr Pr

/-- A tree of at most k files of at most l lines, whatever their bytes. -/
structure Wd (t : TR) (k l : Nat) : Prop where
  k : t.length ≤ k
  l : ∀ x ∈ t, x.2.length ≤ l
theorem Wd.wide {t : TR} {k l : Nat} (h : Wd t k l) (hk : k ≤ 3518437208800) (hl : l ≤ 8796093021952) : Wide t := ⟨Nat.le_trans h.k hk, fun x hx => Nat.le_trans (h.l x hx) hl⟩
theorem Wd.put {t : TR} {k l : Nat} {s : List UInt8} {ls : List (List UInt8)} (h : Wd t k l) (hll : ls.length ≤ l) : Wd (Tr.put lt t s ls) (k + 1) l := by
  refine ⟨?_, fun x hx => ?_⟩
  · have e : (Tr.put lt t s ls).length ≤ t.length + 1 := by rw [put_len]; split <;> omega
    have := h.k
    omega
  · rcases put_mem hx with rfl | hx
    · exact hll
    · exact h.l x hx
theorem Wd.del {t : TR} {k l : Nat} {s : List UInt8} (h : Wd t k l) : Wd (Tr.del t s) k l := ⟨Nat.le_trans (del_sub t s).length_le h.k, fun x hx => h.l x ((del_sub t s).subset hx)⟩
theorem Wd.mono {t : TR} {k l k' l' : Nat} (h : Wd t k l) (hk : k ≤ k') (hl : l ≤ l') : Wd t k' l' := ⟨Nat.le_trans h.k hk, fun x hx => Nat.le_trans (h.l x hx) hl⟩
theorem Wd.do {t u : TR} {p : Ch} {r : Int} {k l : Nat} (h : Wd t k l) (hp : lightP p = true) (hd : doP t p = (r, u)) : Wd u (k + 1) (l + 300) := by
  by_cases h0 : r = 0
  · subst h0
    obtain ⟨_, hd⟩ := doP_cases hd
    rcases hd with ⟨_, _, rfl⟩ | ⟨_, _, rfl⟩ | ⟨_, ls, hg, _, rfl⟩ | ⟨_, ls, hg, _, rfl⟩
    · exact (h.mono (Nat.le_refl _) (Nat.le_add_right _ _)).put (Nat.zero_le _)
    · exact h.del.mono (Nat.le_succ _) (Nat.le_add_right _ _)
    · exact (h.del.mono (Nat.le_refl _) (Nat.le_add_right _ _)).put (Nat.le_trans (h.l _ (get_mem hg)) (Nat.le_add_right _ _))
    · have h3 := h.l _ (get_mem hg)
      obtain ⟨a1, a2⟩ := applyL_300 (l := ls) hp
      dsimp only at h3
      exact (h.mono (Nat.le_refl _) (Nat.le_add_right _ _)).put (by omega)
  · have h1 := doP_none (t := t) (p := p) (by rw [hd]; exact h0)
    rw [hd] at h1
    dsimp only at h1
    subst h1
    exact ⟨Nat.zero_le _, fun x hx => by cases hx⟩

set_option maxHeartbeats 4000000 in
theorem ApplyLW (K L : Nat) (A0 : Option Addr) (n0 c0 : Nat) (A : Option Addr) (n c : Nat) (t : TR) (l : List Ch) (w : World) (R : Int × TR) (ht : Small t) (hm : Wd t K L) (hK : K + n ≤ 3518437208800) (hL : L + 300 * n ≤ 8796093021952) (hn0 : t.length = n0) (hn : l.length = n) (hl : Lt l) (hR0 : RdT w w.heap.size A0 t) (hR : RdP w (· < w.heap.size) A l) (hD : doF t l = R) :
    Calls Tryz.prog 9 #[.slice A0 n0 c0, .slice A n c] w (DoEnd w R) := by
  have HR := Lib.hid hR; have HN := Lib.hid hn; have HL := Lib.hid hl; have HD := Lib.hid hD; have HT := Lib.hid ht; have HTM := Lib.hid hm; have HR0 := Lib.hid hR0; have HN0 := Lib.hid hn0
  clear hR hn hl hD ht hm hn0 hR0
  go_enter Tryz.func9, Tryz.ntmps9
  go_wp2_with fail
  refine (ownTree A0 n0 c0 t w HN0.out (by rw [← HN0.out]; exact HT.out.len) (fun x hx => (HT.out.all x hx).l) HR0.out).mono ?_
  rintro e w0 ⟨B0, d0, rfl, hd0, hr0, hb0⟩
  have HT0 := Lib.hid (show ∃ u : TR, u.length = n0 ∧ n0 ≤ d0 ∧ Wd u (K + 0) (L + 300 * 0) ∧ RdT w0 w0.heap.size B0 u ∧ doF t l = doF u (l.drop 0) from ⟨t, HN0.out, by rw [← HN0.out]; exact hd0, HTM.out, hr0, rfl⟩)
  have hz : t.length = n0 := HN0.out
  rw [hz]
  have HB0 := Lib.hid hb0
  clear HT HTM HR0 HN0 hd0 hr0 hb0 hz
  go_wp2
  go_loopw [6, 15] (fun v0 i wr => ∃ (k : Nat) (B : Option Addr) (m d : Nat) (u : TR), k ≤ n ∧ i = .int .i64 (k : Int) ∧ v0 = .slice B m d ∧ u.length = m ∧ m ≤ d ∧ Wd u (K + k) (L + 300 * k) ∧ RdT wr wr.heap.size B u ∧ doF t l = doF u (l.drop k) ∧ Below w.heap.size w wr) (fun _ i _ => n - (intOf i).toNat)
  case atStart =>
    obtain ⟨u, h1, h2, h3, h4, h5⟩ := HT0.out
    exact ⟨0, B0, n0, d0, u, Nat.zero_le _, rfl, rfl, h1, h2, h3, h4, h5, HB0.out⟩
  case round =>
    clear HT0 HB0
    obtain ⟨k, B, m, d, u, hk, rfl, rfl, hm, hmd, hM, hT, hF, hbw⟩ := hrel
    have HBW := Lib.hid hbw; have HM := Lib.hid hm; have HMM := Lib.hid hM; have HT := Lib.hid hT; have HF := Lib.hid hF; have HMD := Lib.hid hmd
    clear hbw hm hM hT hF hmd
    by_cases hlt : k < n
    · have hki : (k : Int) < (n : Int) := by omega
      obtain ⟨a, x, B1, i, j, D, m1, d1, rfl, hS, hx, c0, c1, c2, c3, c4, c5, c6⟩ := ((HR.out.mv HBW.out).elem (k := k) (by rw [HN.out]; exact hlt))
      have HX := Lib.hid hx; have HP := Lib.hid c6.pv; clear hx c6 hS
      have HLX := Lib.hid (HL.out x (List.mem_of_getElem? HX.out))
      have hba : Below wr.heap.size wr (wr.alloc (.cells #[.int .i64 x.k, strV x.nm, strV x.to, .int .i64 x.h.pos, .slice B1 i j, .slice D m1 d1] 42)) := (Below.refl _ _).alloc (Nat.le_refl _) _
      have HBA := Lib.hid hba; clear hba
      go_wp2_with fail
      refine (ApplyP B m d B1 i j D m1 d1 u x _ (HMM.out.wide (by omega) (by omega)) HM.out (HT.out.mv HBA.out) (HP.out.mv HBA.out)).mono ?_
      rintro e w2 hde
      obtain ⟨r, hr⟩ : ∃ r, doP u x = r := ⟨_, rfl⟩
      rw [hr] at hde
      obtain ⟨r, v⟩ := r
      obtain ⟨B2, m2, d2, rfl, hd2, hl2, hT2, hb2⟩ := hde
      dsimp only at hl2 hT2
      have hF := doF_at HX.out HF.out
      have HM2 := Lib.hid (HMM.out.do HLX.out hr)
      have hbw2 := below_mv HBW.out (below_mv HBA.out hb2)
      have HBW2 := Lib.hid hbw2; have HT2 := Lib.hid hT2; have HL2 := Lib.hid hl2; have HD2 := Lib.hid hd2; have HF2 := Lib.hid hF; have HRR := Lib.hid hr
      clear hbw2 c0 c1 c2 c3 c4 c5 hb2 hT2 hl2 hd2 hF hr
      by_cases h0 : r = 0
      · subst h0
        go_wp2_with fail
        refine ⟨⟨k + 1, B2, m2, d2, v, by omega, by go_num, rfl, HL2.out, HD2.out, ?_, HT2.out, ?_, HBW2.out⟩, by simp [intOf]; omega⟩
        · have h1 := HM2.out
          rw [show L + 300 * k + 300 = L + 300 * (k + 1) by omega] at h1
          exact h1
        · rw [HF2.out, doF_cons_ok HRR.out]
      · have e0 : (r != 0) = true := by rw [bne_iff_ne]; exact h0
        have HO : Hid (R = (r, [])) := Lib.hid (by rw [← HD.out, HF2.out, doF_cons_no (by rw [HRR.out]; exact h0), HRR.out])
        clear h0
        go_wp2
        go_ret2
        exact doEnd_err HO.out HBW2.out
    · have HO : Hid (R = (0, u)) := Lib.hid (by rw [← HD.out, HF.out, List.drop_of_length_le (by rw [HN.out]; omega)]; rfl)
      go_wp2
      go_ret2
      obtain ⟨rfl⟩ := HM.out
      exact doEnd_ok HO.out HMD.out HT.out HBW.out

end Fl
end Go.Proofs.YtjhjmfodpnipiaaGreat
