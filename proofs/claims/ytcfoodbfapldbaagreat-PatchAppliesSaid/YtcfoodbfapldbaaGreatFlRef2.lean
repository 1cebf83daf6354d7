/-
  What the document's own Apply and Turn of lists of changes return (walks).
-/
import Derived.Test.YtcfoodbfapldbaaGreatFlRef
import Derived.Test.YtcfoodbfapldbaaGreatGR
import Derived.Test.YtcfoodbfapldbaaGreatGV
set_option maxRecDepth 100000
namespace Go.Proofs.YtcfoodbfapldbaaGreat
open Go.RowKit
set_option linter.unusedVariables false
set_option linter.unusedSimpArgs false
namespace Fl
open Tx Df Sq Hk Tr Pr

theorem doF_at {t u : TR} {l : List Ch} {k : Nat} {x : Ch} (hx : l[k]? = some x) (h : doF t l = doF u (l.drop k)) : doF t l = doF u (x :: l.drop (k + 1)) := by rw [h, drop_at hx]

set_option maxHeartbeats 4000000 in
theorem refApplyLK (K L : Nat) (A0 : Option Addr) (n0 c0 : Nat) (A : Option Addr) (n c : Nat) (t : TR) (l : List Ch) (w : World) (R : Int × TR) (ht : Most t K L) (hK : K + n ≤ 40000) (hL : L + 300 * n ≤ 50000) (hn0 : t.length = n0) (hc0 : n0 ≤ c0) (hn : l.length = n) (hl : ∀ x ∈ l, lightP x = true) (hR0 : RdT w w.heap.size A0 t) (hR : RdP w (· < w.heap.size) A l) (hD : doF t l = R) :
    Calls Tryz.prog 21 #[.slice A0 n0 c0, .slice A n c] w (DoEnd w R) := by
  have HR := Lib.hid hR; have HN := Lib.hid hn; have HL := Lib.hid hl; have HD := Lib.hid hD
  have HT0 := Lib.hid (show ∃ u : TR, u.length = n0 ∧ n0 ≤ c0 ∧ Most u (K + 0) (L + 300 * 0) ∧ RdT w w.heap.size A0 u ∧ doF t l = doF u (l.drop 0) from ⟨t, hn0, hc0, ht, hR0, rfl⟩)
  clear hR hn hl hD ht hn0 hc0 hR0
  go_enter Tryz.func21, Tryz.ntmps21
  go_wp2
  go_loopw [0, 6] (fun v0 i wr => ∃ (k : Nat) (B : Option Addr) (m d : Nat) (u : TR), k ≤ n ∧ i = .int .i64 (k : Int) ∧ v0 = .slice B m d ∧ u.length = m ∧ m ≤ d ∧ Most u (K + k) (L + 300 * k) ∧ RdT wr wr.heap.size B u ∧ doF t l = doF u (l.drop k) ∧ Below w.heap.size w wr) (fun _ i _ => n - (intOf i).toNat)
  case atStart =>
    obtain ⟨u, h1, h2, h3, h4, h5⟩ := HT0.out
    exact ⟨0, A0, n0, c0, u, Nat.zero_le _, rfl, rfl, h1, h2, h3, h4, h5, Below.refl _ _⟩
  case round =>
    clear HT0
    obtain ⟨k, B, m, d, u, hk, rfl, rfl, hm, hmd, hM, hT, hF, hbw⟩ := hrel
    have HBW := Lib.hid hbw; have HM := Lib.hid hm; have HMM := Lib.hid hM; have HT := Lib.hid hT; have HF := Lib.hid hF; have HMD := Lib.hid hmd
    clear hbw hm hM hT hF hmd
    by_cases hlt : k < n
    · have hki : (k : Int) < (n : Int) := by omega
      obtain ⟨a, x, B1, i, j, D, m1, d1, rfl, hS, hx, c0, c1, c2, c3, c4, c5, c6⟩ := ((HR.out.mv HBW.out).elem (k := k) (by rw [HN.out]; exact hlt))
      have HX := Lib.hid hx; have HP := Lib.hid c6; clear hx c6 hS
      have HLX := Lib.hid (HL.out x (List.mem_of_getElem? HX.out))
      go_wp2_with fail
      refine (refApplyM B m d B1 i j D m1 d1 u x _ HMM.out.s (by have := HMM.out.k; omega) (fun s ls hg => by have := HMM.out.l _ (get_mem hg); dsimp only at this; omega) HM.out HLX.out HT.out HP.out.pv).mono ?_
      rintro e w2 hde
      obtain ⟨r, hr⟩ : ∃ r, doP u x = r := ⟨_, rfl⟩
      rw [hr] at hde
      obtain ⟨r, v⟩ := r
      obtain ⟨B2, m2, d2, rfl, hd2, hl2, hT2, hb2⟩ := hde
      dsimp only at hl2 hT2
      have hF := doF_at HX.out HF.out
      have HM2 := Lib.hid (HMM.out.do (by omega) (by omega) HLX.out hr)
      have hbw2 := below_mv HBW.out hb2
      have HBW2 := Lib.hid hbw2; have HT2 := Lib.hid hT2; have HL2 := Lib.hid hl2; have HD2 := Lib.hid hd2; have HF2 := Lib.hid hF; have HRR := Lib.hid hr
      clear hbw2 c0 c1 c2 c3 c4 c5 hb2 hT2 hl2 hd2 hF hr
      by_cases h0 : r = 0
      · subst h0
        go_wp2_with fail
        refine ⟨⟨k + 1, B2, m2, d2, v, by omega, by go_num, rfl, HL2.out, HD2.out, ?_, HT2.out, ?_, HBW2.out⟩, by simp [intOf]; omega⟩
        · have h1 := HM2.out
          rw [show L + 300 * k + 300 = L + 300 * (k + 1) by omega] at h1
          exact h1
        · rw [HF2.out, doF_cons_ok HRR.out]
      · have e0 : (r == 0) = false := by rw [beq_eq_false_iff_ne]; exact h0
        have HO : Hid (R = (r, [])) := Lib.hid (by rw [← HD.out, HF2.out, doF_cons_no (by rw [HRR.out]; exact h0), HRR.out])
        clear h0
        go_wp2
        go_ret2
        exact doEnd_err HO.out HBW2.out
    · have HO : Hid (R = (0, u)) := Lib.hid (by rw [← HD.out, HF.out, List.drop_of_length_le (by rw [HN.out]; omega)]; rfl)
      go_wp2
      go_ret2
      obtain ⟨rfl⟩ := HM.out
      exact doEnd_ok HO.out HMD.out HT.out HBW.out

theorem refApplyL (A0 : Option Addr) (n0 c0 : Nat) (A : Option Addr) (n c : Nat) (t : TR) (l : List Ch) (w : World) (R : Int × TR) (ht : Most t 100 700) (hn0 : t.length = n0) (hc0 : n0 ≤ c0) (hn : l.length = n) (hle : n ≤ 100) (hl : ∀ x ∈ l, lightP x = true) (hR0 : RdT w w.heap.size A0 t) (hR : RdP w (· < w.heap.size) A l) (hD : doF t l = R) :
    Calls Tryz.prog 21 #[.slice A0 n0 c0, .slice A n c] w (DoEnd w R) :=
  refApplyLK 100 700 A0 n0 c0 A n c t l w R ht (by omega) (by omega) hn0 hc0 hn hl hR0 hR hD

theorem turn_pg {W : World} {S : Nat → Prop} {A B : Option Addr} {n c m d : Nat} {p : Ch} (h : PG W S A n c B m d p) : ((p.k = 0 ∨ p.k = 1 ∨ p.k = 2) → PG W S A n c B m d (turnP p)) ∧ (¬ (p.k = 0 ∨ p.k = 1 ∨ p.k = 2) → PG W S B m d A n c (turnP p)) := by
  constructor
  · rintro (hk | hk | hk)
    · rw [turnP_0 hk]; exact ⟨h.l, h.l', h.k, h.k', h.mm, h.mm', h.r, h.r', h.pp, by unfold I64; dsimp only; omega, h.nm, h.to, h.s, h.s'⟩
    · rw [turnP_1 hk]; exact ⟨h.l, h.l', h.k, h.k', h.mm, h.mm', h.r, h.r', h.pp, by unfold I64; dsimp only; omega, h.nm, h.to, h.s, h.s'⟩
    · rw [turnP_2 hk]; exact ⟨h.l, h.l', h.k, h.k', h.mm, h.mm', h.r, h.r', h.pp, by unfold I64; dsimp only; omega, h.to, h.nm, h.s, h.s'⟩
  · intro hk
    rw [turnP_h (fun h => hk (.inl h)) (fun h => hk (.inr (.inl h))) (fun h => hk (.inr (.inr h)))]
    exact ⟨h.l', h.l, h.k', h.k, h.mm', h.mm, h.r', h.r, h.pp, h.kk, h.nm, h.to, h.s', h.s⟩
/-- What a turned change's call tells: slice values that read as it wherever those of the change do. -/
theorem turn_any {A A' : Option Addr} {n c n' c' : Nat} {p : Ch} {w w' : World} {e : Ending} (h : PTEndE A n c A' n' c' p w e w') :
    ∃ B m d B' m' d', e = .returned (prV (turnP p).k (turnP p).nm (turnP p).to (turnP p).h.pos B m d B' m' d') ∧ (∀ W S, PG W S A n c A' n' c' p → PG W S B m d B' m' d' (turnP p)) ∧ Below w.heap.size w w' := by
  obtain ⟨h, hb⟩ := h
  rcases h with ⟨hk, rfl⟩ | ⟨hk, rfl⟩
  · exact ⟨_, _, _, _, _, _, rfl, fun W S h => (turn_pg h).1 hk, hb⟩
  · exact ⟨_, _, _, _, _, _, rfl, fun W S h => (turn_pg h).2 hk, hb⟩
/-- How a call ends that makes a list of changes. -/
def LPEnd (w : World) (l : List Ch) (e : Ending) (w' : World) : Prop := ∃ A c, e = .returned (.slice A l.length c) ∧ l.length ≤ c ∧ RdP w' (· < w'.heap.size) A l ∧ Below w.heap.size w w'
theorem lpEnd_own {w w' : World} {base : Nat} {v : Value} {l : List Ch} (h : OwnP w' base v l) (hb : Below w.heap.size w w') : LPEnd w l (.returned v) w' := by
  obtain ⟨A, c, rfl, hc, hr, _⟩ := rdP_own h
  exact ⟨A, c, rfl, hc, hr, hb⟩
theorem turnF_drop {l : List Ch} {k : Nat} {x : Ch} (hx : l[k]? = some x) : turnF (l.drop k) = turnF (l.drop (k + 1)) ++ [turnP x] := by
  unfold turnF
  rw [drop_at hx, List.map_cons, List.reverse_cons]
/-- The cells of one change in a block of their own. -/
theorem one_srcP {W : World} {b : Nat} {A B : Option Addr} {n c m d : Nat} {x : Ch} (h : Blk W b 43 #[.int .i64 x.k, strV x.nm, strV x.to, .int .i64 x.h.pos, .slice A n c, .slice B m d]) :
    ∀ (j : Nat) u, [Value.int .i64 x.k, strV x.nm, strV x.to, .int .i64 x.h.pos, .slice A n c, .slice B m d][j]? = some u → W.cell? ((⟨b, 0, none⟩ : Addr).add j) = some u := fun j u hu => by
  rcases j with _ | _ | _ | _ | _ | _ | j
  · rw [add_zero']; exact h.cell 0 hu
  · exact h.cell 1 hu
  · exact h.cell 2 hu
  · exact h.cell 3 hu
  · exact h.cell 4 hu
  · exact h.cell 5 hu
  · simp at hu

end Fl
end Go.Proofs.YtcfoodbfapldbaaGreat
