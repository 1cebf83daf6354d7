/-
  Package code's taker of lines: what is left of the bytes, and what it hands over (walks).
-/
import Derived.Test.YtjhjmfodpnipiaaGreatDoorCdGet
import Derived.Test.YtjhjmfodpnipiaaGreatDoorCdMust
import Derived.Test.YtjhjmfodpnipiaaGreatDoorCdLib
import Derived.Test.YtjhjmfodpnipiaaGreatDoorTxIter
import Derived.Test.YtjhjmfodpnipiaaGreatDoorGQ
set_option maxRecDepth 100000
namespace Go.Proofs.YtjhjmfodpnipiaaGreatDoor
open Go.RowKit Go.Shelf
set_option linter.unusedVariables false
set_option linter.unusedSimpArgs false
namespace Cd
open Tx Df Sq Hk Tr Pr

/-- What is left of the bytes: told in block R, the bytes below block N. -/
structure Rest (w : World) (N R : Nat) (r : List UInt8) : Prop where
  ex : ∃ A c, Blk w R 22 #[.slice A r.length c] ∧ r.length ≤ c ∧ RdB w N A r
  le : N ≤ R
  len : r.length ≤ 200000
theorem Rest.gr {w w' : World} {N R : Nat} {r : List UInt8} (h : Rest w N R r) {row : Option Nat} (hg : w.grownBy w' row) (hne : some R ≠ row) (hN : ∀ b, row = some b → N ≤ b) : Rest w' N R r := by
  obtain ⟨⟨A, c, hb, hc, hr⟩, hle, hl⟩ := h
  exact ⟨⟨A, c, hb.gr hg hne, hc, hr.below ((Below.refl N w).grown hg (by have := hb.lt; omega) hN)⟩, hle, hl⟩
theorem Rest.below {w w' : World} {N R : Nat} {r : List UInt8} (h : Rest w N R r) (hb : Below w.heap.size w w') : Rest w' N R r := h.gr (below_gr_row hb) (nn _) (fun b e => by cases e)

set_option maxHeartbeats 400000 in
theorem lines (A : Option Addr) (n c : Nat) (w : World) :
    Calls Tryz.prog 13 #[.slice A n c] w fun e w' => e = .returned (.func (.func 23) #[] #[.pointer (some ⟨w.heap.size, 0, none⟩)]) ∧ w.alloc (.cells #[.slice A n c] 22) = w' := by
  have hmf : ∀ (fn : Fn) (first cap : Array Value) (w : World), (Instr.makeFunc fn first cap).run Tryz.prog w = .ok (.func fn first cap) w := fun _ _ _ _ => rfl
  go_enter Tryz.func13, Tryz.ntmps13
  go_wp2
  go_ret
  exact ⟨rfl, rfl⟩

set_option maxHeartbeats 1000000 in
theorem next_end (N R : Nat) (w : World) (h : Rest w N R []) :
    Calls Tryz.prog 23 #[.pointer (some ⟨R, 0, none⟩)] w fun e w' => e = .returned (.tuple #[strV [], .bool false]) ∧ w = w' := by
  obtain ⟨⟨A, c, hb, hc, hr⟩, hle, hl⟩ := h
  have x0 : w.cell? ⟨R, 0, none⟩ = some (.slice A 0 c) := hb.cell 0 rfl
  clear hb hc hr hle hl
  go_enter Tryz.func23, Tryz.ntmps23
  go_wp2
  go_ret2
  exact ⟨rfl, rfl⟩

set_option maxHeartbeats 1000000 in
theorem next_bad (N R : Nat) (r : List UInt8) (w : World) (h : Rest w N R r) (hr0 : r ≠ []) (hcut : cutLine r = none) :
    Calls Tryz.prog 23 #[.pointer (some ⟨R, 0, none⟩)] w fun e w' => e = .panicked bad ∧ w = w' := by
  obtain ⟨⟨A, c, hb, hc, hr⟩, hle, hl⟩ := h
  have x0 : w.cell? ⟨R, 0, none⟩ = some (.slice A r.length c) := hb.cell 0 rfl
  have hn : 10 ∉ r := cutLine_none.1 hcut
  have hi : Lib.indexByte r 10 = -1 := by
    rcases idx_cases 10 r with ⟨h1, _⟩ | ⟨p, q, h1, _, _⟩
    · exact h1
    · exact absurd (by rw [h1]; simp) hn
  obtain ⟨n, hn⟩ : ∃ n, r.length = n := ⟨_, rfl⟩
  have hn0 : 0 < n := by rw [← hn]; exact List.length_pos_iff.2 hr0
  have e0 : ((n : Int) == 0) = false := by rw [beq_eq_false_iff_ne]; omega
  have HI := Lib.hid hi; have HR := Lib.hid hr; have HB := Lib.hid hb
  have key := bytes_IndexByte A c N r 10 w hr
  rw [hn, show ((10 : Int).toNat.toUInt8) = 10 from rfl, hi] at key
  have KEY := Lib.hid key
  rw [hn] at x0 hl
  clear hb hc hr hle hr0 hcut hi hn key
  go_enter Tryz.func23, Tryz.ntmps23
  go_wp2_with fail
  refine KEY.out.mono ?_
  rintro e w1 ⟨rfl, rfl⟩
  go_wp2_with fail
  refine (must_no w).mono ?_
  rintro e w1 ⟨rfl, rfl⟩
  go_wp2
  exact ⟨rfl, rfl, rfl⟩

theorem rest_next {w : World} {N R n m c k : Nat} {r' : List UInt8} {X : Option Addr} {cs : Value} (hb : Blk w R 22 #[cs]) (hle : N ≤ R) (hl : n ≤ 200000) (hlr : n = m + 1 + r'.length) (hc : n ≤ c) (hk : k = c - (m + 1)) (hX : RdB w N X r') :
    Rest (w.setCell ⟨R, 0, none⟩ (.slice X (n - (m + 1)) k)) N R r' ∧ w.grownBy (w.setCell ⟨R, 0, none⟩ (.slice X (n - (m + 1)) k)) (some R) := by
  have e : n - (m + 1) = r'.length := by omega
  have hg := grownBy_set w R 0 (.slice X (n - (m + 1)) k)
  refine ⟨⟨⟨X, k, ?_, by omega, hX.below ((Below.refl N w).grown hg (by have := hb.lt; omega) (fun b hb => by injection hb with hb; omega))⟩, hle, by omega⟩, hg⟩
  rw [← e]
  exact hb.set 0 _

set_option maxHeartbeats 2000000 in
theorem next_line (N R : Nat) (r s r' : List UInt8) (w : World) (h : Rest w N R r) (hcut : cutLine r = some (s, r')) :
    Calls Tryz.prog 23 #[.pointer (some ⟨R, 0, none⟩)] w fun e w' => e = .returned (.tuple #[strV s, .bool true]) ∧ Rest w' N R r' ∧ w.grownBy w' (some R) := by
  obtain ⟨⟨A, c, hb, hc, hr⟩, hle, hl⟩ := h
  have x0 : w.cell? ⟨R, 0, none⟩ = some (.slice A r.length c) := hb.cell 0 rfl
  have f0 := hb.frozen 0
  obtain ⟨hrs, hn10⟩ := cutLine_inv hcut
  have hi : Lib.indexByte r 10 = (s.length : Int) := by
    rcases idx_cases 10 r with ⟨_, h1⟩ | ⟨p, q, h1, h2, h3⟩
    · exact absurd (by rw [hrs]; simp) h1
    · have h4 : cutLine r = some (p, q) := by rw [h1]; exact cutLine_some q h2
      rw [hcut] at h4
      injection h4 with h4
      injection h4 with h4 _
      rw [h4]; exact h3
  have hls : s.length < r.length := by rw [hrs]; simp
  obtain ⟨a, rfl, hab, _⟩ := hr.at_ (k := 0) (by simp; omega)
  have htk : RdB w N (some a) s := by
    have htk := hr.take s.length
    have e : List.take s.length (r.map byteV) = s.map byteV := by rw [hrs, List.map_append]; simp
    rw [e] at htk; exact htk
  have hdr := hr.drop (k := s.length + 1) (cap := c) (by simpa using hc)
  have ed : List.drop (s.length + 1) (r.map byteV) = r'.map byteV := by
    rw [hrs, List.map_append, List.map_cons]
    rw [show s.length + 1 = (s.map byteV).length + 1 by simp, ← List.drop_drop, List.drop_left]
    simp
  rw [ed] at hdr
  have hlr : r.length = s.length + 1 + r'.length := by rw [hrs]; simp; omega
  obtain ⟨n, hn⟩ : ∃ n, r.length = n := ⟨_, rfl⟩
  obtain ⟨m, hm⟩ : ∃ m, s.length = m := ⟨_, rfl⟩
  have key := bytes_IndexByte (some a) c N r 10 w hr
  rw [hn, show ((10 : Int).toNat.toUInt8) = 10 from rfl, hi, hm] at key
  have KEY := Lib.hid key
  have hcv := run_conv (P := Tryz.prog) htk 22 9 5 c Tryz.underlying22 Tryz.underlying5 Tryz.underlying9
  rw [hm] at hcv hls hdr hlr
  rw [hn] at x0 hls hlr hl hc
  have HB := Lib.hid hb; have HD := Lib.hid hdr; have HLR := Lib.hid hlr; have HC := Lib.hid hc; have HLE := Lib.hid hle
  have hmc : m < c := by omega
  have hm63 : m < 9223372036854775807 := by omega
  have hcp : ¬ c = 0 := by omega
  have e0 : ((n : Int) == 0) = false := by rw [beq_eq_false_iff_ne]; omega
  have em : ¬ ((m : Int) < 0) := by omega
  have hm1 : m + 1 ≤ n := by omega
  clear hb hr hcut hrs hn10 hi htk ed hdr hlr hn hm key hab hle
  go_enter Tryz.func23, Tryz.ntmps23
  go_wp2_with fail
  refine KEY.out.mono ?_
  rintro e w1 ⟨rfl, rfl⟩
  go_wp2_with fail
  refine (must_yes w).mono ?_
  rintro e w1 ⟨rfl, rfl⟩
  go_wp2
  · have h := Lib.hid (show c = m + 1 by assumption)
    rw [if_pos h.out] at HD
    go_ret2
    exact ⟨rfl, rest_next HB.out HLE.out hl HLR.out HC.out (by have := h.out; omega) HD.out⟩
  · have h := Lib.hid (show ¬ c = m + 1 by assumption)
    rw [if_neg h.out] at HD
    go_ret2
    exact ⟨rfl, rest_next HB.out HLE.out hl HLR.out HC.out rfl (by have hd := HD.out; unfold RdB; simpa [Addr.add] using hd)⟩

end Cd
end Go.Proofs.YtjhjmfodpnipiaaGreatDoor
