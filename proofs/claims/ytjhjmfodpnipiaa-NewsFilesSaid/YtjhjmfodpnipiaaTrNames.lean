/-
  What Names of layer 7 returns (walk): the names of all files, gathered in a map, sorted.
-/
import Derived.Test.YtjhjmfodpnipiaaGT
import Derived.Test.YtjhjmfodpnipiaaTrIter
import Derived.Maps.OwnSet
import Derived.Sort.KeysCollected
import Derived.Sort.Walk0
set_option maxRecDepth 100000
namespace Go.Proofs.Ytjhjmfodpnipiaa
open Go.RowKit
set_option linter.unusedVariables false
namespace Tr
open Tx

/-- The set of these names, as a map reads. -/
def setN (l : List (List UInt8)) : DataW Unit := Maps.setOf (.agg []) (l.map Lit.string)
theorem setN_nil : setN [] = .map [] := rfl
theorem setN_snoc (l : List (List UInt8)) (x : List UInt8) : (setN l).put (.string x) (.agg []) = setN (l ++ [x]) := by
  unfold setN
  rw [List.map_append, List.map_cons, List.map_nil, Maps.setOf_snoc]
theorem key_lits (l : List (List UInt8)) : ∀ x ∈ l.map Lit.string, WideAt.IsKeyLit x := by
  intro x hx
  obtain ⟨y, _, rfl⟩ := List.mem_map.1 hx
  trivial
theorem has_setN (l : List (List UInt8)) (x : List UInt8) : Maps.has (setN l) (.string x) = true ↔ x ∈ l := by
  unfold setN
  rw [Maps.has_setOf _ _ _ (key_lits l), List.any_eq_true]
  constructor
  · rintro ⟨y, hy, h⟩
    obtain ⟨z, hz, rfl⟩ := List.mem_map.1 hy
    have : z = x := by simpa [Lit.sameKey] using h
    exact this ▸ hz
  · intro hx
    exact ⟨.string x, List.mem_map.2 ⟨x, hx, rfl⟩, by simp [Lit.sameKey]⟩

theorem law_str : Maps.Keyed Try.prog 9 := Maps.string_keyed Try.underlying9

/-- The keys of the set, sorted, are the names. -/
theorem sorted_names {w : World} {b n : Nat} {R : Value → Option (DataW Unit × List MemPlace)} {l ss : List (List UInt8)} (hown : w.ownsMap Try.prog 9 R b n (setN l)) (hp : ss.Perm (strKeys (setN l))) :
    ss.mergeSort (fun x y => decide (x ≤ y)) = names Op.bytesLess l := by
  have hr := names_rise lin l
  have hnd : (names Op.bytesLess l).Nodup := hr.imp fun {a b} h => lin.ne h
  have hc : Collected (setN l) (fun _ => false) (names Op.bytesLess l) := ⟨hnd, fun x => by rw [names_mem, has_setN]; simp⟩
  have hp2 := hc.perm hown law_str Try.underlying9 (fun _ => rfl)
  have hpp := hp.trans hp2.symm
  rw [show (fun x y : List UInt8 => decide (x ≤ y)) = leB from rfl, mergeSort_of_perm hpp]
  refine List.mergeSort_of_pairwise (hr.imp fun {a b} h => ?_)
  rw [Go.Proofs.bytesLess_eq, decide_eq_true_eq] at h
  simp only [leB, decide_eq_true_eq]
  exact List.le_of_lt h

/-- How Names ends. -/
abbrev NamesEnd (w : World) (l : List (List UInt8)) (e : Ending) (w' : World) : Prop := LinesEnd w (names Op.bytesLess l) e w'

/-- The names gathered behind j trees. -/
def upto (a b : List (List UInt8)) : Nat → List (List UInt8)
  | 0 => []
  | 1 => a
  | _ => a ++ b

/-- What holds between the rounds. -/
structure NInv (w : World) (mb h : Nat) (cs : Array Value) (l : List (List UInt8)) (wr : World) : Prop where
  own : wr.ownsMap Try.prog 9 (unitElem (H := Unit)) mb l.length (setN l)
  blk : Blk wr h 23 cs
  fr : Below mb w wr

theorem NInv.next {w wr w1 : World} {mb h : Nat} {cs : Array Value} {l : List (List UInt8)} {x : List UInt8} {o : Obj} (I : NInv w mb h cs l wr) (hne : h ≠ mb)
    (hown : w1.ownsMap Try.prog 9 (unitElem (H := Unit)) mb (l.length + 1) ((setN l).put (.string x) (.agg []))) (hg : (wr.alloc o).grownBy w1 (some mb)) : NInv w mb h cs (l ++ [x]) w1 := by
  refine ⟨?_, (I.blk.alloc o).gr hg (fun e => hne (by injection e)), ?_⟩
  · rw [setN_snoc] at hown
    rw [List.length_append]
    exact hown
  · have hm : mb < wr.heap.size := I.own.lt
    exact (I.fr.alloc (Nat.le_of_lt hm) o).grown hg (by simp; omega) (fun k e => by injection e with e; omega)

/-- The tree of a round. -/
theorem tree_of {w wr : World} {mb h B : Nat} {A A' : Option Addr} {n c n' c' : Nat} {t u : TR} (hn : t.length = n) (hn' : u.length = n') (hs : Small t) (hs' : Small u) (hB : B ≤ mb) (hR : RdT w B A t) (hR' : RdT w B A' u) {j : Nat} (hj : j < 2)
    (I : NInv w mb h #[.slice A n c, .slice A' n' c'] (upto (t.map (·.1)) (u.map (·.1)) j) wr) :
    ∃ AT NT CT T, wr.cell? ⟨h, j, none⟩ = some (.slice AT NT CT) ∧ List.length T = NT ∧ Small T ∧ RdT w B AT T ∧ upto (t.map (·.1)) (u.map (·.1)) (j + 1) = upto (t.map (·.1)) (u.map (·.1)) j ++ T.map (·.1) ∧ (upto (t.map (·.1)) (u.map (·.1)) j).length ≤ 100000 := by
  rcases j with _ | _ | j
  · exact ⟨A, n, c, t, I.blk.cell 0 rfl, hn, hs, hR, rfl, Nat.zero_le _⟩
  · exact ⟨A', n', c', u, I.blk.cell 1 rfl, hn', hs', hR', rfl, by show (t.map (·.1)).length ≤ _; rw [List.length_map]; exact hs.len⟩
  · omega

set_option maxRecDepth 100000 in
set_option maxHeartbeats 4000000 in
theorem Names (A A' : Option Addr) (n c n' c' B : Nat) (t u : TR) (w : World) (hn : t.length = n) (hn' : u.length = n') (hs : Small t) (hs' : Small u) (hB : B ≤ w.heap.size) (hR : RdT w B A t) (hR' : RdT w B A' u) :
    Calls Try.prog 19 #[.slice A n c, .slice A' n' c'] w (NamesEnd w (t.map (·.1) ++ u.map (·.1))) := by
  have hmm := @run_makeMap Try.prog
  obtain ⟨mb, hmb⟩ : ∃ mb, w.heap.size = mb := ⟨_, rfl⟩
  have hown0 : (w.alloc (.map #[] 0)).ownsMap Try.prog 9 (unitElem (H := Unit)) w.heap.size 0 (.map []) := World.ownsMap_made _ _ _ _
  have hblk0 := Blk.new (w.alloc (.map #[] 0)) 23 #[.slice A n c, .slice A' n' c']
  rw [World.size_alloc] at hblk0
  have hi0 : NInv w w.heap.size (w.heap.size + 1) #[.slice A n c, .slice A' n' c'] [] ((w.alloc (.map #[] 0)).alloc (.cells #[.slice A n c, .slice A' n' c'] 23)) :=
    ⟨hown0.alloc _, hblk0, ((Below.refl _ _).alloc (Nat.le_refl _) _).alloc (by simp) _⟩
  have HN := Lib.hid hn; have HN' := Lib.hid hn'; have R := Lib.hid hR; have R' := Lib.hid hR'; have HS := Lib.hid hs; have HS' := Lib.hid hs'; have HI0 := Lib.hid hi0
  clear hn hn' hR hR' hs hs' hown0 hblk0 hi0 hmb mb
  go_enter Try.func19, Try.ntmps19
  go_wp2_with fail
  clear hmm
  obtain ⟨mb, hmb⟩ : ∃ mb, w.heap.size = mb := ⟨_, rfl⟩
  obtain ⟨w0, hw0⟩ : ∃ w0, (w.alloc (.map #[] 0)).alloc (.cells #[.slice A n c, .slice A' n' c'] 23) = w0 := ⟨_, rfl⟩
  rw [hw0] at HI0 ⊢
  rw [hmb] at HI0 hB ⊢
  have HMB := Lib.hid hmb
  clear hmb hw0
  go_loopw [15] (fun i wr => ∃ j : Nat, j ≤ 2 ∧ i = .int .i64 (j : Int) ∧ NInv w mb (mb + 1) #[.slice A n c, .slice A' n' c'] (upto (t.map (·.1)) (u.map (·.1)) j) wr) (fun i _ => 2 - (intOf i).toNat)
  case atStart => exact ⟨0, by omega, rfl, HI0.out⟩
  case round =>
    obtain ⟨j, hj, rfl, I⟩ := hrel
    by_cases hlt : j < 2
    · obtain ⟨AT, NT, CT, T, hcell, hT, hsT, hRT, hup, hlen⟩ := tree_of HN.out HN'.out HS.out HS'.out hB R.out R'.out hlt I
      have hNT : NT ≤ 100000 := by rw [← hT]; exact hsT.len
      obtain ⟨L, hL⟩ : ∃ L, upto (t.map (·.1)) (u.map (·.1)) j = L := ⟨_, rfl⟩
      rw [hL] at I hup hlen
      have HT := Lib.hid hT; have HST := Lib.hid hsT; have HRT := Lib.hid hRT; have HUP := Lib.hid hup; have HII := Lib.hid I
      clear hT hsT hRT hup I hL
      go_wp2
      go_loopw [21] (fun i wr => ∃ k : Nat, k ≤ NT ∧ i = .int .i64 (k : Int) ∧ NInv w mb (mb + 1) #[.slice A n c, .slice A' n' c'] (L ++ (T.take k).map (·.1)) wr) (fun i _ => NT - (intOf i).toNat)
      case atStart => exact ⟨0, Nat.zero_le _, rfl, by rw [List.take_zero, List.map_nil, List.append_nil]; exact HII.out⟩
      case round =>
        clear hcell HII
        obtain ⟨k, hk, rfl, I⟩ := hrel
        by_cases hlk : k < NT
        · have hkt : k < T.length := by rw [HT.out]; exact hlk
          obtain ⟨a, rfl, hab, hat⟩ := (RdT.below HRT.out (I.fr.mono hB)).at_ hkt
          have hsm := HST.out.all _ (List.getElem_mem hkt)
          have htk := take_snoc' hkt
          obtain ⟨x, hx⟩ : ∃ x, T[k] = x := ⟨_, rfl⟩
          rw [hx] at hat hsm htk
          obtain ⟨c0, A1, c1, h1, _, _⟩ := hat
          have hxn := hsm.n
          generalize x.2.length = m at h1
          have hkey : keyOf Try.prog 9 (strV x.1) = some (.string x.1) := Go.WideMaps.keyOf_string_mk Try.underlying9 (by rw [size_strV]; unfold maxLen; omega)
          have hll : (L ++ (T.take k).map (·.1)).length < maxLen := by rw [List.length_append, List.length_map, List.length_take]; unfold maxLen; omega
          have hown := I.own.alloc (.cells #[strV x.1, .slice A1 m c1] 43)
          have hmw : mb < wr.heap.size := I.own.lt
          have hnx := fun w1 hown hg => NInv.next (w1 := w1) (x := x.1) (o := .cells #[strV x.1, .slice A1 m c1] 43) I (by omega) hown hg
          obtain ⟨LL, hLL⟩ : ∃ LL, L ++ (T.take k).map (·.1) = LL := ⟨_, rfl⟩
          have hLL2 : LL ++ [x.1] = L ++ (T.take (k + 1)).map (·.1) := by rw [htk, List.map_append, ← List.append_assoc, hLL]; rfl
          rw [hLL] at hown hll hnx
          rw [hLL2] at hnx
          have HOWN := Lib.hid hown; have HNX := Lib.hid hnx; have HKEY := Lib.hid hkey; have HLL := Lib.hid hll
          clear hown hnx hkey hll htk hLL hLL2 I hx hsm
          go_wp2_with (at_mapUpdate; refine wpList_mapUpdate_own _ rfl _ _ _ 66 rfl 9 68 law_str Try.underlying66 (unitElem (H := Unit)) mb LL.length _ rfl HOWN.out HLL.out _ _ _ rfl rfl HKEY.out _ [] unitElem_mk ?_; intro w1 hown1 hgrow1; have HN1 := Lib.hid (HNX.out w1 hown1 hgrow1); clear hown1 hgrow1)
          go_roundw
          case rel => exact ⟨k + 1, by omega, by go_num, HN1.out⟩
          case measure => simp [intOf]; omega
        · obtain rfl : k = NT := by omega
          rw [List.take_of_length_le (by rw [HT.out]; exact Nat.le_refl _), ← HUP.out] at I
          have HII := Lib.hid I
          clear I
          go_wp2
          go_roundw
          case rel => exact ⟨j + 1, by omega, by go_num, HII.out⟩
          case measure => simp [intOf]; omega
    · obtain rfl : j = 2 := by omega
      have hown := I.own
      have hfr := I.fr
      have hup : upto (t.map (·.1)) (u.map (·.1)) 2 = t.map (·.1) ++ u.map (·.1) := rfl
      rw [hup] at hown
      obtain ⟨L, hL⟩ : ∃ L, t.map (·.1) ++ u.map (·.1) = L := ⟨_, rfl⟩
      have hLl : L.length ≤ 200000 := by have := HS.out.len; have := HS'.out.len; rw [← hL, List.length_append, List.length_map, List.length_map]; omega
      rw [hL] at hown
      have HLE := Lib.hid hL
      have hsz := hown.size_le
      have hK := (callsIn_wide (n := 5)).1 (keysC (some mb) wr)
      have hS := (callsIn_wide (n := 5)).1 (sortedC mb L.length (setN L) (unitElem (H := Unit)) wr hown (by unfold maxLen; omega) (by omega))
      have hmw : mb < wr.heap.size := hown.lt
      have HOWN := Lib.hid hown; have HFR := Lib.hid hfr; have HK := Lib.hid hK; have HS2 := Lib.hid hS
      clear hown hfr hK hS hup hL I hsz hLl
      go_wp2_with fail
      refine HK.out.mono ?_
      rintro e w1 ⟨rfl, rfl⟩
      go_wp2_with fail
      refine HS2.out.mono ?_
      rintro e w2 ⟨v, ss, rfl, hp, hrow, hnil, hb⟩
      have hss := sorted_names HOWN.out hp
      have hlen : (names Op.bytesLess L).length = ss.length := by rw [← hss, List.length_mergeSort]
      rw [hss] at hrow
      obtain ⟨A1, c1, rfl, hc1, hrd⟩ := rd_of_own hrow
      have hbb : Below mb w w2 := (HFR.out.alloc (Nat.le_of_lt hmw) _).trans (hb.mono (by simp; omega))
      have HRD : Hid (RdS w2 w2.heap.size A1 (names Op.bytesLess L)) := Lib.hid hrd
      have HLEN := Lib.hid hlen; have HBB := Lib.hid hbb
      have hc2 : ss.length ≤ c1 := hc1
      clear hss hlen hbb hrd hc1 hb hnil hrow hp
      go_wp2
      go_ret
      rw [HLE.out]
      exact ⟨A1, c1, by rw [HLEN.out]; rfl, by rw [HLEN.out]; exact hc2, HRD.out, by rw [HMB.out]; exact HBB.out⟩

end Tr
end Go.Proofs.Ytjhjmfodpnipiaa
