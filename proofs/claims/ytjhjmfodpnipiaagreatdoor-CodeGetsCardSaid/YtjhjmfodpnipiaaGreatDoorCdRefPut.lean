/-
  What the document's own lines and Put of layer 12 return (walks).
-/
import Derived.Test.YtjhjmfodpnipiaaGreatDoorCdRefNum
import Derived.Test.YtjhjmfodpnipiaaGreatDoorCdPut
import Derived.Test.YtjhjmfodpnipiaaGreatDoorFlRef
set_option maxRecDepth 100000
namespace Go.Proofs.YtjhjmfodpnipiaaGreatDoor
open Go.RowKit Go.Shelf
set_option linter.unusedVariables false
set_option linter.unusedSimpArgs false
namespace Cd
open Tx Df Sq Hk Tr Pr Fl

/-- A byte behind bytes. -/
theorem one_byte {w w1 : World} {base : Nat} {v v1 : Value} {bs : List UInt8} {c : UInt8} {x : Int} {o : Obj} (hx : x = (c.toNat : Int)) (ho : OwnB w base v bs) (hs : base ≤ w.heap.size) (g : (w.alloc o).grownBy w1 v.ownBlock)
    (h : w1.ownsRow base 5 1 v1 (bs.length + 1) (bs.map byteV ++ [.int .u8 x])) : OwnB w1 base v1 (bs ++ [c]) ∧ Below base w w1 ∧ base ≤ w1.heap.size ∧ Typ 5 w w1 := by
  subst hx
  refine ⟨?_, ((Below.refl base w).alloc hs o).grown g (by simp; omega) (own_ge ho), by have := g.size; simp at this; omega, (typ_alloc _ _ o).trans (typ_grown (own_gr ho (World.grownBy_alloc w o none)) g)⟩
  unfold OwnB
  rw [List.length_append, List.map_append]
  exact h
/-- A text behind bytes. -/
theorem one_text {w w1 : World} {base : Nat} {v v1 : Value} {bs h : List UInt8} (ho : OwnB w base v bs) (hs : base ≤ w.heap.size) (g : w.grownBy w1 v.ownBlock)
    (h1 : w1.ownsRow base 5 1 v1 (bs.length + (ByteArray.mk h.toArray).size) (bs.map byteV ++ Lib.strCells ⟨h.toArray⟩)) : OwnB w1 base v1 (bs ++ h) ∧ Below base w w1 ∧ base ≤ w1.heap.size ∧ Typ 5 w w1 := by
  refine ⟨?_, (Below.refl base w).grown g hs (own_ge ho), by have := g.size; omega, typ_grown ho g⟩
  unfold OwnB
  rw [size_strV] at h1
  rw [List.length_append, List.map_append]
  rw [strCells_eq] at h1
  exact h1

set_option maxHeartbeats 4000000 in
theorem refLines (v : Value) (A : Option Addr) (n cap base N : Nat) (bs : List UInt8) (c : UInt8) (ls : List (List UInt8)) (w : World) (hn : ls.length = n) (hn2 : n ≤ 200) (hl : ∀ x ∈ ls, x.length ≤ 80) (hbl : bs.length ≤ 100000000)
    (ho : OwnB w base v bs) (hR : RdS w N A ls) (hN : N ≤ base) (hbase : base ≤ w.heap.size) :
    Calls Tryz.prog 38 #[v, .int .u8 (c.toNat : Int), .slice A n cap] w (WEnd w base (bs ++ sg c ls)) := by
  obtain ⟨i0, hi, hz0, hz1, hz2⟩ := info_parts info_byte
  have HN := Lib.hid hn; have HL := Lib.hid hl; have HO := Lib.hid ho; have HR := Lib.hid hR
  clear hn hl ho hR
  go_enter Tryz.func38, Tryz.ntmps38
  go_wp2
  go_loopw [0, 7] (fun v i wr => WRel w base bs c ls n v i wr) (fun _ i _ => n - (intOf i).toNat)
  case atStart => exact ⟨0, Nat.zero_le _, rfl, by simpa [sg] using HO.out, Below.refl _ _, hbase, Typ.refl _ _⟩
  case round =>
    obtain ⟨k, hk, rfl, hown, hB, hs, hT⟩ := hrel
    have HT := Lib.hid hT; clear hT
    by_cases hlt : k < n
    · have hkl : k < ls.length := by rw [HN.out]; exact hlt
      have hki : (k : Int) < (n : Int) := by omega
      have HRW : Hid (RdS wr N A ls) := Lib.hid (HR.out.below (hB.mono hN))
      obtain ⟨x, hx⟩ : ∃ x, ls[k] = x := ⟨_, rfl⟩
      have HJ : Hid ((bs ++ sg c (ls.take k)).length ≤ 200000000 ∧ (ByteArray.mk x.toArray).size ≤ 80) := Lib.hid ⟨by
          have := sg_len (c := c) (ls := ls.take k) (fun x hx => HL.out x (List.mem_of_mem_take hx))
          rw [List.length_take] at this; rw [List.length_append]; omega, by rw [size_strV, ← hx]; exact HL.out _ (List.getElem_mem hkl)⟩
      have HX := Lib.hid hx
      have HOW := Lib.hid hown
      have hown' := hown.alloc (.cells #[.int .u8 (c.toNat : Int)] 5)
      unfold OwnB at hown
      obtain ⟨a, rfl, hcell0⟩ := HRW.out.at' hkl
      rw [hx] at hcell0
      clear hbl hx
      obtain ⟨X, hX⟩ : ∃ X, bs ++ sg c (ls.take k) = X := ⟨_, rfl⟩
      rw [hX] at HJ HOW hown
      have HXX := Lib.hid hX; clear hX
      go_wp2_with (first
        | (at_builtin; refine wpList_append_own _ rfl _ _ 22 rfl base 5 i0 (.int .u8 0) 1 1 Tryz.underlying22 hi hz0 hz1 hz2 rfl (by decide) _ _ _ rfl (World.ownsRow.alloc hown _) ⟨wr.heap.size, 0, none⟩ 1 1 [.int .u8 (c.toNat : Int)] rfl rfl (cell_one_new _ _ _) (by simp [Value.oneCell']) (by have := HJ.out; unfold maxLen; omega) (by have := HJ.out; omega) (by simp; omega) ?_; intro v1 w1 hown1 hgrow1 _; obtain ⟨ho1, hb1, hs1, ht1⟩ := one_byte rfl HOW.out hs hgrow1 hown1; have HO1 := Lib.hid ho1; have HB1 := Lib.hid hb1; have HT1 := Lib.hid ht1; clear hown1 hgrow1 hb1 ht1; unfold OwnB at ho1; have hr1 : RdS w1 N (some a) ls := HRW.out.below (HB1.out.mono hN); have hc1 := hr1.at' hkl; clear hr1; obtain ⟨a1, ea1, hc1⟩ := hc1; injection ea1 with ea1; subst ea1; rw [HX.out] at hc1)
        | (at_builtin; refine Lib.wpList_append_own_string _ rfl _ _ 22 9 rfl base 5 i0 Tryz.underlying22 Tryz.underlying9 hi hz0 hz1 hz2 _ _ _ rfl ho1 ⟨x.toArray⟩ rfl (by have := HJ.out; rw [List.length_append]; unfold maxLen; simp; omega) (by have := HJ.out; rw [List.length_append]; simp; omega) hs1 ?_; intro v2 w2 hown2 hgrow2 _; obtain ⟨ho2, hb2, hs2, ht2⟩ := one_text HO1.out hs1 hgrow2 hown2; have HO2 := Lib.hid ho2; have HB2 := Lib.hid hb2; have HT2 := Lib.hid ht2; clear hown2 hgrow2 hb2 ht2; unfold OwnB at ho2)
        | (at_builtin; refine wpList_append_own _ rfl _ _ 22 rfl base 5 i0 (.int .u8 0) 1 1 Tryz.underlying22 hi hz0 hz1 hz2 rfl (by decide) _ _ _ rfl (World.ownsRow.alloc ho2 _) ⟨w2.heap.size, 0, none⟩ 1 1 [.int .u8 10] rfl rfl (cell_one_new _ _ _) (by simp [Value.oneCell']) (by have h1 := HJ.out; rw [size_strV] at h1; rw [List.length_append, List.length_append]; unfold maxLen; simp; omega) (by have h1 := HJ.out; rw [size_strV] at h1; rw [List.length_append, List.length_append]; simp; omega) (by simp; omega) ?_; intro v3 w3 hown3 hgrow3 _; obtain ⟨ho3, hb3, hs3, ht3⟩ := one_byte (c := 10) rfl HO2.out hs2 hgrow3 hown3; have HO3 := Lib.hid ho3; have HB3 := Lib.hid hb3; have HT3 := Lib.hid ht3; clear hown3 hgrow3 hb3 ht3 ho3))
      refine ⟨⟨k + 1, by omega, by go_num, ?_, ((hB.trans HB1.out).trans HB2.out).trans HB3.out, hs3, ((HT.out.trans HT1.out).trans HT2.out).trans HT3.out⟩, by simp [intOf]; omega⟩
      have e : bs ++ sg c (ls.take (k + 1)) = X ++ [c] ++ x ++ [10] := by
        rw [sg_snoc hkl, HX.out, ← List.append_assoc, HXX.out]; simp
      rw [e]
      exact HO3.out
    · have HE := Lib.hid (show ls.length ≤ k by rw [HN.out]; omega)
      have HW := Lib.hid hown; have HB := Lib.hid hB
      clear hown hB
      go_wp2
      go_ret
      rw [List.take_of_length_le HE.out] at HW
      exact ⟨_, rfl, HW.out, HB.out, HT.out⟩

/-- The signs. -/
theorem sign_at {k : Nat} (h : k < 5) (hb : k < (ByteArray.mk #[43, 45, 62, 64, 61]).size) : (ByteArray.mk #[43, 45, 62, 64, 61])[k] = sign (k : Int) := by
  match k, h with
  | 0, _ => rfl
  | 1, _ => rfl
  | 2, _ => rfl
  | 3, _ => rfl
  | 4, _ => rfl

section
variable {w : World} {base : Nat} {v : Value} {bs : List UInt8}
/-- Bytes that are written out, behind bytes: the block that holds them is made ahead. -/
theorem wpList_lit {ops : Array Oper} {rest : List Oper} {o : Oper} {a : Act} {Q : Exit → Act → World → Prop} (hgd : o.guard = none) (s x : Operand) (ho : o.op = .call { callee := .builtin .append, args := #[s, x], argTypes := #[22, 22] })
    (us : List UInt8) (cs : Array Value) (hcs : us.map byteV = cs.toList) (m : Nat) (hm : us.length = m) (hs : a.eval s = v) (hown : OwnB w base v bs) (hx : a.eval x = .slice (some ⟨w.heap.size, 0, none⟩) m m) (hlen : bs.length ≤ 100000000) (hm5 : m ≤ 5) (hbase : base ≤ w.heap.size)
    (h : ∀ v' w', OwnB w' base v' (bs ++ us) → Below base w w' → base ≤ w'.heap.size → Typ 5 w w' → wpList Tryz.prog ops Q rest (a.put o.dst v') w') : wpList Tryz.prog ops Q (o :: rest) a (w.alloc (.cells cs 5)) := by
  obtain ⟨i0, hi, hz0, hz1, hz2⟩ := info_parts info_byte
  refine wpList_append_own _ hgd s x 22 ho base 5 i0 (.int .u8 0) 1 1 Tryz.underlying22 hi hz0 hz1 hz2 rfl (by decide) v bs.length (bs.map byteV) hs (World.ownsRow.alloc (show World.ownsRow w _ _ _ _ _ _ from hown) _) ⟨w.heap.size, 0, none⟩ m m (us.map byteV) hx (by rw [List.length_map, hm, Nat.mul_one]) ?_ ?_ (by unfold maxLen; omega) (by omega) (by simp; omega) ?_
  · rw [hcs]
    exact World.news_of_block (cs := cs) (t := 5) (fr := (0, 0)) (World.alloc_heap_new w _)
  · intro u hu
    obtain ⟨c, _, rfl⟩ := List.mem_map.1 hu
    rfl
  · intro v' w' hown' hg _
    have hs' : base ≤ w'.heap.size := by have := hg.size; simp at this; omega
    refine h v' w' ?_ (((Below.refl base w).alloc hbase _).grown hg (by simp; omega) (own_ge hown)) hs' ((typ_alloc _ _ _).trans (typ_grown (own_gr hown (World.grownBy_alloc w _ none)) hg))
    unfold OwnB
    rw [List.length_append, List.map_append, hm]
    exact hown'
/-- A text behind bytes. -/
theorem wpList_text {ops : Array Oper} {rest : List Oper} {o : Oper} {a : Act} {Q : Exit → Act → World → Prop} (hgd : o.guard = none) (s x : Operand) (ho : o.op = .call { callee := .builtin .append, args := #[s, x], argTypes := #[22, 9] })
    (us : List UInt8) (t : ByteArray) (ht : t = ⟨us.toArray⟩) (hs : a.eval s = v) (hown : OwnB w base v bs) (hx : a.eval x = .string t) (hlen : bs.length ≤ 100000000) (hm5 : us.length ≤ 1000) (hbase : base ≤ w.heap.size)
    (h : ∀ v' w', OwnB w' base v' (bs ++ us) → Below base w w' → base ≤ w'.heap.size → Typ 5 w w' → wpList Tryz.prog ops Q rest (a.put o.dst v') w') : wpList Tryz.prog ops Q (o :: rest) a w := by
  subst ht
  obtain ⟨i0, hi, hz0, hz1, hz2⟩ := info_parts info_byte
  refine Lib.wpList_append_own_string _ hgd s x 22 9 ho base 5 i0 Tryz.underlying22 Tryz.underlying9 hi hz0 hz1 hz2 v bs.length (bs.map byteV) hs hown ⟨us.toArray⟩ hx (by rw [size_strV]; unfold maxLen; omega) (by rw [size_strV]; omega) hbase ?_
  intro v' w' hown' hg _
  obtain ⟨h1, h2, h3, h4⟩ := one_text hown hbase hg hown'
  exact h v' w' h1 h2 h3 h4
/-- The same, in a region that draws its order. -/
theorem step_text {ops : Array Oper} {o : Oper} {a : Act} {K : Act → World → Prop} {Q : Exit → Act → World → Prop} {E : Prop} (hgd : o.guard = none) (s x : Operand) (ho : o.op = .call { callee := .builtin .append, args := #[s, x], argTypes := #[22, 9] })
    (us : List UInt8) (t : ByteArray) (ht : t = ⟨us.toArray⟩) (hs : a.eval s = v) (hown : OwnB w base v bs) (hx : a.eval x = .string t) (hlen : bs.length ≤ 100000000) (hm5 : us.length ≤ 1000) (hbase : base ≤ w.heap.size)
    (h : ∀ v' w', OwnB w' base v' (bs ++ us) → Below base w w' → base ≤ w'.heap.size → Typ 5 w w' → K (a.put o.dst v') w') : if Region.wanted o (yielded ops a.tmps) = true then Oper.wp Tryz.prog o a w K Q else E := by
  rw [if_pos (by simp [Region.wanted, hgd])]
  subst ht
  obtain ⟨i0, hi, hz0, hz1, hz2⟩ := info_parts info_byte
  obtain ⟨v', w', hr, h2, h3, h4⟩ := Lib.run_append_own_string (P := Tryz.prog) w base 22 9 o.type 5 i0 Tryz.underlying22 Tryz.underlying9 hi hz0 hz1 hz2 v bs.length (bs.map byteV) hown ⟨us.toArray⟩ (by rw [size_strV]; unfold maxLen; omega) (by rw [size_strV]; omega) hbase
  unfold Oper.wp execOp
  simp only [ho, resolve, invoke, builtin, Sem.run_bind, Sem.run_pure, Result.andThen_ok, List.map_toArray, List.map_cons, List.map_nil, hs, hx, hr]
  obtain ⟨k1, k2, k3, k4⟩ := one_text hown hbase h3 h2
  exact h v' w' k1 k2 k3 k4
end
theorem bytesP_bound {p : Ch} (h : mayP p = true) : (bytesP p).length ≤ 33000 := by
  obtain ⟨l1, l2, l3, l4, l5, _, _⟩ := may_len h
  have h1 := sg_len (c := 45) (ls := p.h.old) l3
  have h2 := sg_len (c := 43) (ls := p.h.new) l4
  unfold bytesP
  simp only [List.length_append, List.length_cons]
  omega
theorem bytesL_bound : ∀ {l : List Ch}, l.all mayP = true → (bytesL l).length ≤ 33000 * l.length
  | [], _ => by simp [bytesL]
  | p :: l, h => by
    rw [List.all_cons, Bool.and_eq_true] at h
    have h1 := bytesP_bound h.1
    have h2 := bytesL_bound h.2
    rw [bytesL_cons, List.length_append, List.length_cons]
    omega

set_option maxRecDepth 100000 in
set_option maxHeartbeats 8000000 in
theorem refPut (A : Option Addr) (n c : Nat) (l : List Ch) (w : World) (er : Int) (bs : List UInt8) (hn : l.length = n) (hle : n ≤ maxLen) (hR : RdP w (· < w.heap.size) A l) (hp : putP l = (er, bs)) :
    Calls Tryz.prog 17 #[.slice A n c] w (PutEnd w er bs) := by
  have HR := Lib.hid hR; have HN := Lib.hid hn; have HPP := Lib.hid hp
  clear hR hn hp
  by_cases h200 : 200 < n
  · have h1 : putP l = (8, []) := by unfold putP; rw [if_pos (by rw [HN.out]; exact h200)]
    have h2 := HPP.out
    rw [h1] at h2
    injection h2 with h2 h3
    subst h2 h3
    have hle2 : n ≤ 9223372036854775807 := by unfold maxLen at hle; omega
    clear h1 hle
    go_enter Tryz.func17, Tryz.ntmps17
    go_wp2
    go_ret2
    exact put_none (Below.refl _ _)
  · have hn200 : n ≤ 200 := by omega
    clear h200 hle
    obtain ⟨i0, hi, hz0, hz1, hz2⟩ := info_parts info_byte
    go_enter Tryz.func17, Tryz.ntmps17
    go_wp2
    go_loopw [5, 6] (fun v i W => ∃ k : Nat, k ≤ n ∧ i = .int .i64 (k : Int) ∧ (l.take k).all mayP = true ∧ OwnB W w.heap.size v (bytesL (l.take k)) ∧ Below w.heap.size w W ∧ w.heap.size ≤ W.heap.size) (fun _ i _ => n - (intOf i).toNat)
    case atStart => exact ⟨0, Nat.zero_le _, rfl, rfl, by simpa [bytesL] using ownB_nil _ _, Below.refl _ _, Nat.le_refl _⟩
    case round =>
      obtain ⟨k, hk, rfl, hall, hown, hbw, hsz⟩ := hrel
      have HBW := Lib.hid hbw; have HAL := Lib.hid hall; have HOW := Lib.hid hown; clear hbw hall hown
      by_cases hlt : k < n
      · have hki : (k : Int) < (n : Int) := by omega
        obtain ⟨a, x, B, i, j, D, m, d, rfl, hS, hx, c0, c1, c2, c3, c4, c5, c6⟩ := ((HR.out.below HBW.out).elem (k := k) (by rw [HN.out]; exact hlt))
        have HX := Lib.hid hx; have HP := Lib.hid c6.pv; clear hx c6 hS
        have hba : Below wr.heap.size wr (wr.alloc (.cells #[.int .i64 x.k, strV x.nm, strV x.to, .int .i64 x.h.pos, .slice B i j, .slice D m d] 34)) := (Below.refl _ _).alloc (Nat.le_refl _) _
        have HBA := Lib.hid hba; clear hba
        have HBL := Lib.hid (Blk.new wr 34 #[.int .i64 x.k, strV x.nm, strV x.to, .int .i64 x.h.pos, .slice B i j, .slice D m d])
        go_wp2_with fail
        obtain ⟨bl, hbl⟩ : ∃ b, mayP x = b := ⟨_, rfl⟩
        refine (refMayP B i j D m d w.heap.size x _ bl (Nat.le_trans hsz HBA.out.size) (HP.out.below (HBA.out.mono hsz)) hbl).mono ?_
        rintro e w2 ⟨rfl, hb2⟩
        have HMB := Lib.hid hbl; clear hbl
        have hbw2 := below_mv HBA.out hb2
        have HBX := Lib.hid (HBL.out.below hb2 HBL.out.lt)
        have HW2 := Lib.hid (HBW.out.trans (hbw2.mono hsz))
        have HO2 := Lib.hid (HOW.out.below hbw2)
        have HS2 := Lib.hid (Nat.le_trans hsz hbw2.size)
        have HP2 := Lib.hid (HP.out.below (hbw2.mono hsz))
        clear c0 c1 c2 c3 c4 c5 hb2 hbw2 HBA HBL
        cases bl with
        | false =>
          have hf : l.all mayP = false := List.all_eq_false.2 ⟨x, List.mem_of_getElem? HX.out, by rw [HMB.out]; decide⟩
          have h1 : putP l = (1, []) := by unfold putP; rw [if_neg (by rw [HN.out]; omega), hf]; rfl
          have h2 := HPP.out
          rw [h1] at h2
          injection h2 with h2 h3
          subst h2 h3
          clear hf h1
          go_wp2
          go_ret2
          exact put_none HW2.out
        | true =>
          obtain ⟨l1, l2, l3, l4, l5, ⟨hk0, hk4⟩, hpos⟩ := may_len HMB.out
          have hij := HP2.out.h.l; have hmj := HP2.out.h.l'
          rw [hij] at l1
          rw [hmj] at l2
          have HL3 := Lib.hid l3; have HL4 := Lib.hid l4; have HLO := Lib.hid hij; have HLN := Lib.hid hmj; have HPOS := Lib.hid hpos; have HL5 := Lib.hid l5; have HIJ := Lib.hid (And.intro l1 l2)
          obtain ⟨q, hq⟩ : ∃ q : Nat, x.k = q := ⟨x.k.toNat, by omega⟩
          have hq5 : q < 5 := by omega
          obtain ⟨P, hP⟩ : ∃ P, wr.heap.size = P := ⟨_, rfl⟩
          obtain ⟨X, hX⟩ : ∃ X, bytesL (l.take k) = X := ⟨_, rfl⟩
          have hXl : X.length ≤ 6600000 := by
            have h1 := bytesL_bound HAL.out
            rw [hX, List.length_take] at h1
            omega
          rw [hq, hP] at HBX
          rw [hX] at HO2
          have HXL := Lib.hid hXl; have HXE := Lib.hid hX; have HQ := Lib.hid hq
          rw [hP]
          have x0 : w2.cell? ⟨P, 0, none⟩ = some (.int .i64 (q : Int)) := HBX.out.cell 0 rfl
          have x1 : w2.cell? ⟨P, 1, none⟩ = some (strV x.nm) := HBX.out.cell 1 rfl
          have hb5 : q < (ByteArray.mk #[43, 45, 62, 64, 61]).size := hq5
          have hix := sign_at hq5 hb5
          obtain ⟨sb, hsb⟩ : ∃ b, sign (q : Int) = b := ⟨_, rfl⟩
          rw [hsb] at hix
          have HSB := Lib.hid hsb
          have hqi : (q : Int) < 5 := by omega
          clear l1 l2 l3 l4 l5 hk0 hk4 hpos hij hmj hXl hX hq hP hsb HOW
          go_upto_region 14 with (first
            | (at_builtin; refine wpList_lit rfl (.tmp 26) (.tmp 31) rfl [sb, 32] _ rfl 2 rfl rfl HO2.out rfl (by have := HXL.out; omega) (by decide) HS2.out ?_; intro v3 w3 ho hb hs ht; have HO3 := Lib.hid ho; have HW3 := Lib.hid (HW2.out.trans hb); have HC3 := Lib.hid hb; have HS3 := Lib.hid hs; have HB3 := Lib.hid (typ_blk ht HBX.out (by decide)); have y1 : w3.cell? ⟨P, 1, none⟩ = some (strV x.nm) := HB3.out.cell 1 rfl; clear ho hb hs ht)
            | (at_builtin; refine wpList_text rfl (.tmp 33) (.tmp 35) rfl x.nm _ rfl rfl HO3.out rfl (by have := HXL.out; simp; omega) (by have h1 := HL5.out; unfold headP at h1; simp at h1; omega) HS3.out ?_; intro v4 w4 ho hb hs ht; have HO4 := Lib.hid ho; have HW4 := Lib.hid (HW3.out.trans hb); have HC4 := Lib.hid (HC3.out.trans hb); have HS4 := Lib.hid hs; have HB4 := Lib.hid (typ_blk ht HB3.out (by decide)); clear ho hb hs ht))
          have l1' : i ≤ 200 := HIJ.out.1
          have l2' : m ≤ 200 := HIJ.out.2
          clear hix x0 x1 hb5 y1
          have x0 : w4.cell? ⟨P, 0, none⟩ = some (.int .i64 (q : Int)) := HB4.out.cell 0 rfl
          have hcls : q < 2 ∨ q = 2 ∨ (3 ≤ q ∧ q ≤ 4) := by omega
          rcases hcls with h | rfl | ⟨h, h'⟩
          · have e2 : ((q : Int) == 2) = false := by rw [beq_eq_false_iff_ne]; omega
            have e3 : ¬ (3 : Int) ≤ (q : Int) := by omega
            have hh : X ++ [sb, 32] ++ x.nm = X ++ headP x := by
              unfold headP tailP
              rw [HQ.out, HSB.out, if_neg (by omega), if_neg (by omega)]; simp
            rw [hh] at HO4
            have HO5 := HO4; have HC5 := HC4; have HW5 := HW4; have HS5 := HS4; have HB5 := HB4
            clear hh h
            go_wp2_with (at_builtin; refine wpList_lit rfl (.tmp 69) (.tmp 70) rfl [10] _ rfl 1 rfl rfl HO5.out rfl (by have h1 := HXL.out; have h2 := HL5.out; simp; omega) (by decide) HS5.out ?_; intro v6 w6 ho hb hs ht; have HO6 := Lib.hid ho; have HW6 := Lib.hid (HW5.out.trans hb); have HC6 := Lib.hid (HC5.out.trans hb); have HS6 := Lib.hid hs; have HB6 := Lib.hid (typ_blk ht HB5.out (by decide)); have z4 : w6.cell? ⟨P, 4, none⟩ = some (.slice B i j) := HB6.out.cell 4 rfl; clear ho hb hs ht)
            refine (refLines v6 B i j w.heap.size w.heap.size (X ++ headP x ++ [10]) 45 x.h.old w6 HLO.out l1' HL3.out (by have h1 := HXL.out; have h2 := HL5.out; simp; omega) HO6.out (HP2.out.h.r.below HC6.out) (Nat.le_refl _) HS6.out).mono ?_
            rintro e w7 ⟨v7, rfl, ho, hb, ht⟩
            have HO7 := Lib.hid ho; have HW7 := Lib.hid (HW6.out.trans hb); have HC7 := Lib.hid (HC6.out.trans hb); have HS7 := Lib.hid (Nat.le_trans HS6.out hb.size); have HB7 := Lib.hid (typ_blk ht HB6.out (by decide))
            have z5 : w7.cell? ⟨P, 5, none⟩ = some (.slice D m d) := HB7.out.cell 5 rfl
            clear ho hb ht z4
            go_wp2_with fail
            refine (refLines v7 D m d w.heap.size w.heap.size (X ++ headP x ++ [10] ++ sg 45 x.h.old) 43 x.h.new w7 HLN.out l2' HL4.out (by have h1 := HXL.out; have h2 := HL5.out; have h3 := sg_len (c := 45) HL3.out; have h4 := HLO.out; simp; omega) HO7.out (HP2.out.h.r'.below HC7.out) (Nat.le_refl _) HS7.out).mono ?_
            rintro e w8 ⟨v8, rfl, ho, hb, ht⟩
            have HO8 := Lib.hid ho; have HW8 := Lib.hid (HW7.out.trans hb); have HS8 := Lib.hid (Nat.le_trans HS7.out hb.size)
            clear ho hb ht z5
            go_wp2
            exact ⟨⟨k + 1, by omega, by go_num, by rw [take_at HX.out, List.all_append, HAL.out]; simp [HMB.out], by rw [bytes_take HX.out, HXE.out]; unfold bytesP; have h1 := HO8.out; simpa using h1, HW8.out, HS8.out⟩, by simp [intOf]; omega⟩
          · have x2 : w4.cell? ⟨P, 2, none⟩ = some (strV x.to) := HB4.out.cell 2 rfl
            have hh : X ++ [sb, 32] ++ x.nm ++ (32 :: x.to) = X ++ headP x := by
              unfold headP tailP
              rw [HQ.out, HSB.out, if_pos (by omega)]; simp
            have htl : x.to.length ≤ 100 := by
              have h1 := HL5.out
              have h2 := congrArg List.length hh
              simp only [List.length_append, List.length_cons, List.length_nil] at h2
              omega
            have hsm : ¬ 9223372036854775807 < 1 + x.to.length := by omega
            have HTL := Lib.hid htl
            clear htl
            go_upto_region 16 with (at_builtin; refine wpList_text rfl (.tmp 40) (.tmp 43) rfl (32 :: x.to) _ (str_cat [32] x.to) rfl HO4.out rfl (by have h1 := HXL.out; have h2 := HL5.out; unfold headP at h2; simp at h2 ⊢; omega) (by have := HTL.out; simp; omega) HS4.out ?_; intro v5 w5 ho hb hs ht; rw [hh] at ho; have HO5 := Lib.hid ho; have HW5 := Lib.hid (HW4.out.trans hb); have HC5 := Lib.hid (HC4.out.trans hb); have HS5 := Lib.hid hs; have HB5 := Lib.hid (typ_blk ht HB4.out (by decide)); clear ho hb hs ht)
            have u0 : w5.cell? ⟨P, 0, none⟩ = some (.int .i64 ((2 : Nat) : Int)) := HB5.out.cell 0 rfl
            clear hh hsm x0 x2
            go_wp2_with (at_builtin; refine wpList_lit rfl (.tmp 69) (.tmp 70) rfl [10] _ rfl 1 rfl rfl HO5.out rfl (by have h1 := HXL.out; have h2 := HL5.out; simp; omega) (by decide) HS5.out ?_; intro v6 w6 ho hb hs ht; have HO6 := Lib.hid ho; have HW6 := Lib.hid (HW5.out.trans hb); have HC6 := Lib.hid (HC5.out.trans hb); have HS6 := Lib.hid hs; have HB6 := Lib.hid (typ_blk ht HB5.out (by decide)); have z4 : w6.cell? ⟨P, 4, none⟩ = some (.slice B i j) := HB6.out.cell 4 rfl; clear ho hb hs ht)
            refine (refLines v6 B i j w.heap.size w.heap.size (X ++ headP x ++ [10]) 45 x.h.old w6 HLO.out l1' HL3.out (by have h1 := HXL.out; have h2 := HL5.out; simp; omega) HO6.out (HP2.out.h.r.below HC6.out) (Nat.le_refl _) HS6.out).mono ?_
            rintro e w7 ⟨v7, rfl, ho, hb, ht⟩
            have HO7 := Lib.hid ho; have HW7 := Lib.hid (HW6.out.trans hb); have HC7 := Lib.hid (HC6.out.trans hb); have HS7 := Lib.hid (Nat.le_trans HS6.out hb.size); have HB7 := Lib.hid (typ_blk ht HB6.out (by decide))
            have z5 : w7.cell? ⟨P, 5, none⟩ = some (.slice D m d) := HB7.out.cell 5 rfl
            clear ho hb ht z4
            go_wp2_with fail
            refine (refLines v7 D m d w.heap.size w.heap.size (X ++ headP x ++ [10] ++ sg 45 x.h.old) 43 x.h.new w7 HLN.out l2' HL4.out (by have h1 := HXL.out; have h2 := HL5.out; have h3 := sg_len (c := 45) HL3.out; have h4 := HLO.out; simp; omega) HO7.out (HP2.out.h.r'.below HC7.out) (Nat.le_refl _) HS7.out).mono ?_
            rintro e w8 ⟨v8, rfl, ho, hb, ht⟩
            have HO8 := Lib.hid ho; have HW8 := Lib.hid (HW7.out.trans hb); have HS8 := Lib.hid (Nat.le_trans HS7.out hb.size)
            clear ho hb ht z5
            go_wp2
            exact ⟨⟨k + 1, by omega, by go_num, by rw [take_at HX.out, List.all_append, HAL.out]; simp [HMB.out], by rw [bytes_take HX.out, HXE.out]; unfold bytesP; have h1 := HO8.out; simpa using h1, HW8.out, HS8.out⟩, by simp [intOf]; omega⟩
          · have e2 : ((q : Int) == 2) = false := by rw [beq_eq_false_iff_ne]; omega
            have e3 : (3 : Int) ≤ (q : Int) := by omega
            have HQ3 := Lib.hid (And.intro h h')
            clear h h'
            obtain ⟨p1, hp1⟩ : ∃ t, numI x.h.pos = t := ⟨_, rfl⟩
            obtain ⟨p2, hp2⟩ : ∃ t, numI (i : Int) = t := ⟨_, rfl⟩
            obtain ⟨p3, hp3⟩ : ∃ t, numI (m : Int) = t := ⟨_, rfl⟩
            have hl1 : p1.length ≤ 7 := by rw [← hp1]; exact numI_len _
            have hl2 : p2.length ≤ 7 := by rw [← hp2]; exact numI_len _
            have hl3 : p3.length ≤ 7 := by rw [← hp3]; exact numI_len _
            have HN1 := Lib.hid (fun Y => refNumber x.h.pos HPOS.out Y)
            have HN2 := Lib.hid (fun Y => refNumber (i : Int) (by unfold I64; omega) Y)
            have HN3 := Lib.hid (fun Y => refNumber (m : Int) (by unfold I64; omega) Y)
            rw [hp1] at HN1
            rw [hp2] at HN2
            rw [hp3] at HN3
            have hh : X ++ [sb, 32] ++ x.nm ++ (32 :: (p1 ++ 32 :: (p2 ++ 32 :: p3))) = X ++ headP x := by
              unfold headP tailP
              have hq3 := HQ3.out.1
              rw [HQ.out, HSB.out, if_neg (by omega), if_pos (by omega), HLO.out, HLN.out, hp1, hp2, hp3]; simp
            have hcat : ByteArray.mk #[32] ++ ByteArray.mk p1.toArray ++ ByteArray.mk #[32] ++ ByteArray.mk p2.toArray ++ ByteArray.mk #[32] ++ ByteArray.mk p3.toArray = ByteArray.mk (32 :: (p1 ++ 32 :: (p2 ++ 32 :: p3))).toArray := by
              apply ByteArray.ext
              simp
            have HCAT := Lib.hid hcat; have HH := Lib.hid hh
            have HL123 := Lib.hid (And.intro hl1 (And.intro hl2 hl3))
            have hs1 : ¬ 9223372036854775807 < 1 + p1.length := by omega
            have hs2 : ¬ 9223372036854775807 < 1 + p1.length + 1 := by omega
            have hs3 : ¬ 9223372036854775807 < 1 + p1.length + 1 + p2.length := by omega
            have hs4 : ¬ 9223372036854775807 < 1 + p1.length + 1 + p2.length + 1 := by omega
            have hs5 : ¬ 9223372036854775807 < 1 + p1.length + 1 + p2.length + 1 + p3.length := by omega
            have HSS : Hid (∀ Y, Below w4.heap.size w4 Y → (Y.cell? ⟨P, 3, none⟩ = some (.int .i64 x.h.pos) ∧ Y.cell? ⟨P, 4, none⟩ = some (.slice B i j) ∧ Y.cell? ⟨P, 5, none⟩ = some (.slice D m d))) := Lib.hid (fun Y hY => ⟨(HB4.out.below hY HB4.out.lt).cell 3 rfl, (HB4.out.below hY HB4.out.lt).cell 4 rfl, (HB4.out.below hY HB4.out.lt).cell 5 rfl⟩)
            have HKD := Lib.hid (HSS.out w4.drew (below_drewN (Below.refl _ _) 1))
            clear hcat hh hp1 hp2 hp3 hl1 hl2 hl3
            go_upto_region 17 with fail
            clear x0
            go_region_held3 (fun Y => Y.cell? ⟨P, 3, none⟩ = some (.int .i64 x.h.pos) ∧ Y.cell? ⟨P, 4, none⟩ = some (.slice B i j) ∧ Y.cell? ⟨P, 5, none⟩ = some (.slice D m d))
              (first | (with_reducible exact HKD.out) | (with_reducible exact hS1) | (with_reducible exact hS2) | (with_reducible exact hS3) | (with_reducible exact HKB.out))
              (first
                | (go_at_call 37; (with_reducible refine (HN1.out w4.drew).mono ?_); rintro e u1 ⟨rfl, hb1⟩; have hu1 : Below w4.heap.size w4 u1 := (below_drewN (Below.refl w4.heap.size w4) 1).trans hb1; have HU1 := Lib.hid hu1; have hS1 := HSS.out u1 hu1; clear hb1 hu1)
                | (go_at_call 37; (with_reducible refine (HN2.out u1).mono ?_); rintro e u2 ⟨rfl, hb2⟩; have hu2 : Below w4.heap.size w4 u2 := HU1.out.trans (hb2.mono HU1.out.size); have HU2 := Lib.hid hu2; have hS2 := HSS.out u2 hu2; clear hb2 hu2)
                | (go_at_call 37; (with_reducible refine (HN3.out u2).mono ?_); rintro e u3 ⟨rfl, hb3⟩; have hu3 : Below w4.heap.size w4 u3 := HU2.out.trans (hb3.mono HU2.out.size); have HU3 := Lib.hid hu3; have hS3 := HSS.out u3 hu3; have HO4b := Lib.hid (HO4.out.below hu3); have HS4b := Lib.hid (Nat.le_trans HS4.out hu3.size); have HB4b := Lib.hid (HB4.out.below hu3 HB4.out.lt); clear hb3 hu3)
                | (refine step_text (o := ⟨some 68, _, _, _, _, _⟩) rfl (.tmp 48) (.tmp 67) rfl (32 :: (p1 ++ 32 :: (p2 ++ 32 :: p3))) _ HCAT.out rfl HO4b.out rfl (by have h1 := HXL.out; have h2 := congrArg List.length HH.out; have h3 := HL5.out; simp at h2 ⊢; omega) (by have := HL123.out; simp; omega) HS4b.out ?_; intro v5 w5 ho hb hs ht; rw [HH.out] at ho; have HO5 := Lib.hid ho; have HW5 := Lib.hid ((HW4.out.trans (HU3.out.mono HS4.out)).trans hb); have HC5 := Lib.hid ((HC4.out.trans (HU3.out.mono HS4.out)).trans hb); have HS5 := Lib.hid hs; have hb5 := typ_blk ht HB4b.out (by decide); have HB5 := Lib.hid hb5; have HKB : Hid (w5.cell? ⟨P, 3, none⟩ = some (.int .i64 x.h.pos) ∧ w5.cell? ⟨P, 4, none⟩ = some (.slice B i j) ∧ w5.cell? ⟨P, 5, none⟩ = some (.slice D m d)) := Lib.hid ⟨hb5.cell 3 rfl, hb5.cell 4 rfl, hb5.cell 5 rfl⟩; clear ho hb hs ht hb5))
            clear hs1 hs2 hs3 hs4 hs5 hS1 hS2 hS3
            go_wp2_with (at_builtin; refine wpList_lit rfl (.tmp 69) (.tmp 70) rfl [10] _ rfl 1 rfl rfl HO5.out rfl (by have h1 := HXL.out; have h2 := HL5.out; simp; omega) (by decide) HS5.out ?_; intro v6 w6 ho hb hs ht; have HO6 := Lib.hid ho; have HW6 := Lib.hid (HW5.out.trans hb); have HC6 := Lib.hid (HC5.out.trans hb); have HS6 := Lib.hid hs; have HB6 := Lib.hid (typ_blk ht HB5.out (by decide)); have z4 : w6.cell? ⟨P, 4, none⟩ = some (.slice B i j) := HB6.out.cell 4 rfl; clear ho hb hs ht)
            refine (refLines v6 B i j w.heap.size w.heap.size (X ++ headP x ++ [10]) 45 x.h.old w6 HLO.out l1' HL3.out (by have h1 := HXL.out; have h2 := HL5.out; simp; omega) HO6.out (HP2.out.h.r.below HC6.out) (Nat.le_refl _) HS6.out).mono ?_
            rintro e w7 ⟨v7, rfl, ho, hb, ht⟩
            have HO7 := Lib.hid ho; have HW7 := Lib.hid (HW6.out.trans hb); have HC7 := Lib.hid (HC6.out.trans hb); have HS7 := Lib.hid (Nat.le_trans HS6.out hb.size); have HB7 := Lib.hid (typ_blk ht HB6.out (by decide))
            have z5 : w7.cell? ⟨P, 5, none⟩ = some (.slice D m d) := HB7.out.cell 5 rfl
            clear ho hb ht z4
            go_wp2_with fail
            refine (refLines v7 D m d w.heap.size w.heap.size (X ++ headP x ++ [10] ++ sg 45 x.h.old) 43 x.h.new w7 HLN.out l2' HL4.out (by have h1 := HXL.out; have h2 := HL5.out; have h3 := sg_len (c := 45) HL3.out; have h4 := HLO.out; simp; omega) HO7.out (HP2.out.h.r'.below HC7.out) (Nat.le_refl _) HS7.out).mono ?_
            rintro e w8 ⟨v8, rfl, ho, hb, ht⟩
            have HO8 := Lib.hid ho; have HW8 := Lib.hid (HW7.out.trans hb); have HS8 := Lib.hid (Nat.le_trans HS7.out hb.size)
            clear ho hb ht z5
            go_wp2
            exact ⟨⟨k + 1, by omega, by go_num, by rw [take_at HX.out, List.all_append, HAL.out]; simp [HMB.out], by rw [bytes_take HX.out, HXE.out]; unfold bytesP; have h1 := HO8.out; simpa using h1, HW8.out, HS8.out⟩, by simp [intOf]; omega⟩
      · have ek : l.take k = l := List.take_of_length_le (by rw [HN.out]; omega)
        rw [ek] at HAL HOW
        obtain ⟨Av, cv, rfl, hcv, hrd⟩ := HOW.out.rd
        obtain ⟨nv, hnv⟩ : ∃ nv, (bytesL l).length = nv := ⟨_, rfl⟩
        have HRD := Lib.hid hrd; have HNV := Lib.hid hnv
        rw [hnv] at hcv ⊢
        have HCV := Lib.hid hcv
        clear hrd hnv hcv ek
        by_cases hbig : 200000 < nv
        · have h1 : putP l = (8, []) := by
            unfold putP
            rw [if_neg (by rw [HN.out]; omega), if_pos HAL.out, if_pos (by rw [HNV.out]; exact hbig)]
          have h2 := HPP.out
          rw [h1] at h2
          injection h2 with h2 h3
          subst h2 h3
          clear h1
          go_wp2
          go_ret2
          exact put_none HBW.out
        · have h1 : putP l = (0, bytesL l) := by
            unfold putP
            rw [if_neg (by rw [HN.out]; omega), if_pos HAL.out, if_neg (by rw [HNV.out]; exact hbig)]
          have h2 := HPP.out
          rw [h1] at h2
          injection h2 with h2 h3
          subst h2 h3
          clear h1
          go_wp2
          go_ret2
          exact ⟨_, _, _, rfl, HNV.out, HCV.out, HRD.out, HBW.out⟩

end Cd
end Go.Proofs.YtjhjmfodpnipiaaGreatDoor
