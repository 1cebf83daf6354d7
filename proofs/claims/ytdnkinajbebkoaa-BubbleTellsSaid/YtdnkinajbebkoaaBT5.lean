/-
  The statement BubbleTells: which of any patches stay, and which are put behind, or picked, and as what, is what the document says.
-/
import Derived.Deep.RegionWith
import Derived.Laws.StructEq
import Derived.BigQuiet
import Derived.OwnWalkIn
import Derived.Deep.Cut
import Derived.Deep.RegionHeld3
import Derived.OpenShut
import Derived.ShutString
import Derived.Test.YtdnkinajbebkoaaBT4
set_option maxRecDepth 100000
namespace Go.Proofs.Ytdnkinajbebkoaa
open Go.RowKit
set_option linter.unusedVariables false
set_option linter.unusedSimpArgs false
namespace Bb
open Tx Df Sq Hk Tr Pr Fl Pn Tg

/-- A patch behind others that stood behind it: what they are, what it is. -/
def undN : Nm → List Nm → Option (List Nm × Nm)
  | p, [] => some ([], p)
  | p, q :: l => (passN p q).bind fun y => (undN y.2 l).map fun z => (y.1 :: z.1, z.2)
def outU (o : Option (List Nm × Nm)) : List Nm × Nm := o.getD ([], noN)
theorem und_eq : ∀ (l : List Nm) (p : Nm), underN p l = (undN p l).map fun z => (z.1, [z.2])
  | [], p => rfl
  | q :: l, p => by
    show passL passN [p] (q :: l) = _
    rw [passL, undN, Fl.one, Fl.one, Option.bind_some]
    cases h : passN p q with
    | none => rfl
    | some y =>
      have := und_eq l y.2
      show (passL passN [y.2] l).map _ = ((undN y.2 l).map _).map _
      rw [show passL passN [y.2] l = _ from this]
      cases undN y.2 l with
      | none => rfl
      | some z => rfl
section
variable {p q x : Nm} {k o l : List Nm}
theorem und_none (h : undN p k = none) : underN p k = none := by rw [und_eq, h]; rfl
theorem und_some (h : undN p k = some (o, q)) : underN p k = some (o, [q]) := by rw [und_eq, h]; rfl
theorem und_lit : ∀ {k o : List Nm} {p q : Nm}, Tg.Lit p → (∀ x ∈ k, Tg.Lit x) → undN p k = some (o, q) → (∀ x ∈ o, Tg.Lit x) ∧ Tg.Lit q
  | [], o, p, q, hp, hk, h => by
    injection h with h
    injection h with h1 h2
    subst h1 h2
    exact ⟨fun x hx => (by cases hx), hp⟩
  | x :: k, o, p, q, hp, hk, h => by
    rw [undN] at h
    cases h1 : passN p x with
    | none => rw [h1] at h; cases h
    | some y =>
      rw [h1, Option.bind_some] at h
      cases h2 : undN y.2 k with
      | none => rw [h2] at h; cases h
      | some z =>
        rw [h2] at h
        injection h with h
        injection h with e1 e2
        have hl := pass_lit h1 hp (hk x (.head _))
        have := und_lit (q := z.2) hl.2 (fun x hx => hk x (.tail _ hx)) h2
        subst e1 e2
        refine ⟨fun w hw => ?_, this.2⟩
        rcases List.mem_cons.1 hw with h | h
        · rw [h]; exact hl.1
        · exact this.1 w h
theorem und_len : ∀ {k o : List Nm} {p q : Nm}, undN p k = some (o, q) → o.length = k.length
  | [], o, p, q, h => by
    injection h with h
    injection h with h1 h2
    subst h1
    rfl
  | x :: k, o, p, q, h => by
    rw [undN] at h
    cases h1 : passN p x with
    | none => rw [h1] at h; cases h
    | some y =>
      rw [h1, Option.bind_some] at h
      cases h2 : undN y.2 k with
      | none => rw [h2] at h; cases h
      | some z =>
        rw [h2] at h
        injection h with h
        injection h with e1 e2
        have := und_len (q := z.2) h2
        subst e1
        rw [List.length_cons, List.length_cons, this]
end
/-- How under ends that tells o, q and bo: in blocks that S names, or in memory that is new. -/
def UnderEnd (w : World) (S : Nat → Prop) (o : List Nm) (q : Nm) (bo : Bool) (e : Ending) (w' : World) : Prop :=
  ∃ A n c D d f E m k, e = .returned (.tuple #[.slice A n c, nmV q.id D d f q.txt E m k, .bool bo]) ∧ o.length = n ∧ Tg.OwnT w' (Else S w w' (.slice A n c)) w.heap.size (.slice A n c) o ∧ NG w' (Else S w w' (.slice A n c)) D d f E m k q ∧ Below w.heap.size w w'

/-- The blocks that S names and those made behind z + 1, but for a row's own. -/
def UP (S : Nat → Prop) (z : Nat) (W : World) (v : Value) : Nat → Prop := fun b => (S b ∨ (z + 2 ≤ b ∧ b < W.heap.size)) ∧ some b ≠ v.ownBlock
/-- Between two rounds of under: x lies in the box z, o in a row. -/
structure UO (W : World) (S : Nat → Prop) (z : Nat) (v : Value) (o : List Nm) (x : Nm) (D : Option Addr) (dn dc : Nat) (E : Option Addr) (m k : Nat) : Prop where
  lo : ∀ b, S b → b < z
  row : Tg.OwnT W (UP S z W v) (z + 2) v o
  bq : Blk W z 45 (Tg.nmC x D dn dc E m k)
  br : Blk W (z + 1) 45 noC
  ng : NG W (UP S z W v) D dn dc E m k x
section
variable {W wc w9 : World} {S : Nat → Prop} {z g : Nat} {v v' : Value} {o o' : List Nm} {x y1 : Nm} {D E D3 E3 : Option Addr} {dn dc m k d3 e3 n3 k3 : Nat}
theorem UO.lt (h : UO W S z v o x D dn dc E m k) : ∀ b, UP S z W v b → b < W.heap.size := fun b hb => by
  rcases hb.1 with h1 | h1
  · have := h.lo b h1; have := h.bq.lt; omega
  · exact h1.2
/-- What a call of Pass told, made since W, is none of the row's. -/
theorem UO.new (h : UO W S z v o x D dn dc E m k) (hg : g + 1 = W.heap.size) {w5 : World} (hs : wc.heap.size ≤ w5.heap.size) (hb : Below W.heap.size W wc) : ∀ b, QS (UP S z W v) g wc b → UP S z w5 v b := fun b hq => by
  have hs0 := hb.size
  have hz := h.br.lt
  rcases hq with h1 | h1
  · refine ⟨h1.1.imp id fun h2 => ⟨h2.1, by omega⟩, h1.2⟩
  · exact ⟨.inr ⟨by omega, by omega⟩, fun e => by have := Tg.ownT_lt h.row b e.symm; omega⟩
theorem UO.up (h : UO W S z v o x D dn dc E m k) {w5 : World} (hs : W.heap.size ≤ w5.heap.size) : ∀ b, UP S z W v b → UP S z w5 v b := fun b hb => ⟨hb.1.imp id fun h2 => ⟨h2.1, by omega⟩, hb.2⟩
/-- A round. -/
theorem uo_step (hI : UO W S z v o x D dn dc E m k) (hb : Below W.heap.size W wc) (hg : g + 1 = W.heap.size) (h2 : NG wc (QS (UP S z W v) g wc) D3 d3 e3 E3 n3 k3 y1) {w5 : World} (hb5 : Below wc.heap.size wc w5)
    (ho : Tg.OwnT w9 (UP S z w5 v) (z + 2) v' o') (hgr : w5.grownBy w9 v.ownBlock) (hw : ∀ b, v'.ownBlock = some b → v.ownBlock = some b ∨ w5.heap.size ≤ b) :
    UO (((((w9.setCell ⟨z, 0, none⟩ (.int .i64 y1.id.1)).setCell ⟨z, 1, none⟩ (.int .i64 y1.id.2)).setCell ⟨z, 2, none⟩ (.slice D3 d3 e3)).setCell ⟨z, 3, none⟩ (strV y1.txt)).setCell ⟨z, 4, none⟩ (.slice E3 n3 k3)) S z v' o' y1 D3 d3 e3 E3 n3 k3 := by
  have hlo := hI.lo
  have l0 := hI.bq.lt; have l1 := hI.br.lt
  have s1 := hb.size; have s2 := hb5.size; have s3 := hgr.size
  have hbw : Below W.heap.size W w5 := below_mv hb hb5
  have nv : ∀ b, b < z + 2 → some b ≠ v.ownBlock := fun b hb e => by have := Tg.ownT_ge hI.row b e.symm; omega
  have nv' : ∀ b, b < z + 2 → some b ≠ v'.ownBlock := fun b hb e => by have := Tg.ownT_ge ho b e.symm; omega
  have kz : ∀ b, UP S z w5 v b → b ≠ z := fun b h => by
    rcases h.1 with h | h
    · have := hlo b h; omega
    · omega
  have up : ∀ (X : World), w9.heap.size ≤ X.heap.size → ∀ b, UP S z w5 v b → UP S z X v' b := fun X hX b h => by
    refine ⟨h.1.imp id fun h2 => ⟨h2.1, by omega⟩, fun e => ?_⟩
    rcases hw b e.symm with h1 | h1
    · exact h.2 h1.symm
    · rcases h.1 with h | h
      · have := hlo b h; omega
      · omega
  have ss := size_set5 w9 z (.int .i64 y1.id.1) (.int .i64 y1.id.2) (.slice D3 d3 e3) (strV y1.txt) (.slice E3 n3 k3)
  have al := alike_set5 w9 z (.int .i64 y1.id.1) (.int .i64 y1.id.2) (.slice D3 d3 e3) (strV y1.txt) (.slice E3 n3 k3)
  refine ⟨hlo, (ho.set5 (nv' z (by omega)) (fun h => kz _ h rfl) _ _ _ _ _).mono (up _ (Nat.le_of_eq ss.symm)), Tg.blk5 ((hI.bq.below hbw l0).gr hgr (nv z (by omega))) _ _ _ _ _, blk_set5 ((hI.br.below hbw l1).gr hgr (nv (z + 1) (by omega))) (by omega) _ _ _ _ _, ?_⟩
  have h3 := (h2.to_ ((alike_below hb5).mono fun b h => ?_)).mono (hI.new hg s2 hb)
  · exact (((h3.gr hgr fun b h => h.2).to_ (al.mono kz))).mono (up _ (Nat.le_of_eq ss.symm))
  · rcases h with h | h
    · have := hI.lt b h; omega
    · exact h.2
end
theorem uo_fin {w W : World} {S : Nat → Prop} {z : Nat} {v : Value} {o : List Nm} {x : Nm} {D E : Option Addr} {dn dc m k : Nat} (hI : UO W S z v o x D dn dc E m k) (hb : Below z w W) (hz : w.heap.size = z) (v0 v1 v2 v3 v4 : Value) :
    let W' := ((((W.setCell ⟨z + 1, 0, none⟩ v0).setCell ⟨z + 1, 1, none⟩ v1).setCell ⟨z + 1, 2, none⟩ v2).setCell ⟨z + 1, 3, none⟩ v3).setCell ⟨z + 1, 4, none⟩ v4
    Tg.OwnT W' (Else S w W' v) w.heap.size v o ∧ NG W' (Else S w W' v) D dn dc E m k x ∧ Below w.heap.size w W' := by
  intro W'
  have hlo := hI.lo
  have hs : W.heap.size = W'.heap.size := by simp [W']
  have kz : ∀ b, UP S z W v b → b ≠ z + 1 := fun b h => by
    rcases h.1 with h | h
    · have := hlo b h; omega
    · omega
  have up : ∀ b, UP S z W v b → Else S w W' v b := fun b h => ⟨h.1.imp id fun h1 => ⟨by omega, by omega⟩, h.2⟩
  have al := alike_set5 W (z + 1) v0 v1 v2 v3 v4
  exact ⟨((hI.row.set5 (fun e => by have := Tg.ownT_ge hI.row _ e.symm; omega) (fun h => kz _ h rfl) v0 v1 v2 v3 v4).mono up).base (by omega), (hI.ng.to_ (al.mono kz)).mono up, by rw [hz]; exact below_set5 hb (Nat.le_succ z) _ _ _ _ _⟩
theorem und_end {l : List Nm} {k n : Nat} {p x : Nm} {o : List Nm} (hn : l.length = n) (hk : ¬ k < n) (h : undN p l = (undN x (l.drop k)).map fun z => (o ++ z.1, z.2)) : undN p l = some (o, x) := by
  rw [h, List.drop_of_length_le (by omega), undN, Option.map_some, List.append_nil]
theorem und_more {l : List Nm} {k : Nat} {p x q x1 y1 : Nm} {o : List Nm} (hq : l[k]? = some q) (h : undN p l = (undN x (l.drop k)).map fun z => (o ++ z.1, z.2)) (hp : passN x q = some (x1, y1)) : undN p l = (undN y1 (l.drop (k + 1))).map fun z => ((o ++ [x1]) ++ z.1, z.2) := by
  obtain ⟨hk, rfl⟩ := List.getElem?_eq_some_iff.1 hq
  rw [h, List.drop_eq_getElem_cons hk, undN, hp, Option.bind_some]
  cases undN y1 (l.drop (k + 1)) with
  | none => rfl
  | some z => simp
theorem und_stop {l : List Nm} {k : Nat} {p x q : Nm} {o : List Nm} (hq : l[k]? = some q) (h : undN p l = (undN x (l.drop k)).map fun z => (o ++ z.1, z.2)) (hp : passN x q = none) : undN p l = none := by
  obtain ⟨hk, rfl⟩ := List.getElem?_eq_some_iff.1 hq
  rw [h, List.drop_eq_getElem_cons hk, undN, hp]
  rfl

set_option maxRecDepth 100000 in
set_option maxHeartbeats 16000000 in
theorem refUnderN (S : Nat → Prop) (D : Option Addr) (dn dc : Nat) (E : Option Addr) (mp kp : Nat) (A : Option Addr) (n c base : Nat) (p : Nm) (l : List Nm) (w : World) (hle : n ≤ 1000) (hp : Tg.Lit p) (hl : ∀ x ∈ l, Tg.Lit x) (hS : ∀ b, S b → b < w.heap.size) (hv : NG w S D dn dc E mp kp p) (hn : l.length = n) (hr : Tg.OwnT w S base (.slice A n c) l) (o : List Nm) (q : Nm) (bo : Bool) (ho : outU (undN p l) = (o, q)) (hs : (undN p l).isSome = bo) :
    Calls Try.prog 38 #[nmV p.id D dn dc p.txt E mp kp, .slice A n c] w (UnderEnd w S o q bo) := by
  have HO := Lib.hid ho; have HS := Lib.hid hs; have HN := Lib.hid hn; have HALL := Lib.hid hl; have HLS := Lib.hid hr
  have hbw := two_box w (.cells #[.int .i64 p.id.1, .int .i64 p.id.2, .slice D dn dc, strV p.txt, .slice E mp kp] 45) (.cells #[.int .i64 0, .int .i64 0, .slice none 0 0, .string ⟨#[]⟩, .slice none 0 0] 45)
  have b1 := (Blk.new w 45 #[.int .i64 p.id.1, .int .i64 p.id.2, .slice D dn dc, strV p.txt, .slice E mp kp]).alloc (.cells #[.int .i64 0, .int .i64 0, .slice none 0 0, .string ⟨#[]⟩, .slice none 0 0] 45)
  have b2 := Blk.new (w.alloc (.cells #[.int .i64 p.id.1, .int .i64 p.id.2, .slice D dn dc, strV p.txt, .slice E mp kp] 45)) 45 #[.int .i64 0, .int .i64 0, .slice none 0 0, .string ⟨#[]⟩, .slice none 0 0]
  simp only [World.size_alloc] at b2
  have hsz : ((w.alloc (.cells #[.int .i64 p.id.1, .int .i64 p.id.2, .slice D dn dc, strV p.txt, .slice E mp kp] 45)).alloc (.cells #[.int .i64 0, .int .i64 0, .slice none 0 0, .string ⟨#[]⟩, .slice none 0 0] 45)).heap.size = w.heap.size + 2 := by simp
  have hng := hv.to_ ((alike_below hbw).mono hS)
  clear ho hs hn hl hr hv
  go_enter Try.func38, Try.ntmps38
  go_wp2_with fail
  generalize ((w.alloc (.cells #[.int .i64 p.id.1, .int .i64 p.id.2, .slice D dn dc, strV p.txt, .slice E mp kp] 45)).alloc (.cells #[.int .i64 0, .int .i64 0, .slice none 0 0, .string ⟨#[]⟩, .slice none 0 0] 45)) = w0 at *
  obtain ⟨z, hz⟩ : ∃ z, w.heap.size = z := ⟨_, rfl⟩
  rw [hz] at b1 b2 hsz hbw hS ⊢
  have HZ := Lib.hid hz
  have HST : Hid (UO w0 S z (.slice none 0 0) [] p D dn dc E mp kp) := Lib.hid ⟨hS, ownT_nil _ _ _, b1, b2, hng.mono fun b h => ⟨.inl h, fun e => by cases e⟩⟩
  have HB0 := Lib.hid hbw
  clear hz b1 b2 hsz hbw hng
  go_loopw [7, 8] (fun v i wr => ∃ (k : Nat) (A1 : Option Addr) (m1 f1 : Nat) (o1 : List Nm) (x : Nm) (D1 : Option Addr) (dx e1 : Nat) (E1 : Option Addr) (mx k1 : Nat), k ≤ n ∧ i = .int .i64 (k : Int) ∧ v = .slice A1 m1 f1 ∧ o1.length = k ∧ undN p l = (undN x (l.drop k)).map (fun y => (o1 ++ y.1, y.2)) ∧ Tg.Lit x ∧ UO wr S z (.slice A1 m1 f1) o1 x D1 dx e1 E1 mx k1 ∧ Below z w wr) (fun _ i _ => n - (intOf i).toNat)
  case atStart => exact ⟨0, none, 0, 0, [], p, D, dn, dc, E, mp, kp, Nat.zero_le _, rfl, rfl, rfl, by cases h : undN p l <;> simp [h], hp, HST.out, HB0.out⟩
  case round =>
    clear HST HB0
    obtain ⟨k, A1, m1, f1, o1, x, D1, dx, e1, E1, mx, k1, hk, rfl, rfl, hol, heq, hlx, hI, hbw⟩ := hrel
    have HBW := Lib.hid hbw; have HI := Lib.hid hI; have HEQ := Lib.hid heq; have HLT := Lib.hid hlx
    clear hbw hI heq hlx
    have HZ2 : Hid (z ≤ wr.heap.size) := Lib.hid (Nat.le_of_lt HI.out.bq.lt)
    by_cases hlt : k < n
    · have hki : (k : Int) < (n : Int) := by omega
      obtain ⟨q, hx⟩ : ∃ q, l[k]? = some q := ⟨_, List.getElem?_eq_getElem (by rw [HN.out]; exact hlt)⟩
      obtain ⟨g, cap, e, hg1, hg2⟩ := ownT_addr HLS.out (by rw [HN.out]; omega)
      injection e with e e' e''
      subst e e''
      clear e'
      obtain ⟨Dq, dq, eq, Eq, nq, kq, c0, c1', c2, c3, c4, hf, hpv⟩ := HLS.out.elem HN.out hx
      have HX := Lib.hid hx; have HPV := Lib.hid hpv; have HLP := Lib.hid (HALL.out q (List.mem_of_getElem? hx))
      have hbq := HI.out.bq
      have hgz : g < z := by have := HZ.out; omega
      have HC : Hid (∀ W, Below wr.heap.size wr W → W.cell? ⟨g, k * 5, none⟩ = some (.int .i64 q.id.1) ∧ W.cell? ⟨g, k * 5 + 1, none⟩ = some (.int .i64 q.id.2) ∧ W.cell? ⟨g, k * 5 + 2, none⟩ = some (.slice Dq dq eq) ∧ W.cell? ⟨g, k * 5 + 3, none⟩ = some (strV q.txt) ∧ W.cell? ⟨g, k * 5 + 4, none⟩ = some (.slice Eq nq kq) ∧ W.cell? ⟨z, 0, none⟩ = some (.int .i64 x.id.1) ∧ W.cell? ⟨z, 1, none⟩ = some (.int .i64 x.id.2) ∧ W.cell? ⟨z, 2, none⟩ = some (.slice D1 dx e1) ∧ W.cell? ⟨z, 3, none⟩ = some (strV x.txt) ∧ W.cell? ⟨z, 4, none⟩ = some (.slice E1 mx k1)) := Lib.hid (fun W hb => by
        have b := hbq.below hb hbq.lt
        have hz := below_mvz HBW.out hb HZ2.out
        exact ⟨cell_b hz c0 hgz, cell_b hz c1' hgz, cell_b hz c2 hgz, cell_b hz c3 hgz, cell_b hz c4 hgz, b.cell 0 rfl, b.cell 1 rfl, b.cell 2 rfl, b.cell 3 rfl, b.cell 4 rfl⟩)
      clear hx hpv hbq c0 c1' c2 c3 c4 hf
      obtain ⟨x1, y1, ho⟩ : ∃ x1 y1, outN (passN x q) = (x1, y1) := ⟨_, _, rfl⟩
      obtain ⟨bq, hbo⟩ : ∃ bo, (passN x q).isSome = bo := ⟨_, rfl⟩
      have HOO := Lib.hid ho; have HBO := Lib.hid hbo
      obtain ⟨g', hgg⟩ : ∃ g', g' + 1 = wr.heap.size := ⟨wr.heap.size - 1, by have := HI.out.bq.lt; omega⟩
      have HG := Lib.hid hgg
      have HG2 : Hid (g' < wr.heap.size) := Lib.hid (by omega)
      have HLO : Hid (∀ b, (UP S z wr (.slice A1 m1 f1)) b → b < wr.heap.size) := Lib.hid HI.out.lt
      have HZ3 := Lib.hid (Nat.le_refl wr.heap.size)
      have H1 : Hid (∀ W, Below wr.heap.size wr W → Calls Try.prog 54 #[nmV x.id D1 dx e1 x.txt E1 mx k1, nmV q.id Dq dq eq q.txt Eq nq kq] W (NPassEndS W (QS (UP S z wr (.slice A1 m1 f1)) g' wr) x1 y1 bq)) := Lib.hid (fun W h =>
        refPassN (QS (UP S z wr (.slice A1 m1 f1)) g' wr) D1 dx e1 E1 mx k1 Dq dq eq Eq nq kq x q x1 y1 W bq (by have h1 := HI.out.ng.l; have h2 := HLT.out.2.1; omega) (by have h1 := HPV.out.l; have h2 := HLP.out.2.1; omega) (by have h1 := HPV.out.dl; have h2 := HLP.out.2.2; omega) HLT.out.1 HLP.out.1 (fun b hb => Nat.lt_of_lt_of_le (qs_lt HLO.out HZ3.out b hb) h.size) ((HI.out.ng.to_ ((alike_below h).mono HI.out.lt)).mono fun b hb => .inl hb) (((HPV.out.to_ ((alike_below (below_mvz HBW.out h HZ2.out)).mono HI.out.lo)).mono fun b hb => .inl ⟨.inl hb, fun e => by have h1 := HI.out.lo b hb; have h2 := Tg.ownT_ge HI.out.row b e.symm; omega⟩)) HOO.out HBO.out)
      clear ho hbo hgg
      go_upto_region 5 with fail
      have hss : ∀ W, Below wr.heap.size wr W → Below wr.heap.size wr W ∧ W.cell? ⟨g, k * 5, none⟩ = some (.int .i64 q.id.1) ∧ W.cell? ⟨g, k * 5 + 1, none⟩ = some (.int .i64 q.id.2) ∧ W.cell? ⟨g, k * 5 + 2, none⟩ = some (.slice Dq dq eq) ∧ W.cell? ⟨g, k * 5 + 3, none⟩ = some (strV q.txt) ∧ W.cell? ⟨g, k * 5 + 4, none⟩ = some (.slice Eq nq kq) ∧ W.cell? ⟨z, 0, none⟩ = some (.int .i64 x.id.1) ∧ W.cell? ⟨z, 1, none⟩ = some (.int .i64 x.id.2) ∧ W.cell? ⟨z, 2, none⟩ = some (.slice D1 dx e1) ∧ W.cell? ⟨z, 3, none⟩ = some (strV x.txt) ∧ W.cell? ⟨z, 4, none⟩ = some (.slice E1 mx k1) := fun W hb => ⟨hb, HC.out W hb⟩
      have HSS := Lib.hid hss
      have HKD := Lib.hid (hss wr.drew (Cut2.belD0 wr))
      have HKA : Hid (∀ W o, (Below wr.heap.size wr W ∧ W.cell? ⟨g, k * 5, none⟩ = some (.int .i64 q.id.1) ∧ W.cell? ⟨g, k * 5 + 1, none⟩ = some (.int .i64 q.id.2) ∧ W.cell? ⟨g, k * 5 + 2, none⟩ = some (.slice Dq dq eq) ∧ W.cell? ⟨g, k * 5 + 3, none⟩ = some (strV q.txt) ∧ W.cell? ⟨g, k * 5 + 4, none⟩ = some (.slice Eq nq kq) ∧ W.cell? ⟨z, 0, none⟩ = some (.int .i64 x.id.1) ∧ W.cell? ⟨z, 1, none⟩ = some (.int .i64 x.id.2) ∧ W.cell? ⟨z, 2, none⟩ = some (.slice D1 dx e1) ∧ W.cell? ⟨z, 3, none⟩ = some (strV x.txt) ∧ W.cell? ⟨z, 4, none⟩ = some (.slice E1 mx k1)) → Below wr.heap.size wr (W.alloc o) ∧ (W.alloc o).cell? ⟨g, k * 5, none⟩ = some (.int .i64 q.id.1) ∧ (W.alloc o).cell? ⟨g, k * 5 + 1, none⟩ = some (.int .i64 q.id.2) ∧ (W.alloc o).cell? ⟨g, k * 5 + 2, none⟩ = some (.slice Dq dq eq) ∧ (W.alloc o).cell? ⟨g, k * 5 + 3, none⟩ = some (strV q.txt) ∧ (W.alloc o).cell? ⟨g, k * 5 + 4, none⟩ = some (.slice Eq nq kq) ∧ (W.alloc o).cell? ⟨z, 0, none⟩ = some (.int .i64 x.id.1) ∧ (W.alloc o).cell? ⟨z, 1, none⟩ = some (.int .i64 x.id.2) ∧ (W.alloc o).cell? ⟨z, 2, none⟩ = some (.slice D1 dx e1) ∧ (W.alloc o).cell? ⟨z, 3, none⟩ = some (strV x.txt) ∧ (W.alloc o).cell? ⟨z, 4, none⟩ = some (.slice E1 mx k1)) := Lib.hid (fun W o h => hss _ (h.1.alloc h.1.size o))
      have HKS : Hid (∀ W T v0 v1 v2 v3 v4, (Below wr.heap.size wr W ∧ W.cell? ⟨g, k * 5, none⟩ = some (.int .i64 q.id.1) ∧ W.cell? ⟨g, k * 5 + 1, none⟩ = some (.int .i64 q.id.2) ∧ W.cell? ⟨g, k * 5 + 2, none⟩ = some (.slice Dq dq eq) ∧ W.cell? ⟨g, k * 5 + 3, none⟩ = some (strV q.txt) ∧ W.cell? ⟨g, k * 5 + 4, none⟩ = some (.slice Eq nq kq) ∧ W.cell? ⟨z, 0, none⟩ = some (.int .i64 x.id.1) ∧ W.cell? ⟨z, 1, none⟩ = some (.int .i64 x.id.2) ∧ W.cell? ⟨z, 2, none⟩ = some (.slice D1 dx e1) ∧ W.cell? ⟨z, 3, none⟩ = some (strV x.txt) ∧ W.cell? ⟨z, 4, none⟩ = some (.slice E1 mx k1)) → wr.heap.size ≤ T → Below wr.heap.size wr (((((W.setCell ⟨T, 0, none⟩ v0).setCell ⟨T, 1, none⟩ v1).setCell ⟨T, 2, none⟩ v2).setCell ⟨T, 3, none⟩ v3).setCell ⟨T, 4, none⟩ v4) ∧ (((((W.setCell ⟨T, 0, none⟩ v0).setCell ⟨T, 1, none⟩ v1).setCell ⟨T, 2, none⟩ v2).setCell ⟨T, 3, none⟩ v3).setCell ⟨T, 4, none⟩ v4).cell? ⟨g, k * 5, none⟩ = some (.int .i64 q.id.1) ∧ (((((W.setCell ⟨T, 0, none⟩ v0).setCell ⟨T, 1, none⟩ v1).setCell ⟨T, 2, none⟩ v2).setCell ⟨T, 3, none⟩ v3).setCell ⟨T, 4, none⟩ v4).cell? ⟨g, k * 5 + 1, none⟩ = some (.int .i64 q.id.2) ∧ (((((W.setCell ⟨T, 0, none⟩ v0).setCell ⟨T, 1, none⟩ v1).setCell ⟨T, 2, none⟩ v2).setCell ⟨T, 3, none⟩ v3).setCell ⟨T, 4, none⟩ v4).cell? ⟨g, k * 5 + 2, none⟩ = some (.slice Dq dq eq) ∧ (((((W.setCell ⟨T, 0, none⟩ v0).setCell ⟨T, 1, none⟩ v1).setCell ⟨T, 2, none⟩ v2).setCell ⟨T, 3, none⟩ v3).setCell ⟨T, 4, none⟩ v4).cell? ⟨g, k * 5 + 3, none⟩ = some (strV q.txt) ∧ (((((W.setCell ⟨T, 0, none⟩ v0).setCell ⟨T, 1, none⟩ v1).setCell ⟨T, 2, none⟩ v2).setCell ⟨T, 3, none⟩ v3).setCell ⟨T, 4, none⟩ v4).cell? ⟨g, k * 5 + 4, none⟩ = some (.slice Eq nq kq) ∧ (((((W.setCell ⟨T, 0, none⟩ v0).setCell ⟨T, 1, none⟩ v1).setCell ⟨T, 2, none⟩ v2).setCell ⟨T, 3, none⟩ v3).setCell ⟨T, 4, none⟩ v4).cell? ⟨z, 0, none⟩ = some (.int .i64 x.id.1) ∧ (((((W.setCell ⟨T, 0, none⟩ v0).setCell ⟨T, 1, none⟩ v1).setCell ⟨T, 2, none⟩ v2).setCell ⟨T, 3, none⟩ v3).setCell ⟨T, 4, none⟩ v4).cell? ⟨z, 1, none⟩ = some (.int .i64 x.id.2) ∧ (((((W.setCell ⟨T, 0, none⟩ v0).setCell ⟨T, 1, none⟩ v1).setCell ⟨T, 2, none⟩ v2).setCell ⟨T, 3, none⟩ v3).setCell ⟨T, 4, none⟩ v4).cell? ⟨z, 2, none⟩ = some (.slice D1 dx e1) ∧ (((((W.setCell ⟨T, 0, none⟩ v0).setCell ⟨T, 1, none⟩ v1).setCell ⟨T, 2, none⟩ v2).setCell ⟨T, 3, none⟩ v3).setCell ⟨T, 4, none⟩ v4).cell? ⟨z, 3, none⟩ = some (strV x.txt) ∧ (((((W.setCell ⟨T, 0, none⟩ v0).setCell ⟨T, 1, none⟩ v1).setCell ⟨T, 2, none⟩ v2).setCell ⟨T, 3, none⟩ v3).setCell ⟨T, 4, none⟩ v4).cell? ⟨z, 4, none⟩ = some (.slice E1 mx k1)) := Lib.hid (fun W T v0 v1 v2 v3 v4 h hT => hss _ (below_set5 h.1 hT v0 v1 v2 v3 v4))
      clear hss
      go_cut [9, 10, 11, 36, 37] from 18 (fun s9 s10 s11 s36 s37 wx => ∃ (T U : Nat) (D2 : Option Addr) (d2 e2 : Nat) (E2 : Option Addr) (n2 k2 : Nat) (D3 : Option Addr) (d3 e3 : Nat) (E3 : Option Addr) (n3 k3 : Nat), s9 = .pointer (some ⟨T, 0, none⟩) ∧ s10 = .pointer (some ⟨U, 0, none⟩) ∧ s11 = .bool bq ∧ LayN wr wx (UP S z wr (.slice A1 m1 f1)) wr.heap.size g' T U x1 D2 d2 e2 E2 n2 k2 y1 D3 d3 e3 E3 n3 k3 ∧ s36 = undef ∧ s37 = undef)
      case first =>
        obtain ⟨_, y0, y1, y2, y3, y4, x0, x1, x2, x3, x4⟩ := HSS.out wr (Below.refl _ _)
        go_region_held3 (fun W => Below wr.heap.size wr W ∧ W.cell? ⟨g, k * 5, none⟩ = some (.int .i64 q.id.1) ∧ W.cell? ⟨g, k * 5 + 1, none⟩ = some (.int .i64 q.id.2) ∧ W.cell? ⟨g, k * 5 + 2, none⟩ = some (.slice Dq dq eq) ∧ W.cell? ⟨g, k * 5 + 3, none⟩ = some (strV q.txt) ∧ W.cell? ⟨g, k * 5 + 4, none⟩ = some (.slice Eq nq kq) ∧ W.cell? ⟨z, 0, none⟩ = some (.int .i64 x.id.1) ∧ W.cell? ⟨z, 1, none⟩ = some (.int .i64 x.id.2) ∧ W.cell? ⟨z, 2, none⟩ = some (.slice D1 dx e1) ∧ W.cell? ⟨z, 3, none⟩ = some (strV x.txt) ∧ W.cell? ⟨z, 4, none⟩ = some (.slice E1 mx k1))
          (first
          | (with_reducible exact HKD.out)
          | (with_reducible exact HSS.out _ (Cut2.belD1 wr _))
          | (with_reducible exact HSS.out _ (Cut2.belD2 wr _ _))
          | (with_reducible exact hS1)
          | (with_reducible exact HKA.out _ _ hS1)
          | (with_reducible exact HKA.out _ _ (HKA.out _ _ hS1))
          | (with_reducible exact HKS.out _ _ _ _ _ _ _ hS1 tlp)
          | (with_reducible exact HKS.out _ _ _ _ _ _ _ hS1 tlq)
          | (with_reducible exact HKA.out _ _ (HKS.out _ _ _ _ _ _ _ hS1 tlp))
          | (with_reducible exact HKS.out _ _ _ _ _ _ _ (HKS.out _ _ _ _ _ _ _ hS1 tlp) tlq)
          | (with_reducible exact HKS.out _ _ _ _ _ _ _ (HKS.out _ _ _ _ _ _ _ hS1 tlq) tlp))
          (first
          | (go_at_call 54; (with_reducible refine (H1.out (wr.drew) (Cut2.belD0 wr )).mono ?_); rintro e u1 ⟨D2, d2, e2, E2, n2, k2, D3, d3, e3, E3, n3, k3, rfl, hn1, hn2, hb⟩; have hbc := Cut2.thrD0 hb; have HN1 := Lib.hid hn1; have HN2 := Lib.hid hn2; have hS1 := HSS.out u1 hbc; have HU1 := Lib.hid hbc; have tl1 := HU1.out.size; clear hb hbc hn1 hn2)
          | (go_at_call 54; (with_reducible refine (H1.out ((wr.alloc (.cells #[.int .i64 0, .int .i64 0, .slice none 0 0, .string ⟨#[]⟩, .slice none 0 0] 45)).drew) (Cut2.belD1 wr (.cells #[.int .i64 0, .int .i64 0, .slice none 0 0, .string ⟨#[]⟩, .slice none 0 0] 45))).mono ?_); rintro e u1 ⟨D2, d2, e2, E2, n2, k2, D3, d3, e3, E3, n3, k3, rfl, hn1, hn2, hb⟩; have hbc := Cut2.thrD1 hb; have HN1 := Lib.hid hn1; have HN2 := Lib.hid hn2; have zp := Cut2.newD1 hb; have tlp := Nat.le_refl wr.heap.size; have hS1 := HSS.out u1 hbc; have HU1 := Lib.hid hbc; have tl1 := HU1.out.size; have pp0 := zp.cell 0 (u := .int .i64 0) rfl; have ppf0 := zp.frozen 0; have pp1 := zp.cell 1 (u := .int .i64 0) rfl; have ppf1 := zp.frozen 1; have pp2 := zp.cell 2 (u := .slice none 0 0) rfl; have ppf2 := zp.frozen 2; have pp3 := zp.cell 3 (u := .string ⟨#[]⟩) rfl; have ppf3 := zp.frozen 3; have pp4 := zp.cell 4 (u := .slice none 0 0) rfl; have ppf4 := zp.frozen 4; have ppl := zp.lt; clear hb hbc hn1 hn2)
          | (go_at_call 54; (with_reducible refine (H1.out (((wr.alloc (.cells #[.int .i64 0, .int .i64 0, .slice none 0 0, .string ⟨#[]⟩, .slice none 0 0] 45)).alloc (.cells #[.int .i64 0, .int .i64 0, .slice none 0 0, .string ⟨#[]⟩, .slice none 0 0] 45)).drew) (Cut2.belD2 wr (.cells #[.int .i64 0, .int .i64 0, .slice none 0 0, .string ⟨#[]⟩, .slice none 0 0] 45) (.cells #[.int .i64 0, .int .i64 0, .slice none 0 0, .string ⟨#[]⟩, .slice none 0 0] 45))).mono ?_); rintro e u1 ⟨D2, d2, e2, E2, n2, k2, D3, d3, e3, E3, n3, k3, rfl, hn1, hn2, hb⟩; have hbc := Cut2.thrD2 hb; have HN1 := Lib.hid hn1; have HN2 := Lib.hid hn2; obtain ⟨zp, zq⟩ := Cut2.newD2 hb; have tlp := Nat.le_refl wr.heap.size; have zpq := Nat.lt_succ_self wr.heap.size; have tlq := Nat.le_succ wr.heap.size; have hS1 := HSS.out u1 hbc; have HU1 := Lib.hid hbc; have tl1 := HU1.out.size; have pp0 := zp.cell 0 (u := .int .i64 0) rfl; have ppf0 := zp.frozen 0; have pp1 := zp.cell 1 (u := .int .i64 0) rfl; have ppf1 := zp.frozen 1; have pp2 := zp.cell 2 (u := .slice none 0 0) rfl; have ppf2 := zp.frozen 2; have pp3 := zp.cell 3 (u := .string ⟨#[]⟩) rfl; have ppf3 := zp.frozen 3; have pp4 := zp.cell 4 (u := .slice none 0 0) rfl; have ppf4 := zp.frozen 4; have ppl := zp.lt; have rr0 := zq.cell 0 (u := .int .i64 0) rfl; have rrf0 := zq.frozen 0; have rr1 := zq.cell 1 (u := .int .i64 0) rfl; have rrf1 := zq.frozen 1; have rr2 := zq.cell 2 (u := .slice none 0 0) rfl; have rrf2 := zq.frozen 2; have rr3 := zq.cell 3 (u := .string ⟨#[]⟩) rfl; have rrf3 := zq.frozen 3; have rr4 := zq.cell 4 (u := .slice none 0 0) rfl; have rrf4 := zq.frozen 4; have rrl := zq.lt; clear hb hbc hn1 hn2))
        all_goals (try go_wp2_with fail)
        all_goals go_meet
        (with_reducible exact ⟨_, _, _, _, _, _, _, _, _, _, _, _, _, _, rfl, rfl, rfl, layN (lay5_aa HU1.out) HN1.out HN2.out HLO.out HG2.out HZ3.out HU1.out (Nat.le_refl _) (.inr (Nat.le_refl _)) (.inr (Nat.le_succ _)), rfl, rfl⟩)
        (with_reducible exact ⟨_, _, _, _, _, _, _, _, _, _, _, _, _, _, rfl, rfl, rfl, layN (lay5_aa HU1.out).swap HN1.out HN2.out HLO.out HG2.out HZ3.out HU1.out (Nat.le_refl _) (.inr (Nat.le_succ _)) (.inr (Nat.le_refl _)), rfl, rfl⟩)
        (with_reducible exact ⟨_, _, _, _, _, _, _, _, _, _, _, _, _, _, rfl, rfl, rfl, layN (lay5_sa HU1.out zp tlp) HN1.out HN2.out HLO.out HG2.out HZ3.out HU1.out (Nat.le_of_lt (size_lt1 wr _)) (.inl (size_lt1 wr _)) (.inr (Nat.le_refl _)), rfl, rfl⟩)
        (with_reducible exact ⟨_, _, _, _, _, _, _, _, _, _, _, _, _, _, rfl, rfl, rfl, layN (lay5_ss HU1.out zp zq (Nat.ne_of_lt zpq) tlp tlq) HN1.out HN2.out HLO.out HG2.out HZ3.out HU1.out (Nat.le_of_lt (size_lt2 wr _ _)) (.inl (size_lt2 wr _ _)) (.inl (size_lt2' wr _ _)), rfl, rfl⟩)
        (with_reducible exact ⟨_, _, _, _, _, _, _, _, _, _, _, _, _, _, rfl, rfl, rfl, layN (lay5_sa HU1.out zp tlp).swap HN1.out HN2.out HLO.out HG2.out HZ3.out HU1.out (Nat.le_of_lt (size_lt1 wr _)) (.inr (Nat.le_refl _)) (.inl (size_lt1 wr _)), rfl, rfl⟩)
        (with_reducible exact ⟨_, _, _, _, _, _, _, _, _, _, _, _, _, _, rfl, rfl, rfl, layN (lay5_ss HU1.out zq zp (Nat.ne_of_gt zpq) tlq tlp) HN1.out HN2.out HLO.out HG2.out HZ3.out HU1.out (Nat.le_of_lt (size_lt2 wr _ _)) (.inl (size_lt2' wr _ _)) (.inl (size_lt2 wr _ _)), rfl, rfl⟩)
      case rest =>
        obtain ⟨T, U, D2, d2, e2, E2, n2, k2, D3, d3, e3, E3, n3, k3, rfl, rfl, rfl, ⟨b_x, b_y, hlT, hlU, hb, hg1, hg2⟩, rfl, rfl⟩ := hcut
        clear HSS HKD HKA HKS H1 HC
        cases bq with
        | false =>
          have HNN : Hid (passN x q = none) := Lib.hid (by
            have h := HBO.out
            cases hp : passN x q with
            | none => rfl
            | some z => rw [hp] at h; cases h)
          have hB2 := HI.out.br.below hb HI.out.br.lt
          have hlt := hB2.lt
          have z0 := hB2.cell 0 rfl; have z1 := hB2.cell 1 rfl; have z2 := hB2.cell 2 rfl; have z3 := hB2.cell 3 rfl; have z4 := hB2.cell 4 rfl
          have f0 := hB2.frozen 0; have f1 := hB2.frozen 1; have f2 := hB2.frozen 2; have f3 := hB2.frozen 3; have f4 := hB2.frozen 4
          have b6 := Tg.blk5 hB2 (.int .i64 0) (.int .i64 0) (.slice none 0 0) (.string ⟨#[]⟩) (.slice none 0 0)
          have hw9 := below_set5 (below_mvz HBW.out hb HZ2.out) (Nat.le_succ z) (.int .i64 0) (.int .i64 0) (.slice none 0 0) (.string ⟨#[]⟩) (.slice none 0 0)
          clear hB2 b_x b_y hlT hlU hg1 hg2
          go_wp2_with fail
          generalize (World.setCell (World.setCell (World.setCell (World.setCell (World.setCell wc ⟨z + 1, 0, none⟩ (.int .i64 0)) ⟨z + 1, 1, none⟩ (.int .i64 0)) ⟨z + 1, 2, none⟩ (.slice none 0 0)) ⟨z + 1, 3, none⟩ (.string ⟨#[]⟩)) ⟨z + 1, 4, none⟩ (.slice none 0 0)) = W9 at *
          clear z0 z1 z2 z3 z4 f0 f1 f2 f3 f4 hlt
          have u0 := b6.cell 0 rfl; have u1 := b6.cell 1 rfl; have u2 := b6.cell 2 rfl; have u3 := b6.cell 3 rfl; have u4 := b6.cell 4 rfl
          refine bodyPost_ret (v := .tuple #[.slice none 0 0, .agg #[.int .i64 0, .int .i64 0, .slice none 0 0, .string ⟨#[]⟩, .slice none 0 0], .bool false]) (by simp [results, Try.results38, go_sem, u0, u1, u2, u3, u4]) rfl ?_
          have he := und_stop HX.out HEQ.out HNN.out
          have ho := HO.out; have hs := HS.out
          rw [he] at ho hs
          injection ho with e1' e2'
          subst e1' e2' hs
          exact ⟨none, 0, 0, none, 0, 0, none, 0, 0, rfl, rfl, ownT_nil _ _ _, ng_no _ _, by rw [HZ.out]; exact hw9⟩
        | true =>
          have HSM : Hid (passN x q = some (x1, y1)) := Lib.hid (by
            have h := HBO.out; have ho := HOO.out
            cases hp : passN x q with
            | none => rw [hp] at h; cases h
            | some z => rw [hp] at ho; exact congrArg some ho)
          have HLX := Lib.hid (pass_lit HSM.out HLT.out HLP.out)
          have hbl : Below wc.heap.size wc (wc.alloc (.cells #[.int .i64 x1.id.1, .int .i64 x1.id.2, .slice D2 d2 e2, strV x1.txt, .slice E2 n2 k2] 45)) := (Below.refl _ _).alloc (Nat.le_refl _) _
          have HROW5 := Lib.hid ((HI.out.row.below (below_mv hb hbl)).mono (HI.out.up (below_mv hb hbl).size))
          have HSR := Lib.hid (one_src (Blk.new wc 45 #[.int .i64 x1.id.1, .int .i64 x1.id.2, .slice D2 d2 e2, strV x1.txt, .slice E2 n2 k2]) ((hg1.to_ ((alike_below hbl).mono fun b h => qs_lt (fun b h => HI.out.lt b h) hb.size b h)).mono (HI.out.new HG.out hbl.size hb)))
          have HLN := Lib.hid (show o1.length + 1 ≤ 100000 by omega)
          have HSZ5 := Lib.hid (show z + 2 ≤ (wc.alloc (.cells #[.int .i64 x1.id.1, .int .i64 x1.id.2, .slice D2 d2 e2, strV x1.txt, .slice E2 n2 k2] 45)).heap.size by have := HI.out.br.lt; have := hb.size; simp; omega)
          have HS5 : Hid (∀ b, UP S z (wc.alloc (.cells #[.int .i64 x1.id.1, .int .i64 x1.id.2, .slice D2 d2 e2, strV x1.txt, .slice E2 n2 k2] 45)) (.slice A1 m1 f1) b → b < (wc.alloc (.cells #[.int .i64 x1.id.1, .int .i64 x1.id.2, .slice D2 d2 e2, strV x1.txt, .slice E2 n2 k2] 45)).heap.size ∧ some b ≠ (Value.slice A1 m1 f1).ownBlock) := Lib.hid (fun b hq => ⟨by
            rcases hq.1 with h | h
            · have := HI.out.lo b h; have := HSZ5.out; omega
            · exact h.2, hq.2⟩)
          have v0 := b_x.cell 0 rfl; have v1 := b_x.cell 1 rfl; have v2 := b_x.cell 2 rfl; have v3 := b_x.cell 3 rfl; have v4 := b_x.cell 4 rfl
          have hT1 := b_x.lt
          have HBC := Lib.hid hb; have HBL := Lib.hid hbl; have HG1 := Lib.hid hg1; have HG2 := Lib.hid hg2; have HBY := Lib.hid b_y; have HLU := Lib.hid hlU
          clear hb hbl hg1 hg2 b_y hlT hlU b_x
          go_upto_region 9 with (at_builtin; refine wpList_ownT rfl (.tmp 31) (.tmp 33) rfl (UP S z (wc.alloc (.cells #[.int .i64 x1.id.1, .int .i64 x1.id.2, .slice D2 d2 e2, strV x1.txt, .slice E2 n2 k2] 45)) (.slice A1 m1 f1)) (z + 2) 1 1 (.slice A1 m1 f1) (some ⟨wc.heap.size, 0, none⟩) o1 [x1] rfl rfl HROW5.out HSR.out rfl HLN.out HS5.out HSZ5.out ?_; intro v9 w9 ho hg hw)
          obtain ⟨A9, f9, rfl, hf9⟩ := Tg.ownT_slice ho
          have HUO := Lib.hid (uo_step HI.out HBC.out HG.out HG2.out HBL.out ho hg hw)
          have nv : ∀ b, b < z + 2 → some b ≠ (Value.slice A1 m1 f1).ownBlock := fun b hb e => by have := Tg.ownT_ge HI.out.row b e.symm; omega
          have hbw5 := below_mv HBC.out HBL.out
          have hB1 := (HI.out.bq.below hbw5 HI.out.bq.lt).gr hg (nv z (by omega))
          have hbu := (HBY.out.below HBL.out HBY.out.lt).gr hg (fun e => by have h1 := Tg.ownT_lt HI.out.row U e.symm; have h2 := HLU.out; omega)
          have hw9 : Below z w w9 := (below_mvz (below_mvz HBW.out HBC.out HZ2.out) HBL.out (Nat.le_trans HZ2.out HBC.out.size)).grown hg (by have := HSZ5.out; omega) (fun b e => by have := Tg.ownT_ge HI.out.row b e; omega)
          have HBS := Lib.hid (below_set5 hw9 (Nat.le_refl z) (.int .i64 y1.id.1) (.int .i64 y1.id.2) (.slice D3 d3 e3) (strV y1.txt) (.slice E3 n3 k3))
          have z0 := hB1.cell 0 rfl; have z1 := hB1.cell 1 rfl; have z2 := hB1.cell 2 rfl; have z3 := hB1.cell 3 rfl; have z4 := hB1.cell 4 rfl
          have f0 := hB1.frozen 0; have f1 := hB1.frozen 1; have f2 := hB1.frozen 2; have f3 := hB1.frozen 3; have f4 := hB1.frozen 4
          have t0 := hbu.cell 0 rfl; have t1 := hbu.cell 1 rfl; have t2 := hbu.cell 2 rfl; have t3 := hbu.cell 3 rfl; have t4 := hbu.cell 4 rfl
          have hlt := hB1.lt; have hU1 := hbu.lt
          clear hB1 hbu hw9 hbw5 nv v0 v1 v2 v3 v4 hT1 ho hg hw
          go_wp2_with fail
          generalize (World.setCell (World.setCell (World.setCell (World.setCell (World.setCell w9 ⟨z, 0, none⟩ (.int .i64 y1.id.1)) ⟨z, 1, none⟩ (.int .i64 y1.id.2)) ⟨z, 2, none⟩ (.slice D3 d3 e3)) ⟨z, 3, none⟩ (strV y1.txt)) ⟨z, 4, none⟩ (.slice E3 n3 k3)) = W9 at *
          refine ⟨⟨k + 1, A9, _, f9, o1 ++ [x1], y1, D3, d3, e3, E3, n3, k3, by omega, by go_num, rfl, by rw [List.length_append, List.length_singleton]; omega, und_more HX.out HEQ.out HSM.out, HLX.out.2, HUO.out, HBS.out⟩, by simp [intOf]; omega⟩
    · have hki : ¬ (k : Int) < (n : Int) := by omega
      have HNK := Lib.hid hlt
      have hB1 := HI.out.bq; have hB2 := HI.out.br
      have r0 := hB2.cell 0 rfl; have r1 := hB2.cell 1 rfl; have r2 := hB2.cell 2 rfl; have r3 := hB2.cell 3 rfl; have r4 := hB2.cell 4 rfl
      have f0 := hB2.frozen 0; have f1 := hB2.frozen 1; have f2 := hB2.frozen 2; have f3 := hB2.frozen 3; have f4 := hB2.frozen 4
      have hlt0 := hB1.lt; have hlt := hB2.lt
      have HB3 := Lib.hid (Tg.blk5 hB2 (.int .i64 x.id.1) (.int .i64 x.id.2) (.slice D1 dx e1) (strV x.txt) (.slice E1 mx k1))
      have HFN := Lib.hid (uo_fin HI.out HBW.out HZ.out (.int .i64 x.id.1) (.int .i64 x.id.2) (.slice D1 dx e1) (strV x.txt) (.slice E1 mx k1))
      have HEN := Lib.hid (und_end HN.out HNK.out HEQ.out)
      obtain ⟨_, _, em, _⟩ := Tg.ownT_slice HI.out.row
      injection em with em1 em2 em3
      have HM1 := Lib.hid em2.symm
      have HSB : Hid (∀ Y : World, Blk Y z 45 #[.int .i64 x.id.1, .int .i64 x.id.2, .slice D1 dx e1, strV x.txt, .slice E1 mx k1] → Y.cell? ⟨z, 0, none⟩ = some (.int .i64 x.id.1) ∧ Y.cell? ⟨z, 1, none⟩ = some (.int .i64 x.id.2) ∧ Y.cell? ⟨z, 2, none⟩ = some (.slice D1 dx e1) ∧ Y.cell? ⟨z, 3, none⟩ = some (strV x.txt) ∧ Y.cell? ⟨z, 4, none⟩ = some (.slice E1 mx k1)) := Lib.hid (fun Y h => ⟨h.cell 0 rfl, h.cell 1 rfl, h.cell 2 rfl, h.cell 3 rfl, h.cell 4 rfl⟩)
      have HKD := Lib.hid (HSB.out wr.drew (hB1.drewN 1))
      have HKA := Lib.hid (HSB.out (World.setCell (World.setCell (World.setCell (World.setCell (World.setCell wr ⟨z + 1, 0, none⟩ (.int .i64 x.id.1)) ⟨z + 1, 1, none⟩ (.int .i64 x.id.2)) ⟨z + 1, 2, none⟩ (.slice D1 dx e1)) ⟨z + 1, 3, none⟩ (strV x.txt)) ⟨z + 1, 4, none⟩ (.slice E1 mx k1)).drew ((blk_set5 hB1 (show z ≠ z + 1 by omega) (.int .i64 x.id.1) (.int .i64 x.id.2) (.slice D1 dx e1) (strV x.txt) (.slice E1 mx k1)).drewN 1))
      clear hB1 hB2 em1 em2 em3
      go_upto_region 10 with fail
      go_region_held3 (fun Y => Y.cell? ⟨z, 0, none⟩ = some (.int .i64 x.id.1) ∧ Y.cell? ⟨z, 1, none⟩ = some (.int .i64 x.id.2) ∧ Y.cell? ⟨z, 2, none⟩ = some (.slice D1 dx e1) ∧ Y.cell? ⟨z, 3, none⟩ = some (strV x.txt) ∧ Y.cell? ⟨z, 4, none⟩ = some (.slice E1 mx k1))
        (first | (with_reducible exact HKD.out) | (with_reducible exact HKA.out))
        (fail)
      clear HSB HKD HKA r0 r1 r2 r3 r4 f0 f1 f2 f3 f4 hlt0 hlt
      go_wp2_with fail
      have b6 := HB3.out
      have hfn := HFN.out
      have hdr : ∀ W9 : World, Below W9.heap.size W9 W9.drew := fun W9 => below_drewN (Below.refl _ _) 1
      generalize (World.setCell (World.setCell (World.setCell (World.setCell (World.setCell wr ⟨z + 1, 0, none⟩ (.int .i64 x.id.1)) ⟨z + 1, 1, none⟩ (.int .i64 x.id.2)) ⟨z + 1, 2, none⟩ (.slice D1 dx e1)) ⟨z + 1, 3, none⟩ (strV x.txt)) ⟨z + 1, 4, none⟩ (.slice E1 mx k1)) = W9 at *
      have u0 := b6.cell 0 rfl; have u1 := b6.cell 1 rfl; have u2 := b6.cell 2 rfl; have u3 := b6.cell 3 rfl; have u4 := b6.cell 4 rfl
      refine bodyPost_ret (v := .tuple #[.slice A1 m1 f1, .agg #[.int .i64 x.id.1, .int .i64 x.id.2, .slice D1 dx e1, strV x.txt, .slice E1 mx k1], .bool true]) (by simp [results, Try.results38, go_sem, u0, u1, u2, u3, u4]) rfl ?_
      obtain ⟨r1, r2, r3⟩ := hfn
      have ho := HO.out; have hs := HS.out
      rw [HEN.out] at ho hs
      injection ho with e1' e2'
      subst e1' e2' hs
      exact ⟨A1, m1, f1, D1, dx, e1, E1, mx, k1, rfl, HM1.out, (r1.below (hdr W9)).mono fun b h => h, (r2.to_ (Fl.alike_drewN _ W9 1)).mono fun b h => h, r3.trans ((hdr W9).mono r3.size)⟩

end Bb
end Go.Proofs.Ytdnkinajbebkoaa

set_option maxRecDepth 100000
namespace Go.Proofs.Ytdnkinajbebkoaa
open Go.RowKit
set_option linter.unusedVariables false
namespace Bb
open Tx Df Sq Hk Tr Pr Rg Fl Pn Tg

section
variable {p x q x1 y1 : Nm} {k o : List Nm}
theorem und_cons {a : Nm} (h : undN p (a :: k) = some (o, x)) : ∃ z o', passN p a = some z ∧ undN z.2 k = some (o', x) ∧ o = z.1 :: o' := by
  unfold undN at h
  cases ha : passN p a with
  | none => rw [ha] at h; cases h
  | some z =>
    rw [ha] at h
    have h : (undN z.2 k).map (fun y => (z.1 :: y.1, y.2)) = some (o, x) := h
    cases hk : undN z.2 k with
    | none => rw [hk] at h; cases h
    | some t =>
      rw [hk] at h
      injection h with h
      injection h with h1 h2
      subst h1 h2
      exact ⟨z, t.1, rfl, hk, rfl⟩
theorem und_put {a : Nm} {z : Nm × Nm} (ha : passN p a = some z) : undN p (a :: k) = (undN z.2 k).map fun y => (z.1 :: y.1, y.2) := by
  rw [undN, ha]; rfl
theorem und_snoc : ∀ {k : List Nm} {p : Nm} {o : List Nm}, undN p k = some (o, x) → passN x q = some (x1, y1) → undN p (k ++ [q]) = some (o ++ [x1], y1)
  | [], p, o, h, hp => by
    injection h with h
    injection h with h1 h2
    subst h1 h2
    show undN p [q] = _
    rw [und_put hp]
    rfl
  | a :: k, p, o, h, hp => by
    obtain ⟨z, o', ha, hk, rfl⟩ := und_cons h
    rw [List.cons_append, und_put ha, und_snoc hk hp]
    rfl
theorem und_snoc_none : ∀ {k : List Nm} {p : Nm} {o : List Nm}, undN p k = some (o, x) → passN x q = none → ∀ t, undN p (k ++ q :: t) = none
  | [], p, o, h, hp, t => by
    injection h with h
    injection h with h1 h2
    subst h1 h2
    show undN p (q :: t) = _
    rw [undN, hp]
    rfl
  | a :: k, p, o, h, hp, t => by
    obtain ⟨z, o', ha, hk, rfl⟩ := und_cons h
    rw [List.cons_append, und_put ha, und_snoc_none hk hp t]
    rfl
end
theorem drop_rev {l : List Nm} {i : Nat} {q : Nm} (h : l[i]? = some q) : (l.drop i).reverse = (l.drop (i + 1)).reverse ++ [q] := by
  have hi := (List.getElem?_eq_some_iff.1 h).1
  rw [List.drop_eq_getElem_cons hi, List.reverse_cons, (List.getElem?_eq_some_iff.1 h).2]
theorem rev_split {l : List Nm} {i : Nat} {q : Nm} (h : l[i]? = some q) : ∃ t, l.reverse = (l.drop (i + 1)).reverse ++ q :: t := by
  have hi := (List.getElem?_eq_some_iff.1 h).1
  refine ⟨(l.take i).reverse, ?_⟩
  have : l = l.take i ++ q :: l.drop (i + 1) := by
    rw [← (List.getElem?_eq_some_iff.1 h).2, ← List.drop_eq_getElem_cons hi, List.take_append_drop]
  rw (config := { occs := .pos [1] }) [this]
  simp

/-- What there was, and the blocks that the walk keeps for itself: the patch's box, the row, the row's box. -/
def UvR (w : World) (F g : Nat) : Nat → Prop := fun b => b < w.heap.size ∨ b = F ∨ b = g ∨ b = g + 1
structure UvI (w : World) (F g n : Nat) (l : List Nm) (p : Nm) (dn m j : Nat) (x : Nm) (post : List Nm) (D : Option Addr) (dc : Nat) (E : Option Addr) (k : Nat) (W : World) : Prop where
  pos : w.heap.size ≤ F ∧ F < g
  eq : undN p (l.drop j).reverse = some (post.reverse, x)
  pl : j + post.length = n
  lx : Tg.Lit x
  row : Tg.OwnT W (But W (UvR w F g)) w.heap.size (.slice (some ⟨g, 0, none⟩) n n) (List.replicate j noN ++ post)
  ng : NG W (But W (UvR w F g)) D dn dc E m k x
  bf : Blk W F 45 (Tg.nmC x D dn dc E m k)
  bb : Blk W (g + 1) 22 #[.slice (some ⟨g, 0, none⟩) n n]
  fr : Below w.heap.size w W
def UvJ (w : World) (F g n : Nat) (l : List Nm) (p : Nm) (dn m : Nat) (pre : List Nat) (W : World) : Prop := ∃ x post D dc E k, UvI w F g n l p dn m (n - pre.length) x post D dc E k W
/-- What holds when the patch can't pass: two boxes have noughts. -/
def UvX (R : Nat → Prop) (K z : Nat) (w we : World) (v u : Value) (gl s : List Nm) (p : Nm) (c : Code) (_ : List Nat) (W : World) : Prop :=
  c = .ret ∧ undN p gl.reverse = none ∧ Blk W (z + 1) 45 noC ∧ Blk W (z + 1 + 1) 4 #[.bool false] ∧ Rows3 R w W v u gl s ∧ Blk W K 58 #[v] ∧ Mine (fun b => b = K) we W
section
variable {w we W : World} {F g n B K z : Nat} {l gl s : List Nm} {p : Nm} {dn m : Nat} {R : Nat → Prop} {v u : Value}
theorem uvJ_ab (hB : w.heap.size ≤ B) : Ab Plain B (UvJ w F g n l p dn m) := fun s W W' row hs hg hr => by
  obtain ⟨x, post, D, dc, E, k, h⟩ := hs
  have bl : ∀ {b : Nat} {t : TypeId} {cs : Array Value}, Blk W b t cs → Blk W' b t cs := fun h => ab_blk (β := Unit) (B := B) (fun _ => _) () W W' row h hg hr
  exact ⟨x, post, D, dc, E, k, h.pos, h.eq, h.pl, h.lx, (h.row.plain hg (fun r e => (hr r e).2)).mono (but_up hg.size), (h.ng.kc (keepC_plain hg (fun r e => (hr r e).2))).mono (but_up hg.size), bl h.bf, bl h.bb, h.fr.grown hg h.fr.size (fun r e => Nat.le_trans hB (hr r e).1)⟩
theorem uvX_ab (hB : w.heap.size ≤ B) (hE : we.heap.size ≤ B) (c : Code) : Ab Plain B (UvX R K z w we v u gl s p c) := fun _ W W' row hs hg hr => by
  obtain ⟨h1, h2, h3, h4, h5, h6, h7⟩ := hs
  have bl : ∀ {b : Nat} {t : TypeId} {cs : Array Value}, Blk W b t cs → Blk W' b t cs := fun h => ab_blk (β := Unit) (B := B) (fun _ => _) () W W' row h hg hr
  exact ⟨h1, h2, bl h3, bl h4, h5.plain hg (fun r e => (hr r e).2) (fun r e => Nat.le_trans hB (hr r e).1), bl h6, h7.trans (mine_grown (R := fun b => B ≤ b) hg (fun k e => (hr k e).1)) (fun b hb => .inr (Nat.le_trans hE hb))⟩
end
theorem UvI.mv {w W W' : World} {F g n : Nat} {l : List Nm} {p : Nm} {dn m j : Nat} {x : Nm} {post : List Nm} {D : Option Addr} {dc : Nat} {E : Option Addr} {k : Nat} (h : UvI w F g n l p dn m j x post D dc E k W) (hb : Below W.heap.size W W') : UvI w F g n l p dn m j x post D dc E k W' :=
  ⟨h.pos, h.eq, h.pl, h.lx, (h.row.below hb).mono (but_up hb.size), (h.ng.to_ (fun b _ hl => hb.block b hl)).mono (but_up hb.size), h.bf.below hb h.bf.lt, h.bb.below hb h.bb.lt, below_mv h.fr hb⟩

/-- A round in which both pass: first the one that is kept is stored, then the patch. -/
theorem uv_step {w X w2 w4 : World} {F g n i : Nat} {l : List Nm} {p x q x1 y1 : Nm} {dn m : Nat} {post : List Nm} {D : Option Addr} {dc : Nat} {E : Option Addr} {k : Nat} {D1 E1 D2 E2 : Option Addr} {d1 c1 m1 k1 c2 k2 : Nat}
    (hI : UvI w F g n l p dn m (i + 1) x post D dc E k X) (hb2 : Below X.heap.size X w2) (hb4 : Below w2.heap.size w2 w4) (n1 : NG w2 (Since X w2) D1 d1 c1 E1 m1 k1 x1) (n2 : NG w2 (Since X w2) D2 dn c2 E2 m k2 y1) (hx : l[i]? = some q) (hq : Tg.Lit q) (hs : passN x q = some (x1, y1)) :
    let w6 := ((((w4.setCell ⟨g, i * 5, none⟩ (.int .i64 x1.id.1)).setCell ⟨g, i * 5 + 1, none⟩ (.int .i64 x1.id.2)).setCell ⟨g, i * 5 + 2, none⟩ (.slice D1 d1 c1)).setCell ⟨g, i * 5 + 3, none⟩ (strV x1.txt)).setCell ⟨g, i * 5 + 4, none⟩ (.slice E1 m1 k1)
    let w9 := ((((w6.setCell ⟨F, 0, none⟩ (.int .i64 y1.id.1)).setCell ⟨F, 1, none⟩ (.int .i64 y1.id.2)).setCell ⟨F, 2, none⟩ (.slice D2 dn c2)).setCell ⟨F, 3, none⟩ (strV y1.txt)).setCell ⟨F, 4, none⟩ (.slice E2 m k2)
    UvI w F g n l p dn m i y1 (x1 :: post) D2 c2 E2 k2 w9 ∧ (∀ B, KeepsFrom B X w9) ∧ (∀ Bs v, Bs ≠ F → Bs ≠ g → Boxed X Bs 22 v → Boxed w9 Bs 22 v) ∧ Blk w6 F 45 (Tg.nmC x D dn dc E m k) := by
  intro w6 w9
  obtain ⟨hF, hFg⟩ := hI.pos
  have hb : Below X.heap.size X w4 := hb2.trans (hb4.mono hb2.size)
  have hX : g + 1 < X.heap.size := hI.bb.lt
  have hs4 : w4.heap.size = w6.heap.size := by simp [w6]
  have hs6 : w6.heap.size = w9.heap.size := by simp [w9]
  have h2 : w2.heap.size ≤ w4.heap.size := hb4.size
  have hS : ∀ b, Since X w2 b → But w4 (UvR w F g) b := fun b h => ⟨by have := h.2; omega, fun e => by have := h.1; have := hI.fr.size; rcases e with e | e | e | e <;> omega⟩
  have ne1 : ∀ b, But w4 (UvR w F g) b → b ≠ g := fun b h e => h.2 (.inr (.inr (.inl e)))
  have ne2 : ∀ b, But w4 (UvR w F g) b → b ≠ F := fun b h e => h.2 (.inr (.inl e))
  have al1 := alike_row5 w4 g i (.int .i64 x1.id.1) (.int .i64 x1.id.2) (.slice D1 d1 c1) (strV x1.txt) (.slice E1 m1 k1)
  have al2 := alike_set5 w6 F (.int .i64 y1.id.1) (.int .i64 y1.id.2) (.slice D2 dn c2) (strV y1.txt) (.slice E2 m k2)
  have up : ∀ b, But w4 (UvR w F g) b → But w9 (UvR w F g) b := but_up (Nat.le_of_eq (hs4.trans hs6))
  have hl3 := hI.bf.lt
  have r4 := (hI.row.below hb).mono (but_up hb.size)
  have m4 := (n1.to_ (fun b h hl => hb4.block b hl)).mono hS
  have n4 := (n2.to_ (fun b h hl => hb4.block b hl)).mono hS
  have hlen : (List.replicate (i + 1) noN ++ post).length = n := by rw [List.length_append, List.length_replicate]; exact hI.pl
  have r6 := r4.store (k := i) hlen (fun h => ne1 g h rfl) m4
  rw [rep_set] at r6
  have b6 := blk_row5 (hI.bf.below hb hl3) (show F ≠ g by omega) i (.int .i64 x1.id.1) (.int .i64 x1.id.2) (.slice D1 d1 c1) (strV x1.txt) (.slice E1 m1 k1)
  refine ⟨⟨⟨hF, hFg⟩, ?_, ?_, ?_, ?_, ?_, ?_, ?_, ?_⟩, fun B => ?_, fun Bs v h1 h2 hv => ?_, b6⟩
  · rw [drop_rev hx, List.reverse_cons]
    exact und_snoc hI.eq hs
  · have := hI.pl
    rw [List.length_cons]; omega
  · exact (pass_lit hs hI.lx hq).2
  · exact (r6.set5 (b := F) (fun e => by injection e with e; have e : F = g := e; omega) (fun h => ne2 F h rfl) _ _ _ _ _).mono up
  · exact ((n4.to_ (al1.mono ne1)).to_ (al2.mono ne2)).mono up
  · exact Tg.blk5 b6 _ _ _ _ _
  · exact blk_set5 (blk_row5 (hI.bb.below hb hX) (by omega) i _ _ _ _ _) (by omega) _ _ _ _ _
  · exact below_set5 (below_row5 (below_mv hI.fr hb) (by omega) i _ _ _ _ _) (by omega) _ _ _ _ _
  · exact ((keepsFrom_below B hb).trans (keeps_row5 w4 B g i _ _ _ _ _)).trans (keeps_set5 w6 B F _ _ _ _ _)
  · exact blk_set5 (blk_row5 (Blk.below (show Blk X Bs 22 #[v] from hv) hb hv.lt) h2 i _ _ _ _ _) h1 _ _ _ _ _

/-- The memory in which the range begins. -/
theorem uv_start {w u1 : World} {n dn m c k : Nat} {A D E : Option Addr} {l : List Nm} {p : Nm} (hng : NG u1 (Since w u1) D dn c E m k p) (hb : Below w.heap.size w u1) (hls : RdN w w.heap.size A l) (hl : l.length = n) (hn : n ≤ 1000) (hlp : Tg.Lit p) (c' : Nat) :
    let wc := u1.alloc (.cells (Tg.nmC p D dn c E m k) 45)
    let w5 := ((wc.alloc (.cells (madeCells noC (n * 5)) 45)).alloc (.cells #[.slice (some ⟨u1.heap.size + 1, 0, none⟩) n n] 22)).alloc (.cells #[.slice A n c'] 22)
    UvJ w u1.heap.size (u1.heap.size + 1) n l p dn m [] w5 ∧ Boxed w5 (u1.heap.size + 1 + 1 + 1) 22 (.slice A n c') ∧ w5.heap.size = u1.heap.size + 4 ∧ Cells5 w5 A n := by
  intro wc w5
  have hsc : wc.heap.size = u1.heap.size + 1 := by simp [wc]
  have hbc : Below u1.heap.size u1 wc := (Below.refl _ _).alloc (Nat.le_refl _) _
  have h5 : Below wc.heap.size wc w5 := (((Below.refl _ _).alloc (Nat.le_refl _) _).alloc (by simp) _).alloc (by simp; omega) _
  have hsz : w5.heap.size = u1.heap.size + 4 := by simp [w5, hsc]
  have hall : Below w.heap.size w w5 := below_mv (below_mv hb hbc) h5
  have hbb := (Blk.new (wc.alloc (.cells (madeCells noC (n * 5)) 45)) 22 #[.slice (some ⟨u1.heap.size + 1, 0, none⟩) n n]).alloc (.cells #[.slice A n c'] 22)
  have hbx := Boxed.new ((wc.alloc (.cells (madeCells noC (n * 5)) 45)).alloc (.cells #[.slice (some ⟨u1.heap.size + 1, 0, none⟩) n n] 22)) 22 (.slice A n c')
  simp only [World.size_alloc, hsc] at hbb hbx
  have hmd := ownT_made wc n (But w5 (UvR w u1.heap.size (u1.heap.size + 1))) hn
  rw [hsc] at hmd
  have hm2 : Below (wc.alloc (.cells (madeCells noC (n * 5)) 45)).heap.size (wc.alloc (.cells (madeCells noC (n * 5)) 45)) w5 := ((Below.refl _ _).alloc (Nat.le_refl _) _).alloc (by simp) _
  have hbf : Blk w5 u1.heap.size 45 (Tg.nmC p D dn c E m k) := (Blk.new u1 45 (Tg.nmC p D dn c E m k)).below h5 (by rw [hsc]; omega)
  refine ⟨⟨p, [], D, c, E, k, ⟨hb.size, by omega⟩, ?_, by simp, hlp, ?_, ?_, hbf, hbb, hall⟩, hbx, hsz, cells5_rd (RdN.below hls hall) hl⟩
  · rw [List.length_nil, Nat.sub_zero, List.drop_of_length_le (by rw [hl]; exact Nat.le_refl _)]; rfl
  · rw [List.length_nil, Nat.sub_zero, List.append_nil]
    obtain ⟨xs, x1, x2⟩ := hmd.below hm2
    exact ⟨xs, own_mono x1 (Nat.le_trans hb.size (Nat.le_succ _)), x2⟩
  · refine ((hng.to_ (fun b _ hl => hbc.block b hl)).to_ ((alike_below h5).mono fun b h => by have := h.2; omega)).mono fun b h => ⟨by have := h.2; omega, fun e => ?_⟩
    have h1 := h.1; have h2 := h.2
    rcases e with e | e | e | e <;> omega

/-- The patch can't pass: two boxes get noughts. -/
theorem uv_no {w we w1 X w2 : World} {T : Nat → Prop} {K z : Nat} {v u : Value} {gl s : List Nm} {p : Nm} {pre : List Nat} {B : Nat} (hR : Rows3 T w w1 v u gl s) (hK : Blk w1 K 58 #[v]) (hKz : K < z) (h1 : T (z + 1)) (h2 : T (z + 1 + 1)) (hz : we.heap.size = z) (hbe : Below we.heap.size we w1) (r0 : Blk w1 (z + 1) 45 noC) (r1 : Blk w1 (z + 1 + 1) 4 #[.bool false])
    (hb1 : Below w1.heap.size w1 X) (hb2 : Below X.heap.size X w2) (hn : undN p gl.reverse = none) (o o' : Obj) :
    KeepsFrom B X (((((((((w2.setCell ⟨z + 1, 0, none⟩ (.int .i64 0)).setCell ⟨z + 1, 1, none⟩ (.int .i64 0)).setCell ⟨z + 1, 2, none⟩ (.slice none 0 0)).setCell ⟨z + 1, 3, none⟩ (.string ⟨#[]⟩)).setCell ⟨z + 1, 4, none⟩ (.slice none 0 0)).setCell ⟨z + 1 + 1, 0, none⟩ (.bool false)).alloc o).alloc o')) ∧
    UvX T K z w we v u gl s p .ret pre (((((((((w2.setCell ⟨z + 1, 0, none⟩ (.int .i64 0)).setCell ⟨z + 1, 1, none⟩ (.int .i64 0)).setCell ⟨z + 1, 2, none⟩ (.slice none 0 0)).setCell ⟨z + 1, 3, none⟩ (.string ⟨#[]⟩)).setCell ⟨z + 1, 4, none⟩ (.slice none 0 0)).setCell ⟨z + 1 + 1, 0, none⟩ (.bool false)).alloc o).alloc o')) := by
  have hb := below_mv hb1 hb2
  have hr := ((hR.below hb).set5 h1 (.int .i64 0) (.int .i64 0) (.slice none 0 0) (.string ⟨#[]⟩) (.slice none 0 0)).set h2 0 (.bool false)
  have hk := (blk_set5 (hK.below hb hK.lt) (g := z + 1) (by omega) (.int .i64 0) (.int .i64 0) (.slice none 0 0) (.string ⟨#[]⟩) (.slice none 0 0)).set_ne (b' := z + 1 + 1) (by omega) 0 (.bool false)
  have h0 := (Tg.blk5 (r0.below hb r0.lt) (.int .i64 0) (.int .i64 0) (.slice none 0 0) (.string ⟨#[]⟩) (.slice none 0 0)).set_ne (b' := z + 1 + 1) (by omega) 0 (.bool false)
  have h4 := (blk_set5 (r1.below hb r1.lt) (g := z + 1) (by omega) (.int .i64 0) (.int .i64 0) (.slice none 0 0) (.string ⟨#[]⟩) (.slice none 0 0)).set 0 (.bool false)
  have hm := ((mine_below (below_mv hbe hb) : Mine (fun b => b = K) we w2).set5 (b := z + 1) (.inr (by omega)) (.int .i64 0) (.int .i64 0) (.slice none 0 0) (.string ⟨#[]⟩) (.slice none 0 0)).setn (b := z + 1 + 1) (.inr (by omega)) 0 (.bool false)
  have hk1 : KeepsFrom B X ((((((w2.setCell ⟨z + 1, 0, none⟩ (.int .i64 0)).setCell ⟨z + 1, 1, none⟩ (.int .i64 0)).setCell ⟨z + 1, 2, none⟩ (.slice none 0 0)).setCell ⟨z + 1, 3, none⟩ (.string ⟨#[]⟩)).setCell ⟨z + 1, 4, none⟩ (.slice none 0 0)).setCell ⟨z + 1 + 1, 0, none⟩ (.bool false)) := ((keepsFrom_below B hb2).trans (keeps_set5 w2 B (z + 1) _ _ _ _ _)).trans ((KeepsOthers.setCell _ _ _).from B)
  generalize ((((((w2.setCell ⟨z + 1, 0, none⟩ (.int .i64 0)).setCell ⟨z + 1, 1, none⟩ (.int .i64 0)).setCell ⟨z + 1, 2, none⟩ (.slice none 0 0)).setCell ⟨z + 1, 3, none⟩ (.string ⟨#[]⟩)).setCell ⟨z + 1, 4, none⟩ (.slice none 0 0)).setCell ⟨z + 1 + 1, 0, none⟩ (.bool false)) = w3 at *
  have h5 : Below w3.heap.size w3 ((w3.alloc o).alloc o') := two_box w3 o o'
  exact ⟨(hk1.trans ((KeepsOthers.alloc _ o).from B)).trans ((KeepsOthers.alloc _ o').from B), rfl, hn, (h0.alloc o).alloc o', (h4.alloc o).alloc o', hr.below h5, (hk.alloc o).alloc o', hm.trans (mine_below (R := fun _ => False) h5) (fun b e => e.elim)⟩

/-- The patch has passed all. -/
theorem uv_done {w we w1 W : World} {T : Nat → Prop} {K z F g n dn m E : Nat} {v u : Value} {gl s post : List Nm} {p x : Nm} {D : Option Addr} {dc : Nat} {Ad : Option Addr} {k : Nat} (hI : UvI w1 F g n gl p dn m 0 x post D dc Ad k W) (hR : Rows3 T w w1 v u gl s) (hK : Blk w1 K 58 #[v]) (hKz : K < z) (h0 : T K) (h1 : T (z + 1)) (h2 : T (z + 1 + 1)) (hz : we.heap.size = z) (hz1 : w1.heap.size = z + 3) (hbe : Below we.heap.size we w1) (r0 : Blk w1 (z + 1) 45 noC) (r1 : Blk w1 (z + 1 + 1) 4 #[.bool false])
    (hE : w1.heap.size ≤ E) (hKE : W.heap[E]? = some (.deferred (some []))) :
    let W9 := ((((((W.setCell ⟨K, 0, none⟩ (.slice (some ⟨g, 0, none⟩) n n)).setCell ⟨z + 1, 0, none⟩ (.int .i64 x.id.1)).setCell ⟨z + 1, 1, none⟩ (.int .i64 x.id.2)).setCell ⟨z + 1, 2, none⟩ (.slice D dn dc)).setCell ⟨z + 1, 3, none⟩ (strV x.txt)).setCell ⟨z + 1, 4, none⟩ (.slice Ad m k)).setCell ⟨z + 1 + 1, 0, none⟩ (.bool true)
    W9.heap[E]? = some (.deferred (some [])) ∧ Blk (W9.putObj E (.deferred none)) (z + 1) 45 (Tg.nmC x D dn dc Ad m k) ∧ Blk (W9.putObj E (.deferred none)) (z + 1 + 1) 4 #[.bool true] ∧ NG (W9.putObj E (.deferred none)) (PR T (W9.putObj E (.deferred none)) (.slice (some ⟨g, 0, none⟩) n n) u) D dn dc Ad m k x ∧
      Rows3 T w (W9.putObj E (.deferred none)) (.slice (some ⟨g, 0, none⟩) n n) u post s ∧ Blk (W9.putObj E (.deferred none)) K 58 #[.slice (some ⟨g, 0, none⟩) n n] ∧ Mine (fun b => b = K) we (W9.putObj E (.deferred none)) := by
  intro W9
  obtain ⟨hF, hFg⟩ := hI.pos
  have hrow := hI.row
  rw [List.replicate_zero, List.nil_append] at hrow
  have hx : Tg.OwnT W (fun b => Since w1 W b ∧ some b ≠ (Value.slice (some ⟨g, 0, none⟩) n n).ownBlock) w1.heap.size (.slice (some ⟨g, 0, none⟩) n n) post := hrow.mono fun b hb => ⟨⟨Nat.le_of_not_lt fun e => hb.2 (.inl e), hb.1⟩, fun e => hb.2 (.inr (.inr (.inl (by injection e))))⟩
  have hr : Rows3 T w W9 (.slice (some ⟨g, 0, none⟩) n n) u post s := (((hR.over hx hI.fr).set h0 0 (.slice (some ⟨g, 0, none⟩) n n)).set5 h1 (.int .i64 x.id.1) (.int .i64 x.id.2) (.slice D dn dc) (strV x.txt) (.slice Ad m k)).set h2 0 (.bool true)
  have hk : Blk W9 K 58 #[.slice (some ⟨g, 0, none⟩) n n] := (blk_set5 ((hK.below hI.fr hK.lt).set 0 (.slice (some ⟨g, 0, none⟩) n n)) (g := z + 1) (by omega) (.int .i64 x.id.1) (.int .i64 x.id.2) (.slice D dn dc) (strV x.txt) (.slice Ad m k)).set_ne (b' := z + 1 + 1) (by omega) 0 (.bool true)
  have b0 : Blk W9 (z + 1) 45 (Tg.nmC x D dn dc Ad m k) := (Tg.blk5 ((r0.below hI.fr r0.lt).set_ne (b' := K) (by omega) 0 (.slice (some ⟨g, 0, none⟩) n n)) (.int .i64 x.id.1) (.int .i64 x.id.2) (.slice D dn dc) (strV x.txt) (.slice Ad m k)).set_ne (b' := z + 1 + 1) (by omega) 0 (.bool true)
  have b1 : Blk W9 (z + 1 + 1) 4 #[.bool true] := (blk_set5 ((r1.below hI.fr r1.lt).set_ne (b' := K) (by omega) 0 (.slice (some ⟨g, 0, none⟩) n n)) (g := z + 1) (by omega) (.int .i64 x.id.1) (.int .i64 x.id.2) (.slice D dn dc) (strV x.txt) (.slice Ad m k)).set 0 (.bool true)
  have hm : Mine (fun b => b = K) we W9 := (((mine_below (below_mv hbe hI.fr) : Mine (fun b => b = K) we W).setn (b := K) (.inl rfl) 0 (.slice (some ⟨g, 0, none⟩) n n)).set5 (b := z + 1) (.inr (by omega)) (.int .i64 x.id.1) (.int .i64 x.id.2) (.slice D dn dc) (strV x.txt) (.slice Ad m k)).setn (b := z + 1 + 1) (.inr (by omega)) 0 (.bool true)
  have ge : ∀ b, But W (UvR w1 F g) b → w1.heap.size ≤ b := fun b hb => Nat.le_of_not_lt fun e => hb.2 (.inl e)
  have hng : NG W9 (But W (UvR w1 F g)) D dn dc Ad m k x := ((hI.ng.to_ ((alike_set W K 0 (.slice (some ⟨g, 0, none⟩) n n)).mono fun b hb e => by have := ge b hb; omega)).to_ ((alike_set5 _ (z + 1) (.int .i64 x.id.1) (.int .i64 x.id.2) (.slice D dn dc) (strV x.txt) (.slice Ad m k)).mono fun b hb e => by have := ge b hb; omega)).to_ ((alike_set _ (z + 1 + 1) 0 (.bool true)).mono fun b hb e => by have := ge b hb; omega)
  have k9 : W9.heap[E]? = some (.deferred (some [])) := ((((KeepsOthers.setCell W _ _).from E).trans (keeps_set5 _ E (z + 1) _ _ _ _ _)).trans ((KeepsOthers.setCell _ _ _).from E)).same E _ (Nat.le_refl _) hKE rfl
  have hs : W.heap.size = W9.heap.size := by simp [W9]
  clear_value W9
  have hp := grownBy_putObj' W9 E (.deferred none)
  have hpr : ∀ r, some E = some r → ∃ o : Obj, W9.heap[r]? = some o ∧ o.isCells = false := fun r e => by injection e with e; subst e; exact ⟨_, k9, rfl⟩
  have bp : ∀ {b : Nat} {t : TypeId} {cs : Array Value}, Blk W9 b t cs → Blk (W9.putObj E (.deferred none)) b t cs := fun {b t cs} h => h.gr hp (fun e => by
    injection e with e
    subst e
    rw [show W9.heap[b]? = _ from h] at k9
    cases k9)
  have hsz : W.heap.size = (W9.putObj E (.deferred none)).heap.size := by rw [hs]; simp
  have hr9 := hr.plain hp hpr (fun r e => by injection e with e; have := hR.bw.size; omega)
  refine ⟨k9, bp b0, bp b1, ((hng.kc (keepC_plain hp hpr)).mono fun b hb => ?_), hr9, bp hk, hm.trans (mine_grown (R := fun b => b = E) hp (fun j e => by injection e with e; exact e.symm)) (fun b e => .inr (by have := hbe.size; omega))⟩
  have h3 := ge b hb
  refine ⟨by have := hb.1; omega, fun e => ?_, fun e => hb.2 (.inr (.inr (.inl (by injection e)))), fun e => ?_⟩
  · have := (hR.rl b e).2; omega
  · have := Tg.ownT_lt hR.b b e.symm; omega

end Bb
end Go.Proofs.Ytdnkinajbebkoaa

set_option maxRecDepth 100000
namespace Go.Proofs.Ytdnkinajbebkoaa
open Go.RowKit Go.Shelf
set_option linter.unusedVariables false
namespace Bb
open Tx Rg Fl Pn Tg
attribute [local go_sem] Oper.semAt_some

theorem allN_in (n : Nat) (A : Option Addr) (l c : Nat) (w : World) :
    CallsIn Fence.wide n Try.prog 29 #[.slice A l c] w fun e w' => e = .returned (.func (.func 52) #[] #[.pointer (some ⟨w.heap.size, 0, none⟩)]) ∧ w' = w.alloc (.cells #[.slice A l c] 22) := by
  refine callsIn_of_wp Try.func29 rfl trivial ?_ rfl
  simp only [Try.ntmps29, List.size_toArray, List.length_cons, List.length_nil, Nat.reduceAdd, Nat.reduceSub, Array.replicate_succ, Array.replicate_zero, List.push_toArray, List.append_toArray, List.nil_append, List.cons_append]
  gi_wp2
  go_ret
  exact ⟨rfl, rfl⟩
/-- The cells of m patches, in their forms. -/
def CellsN (W : World) (A : Option Addr) (m : Nat) : Prop := ∀ i, i < m → ∃ a x y D dn dc t E n c, A = some a ∧ W.cell? (a.add (i * 5)) = some (.int .i64 x) ∧ W.cell? ⟨(a.add (i * 5)).block, (a.add (i * 5)).off + 1, none⟩ = some (.int .i64 y) ∧ W.cell? ⟨(a.add (i * 5)).block, (a.add (i * 5)).off + 2, none⟩ = some (.slice D dn dc) ∧
  W.cell? ⟨(a.add (i * 5)).block, (a.add (i * 5)).off + 3, none⟩ = some (strV t) ∧ W.cell? ⟨(a.add (i * 5)).block, (a.add (i * 5)).off + 4, none⟩ = some (.slice E n c)
/-- What a round must keep: the box in which the slice lies, and the cells of its row. -/
def KpA (Bs : Nat) (A : Option Addr) (W W' : World) : Prop := (∀ v, Boxed W Bs 22 v → Boxed W' Bs 22 v) ∧ (∀ a, A = some a → ∀ (p : Addr) u, p.block = a.block → W.cell? p = some u → W'.cell? p = some u)
section
variable {Bs m : Nat} {A : Option Addr} {W W' : World}
theorem CellsN.kp (h : CellsN W A m) (hk : ∀ a, A = some a → ∀ (p : Addr) u, p.block = a.block → W.cell? p = some u → W'.cell? p = some u) : CellsN W' A m := fun i hi => by
  obtain ⟨a, x, y, D, dn, dc, t, E, n, c, rfl, c0, c1, c2, c3, c4⟩ := h i hi
  exact ⟨a, x, y, D, dn, dc, t, E, n, c, rfl, hk a rfl _ _ (add_block _ _) c0, hk a rfl _ _ (add_block _ _) c1, hk a rfl _ _ (add_block _ _) c2, hk a rfl _ _ (add_block _ _) c3, hk a rfl _ _ (add_block _ _) c4⟩
theorem CellsN.cells5 (h : CellsN W A m) : Cells5 W A m := fun i hi => by
  obtain ⟨a, x, y, D, dn, dc, t, E, n, c, rfl, c0, c1, c2, c3, c4⟩ := h i hi
  exact ⟨a, _, _, _, _, _, rfl, c0, c1, c2, c3, c4⟩
theorem cellsN_rd {B : Nat} {l : List Nm} (h : RdN W B A l) (hm : l.length = m) : CellsN W A m := fun i hi => by
  obtain ⟨a, x, D, dn, dc, E, n, c, e, _, _, c0, c1, c2, c3, c4, _⟩ := h.elem (k := i) (by omega)
  exact ⟨a, _, _, _, _, _, _, _, _, _, e, c0, c1, c2, c3, c4⟩
theorem kpA_gr {row : Option Nat} (hg : W.grownBy W' row) (hr : ∀ r, row = some r → ∃ o : Obj, W.heap[r]? = some o ∧ o.isCells = false) : KpA Bs A W W' :=
  ⟨fun v hv => hv.kept hg (fun e => by obtain ⟨o, ho, hf⟩ := hr Bs e.symm; rw [show W.heap[Bs]? = _ from hv] at ho; cases ho; cases hf), fun a _ p u _ hu => (keepC_plain (S := fun _ => True) hg hr).cell trivial hu⟩
theorem kpA_t {W W1 W2 : World} (h : KpA Bs A W W1) (k : KpA Bs A W1 W2) : KpA Bs A W W2 := ⟨fun v hv => k.1 v (h.1 v hv), fun a e p u hp hu => k.2 a e p u hp (h.2 a e p u hp hu)⟩
theorem kpA_b {l : Nat} (W : World) (o o' : Obj) (h : W.heap[l]? = some o) (ho : o.isCells = false) : KpA Bs A W (W.putObj l o') := kpA_gr (grownBy_putObj' W l o') (fun r e => by cases e; exact ⟨o, h, ho⟩)
theorem kpA_new (hg : W.grownBy W' none) : KpA Bs A W W' := kpA_gr hg (fun r e => by cases e)
theorem kpA_below (hb : Below W.heap.size W W') : KpA Bs A W W' := kpA_gr (row := none) ⟨hb.os, hb.tape, hb.output, hb.size, fun k hk _ => hb.block k hk⟩ (fun r e => by cases e)
theorem KpA.kpN (h : KpA Bs A W W') : KpN Bs A m W W' := ⟨h.1, fun hc i hi => by
  obtain ⟨a, v0, v1, v2, v3, v4, rfl, c0, c1, c2, c3, c4⟩ := hc i hi
  exact ⟨a, v0, v1, v2, v3, v4, rfl, h.2 a rfl _ _ (add_block _ _) c0, h.2 a rfl _ _ (add_block _ _) c1, h.2 a rfl _ _ (add_block _ _) c2, h.2 a rfl _ _ (add_block _ _) c3, h.2 a rfl _ _ (add_block _ _) c4⟩⟩
end
theorem gives_kp {α : Type} {P : Program} {Free : Obj → Prop} {n g : Nat} {lb : Array Value} {E : α → Array Value → World → Prop} {full : List α} {Kp Kp' : World → World → Prop} {w : World} (h : GivesE P Free n g lb E full Kp w) (hk : ∀ W W', Kp' W W' → Kp W W') : GivesE P Free n g lb E full Kp' w := fun J Jx W h1 h2 h3 h4 h5 h6 =>
  h J Jx W h1 h2 h3 h4 (fun pre x post vals W1 a b c => by
    obtain ⟨fn, tmps, assign, body, hy, hR⟩ := h5 pre x post vals W1 a b c
    exact ⟨fn, tmps, assign, body, hy, hR.mono fun e w' h => h.imp (fun h => ⟨h.1, h.2.1, hk _ _ h.2.2⟩) id⟩) h6
theorem up_succ {m k : Nat} (h : k < m) : List.range' k (m - k) = k :: List.range' (k + 1) (m - (k + 1)) := by
  rw [show m - k = (m - (k + 1)) + 1 by omega, List.range'_succ]

set_option maxRecDepth 100000 in
set_option maxHeartbeats 2000000 in
theorem allN1_in (n l Bs cap m : Nat) (A : Option Addr) (hle : m ≤ 1000000) (J Jx : List Nat → World → Prop) (hJ : ∀ pre (W : World) (o : Obj), J pre W → J pre (W.alloc o))
    (hY : ∀ pre x post vals W1, List.range' 0 m = pre ++ x :: post → J pre W1 → EN m A x vals W1 → YieldAt Fence.wide (n - 1) Try.prog l vals W1 fun e W' =>
      (e = .returned (.bool true) ∧ J (pre ++ [x]) W' ∧ KpA Bs A W1 W') ∨ (e = .returned (.bool false) ∧ Jx (pre ++ [x]) W'))
    (W : World) (hBs : Boxed W Bs 22 (.slice A m cap)) (hR : CellsN W A m) (h0 : J [] W) :
    CallsIn Fence.wide n Try.prog 52 #[.func (.yield l) #[] #[], .pointer (some ⟨Bs, 0, none⟩)] W fun e W' => (∃ v, e = .returned v) ∧ (J (List.range' 0 m) W' ∨ ∃ pre post, List.range' 0 m = pre ++ post ∧ Jx pre W') := by
  have hc := hBs.cell
  refine callsIn_of_wp Try.func52 rfl trivial ?_ rfl
  simp only [Try.ntmps52, List.size_toArray, List.length_cons, List.length_nil, Nat.reduceAdd, Nat.reduceSub, Array.replicate_succ, Array.replicate_zero, List.push_toArray, List.append_toArray, List.nil_append, List.cons_append]
  gi_wp2
  gi_loopw [7] (fun i wr => ∃ k pre, k ≤ m ∧ i = .int .i64 (k : Int) ∧ List.range' 0 m = pre ++ List.range' k (m - k) ∧ J pre wr ∧ Boxed wr Bs 22 (.slice A m cap) ∧ CellsN wr A m) (fun i _ => m - (intOf i).toNat)
  case atStart => exact ⟨0, [], Nat.zero_le _, rfl, rfl, h0, hBs, hR⟩
  case round =>
    clear hc
    obtain ⟨k, pre, hk, rfl, hb, hJs, hBs', hR'⟩ := hrel
    have HB := Lib.hid hb; clear hb
    have HR := Lib.hid hR'; clear hR'
    have hc := hBs'.cell
    by_cases hlt : k < m
    · have hki : (k : Int) < (m : Int) := by omega
      have HB2 : Hid (List.range' 0 m = pre ++ k :: List.range' (k + 1) (m - (k + 1))) := Lib.hid (by rw [HB.out, up_succ hlt])
      clear HB
      obtain ⟨a, x, y, D, dn, dc, t, E, en, ec, rfl, c0, c1, c2, c3, c4⟩ := HR.out k hlt
      obtain ⟨fn, tmps, assign, body, hy, hRR⟩ := hY pre k _ #[.int .i64 (k : Int), .agg #[.int .i64 x, .int .i64 y, .slice D dn dc, strV t, .slice E en ec]] (wr.alloc (.cells #[.int .i64 x, .int .i64 y, .slice D dn dc, strV t, .slice E en ec] 45)) HB2.out (hJ _ _ _ hJs) (ab_EN.alloc (s := ()) (B := 0) _ ⟨hlt, a, _, _, _, _, _, rfl, rfl, c0, c1, c2, c3, c4⟩)
      gi_wp2
      refine ⟨(fun h => by cases h), ?_⟩
      refine hRR.mono ?_
      rintro e W3 (⟨rfl, hJ3, hk3⟩ | ⟨rfl, hJx3⟩)
      · have hk0 := kpA_new (Bs := Bs) (A := some a) (World.grownBy_alloc wr (.cells #[.int .i64 x, .int .i64 y, .slice D dn dc, strV t, .slice E en ec] 45) none)
        have hB2 := hk3.1 _ (hk0.1 _ hBs')
        have hR2 := (HR.out.kp hk0.2).kp hk3.2
        have hc3 := hB2.cell
        clear c0 c1 c2 c3 c4
        gi_wp2
        go_roundw
        case rel => exact ⟨k + 1, pre ++ [k], by omega, rfl, by rw [HB2.out]; simp, hJ3, hB2, hR2⟩
        case measure => simp [intOf]; omega
      · gi_wp2
        refine bodyPost_ret (results_none rfl _ _ _) rfl ?_
        exact ⟨⟨_, rfl⟩, .inr ⟨pre ++ [k], List.range' (k + 1) (m - (k + 1)), by rw [HB2.out]; simp, hJx3⟩⟩
    · have hki : ¬ (k : Int) < (m : Int) := by omega
      gi_wp2
      go_end0
      exact ⟨⟨_, rfl⟩, .inl (by have := HB.out; rw [show m - k = 0 by omega] at this; rw [this, List.range'_zero, List.append_nil]; exact hJs)⟩

theorem allN_gives (n Bs cap m : Nat) (A : Option Addr) (hle : m ≤ 1000000) (w : World) (hBs : Boxed w Bs 22 (.slice A m cap)) (hR : CellsN w A m) :
    GivesE Try.prog Plain n 52 #[.pointer (some ⟨Bs, 0, none⟩)] (EN m A) (List.range' 0 m) (KpA Bs A) w := fun J Jx W hW hs hA _ hY h0 =>
  allN1_in n _ Bs cap m A hle J Jx (fun pre W o h => hA.alloc o h) (fun pre x post vals W1 h1 h2 h3 => yield_less (hY pre x post vals W1 h1 h2 h3)) W ((hW.block Bs hBs.lt).trans hBs) (hR.kp (kpA_below hW (Bs := Bs)).2) h0

end Bb
end Go.Proofs.Ytdnkinajbebkoaa

set_option maxRecDepth 100000
namespace Go.Proofs.Ytdnkinajbebkoaa
open Go.RowKit
set_option linter.unusedVariables false
set_option linter.unusedSimpArgs false
namespace Bb
open Tx Df Sq Hk Tr Pr Fl Pn Tg
attribute [local go_sem] eq_id

/-- Is an id one of some? -/
def isIn (l : List Id_) (x : Id_) : Bool := decide (x ∈ l)
theorem in_at {l : List Id_} {x : Id_} {k : Nat} (h : l[k]? = some x) : true = isIn l x := (decide_eq_true (List.mem_of_getElem? h)).symm
theorem in_no {l : List Id_} {x : Id_} {n : Nat} (hn : l.length = n) (h : ∀ (j : Nat) (y : Id_), l[j]? = some y → j < n → y ≠ x) : false = isIn l x := (decide_eq_false fun hx => by
  obtain ⟨j, hj, e⟩ := List.mem_iff_getElem.1 hx
  exact h j l[j] (List.getElem?_eq_getElem hj) (by omega) e).symm

set_option maxHeartbeats 2000000 in
theorem refInC (A : Option Addr) (n c : Nat) (l : List Id_) (x : Id_) (w : World) (b : Bool) (hn : l.length = n) (hle : n ≤ 1000000) (hR : RdI w w.heap.size A l) (hb : isIn l x = b) :
    Calls Try.prog 32 #[.slice A n c, .agg #[.int .i64 x.1, .int .i64 x.2]] w (BoolEnd w b) := by
  have HN := Lib.hid hn; have HR := Lib.hid hR; have HB := Lib.hid hb
  clear hn hR hb
  obtain ⟨P1, P2⟩ := x
  dsimp only
  have b0 := Blk.new w 42 #[.int .i64 P1, .int .i64 P2]
  have hba : Below w.heap.size w (w.alloc (.cells #[.int .i64 P1, .int .i64 P2] 42)) := (Below.refl _ _).alloc (Nat.le_refl _) _
  go_enter Try.func32, Try.ntmps32
  go_wp2_with fail
  generalize (w.alloc (.cells #[.int .i64 P1, .int .i64 P2] 42)) = w0 at *
  obtain ⟨z, hz⟩ : ∃ z, w.heap.size = z := ⟨_, rfl⟩
  have HZ := Lib.hid hz
  rw [hz] at b0 ⊢
  have HB0 := Lib.hid b0; have HBA := Lib.hid hba
  clear hz b0 hba
  go_loopw [5] (fun i wr => ∃ k : Nat, k ≤ n ∧ i = .int .i64 (k : Int) ∧ (∀ (j : Nat) (y : Id_), l[j]? = some y → j < k → y ≠ (P1, P2)) ∧ Below w0.heap.size w0 wr) (fun i _ => n - (intOf i).toNat)
  case atStart => exact ⟨0, Nat.zero_le _, rfl, fun j _ _ hj => by omega, Below.refl _ _⟩
  case round =>
    obtain ⟨k, hk, rfl, hall, hbw⟩ := hrel
    have HA := Lib.hid hall; have HBW := Lib.hid hbw; clear hall hbw
    have HBE := Lib.hid (below_mv HBA.out HBW.out)
    by_cases hlt : k < n
    · have hki : (k : Int) < (n : Int) := by omega
      obtain ⟨a, y, rfl, hS, hy, c0, c1⟩ := ((RdI.mv HR.out HBE.out).elem (k := k) (by rw [HN.out]; exact hlt))
      obtain ⟨i1, i2⟩ := y
      have HX := Lib.hid hy
      have bz := HB0.out.below HBW.out HB0.out.lt
      have z0 := bz.cell 0 rfl; have z1 := bz.cell 1 rfl; have hzl := bz.lt
      clear hy hS bz
      dsimp only at c0 c1
      by_cases e1 : i1 = P1
      · by_cases e2 : i2 = P2
        · subst e1 e2
          have HE := Lib.hid ((in_at HX.out).trans HB.out)
          go_wp2
          go_quiet (fail)
          go_wp2
          go_ret
          exact ⟨by have h := HE.out; subst h; rfl, below_drewN HBE.out _⟩
        · subst e1
          have e3 : (i2 == P2) = false := by rw [beq_eq_false_iff_ne]; exact e2
          go_wp2
          go_quiet (fail)
          go_wp2
          refine ⟨⟨k + 1, by omega, by go_num, fun j y hy hj => ?_, below_drewN HBW.out _⟩, by simp [intOf]; omega⟩
          by_cases e : j = k
          · subst e
            have h1 := HX.out
            rw [h1] at hy
            injection hy with hy
            subst hy
            intro e; injection e with _ e; exact e2 e
          · exact HA.out j y hy (by omega)
      · have e3 : (i1 == P1) = false := by rw [beq_eq_false_iff_ne]; exact e1
        go_wp2
        go_quiet (fail)
        go_wp2
        refine ⟨⟨k + 1, by omega, by go_num, fun j y hy hj => ?_, below_drewN HBW.out _⟩, by simp [intOf]; omega⟩
        by_cases e : j = k
        · subst e
          have h1 := HX.out
          rw [h1] at hy
          injection hy with hy
          subst hy
          intro e; injection e with e _; exact e1 e
        · exact HA.out j y hy (by omega)
    · have HE : Hid (false = b) := Lib.hid ((in_no HN.out fun j y hy hj => HA.out j y hy (by omega)).trans HB.out)
      have hki : ¬ (k : Int) < (n : Int) := by omega
      go_wp2
      go_ret
      exact ⟨by have h := HE.out; subst h; rfl, HBE.out⟩

set_option maxHeartbeats 2000000 in
/-- Of two lists of ids that are the same. -/
theorem refSameI (A : Option Addr) (n c : Nat) (A' : Option Addr) (c' : Nat) (l : List Id_) (w : World) (hn : l.length = n) (hle : n ≤ 1000000) (hR : RdI w w.heap.size A l) (hR' : RdI w w.heap.size A' l) :
    Calls Try.prog 17 #[.slice A n c, .slice A' n c'] w (BoolEnd w true) := by
  have HN := Lib.hid hn; have HR := Lib.hid hR; have HR' := Lib.hid hR'
  clear hn hR hR'
  go_enter Try.func17, Try.ntmps17
  go_wp2_with fail
  go_loopw [5] (fun i wr => ∃ k : Nat, k ≤ n ∧ i = .int .i64 (k : Int) ∧ Below w.heap.size w wr) (fun i _ => n - (intOf i).toNat)
  case atStart => exact ⟨0, Nat.zero_le _, rfl, Below.refl _ _⟩
  case round =>
    obtain ⟨k, hk, rfl, hbw⟩ := hrel
    have HBW := Lib.hid hbw; clear hbw
    by_cases hlt : k < n
    · have hki : (k : Int) < (n : Int) := by omega
      obtain ⟨a, y, rfl, hS, hy, c0, c1⟩ := ((RdI.mv HR.out HBW.out).elem (k := k) (by rw [HN.out]; exact hlt))
      obtain ⟨a', y', rfl, hS', hy', g0, g1⟩ := ((RdI.mv HR'.out HBW.out).elem (k := k) (by rw [HN.out]; exact hlt))
      obtain rfl : y = y' := by rw [hy] at hy'; exact Option.some.inj hy'
      clear hy hy' hS hS'
      go_wp2
      go_quiet (fail)
      go_wp2
      refine ⟨⟨k + 1, by omega, by go_num, below_drewN HBW.out _⟩, by simp [intOf]; omega⟩
    · have hki : ¬ (k : Int) < (n : Int) := by omega
      go_wp2
      go_ret
      exact ⟨rfl, HBW.out⟩

/-- How a function ends that tells ids: a row of one's own. -/
def IdsEnd (w : World) (l : List Id_) (e : Ending) (w' : World) : Prop := ∃ A n c, e = .returned (.slice A n c) ∧ l.length = n ∧ n ≤ c ∧ RdI w' w'.heap.size A l ∧ Below w.heap.size w w'
theorem ids_take {l : List Nm} {k : Nat} {p : Nm} (h : l[k]? = some p) : idsN (l.take (k + 1)) = idsN (l.take k) ++ [p.id] := by
  unfold idsN
  rw [List.take_add_one, h, List.map_append]
  rfl

set_option maxHeartbeats 2000000 in
theorem refIdsC (A : Option Addr) (n c : Nat) (l : List Nm) (w : World) (hn : l.length = n) (hle : n ≤ 10000) (hR : RdN w w.heap.size A l) :
    Calls Try.prog 19 #[.slice A n c] w (IdsEnd w (idsN l)) := by
  have HN := Lib.hid hn; have HR := Lib.hid hR
  clear hn hR
  go_enter Try.func19, Try.ntmps19
  go_wp2_with fail
  go_loopw [3, 4] (fun v i wr => ∃ (k : Nat) (A1 : Option Addr) (m c1 : Nat), k ≤ n ∧ i = .int .i64 (k : Int) ∧ v = .slice A1 m c1 ∧ OwnI wr w.heap.size (.slice A1 m c1) (idsN (l.take k)) ∧ Below w.heap.size w wr) (fun _ i _ => n - (intOf i).toNat)
  case atStart => exact ⟨0, none, 0, 0, Nat.zero_le _, rfl, rfl, ownI_nil _ _, Below.refl _ _⟩
  case round =>
    obtain ⟨k, A1, m, c1, hk, rfl, rfl, hO, hbw⟩ := hrel
    have HBW := Lib.hid hbw; have HO := Lib.hid hO; clear hbw hO
    by_cases hlt : k < n
    · have hki : (k : Int) < (n : Int) := by omega
      obtain ⟨a, p, D, i, j, E, mp, d, rfl, hS, hp, c0, c1', c2, c3, c4, hv⟩ := RdN.elem (RdN.mv HR.out HBW.out) (k := k) (by rw [HN.out]; exact hlt)
      have HP := Lib.hid hp
      have hba : Below wr.heap.size wr (wr.alloc (.cells #[.int .i64 p.id.1, .int .i64 p.id.2] 42)) := (Below.refl _ _).alloc (Nat.le_refl _) _
      have b0 := Blk.new wr 42 #[.int .i64 p.id.1, .int .i64 p.id.2]
      have HS1 := Lib.hid (rdI_lone (x := p.id) b0 b0.lt)
      have HO1 := Lib.hid (own_gr HO.out (below_gr_row hba))
      have HB1 := Lib.hid (below_mv HBW.out hba)
      have HL := Lib.hid (show (idsN (l.take k)).length + 1 ≤ 100000 by unfold idsN; rw [List.length_map, List.length_take]; omega)
      clear hv hp hS hba b0
      go_wp2_with (at_builtin; refine wpList_ownI rfl (.tmp 11) (.tmp 17) rfl w.heap.size 1 1 (.slice A1 m c1) (some ⟨wr.heap.size, 0, none⟩) (idsN (l.take k)) [p.id] rfl rfl HO1.out HS1.out rfl HL.out HB1.out.size ?_; intro v' W' ho hg)
      obtain ⟨A9, c9, hv9, _, _⟩ := rdI_own ho
      subst hv9
      refine ⟨⟨k + 1, A9, _, c9, by omega, by go_num, rfl, ?_, HB1.out.grown hg HB1.out.size (fun g e => ownI_ge HO1.out g e)⟩, by simp [intOf]; omega⟩
      rw [ids_take HP.out]
      exact ho
    · have hki : ¬ (k : Int) < (n : Int) := by omega
      go_wp2
      go_ret
      have e : l.take k = l := List.take_of_length_le (by rw [HN.out]; omega)
      have ho := HO.out
      rw [e] at ho
      obtain ⟨A9, c9, e9, h9, h10⟩ := rdI_own ho
      injection e9 with e1 e2 e3
      subst e1 e2 e3
      exact ⟨_, _, _, rfl, rfl, h9, h10, HBW.out⟩

end Bb
end Go.Proofs.Ytdnkinajbebkoaa

set_option maxRecDepth 100000
namespace Go.Proofs.Ytdnkinajbebkoaa
open Go.RowKit
set_option linter.unusedVariables false
namespace Bb
open Tx Df Sq Hk Tr Pr Rg Fl Pn Tg

theorem lit_snoc {l : List Nm} {p : Nm} (h : ∀ x ∈ l, Tg.Lit x) (hp : Tg.Lit p) : ∀ x ∈ l ++ [p], Tg.Lit x := fun x hx => by
  rcases List.mem_append.1 hx with h1 | h1
  · exact h x h1
  · cases List.mem_singleton.1 h1; exact hp
/-- Patches, one by one: which are told to pass, which are kept. -/
def bubG (ids : List Id_) (step : List Nm → Nm → Option (Nm × List Nm)) : List Nm → List Nm → List Nm → List Nm × List Nm
  | [], s, g => (s, g)
  | p :: l, s, g => if isIn ids p.id = true then bubG ids step l s (g ++ [p]) else match step g p with
    | some z => bubG ids step l (s ++ [z.1]) z.2
    | none => bubG ids step l s (g ++ [p])
section
variable {ids : List Id_} {step : List Nm → Nm → Option (Nm × List Nm)} {l s g : List Nm} {p : Nm} {z : Nm × List Nm}
theorem bub_in (h : isIn ids p.id = true) : bubG ids step (p :: l) s g = bubG ids step l s (g ++ [p]) := by rw [bubG, if_pos h]
theorem bub_no (h : step g p = none) : bubG ids step (p :: l) s g = bubG ids step l s (g ++ [p]) := by rw [bubG, h]; simp
theorem bub_go (hi : isIn ids p.id = false) (h : step g p = some z) : bubG ids step (p :: l) s g = bubG ids step l (s ++ [z.1]) z.2 := by rw [bubG, hi, h]; rfl
theorem part_bub : ∀ {l s g : List Nm}, partG ids l s g = bubG ids overN l s g
  | [], s, g => by rw [partG, bubG]
  | p :: l, s, g => by
    by_cases hi : p.id ∈ ids
    · rw [partG_in hi, bub_in (decide_eq_true hi)]; exact part_bub
    · cases ho : overN g p with
      | none => rw [partG_no ho, bub_no ho]; exact part_bub
      | some z => rw [partG_over hi ho, bub_go (decide_eq_false hi) ho]; exact part_bub
/-- A patch behind those that are kept, which stand the other way round. -/
def behN (g : List Nm) (p : Nm) : Option (Nm × List Nm) := (undN p g.reverse).map fun z => (z.2, z.1.reverse)
theorem bub_app : ∀ {a b s g : List Nm}, bubG ids step (a ++ b) s g = bubG ids step b (bubG ids step a s g).1 (bubG ids step a s g).2
  | [], b, s, g => rfl
  | p :: a, b, s, g => by
    rw [List.cons_append]
    cases hi : isIn ids p.id with
    | true => rw [bub_in hi, bub_in hi]; exact bub_app
    | false =>
      cases ho : step g p with
      | none => rw [bub_no ho, bub_no ho]; exact bub_app
      | some z => rw [bub_go hi ho, bub_go hi ho]; exact bub_app
theorem pick_bub : ∀ {l : List Nm}, bubG ids behN l.reverse [] [] = ((pickN ids l).2.reverse, (pickN ids l).1.reverse)
  | [] => rfl
  | p :: l => by
    rw [List.reverse_cons, bub_app, pick_bub]
    by_cases hi : p.id ∈ ids
    · rw [bub_in (decide_eq_true hi)]
      rcases h : pickN ids l with ⟨k, r⟩
      rw [pickN, if_pos hi, h]
      simp [bubG]
    · rcases h : pickN ids l with ⟨k, r⟩
      cases ho : undN p k with
      | none =>
        have : behN k.reverse p = none := by unfold behN; rw [List.reverse_reverse, ho]; rfl
        rw [bub_no this, pickN, if_neg hi, h, und_none ho]
        simp [bubG]
      | some z =>
        have : behN k.reverse p = some (z.2, z.1.reverse) := by unfold behN; rw [List.reverse_reverse, ho]; rfl
        rw [bub_go (decide_eq_false hi) this, pickN, if_neg hi, h, und_some (o := z.1) (q := z.2) ho]
        simp [bubG]
theorem over_step {g g' : List Nm} {p x : Nm} (h : overN g p = some (x, g')) (hp : Tg.Lit p) (hg : ∀ y ∈ g, Tg.Lit y) : g'.length = g.length ∧ ∀ y ∈ g', Tg.Lit y :=
  ⟨overN_len h, (over_lit (bo := true) (by rw [h]; rfl) (by rw [h]; rfl) hg hp).2⟩
theorem beh_step {g g' : List Nm} {p x : Nm} (h : behN g p = some (x, g')) (hp : Tg.Lit p) (hg : ∀ y ∈ g, Tg.Lit y) : g'.length = g.length ∧ ∀ y ∈ g', Tg.Lit y := by
  unfold behN at h
  cases hu : undN p g.reverse with
  | none => rw [hu] at h; cases h
  | some z =>
    rw [hu] at h
    injection h with h
    injection h with h1 h2
    subst h1 h2
    refine ⟨?_, fun y hy => ?_⟩
    · rw [List.length_reverse, und_len (o := z.1) (q := z.2) hu, List.length_reverse]
    · exact (und_lit (o := z.1) (q := z.2) hp (fun x hx => hg x (List.mem_reverse.1 hx)) hu).1 y (List.mem_reverse.1 hy)
end

/-- Append onto a row of patches, in a fenced walk. -/
theorem wpListIn_ownT {F : Fence} {n : Nat} {W : World} {ops : Array Oper} {rest : List Oper} {o : Oper} {a : Act} {Q : Exit → Act → World → Prop} (hgd : o.guard = none) (s x : Operand)
    (ho : o.op = .call { callee := .builtin .append, args := #[s, x], argTypes := #[22, 22] })
    (S : Nat → Prop) (base m c : Nat) (v : Value) (A : Option Addr) (l u : List Nm) (hs : a.eval s = v) (hx : a.eval x = .slice A m c) (h : Tg.OwnT W S base v l) (hu : Tg.Src W S A u)
    (hm : u.length = m) (hn : l.length + m ≤ 100000) (hS : ∀ b, S b → b < W.heap.size ∧ some b ≠ v.ownBlock) (hbase : base ≤ W.heap.size)
    (hK : ∀ v' W', Tg.OwnT W' S base v' (l ++ u) → W.grownBy W' v.ownBlock → (∀ b, v'.ownBlock = some b → v.ownBlock = some b ∨ W.heap.size ≤ b) → wpListIn F n Try.prog ops Q rest (a.put o.dst v') W') : wpListIn F n Try.prog ops Q (o :: rest) a W := by
  refine wpListIn_plain hgd fun K hK' => ?_
  obtain ⟨v', W', hrun, h2, h3, h4⟩ := run_ownT (ty := o.type) (c := c) h hu hm hn hS hbase
  unfold Oper.wpIn
  refine ⟨?_, ?_⟩
  · simp [Oper.about, ho, resolve, Target.leads, Sem.run_pure]
  · rw [Oper.semAt_plain F _ _ (by rw [ho]; intro c hc'; cases hc')]
    simp [execOp, ho, resolve, invoke, builtin, hs, hx, hrun, Result.andThen]
    exact hK' _ _ (hK _ _ h2 h3 h4)

/-- The two boxes that split writes. -/
abbrev RS (K z : Nat) : Nat → Prop := fun b => b = K ∨ b = z + 3
/-- What holds while patches are split. -/
structure SpI (w : World) (K z : Nat) (iv pv kv : Value) (v u : Value) (g s : List Nm) (W : World) : Prop where
  row : Rows3 (RS K z) w W v u g s
  bk : Blk W K 58 #[v]
  bf : Blk W (z + 3) 22 #[u]
  b0 : Blk W z 23 #[iv]
  b1 : Blk W (z + 1) 63 #[pv]
  b2 : Blk W (z + 2) 64 #[kv]
def SpJ (w : World) (K z : Nat) (iv pv kv : Value) (ids : List Id_) (step : List Nm → Nm → Option (Nm × List Nm)) (L S G : List Nm) (pre : List Nat) (W : World) : Prop :=
  ∃ v u g s, SpI w K z iv pv kv v u g s W ∧ bubG ids step (L.drop pre.length) s g = (S, G) ∧ s.length + g.length = pre.length ∧ ∀ x ∈ g, Tg.Lit x
section
variable {w W W' : World} {K z : Nat} {iv pv kv v u v' u' : Value} {g s g' s' : List Nm}
theorem SpI.plain {row : Option Nat} (h : SpI w K z iv pv kv v u g s W) (hg : W.grownBy W' row) (hr : ∀ r, row = some r → ∃ o : Obj, W.heap[r]? = some o ∧ o.isCells = false) (hB : ∀ r, row = some r → w.heap.size ≤ r) : SpI w K z iv pv kv v u g s W' := by
  have bl : ∀ {b : Nat} {t : TypeId} {cs : Array Value}, Blk W b t cs → Blk W' b t cs := fun {b t cs} h => h.gr hg (fun e => by
    obtain ⟨o, ho, hf⟩ := hr b e.symm
    rw [show W.heap[b]? = _ from h] at ho; cases ho; cases hf)
  exact ⟨h.row.plain hg hr hB, bl h.bk, bl h.bf, bl h.b0, bl h.b1, bl h.b2⟩
theorem SpI.below (h : SpI w K z iv pv kv v u g s W) (hb : Below W.heap.size W W') : SpI w K z iv pv kv v u g s W' :=
  ⟨h.row.below hb, h.bk.below hb h.bk.lt, h.bf.below hb h.bf.lt, h.b0.below hb h.b0.lt, h.b1.below hb h.b1.lt, h.b2.below hb h.b2.lt⟩
theorem rk_not {t : TypeId} {cs : Array Value} {b : Nat} (h : Rows3 (RS K z) w W v u g s) (hk : Blk W K 58 #[v]) (hb : Blk W b t cs) (h1 : t ≠ 58) (h2 : t ≠ 45) : ¬ RK K v b := fun e => by
  rcases e with rfl | e
  · have h3 := (show W.heap[b]? = _ from hb).symm.trans hk
    simp at h3
    exact h1 h3.2
  · obtain ⟨xs, hr, _⟩ := h.a
    exact hb.not_row h2 hr e
/-- Behind a step of those that are kept. -/
theorem SpI.to (h : SpI w K z iv pv kv v u g s W) (hr : Rows3 (RS K z) w W' v' u g' s) (hk : Blk W' K 58 #[v']) (hm : Mine (RK K v) W W') : SpI w K z iv pv kv v' u g' s W' :=
  ⟨hr, hk, hm.blk h.bf (rk_not h.row h.bk h.bf (by decide) (by decide)), hm.blk h.b0 (rk_not h.row h.bk h.b0 (by decide) (by decide)), hm.blk h.b1 (rk_not h.row h.bk h.b1 (by decide) (by decide)), hm.blk h.b2 (rk_not h.row h.bk h.b2 (by decide) (by decide))⟩
theorem SpI.kpA {Bs : Nat} {A : Option Addr} (h : SpI w K z iv pv kv v u g s W) (hm : Mine (RK K v) W W') (hA : ∀ a, A = some a → a.block < w.heap.size) : KpA Bs A W W' :=
  ⟨fun x hx => hm.blk (show Blk W Bs 22 #[x] from hx) (rk_not h.row h.bk (show Blk W Bs 22 #[x] from hx) (by decide) (by decide)), fun a e p c hp hc => by
    have hl := hA a e
    refine (World.cell?_of_block (hm.block p.block (World.block_lt_of_cell? W p hc) fun e => ?_)).trans hc
    rw [hp] at e
    rcases e with e | e
    · have := (h.row.rl K (.inl rfl)).1; omega
    · have := Tg.ownT_ge h.row.a _ e.symm; omega⟩
/-- The row of those that pass grows, and its box is written. -/
theorem SpI.free {t : List Nm} (h : SpI w K z iv pv kv v u g s W) (ho : Tg.OwnT W' (PR (RS K z) W u v) w.heap.size u' t) (hg : W.grownBy W' u.ownBlock) (hw : ∀ b, u'.ownBlock = some b → u.ownBlock = some b ∨ W.heap.size ≤ b) (hKz : K < z) : SpI w K z iv pv kv v u' g t (W'.setCell ⟨z + 3, 0, none⟩ u') := by
  have hr := ((h.row.swap.app ho hg hw).swap).set (b := z + 3) (.inr rfl) 0 u'
  have nr : ∀ {b : Nat} {t : TypeId} {cs : Array Value}, Blk W b t cs → t ≠ 45 → some b ≠ u.ownBlock := fun {b t cs} hb ht => by
    obtain ⟨xs, hx, _⟩ := h.row.b
    exact hb.not_row ht hx
  exact ⟨hr, (h.bk.gr hg (nr h.bk (by decide))).set_ne (by omega) 0 u', (h.bf.gr hg (nr h.bf (by decide))).set 0 u', (h.b0.gr hg (nr h.b0 (by decide))).set_ne (by omega) 0 u', (h.b1.gr hg (nr h.b1 (by decide))).set_ne (by omega) 0 u', (h.b2.gr hg (nr h.b2 (by decide))).set_ne (by omega) 0 u'⟩
theorem SpI.free_box (h : SpI w K z iv pv kv v u g s W) (hg : W.grownBy W' u.ownBlock) : Blk W' (z + 3) 22 #[u] := h.bf.gr hg (by
  obtain ⟨xs, hx, _⟩ := h.row.b
  exact h.bf.not_row (by decide) hx)
/-- What is older than all this reads as it did. -/
theorem nv_base {X Y : World} {D E : Option Addr} {dn dc n c : Nat} {q : Nm} (h : NV X w.heap.size D dn dc E n c q) (hx : Below w.heap.size w X) (hy : Below w.heap.size w Y) : NV Y Y.heap.size D dn dc E n c q :=
  (((ng_of h).to_ (fun b hb _ => (hy.block b hb).trans (hx.block b hb).symm)).nv).up hy.size
theorem SpI.mine_free (h : SpI w K z iv pv kv v u g s W) (hg : W.grownBy W' u.ownBlock) : Mine (RK (z + 3) u) W (W'.setCell ⟨z + 3, 0, none⟩ u') :=
  (mine_grown hg (fun k e => .inr e.symm) : Mine (RK (z + 3) u) W W').setn (.inl (.inl rfl)) 0 u'
theorem SpI.free_cells (h : SpI w K z iv pv kv v u g s W) : ∀ b, RK (z + 3) u b → ∃ c t f, W.heap[b]? = some (.cells c t f) := rk_cells h.row.swap h.bf
theorem SpI.kpF {Bs : Nat} {A : Option Addr} (h : SpI w K z iv pv kv v u g s W) (hm : Mine (RK (z + 3) u) W W') (hA : ∀ a, A = some a → a.block < w.heap.size) (hB : Bs < z) : KpA Bs A W W' :=
  ⟨fun x hx => hm.blk (show Blk W Bs 22 #[x] from hx) (fun e => by
    rcases e with e | e
    · omega
    · obtain ⟨xs, hr, _⟩ := h.row.b
      exact (show Blk W Bs 22 #[x] from hx).not_row (by decide) hr e), fun a e p c hp hc => by
    have hl := hA a e
    refine (World.cell?_of_block (hm.block p.block (World.block_lt_of_cell? W p hc) fun e => ?_)).trans hc
    rw [hp] at e
    rcases e with e | e
    · have := (h.row.rl (z + 3) (.inr rfl)).1; omega
    · have := Tg.ownT_ge h.row.b _ e.symm; omega⟩
theorem spJ_ab {B : Nat} {ids : List Id_} {step : List Nm → Nm → Option (Nm × List Nm)} {L S G : List Nm} (hB : w.heap.size ≤ B) : Ab Plain B (SpJ w K z iv pv kv ids step L S G) := fun pre W W' row hs hg hr => by
  obtain ⟨v, u, g, s, h, h2⟩ := hs
  exact ⟨v, u, g, s, h.plain hg (fun r e => (hr r e).2) (fun r e => Nat.le_trans hB (hr r e).1), h2⟩
/-- Two blocks of different types. -/
theorem blk_two {b b' : Nat} {t t' : TypeId} {cs cs' : Array Value} (h : Blk W b t cs) (h' : Blk W b' t' cs') (ht : t ≠ t') : b ≠ b' := fun e => by
  subst e
  have h3 := (show W.heap[b]? = _ from h).symm.trans h'
  simp at h3
  exact ht h3.2
end

/-- How split ends. -/
def SplitEnd (w : World) (K : Nat) (S G : List Nm) (e : Ending) (W' : World) : Prop := ∃ v u, e = .returned u ∧ Rows3 (fun b => b = K) w W' v u G S ∧ Blk W' K 58 #[v]

end Bb
end Go.Proofs.Ytdnkinajbebkoaa

set_option maxRecDepth 100000
namespace Go.Proofs.Ytdnkinajbebkoaa
open Go.RowKit Go.Shelf
set_option linter.unusedVariables false
set_option linter.unusedSimpArgs false
namespace Bb
open Tx Df Sq Hk Tr Pr Rg Fl Pn Tg
attribute [local go_sem] Oper.semAt_some

/-- A patch is kept: what holds behind the round. -/
theorem sp_keep {w X W' : World} {K z Bs : Nat} {iv pv kv v u : Value} {ids : List Id_} {step : List Nm → Nm → Option (Nm × List Nm)} {L S G g s : List Nm} {pre : List Nat} {i : Nat} {q : Nm} {A : Option Addr} {e : Ending}
    (hI : SpI w K z iv pv kv v u g s X) (hb : bubG ids step (L.drop pre.length) s g = (S, G)) (hl : s.length + g.length = pre.length) (hg : ∀ x ∈ g, Tg.Lit x) (hq : L[pre.length]? = some q) (hlq : Tg.Lit q) (hk : isIn ids q.id = true ∨ step g q = none) (hA : ∀ a, A = some a → a.block < w.heap.size)
    (hE : KeepEnd (RS K z) K w v u (g ++ [q]) s X e W') : e = .returned (.tuple #[]) ∧ (∀ B, KeepsFrom B X W') ∧ KpA Bs A X W' ∧ SpJ w K z iv pv kv ids step L S G (pre ++ [i]) W' := by
  obtain ⟨v', he, hr, hbk, hm⟩ := hE
  refine ⟨he, hm.keeps (rk_cells hI.row hI.bk), hI.kpA hm hA, v', u, g ++ [q], s, hI.to hr hbk hm, ?_, ?_, lit_snoc hg hlq⟩
  · rw [List.length_append, List.length_singleton]
    rw [drop_at hq] at hb
    rcases hk with h | h
    · rw [bub_in h] at hb; exact hb
    · rw [bub_no h] at hb; exact hb
  · rw [List.length_append, List.length_append, List.length_singleton, List.length_singleton]; omega

set_option maxRecDepth 100000 in
set_option maxHeartbeats 8000000 in
theorem SplitC (gf pf Bs K : Nat) (A : Option Addr) (n c : Nat) (l L : List Nm) (full : List Nat) (A' : Option Addr) (n' c' : Nat) (ids : List Id_) (step : List Nm → Nm → Option (Nm × List Nm)) (S G : List Nm) (w W : World)
    (hge : ∀ args w, (callFunc gf args).run Try.prog w = .ok (.enter gf args) w) (hpe : ∀ args w, (callFunc pf args).run Try.prog w = .ok (.enter pf args) w)
    (hG : ∀ w5, Boxed w5 Bs 22 (.slice A n c) → CellsN w5 A n → GivesE Try.prog Plain 3 gf #[.pointer (some ⟨Bs, 0, none⟩)] (EN n A) full (KpA Bs A) w5)
    (hP : ∀ (R : Nat → Prop) (X : World) (v u : Value) (g s : List Nm) (D : Option Addr) (dn dc : Nat) (E : Option Addr) (m k : Nat) (p : Nm), R K → Rows3 R w X v u g s → Blk X K 58 #[v] → Tg.Lit p → (∀ x ∈ g, Tg.Lit x) → g.length ≤ 1000 → NV X X.heap.size D dn dc E m k p →
      Calls Try.prog pf #[.pointer (some ⟨K, 0, none⟩), nmV p.id D dn dc p.txt E m k] X (GoneEnd R K w v u g s (step g p) X))
    (hSt : ∀ g p x g', step g p = some (x, g') → Tg.Lit p → (∀ y ∈ g, Tg.Lit y) → g'.length = g.length ∧ ∀ y ∈ g', Tg.Lit y)
    (hln : l.length = n) (hle : n ≤ 100) (hfull : ∀ k i : Nat, full[k]? = some i → k < n ∧ L[k]? = l[i]?) (hLn : L.length = n) (hfn : full.length = n) (hll : ∀ p ∈ l, Tg.Lit p) (hls : RdN w w.heap.size A l) (hin : ids.length = n') (hile : n' ≤ 1000000) (his : RdI w w.heap.size A' ids)
    (hBs : Boxed W Bs 22 (.slice A n c)) (hbw : Below w.heap.size w W) (hK : Blk W K 58 #[.slice none 0 0]) (hKw : w.heap.size ≤ K) (hSG : bubG ids step L [] [] = (S, G)) :
    Calls Try.prog 28 #[.func (.func gf) #[] #[.pointer (some ⟨Bs, 0, none⟩)], .slice A' n' c', .func (.func pf) #[.pointer (some ⟨K, 0, none⟩)] #[], .func (.func 31) #[.pointer (some ⟨K, 0, none⟩)] #[]] W (SplitEnd w K S G) := by
  have HGE := Lib.hid hge; have HPE := Lib.hid hpe; have HP := Lib.hid hP; have HST := Lib.hid hSt; have HFULL := Lib.hid hfull; have HLL := Lib.hid hll; have HLS := Lib.hid hls; have HIS := Lib.hid his; have HIN := Lib.hid hin; have HLN := Lib.hid hln; have HLLN := Lib.hid hLn; have HFN := Lib.hid hfn; have HKW := Lib.hid hKw; have HG := Lib.hid hG
  have HKL : Hid (K < W.heap.size) := Lib.hid hK.lt
  have HBL : Hid (Bs < W.heap.size) := Lib.hid hBs.lt
  have HSG := Lib.hid hSG
  obtain ⟨b0, b1, b2, b3, hba⟩ := four_blk W 23 63 64 22 #[(.slice A' n' c')] #[(.func (.func pf) #[.pointer (some ⟨K, 0, none⟩)] #[])] #[(.func (.func 31) #[.pointer (some ⟨K, 0, none⟩)] #[])] #[.slice none 0 0]
  have hs1 : ((((W.alloc (.cells #[(.slice A' n' c')] 23)).alloc (.cells #[(.func (.func pf) #[.pointer (some ⟨K, 0, none⟩)] #[])] 63)).alloc (.cells #[(.func (.func 31) #[.pointer (some ⟨K, 0, none⟩)] #[])] 64)).alloc (.cells #[.slice none 0 0] 22)).heap.size = W.heap.size + 4 := by simp
  have hk1 := hK.below hba hK.lt
  have hbs1 : Boxed ((((W.alloc (.cells #[(.slice A' n' c')] 23)).alloc (.cells #[(.func (.func pf) #[.pointer (some ⟨K, 0, none⟩)] #[])] 63)).alloc (.cells #[(.func (.func 31) #[.pointer (some ⟨K, 0, none⟩)] #[])] 64)).alloc (.cells #[.slice none 0 0] 22)) Bs 22 (.slice A n c) := (hba.block Bs hBs.lt).trans hBs
  have hbw1 := below_mv hbw hba
  have hwW := hbw.size
  clear hge hpe hP hSt hfull hll hls his hin hln hLn hfn hKw hG hBs hbw hK hSG
  refine (callsIn_wide (n := 4)).1 ?_
  refine callsIn_of_wp_marks Try.func28 rfl trivial ?_ rfl
  simp only [Try.ntmps28, List.size_toArray, List.length_cons, List.length_nil, Nat.reduceAdd, Nat.reduceSub, Array.replicate_succ, Array.replicate_zero, List.push_toArray, List.append_toArray, List.nil_append, List.cons_append]
  gi_wp2
  generalize ((((W.alloc (.cells #[(.slice A' n' c')] 23)).alloc (.cells #[(.func (.func pf) #[.pointer (some ⟨K, 0, none⟩)] #[])] 63)).alloc (.cells #[(.func (.func 31) #[.pointer (some ⟨K, 0, none⟩)] #[])] 64)).alloc (.cells #[.slice none 0 0] 22)) = w5 at *
  obtain ⟨z, hz⟩ : ∃ z, W.heap.size = z := ⟨_, rfl⟩
  rw [hz] at b0 b1 b2 b3 hs1 hwW ⊢
  have HZ := Lib.hid hz; have HSZ := Lib.hid hs1
  have hrow : Rows3 (RS K z) w w5 (.slice none 0 0) (.slice none 0 0) [] [] := rows3_nil w hbw1 (fun k e => by have h1 := HKW.out; have h2 := HKL.out; have h3 := HZ.out; rcases e with e | e <;> omega)
  have hst : (SpJ w K z (.slice A' n' c') (.func (.func pf) #[.pointer (some ⟨K, 0, none⟩)] #[]) (.func (.func 31) #[.pointer (some ⟨K, 0, none⟩)] #[]) ids step L S G) [] w5 := ⟨_, _, [], [], ⟨hrow, hk1, b3, b0, b1, b2⟩, HSG.out, rfl, fun x hx => (by cases hx)⟩
  have hc5 := cellsN_rd (RdN.below HLS.out hbw1) HLN.out
  have HA : Hid (∀ a, A = some a → a.block < w.heap.size ∨ n = 0) := Lib.hid (fun a e => by
    rcases HLS.out with h | ⟨a', e', h1, _⟩
    · right; rw [← HLN.out, h]; rfl
    · rw [e] at e'; injection e' with e'; subst e'; exact .inl h1)
  clear b0 b1 b2 b3 hba hk1 hbw1 hrow hz
  refine range_law (n := 4) (gf := gf) (lb := #[.pointer (some ⟨Bs, 0, none⟩)]) rfl HGE.out (Free := Plain) (fun _ h => h)
    (HG.out w5 hbs1 hc5) kpA_t (fun W o o' h ho => kpA_b W o o' h ho) (fun x vals W h => by obtain ⟨_, _, _, _, _, _, _, _, rfl, _⟩ := h; rfl)
    (SpJ w K z (.slice A' n' c') (.func (.func pf) #[.pointer (some ⟨K, 0, none⟩)] #[]) (.func (.func 31) #[.pointer (some ⟨K, 0, none⟩)] #[]) ids step L S G) (fun _ _ _ => False) (spJ_ab (by rw [hs1]; omega)) (fun c => ab_pure _ _ _) hst
    (fun i a' X => ∃ b v0 v1 v2 v3 v4, a' = { tmps := #[.func (.func gf) #[] #[.pointer (some ⟨Bs, 0, none⟩)], .slice A' n' c', .func (.func pf) #[.pointer (some ⟨K, 0, none⟩)] #[], .func (.func 31) #[.pointer (some ⟨K, 0, none⟩)] #[], undef, .pointer (some ⟨z, 0, none⟩), .pointer (some ⟨z + 1, 0, none⟩), .pointer (some ⟨z + 1 + 1, 0, none⟩), .slice none 0 0, .pointer (some ⟨z + 1 + 1 + 1, 0, none⟩), undef, .pointer (some ⟨b, 0, none⟩), undef, undef, .func (.func gf) #[] #[.pointer (some ⟨Bs, 0, none⟩)], .int .i64 (i : Int), .agg #[v0, v1, v2, v3, v4], undef, undef, undef, undef, undef, undef, undef, undef, undef, undef, undef, undef, undef, undef, undef, undef, undef, undef, undef, undef, undef, undef], defers := [] } ∧ EN n A i #[.int .i64 (i : Int), .agg #[v0, v1, v2, v3, v4]] X ∧ Blk X b 45 #[v0, v1, v2, v3, v4])
    (fun i a' => ab_ex fun b => ab_ex fun v0 => ab_ex fun v1 => ab_ex fun v2 => ab_ex fun v3 => ab_ex fun v4 => Ab.and (ab_pure _ _ _) (Ab.and ab_EN (ab_blk fun _ => _))) ?assign ?body ?done ?stop
  case assign =>
    rintro y pre i vals X Kc hi hEL hK
    obtain ⟨v, u, g, s, hI, _⟩ := id hi
    obtain ⟨q, D', dn', dc', E', m', k', hq, rfl, hv⟩ := EN.rd hEL (RdN.below HLS.out hI.row.bw) HLN.out
    clear hI hq hv
    gi_wp2
    exact hK _ _ ((KeepsOthers.alloc X _).from _) (kpA_new (World.grownBy_alloc X _ none)) ((spJ_ab (Nat.le_refl _)).alloc _ hi) ⟨_, _, _, _, _, _, rfl, ab_EN.alloc (s := ()) (B := 0) _ hEL, Blk.new _ _ _⟩
  case body =>
    rintro y pre pst i a' X hfl hI ⟨b, v0, v1, v2, v3, v4, rfl, hEL, hb⟩
    obtain ⟨v, u, g, s, hI, hbub, hlen, hlg⟩ := hI
    have hfk : full[pre.length]? = some i := by rw [hfl, List.getElem?_append_right (Nat.le_refl _), Nat.sub_self]; rfl
    obtain ⟨hkn, hLk⟩ := HFULL.out _ _ hfk
    have hrx := RdN.below HLS.out hI.row.bw
    obtain ⟨q, D, dn, dc, E, m, k, hq, hv, hqv⟩ := EN.rd hEL hrx HLN.out
    obtain ⟨rfl, rfl, rfl, rfl, rfl⟩ := valsN_eq hv
    have HLQ := Lib.hid (HLL.out q (List.mem_of_getElem? hq))
    have HAB : Hid (∀ a, A = some a → a.block < w.heap.size) := Lib.hid (fun a e => (HA.out a e).resolve_right (by omega))
    have HQL := Lib.hid (hLk.trans hq); have HI := Lib.hid hI; have HB := Lib.hid hb; have HBUB := Lib.hid hbub; have HLEN := Lib.hid hlen; have HLG := Lib.hid hlg
    have HPV := Lib.hid (hqv.up hI.row.bw.size); have HPV0 := Lib.hid hqv
    have HGL : Hid (g.length ≤ 99) := Lib.hid (by omega)
    have HSL : Hid (s.length ≤ 99) := Lib.hid (by omega)
    clear hfl hfk hLk hrx hq hv hqv hEL hbub hlen hlg hkn
    obtain ⟨bi, hbi⟩ : ∃ b, isIn ids q.id = b := ⟨_, rfl⟩
    have HBI := Lib.hid hbi
    clear hbi
    have e0 := hb.cell 0 rfl; have e1 := hb.cell 1 rfl; have e2 := hb.cell 2 rfl; have e3 := hb.cell 3 rfl; have e4 := hb.cell 4 rfl; have el := hb.lt
    have z0 := hI.b0.cell 0 rfl; have zl := hI.b0.lt
    clear hI hb
    gi_wp2_with fail
    refine ⟨trivial, CallsIn.inRound y (callsIn_wide.2 ((ContainsI q.id A' n' c' X.heap.size ids X bi HIN.out hile (Nat.le_refl _) (RdI.mv HIS.out HI.out.row.bw) HBI.out).mono ?_))⟩
    rintro e w2 ⟨rfl, hb2⟩
    have HI2 := Lib.hid (HI.out.below hb2); have HBX2 := Lib.hid (HB.out.below hb2 HB.out.lt); have HPV2 := Lib.hid (HPV.out.mv hb2); have HB2 := Lib.hid hb2
    clear e0 e1 e2 e3 e4 el z0 zl hb2
    have e0 := HBX2.out.cell 0 rfl; have e1 := HBX2.out.cell 1 rfl; have e2 := HBX2.out.cell 2 rfl; have e3 := HBX2.out.cell 3 rfl; have e4 := HBX2.out.cell 4 rfl; have el := HBX2.out.lt
    cases bi with
    | true =>
      have z2 : w2.cell? ⟨z + 1 + 1, 0, none⟩ = some (.func (.func 31) #[.pointer (some ⟨K, 0, none⟩)] #[]) := HI2.out.b2.cell 0 rfl; have zl := HI2.out.b2.lt
      gi_wp2_with fail
      refine ⟨trivial, CallsIn.inRound y (callsIn_wide.2 ((KeepC K D dn dc E m k q (.inl rfl) HI2.out.row HI2.out.bk (by have h1 := HPV2.out.l; have h2 := HLQ.out.2.1; omega) (by have h1 := HPV2.out.dl; have h2 := HLQ.out.2.2; omega) HLQ.out.1 (by have := HGL.out; omega) HPV2.out).mono ?_))⟩
      rintro e w3 he
      obtain ⟨rfl, h1, h2, h3⟩ := sp_keep (Bs := Bs) (i := i) HI2.out HBUB.out HLEN.out HLG.out HQL.out HLQ.out (.inl HBI.out) HAB.out he
      clear e0 e1 e2 e3 e4 el z2 zl he
      gi_wp2_with fail
      exact ⟨(keepsFrom_below _ HB2.out).trans (h1 _), kpA_t (kpA_below HB2.out) h2, h3⟩
    | false =>
      obtain ⟨os, hos⟩ : ∃ o, step g q = o := ⟨_, rfl⟩
      have HOS := Lib.hid hos
      have PC := Lib.hid (HP.out (RS K z) w2 v u g s D dn dc E m k q (.inl rfl) HI2.out.row HI2.out.bk HLQ.out HLG.out (by have := HGL.out; omega) HPV2.out)
      rw [hos] at PC
      have z1 := HI2.out.b1.cell 0 rfl; have zl := HI2.out.b1.lt
      have hpe := HPE.out
      clear hos
      gi_wp2_with fail
      clear hpe
      refine ⟨trivial, CallsIn.inRound y (callsIn_wide.2 (PC.out.mono ?_))⟩
      rintro e w3 ⟨D1, d1, c1, E1, m1, k1, v3, he, hnx, hr3, hk3, hm3⟩
      have HNX := Lib.hid hnx
      have HBX3 := Lib.hid (hm3.blk HBX2.out (blk_two HBX2.out HI2.out.bk (by decide)))
      have HI3 := Lib.hid (HI2.out.to hr3 hk3 (hm3.mono fun b e => .inl e))
      have HKF3 : Hid (∀ B, KeepsFrom B X w3) := Lib.hid (fun B => (keepsFrom_below B HB2.out).trans (hm3.keeps (fun b e => by subst e; exact ⟨_, _, _, HI2.out.bk⟩) B))
      have HKP3 : Hid (KpA Bs A X w3) := Lib.hid (kpA_t (kpA_below HB2.out) (HI2.out.kpA (hm3.mono fun b e => .inl e) HAB.out))
      clear e0 e1 e2 e3 e4 el z1 zl hm3 hr3 hk3 hnx PC
      cases os with
      | none =>
        obtain rfl : e = .returned (.tuple #[.agg #[.int .i64 0, .int .i64 0, .slice D1 d1 c1, .string ⟨#[]⟩, .slice E1 m1 k1], .bool false]) := he
        replace HI3 : Hid (SpI w K z (.slice A' n' c') (.func (.func pf) #[.pointer (some ⟨K, 0, none⟩)] #[]) (.func (.func 31) #[.pointer (some ⟨K, 0, none⟩)] #[]) v3 u g s w3) := HI3
        have e0 := HBX3.out.cell 0 rfl; have e1 := HBX3.out.cell 1 rfl; have e2 := HBX3.out.cell 2 rfl; have e3 := HBX3.out.cell 3 rfl; have e4 := HBX3.out.cell 4 rfl; have el := HBX3.out.lt
        have z2 : w3.cell? ⟨z + 1 + 1, 0, none⟩ = some (.func (.func 31) #[.pointer (some ⟨K, 0, none⟩)] #[]) := HI3.out.b2.cell 0 rfl; have zl : z + 1 + 1 < w3.heap.size := HI3.out.b2.lt
        gi_wp2_with fail
        have hba : Below w3.heap.size w3 (w3.alloc (.cells #[.int .i64 0, .int .i64 0, .slice D1 d1 c1, .string ⟨#[]⟩, .slice E1 m1 k1] 45)) := (Below.refl _ _).alloc (Nat.le_refl _) _
        have HI4 := Lib.hid (HI3.out.below hba); have HBA := Lib.hid hba
        have HPV4 := Lib.hid (nv_base HPV0.out HI.out.row.bw HI4.out.row.bw)
        clear e0 e1 e2 e3 e4 el z2 zl hba
        generalize (w3.alloc (.cells #[.int .i64 0, .int .i64 0, .slice D1 d1 c1, .string ⟨#[]⟩, .slice E1 m1 k1] 45)) = w4 at HBA HI4 HPV4 ⊢
        refine ⟨trivial, CallsIn.inRound y (callsIn_wide.2 ((KeepC K D dn dc E m k q (.inl rfl) HI4.out.row HI4.out.bk (by have h1 := HPV4.out.l; have h2 := HLQ.out.2.1; omega) (by have h1 := HPV4.out.dl; have h2 := HLQ.out.2.2; omega) HLQ.out.1 (by have := HGL.out; omega) HPV4.out).mono ?_))⟩
        rintro e w9 he
        obtain ⟨rfl, h1, h2, h3⟩ := sp_keep (Bs := Bs) (i := i) HI4.out HBUB.out HLEN.out HLG.out HQL.out HLQ.out (.inr HOS.out) HAB.out he
        clear he
        gi_wp2_with fail
        exact ⟨((HKF3.out _).trans (keepsFrom_below _ HBA.out)).trans (h1 _), kpA_t (kpA_t HKP3.out (kpA_below HBA.out)) h2, h3⟩
      | some zx =>
        obtain ⟨x, g'⟩ := zx
        obtain rfl : e = .returned (.tuple #[nmV x.id D1 d1 c1 x.txt E1 m1 k1, .bool true]) := he
        replace HI3 : Hid (SpI w K z (.slice A' n' c') (.func (.func pf) #[.pointer (some ⟨K, 0, none⟩)] #[]) (.func (.func 31) #[.pointer (some ⟨K, 0, none⟩)] #[]) v3 u g' s w3) := HI3
        replace HNX : Hid (NG w3 (PR (RS K z) w3 v3 u) D1 d1 c1 E1 m1 k1 x) := HNX
        have hbb := two_box w3 (.cells #[.int .i64 x.id.1, .int .i64 x.id.2, .slice D1 d1 c1, strV x.txt, .slice E1 m1 k1] 45) (.cells #[.int .i64 x.id.1, .int .i64 x.id.2, .slice D1 d1 c1, strV x.txt, .slice E1 m1 k1] 45)
        have HI5 := Lib.hid (HI3.out.below hbb); have HBB := Lib.hid hbb
        have b5 := Blk.new (w3.alloc (.cells #[.int .i64 x.id.1, .int .i64 x.id.2, .slice D1 d1 c1, strV x.txt, .slice E1 m1 k1] 45)) 45 (Tg.nmC x D1 d1 c1 E1 m1 k1)
        rw [World.size_alloc] at b5
        have HSR := Lib.hid (one_src b5 ((HNX.out.to_ ((alike_below hbb).mono pr_lt)).mono fun b hb => pr_swap b (pr_size hbb.size b hb)))
        have HSS : Hid (∀ b, PR (RS K z) ((w3.alloc (.cells #[.int .i64 x.id.1, .int .i64 x.id.2, .slice D1 d1 c1, strV x.txt, .slice E1 m1 k1] 45)).alloc (.cells #[.int .i64 x.id.1, .int .i64 x.id.2, .slice D1 d1 c1, strV x.txt, .slice E1 m1 k1] 45)) u v3 b → b < ((w3.alloc (.cells #[.int .i64 x.id.1, .int .i64 x.id.2, .slice D1 d1 c1, strV x.txt, .slice E1 m1 k1] 45)).alloc (.cells #[.int .i64 x.id.1, .int .i64 x.id.2, .slice D1 d1 c1, strV x.txt, .slice E1 m1 k1] 45)).heap.size ∧ some b ≠ u.ownBlock) := Lib.hid (fun b hb => ⟨hb.1, hb.2.2.1⟩)
        have HBS := Lib.hid HI5.out.row.bw.size
        have HSN : Hid (s.length + 1 ≤ 100000) := Lib.hid (by have := HSL.out; omega)
        have HOW := Lib.hid HI5.out.row.swap.a
        have z3 : w3.cell? ⟨z + 1 + 1 + 1, 0, none⟩ = some u := HI3.out.bf.cell 0 rfl; have zl : z + 1 + 1 + 1 < w3.heap.size := HI3.out.bf.lt
        have zl1 := Nat.lt_succ_of_lt zl
        clear hbb b5
        gi_wp2_with (gi_at_builtin; refine wpListIn_ownT rfl (.tmp 31) (.tmp 33) rfl (PR (RS K z) ((w3.alloc (.cells #[.int .i64 x.id.1, .int .i64 x.id.2, .slice D1 d1 c1, strV x.txt, .slice E1 m1 k1] 45)).alloc (.cells #[.int .i64 x.id.1, .int .i64 x.id.2, .slice D1 d1 c1, strV x.txt, .slice E1 m1 k1] 45)) u v3) w.heap.size 1 1 u (some ⟨w3.heap.size + 1, 0, none⟩) s [x] rfl rfl HOW.out HSR.out rfl HSN.out HSS.out HBS.out ?_; intro u9 w9 ho hg hw; obtain ⟨A9, c9, hv9, hc9⟩ := Tg.ownT_slice ho; obtain ⟨n9, hn9⟩ : ∃ n, List.length (s ++ [x]) = n := ⟨_, rfl⟩; rw [hn9] at hv9; clear hn9 hc9; subst hv9; have HO9 := Lib.hid ho; have HG9 := Lib.hid hg; have HW9 := Lib.hid hw; have bF := HI5.out.free_box hg; have y3 : w9.cell? ⟨z + 1 + 1 + 1, 0, none⟩ = some u := bF.cell 0 rfl; have yf : w9.frozen? ⟨z + 1 + 1 + 1, 0, none⟩ = false := bF.frozen 0; have yl : z + 1 + 1 + 1 < w9.heap.size := bF.lt; clear ho hg hw bF)
        have hst := HST.out g q x g' HOS.out HLQ.out HLG.out
        refine ⟨((HKF3.out _).trans (keepsFrom_below _ HBB.out)).trans ((HI5.out.mine_free HG9.out).keeps HI5.out.free_cells _), kpA_t (kpA_t HKP3.out (kpA_below HBB.out)) (HI5.out.kpF (HI5.out.mine_free HG9.out) HAB.out (by have := HBL.out; have := HZ.out; omega)), v3, _, g', s ++ [x], HI5.out.free HO9.out HG9.out HW9.out (by have := HKL.out; have := HZ.out; omega), ?_, ?_, hst.2⟩
        · have hb := HBUB.out
          rw [drop_at HQL.out, bub_go HBI.out HOS.out] at hb
          rw [List.length_append, List.length_singleton]
          exact hb
        · have := HLEN.out
          rw [List.length_append, List.length_append, List.length_singleton, List.length_singleton, hst.1]; omega
  case done =>
    rintro E9 W9 hE hI hK
    obtain ⟨v, u, g, s, hI, hbub, _⟩ := hI
    rw [HFN.out, List.drop_of_length_le (by rw [HLLN.out]; exact Nat.le_refl _)] at hbub
    have hbub : (s, g) = (S, G) := hbub
    injection hbub with h1 h2
    subst h1 h2
    have f0 := hI.bf.cell 0 rfl; have fl := hI.bf.lt
    have HI := Lib.hid hI
    clear hI
    gi_wp2
    refine ⟨by simp, .inl ⟨_, _, rfl, run_takeDeferred hK, ?_⟩⟩
    have hpg := grownBy_putObj' W9 E9 (.deferred none)
    have hpr : ∀ r, some E9 = some r → ∃ o : Obj, W9.heap[r]? = some o ∧ o.isCells = false := fun r e => by injection e with e; subst e; exact ⟨_, hK, rfl⟩
    have h9 := HI.out.plain hpg hpr (fun r e => by injection e with e; have := HSZ.out; omega)
    clear hK hpr hpg f0 fl
    generalize (World.putObj W9 E9 (.deferred none)) = Wf at *
    refine ⟨u, by simp [results, Try.results28, go_sem], v, u, rfl, h9.row.less (fun b e => .inl e), h9.bk⟩
  case stop =>
    rintro E9 c' pre post W9 hE hpp hf
    exact hf.elim

end Bb
end Go.Proofs.Ytdnkinajbebkoaa

set_option maxRecDepth 100000
namespace Go.Proofs.Ytdnkinajbebkoaa
open Go.RowKit Go.Shelf
set_option linter.unusedVariables false
set_option linter.unusedSimpArgs false
namespace Bb
open Tx Df Sq Hk Tr Pr Rg Fl Pn Tg
attribute [local go_sem] Oper.semAt_some

set_option maxRecDepth 100000 in
set_option maxHeartbeats 8000000 in
theorem BehindC {R : Nat → Prop} {w W : World} {v u : Value} {s gl : List Nm} (K : Nat) (D : Option Addr) (dn dc : Nat) (E : Option Addr) (m k : Nat) (p : Nm) (hR : R K) (h : Rows3 R w W v u gl s) (hb : Blk W K 58 #[v]) (hp : Tg.Lit p) (hg : ∀ x ∈ gl, Tg.Lit x) (hgl : gl.length ≤ 1000) (hv : NV W W.heap.size D dn dc E m k p) :
    Calls Try.prog 36 #[.pointer (some ⟨K, 0, none⟩), nmV p.id D dn dc p.txt E m k] W (GoneEnd R K w v u gl s ((undN p gl.reverse).map fun z => (z.2, z.1.reverse)) W) := by
  obtain ⟨Av, cv, rfl, hcv, hrd⟩ := Tg.rdN_ownT h.a pr_lt
  obtain ⟨nv, hnv⟩ : ∃ nv, gl.length = nv := ⟨_, rfl⟩
  rw [hnv] at h hb hcv hgl ⊢
  have HLN := Lib.hid hnv
  obtain ⟨b0, b1, b2, hba⟩ := three_blk W 45 45 4 #[.int .i64 p.id.1, .int .i64 p.id.2, .slice D dn dc, strV p.txt, .slice E m k] #[.int .i64 0, .int .i64 0, .slice none 0 0, .string ⟨#[]⟩, .slice none 0 0] #[.bool false]
  have hs1 : (((W.alloc (.cells #[.int .i64 p.id.1, .int .i64 p.id.2, .slice D dn dc, strV p.txt, .slice E m k] 45)).alloc (.cells #[.int .i64 0, .int .i64 0, .slice none 0 0, .string ⟨#[]⟩, .slice none 0 0] 45)).alloc (.cells #[.bool false] 4)).heap.size = W.heap.size + 3 := by simp
  have HRK := Lib.hid hR; have HROW := Lib.hid h; have HBK := Lib.hid hb
  have HLK : Hid (K < W.heap.size) := Lib.hid hb.lt
  have HLP := Lib.hid hp; have HLG := Lib.hid hg
  have HRD := Lib.hid (RdN.mv hrd hba); have HV := Lib.hid (NV.mv hv hba)
  clear hnv hb h hcv hR hp hg hrd hv
  refine (callsIn_wide (n := 4)).1 ?_
  refine callsIn_of_wp_marks Try.func36 rfl trivial ?_ rfl
  simp only [Try.ntmps36, List.size_toArray, List.length_cons, List.length_nil, Nat.reduceAdd, Nat.reduceSub, Array.replicate_succ, Array.replicate_zero, List.push_toArray, List.append_toArray, List.nil_append, List.cons_append]
  gi_wp2_with fail
  generalize (((W.alloc (.cells #[.int .i64 p.id.1, .int .i64 p.id.2, .slice D dn dc, strV p.txt, .slice E m k] 45)).alloc (.cells #[.int .i64 0, .int .i64 0, .slice none 0 0, .string ⟨#[]⟩, .slice none 0 0] 45)).alloc (.cells #[.bool false] 4)) = w1 at b0 b1 b2 hba hs1 HRD HV ⊢
  obtain ⟨z, hz⟩ : ∃ z, W.heap.size = z := ⟨_, rfl⟩
  rw [hz] at b0 b1 b2 hs1 ⊢
  have HZ := Lib.hid hz; have HB0 := Lib.hid b0; have HB1 := Lib.hid b1; have HB2 := Lib.hid b2; have HBA := Lib.hid hba; have HS1 := Lib.hid hs1
  have HK1 := Lib.hid (HBK.out.below hba HBK.out.lt)
  have HKZ : Hid (K < z) := Lib.hid (by have := HLK.out; omega)
  have HR1 : Hid (Rows3 (fun b => R b ∨ b = z ∨ b = z + 1 ∨ b = z + 1 + 1) w w1 (.slice Av nv cv) u gl s) := Lib.hid (HROW.out.more (fun b e => e.imp id fun e => by rcases e with e | e | e <;> omega) hba (fun b e => by rcases e with e | e | e | e; (have := (HROW.out.rl b e).2; omega); omega; omega; omega))
  clear hz b0 b1 b2 hba hs1
  refine ⟨trivial, callsIn_wide.2 ((OwnNC D dn dc E m k p w1 (by have h1 := HV.out.l; have h2 := HLP.out.2.1; omega) (by have h1 := HV.out.dl; have h2 := HLP.out.2.2; omega) HLP.out.1 HV.out).mono ?_)⟩
  rintro e u1 ⟨D1, c1, A1, k1, rfl, hn, hb1⟩
  have HN := Lib.hid hn; have HU1 := Lib.hid hb1
  have kk := HK1.out.below hb1 HK1.out.lt
  have kk0 := kk.cell 0 rfl; have kkl := kk.lt; have kkl1 := Nat.lt_succ_of_lt kkl; have kkl2 := Nat.lt_succ_of_lt kkl1
  clear hn hb1 kk
  obtain ⟨j0, hj, hy0, hy1, hy2⟩ := info_parts info_named
  have hmk : ∀ W : World, (Instr.makeSlice 22 (.int .i64 (nv : Int)) (.int .i64 (nv : Int))).run Try.prog W = .ok (.slice (some ⟨W.heap.size, 0, none⟩) nv nv) (W.alloc (.cells (madeCells #[.int .i64 0, .int .i64 0, .slice none 0 0, .string ⟨#[]⟩, .slice none 0 0] (nv * 5)) 45)) := by
    intro W
    have := run_make (P := Try.prog) W 22 45 j0 _ Try.underlying22 hj hy0 .i64 .i64 (nv : Int) (nv : Int) (by omega) (by omega) (by rw [hy2]; omega) (by omega)
    simp only [Int.toNat_natCast, hy1] at this
    exact this
  gi_wp2_with fail
  refine ⟨trivial, ?_⟩
  refine (backN_in 3 Av nv cv _).mono ?_
  rintro e w' ⟨rfl, rfl⟩
  gi_wp2
  have hst := uv_start HN.out HU1.out HRD.out HLN.out hgl HLP.out cv
  dsimp only [Tg.nmC, noC] at hst
  have HF0 := Lib.hid (HU1.out.size)
  obtain ⟨F, hF⟩ : ∃ F, u1.heap.size = F := ⟨_, rfl⟩
  rw [hF] at hst HF0
  rw [hF]
  obtain ⟨g, hg⟩ : ∃ g, F + 1 = g := ⟨_, rfl⟩
  rw [hg] at hst
  rw [hg]
  generalize ((((u1.alloc (.cells #[.int .i64 p.id.1, .int .i64 p.id.2, .slice D1 dn c1, strV p.txt, .slice A1 m k1] 45)).alloc (.cells (madeCells #[.int .i64 0, .int .i64 0, .slice none 0 0, .string ⟨#[]⟩, .slice none 0 0] (nv * 5)) 45)).alloc (.cells #[.slice (some ⟨g, 0, none⟩) nv nv] 22)).alloc (.cells #[.slice Av nv cv] 22)) = w5 at hst ⊢
  obtain ⟨hst, hbs, hsz, hc5⟩ := hst
  have HSZ := Lib.hid hsz; have HFG := Lib.hid hg; have HC5 := Lib.hid hc5
  have hzf : z + 3 ≤ F := by rw [← HS1.out]; exact HF0.out
  clear hmk hF hg hj hy0 hy1 hy2 kk0 kkl kkl1 kkl2 HN HU1 hc5
  refine range_law (n := 4) (gf := 56) (lb := #[.pointer (some ⟨g + 1 + 1, 0, none⟩)]) rfl (enters_of Try.func56 (by kernel_rfl) rfl) (Free := Plain) (fun _ h => h)
    (backN_gives 3 (g + 1 + 1) cv nv Av (by omega) w5 hbs HC5.out) kpN_t (kpN_b (by rw [hsz]; have := HFG.out; omega)) (fun x vals W h => by obtain ⟨_, _, _, _, _, _, _, _, rfl, _⟩ := h; rfl)
    (UvJ w1 F g nv gl p dn m) (UvX (fun b => R b ∨ b = z ∨ b = z + 1 ∨ b = z + 1 + 1) K z w W (.slice Av nv cv) u gl s p) (uvJ_ab (by rw [hsz]; have := HS1.out; omega)) (uvX_ab (by rw [hsz]; have := HROW.out.bw.size; have := HZ.out; omega) (by rw [hsz]; have := HZ.out; omega)) hst
    (fun i a' X => ∃ b v0 v1 v2 v3 v4, a' = { tmps := #[.pointer (some ⟨K, 0, none⟩), nmV p.id D dn dc p.txt E m k, undef, .pointer (some ⟨z, 0, none⟩), .pointer (some ⟨z + 1, 0, none⟩), .pointer (some ⟨z + 1 + 1, 0, none⟩), .pointer (some ⟨F, 0, none⟩), .pointer (some ⟨g + 1, 0, none⟩), .int .i64 (i : Int), .pointer (some ⟨b, 0, none⟩), undef, undef, undef, nmV p.id D dn dc p.txt E m k, nmV p.id D1 dn c1 p.txt A1 m k1, .pointer (some ⟨K, 0, none⟩), .pointer (some ⟨K, 0, none⟩), .pointer (some ⟨K, 0, none⟩), .slice Av nv cv, .int .i64 (nv : Int), .slice (some ⟨g, 0, none⟩) nv nv, .pointer (some ⟨K, 0, none⟩), .pointer (some ⟨K, 0, none⟩), .pointer (some ⟨K, 0, none⟩), .slice Av nv cv, .func (.func 56) #[] #[.pointer (some ⟨g + 1 + 1, 0, none⟩)], .int .i64 (i : Int), .agg #[v0, v1, v2, v3, v4], undef, undef, undef, undef, undef, undef, undef, undef, undef, undef, undef, undef, undef, undef, undef, undef, undef, undef, undef, undef], defers := [] } ∧ EN nv Av i #[.int .i64 (i : Int), .agg #[v0, v1, v2, v3, v4]] X ∧ Blk X b 45 #[v0, v1, v2, v3, v4])
    (fun i a' => ab_ex fun b => ab_ex fun v0 => ab_ex fun v1 => ab_ex fun v2 => ab_ex fun v3 => ab_ex fun v4 => Ab.and (ab_pure _ _ _) (Ab.and ab_EN (ab_blk fun _ => _))) ?assign ?body ?done ?stop
  case assign =>
    rintro y pre i vals X Kc hi hEL hK
    obtain ⟨x, post, Dx, dcx, Ex, kx, hI⟩ := id hi
    obtain ⟨q, D', dn', dc', E', m', k', hq, rfl, hv⟩ := EN.rd hEL (RdN.below HRD.out hI.fr) HLN.out
    clear hI hq hv
    gi_wp2
    exact hK _ _ ((KeepsOthers.alloc X _).from _) (kpN_new (World.grownBy_alloc X _ none)) ((uvJ_ab (Nat.le_refl _)).alloc _ hi) ⟨_, _, _, _, _, _, rfl, ab_EN.alloc (s := ()) (B := 0) _ hEL, Blk.new _ _ _⟩
  case body =>
    rintro y pre pst i a' X hfull hI ⟨b, v0, v1, v2, v3, v4, rfl, hEL, hb⟩
    have hi := dn_split hfull
    clear hfull
    obtain ⟨x, post, Dx, dcx, Ex, kx, hI⟩ := hI
    rw [show nv - pre.length = i + 1 by omega] at hI
    have hrx := RdN.below HRD.out hI.fr
    obtain ⟨q, D', dn', dc', E', m', k', hq, hv, hqv⟩ := EN.rd hEL hrx HLN.out
    obtain ⟨rfl, rfl, rfl, rfl, rfl⟩ := valsN_eq hv
    have HPL := Lib.hid hq; have HI := Lib.hid hI; have HB := Lib.hid hb
    have HLQ := Lib.hid (HLG.out q (List.mem_of_getElem? hq))
    have HPV := Lib.hid (hqv.up hI.fr.size)
    clear hqv hq hv hEL hrx
    obtain ⟨x1, y1, ho⟩ : ∃ x1 y1, outN (passN x q) = (x1, y1) := ⟨_, _, rfl⟩
    obtain ⟨bo, hbo⟩ : ∃ bo, (passN x q).isSome = bo := ⟨_, rfl⟩
    have HO := Lib.hid ho; have HBO := Lib.hid hbo
    clear ho hbo
    have PC := Lib.hid (PassN Dx dn dcx Ex m kx D' dn' dc' E' m' k' x q x1 y1 X bo (by have h1 := hI.ng.l; have h2 := hI.lx.2.1; omega) (by have h1 := HPV.out.l; have h2 := HLQ.out.2.1; omega) (by have h1 := hI.ng.dl; have h2 := hI.lx.2.2; omega) (by have h1 := HPV.out.dl; have h2 := HLQ.out.2.2; omega) hI.lx.1 HLQ.out.1 (hI.ng.mono but_lt).nv HPV.out HO.out HBO.out)
    have e0 := hb.cell 0 rfl; have e1 := hb.cell 1 rfl; have e2 := hb.cell 2 rfl; have e3 := hb.cell 3 rfl; have e4 := hb.cell 4 rfl
    have hbf := hI.bf
    have q0 := hbf.cell 0 (u := .int .i64 x.id.1) rfl; have q1 := hbf.cell 1 (u := .int .i64 x.id.2) rfl; have q2 := hbf.cell 2 (u := .slice Dx dn dcx) rfl; have q3 := hbf.cell 3 (u := strV x.txt) rfl; have q4 := hbf.cell 4 (u := .slice Ex m kx) rfl
    have l0 := hbf.lt; have l9 := hb.lt
    clear hI hb hbf
    gi_wp2_with fail
    refine ⟨trivial, CallsIn.inRound y (callsIn_wide.2 (PC.out.mono ?_))⟩
    rintro e w2 ⟨D1, d1, c1, E1, m1, k1, D2, d2, c2, E2, m2, k2, rfl, n1, n2, hb2⟩
    clear e0 e1 e2 e3 e4 q0 q1 q2 q3 q4 PC l0 l9
    have hbx := below_mv HI.out.fr hb2
    have HB2' := Lib.hid hb2; have HN1 := Lib.hid n1; have HN2 := Lib.hid n2; have HBX := Lib.hid hbx
    clear n1 n2 hb2 hbx
    cases bo with
    | false =>
      have hr0 := HB1.out.below HBX.out HB1.out.lt; have hr2 := HB2.out.below HBX.out HB2.out.lt
      have r0 := hr0.cell 0 (u := .int .i64 0) rfl; have r1 := hr0.cell 1 (u := .int .i64 0) rfl; have r2 := hr0.cell 2 (u := .slice none 0 0) rfl; have r3 := hr0.cell 3 (u := .string ⟨#[]⟩) rfl; have r4 := hr0.cell 4 (u := .slice none 0 0) rfl; have f0 := hr0.frozen 0; have f1 := hr0.frozen 1; have f2 := hr0.frozen 2; have f3 := hr0.frozen 3; have f4 := hr0.frozen 4
      have t0 := hr2.cell 0 (u := .bool false) rfl; have h0 := hr2.frozen 0
      have hlt1 := hr0.lt; have hlt2 := hr2.lt; have hltz := Nat.lt_of_succ_lt hr0.lt
      clear hr0 hr2
      gi_wp2_with fail
      have HNN : Hid (passN x q = none) := Lib.hid (by
        have h := HBO.out
        cases hp : passN x q with
        | none => rfl
        | some z => rw [hp] at h; cases h)
      clear r0 r1 r2 r3 r4 f0 f1 f2 f3 f4 t0 h0 hlt1 hlt2 hltz
      have HUN : Hid (undN p gl.reverse = none) := Lib.hid (by
        obtain ⟨t, ht⟩ := rev_split HPL.out
        rw [ht]
        exact und_snoc_none HI.out.eq HNN.out t)
      exact uv_no HR1.out HK1.out HKZ.out (.inr (.inr (.inl rfl))) (.inr (.inr (.inr rfl))) HZ.out HBA.out HB1.out HB2.out HI.out.fr HB2'.out HUN.out _ _
    | true =>
      have HSM : Hid (passN x q = some (x1, y1)) := Lib.hid (by
        have h := HBO.out; have ho := HO.out
        cases hp : passN x q with
        | none => rw [hp] at h; cases h
        | some z => rw [hp] at ho; exact congrArg some ho)
      obtain ⟨hid, hdp, htx, hll⟩ := (passN_keeps HSM.out).2
      obtain rfl : dn = d2 := by rw [← HN2.out.dl, hdp, HI.out.ng.dl]
      obtain rfl : m = m2 := by rw [← HN2.out.l, hll, HI.out.ng.l]
      clear hid hdp htx hll
      gi_wp2_with fail
      have b3 := (Blk.new w2 45 #[.int .i64 x1.id.1, .int .i64 x1.id.2, .slice D1 d1 c1, strV x1.txt, .slice E1 m1 k1]).alloc (.cells #[.int .i64 y1.id.1, .int .i64 y1.id.2, .slice D2 dn c2, strV y1.txt, .slice E2 m k2] 45)
      have b4 := Blk.new (w2.alloc (.cells #[.int .i64 x1.id.1, .int .i64 x1.id.2, .slice D1 d1 c1, strV x1.txt, .slice E1 m1 k1] 45)) 45 #[.int .i64 y1.id.1, .int .i64 y1.id.2, .slice D2 dn c2, strV y1.txt, .slice E2 m k2]
      have hb4 : Below w2.heap.size w2 ((w2.alloc (.cells #[.int .i64 x1.id.1, .int .i64 x1.id.2, .slice D1 d1 c1, strV x1.txt, .slice E1 m1 k1] 45)).alloc (.cells #[.int .i64 y1.id.1, .int .i64 y1.id.2, .slice D2 dn c2, strV y1.txt, .slice E2 m k2] 45)) := two_box _ _ _
      simp only [World.size_alloc] at b4
      generalize ((w2.alloc (.cells #[.int .i64 x1.id.1, .int .i64 x1.id.2, .slice D1 d1 c1, strV x1.txt, .slice E1 m1 k1] 45)).alloc (.cells #[.int .i64 y1.id.1, .int .i64 y1.id.2, .slice D2 dn c2, strV y1.txt, .slice E2 m k2] 45)) = w4 at b3 b4 hb4 ⊢
      have hw4 := hb4.size
      have HBB := Lib.hid (HI.out.bb.below HB2'.out HI.out.bb.lt); have HBF := Lib.hid (HI.out.bf.below HB2'.out HI.out.bf.lt)
      generalize hz2 : w2.heap.size = z2 at b3 b4 hw4 ⊢
      have hz0 : g + 1 < z2 := by rw [← hz2]; exact HBB.out.lt
      have HB4 := Lib.hid hb4
      have k4 := HBB.out.below hb4 HBB.out.lt
      have HSB : Hid (∀ Y : World, Blk Y (g + 1) 22 #[.slice (some ⟨g, 0, none⟩) nv nv] → Blk Y z2 45 #[.int .i64 x1.id.1, .int .i64 x1.id.2, .slice D1 d1 c1, strV x1.txt, .slice E1 m1 k1] → Blk Y (z2 + 1) 45 #[.int .i64 y1.id.1, .int .i64 y1.id.2, .slice D2 dn c2, strV y1.txt, .slice E2 m k2] → Y.cell? ⟨g + 1, 0, none⟩ = some (.slice (some ⟨g, 0, none⟩) nv nv) ∧ Y.cell? ⟨z2, 0, none⟩ = some (.int .i64 x1.id.1) ∧ Y.cell? ⟨z2, 1, none⟩ = some (.int .i64 x1.id.2) ∧ Y.cell? ⟨z2, 2, none⟩ = some (.slice D1 d1 c1) ∧ Y.cell? ⟨z2, 3, none⟩ = some (strV x1.txt) ∧ Y.cell? ⟨z2, 4, none⟩ = some (.slice E1 m1 k1) ∧ Y.cell? ⟨z2 + 1, 0, none⟩ = some (.int .i64 y1.id.1) ∧ Y.cell? ⟨z2 + 1, 1, none⟩ = some (.int .i64 y1.id.2) ∧ Y.cell? ⟨z2 + 1, 2, none⟩ = some (.slice D2 dn c2) ∧ Y.cell? ⟨z2 + 1, 3, none⟩ = some (strV y1.txt) ∧ Y.cell? ⟨z2 + 1, 4, none⟩ = some (.slice E2 m k2)) := Lib.hid (fun Y h1 h2 h3 => ⟨h1.cell 0 rfl, h2.cell 0 rfl, h2.cell 1 rfl, h2.cell 2 rfl, h2.cell 3 rfl, h2.cell 4 rfl, h3.cell 0 rfl, h3.cell 1 rfl, h3.cell 2 rfl, h3.cell 3 rfl, h3.cell 4 rfl⟩)
      have hfg := HI.out.pos.2
      have STEP := Lib.hid (uv_step HI.out HB2'.out hb4 HN1.out HN2.out HPL.out HLQ.out HSM.out)
      have HK6 := Lib.hid (blk_row5 k4 (g := g) (by omega) i (.int .i64 x1.id.1) (.int .i64 x1.id.2) (.slice D1 d1 c1) (strV x1.txt) (.slice E1 m1 k1))
      have HX6 := Lib.hid (blk_row5 b3 (g := g) (by omega) i (.int .i64 x1.id.1) (.int .i64 x1.id.2) (.slice D1 d1 c1) (strV x1.txt) (.slice E1 m1 k1))
      have HY6 := Lib.hid (blk_row5 b4 (g := g) (by omega) i (.int .i64 x1.id.1) (.int .i64 x1.id.2) (.slice D1 d1 c1) (strV x1.txt) (.slice E1 m1 k1))
      obtain ⟨kk0, e0, e1, e2, e3, e4, yy0, yy1, yy2, yy3, yy4⟩ := HSB.out w4 k4 b3 b4
      have hrow4 := HI.out.row.below (HB2'.out.trans (hb4.mono HB2'.out.size))
      obtain ⟨_, _, _, _, _, _, c0, c1', c2', c3', c4', cf, _⟩ := hrow4.elem (k := i) (x := noN) (by rw [List.length_append, List.length_replicate]; exact HI.out.pl) (by rw [List.getElem?_append_left (by simp), List.getElem?_replicate, if_pos (by omega)])
      have f0 := cf (i * 5); have f1 := cf (i * 5 + 1); have f2 := cf (i * 5 + 2); have f3 := cf (i * 5 + 3); have f4 := cf (i * 5 + 4)
      have hin : (i : Int) < (nv : Int) := by omega
      have hg4 : g < w4.heap.size := by omega
      clear k4 b3 b4 hb4 hrow4 cf
      refine round_held (S := fun Y : World => Y.cell? ⟨g + 1, 0, none⟩ = some (.slice (some ⟨g, 0, none⟩) nv nv) ∧ Y.cell? ⟨z2, 0, none⟩ = some (.int .i64 x1.id.1) ∧ Y.cell? ⟨z2, 1, none⟩ = some (.int .i64 x1.id.2) ∧ Y.cell? ⟨z2, 2, none⟩ = some (.slice D1 d1 c1) ∧ Y.cell? ⟨z2, 3, none⟩ = some (strV x1.txt) ∧ Y.cell? ⟨z2, 4, none⟩ = some (.slice E1 m1 k1) ∧ Y.cell? ⟨z2 + 1, 0, none⟩ = some (.int .i64 y1.id.1) ∧ Y.cell? ⟨z2 + 1, 1, none⟩ = some (.int .i64 y1.id.2) ∧ Y.cell? ⟨z2 + 1, 2, none⟩ = some (.slice D2 dn c2) ∧ Y.cell? ⟨z2 + 1, 3, none⟩ = some (strV y1.txt) ∧ Y.cell? ⟨z2 + 1, 4, none⟩ = some (.slice E2 m k2)) (by kernel_rfl) (by kernel_rfl) ?hq ?hS (fun hS0 => ?_)
      case hq => rintro ⟨_, _, h⟩; exact h
      case hS => exact ⟨kk0, e0, e1, e2, e3, e4, yy0, yy1, yy2, yy3, yy4⟩
      refine wpAnyH_take (i := 0) (v := ?_) rfl (by kernel_rfl) (by kernel_rfl) (by kernel_rfl) (fun _ _ _ h => h) (Or.inl ⟨by rfl, ?_⟩) hS0 ?_
      rotate_left
      · intro Y hY
        obtain ⟨s0, s1, s2, s3, s4, s5, s6, s7, s8, s9, s10⟩ := hY
        go_simp
        try with_reducible rfl
      simp only [Act.put, List.getElem_toArray, List.getElem_cons_succ, List.getElem_cons_zero, List.setIfInBounds_toArray, List.set_cons_succ, List.set_cons_zero]
      refine wpAnyH_take (i := 1) (v := ?_) rfl (by kernel_rfl) (by kernel_rfl) (by kernel_rfl) (fun _ _ _ h => h) (Or.inl ⟨by rfl, ?_⟩) hS0 ?_
      rotate_left
      · intro Y hY
        obtain ⟨s0, s1, s2, s3, s4, s5, s6, s7, s8, s9, s10⟩ := hY
        go_simp
        try with_reducible rfl
      simp only [Act.put, List.getElem_toArray, List.getElem_cons_succ, List.getElem_cons_zero, List.setIfInBounds_toArray, List.set_cons_succ, List.set_cons_zero]
      refine wpAnyH_take (i := 2) (v := ?_) rfl (by kernel_rfl) (by kernel_rfl) (by kernel_rfl) (fun _ _ _ h => h) (Or.inl ⟨by rfl, ?_⟩) hS0 ?_
      rotate_left
      · intro Y hY
        obtain ⟨s0, s1, s2, s3, s4, s5, s6, s7, s8, s9, s10⟩ := hY
        go_simp
        try with_reducible rfl
      simp only [Act.put, List.getElem_toArray, List.getElem_cons_succ, List.getElem_cons_zero, List.setIfInBounds_toArray, List.set_cons_succ, List.set_cons_zero]
      refine wpAnyH_take (i := 3) (v := ?_) rfl (by kernel_rfl) (by kernel_rfl) (by kernel_rfl) (fun _ _ _ h => h) (Or.inl ⟨by rfl, ?_⟩) hS0 ?_
      rotate_left
      · intro Y hY
        obtain ⟨s0, s1, s2, s3, s4, s5, s6, s7, s8, s9, s10⟩ := hY
        go_simp
        try with_reducible rfl
      simp only [Act.put, List.getElem_toArray, List.getElem_cons_succ, List.getElem_cons_zero, List.setIfInBounds_toArray, List.set_cons_succ, List.set_cons_zero]
      refine wpAnyH_take (i := 4) (v := ?_) rfl (by kernel_rfl) (by kernel_rfl) (by kernel_rfl) (fun _ _ _ h => h) (Or.inl ⟨by rfl, ?_⟩) hS0 ?_
      rotate_left
      · intro Y hY
        obtain ⟨s0, s1, s2, s3, s4, s5, s6, s7, s8, s9, s10⟩ := hY
        go_simp
        try with_reducible rfl
      simp only [Act.put, List.getElem_toArray, List.getElem_cons_succ, List.getElem_cons_zero, List.setIfInBounds_toArray, List.set_cons_succ, List.set_cons_zero]
      refine wpAnyH_ready (rs := [5]) (by kernel_rfl) (by simp) ?_
      refine AllReadyH.cons rfl (fun K1 hK => ?_) AllReadyH.nil
      go_simp
      obtain ⟨t1, t2, t3, t4⟩ := STEP.out
      clear hS0 kk0 e0 e1 e2 e3 e4 yy0 yy1 yy2 yy3 yy4 c0 c1' c2' c3' c4' f0 f1 f2 f3 f4 hg4 STEP
      generalize (World.setCell (World.setCell (World.setCell (World.setCell (World.setCell w4 ⟨g, i * 5, none⟩ (.int .i64 x1.id.1)) ⟨g, i * 5 + 1, none⟩ (.int .i64 x1.id.2)) ⟨g, i * 5 + 2, none⟩ (.slice D1 d1 c1)) ⟨g, i * 5 + 3, none⟩ (strV x1.txt)) ⟨g, i * 5 + 4, none⟩ (.slice E1 m1 k1)) = w6 at t1 t2 t3 t4 HK6 HX6 HY6 hK ⊢
      refine hK.out _ _ (HSB.out w6.drew (HK6.out.drewN 1) (HX6.out.drewN 1) (HY6.out.drewN 1)) (fun hS1 => ?_)
      clear hK K1
      have q0 := t4.cell 0 (u := .int .i64 x.id.1) rfl; have q1 := t4.cell 1 (u := .int .i64 x.id.2) rfl; have q2 := t4.cell 2 (u := .slice Dx dn dcx) rfl; have q3 := t4.cell 3 (u := strV x.txt) rfl; have q4 := t4.cell 4 (u := .slice Ex m kx) rfl; have f0 := t4.frozen 0; have f1 := t4.frozen 1; have f2 := t4.frozen 2; have f3 := t4.frozen 3; have f4 := t4.frozen 4; have hqlt := t4.lt
      have T1 := Lib.hid t1; have T2 := Lib.hid t2; have T3 := Lib.hid t3
      have hk9 := blk_set5 HK6.out (g := F) (by omega) (.int .i64 y1.id.1) (.int .i64 y1.id.2) (.slice D2 dn c2) (strV y1.txt) (.slice E2 m k2)
      have hx9 := blk_set5 HX6.out (g := F) (by omega) (.int .i64 y1.id.1) (.int .i64 y1.id.2) (.slice D2 dn c2) (strV y1.txt) (.slice E2 m k2)
      have hy9 := blk_set5 HY6.out (g := F) (by omega) (.int .i64 y1.id.1) (.int .i64 y1.id.2) (.slice D2 dn c2) (strV y1.txt) (.slice E2 m k2)
      clear t1 t2 t3 t4
      refine wpAnyH_ready (rs := [6]) (by kernel_rfl) (by simp) ?_
      refine AllReadyH.cons rfl (fun K1 hK => ?_) AllReadyH.nil
      go_simp
      clear q0 q1 q2 q3 q4 f0 f1 f2 f3 f4 hqlt
      generalize (World.setCell (World.setCell (World.setCell (World.setCell (World.setCell w6 ⟨F, 0, none⟩ (.int .i64 y1.id.1)) ⟨F, 1, none⟩ (.int .i64 y1.id.2)) ⟨F, 2, none⟩ (.slice D2 dn c2)) ⟨F, 3, none⟩ (strV y1.txt)) ⟨F, 4, none⟩ (.slice E2 m k2)) = w9 at hk9 hx9 hy9 T1 T2 T3 hK ⊢
      refine hK.out _ _ (HSB.out w9.drew (hk9.drewN 1) (hx9.drewN 1) (hy9.drewN 1)) (fun _ => wpAnyH_done (by kernel_rfl) ?_ _)
      clear hK K1 hS1
      have hj : nv - (pre ++ [i]).length = i := by rw [List.length_append, List.length_singleton]; omega
      have hd : Below w9.heap.size w9 w9.drew := below_drewN (Below.refl _ _) 1
      refine ⟨(T2.out _).trans (keepsFrom_below _ hd), ⟨fun v hv => T3.out _ v (by omega) (by omega) hv, fun _ => cells5_below (cells5_rd (RdN.below HRD.out T1.out.fr) HLN.out) hd⟩, y1, x1 :: post, D2, c2, E2, k2, ?_⟩
      rw [hj]
      exact T1.out.mv hd
  case done =>
    rintro E9 W9 hE hI hK
    obtain ⟨x, post, Dx, dcx, Ex, kx, hI⟩ := hI
    rw [dn_length, Nat.sub_self] at hI
    have hbf := hI.bf; have hbb := hI.bb
    have hr0 := HB1.out.below hI.fr HB1.out.lt; have hr2 := HB2.out.below hI.fr HB2.out.lt; have hkb := HK1.out.below hI.fr HK1.out.lt
    have q0 := hbf.cell 0 (u := .int .i64 x.id.1) rfl; have q1 := hbf.cell 1 (u := .int .i64 x.id.2) rfl; have q2 := hbf.cell 2 (u := .slice Dx dn dcx) rfl; have q3 := hbf.cell 3 (u := strV x.txt) rfl; have q4 := hbf.cell 4 (u := .slice Ex m kx) rfl
    have bb0 := hbb.cell 0 (u := .slice (some ⟨g, 0, none⟩) nv nv) rfl
    have r0 := hr0.cell 0 (u := .int .i64 0) rfl; have r1 := hr0.cell 1 (u := .int .i64 0) rfl; have r2 := hr0.cell 2 (u := .slice none 0 0) rfl; have r3 := hr0.cell 3 (u := .string ⟨#[]⟩) rfl; have r4 := hr0.cell 4 (u := .slice none 0 0) rfl; have f0 := hr0.frozen 0; have f1 := hr0.frozen 1; have f2 := hr0.frozen 2; have f3 := hr0.frozen 3; have f4 := hr0.frozen 4
    have t0 := hr2.cell 0 (u := .bool false) rfl; have h0 := hr2.frozen 0
    have kk0 := hkb.cell 0 rfl; have kf := hkb.frozen 0
    have hlt0 := hbf.lt; have hlt1 := hr0.lt; have hlt2 := hr2.lt; have hltz := Nat.lt_of_succ_lt hr0.lt; have hltb := hbb.lt; have hkl := hkb.lt
    have hne1 : ¬ F = K := by have := HKZ.out; omega
    have hne2 : ¬ K = z + 1 := by have := HKZ.out; omega
    have hne5 : ¬ K = z + 1 + 1 := by have := HKZ.out; omega
    have hne6 : ¬ z + 1 = K := by have := HKZ.out; omega
    have hne7 : ¬ z + 1 + 1 = K := by have := HKZ.out; omega
    have hne3 : ¬ F = z + 1 := by omega
    have hne4 : ¬ g + 1 = K := by have := HKZ.out; have := hI.pos; omega
    have HI := Lib.hid hI
    have HD := Lib.hid (uv_done hI HR1.out HK1.out HKZ.out (.inl HRK.out) (.inr (.inr (.inl rfl))) (.inr (.inr (.inr rfl))) HZ.out HS1.out HBA.out HB1.out HB2.out (show w1.heap.size ≤ E9 by have := HSZ.out; have := HS1.out; omega) hK)
    clear hI hbf hbb hr0 hr2 hkb
    gi_wp2
    obtain ⟨d1, d2, d3, d4, d5, d6, d7⟩ := HD.out
    clear bb0 q0 q1 q2 q3 q4 r0 r1 r2 r3 r4 f0 f1 f2 f3 f4 t0 h0 kk0 kf hlt0 hlt1 hlt2 hltz hltb hkl hK HD
    refine ⟨by simp, .inl ⟨_, _, rfl, run_takeDeferred d1, ?_⟩⟩
    clear d1
    generalize (World.putObj (World.setCell (World.setCell (World.setCell (World.setCell (World.setCell (World.setCell (World.setCell W9 ⟨K, 0, none⟩ (.slice (some ⟨g, 0, none⟩) nv nv)) ⟨z + 1, 0, none⟩ (.int .i64 x.id.1)) ⟨z + 1, 1, none⟩ (.int .i64 x.id.2)) ⟨z + 1, 2, none⟩ (.slice Dx dn dcx)) ⟨z + 1, 3, none⟩ (strV x.txt)) ⟨z + 1, 4, none⟩ (.slice Ex m kx)) ⟨z + 1 + 1, 0, none⟩ (.bool true)) E9 (.deferred none)) = Wf at *
    have u0 := d2.cell 0 (u := .int .i64 x.id.1) rfl; have u1 := d2.cell 1 (u := .int .i64 x.id.2) rfl; have u2 := d2.cell 2 (u := .slice Dx dn dcx) rfl; have u3 := d2.cell 3 (u := strV x.txt) rfl; have u4 := d2.cell 4 (u := .slice Ex m kx) rfl; have z0 := d3.cell 0 (u := .bool true) rfl
    refine ⟨.tuple #[.agg #[.int .i64 x.id.1, .int .i64 x.id.2, .slice Dx dn dcx, strV x.txt, .slice Ex m kx], .bool true], by simp [results, Try.results36, go_sem, u0, u1, u2, u3, u4, z0], ?_⟩
    have he := HI.out.eq
    rw [List.drop_zero] at he
    have hm : ((undN p gl.reverse).map fun z => (z.2, z.1.reverse)) = some (x, post) := by rw [he]; simp
    rw [hm]
    exact ⟨Dx, dn, dcx, Ex, m, kx, _, rfl, d4.mono fun b hb => ⟨hb.1, fun e => hb.2.1 (.inl e), hb.2.2⟩, d5.less (fun b hb => .inl hb), d6, d7⟩
  case stop =>
    rintro E9 c' pre post W9 hE hpp ⟨rfl, ho, r0, r2, r3, r4, r5⟩ hK
    gi_wp2
    refine ⟨by simp, .inl ⟨_, _, rfl, run_takeDeferred hK, ?_⟩⟩
    have hpg := grownBy_putObj' W9 E9 (.deferred none)
    have hpr : ∀ r, some E9 = some r → ∃ o : Obj, W9.heap[r]? = some o ∧ o.isCells = false := fun r e => by injection e with e; subst e; exact ⟨_, hK, rfl⟩
    have bp : ∀ {b : Nat} {t : TypeId} {cs : Array Value}, Blk W9 b t cs → Blk (W9.putObj E9 (.deferred none)) b t cs := fun {b t cs} h => h.gr hpg (fun e => by
      injection e with e
      subst e
      rw [show W9.heap[b]? = _ from h] at hK
      cases hK)
    have d2 := bp r0; have d3 := bp r2; have d6 := bp r4
    have d5 := r3.plain hpg hpr (fun r e => by injection e with e; have := HROW.out.bw.size; have := HZ.out; have := HSZ.out; omega)
    have d7 := r5.trans (mine_grown (R := fun b => b = E9) hpg (fun j e => by injection e with e; exact e.symm)) (fun b e => .inr (by have := HZ.out; have := HSZ.out; omega))
    clear hK r0 r2 r3 r4 r5 bp hpr hpg
    generalize (World.putObj W9 E9 (.deferred none)) = Wf at *
    have u0 := d2.cell 0 (u := .int .i64 0) rfl; have u1 := d2.cell 1 (u := .int .i64 0) rfl; have u2 := d2.cell 2 (u := .slice none 0 0) rfl; have u3 := d2.cell 3 (u := .string ⟨#[]⟩) rfl; have u4 := d2.cell 4 (u := .slice none 0 0) rfl; have z0 := d3.cell 0 (u := .bool false) rfl
    refine ⟨.tuple #[.agg #[.int .i64 0, .int .i64 0, .slice none 0 0, .string ⟨#[]⟩, .slice none 0 0], .bool false], by simp [results, Try.results36, go_sem, u0, u1, u2, u3, u4, z0], ?_⟩
    rw [ho]
    exact ⟨none, 0, 0, none, 0, 0, _, rfl, ng_no _ _, d5.less (fun b hb => .inl hb), d6, d7⟩

end Bb
end Go.Proofs.Ytdnkinajbebkoaa

set_option maxRecDepth 100000
namespace Go.Proofs.Ytdnkinajbebkoaa
open Go.RowKit
set_option linter.unusedVariables false
set_option linter.unusedSimpArgs false
namespace Bb
open Tx Df Sq Hk Tr Pr Fl Pn Tg

/-- The first k, and the last k, have changed places. -/
def RevK (l : List Nm) (k : Nat) (cur : List Nm) : Prop := cur.length = l.length ∧ ∀ i, i < l.length → cur[i]? = if i < k ∨ l.length ≤ i + k then l[l.length - 1 - i]? else l[i]?
theorem revK_zero (l : List Nm) : RevK l 0 l := ⟨rfl, fun i hi => by rw [if_neg (by omega)]⟩
theorem revK_end {l cur : List Nm} {k : Nat} (h : RevK l k cur) (hk : l.length ≤ 2 * k + 1) : cur = l.reverse := by
  refine List.ext_getElem? fun i => ?_
  by_cases hi : i < l.length
  · rw [h.2 i hi, List.getElem?_reverse hi]
    split
    · rfl
    · rw [show l.length - 1 - i = i by omega]
  · rw [List.getElem?_eq_none (by rw [h.1]; omega), List.getElem?_eq_none (by rw [List.length_reverse]; omega)]
theorem revK_step {l cur : List Nm} {k j : Nat} {x y : Nm} (h : RevK l k cur) (hj : j + k + 1 = l.length) (hkj : k < j) (hx : cur[k]? = some x) (hy : cur[j]? = some y) : RevK l (k + 1) ((cur.set k y).set j x) := by
  refine ⟨by rw [List.length_set, List.length_set]; exact h.1, fun i hi => ?_⟩
  have ex := h.2 k (by omega)
  have ey := h.2 j (by omega)
  rw [if_neg (by omega), hx] at ex
  rw [if_neg (by omega), hy] at ey
  by_cases h1 : i = j
  · subst h1
    rw [List.getElem?_set_self (by rw [List.length_set, h.1]; exact hi), if_pos (by omega), show l.length - 1 - i = k by omega]
    exact ex
  · rw [List.getElem?_set_ne (fun e => h1 e.symm)]
    by_cases h2 : i = k
    · subst h2
      rw [List.getElem?_set_self (by rw [h.1]; exact hi), if_pos (by omega), show l.length - 1 - i = j by omega]
      exact ey
    · rw [List.getElem?_set_ne (fun e => h2 e.symm), h.2 i hi]
      by_cases h3 : i < k ∨ l.length ≤ i + k
      · rw [if_pos h3, if_pos (by omega)]
      · rw [if_neg h3, if_neg (by omega)]

theorem grown_row5 (W : World) (g k : Nat) (v0 v1 v2 v3 v4 : Value) : W.grownBy (((((W.setCell ⟨g, k * 5, none⟩ v0).setCell ⟨g, k * 5 + 1, none⟩ v1).setCell ⟨g, k * 5 + 2, none⟩ v2).setCell ⟨g, k * 5 + 3, none⟩ v3).setCell ⟨g, k * 5 + 4, none⟩ v4) (some g) := by
  have t : ∀ {X : World} (j : Nat) (v : Value), W.grownBy X (some g) → W.grownBy (X.setCell ⟨g, j, none⟩ v) (some g) := fun {X} j v h => Rg.grow_trans h (grownBy_set X g j v) (fun i e => .inr e)
  exact t _ _ (t _ _ (t _ _ (t _ _ (grownBy_set W g _ _))))
def RevEnd (w : World) (S : Nat → Prop) (base : Nat) (v : Value) (l : List Nm) (e : Ending) (w' : World) : Prop := e = .returned (.tuple #[]) ∧ Tg.OwnT w' S base v l.reverse ∧ w.grownBy w' v.ownBlock

set_option maxRecDepth 100000 in
set_option maxHeartbeats 4000000 in
theorem ReverseC (S : Nat → Prop) (base : Nat) (v : Value) (l : List Nm) (w : World) (hl : l.length ≤ 1000) (hS : ∀ b, S b → some b ≠ v.ownBlock) (h : Tg.OwnT w S base v l) :
    Calls Try.prog 37 #[v] w (RevEnd w S base v l) := by
  obtain ⟨A, c, rfl, hc⟩ := Tg.ownT_slice h
  obtain ⟨n, hn⟩ : ∃ n, l.length = n := ⟨_, rfl⟩
  rw [hn] at h hc hl hS ⊢
  have HN := Lib.hid hn; have HH := Lib.hid h; have HS := Lib.hid hS
  clear hn h hc hS
  go_enter Try.func37, Try.ntmps37
  go_wp2_with fail
  go_loopw [2, 3] (fun i j wr => ∃ (k : Nat) (cur : List Nm), 2 * k ≤ n ∧ i = .int .i64 (k : Int) ∧ j = .int .i64 ((n : Int) - 1 - (k : Int)) ∧ RevK l k cur ∧ Tg.OwnT wr S base (.slice A n c) cur ∧ w.grownBy wr (Value.slice A n c).ownBlock) (fun i _ _ => n - (intOf i).toNat)
  case atStart => exact ⟨0, l, by omega, rfl, by go_num, revK_zero l, HH.out, ⟨rfl, rfl, rfl, Nat.le_refl _, fun _ _ _ => rfl⟩⟩
  case round =>
    obtain ⟨k, cur, hk, rfl, rfl, hcur, hrow, hgr⟩ := hrel
    have HC := Lib.hid hcur; have HR := Lib.hid hrow; have HG := Lib.hid hgr
    clear hcur hrow hgr
    by_cases hlt : 2 * k + 1 < n
    · obtain ⟨j, hj⟩ : ∃ j : Nat, (n : Int) - 1 - (k : Int) = (j : Int) := ⟨n - 1 - k, by omega⟩
      have hkj : k < j := by omega
      have hjn : j < n := by omega
      have hki : (k : Int) < (j : Int) := by omega
      have hki2 : (k : Int) < (n : Int) := by omega
      have hji2 : (j : Int) < (n : Int) := by omega
      have HCL : Hid (cur.length = n) := Lib.hid (HC.out.1.trans HN.out)
      obtain ⟨g, cap, hvv, hbg, hgl⟩ := Tg.ownT_addr HR.out (by rw [HCL.out]; omega)
      injection hvv with ha hb hc
      subst ha hc
      clear hb
      obtain ⟨x, hx⟩ : ∃ x, cur[k]? = some x := ⟨_, List.getElem?_eq_getElem (by rw [HCL.out]; omega)⟩
      obtain ⟨y, hy⟩ : ∃ y, cur[j]? = some y := ⟨_, List.getElem?_eq_getElem (by rw [HCL.out]; omega)⟩
      obtain ⟨D, dn, dc, E, m, e, x0, x1, x2, x3, x4, hf, hnx⟩ := HR.out.elem HCL.out hx
      obtain ⟨D', dn', dc', E', m', e', y0, y1, y2, y3, y4, _, hny⟩ := HR.out.elem HCL.out hy
      have HX := Lib.hid hx; have HY := Lib.hid hy; have HNX := Lib.hid hnx; have HNY := Lib.hid hny
      have f0 := hf (k * 5); have f1 := hf (k * 5 + 1); have f2 := hf (k * 5 + 2); have f3 := hf (k * 5 + 3); have f4 := hf (k * 5 + 4)
      have g0 := hf (j * 5); have g1 := hf (j * 5 + 1); have g2 := hf (j * 5 + 2); have g3 := hf (j * 5 + 3); have g4 := hf (j * 5 + 4)
      clear hx hy hnx hny hf
      rw [hj]
      go_wp2_with fail
      go_region
      have hSg : ¬ S g := fun h => HS.out g h rfl
      have r6 := HR.out.store (k := k) HCL.out hSg HNY.out
      have n6 := HNX.out.to_ ((alike_row5 wr g k (.int .i64 y.id.1) (.int .i64 y.id.2) (.slice D' dn' dc') (strV y.txt) (.slice E' m' e')).mono fun b hb e => hSg (e ▸ hb))
      have q6 := Rg.grow_trans HG.out (grown_row5 wr g k (.int .i64 y.id.1) (.int .i64 y.id.2) (.slice D' dn' dc') (strV y.txt) (.slice E' m' e')) (fun i e => .inr e)
      clear x0 x1 x2 x3 x4 y0 y1 y2 y3 y4 f0 f1 f2 f3 f4 g0 g1 g2 g3 g4
      generalize (World.setCell (World.setCell (World.setCell (World.setCell (World.setCell wr ⟨g, k * 5, none⟩ (.int .i64 y.id.1)) ⟨g, k * 5 + 1, none⟩ (.int .i64 y.id.2)) ⟨g, k * 5 + 2, none⟩ (.slice D' dn' dc')) ⟨g, k * 5 + 3, none⟩ (strV y.txt)) ⟨g, k * 5 + 4, none⟩ (.slice E' m' e')) = w6 at *
      have r9 := r6.store (k := j) (by rw [List.length_set]; exact HCL.out) hSg n6
      have q9 := Rg.grow_trans q6 (grown_row5 w6 g j (.int .i64 x.id.1) (.int .i64 x.id.2) (.slice D dn dc) (strV x.txt) (.slice E m e)) (fun i e => .inr e)
      generalize (World.setCell (World.setCell (World.setCell (World.setCell (World.setCell w6 ⟨g, j * 5, none⟩ (.int .i64 x.id.1)) ⟨g, j * 5 + 1, none⟩ (.int .i64 x.id.2)) ⟨g, j * 5 + 2, none⟩ (.slice D dn dc)) ⟨g, j * 5 + 3, none⟩ (strV x.txt)) ⟨g, j * 5 + 4, none⟩ (.slice E m e)) = w9 at *
      have r10 := r9.below (below_drewN (Below.refl _ _) 1)
      have q10 := gr_drewN q9 1
      have hi1 : (k : Int) + 1 ≤ 1000 := by omega
      go_wp2_with fail
      go_roundw
      case rel => exact ⟨k + 1, _, by omega, by go_num, by first | (congr 1; omega) | (go_num), revK_step HC.out (by rw [HN.out]; omega) hkj HX.out HY.out, r10, q10⟩
      case measure => simp [intOf]; omega
    · have hki : ¬ (k : Int) < (n : Int) - 1 - (k : Int) := by omega
      go_wp2_with fail
      go_end0
      have hrv := revK_end HC.out (by rw [HN.out]; omega)
      exact ⟨rfl, hrv ▸ HR.out, HG.out⟩

end Bb
end Go.Proofs.Ytdnkinajbebkoaa

set_option maxRecDepth 100000
namespace Go.Proofs.Ytdnkinajbebkoaa
open Go.RowKit Go.Shelf
set_option linter.unusedVariables false
set_option linter.unusedSimpArgs false
namespace Bb
open Tx Df Sq Hk Tr Pr Rg Fl Pn Tg

theorem up_full {l : List Nm} {n : Nat} (hn : l.length = n) : ∀ k i : Nat, (List.range' 0 n)[k]? = some i → k < n ∧ l[k]? = l[i]? := fun k i h => by
  obtain ⟨hk, e⟩ := List.getElem?_eq_some_iff.1 h
  rw [List.length_range'] at hk
  rw [List.getElem_range'] at e
  have e : k = i := by omega
  exact ⟨hk, by rw [e]⟩
theorem dn_full {l : List Nm} {n : Nat} (hn : l.length = n) : ∀ k i : Nat, (dn n)[k]? = some i → k < n ∧ l.reverse[k]? = l[i]? := fun k i h => by
  have hk : k < n := by
    have := (List.getElem?_eq_some_iff.1 h).1
    rw [dn_length] at this
    exact this
  refine ⟨hk, ?_⟩
  unfold dn at h
  rw [List.getElem?_reverse (by rw [List.length_range]; exact hk), List.length_range, List.getElem?_range (by omega)] at h
  injection h with h
  rw [List.getElem?_reverse (by omega), hn, h]

set_option maxRecDepth 100000 in
set_option maxHeartbeats 4000000 in
theorem PartC (A : Option Addr) (n c : Nat) (l : List Nm) (A' : Option Addr) (n' c' : Nat) (ids : List Id_) (w : World) (hn : l.length = n) (hle : n ≤ 100) (hn' : ids.length = n') (hle' : n' ≤ 1000000) (hall : ∀ p ∈ l, Tg.Lit p) (hR : RdN w w.heap.size A l) (hR' : RdI w w.heap.size A' ids) (s g : List Nm) (ho : partN l ids = (s, g)) :
    Calls Try.prog 12 #[.slice A n c, .slice A' n' c'] w (PartEnd w s g) := by
  have HN := Lib.hid hn; have HN' := Lib.hid hn'; have HALL := Lib.hid hall; have HR := Lib.hid hR; have HR' := Lib.hid hR'; have HO := Lib.hid ho
  have bk := (Blk.new w 58 #[.slice none 0 0]).alloc (.cells #[.slice A n c] 22)
  have bs : Boxed ((w.alloc (.cells #[.slice none 0 0] 58)).alloc (.cells #[.slice A n c] 22)) (w.heap.size + 1) 22 (.slice A n c) := by
    have h := Boxed.new (w.alloc (.cells #[.slice none 0 0] 58)) 22 (.slice A n c)
    rw [World.size_alloc] at h
    exact h
  have hba := two_box w (.cells #[.slice none 0 0] 58) (.cells #[.slice A n c] 22)
  have HBK := Lib.hid bk; have HBS := Lib.hid bs; have HBA := Lib.hid hba
  clear hn hn' hall hR hR' ho bk bs hba
  go_enter Try.func12, Try.ntmps12
  go_wp2_with fail
  refine (callsIn_wide.1 (allN_in 3 A n c _)).mono ?_
  rintro e w' ⟨rfl, rfl⟩
  go_wp2_with fail
  refine (SplitC 52 30 (w.heap.size + 1) w.heap.size A n c l l (List.range' 0 n) A' n' c' ids overN s g w _ (enters_of Try.func52 (by kernel_rfl) rfl) (enters_of Try.func30 (by kernel_rfl) rfl) (fun w5 h1 h2 => allN_gives 3 (w.heap.size + 1) c n A (by omega) w5 h1 h2) (fun R X v u g s D dn dc E m k p hR h hb hp hg hgl hv => AheadC w.heap.size D dn dc E m k p hR h hb hp hg hgl hv) (fun g p x g' h hp hg => over_step h hp hg) HN.out hle (up_full HN.out) HN.out List.length_range' HALL.out HR.out HN'.out hle' HR'.out HBS.out HBA.out HBK.out (Nat.le_refl _) ?_).mono ?_
  · rw [← part_bub]; exact HO.out
  rintro e w9 ⟨v, u, rfl, hrow, hk⟩
  obtain ⟨A1, c1, rfl, _⟩ := Tg.ownT_slice hrow.a
  obtain ⟨A2, c2, rfl, _⟩ := Tg.ownT_slice hrow.b
  have HROW := Lib.hid (fun q => hrow.below (below_drewN (Below.refl w9.heap.size w9) q))
  have kk := hk.cell 0 rfl
  have kl := hk.lt
  clear hrow hk
  go_wp2_with fail
  go_quiet (fail)
  go_wp2_with fail
  go_ret2
  exact (HROW.out _).swap.rows.end_

set_option maxRecDepth 100000 in
set_option maxHeartbeats 4000000 in
theorem PickC (A : Option Addr) (n c : Nat) (l : List Nm) (A' : Option Addr) (n' c' : Nat) (ids : List Id_) (w : World) (hn : l.length = n) (hle : n ≤ 100) (hn' : ids.length = n') (hle' : n' ≤ 1000000) (hall : ∀ p ∈ l, Tg.Lit p) (hR : RdN w w.heap.size A l) (hR' : RdI w w.heap.size A' ids) (s g : List Nm) (ho : pickN ids l = (s, g)) :
    Calls Try.prog 15 #[.slice A n c, .slice A' n' c'] w (PartEnd w s g) := by
  have HN := Lib.hid hn; have HN' := Lib.hid hn'; have HALL := Lib.hid hall; have HR := Lib.hid hR; have HR' := Lib.hid hR'; have HO := Lib.hid ho
  have bk := (Blk.new w 58 #[.slice none 0 0]).alloc (.cells #[.slice A n c] 22)
  have bs : Boxed ((w.alloc (.cells #[.slice none 0 0] 58)).alloc (.cells #[.slice A n c] 22)) (w.heap.size + 1) 22 (.slice A n c) := by
    have h := Boxed.new (w.alloc (.cells #[.slice none 0 0] 58)) 22 (.slice A n c)
    rw [World.size_alloc] at h
    exact h
  have hba := two_box w (.cells #[.slice none 0 0] 58) (.cells #[.slice A n c] 22)
  have HBK := Lib.hid bk; have HBS := Lib.hid bs; have HBA := Lib.hid hba
  clear hn hn' hall hR hR' ho bk bs hba
  go_enter Try.func15, Try.ntmps15
  go_wp2_with fail
  refine (callsIn_wide.1 (backN_in 3 A n c _)).mono ?_
  rintro e w' ⟨rfl, rfl⟩
  go_wp2_with fail
  refine (SplitC 56 36 (w.heap.size + 1) w.heap.size A n c l l.reverse (dn n) A' n' c' ids behN g.reverse s.reverse w _ (enters_of Try.func56 (by kernel_rfl) rfl) (enters_of Try.func36 (by kernel_rfl) rfl) (fun w5 h1 h2 => gives_kp (backN_gives 3 (w.heap.size + 1) c n A (by omega) w5 h1 h2.cells5) (fun W W' h => h.kpN)) (fun R X v u g s D dn dc E m k p hR h hb hp hg hgl hv => BehindC w.heap.size D dn dc E m k p hR h hb hp hg hgl hv) (fun g p x g' h hp hg => beh_step h hp hg) HN.out hle (dn_full HN.out) (by rw [List.length_reverse]; exact HN.out) (dn_length n) HALL.out HR.out HN'.out hle' HR'.out HBS.out HBA.out HBK.out (Nat.le_refl _) ?_).mono ?_
  · rw [pick_bub, HO.out]
  rintro e w9 ⟨v, u, rfl, hrow, hk⟩
  have kk := hk.cell 0 rfl
  have kl := hk.lt
  have HROW := Lib.hid hrow; have HK := Lib.hid hk
  clear hrow hk
  have hsl : s.reverse.length + g.reverse.length = n := by
    have h := pick_len l ids
    rw [HO.out, HN.out] at h
    rw [List.length_reverse, List.length_reverse]; exact h
  go_wp2_with fail
  refine (ReverseC (PR (fun b => b = w.heap.size) w9 v u) w.heap.size v s.reverse w9 (by omega) (fun b hb => hb.2.2.1) HROW.out.a).mono ?_
  rintro e w10 ⟨rfl, ho, hg⟩
  have HROW2 := Lib.hid (HROW.out.app ho hg (fun b e => .inl e))
  have HK2 := Lib.hid (HK.out.gr hg (fun e => HROW.out.na _ e.symm rfl))
  clear ho hg kk kl
  have kk := HK2.out.cell 0 rfl
  have kl := HK2.out.lt
  go_wp2_with fail
  refine (ReverseC (PR (fun b => b = w.heap.size) w10 u v) w.heap.size u g.reverse w10 (by omega) (fun b hb => hb.2.2.1) HROW2.out.swap.a).mono ?_
  rintro e w11 ⟨rfl, ho, hg⟩
  have hrow3 := (HROW2.out.swap.app ho hg (fun b e => .inl e)).swap
  have hk3 := HK2.out.gr hg (fun e => HROW2.out.nb _ e.symm rfl)
  rw [List.reverse_reverse, List.reverse_reverse] at hrow3
  obtain ⟨A1, c1, rfl, _⟩ := Tg.ownT_slice hrow3.a
  obtain ⟨A2, c2, rfl, _⟩ := Tg.ownT_slice hrow3.b
  have HROW3 := Lib.hid hrow3
  clear ho hg kk kl hrow3
  have kk := hk3.cell 0 rfl
  have kl := hk3.lt
  clear hk3
  go_wp2_with fail
  go_ret2
  exact HROW3.out.rows.end_

set_option maxHeartbeats 2000000 in
theorem IdsC (A : Option Addr) (n c : Nat) (l : List Nm) (w : World) (hn : l.length = n) (hle : n ≤ 10000) (hR : RdN w w.heap.size A l) :
    Calls Try.prog 18 #[.slice A n c] w (IdsEnd w (idsN l)) := by
  have HN := Lib.hid hn; have HR := Lib.hid hR
  clear hn hR
  go_enter Try.func18, Try.ntmps18
  go_wp2_with fail
  go_loopw [3, 8] (fun v i wr => ∃ (k : Nat) (A1 : Option Addr) (m c1 : Nat), k ≤ n ∧ i = .int .i64 (k : Int) ∧ v = .slice A1 m c1 ∧ OwnI wr w.heap.size (.slice A1 m c1) (idsN (l.take k)) ∧ Below w.heap.size w wr) (fun _ i _ => n - (intOf i).toNat)
  case atStart => exact ⟨0, none, 0, 0, Nat.zero_le _, rfl, rfl, ownI_nil _ _, Below.refl _ _⟩
  case round =>
    obtain ⟨k, A1, m, c1, hk, rfl, rfl, hO, hbw⟩ := hrel
    have HBW := Lib.hid hbw; have HO := Lib.hid hO; clear hbw hO
    by_cases hlt : k < n
    · have hki : (k : Int) < (n : Int) := by omega
      obtain ⟨a, p, D, i, j, E, mp, d, rfl, hS, hp, c0, c1', c2, c3, c4, hv⟩ := RdN.elem (RdN.mv HR.out HBW.out) (k := k) (by rw [HN.out]; exact hlt)
      have HP := Lib.hid hp
      have hba := two_box wr (.cells #[.int .i64 p.id.1, .int .i64 p.id.2, .slice D i j, strV p.txt, .slice E mp d] 45) (.cells #[.int .i64 p.id.1, .int .i64 p.id.2] 42)
      have b0 := Blk.new (wr.alloc (.cells #[.int .i64 p.id.1, .int .i64 p.id.2, .slice D i j, strV p.txt, .slice E mp d] 45)) 42 #[.int .i64 p.id.1, .int .i64 p.id.2]
      rw [World.size_alloc] at b0
      have HS1 := Lib.hid (rdI_lone (x := p.id) b0 b0.lt)
      have HO1 := Lib.hid (own_gr HO.out (below_gr_row hba))
      have HB1 := Lib.hid (below_mv HBW.out hba)
      have HL := Lib.hid (show (idsN (l.take k)).length + 1 ≤ 100000 by unfold idsN; rw [List.length_map, List.length_take]; omega)
      clear hv hp hS hba b0
      go_wp2_with (at_builtin; refine wpList_ownI rfl (.tmp 12) (.tmp 15) rfl w.heap.size 1 1 (.slice A1 m c1) (some ⟨wr.heap.size + 1, 0, none⟩) (idsN (l.take k)) [p.id] rfl rfl HO1.out HS1.out rfl HL.out HB1.out.size ?_; intro v' W' ho hg)
      obtain ⟨A9, c9, hv9, _, _⟩ := rdI_own ho
      subst hv9
      refine ⟨⟨k + 1, A9, _, c9, by omega, by go_num, rfl, ?_, HB1.out.grown hg HB1.out.size (fun g e => ownI_ge HO1.out g e)⟩, by simp [intOf]; omega⟩
      rw [ids_take HP.out]
      exact ho
    · have hki : ¬ (k : Int) < (n : Int) := by omega
      go_wp2
      go_ret
      have e : l.take k = l := List.take_of_length_le (by rw [HN.out]; omega)
      have ho := HO.out
      rw [e] at ho
      obtain ⟨A9, c9, e9, h9, h10⟩ := rdI_own ho
      injection e9 with e1 e2 e3
      subst e1 e2 e3
      exact ⟨_, _, _, rfl, rfl, h9, h10, HBW.out⟩

end Bb
end Go.Proofs.Ytdnkinajbebkoaa

set_option maxRecDepth 100000
namespace Go.Proofs.Ytdnkinajbebkoaa
open Go.RowKit
set_option linter.unusedVariables false
set_option linter.unusedSimpArgs false
namespace Bb
open Tx Df Sq Hk Tr Pr Fl Pn Tg

def exC : Ch := ⟨3, [97], [], ⟨0, [], [[120]]⟩⟩
def exS : Nm := ⟨(0, 3), [], [], [exC]⟩
theorem part_ex : partN [exN, exQ, exS] [(0, 1)] = ([exQ], [exN, exS]) := by decide
theorem pick_ex : pickN [(0, 3)] [exN, exQ, exS] = ([exN, exS], [exQ]) := by decide
theorem pg_exC {W : World} {S : Nat → Prop} {b : Nat} (h : Blk W b 9 #[strV [120]]) (hS : S b) : PG W S none 0 0 (some ⟨b, 0, none⟩) 1 1 exC :=
  ⟨rfl, rfl, Nat.le_refl _, Nat.le_refl _, by decide, by decide, .inl rfl, .inr ⟨_, rfl, hS, fun j u hu => by
    cases j with
    | zero => injection hu with hu; subst hu; exact h.cell 0 rfl
    | succ j => simp [exC] at hu⟩, by unfold I64; decide, by unfold I64; decide, by decide, by decide, (fun x hx => by cases hx), (fun x hx => by
      have : x = [120] := by simpa [exC] using hx
      rw [this]; decide)⟩
theorem nv_exS {W : World} {N b : Nat} (h : RdP W (· < N) (some ⟨b, 0, none⟩) [exC]) : NV W N none 0 0 (some ⟨b, 0, none⟩) 1 1 exS :=
  ⟨rfl, Nat.le_refl _, by decide, .inl rfl, by decide, rfl, Nat.le_refl _, by decide, h⟩
theorem lit_ex : ∀ p ∈ [exN, exQ, exS], Tg.Lit p := by
  have h : Lt [exC] := fun x hx => by
    have : x = exC := by simpa using hx
    rw [this]
    decide
  intro p hp
  simp only [List.mem_cons, List.not_mem_nil, or_false] at hp
  rcases hp with rfl | rfl | rfl
  · exact ⟨lt_exN, by decide, by decide⟩
  · exact ⟨lt_exQ, by decide, by decide⟩
  · exact ⟨h, by decide, by decide⟩
/-- Three patches in a block of their own are read as a list. -/
theorem rdN_three {W : World} {b : Nat} {D A D' A' D3 A3 : Option Addr} {dn dc n c dn' dc' n' c' d3 e3 n3 c3 : Nat} {p q r : Nm} (h : Blk W b 45 #[.int .i64 p.id.1, .int .i64 p.id.2, .slice D dn dc, strV p.txt, .slice A n c, .int .i64 q.id.1, .int .i64 q.id.2, .slice D' dn' dc', strV q.txt, .slice A' n' c', .int .i64 r.id.1, .int .i64 r.id.2, .slice D3 d3 e3, strV r.txt, .slice A3 n3 c3])
    (hp : NV W W.heap.size D dn dc A n c p) (hq : NV W W.heap.size D' dn' dc' A' n' c' q) (hr : NV W W.heap.size D3 d3 e3 A3 n3 c3 r) (hb : b < W.heap.size) : RdN W W.heap.size (some ⟨b, 0, none⟩) [p, q, r] :=
  .inr ⟨_, rfl, hb, fun k y hy => by
    have e0 : (⟨b, 0, none⟩ : Addr).add (0 * 5) = ⟨b, 0, none⟩ := rfl
    have e1 : (⟨b, 0, none⟩ : Addr).add (1 * 5) = ⟨b, 5, none⟩ := rfl
    have e2 : (⟨b, 0, none⟩ : Addr).add (2 * 5) = ⟨b, 10, none⟩ := rfl
    match k, hy with
    | 0, hy =>
      injection hy with hy
      subst hy
      exact ⟨by rw [e0]; exact h.cell 0 rfl, by rw [e0]; exact h.cell 1 rfl, by rw [e0]; exact h.cell 3 rfl, D, dn, dc, A, n, c, by rw [e0]; exact h.cell 2 rfl, by rw [e0]; exact h.cell 4 rfl, hp⟩
    | 1, hy =>
      injection hy with hy
      subst hy
      exact ⟨by rw [e1]; exact h.cell 5 rfl, by rw [e1]; exact h.cell 6 rfl, by rw [e1]; exact h.cell 8 rfl, D', dn', dc', A', n', c', by rw [e1]; exact h.cell 7 rfl, by rw [e1]; exact h.cell 9 rfl, hq⟩
    | 2, hy =>
      injection hy with hy
      subst hy
      exact ⟨by rw [e2]; exact h.cell 10 rfl, by rw [e2]; exact h.cell 11 rfl, by rw [e2]; exact h.cell 13 rfl, D3, d3, e3, A3, n3, c3, by rw [e2]; exact h.cell 12 rfl, by rw [e2]; exact h.cell 14 rfl, hr⟩
    | k + 3, hy => simp at hy⟩
theorem blk_five (w : World) (t0 t1 t2 t3 t4 : TypeId) (c0 c1 c2 c3 c4 : Array Value) : let W := ((((w.alloc (.cells c0 t0)).alloc (.cells c1 t1)).alloc (.cells c2 t2)).alloc (.cells c3 t3)).alloc (.cells c4 t4)
    Blk W w.heap.size t0 c0 ∧ Blk W (w.heap.size + 1) t1 c1 ∧ Blk W (w.heap.size + 1 + 1) t2 c2 ∧ Blk W (w.heap.size + 1 + 1 + 1) t3 c3 ∧ Blk W (w.heap.size + 1 + 1 + 1 + 1) t4 c4 ∧ Below w.heap.size w W := by
  intro W
  obtain ⟨b0, b1, b2, b3, hb⟩ := four_blk w t0 t1 t2 t3 c0 c1 c2 c3
  have b4 := Blk.new ((((w.alloc (.cells c0 t0)).alloc (.cells c1 t1)).alloc (.cells c2 t2)).alloc (.cells c3 t3)) t4 c4
  simp only [World.size_alloc] at b4
  exact ⟨b0.alloc _, b1.alloc _, b2.alloc _, b3.alloc _, b4, hb.alloc hb.size _⟩

set_option maxRecDepth 100000 in
set_option maxHeartbeats 4000000 in
theorem awake (w : World) : Calls Try.prog 10 #[] w (BoolEnd w true) := by
  go_enter Try.func10, Try.ntmps10
  go_upto_region 2 with fail
  obtain ⟨b0, b1, b2, b3, b4, hb⟩ := blk_five w 54 54 9 54 45 #[.int .i64 0, strV [97], strV [], .int .i64 0, .slice none 0 0, .slice none 0 0] #[.int .i64 0, strV [98], strV [], .int .i64 0, .slice none 0 0, .slice none 0 0] #[strV [120]] #[.int .i64 3, strV [97], strV [], .int .i64 0, .slice none 0 0, .slice (some ⟨w.heap.size + 1 + 1, 0, none⟩) 1 1]
    #[.int .i64 0, .int .i64 1, .slice none 0 0, strV [], .slice (some ⟨w.heap.size, 0, none⟩) 1 1, .int .i64 0, .int .i64 2, .slice none 0 0, strV [], .slice (some ⟨w.heap.size + 1, 0, none⟩) 1 1, .int .i64 0, .int .i64 3, .slice none 0 0, strV [], .slice (some ⟨w.heap.size + 1 + 1 + 1, 0, none⟩) 1 1]
  generalize (World.alloc (World.alloc (World.alloc (World.alloc (World.alloc w (.cells #[.int .i64 0, strV [97], strV [], .int .i64 0, .slice none 0 0, .slice none 0 0] 54)) (.cells #[.int .i64 0, strV [98], strV [], .int .i64 0, .slice none 0 0, .slice none 0 0] 54)) (.cells #[strV [120]] 9)) (.cells #[.int .i64 3, strV [97], strV [], .int .i64 0, .slice none 0 0, .slice (some ⟨w.heap.size + 1 + 1, 0, none⟩) 1 1] 54))
    (.cells #[.int .i64 0, .int .i64 1, .slice none 0 0, strV [], .slice (some ⟨w.heap.size, 0, none⟩) 1 1, .int .i64 0, .int .i64 2, .slice none 0 0, strV [], .slice (some ⟨w.heap.size + 1, 0, none⟩) 1 1, .int .i64 0, .int .i64 3, .slice none 0 0, strV [], .slice (some ⟨w.heap.size + 1 + 1 + 1, 0, none⟩) 1 1] 45)) = w1 at b0 b1 b2 b3 b4 hb ⊢
  obtain ⟨z, hz⟩ : ∃ z, w.heap.size = z := ⟨_, rfl⟩
  rw [hz] at b0 b1 b2 b3 b4 ⊢
  have RA : RdP w1 (· < w1.heap.size) (some ⟨z, 0, none⟩) [exA] := rdP_lone b0 (pg_ex _ _) b0.lt
  have RB : RdP w1 (· < w1.heap.size) (some ⟨z + 1, 0, none⟩) [exB] := rdP_lone b1 (pg_exB _ _) b1.lt
  have RC : RdP w1 (· < w1.heap.size) (some ⟨z + 1 + 1 + 1, 0, none⟩) [exC] := rdP_lone b3 (pg_exC b2 b2.lt) b3.lt
  have RL := Lib.hid (rdN_three (p := exN) (q := exQ) (r := exS) b4 (nv_ex RA) (nv_exQ RB) (nv_exS RC) b4.lt)
  have HB := Lib.hid hb
  clear b0 b1 b2 b3 b4 hb hz RA RB RC
  go_wp2_with fail
  have hb2 : Below w1.heap.size w1 (w1.alloc (.cells #[.int .i64 0, .int .i64 1] 42)) := (Below.refl _ _).alloc (Nat.le_refl _) _
  have b2 := Blk.new w1 42 #[.int .i64 0, .int .i64 1]
  replace RL := Lib.hid (RdN.mv RL.out hb2); replace HB := Lib.hid (below_mv HB.out hb2)
  clear hb2
  obtain ⟨N, hN⟩ : ∃ N, w1.heap.size = N := ⟨_, rfl⟩
  rw [hN] at b2 ⊢
  clear hN
  generalize (w1.alloc (.cells #[.int .i64 0, .int .i64 1] 42)) = w2 at *
  refine (PartC (some ⟨z + 1 + 1 + 1 + 1, 0, none⟩) 3 3 [exN, exQ, exS] (some ⟨N, 0, none⟩) 1 1 [(0, 1)] w2 rfl (by decide) rfl (by decide) lit_ex RL.out (rdI_lone (x := (0, 1)) b2 b2.lt) [exQ] [exN, exS] part_ex).mono ?_
  rintro e w3 ⟨A1, n1, c1, A2, n2, c2, rfl, hn1, hc1, hr1, hn2, hc2, hr2, hb3⟩
  obtain rfl : 1 = n1 := hn1
  obtain rfl : 2 = n2 := hn2
  have HR1 := Lib.hid hr1
  replace RL := Lib.hid (RdN.mv RL.out hb3); replace HB := Lib.hid (below_mv HB.out hb3)
  clear hr1 hr2 hb3 b2 hc1 hc2
  go_wp2_with fail
  have hb2 : Below w3.heap.size w3 (w3.alloc (.cells #[.int .i64 0, .int .i64 3] 42)) := (Below.refl _ _).alloc (Nat.le_refl _) _
  have b2 := Blk.new w3 42 #[.int .i64 0, .int .i64 3]
  replace RL := Lib.hid (RdN.mv RL.out hb2); replace HR1 := Lib.hid (RdN.mv HR1.out hb2); replace HB := Lib.hid (below_mv HB.out hb2)
  clear hb2
  obtain ⟨M, hM⟩ : ∃ M, w3.heap.size = M := ⟨_, rfl⟩
  rw [hM] at b2 ⊢
  clear hM
  generalize (w3.alloc (.cells #[.int .i64 0, .int .i64 3] 42)) = w4 at *
  refine (PickC (some ⟨z + 1 + 1 + 1 + 1, 0, none⟩) 3 3 [exN, exQ, exS] (some ⟨M, 0, none⟩) 1 1 [(0, 3)] w4 rfl (by decide) rfl (by decide) lit_ex RL.out (rdI_lone (x := (0, 3)) b2 b2.lt) [exN, exS] [exQ] pick_ex).mono ?_
  rintro e w5 ⟨A3, n3, c3, A4, n4, c4, rfl, hn3, hc3, hr3, hn4, hc4, hr4, hb5⟩
  obtain rfl : 2 = n3 := hn3
  obtain rfl : 1 = n4 := hn4
  replace RL := Lib.hid (RdN.mv RL.out hb5); replace HR1 := Lib.hid (RdN.mv HR1.out hb5); replace HB := Lib.hid (below_mv HB.out hb5)
  have HR4 := Lib.hid hr4
  clear hr3 hr4 hb5 b2 hc3 hc4
  obtain ⟨a, q, D, i, j, E, mp, d, rfl, hS, hp, x0, x1, x2, x3, x4, hv⟩ := RdN.elem HR1.out (k := 0) (by decide)
  obtain rfl : exQ = q := Option.some.inj hp
  obtain ⟨a', q', D', i', j', E', mp', d', rfl, hS', hp', y0, y1, y2, y3, y4, hv'⟩ := RdN.elem HR4.out (k := 0) (by decide)
  obtain rfl : exQ = q' := Option.some.inj hp'
  clear x0 x2 x3 x4 y0 y2 y3 y4 hv hv' hp hp'
  rw [Nat.zero_mul, add_zero'] at x1 y1
  have x1 : w5.cell? ⟨a.block, a.off + 1, none⟩ = some (.int .i64 2) := x1
  have y1 : w5.cell? ⟨a'.block, a'.off + 1, none⟩ = some (.int .i64 2) := y1
  go_wp2_with fail
  refine (IdsC (some ⟨z + 1 + 1 + 1 + 1, 0, none⟩) 3 3 [exN, exQ, exS] w5 rfl (by decide) RL.out).mono ?_
  rintro e w6 ⟨A6, n6, c6, rfl, hn6, _, _, hb6⟩
  obtain rfl : 3 = n6 := hn6
  replace HB := Lib.hid (below_mv HB.out hb6)
  clear hb6 x1 y1
  go_wp2_with fail
  go_ret
  exact ⟨rfl, HB.out⟩

end Bb
end Go.Proofs.Ytdnkinajbebkoaa

set_option maxRecDepth 100000
namespace Go.Proofs.Ytdnkinajbebkoaa
open Go.ChangeShapes Go.WideShapes Go.ChangeAt Go.RowKit
set_option linter.unusedVariables false
namespace Bb
open Tx Df Sq Hk Tr Pr Fl Pn Tg

structure IdsArg (w : World) (A : Option Addr) (n c : Nat) (l : List Id_) : Prop where
  len : l.length = n
  cap : n ≤ c
  le : n ≤ maxLen
  rd : RdI w w.heap.size A l
section
variable {H : Type} {enc : TypeId × Value → H} {W : World} {base : Nat} {spare : Nat → Bool} {held : Bool}
theorem ids_in {fuel : Nat} {cs : List Value} {x : DataW H × List MemPlace} {A : Option Addr} {l c : Nat} (h : DataW.trod enc Try.prog W base spare held fuel 23 cs = some x) (hcs : cs = [.slice A l c]) : ∃ t : List Id_, IdsArg W A l c t := by
  subst hcs
  obtain ⟨A', n', c', t, e, h1, h2, h3, h4⟩ := ids_any h
  injection e with e1 e2 e3
  subst e1 e2 e3
  exact ⟨t, h1, h2, h3, h4⟩
end
theorem part_lits {ids : List Id_} : ∀ {l s g : List Nm}, (∀ x ∈ l, Tg.Lit x) → (∀ x ∈ s, Tg.Lit x) → (∀ x ∈ g, Tg.Lit x) → (∀ x ∈ (partG ids l s g).1, Tg.Lit x) ∧ ∀ x ∈ (partG ids l s g).2, Tg.Lit x
  | [], s, g, _, hs, hg => by rw [partG]; exact ⟨hs, hg⟩
  | p :: l, s, g, hl, hs, hg => by
    have hp := hl p (.head _)
    have hl' : ∀ x ∈ l, Tg.Lit x := fun x hx => hl x (.tail _ hx)
    have sn : ∀ {t : List Nm} {x : Nm}, (∀ y ∈ t, Tg.Lit y) → Tg.Lit x → ∀ y ∈ t ++ [x], Tg.Lit y := fun {t x} ht hx y hy => by
      rcases List.mem_append.1 hy with h | h
      · exact ht y h
      · rw [List.mem_singleton.1 h]; exact hx
    rcases partG_cases (ids := ids) (p := p) (l := l) (s := s) (g := g) with ⟨h, _⟩ | ⟨x, g', _, ho, h⟩
    · rw [h]; exact part_lits hl' hs (sn hg hp)
    · rw [h]
      have hx := over_lit (bo := true) (show outO (overN g p) = (x, g') by rw [ho]; rfl) (by rw [ho]; rfl) hg hp
      exact part_lits hl' (sn hs hx.1) hx.2
theorem partN_lits {l s g : List Nm} {ids : List Id_} (h : partN l ids = (s, g)) (hl : ∀ x ∈ l, Tg.Lit x) : (∀ x ∈ s, Tg.Lit x) ∧ ∀ x ∈ g, Tg.Lit x := by
  have := part_lits (ids := ids) hl (s := []) (g := []) (fun x hx => by cases hx) (fun x hx => by cases hx)
  rw [show partG ids l [] [] = (s, g) from h] at this
  exact this
theorem partN_len {l s g : List Nm} {ids : List Id_} {n : Nat} (h : partN l ids = (s, g)) (hn : l.length = n) : s.length + g.length = n := by
  have := part_len l ids
  rw [h] at this
  exact this.trans hn
theorem pick_lits {ids : List Id_} : ∀ {l : List Nm}, (∀ x ∈ l, Tg.Lit x) → (∀ x ∈ (pickN ids l).1, Tg.Lit x) ∧ ∀ x ∈ (pickN ids l).2, Tg.Lit x
  | [], _ => ⟨fun x hx => (by cases hx), fun x hx => (by cases hx)⟩
  | p :: l, hl => by
    have hp := hl p (.head _)
    obtain ⟨h1, h2⟩ := pick_lits (ids := ids) (l := l) (fun x hx => hl x (.tail _ hx))
    rcases pickN_cases (ids := ids) (p := p) (l := l) with ⟨h, _⟩ | ⟨k', r', _, hu, h⟩
    · rw [h]
      exact ⟨fun x hx => by
        rcases List.mem_cons.1 hx with rfl | hx
        · exact hp
        · exact h1 x hx, h2⟩
    · rw [h]
      cases hn : undN p (pickN ids l).1 with
      | none => rw [und_none hn] at hu; cases hu
      | some z =>
        rw [und_some (o := z.1) (q := z.2) hn] at hu
        injection hu with hu
        injection hu with e1 e2
        subst e1 e2
        obtain ⟨l1, l2⟩ := und_lit (o := z.1) (q := z.2) hp h1 hn
        exact ⟨l1, fun x hx => by
          rcases List.mem_append.1 hx with hx | hx
          · rw [List.mem_singleton.1 hx]; exact l2
          · exact h2 x hx⟩
theorem pickN_lits {l s g : List Nm} {ids : List Id_} (h : pickN ids l = (s, g)) (hl : ∀ x ∈ l, Tg.Lit x) : (∀ x ∈ s, Tg.Lit x) ∧ ∀ x ∈ g, Tg.Lit x := by
  have := pick_lits (ids := ids) hl
  rw [h] at this
  exact this
theorem pickN_len {l s g : List Nm} {ids : List Id_} {n : Nat} (h : pickN ids l = (s, g)) (hn : l.length = n) : s.length + g.length = n := by
  have := pick_len l ids
  rw [h] at this
  exact this.trans hn

end Bb
end Go.Proofs.Ytdnkinajbebkoaa

set_option maxRecDepth 100000
namespace Go.Proofs.Ytdnkinajbebkoaa
open Go.RowKit
set_option linter.unusedVariables false
set_option linter.unusedSimpArgs false
namespace Bb
open Tx Df Sq Hk Tr Pr Fl Pn Tg

theorem drop_at {l : List Nm} {k : Nat} {p : Nm} (h : l[k]? = some p) : l.drop k = p :: l.drop (k + 1) := by
  obtain ⟨hk, rfl⟩ := List.getElem?_eq_some_iff.1 h
  exact List.drop_eq_getElem_cons hk
theorem all_snoc {l : List Nm} {p : Nm} (h : ∀ x ∈ l, Tg.Lit x) (hp : Tg.Lit p) : ∀ x ∈ l ++ [p], Tg.Lit x := fun x hx => by
  rcases List.mem_append.1 hx with h1 | h1
  · exact h x h1
  · rw [List.mem_singleton.1 h1]; exact hp
theorem over_of {l : List Nm} {q x : Nm} {ys : List Nm} (ho : outO (overN l q) = (x, ys)) (hs : (overN l q).isSome = true) : overN l q = some (x, ys) := by
  cases h1 : overN l q with
  | none => rw [h1] at hs; cases hs
  | some z => rw [h1] at ho; exact congrArg some ho
theorem over_none {l : List Nm} {q : Nm} (hs : (overN l q).isSome = false) : overN l q = none := by
  cases h1 : overN l q with
  | none => rfl
  | some z => rw [h1] at hs; cases hs

set_option maxRecDepth 100000 in
set_option maxHeartbeats 4000000 in
theorem refPartN (A : Option Addr) (n c : Nat) (l : List Nm) (A' : Option Addr) (n' c' : Nat) (ids : List Id_) (w : World) (hn : l.length = n) (hle : n ≤ 100) (hn' : ids.length = n') (hle' : n' ≤ 1000000) (hall : ∀ p ∈ l, Tg.Lit p) (hR : RdN w w.heap.size A l) (hR' : RdI w w.heap.size A' ids) (s g : List Nm) (ho : partN l ids = (s, g)) :
    Calls Try.prog 13 #[.slice A n c, .slice A' n' c'] w (PartEnd w s g) := by
  have HN := Lib.hid hn; have HN' := Lib.hid hn'; have HALL := Lib.hid hall; have HR := Lib.hid hR; have HR' := Lib.hid hR'; have HO := Lib.hid ho
  clear hn hn' hall hR hR' ho
  go_enter Try.func13, Try.ntmps13
  go_wp2_with fail
  go_loopw [6, 7, 8] (fun v u i wr => ∃ (k : Nat) (A1 A2 : Option Addr) (m1 f1 m2 f2 : Nat) (sk gk : List Nm), k ≤ n ∧ i = .int .i64 (k : Int) ∧ v = .slice A1 m1 f1 ∧ u = .slice A2 m2 f2 ∧ sk.length + gk.length = k ∧ gk.length = m2 ∧ (∀ x ∈ gk, Tg.Lit x) ∧ partG ids (l.drop k) sk gk = (s, g) ∧ Rows2 w wr (.slice A1 m1 f1) (.slice A2 m2 f2) sk gk) (fun _ _ i _ => n - (intOf i).toNat)
  case atStart => exact ⟨0, none, none, 0, 0, 0, 0, [], [], Nat.zero_le _, rfl, rfl, rfl, rfl, rfl, fun x hx => (by cases hx), HO.out, rows2_start w⟩
  case round =>
    obtain ⟨k, A1, A2, m1, f1, m2, f2, sk, gk, hk, rfl, rfl, rfl, hlen, hm2, hlg, hpg, hrow⟩ := hrel
    have HROW := Lib.hid hrow; have HPG := Lib.hid hpg; have HLG := Lib.hid hlg; have HM2 := Lib.hid hm2
    clear hrow hpg hlg hm2
    by_cases hlt : k < n
    · have hki : (k : Int) < (n : Int) := by omega
      obtain ⟨a, p, D, dn, dc, E, mp, kp, rfl, hS, hp, c0, c1, c2, c3, c4, hv⟩ := HR.out.elem (k := k) (by rw [HN.out]; exact hlt)
      have HLP := Lib.hid (HALL.out p (List.mem_of_getElem? hp))
      have HDR := Lib.hid (drop_at hp)
      have HPV := Lib.hid hv
      have HC : Hid (∀ W, Below w.heap.size w W → W.cell? (a.add (k * 5)) = some (.int .i64 p.id.1) ∧ W.cell? ⟨(a.add (k * 5)).block, (a.add (k * 5)).off + 1, none⟩ = some (.int .i64 p.id.2) ∧ W.cell? ⟨(a.add (k * 5)).block, (a.add (k * 5)).off + 2, none⟩ = some (.slice D dn dc) ∧ W.cell? ⟨(a.add (k * 5)).block, (a.add (k * 5)).off + 3, none⟩ = some (strV p.txt) ∧ W.cell? ⟨(a.add (k * 5)).block, (a.add (k * 5)).off + 4, none⟩ = some (.slice E mp kp)) := Lib.hid (fun W hb => ⟨cellB c0 hb (by rw [add_block]; exact hS), cellB c1 hb (by rw [add_block]; exact hS), cellB c2 hb (by rw [add_block]; exact hS), cellB c3 hb (by rw [add_block]; exact hS), cellB c4 hb (by rw [add_block]; exact hS)⟩)
      clear hp hv c0 c1 c2 c3 c4
      obtain ⟨bi, hbi⟩ : ∃ b, isIn ids p.id = b := ⟨_, rfl⟩
      obtain ⟨x, ys, hoo⟩ : ∃ x ys, outO (overN gk p) = (x, ys) := ⟨_, _, rfl⟩
      obtain ⟨bo, hbo⟩ : ∃ b, (overN gk p).isSome = b := ⟨_, rfl⟩
      have HBI := Lib.hid hbi; have HOO := Lib.hid hoo; have HBO := Lib.hid hbo
      clear hbi hoo hbo
      obtain ⟨c0, c1, c2, c3, c4⟩ := HC.out wr HROW.out.bw
      go_wp2_with fail
      refine (refInC A' n' c' ids p.id wr bi HN'.out hle' (RdI.mv HR'.out HROW.out.bw) HBI.out).mono ?_
      rintro e w2 ⟨rfl, hb2⟩
      have HROW2 := Lib.hid (HROW.out.below hb2)
      clear c0 c1 c2 c3 c4 hb2 HROW
      obtain ⟨c0, c1, c2, c3, c4⟩ := HC.out w2 HROW2.out.bw
      go_wp2_with fail
      refine (refOverS (PS w2 (.slice A1 m1 f1) (.slice A2 m2 f2)) A2 m2 f2 gk D dn dc E mp kp p w2 (by have := HM2.out; omega) (by have h1 := HPV.out.l; have h2 := HLP.out.2.1; omega) (by have h1 := HPV.out.dl; have h2 := HLP.out.2.2; omega) HLP.out.1 ps_lt (own_src HROW2.out.b) HM2.out (over_all HLG.out) ((ng_of (HPV.out.below HROW2.out.bw)).mono HROW2.out.old) x ys bo HOO.out HBO.out).mono ?_
      rintro e w3 ⟨Dx, dx, ex, Ex, mx, kx, A3, m3, f3, rfl, hnx, hm3, hr3, hb3⟩
      have HR3 := Lib.hid (HROW2.out.over hr3 hb3)
      have HNX := Lib.hid (hnx.mono (else_ps HROW2.out hr3 hb3))
      have HM3 := Lib.hid hm3
      have HROW3 := Lib.hid (HROW2.out.below hb3)
      clear c0 c1 c2 c3 c4 hb3 HROW2 hnx hm3 hr3
      have hba : Below w3.heap.size w3 (w3.alloc (.cells #[.int .i64 x.id.1, .int .i64 x.id.2, .slice Dx dx ex, strV x.txt, .slice Ex mx kx] 45)) := (Below.refl _ _).alloc (Nat.le_refl _) _
      have HROW4 := Lib.hid (HROW3.out.below hba)
      have HR4 := Lib.hid (HR3.out.below hba)
      have HNX4 := Lib.hid ((HNX.out.to_ ((alike_below hba).mono ps_lt)).mono (ps_size hba.size))
      have HBX := Lib.hid (Blk.new w3 45 #[.int .i64 x.id.1, .int .i64 x.id.2, .slice Dx dx ex, strV x.txt, .slice Ex mx kx])
      go_upto_region 8 with fail
      generalize (w3.alloc (.cells #[.int .i64 x.id.1, .int .i64 x.id.2, .slice Dx dx ex, strV x.txt, .slice Ex mx kx] 45)) = w4 at *
      obtain ⟨z, hz⟩ : ∃ z, w3.heap.size = z := ⟨_, rfl⟩
      rw [hz] at HBX ⊢
      clear hz hba HROW3 HR3 HNX
      cases bi with
      | true =>
        have HROW5 := Lib.hid (HROW4.out.below ((Below.refl w4.heap.size w4).alloc (Nat.le_refl _) (.cells #[.int .i64 p.id.1, .int .i64 p.id.2, .slice D dn dc, strV p.txt, .slice E mp kp] 45)))
        have HSR := Lib.hid (one_src (Blk.new w4 45 #[.int .i64 p.id.1, .int .i64 p.id.2, .slice D dn dc, strV p.txt, .slice E mp kp]) ((ng_of (HPV.out.below HROW5.out.bw)).mono HROW5.out.swap.old))
        have HLN := Lib.hid (show gk.length + 1 ≤ 100000 by omega)
        obtain ⟨c0, c1, c2, c3, c4⟩ := HC.out w4 HROW4.out.bw
        go_wp2_with (at_builtin; refine wpList_ownT rfl (.tmp 41) (.tmp 46) rfl (PS (w4.alloc (.cells #[.int .i64 p.id.1, .int .i64 p.id.2, .slice D dn dc, strV p.txt, .slice E mp kp] 45)) (.slice A2 m2 f2) (.slice A1 m1 f1)) w.heap.size 1 1 (.slice A2 m2 f2) (some ⟨w4.heap.size, 0, none⟩) gk [p] rfl rfl HROW5.out.swap.a HSR.out rfl HLN.out (fun b hb => ⟨hb.1, hb.2.1⟩) HROW5.out.bw.size ?_; intro v9 w9 ho hg hw)
        have hrow := (HROW5.out.swap.app ho hg hw).swap
        obtain ⟨A9, f9, rfl, hf9⟩ := Tg.ownT_slice ho
        refine ⟨⟨k + 1, A1, A9, m1, f1, _, f9, sk, gk ++ [p], by omega, by go_num, rfl, rfl, by rw [List.length_append, List.length_singleton]; omega, rfl, all_snoc HLG.out HLP.out, by rw [← partG_in (of_decide_eq_true HBI.out), ← HDR.out]; exact HPG.out, hrow⟩, by simp [intOf]; omega⟩
      | false =>
        cases bo with
        | false =>
          have HROW5 := Lib.hid (HROW4.out.below ((Below.refl w4.heap.size w4).alloc (Nat.le_refl _) (.cells #[.int .i64 p.id.1, .int .i64 p.id.2, .slice D dn dc, strV p.txt, .slice E mp kp] 45)))
          have HSR := Lib.hid (one_src (Blk.new w4 45 #[.int .i64 p.id.1, .int .i64 p.id.2, .slice D dn dc, strV p.txt, .slice E mp kp]) ((ng_of (HPV.out.below HROW5.out.bw)).mono HROW5.out.swap.old))
          have HLN := Lib.hid (show gk.length + 1 ≤ 100000 by omega)
          obtain ⟨c0, c1, c2, c3, c4⟩ := HC.out w4 HROW4.out.bw
          go_wp2_with (at_builtin; refine wpList_ownT rfl (.tmp 41) (.tmp 46) rfl (PS (w4.alloc (.cells #[.int .i64 p.id.1, .int .i64 p.id.2, .slice D dn dc, strV p.txt, .slice E mp kp] 45)) (.slice A2 m2 f2) (.slice A1 m1 f1)) w.heap.size 1 1 (.slice A2 m2 f2) (some ⟨w4.heap.size, 0, none⟩) gk [p] rfl rfl HROW5.out.swap.a HSR.out rfl HLN.out (fun b hb => ⟨hb.1, hb.2.1⟩) HROW5.out.bw.size ?_; intro v9 w9 ho hg hw)
          have hrow := (HROW5.out.swap.app ho hg hw).swap
          obtain ⟨A9, f9, rfl, hf9⟩ := Tg.ownT_slice ho
          refine ⟨⟨k + 1, A1, A9, m1, f1, _, f9, sk, gk ++ [p], by omega, by go_num, rfl, rfl, by rw [List.length_append, List.length_singleton]; omega, rfl, all_snoc HLG.out HLP.out, by rw [← partG_no (over_none HBO.out), ← HDR.out]; exact HPG.out, hrow⟩, by simp [intOf]; omega⟩
        | true =>
          have HOV := Lib.hid (over_of HOO.out HBO.out)
          have HLY := Lib.hid (over_lit HOO.out HBO.out HLG.out HLP.out)
          have hbl : Below w4.heap.size w4 (w4.alloc (.cells #[.int .i64 x.id.1, .int .i64 x.id.2, .slice Dx dx ex, strV x.txt, .slice Ex mx kx] 45)) := (Below.refl _ _).alloc (Nat.le_refl _) _
          have HROW5 := Lib.hid (HR4.out.below hbl)
          have HSR := Lib.hid (one_src (Blk.new w4 45 #[.int .i64 x.id.1, .int .i64 x.id.2, .slice Dx dx ex, strV x.txt, .slice Ex mx kx]) ((HNX4.out.to_ ((alike_below hbl).mono ps_lt)).mono (ps_size hbl.size)))
          have HLN := Lib.hid (show sk.length + 1 ≤ 100000 by omega)
          have bx := HBX.out
          have x0 := bx.cell 0 rfl; have x1 := bx.cell 1 rfl; have x2 := bx.cell 2 rfl; have x3 := bx.cell 3 rfl; have x4 := bx.cell 4 rfl; have xl := bx.lt
          clear bx hbl
          go_wp2_with (at_builtin; refine wpList_ownT rfl (.tmp 48) (.tmp 50) rfl (PS (w4.alloc (.cells #[.int .i64 x.id.1, .int .i64 x.id.2, .slice Dx dx ex, strV x.txt, .slice Ex mx kx] 45)) (.slice A1 m1 f1) (.slice A3 m3 f3)) w.heap.size 1 1 (.slice A1 m1 f1) (some ⟨w4.heap.size, 0, none⟩) sk [x] rfl rfl HROW5.out.a HSR.out rfl HLN.out (fun b hb => ⟨hb.1, hb.2.1⟩) HROW5.out.bw.size ?_; intro v9 w9 ho hg hw)
          have hrow := HROW5.out.app ho hg hw
          obtain ⟨A9, f9, rfl, hf9⟩ := Tg.ownT_slice ho
          refine ⟨⟨k + 1, A9, A3, _, f9, m3, f3, sk ++ [x], ys, by omega, by go_num, rfl, rfl, by rw [List.length_append, List.length_singleton, overN_len HOV.out]; omega, HM3.out, HLY.out.2, by rw [← partG_over (of_decide_eq_false HBI.out) HOV.out, ← HDR.out]; exact HPG.out, hrow⟩, by simp [intOf]; omega⟩
    · have hki : ¬ (k : Int) < (n : Int) := by omega
      have hpg := HPG.out
      rw [List.drop_of_length_le (by rw [HN.out]; omega)] at hpg
      injection hpg with e1 e2
      subst e1 e2
      go_wp2
      go_ret2
      exact HROW.out.end_

end Bb
end Go.Proofs.Ytdnkinajbebkoaa

set_option maxRecDepth 100000
namespace Go.Proofs.Ytdnkinajbebkoaa
open Go.RowKit
set_option linter.unusedVariables false
set_option linter.unusedSimpArgs false
namespace Bb
open Tx Df Sq Hk Tr Pr Fl Pn Tg

theorem lit_cons {l : List Nm} {p : Nm} (hp : Tg.Lit p) (h : ∀ x ∈ l, Tg.Lit x) : ∀ x ∈ p :: l, Tg.Lit x := fun x hx => by
  rcases List.mem_cons.1 hx with h1 | h1
  · rw [h1]; exact hp
  · exact h x h1
section
variable {ids : List Id_} {p q : Nm} {l k r o : List Nm}
theorem pk_in (h : p.id ∈ ids) (e : pickN ids l = (k, r)) : pickN ids (p :: l) = (p :: k, r) := by rw [pickN, if_pos h, e]
theorem pk_no (h : undN p k = none) (e : pickN ids l = (k, r)) : pickN ids (p :: l) = (p :: k, r) := by
  rw [pickN]
  split
  · rw [e]
  · rw [e, und_none h]
theorem pk_und (hi : p.id ∉ ids) (h : undN p k = some (o, q)) (e : pickN ids l = (k, r)) : pickN ids (p :: l) = (o, q :: r) := by rw [pickN, if_neg hi, e, und_some h]; rfl
end

set_option maxRecDepth 100000 in
set_option maxHeartbeats 4000000 in
theorem refPickN (A : Option Addr) (n c : Nat) (l : List Nm) (A' : Option Addr) (n' c' : Nat) (ids : List Id_) (w : World) (hn : l.length = n) (hle : n ≤ 100) (hn' : ids.length = n') (hle' : n' ≤ 1000000) (hall : ∀ p ∈ l, Tg.Lit p) (hR : RdN w w.heap.size A l) (hR' : RdI w w.heap.size A' ids) (s g : List Nm) (ho : pickN ids l = (s, g)) :
    Calls Try.prog 16 #[.slice A n c, .slice A' n' c'] w (PartEnd w s g) := by
  have HN := Lib.hid hn; have HN' := Lib.hid hn'; have HALL := Lib.hid hall; have HR := Lib.hid hR; have HR' := Lib.hid hR'; have HO := Lib.hid ho
  clear hn hn' hall hR hR' ho
  go_enter Try.func16, Try.ntmps16
  go_wp2_with fail
  go_loopw [6, 7, 8] (fun v u i wr => ∃ (j : Nat) (A1 A2 : Option Addr) (m1 f1 m2 f2 : Nat) (pk rk : List Nm), j ≤ n ∧ i = .int .i64 ((j : Int) - 1) ∧ v = .slice A1 m1 f1 ∧ u = .slice A2 m2 f2 ∧ pk.length + rk.length + j = n ∧ pk.length = m1 ∧ (∀ x ∈ pk, Tg.Lit x) ∧ pickN ids (l.drop j) = (pk, rk) ∧ Rows2 w wr (.slice A1 m1 f1) (.slice A2 m2 f2) pk rk) (fun _ _ i _ => (intOf i + 1).toNat)
  case atStart => exact ⟨n, none, none, 0, 0, 0, 0, [], [], Nat.le_refl _, by go_num, rfl, rfl, by simp, rfl, fun x hx => (by cases hx), by rw [List.drop_of_length_le (by rw [HN.out]; exact Nat.le_refl _)]; rfl, rows2_start w⟩
  case round =>
    obtain ⟨j, A1, A2, m1, f1, m2, f2, pk, rk, hk, rfl, rfl, rfl, hlen, hm1, hlg, hpg, hrow⟩ := hrel
    have HROW := Lib.hid hrow; have HPG := Lib.hid hpg; have HLG := Lib.hid hlg; have HM1 := Lib.hid hm1
    clear hrow hpg hlg hm1
    by_cases h0 : j = 0
    · subst h0
      have ez : (((0 : Nat) : Int) - 1) = -1 := rfl
      rw [ez]; clear ez
      have hpg := HPG.out
      rw [List.drop_zero, HO.out] at hpg
      injection hpg with e1 e2
      subst e1 e2
      go_wp2
      go_ret2
      exact HROW.out.end_
    · obtain ⟨k, rfl⟩ : ∃ k, j = k + 1 := ⟨j - 1, by omega⟩
      have ei : ((k + 1 : Nat) : Int) - 1 = (k : Int) := by omega
      rw [ei]; clear ei h0
      have hlt : k < n := by omega
      have hki : (k : Int) < (n : Int) := by omega
      have hk0 : (0 : Int) ≤ (k : Int) := by omega
      obtain ⟨a, p, D, dn, dc, E, mp, kp, rfl, hS, hp, c0, c1, c2, c3, c4, hv⟩ := HR.out.elem (k := k) (by rw [HN.out]; exact hlt)
      have HLP := Lib.hid (HALL.out p (List.mem_of_getElem? hp))
      have HDR := Lib.hid (drop_at hp)
      have HPV := Lib.hid hv
      have HC : Hid (∀ W, Below w.heap.size w W → W.cell? (a.add (k * 5)) = some (.int .i64 p.id.1) ∧ W.cell? ⟨(a.add (k * 5)).block, (a.add (k * 5)).off + 1, none⟩ = some (.int .i64 p.id.2) ∧ W.cell? ⟨(a.add (k * 5)).block, (a.add (k * 5)).off + 2, none⟩ = some (.slice D dn dc) ∧ W.cell? ⟨(a.add (k * 5)).block, (a.add (k * 5)).off + 3, none⟩ = some (strV p.txt) ∧ W.cell? ⟨(a.add (k * 5)).block, (a.add (k * 5)).off + 4, none⟩ = some (.slice E mp kp)) := Lib.hid (fun W hb => ⟨cellB c0 hb (by rw [add_block]; exact hS), cellB c1 hb (by rw [add_block]; exact hS), cellB c2 hb (by rw [add_block]; exact hS), cellB c3 hb (by rw [add_block]; exact hS), cellB c4 hb (by rw [add_block]; exact hS)⟩)
      clear hp hv c0 c1 c2 c3 c4
      obtain ⟨bi, hbi⟩ : ∃ b, isIn ids p.id = b := ⟨_, rfl⟩
      obtain ⟨o, x, hoo⟩ : ∃ o x, outU (undN p pk) = (o, x) := ⟨_, _, rfl⟩
      obtain ⟨bo, hbo⟩ : ∃ b, (undN p pk).isSome = b := ⟨_, rfl⟩
      have HBI := Lib.hid hbi; have HOO := Lib.hid hoo; have HBO := Lib.hid hbo
      clear hbi hoo hbo
      obtain ⟨c0, c1, c2, c3, c4⟩ := HC.out wr HROW.out.bw
      go_wp2_with fail
      refine (refInC A' n' c' ids p.id wr bi HN'.out hle' (RdI.mv HR'.out HROW.out.bw) HBI.out).mono ?_
      rintro e w2 ⟨rfl, hb2⟩
      have HROW2 := Lib.hid (HROW.out.below hb2)
      clear c0 c1 c2 c3 c4 hb2 HROW
      obtain ⟨c0, c1, c2, c3, c4⟩ := HC.out w2 HROW2.out.bw
      go_wp2_with fail
      refine (refUnderN (PS w2 (.slice A2 m2 f2) (.slice A1 m1 f1)) D dn dc E mp kp A1 m1 f1 w.heap.size p pk w2 (by have := HM1.out; omega) HLP.out HLG.out ps_lt ((ng_of (HPV.out.below HROW2.out.bw)).mono HROW2.out.swap.old) HM1.out HROW2.out.swap.b o x bo HOO.out HBO.out).mono ?_
      rintro e w3 ⟨A3, m3, f3, Dx, dx, ex, Ex, mx, kx, rfl, hm3, hr3, hnx, hb3⟩
      have HR3 := Lib.hid (HROW2.out.swap.over hr3 hb3)
      have HNX := Lib.hid (hnx.mono (else_ps HROW2.out.swap hr3 hb3))
      have HM3 := Lib.hid hm3
      have HROW3 := Lib.hid (HROW2.out.below hb3)
      clear c0 c1 c2 c3 c4 hb3 HROW2 hnx hm3 hr3
      have hba : Below w3.heap.size w3 (w3.alloc (.cells #[.int .i64 x.id.1, .int .i64 x.id.2, .slice Dx dx ex, strV x.txt, .slice Ex mx kx] 45)) := (Below.refl _ _).alloc (Nat.le_refl _) _
      have HROW4 := Lib.hid (HROW3.out.below hba)
      have HR4 := Lib.hid (HR3.out.below hba)
      have HNX4 := Lib.hid ((HNX.out.to_ ((alike_below hba).mono ps_lt)).mono (ps_size hba.size))
      have HBX := Lib.hid (Blk.new w3 45 #[.int .i64 x.id.1, .int .i64 x.id.2, .slice Dx dx ex, strV x.txt, .slice Ex mx kx])
      go_upto_region 8 with fail
      generalize (w3.alloc (.cells #[.int .i64 x.id.1, .int .i64 x.id.2, .slice Dx dx ex, strV x.txt, .slice Ex mx kx] 45)) = w4 at *
      obtain ⟨z, hz⟩ : ∃ z, w3.heap.size = z := ⟨_, rfl⟩
      rw [hz] at HBX ⊢
      clear hz hba HROW3 HR3 HNX
      cases bi with
      | true =>
        have hbl : Below w4.heap.size w4 (w4.alloc (.cells #[.int .i64 p.id.1, .int .i64 p.id.2, .slice D dn dc, strV p.txt, .slice E mp kp] 45)) := (Below.refl _ _).alloc (Nat.le_refl _) _
        have HLT := Lib.hid (ownT_lit w4 (((ng_of (HPV.out.below (below_mv HROW4.out.bw hbl))).mono HROW4.out.old)))
        have HSR := Lib.hid (own_src (HROW4.out.a.below hbl))
        have HLN := Lib.hid (show [p].length + m1 ≤ 100000 by rw [List.length_singleton]; have := HM1.out; omega)
        have HBL := Lib.hid hbl
        have HS4 : Hid (∀ b, PS w4 (.slice A1 m1 f1) (.slice A2 m2 f2) b → b < (w4.alloc (.cells #[.int .i64 p.id.1, .int .i64 p.id.2, .slice D dn dc, strV p.txt, .slice E mp kp] 45)).heap.size ∧ some b ≠ (Value.slice (some ⟨w4.heap.size, 0, none⟩) 1 1).ownBlock) := Lib.hid (fun b hb => ⟨Nat.lt_of_lt_of_le hb.1 hbl.size, fun e => by injection e with e; have e : b = w4.heap.size := e; have := hb.1; omega⟩)
        obtain ⟨c0, c1, c2, c3, c4⟩ := HC.out w4 HROW4.out.bw
        clear hbl
        go_wp2_with (at_builtin; refine wpList_ownT rfl (.tmp 46) (.tmp 47) rfl (PS w4 (.slice A1 m1 f1) (.slice A2 m2 f2)) w4.heap.size m1 f1 (.slice (some ⟨w4.heap.size, 0, none⟩) 1 1) A1 [p] pk rfl rfl HLT.out HSR.out HM1.out HLN.out HS4.out HBL.out.size ?_; intro v9 w9 ho hg hw)
        have hrow := HROW4.out.front ho (HBL.out.grown hg HBL.out.size (fun b e => by injection e with e; exact Nat.le_of_eq e))
        obtain ⟨A9, f9, rfl, hf9⟩ := Tg.ownT_slice ho
        refine ⟨⟨k, A9, A2, _, f9, m2, f2, p :: pk, rk, by omega, by go_num, rfl, rfl, by rw [List.length_cons]; omega, rfl, lit_cons HLP.out HLG.out, by rw [HDR.out]; exact pk_in (of_decide_eq_true HBI.out) HPG.out, hrow⟩, by simp [intOf]⟩
      | false =>
        cases bo with
        | false =>
          have hbl : Below w4.heap.size w4 (w4.alloc (.cells #[.int .i64 p.id.1, .int .i64 p.id.2, .slice D dn dc, strV p.txt, .slice E mp kp] 45)) := (Below.refl _ _).alloc (Nat.le_refl _) _
          have HLT := Lib.hid (ownT_lit w4 (((ng_of (HPV.out.below (below_mv HROW4.out.bw hbl))).mono HROW4.out.old)))
          have HSR := Lib.hid (own_src (HROW4.out.a.below hbl))
          have HLN := Lib.hid (show [p].length + m1 ≤ 100000 by rw [List.length_singleton]; have := HM1.out; omega)
          have HBL := Lib.hid hbl
          have HS4 : Hid (∀ b, PS w4 (.slice A1 m1 f1) (.slice A2 m2 f2) b → b < (w4.alloc (.cells #[.int .i64 p.id.1, .int .i64 p.id.2, .slice D dn dc, strV p.txt, .slice E mp kp] 45)).heap.size ∧ some b ≠ (Value.slice (some ⟨w4.heap.size, 0, none⟩) 1 1).ownBlock) := Lib.hid (fun b hb => ⟨Nat.lt_of_lt_of_le hb.1 hbl.size, fun e => by injection e with e; have e : b = w4.heap.size := e; have := hb.1; omega⟩)
          obtain ⟨c0, c1, c2, c3, c4⟩ := HC.out w4 HROW4.out.bw
          clear hbl
          go_wp2_with (at_builtin; refine wpList_ownT rfl (.tmp 46) (.tmp 47) rfl (PS w4 (.slice A1 m1 f1) (.slice A2 m2 f2)) w4.heap.size m1 f1 (.slice (some ⟨w4.heap.size, 0, none⟩) 1 1) A1 [p] pk rfl rfl HLT.out HSR.out HM1.out HLN.out HS4.out HBL.out.size ?_; intro v9 w9 ho hg hw)
          have hrow := HROW4.out.front ho (HBL.out.grown hg HBL.out.size (fun b e => by injection e with e; exact Nat.le_of_eq e))
          obtain ⟨A9, f9, rfl, hf9⟩ := Tg.ownT_slice ho
          refine ⟨⟨k, A9, A2, _, f9, m2, f2, p :: pk, rk, by omega, by go_num, rfl, rfl, by rw [List.length_cons]; omega, rfl, lit_cons HLP.out HLG.out, by rw [HDR.out]; exact pk_no (by have h := HBO.out; cases h1 : undN p pk with | none => rfl | some z => rw [h1] at h; cases h) HPG.out, hrow⟩, by simp [intOf]⟩
        | true =>
          have HOV : Hid (undN p pk = some (o, x)) := Lib.hid (by
            have h := HBO.out; have ho := HOO.out
            cases h1 : undN p pk with
            | none => rw [h1] at h; cases h
            | some z => rw [h1] at ho; exact congrArg some ho)
          have HLY := Lib.hid (und_lit HLP.out HLG.out HOV.out)
          have HUL := Lib.hid (und_len HOV.out)
          have hbl : Below w4.heap.size w4 (w4.alloc (.cells #[.int .i64 x.id.1, .int .i64 x.id.2, .slice Dx dx ex, strV x.txt, .slice Ex mx kx] 45)) := (Below.refl _ _).alloc (Nat.le_refl _) _
          have HLT := Lib.hid (ownT_lit w4 (HNX4.out.to_ ((alike_below hbl).mono ps_lt)))
          have HSR := Lib.hid (own_src (HR4.out.a.below hbl))
          have HLN := Lib.hid (show [x].length + m2 ≤ 100000 by obtain ⟨_, _, e, _⟩ := Tg.ownT_slice HR4.out.a; injection e with _ e _; rw [List.length_singleton]; omega)
          have HM2 : Hid (rk.length = m2) := Lib.hid (by obtain ⟨_, _, e, _⟩ := Tg.ownT_slice HR4.out.a; injection e with _ e _; exact e.symm)
          have HBL := Lib.hid hbl
          have HS4 : Hid (∀ b, PS w4 (.slice A2 m2 f2) (.slice A3 m3 f3) b → b < (w4.alloc (.cells #[.int .i64 x.id.1, .int .i64 x.id.2, .slice Dx dx ex, strV x.txt, .slice Ex mx kx] 45)).heap.size ∧ some b ≠ (Value.slice (some ⟨w4.heap.size, 0, none⟩) 1 1).ownBlock) := Lib.hid (fun b hb => ⟨Nat.lt_of_lt_of_le hb.1 hbl.size, fun e => by injection e with e; have e : b = w4.heap.size := e; have := hb.1; omega⟩)
          have bx := HBX.out
          have x0 := bx.cell 0 rfl; have x1 := bx.cell 1 rfl; have x2 := bx.cell 2 rfl; have x3 := bx.cell 3 rfl; have x4 := bx.cell 4 rfl; have xl := bx.lt
          clear bx hbl
          go_wp2_with (at_builtin; refine wpList_ownT rfl (.tmp 51) (.tmp 52) rfl (PS w4 (.slice A2 m2 f2) (.slice A3 m3 f3)) w4.heap.size m2 f2 (.slice (some ⟨w4.heap.size, 0, none⟩) 1 1) A2 [x] rk rfl rfl HLT.out HSR.out HM2.out HLN.out HS4.out HBL.out.size ?_; intro v9 w9 ho hg hw)
          have hrow := (HR4.out.front ho (HBL.out.grown hg HBL.out.size (fun b e => by injection e with e; exact Nat.le_of_eq e))).swap
          obtain ⟨A9, f9, rfl, hf9⟩ := Tg.ownT_slice ho
          refine ⟨⟨k, A3, A9, m3, f3, _, f9, o, x :: rk, by omega, by go_num, rfl, rfl, by rw [List.length_cons, HUL.out]; omega, HM3.out, HLY.out.1, by rw [HDR.out]; exact pk_und (of_decide_eq_false HBI.out) HOV.out HPG.out, hrow⟩, by simp [intOf]⟩

end Bb
end Go.Proofs.Ytdnkinajbebkoaa

set_option maxRecDepth 100000
namespace Go.Proofs.Ytdnkinajbebkoaa
open Go.RowKit
set_option linter.unusedVariables false
set_option linter.unusedSimpArgs false
open Tr Tx Hk Pr Fl Pn Tg Bb
namespace BbL
attribute [local go_sem] eq_id

set_option maxRecDepth 100000 in
set_option maxHeartbeats 8000000 in
theorem bubbleTells_walk (A_l : Option Addr) (n_l c_l : Nat) (l : List Nm) (A_ids : Option Addr) (n_ids c_ids : Nat) (ids : List Id_) (w : World) (h_l : NmsArg w A_l n_l c_l l) (h_ids : IdsArg w A_ids n_ids c_ids ids) :
    Calls Try.prog 3 #[.slice A_l n_l c_l, .slice A_ids n_ids c_ids] w (LawEnd w) := by
  have HR_l := Lib.hid h_l.rd; have HN_l := Lib.hid h_l.len; have HC_l := Lib.hid h_l.cap; have HM_l := Lib.hid h_l.le
  clear h_l
  have HR_ids := Lib.hid h_ids.rd; have HN_ids := Lib.hid h_ids.len; have HC_ids := Lib.hid h_ids.cap; have HM_ids := Lib.hid h_ids.le
  clear h_ids
  have HB := Lib.hid (Below.refl w.heap.size w)
  go_enter Try.func3, Try.ntmps3
  go_wp2_with fail
  refine (Bb.awake w).mono ?_
  rintro e w_1 ⟨rfl, hb⟩
  replace HR_l := Lib.hid (RdN.mv HR_l.out hb)
  replace HR_ids := Lib.hid (RdI.mv HR_ids.out hb)
  replace HB := Lib.hid (below_mv HB.out hb)
  clear hb
  obtain ⟨bl_l, hbl⟩ : ∃ bb, fewN l 8 = bb := ⟨_, rfl⟩
  have HBL_l := Lib.hid hbl; clear hbl
  go_wp2_with fail
  refine (FewN A_l n_l c_l 8 l w_1 bl_l (by decide) ⟨HN_l.out, HC_l.out, HM_l.out, HR_l.out⟩ HBL_l.out).mono ?_
  rintro e w_2 ⟨rfl, hb⟩
  replace HR_l := Lib.hid (RdN.mv HR_l.out hb)
  replace HR_ids := Lib.hid (RdI.mv HR_ids.out hb)
  replace HB := Lib.hid (below_mv HB.out hb)
  clear hb
  have hle_ids := HM_ids.out
  unfold maxLen at hle_ids
  by_cases hbig : (30 : Int) < (n_ids : Int)
  case pos =>
    cases bl_l <;> (go_wp2; go_ret; exact ⟨rfl, HB.out⟩)
  have HQ_ids : Hid (n_ids ≤ 30) := Lib.hid (by omega)
  clear hle_ids
  cases bl_l with
  | false =>
    go_wp2
    go_ret
    exact ⟨rfl, HB.out⟩
  | true =>
  have HQ_l : Hid (n_l ≤ 8) := Lib.hid (by have h1 := fewN_len HBL_l.out; rw [HN_l.out] at h1; exact h1)
  have HL_l := Lib.hid (few_all HBL_l.out)
  obtain ⟨⟨sx, gx⟩, hpp⟩ : ∃ z, partN l ids = z := ⟨_, rfl⟩
  have HP1 := Lib.hid hpp; have HLS1 := Lib.hid (partN_lits hpp HL_l.out); have HLN1 := Lib.hid (partN_len hpp HN_l.out)
  clear hpp
  obtain ⟨⟨px, rx⟩, hpp⟩ : ∃ z, pickN ids l = z := ⟨_, rfl⟩
  have HP2 := Lib.hid hpp; have HLS2 := Lib.hid (pickN_lits hpp HL_l.out); have HLN2 := Lib.hid (pickN_len hpp HN_l.out)
  clear hpp
  go_wp2_with fail
  refine (PartC A_l n_l c_l l A_ids n_ids c_ids ids w_2 HN_l.out (by have := HQ_l.out; omega) HN_ids.out (by have := HQ_ids.out; omega) HL_l.out HR_l.out HR_ids.out sx gx HP1.out).mono ?_
  rintro e w_3 ⟨A_a, n_a, c_a, A_b, n_b, c_b, rfl, hn1, hc1, hr1, hn2, hc2, hr2, hb⟩
  have HN_a := Lib.hid hn1; have HC_a := Lib.hid hc1; have HR_a := Lib.hid hr1; have HN_b := Lib.hid hn2; have HC_b := Lib.hid hc2; have HR_b := Lib.hid hr2
  clear hn1 hc1 hr1 hn2 hc2 hr2
  replace HR_l := Lib.hid (RdN.mv HR_l.out hb)
  replace HR_ids := Lib.hid (RdI.mv HR_ids.out hb)
  replace HB := Lib.hid (below_mv HB.out hb)
  clear hb
  go_wp2_with fail
  refine (refPartN A_l n_l c_l l A_ids n_ids c_ids ids w_3 HN_l.out (by have := HQ_l.out; omega) HN_ids.out (by have := HQ_ids.out; omega) HL_l.out HR_l.out HR_ids.out sx gx HP1.out).mono ?_
  rintro e w_4 ⟨A_c, n_c, c_c, A_d, n_d, c_d, rfl, hn1, hc1, hr1, hn2, hc2, hr2, hb⟩
  have HN_c := Lib.hid hn1; have HC_c := Lib.hid hc1; have HR_c := Lib.hid hr1; have HN_d := Lib.hid hn2; have HC_d := Lib.hid hc2; have HR_d := Lib.hid hr2
  clear hn1 hc1 hr1 hn2 hc2 hr2
  replace HR_l := Lib.hid (RdN.mv HR_l.out hb)
  replace HR_ids := Lib.hid (RdI.mv HR_ids.out hb)
  replace HR_a := Lib.hid (RdN.mv HR_a.out hb)
  replace HR_b := Lib.hid (RdN.mv HR_b.out hb)
  replace HB := Lib.hid (below_mv HB.out hb)
  clear hb
  obtain rfl : n_a = n_c := by rw [← HN_a.out, ← HN_c.out]
  go_wp2_with fail
  refine (refListN A_a n_a c_a A_c c_c sx w_4 HN_a.out (by have h1 := HLN1.out; have h2 := HN_a.out; have h3 := HQ_l.out; omega) HLS1.out.1 HR_a.out HR_c.out).mono ?_
  rintro e w_5 ⟨rfl, hb⟩
  replace HR_l := Lib.hid (RdN.mv HR_l.out hb)
  replace HR_ids := Lib.hid (RdI.mv HR_ids.out hb)
  replace HR_a := Lib.hid (RdN.mv HR_a.out hb)
  replace HR_b := Lib.hid (RdN.mv HR_b.out hb)
  replace HR_c := Lib.hid (RdN.mv HR_c.out hb)
  replace HR_d := Lib.hid (RdN.mv HR_d.out hb)
  replace HB := Lib.hid (below_mv HB.out hb)
  clear hb
  obtain rfl : n_b = n_d := by rw [← HN_b.out, ← HN_d.out]
  go_wp2_with fail
  refine (refListN A_b n_b c_b A_d c_d gx w_5 HN_b.out (by have h1 := HLN1.out; have h2 := HN_b.out; have h3 := HQ_l.out; omega) HLS1.out.2 HR_b.out HR_d.out).mono ?_
  rintro e w_6 ⟨rfl, hb⟩
  replace HR_l := Lib.hid (RdN.mv HR_l.out hb)
  replace HR_ids := Lib.hid (RdI.mv HR_ids.out hb)
  replace HR_a := Lib.hid (RdN.mv HR_a.out hb)
  replace HR_b := Lib.hid (RdN.mv HR_b.out hb)
  replace HR_c := Lib.hid (RdN.mv HR_c.out hb)
  replace HR_d := Lib.hid (RdN.mv HR_d.out hb)
  replace HB := Lib.hid (below_mv HB.out hb)
  clear hb
  go_wp2_with fail
  refine (PickC A_l n_l c_l l A_ids n_ids c_ids ids w_6 HN_l.out (by have := HQ_l.out; omega) HN_ids.out (by have := HQ_ids.out; omega) HL_l.out HR_l.out HR_ids.out px rx HP2.out).mono ?_
  rintro e w_7 ⟨A_p, n_p, c_p, A_q, n_q, c_q, rfl, hn1, hc1, hr1, hn2, hc2, hr2, hb⟩
  have HN_p := Lib.hid hn1; have HC_p := Lib.hid hc1; have HR_p := Lib.hid hr1; have HN_q := Lib.hid hn2; have HC_q := Lib.hid hc2; have HR_q := Lib.hid hr2
  clear hn1 hc1 hr1 hn2 hc2 hr2
  replace HR_l := Lib.hid (RdN.mv HR_l.out hb)
  replace HR_ids := Lib.hid (RdI.mv HR_ids.out hb)
  replace HR_a := Lib.hid (RdN.mv HR_a.out hb)
  replace HR_b := Lib.hid (RdN.mv HR_b.out hb)
  replace HR_c := Lib.hid (RdN.mv HR_c.out hb)
  replace HR_d := Lib.hid (RdN.mv HR_d.out hb)
  replace HB := Lib.hid (below_mv HB.out hb)
  clear hb
  go_wp2_with fail
  refine (refPickN A_l n_l c_l l A_ids n_ids c_ids ids w_7 HN_l.out (by have := HQ_l.out; omega) HN_ids.out (by have := HQ_ids.out; omega) HL_l.out HR_l.out HR_ids.out px rx HP2.out).mono ?_
  rintro e w_8 ⟨A_r, n_r, c_r, A_s, n_s, c_s, rfl, hn1, hc1, hr1, hn2, hc2, hr2, hb⟩
  have HN_r := Lib.hid hn1; have HC_r := Lib.hid hc1; have HR_r := Lib.hid hr1; have HN_s := Lib.hid hn2; have HC_s := Lib.hid hc2; have HR_s := Lib.hid hr2
  clear hn1 hc1 hr1 hn2 hc2 hr2
  replace HR_l := Lib.hid (RdN.mv HR_l.out hb)
  replace HR_ids := Lib.hid (RdI.mv HR_ids.out hb)
  replace HR_a := Lib.hid (RdN.mv HR_a.out hb)
  replace HR_b := Lib.hid (RdN.mv HR_b.out hb)
  replace HR_c := Lib.hid (RdN.mv HR_c.out hb)
  replace HR_d := Lib.hid (RdN.mv HR_d.out hb)
  replace HR_p := Lib.hid (RdN.mv HR_p.out hb)
  replace HR_q := Lib.hid (RdN.mv HR_q.out hb)
  replace HB := Lib.hid (below_mv HB.out hb)
  clear hb
  obtain rfl : n_p = n_r := by rw [← HN_p.out, ← HN_r.out]
  go_wp2_with fail
  refine (refListN A_p n_p c_p A_r c_r px w_8 HN_p.out (by have h1 := HLN2.out; have h2 := HN_p.out; have h3 := HQ_l.out; omega) HLS2.out.1 HR_p.out HR_r.out).mono ?_
  rintro e w_9 ⟨rfl, hb⟩
  replace HR_l := Lib.hid (RdN.mv HR_l.out hb)
  replace HR_ids := Lib.hid (RdI.mv HR_ids.out hb)
  replace HR_a := Lib.hid (RdN.mv HR_a.out hb)
  replace HR_b := Lib.hid (RdN.mv HR_b.out hb)
  replace HR_c := Lib.hid (RdN.mv HR_c.out hb)
  replace HR_d := Lib.hid (RdN.mv HR_d.out hb)
  replace HR_p := Lib.hid (RdN.mv HR_p.out hb)
  replace HR_q := Lib.hid (RdN.mv HR_q.out hb)
  replace HR_r := Lib.hid (RdN.mv HR_r.out hb)
  replace HR_s := Lib.hid (RdN.mv HR_s.out hb)
  replace HB := Lib.hid (below_mv HB.out hb)
  clear hb
  obtain rfl : n_q = n_s := by rw [← HN_q.out, ← HN_s.out]
  go_wp2_with fail
  refine (refListN A_q n_q c_q A_s c_s rx w_9 HN_q.out (by have h1 := HLN2.out; have h2 := HN_q.out; have h3 := HQ_l.out; omega) HLS2.out.2 HR_q.out HR_s.out).mono ?_
  rintro e w_10 ⟨rfl, hb⟩
  replace HR_l := Lib.hid (RdN.mv HR_l.out hb)
  replace HR_ids := Lib.hid (RdI.mv HR_ids.out hb)
  replace HR_a := Lib.hid (RdN.mv HR_a.out hb)
  replace HR_b := Lib.hid (RdN.mv HR_b.out hb)
  replace HR_c := Lib.hid (RdN.mv HR_c.out hb)
  replace HR_d := Lib.hid (RdN.mv HR_d.out hb)
  replace HR_p := Lib.hid (RdN.mv HR_p.out hb)
  replace HR_q := Lib.hid (RdN.mv HR_q.out hb)
  replace HR_r := Lib.hid (RdN.mv HR_r.out hb)
  replace HR_s := Lib.hid (RdN.mv HR_s.out hb)
  replace HB := Lib.hid (below_mv HB.out hb)
  clear hb
  go_wp2_with fail
  refine (IdsC A_l n_l c_l l w_10 HN_l.out (by have := HQ_l.out; omega) HR_l.out).mono ?_
  rintro e w_11 ⟨A_u, n_u, c_u, rfl, hn1, hc1, hr1, hb⟩
  have HN_u := Lib.hid hn1; have HR_u := Lib.hid hr1
  clear hn1 hc1 hr1
  replace HR_l := Lib.hid (RdN.mv HR_l.out hb)
  replace HR_ids := Lib.hid (RdI.mv HR_ids.out hb)
  replace HR_a := Lib.hid (RdN.mv HR_a.out hb)
  replace HR_b := Lib.hid (RdN.mv HR_b.out hb)
  replace HR_c := Lib.hid (RdN.mv HR_c.out hb)
  replace HR_d := Lib.hid (RdN.mv HR_d.out hb)
  replace HR_p := Lib.hid (RdN.mv HR_p.out hb)
  replace HR_q := Lib.hid (RdN.mv HR_q.out hb)
  replace HR_r := Lib.hid (RdN.mv HR_r.out hb)
  replace HR_s := Lib.hid (RdN.mv HR_s.out hb)
  replace HB := Lib.hid (below_mv HB.out hb)
  clear hb
  go_wp2_with fail
  refine (refIdsC A_l n_l c_l l w_11 HN_l.out (by have := HQ_l.out; omega) HR_l.out).mono ?_
  rintro e w_12 ⟨A_v, n_v, c_v, rfl, hn1, hc1, hr1, hb⟩
  have HN_v := Lib.hid hn1; have HR_v := Lib.hid hr1
  clear hn1 hc1 hr1
  replace HR_l := Lib.hid (RdN.mv HR_l.out hb)
  replace HR_ids := Lib.hid (RdI.mv HR_ids.out hb)
  replace HR_a := Lib.hid (RdN.mv HR_a.out hb)
  replace HR_b := Lib.hid (RdN.mv HR_b.out hb)
  replace HR_c := Lib.hid (RdN.mv HR_c.out hb)
  replace HR_d := Lib.hid (RdN.mv HR_d.out hb)
  replace HR_p := Lib.hid (RdN.mv HR_p.out hb)
  replace HR_q := Lib.hid (RdN.mv HR_q.out hb)
  replace HR_r := Lib.hid (RdN.mv HR_r.out hb)
  replace HR_s := Lib.hid (RdN.mv HR_s.out hb)
  replace HR_u := Lib.hid (RdI.mv HR_u.out hb)
  replace HB := Lib.hid (below_mv HB.out hb)
  clear hb
  obtain rfl : n_u = n_v := by rw [← HN_u.out, ← HN_v.out]
  go_wp2_with fail
  refine (refSameI A_u n_u c_u A_v c_v (idsN l) w_12 HN_u.out (by have h1 := HN_u.out; unfold idsN at h1; rw [List.length_map] at h1; have h2 := HN_l.out; have h3 := HQ_l.out; omega) HR_u.out HR_v.out).mono ?_
  rintro e w_13 ⟨rfl, hb⟩
  replace HR_l := Lib.hid (RdN.mv HR_l.out hb)
  replace HR_ids := Lib.hid (RdI.mv HR_ids.out hb)
  replace HR_a := Lib.hid (RdN.mv HR_a.out hb)
  replace HR_b := Lib.hid (RdN.mv HR_b.out hb)
  replace HR_c := Lib.hid (RdN.mv HR_c.out hb)
  replace HR_d := Lib.hid (RdN.mv HR_d.out hb)
  replace HR_p := Lib.hid (RdN.mv HR_p.out hb)
  replace HR_q := Lib.hid (RdN.mv HR_q.out hb)
  replace HR_r := Lib.hid (RdN.mv HR_r.out hb)
  replace HR_s := Lib.hid (RdN.mv HR_s.out hb)
  replace HR_u := Lib.hid (RdI.mv HR_u.out hb)
  replace HR_v := Lib.hid (RdI.mv HR_v.out hb)
  replace HB := Lib.hid (below_mv HB.out hb)
  clear hb
  go_wp2
  go_ret
  exact ⟨rfl, HB.out⟩

end BbL
open BbL
open Tx
open Go.ChangeShapes Go.WideShapes Go.ChangeAt

theorem bubbleTells_own : ownKnob Try.prog.godebug = none := by kernel_rfl
theorem bubbleTells_laidOut : laidOutB Try.prog = true := by kernel_rfl

set_option maxRecDepth 100000 in
theorem bubbleTells_lifted (os : Os) (started : os.Started) (H : Type) (enc : TypeId × Value → H) :
    ReturnsInHanded {} Try.checked os 3 .any (Rows.bubbleTellsSpec.pre6 enc Try.prog Try.f3 Rows.bubbleTellsRow.domain false) (Rows.bubbleTellsSpec.post enc Try.prog Try.f3 false true false false) := by
  refine returnsInHanded_of_change (C := Try.checked) bubbleTells_own started (by kernel_rfl) Try.func3
    (ChangeSpec.witness6 (enc := enc) (C := Try.checked) false ⟨#[], #[.slice none 0 0, .slice none 0 0], []⟩ 8 (by kernel_rfl) (by kernel_rfl) (by kernel_rfl) (by kernel_rfl)) ?_
  intro W base args ds gs before hval0 hW hcnd _
  have hval : ∀ (j : Nat) t v, Try.f3.params[j]? = some t → args[j]? = some v → Value.okWide Try.prog W .any base t v := hval0
  have hW' := hW
  obtain ⟨p, q, hA0, hV, rfl, hfz, hnd⟩ := hW
  have hA : DataW.TrodAll enc Try.prog W 0 (fun _ => true) true Try.f3.params.toList args.toList ds p := hA0
  rw [Try.params3] at hA hval
  obtain ⟨v0, vs0, d0, ds0, p0, q0, hargs, rfl, rfl, h0, r0⟩ := trodAll_cons hA
  obtain ⟨v1, vs1, d1, ds1, p1, q1, rfl, rfl, rfl, h1, r1⟩ := trodAll_cons r0
  obtain ⟨rfl, rfl, rfl⟩ := trodAll_nil r1
  obtain rfl : args = #[v0, v1] := by cases args; simp_all
  obtain ⟨rfl, rfl⟩ := trodVars_none hV
  obtain ⟨a0, n0, c0, rfl⟩ := okWide_slice Try.underlying22 (hval 0 22 v0 rfl rfl)
  have k0 := h0
  have lt0 : ∀ x ∈ p0, x.block < W.heap.size := by obtain ⟨m, hm⟩ := k0; exact DataW.trod_lt m _ _ _ hm
  obtain ⟨l0, s0⟩ : ∃ l, NmsArg W a0 n0 c0 l := by
    obtain ⟨fuel, hf⟩ := h0
    exact nms_in hf (by simp [Value.cells])
  obtain ⟨a1, n1, c1, rfl⟩ := okWide_slice Try.underlying23 (hval 1 23 v1 rfl rfl)
  have k1 := h1
  have lt1 : ∀ x ∈ p1, x.block < W.heap.size := by obtain ⟨m, hm⟩ := k1; exact DataW.trod_lt m _ _ _ hm
  obtain ⟨l1, s1⟩ : ∃ l, IdsArg W a1 n1 c1 l := by
    obtain ⟨fuel, hf⟩ := h1
    exact ids_in hf (by simp [Value.cells])
  clear hA0 hval0
  refine (bubbleTells_walk a0 n0 c0 l0 a1 n1 c1 l1 W s0 s1).mono fun e W' ⟨he, bel⟩ => ?_
  subst he
  exact ⟨_, rfl, _, _, _, [], _, [], hW', trodAll_mk1 (shut_bool Try.underlying4 _), (trodAll_cons_mk (Below.trod bubbleTells_laidOut (by kernel_rfl) (of_decide_eq_true (by kernel_rfl)) k0 bel lt0) (trodAll_cons_mk (Below.trod bubbleTells_laidOut (by kernel_rfl) (of_decide_eq_true (by kernel_rfl)) k1 bel lt1) trodAll_mk0)), rfl, bel.frame _, fun h => by cases h⟩

/-- The statement. -/
theorem bubbleTells_proved : Rows.BubbleTellsSaid :=
  OpenClaim.holds_of_wide 3 Try.f3 rfl rfl rfl rfl rfl rfl rfl ⟨rfl, rfl, rfl, rfl, rfl⟩ rfl rfl rfl rfl rfl (by kernel_rfl) Try.func3 (by kernel_rfl)
    (of_decide_eq_true (by kernel_rfl)) (by unfold Func.isWrapper; first | (rw [if_pos (by decide +kernel)]; kernel_rfl) | (rw [if_neg (by decide +kernel)]; exact ⟨rfl, rfl⟩))
    (fun os started H enc _ => bubbleTells_lifted os started H enc)

#print axioms bubbleTells_proved
end Go.Proofs.Ytdnkinajbebkoaa
