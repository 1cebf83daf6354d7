/-
  An append onto a value that may be appended to: what it leaves as it was. No function of the program is walked here.
-/
import Derived.Test.YtcmpbglbmikkoaaQMem
namespace Go.Proofs.Ytcmpbglbmikkoaa
open Go.RowKit
set_option linter.unusedVariables false
namespace Tx

/-- All blocks of another type than e are as they were. -/
def Typ (e : TypeId) (w w' : World) : Prop := ∀ (k : Nat) c t f, w.heap[k]? = some (.cells c t f) → t ≠ e → w'.heap[k]? = some (.cells c t f)
theorem Typ.refl (e : TypeId) (w : World) : Typ e w w := fun _ _ _ _ h _ => h
theorem Typ.trans {e : TypeId} {w w1 w2 : World} (h : Typ e w w1) (h' : Typ e w1 w2) : Typ e w w2 := fun k c t f hk ht => h' k c t f (h k c t f hk ht) ht
theorem typ_grown {e : TypeId} {base size n : Nat} {v : Value} {xs : List Value} {w w' : World} (h : w.ownsRow base e size v n xs) (hg : w.grownBy w' v.ownBlock) : Typ e w w' := by
  intro k c t f hk ht
  refine (hg.block k (Array.getElem?_eq_some_iff.1 hk).1 (fun eq => ?_)).trans hk
  rcases h.2 with ⟨rfl, _⟩ | ⟨g, cap, cur, rfl, _, hg', _⟩
  · simp [Value.ownBlock] at eq
  · obtain rfl : k = g := by simpa [Value.ownBlock] using eq
    rw [hk] at hg'; cases hg'; exact ht rfl
theorem typ_none {e : TypeId} {w w' : World} (hg : w.grownBy w' none) : Typ e w w' := fun k c t f hk ht => (hg.block k (Array.getElem?_eq_some_iff.1 hk).1 (fun eq => by cases eq)).trans hk
theorem typ_alloc (e : TypeId) (w : World) (o : Obj) : Typ e w (w.alloc o) := fun k c t f hk ht => (Below.heap_alloc w o k (Array.getElem?_eq_some_iff.1 hk).1).trans hk

section
variable {P : Program} {w : World}

theorem run_appT {base B n m c bytes : Nat} {t ty e : TypeId} {i : TypeInfo} {z v : Value} {xs news : List Value} {A : Option Addr} (ht : P.underlying t = some (.slice e)) (hi : P.info? e = some i) (hz : i.zero = some z)
    (hsize : i.size = 1) (hby : i.bytes = bytes) (hzs : z.cells.size = 1) (hown : App w base e v n xs) (hl : news.length = m) (hr : Rd w B A news) (h1 : ∀ u ∈ news, u.oneCell' = true)
    (h63 : n + m ≤ maxLen) (hbytes : (n + m) * bytes ≤ 140737488355328) (hbase : base ≤ w.heap.size) :
    ∃ v' w', (Builtin.append_ #[t, t] ty #[v, .slice A m c]).run P w = .ok v' w' ∧ App w' base e v' (n + m) (xs ++ news) ∧ Below base w w' ∧ Typ e w w' := by
  by_cases hm : m = 0
  · obtain ⟨A0, c0, rfl, hc0, hx0, hr0, hor⟩ := hown
    have hnil : news = [] := List.eq_nil_of_length_eq_zero (by omega)
    subst hnil
    refine ⟨_, w, run_app_empty ht hi hsize hc0 hm, ?_, Below.refl _ _, Typ.refl _ _⟩
    subst hm
    rw [List.append_nil, Nat.add_zero]
    exact ⟨A0, c0, rfl, hc0, hx0, hr0, hor⟩
  · obtain ⟨a, rfl, hcells⟩ : ∃ a, A = some a ∧ ∀ j u, news[j]? = some u → w.cell? (a.add j) = some u := by
      rcases hr with h | ⟨a, h, _, hc⟩
      · subst h; simp at hl; omega
      · exact ⟨a, h, hc⟩
    obtain ⟨A0, c0, rfl, hc0, hx0, hr0, hor⟩ := hown
    rcases hor with hcn | hown
    · cases A0 with
      | none =>
        have hx : xs = [] := hr0.none_nil
        subst hx
        simp at hx0
        subst hx0
        subst hcn
        obtain ⟨v', w', h2, h3, h4, _⟩ := run_append_own (P := P) w w.heap.size t ty e i z 1 bytes ht hi hz hsize hby hzs (by decide) (.slice none 0 0) 0 [] (World.ownsRow_nil w _ e 1) a m c news (by omega) hcells h1 h63 hbytes (Nat.le_refl _)
        exact ⟨v', w', h2, app_own (own_mono h3 hbase), (Below.refl base w).grown h4 hbase (fun k hk => by cases hk), typ_grown (World.ownsRow_nil w 0 e 1) h4⟩
      | some b =>
        have hold : ∀ j u, xs[j]? = some u → w.cell? (b.add j) = some u := by
          rcases hr0 with h | ⟨a', h, _, hc⟩
          · subst h; intro j u hu; simp at hu
          · injection h with h; subst h; exact hc
        obtain ⟨v', w', h2, h3, h4⟩ := run_append_arg_grows (P := P) w t ty e i z 1 bytes ht hi hz hsize hby hzs (by decide) b n c0 xs (by omega) hold a m c news (by omega) hcells (by omega) h63 hbytes
        exact ⟨v', w', h2, app_own (own_mono h3 hbase), (Below.refl base w).grown h4 hbase (fun k hk => by cases hk), typ_none h4⟩
    · obtain ⟨v', w', h2, h3, h4, _⟩ := run_append_own (P := P) w base t ty e i z 1 bytes ht hi hz hsize hby hzs (by decide) _ n xs hown a m c news (by omega) hcells h1 h63 hbytes hbase
      exact ⟨v', w', h2, app_own h3, (Below.refl base w).grown h4 hbase (own_ge hown), typ_grown hown h4⟩

theorem wpList_appT {ops : Array Oper} {rest : List Oper} {o : Oper} {a : Act} {Q : Exit → Act → World → Prop} (hgd : o.guard = none) (s x : Operand) (t : TypeId)
    (ho : o.op = .call { callee := .builtin .append, args := #[s, x], argTypes := #[t, t] })
    (base : Nat) (e : TypeId) (i : TypeInfo) (z : Value) (bytes : Nat) (ht : P.underlying t = some (.slice e)) (hi : P.info? e = some i) (hz : i.zero = some z)
    (hsize : i.size = 1) (hby : i.bytes = bytes) (hzs : z.cells.size = 1)
    (v : Value) (n : Nat) (xs : List Value) (hs : a.eval s = v) (hown : App w base e v n xs)
    (B : Nat) (A : Option Addr) (m c : Nat) (news : List Value) (hx : a.eval x = .slice A m c) (hl : news.length = m) (hr : Rd w B A news) (h1 : ∀ u ∈ news, u.oneCell' = true)
    (h63 : n + m ≤ maxLen) (hbytes : (n + m) * bytes ≤ 140737488355328) (hbase : base ≤ w.heap.size)
    (h : ∀ v' w', App w' base e v' (n + m) (xs ++ news) → Below base w w' → Typ e w w' → wpList P ops Q rest (a.put o.dst v') w') : wpList P ops Q (o :: rest) a w := by
  refine wpList_plain hgd fun K hK => ?_
  obtain ⟨v', w', hr, h2, h3, h4⟩ := run_appT (P := P) (c := c) (ty := o.type) ht hi hz hsize hby hzs hown hl hr h1 h63 hbytes hbase
  unfold Oper.wp execOp
  simp only [ho, resolve, invoke, builtin, Sem.run_bind, Sem.run_pure, Result.andThen_ok, List.map_toArray, List.map_cons, List.map_nil, hs, hx, hr]
  exact hK _ _ (h v' w' h2 h3 h4)
end

section
variable {P : Program} {w : World}
/-- An append of cells that are read, nil let in, onto nothing: a row of one's own. -/
theorem run_nil {B m c bytes : Nat} {t ty e : TypeId} {i : TypeInfo} {z : Value} {news : List Value} {A : Option Addr} (ht : P.underlying t = some (.slice e)) (hi : P.info? e = some i) (hz : i.zero = some z)
    (hsize : i.size = 1) (hby : i.bytes = bytes) (hzs : z.cells.size = 1) (hl : news.length = m) (hr : Rd w B A news) (h1 : ∀ u ∈ news, u.oneCell' = true) (h63 : m ≤ maxLen) (hbytes : m * bytes ≤ 140737488355328) :
    ∃ A' c' w', (Builtin.append_ #[t, t] ty #[.slice none 0 0, .slice A m c]).run P w = .ok (.slice A' m c') w' ∧ w'.ownsRow w.heap.size e 1 (.slice A' m c') m news ∧ w.grownBy w' none := by
  by_cases hm : m = 0
  · have hnil : news = [] := List.eq_nil_of_length_eq_zero (by omega)
    subst hnil; subst hm
    exact ⟨none, 0, w, run_app_empty ht hi hsize (Nat.le_refl _) rfl, World.ownsRow_nil w _ e 1, World.grownBy.refl w none⟩
  · obtain ⟨a, rfl, hcells⟩ : ∃ a, A = some a ∧ ∀ j u, news[j]? = some u → w.cell? (a.add j) = some u := by
      rcases hr with h | ⟨a, h, _, hc⟩
      · subst h; simp at hl; omega
      · exact ⟨a, h, hc⟩
    obtain ⟨v', w', h2, h3, h4, _⟩ := run_append_own (P := P) w w.heap.size t ty e i z 1 bytes ht hi hz hsize hby hzs (by decide) (.slice none 0 0) 0 [] (World.ownsRow_nil w _ e 1) a m c news (by omega) hcells h1 (by omega) (by rw [Nat.zero_add]; exact hbytes) (Nat.le_refl _)
    rw [Nat.zero_add, List.nil_append] at h3
    obtain ⟨A', c', rfl, _⟩ := rd_of_own h3
    exact ⟨A', c', w', h2, h3, h4⟩

theorem wpList_nil' {ops : Array Oper} {rest : List Oper} {o : Oper} {a : Act} {Q : Exit → Act → World → Prop} (hgd : o.guard = none) (s x : Operand) (t : TypeId)
    (ho : o.op = .call { callee := .builtin .append, args := #[s, x], argTypes := #[t, t] })
    (e : TypeId) (i : TypeInfo) (z : Value) (bytes : Nat) (ht : P.underlying t = some (.slice e)) (hi : P.info? e = some i) (hz : i.zero = some z)
    (hsize : i.size = 1) (hby : i.bytes = bytes) (hzs : z.cells.size = 1) (hs : a.eval s = .slice none 0 0)
    (B : Nat) (A : Option Addr) (m c : Nat) (news : List Value) (hx : a.eval x = .slice A m c) (hl : news.length = m) (hr : Rd w B A news) (h1 : ∀ u ∈ news, u.oneCell' = true)
    (h63 : m ≤ maxLen) (hbytes : m * bytes ≤ 140737488355328)
    (h : ∀ A' c' w', w'.ownsRow w.heap.size e 1 (.slice A' m c') m news → w.grownBy w' none → wpList P ops Q rest (a.put o.dst (.slice A' m c')) w') : wpList P ops Q (o :: rest) a w := by
  refine wpList_plain hgd fun K hK => ?_
  obtain ⟨A', c', w', hr, h2, h3⟩ := run_nil (P := P) (c := c) (ty := o.type) ht hi hz hsize hby hzs hl hr h1 h63 hbytes
  unfold Oper.wp execOp
  simp only [ho, resolve, invoke, builtin, Sem.run_bind, Sem.run_pure, Result.andThen_ok, List.map_toArray, List.map_cons, List.map_nil, hs, hx, hr]
  exact hK _ _ (h A' c' w' h2 h3)

theorem step_nil {ops : Array Oper} {o : Oper} {a : Act} {K : Act → World → Prop} {Q : Exit → Act → World → Prop} {E : Prop} (hgd : o.guard = none) (s x : Operand) (t : TypeId)
    (ho : o.op = .call { callee := .builtin .append, args := #[s, x], argTypes := #[t, t] })
    (e : TypeId) (i : TypeInfo) (z : Value) (bytes : Nat) (ht : P.underlying t = some (.slice e)) (hi : P.info? e = some i) (hz : i.zero = some z)
    (hsize : i.size = 1) (hby : i.bytes = bytes) (hzs : z.cells.size = 1) (hs : a.eval s = .slice none 0 0)
    (B : Nat) (A : Option Addr) (m c : Nat) (news : List Value) (hx : a.eval x = .slice A m c) (hl : news.length = m) (hr : Rd w B A news) (h1 : ∀ u ∈ news, u.oneCell' = true)
    (h63 : m ≤ maxLen) (hbytes : m * bytes ≤ 140737488355328)
    (h : ∀ A' c' w', w'.ownsRow w.heap.size e 1 (.slice A' m c') m news → w.grownBy w' none → K (a.put o.dst (.slice A' m c')) w') :
    if Region.wanted o (yielded ops a.tmps) = true then Oper.wp P o a w K Q else E := by
  have hw : Region.wanted o (yielded ops a.tmps) = true := by simp [Region.wanted, hgd]
  rw [if_pos hw]
  obtain ⟨A', c', w', hr, h2, h3⟩ := run_nil (P := P) (c := c) (ty := o.type) ht hi hz hsize hby hzs hl hr h1 h63 hbytes
  unfold Oper.wp execOp
  simp only [ho, resolve, invoke, builtin, Sem.run_bind, Sem.run_pure, Result.andThen_ok, List.map_toArray, List.map_cons, List.map_nil, hs, hx, hr]
  exact h A' c' w' h2 h3
end

def OwnEnd (w : World) (n : Nat) (xs : List Value) (e : Ending) (w' : World) : Prop :=
  ∃ A' c', e = .returned (.slice A' n c') ∧ w'.ownsRow w.heap.size 9 1 (.slice A' n c') n xs ∧ w.grownBy w' none

end Tx
end Go.Proofs.Ytcmpbglbmikkoaa
