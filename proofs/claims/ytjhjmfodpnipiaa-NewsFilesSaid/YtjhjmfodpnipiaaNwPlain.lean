/-
  Plain functions for layer 13 (what changes one tree into another one), and their laws. No program is walked.
-/
import Derived.Test.YtjhjmfodpnipiaaGF
set_option maxRecDepth 100000
namespace Go.Proofs.Ytjhjmfodpnipiaa
namespace Nw
open Tx Df Sq Hk Tr Pr Fl
set_option linter.unusedVariables false

def patchP (nm : List UInt8) (h : HU) : Ch := ⟨3, nm, [], h⟩
def addP (nm : List UInt8) : Ch := ⟨0, nm, [], noneH⟩
def rmP (nm : List UInt8) : Ch := ⟨1, nm, [], noneH⟩
/-- What hunk's Of tells. -/
def hunks (a b : List (List UInt8)) : List HU := hks a 0 (edits a b)
/-- What comes of one name, of what either tree has by it. -/
def oneN (nm : List UInt8) (x y : Option (List (List UInt8))) : List Ch :=
  (if x.isSome then [] else [addP nm]) ++ ((hunks (x.getD []) (y.getD [])).map (patchP nm) ++ (if y.isSome then [] else [rmP nm]))
def namesN (a b : TR) : List (List UInt8) := names lt (a.map (·.1) ++ b.map (·.1))
def newsL (a b : TR) : List Ch := (namesN a b).flatMap fun n => oneN n (get a n) (get b n)
def newsP (a b : TR) : Int × List Ch := if mayT a && mayT b then (0, newsL a b) else (1, [])

theorem doF_app : ∀ {a b : List Ch} {t u : TR}, doF t a = (0, u) → doF t (a ++ b) = doF u b
  | [], b, t, u, h => by injection h with _ h; rw [h]; rfl
  | p :: a, b, t, u, h => by
    by_cases h0 : (doP t p).1 = 0
    · have e : doP t p = (0, (doP t p).2) := Prod.ext h0 rfl
      rw [doF_cons_ok e] at h
      rw [List.cons_append, doF_cons_ok e]
      exact doF_app h
    · rw [doF_cons_no h0] at h
      injection h with h _
      exact absurd h h0
theorem put_same {t : TR} {n : List UInt8} {l : List (List UInt8)} (hu : Up lt t) (hg : get t n = some l) : put lt t n l = t :=
  up_ext lin (up_put lin hu n l) hu fun o => by
    rw [get_put]
    by_cases h : n = o
    · subst h; rw [if_pos rfl, hg]
    · rw [if_neg h]
theorem put_twice {t : TR} {n : List UInt8} (hu : Up lt t) (l m : List (List UInt8)) : put lt (put lt t n l) n m = put lt t n m :=
  up_ext lin (up_put lin (up_put lin hu n l) n m) (up_put lin hu n m) fun o => by
    rw [get_put, get_put, get_put]
    by_cases h : n = o
    · rw [if_pos h, if_pos h]
    · rw [if_neg h, if_neg h, if_neg h]
theorem patch_may {nm : List UInt8} {h : HU} (hn : name nm = true) (hm : mayH h = true) : mayP (patchP nm h) = true :=
  mayP_cases.2 ⟨hn, .inr (.inr (.inl ⟨rfl, rfl, hm⟩))⟩
/-- Hunks that change one list into another one, as changes of a file. -/
theorem patches_do {nm : List UInt8} (hn : name nm = true) : ∀ {hs : List HU} {l r : List (List UInt8)} {t : TR}, Up lt t → get t nm = some l → run l hs = some r → (∀ h ∈ hs, mayH h = true) → doF t (hs.map (patchP nm)) = (0, put lt t nm r)
  | [], l, r, t, hu, hg, hr, _ => by
    rw [run] at hr
    injection hr with hr
    subst hr
    show (0, t) = _
    rw [put_same hu hg]
  | h :: hs, l, r, t, hu, hg, hr, hm => by
    rw [run, Option.bind_eq_some_iff] at hr
    obtain ⟨m, h1, h2⟩ := hr
    obtain ⟨e1, e2⟩ := done_apply (hm h (.head _)) h1
    have hd : doP t (patchP nm h) = (0, put lt t nm m) := by
      rw [doP_h (patch_may hn (hm h (.head _))) (.inl rfl) hg (by unfold lineE; exact e1)]
      show (0, put lt t nm (lineL l (patchP nm h))) = _
      rw [show lineL l (patchP nm h) = m from e2]
    rw [List.map_cons, doF_cons_ok hd, patches_do hn (up_put lin hu nm m) (by rw [get_put, if_pos rfl]) h2 (fun g hg => hm g (.tail _ hg)), put_twice hu]
theorem hunks_may {a b : List (List UInt8)} (ha : allMay a = true) (hb : allMay b = true) (hl : a.length + b.length ≤ 200) : ∀ h ∈ hunks a b, mayH h = true := by
  obtain ⟨L, k1, k2, k3, k4⟩ := trace_edits a b
  intro h hh
  obtain ⟨i, hi⟩ := List.mem_iff_getElem?.1 hh
  have hlt : i < (hks a 0 (edits a b)).length := (List.getElem?_eq_some_iff.1 hi).1
  obtain ⟨m1, m2⟩ := edits_mem a b h hh
  exact (may_hunk ha hb (k4 i h hi) (by have := k3 i (by omega); omega) (by have := k3 (i + 1) (by omega); omega) m1 m2).1
theorem hunks_run (a b : List (List UInt8)) : run a (hunks a b) = some b := run_edits a b
/-- What is allowed of what a tree has by a name. -/
structure Fit (x : Option (List (List UInt8))) : Prop where
  m : allMay (x.getD []) = true
  l : (x.getD []).length ≤ 100
theorem fit_none : Fit none := ⟨rfl, Nat.zero_le _⟩
/-- The changes of one name do what they are told for. -/
theorem oneN_do {t : TR} {nm : List UInt8} {y : Option (List (List UInt8))} (hu : Up lt t) (hn : name nm = true) (hx : Fit (get t nm)) (hy : Fit y) :
    ∃ u, doF t (oneN nm (get t nm) y) = (0, u) ∧ Up lt u ∧ ∀ o, get u o = if nm = o then y else get t o := by
  have hm := hunks_may hx.m hy.m (by have := hx.l; have := hy.l; omega)
  have hr := hunks_run ((get t nm).getD []) (y.getD [])
  have ha : mayP (addP nm) = true := mayP_cases.2 ⟨hn, .inl ⟨.inl rfl, rfl, rfl⟩⟩
  have hb : mayP (rmP nm) = true := mayP_cases.2 ⟨hn, .inl ⟨.inr rfl, rfl, rfl⟩⟩
  -- ahead of the hunks
  obtain ⟨t1, d1, u1, g1, o1⟩ : ∃ t1, doF t (if (get t nm).isSome then [] else [addP nm]) = (0, t1) ∧ Up lt t1 ∧ get t1 nm = some ((get t nm).getD []) ∧ ∀ o, nm ≠ o → get t1 o = get t o := by
    cases hg : get t nm with
    | none =>
      refine ⟨put lt t nm [], ?_, up_put lin hu nm [], by rw [get_put, if_pos rfl]; rfl, fun o ho => by rw [get_put, if_neg ho]⟩
      show doF t [addP nm] = _
      rw [doF_cons_ok (doP_0 ha rfl hg)]
      rfl
    | some l => exact ⟨t, rfl, hu, by rw [hg]; rfl, fun o _ => rfl⟩
  have d2 := patches_do hn u1 g1 hr hm
  have u2 := up_put lin u1 nm (y.getD [])
  cases y with
  | some l =>
    refine ⟨put lt t1 nm l, ?_, u2, fun o => ?_⟩
    · unfold oneN
      rw [doF_app d1, doF_app d2]
      rfl
    · rw [get_put]
      by_cases h : nm = o
      · rw [if_pos h, if_pos h]
      · rw [if_neg h, if_neg h, o1 o h]
  | none =>
    replace u2 : Up lt (put lt t1 nm []) := u2
    have hg2 : get (put lt t1 nm []) nm = some [] := by rw [get_put, if_pos rfl]
    refine ⟨del (put lt t1 nm []) nm, ?_, up_del u2 nm, fun o => ?_⟩
    · unfold oneN
      rw [doF_app d1, doF_app d2]
      show doF (put lt t1 nm []) [rmP nm] = _
      rw [doF_cons_ok (doP_1 hb rfl hg2)]
      rfl
    · rw [get_del (lt := lt) lin u2]
      by_cases h : nm = o
      · rw [if_pos h, if_pos h]
      · rw [if_neg h, if_neg h, get_put, if_neg h, o1 o h]
/-- Name by name. -/
theorem newsNs_do (b : TR) (hb : ∀ n, Fit (get b n)) (a : TR) (ha : ∀ n, Fit (get a n)) : ∀ {ns : List (List UInt8)} {t : TR}, ns.Nodup → (∀ n ∈ ns, name n = true ∧ get t n = get a n) → Up lt t →
    ∃ u, doF t (ns.flatMap fun n => oneN n (get a n) (get b n)) = (0, u) ∧ Up lt u ∧ ∀ o, get u o = if o ∈ ns then get b o else get t o
  | [], t, _, _, hu => ⟨t, rfl, hu, fun o => by rw [if_neg (by simp)]⟩
  | n :: ns, t, hd, hn, hu => by
    obtain ⟨n1, n2⟩ := hn n (.head _)
    rw [List.nodup_cons] at hd
    obtain ⟨u, d1, u1, g1⟩ := oneN_do (y := get b n) hu n1 (by rw [n2]; exact ha n) (hb n)
    obtain ⟨v, d2, u2, g2⟩ := newsNs_do b hb a ha (ns := ns) (t := u) hd.2 (fun m hm => ⟨(hn m (.tail _ hm)).1, by rw [g1, if_neg (fun e => hd.1 (by rw [e]; exact hm))]; exact (hn m (.tail _ hm)).2⟩) u1
    refine ⟨v, ?_, u2, fun o => ?_⟩
    · rw [List.flatMap_cons, ← n2, doF_app d1]
      exact d2
    · rw [g2, g1]
      by_cases h1 : o ∈ ns
      · rw [if_pos h1, if_pos (List.mem_cons_of_mem _ h1)]
      · rw [if_neg h1]
        by_cases h2 : n = o
        · rw [if_pos h2, if_pos (by rw [h2]; exact .head _), h2]
        · rw [if_neg h2, if_neg (fun e => by rcases List.mem_cons.1 e with e | e; exact h2 e.symm; exact h1 e)]
/-- Files of at most 100 lines. -/
def Few60 (t : TR) : Prop := ∀ f ∈ t, f.2.length ≤ 100
theorem fit_get {t : TR} (h : mayT t = true) (hs : Few60 t) (n : List UInt8) : Fit (get t n) := by
  cases hg : get t n with
  | none => exact fit_none
  | some l =>
    have hm := get_mem hg
    exact ⟨((mayT_iff.1 h).2.1 _ hm).2, hs _ hm⟩
theorem namesN_name {a b : TR} (ha : mayT a = true) (hb : mayT b = true) : ∀ n ∈ namesN a b, name n = true := fun n hn => by
  unfold namesN at hn
  rw [names_mem, List.mem_append] at hn
  rcases hn with hn | hn
  · obtain ⟨f, hf, rfl⟩ := List.mem_map.1 hn; exact ((mayT_iff.1 ha).2.1 f hf).1
  · obtain ⟨f, hf, rfl⟩ := List.mem_map.1 hn; exact ((mayT_iff.1 hb).2.1 f hf).1
theorem namesN_nodup (a b : TR) : (namesN a b).Nodup := (names_rise lin _).imp fun h => lin.ne h
theorem get_out {a : TR} {n : List UInt8} (h : n ∉ a.map (·.1)) : get a n = none := get_none.2 fun f hf e => h (by rw [← e]; exact List.mem_map.2 ⟨f, hf, rfl⟩)
/-- They change the first tree into the second one. -/
theorem news_gives {a b : TR} (ha : mayT a = true) (hb : mayT b = true) (sa : Few60 a) (sb : Few60 b) : doF a (newsL a b) = (0, b) := by
  obtain ⟨u, d, hu, hg⟩ := newsNs_do b (fit_get hb sb) a (fit_get ha sa) (namesN_nodup a b) (fun n hn => ⟨namesN_name ha hb n hn, rfl⟩) (mayT_up ha)
  have e : u = b := up_ext lin hu (mayT_up hb) fun o => by
    rw [hg]
    by_cases h : o ∈ namesN a b
    · rw [if_pos h]
    · rw [if_neg h]
      unfold namesN at h
      rw [names_mem, List.mem_append, not_or] at h
      rw [get_out h.1, get_out h.2]
  rw [e] at d
  exact d
/-- There are none just if both are the same. -/
theorem hunks_self (a : List (List UInt8)) : hunks a a = [] := by
  have h := (edits_none a a).2 rfl
  exact List.eq_nil_of_length_eq_zero (by unfold hunks; rw [hks_len]; exact h)
theorem news_none {a b : TR} (ha : mayT a = true) (hb : mayT b = true) (sa : Few60 a) (sb : Few60 b) : newsL a b = [] ↔ a = b := by
  constructor
  · intro h
    have := news_gives ha hb sa sb
    rw [h] at this
    injection this with _ this
  · rintro rfl
    unfold newsL
    rw [List.flatMap_eq_nil_iff]
    intro n hn
    unfold namesN at hn
    rw [names_mem, List.mem_append] at hn
    have hm : n ∈ a.map (·.1) := hn.elim id id
    cases hg : get a n with
    | none =>
      obtain ⟨f, hf, rfl⟩ := List.mem_map.1 hm
      rw [get_of_mem lin (mayT_up ha) hf] at hg
      cases hg
    | some l =>
      unfold oneN
      simp [hunks_self]
theorem news_may {a b : TR} (ha : mayT a = true) (hb : mayT b = true) (sa : Few60 a) (sb : Few60 b) : (newsL a b).all mayP = true := by
  rw [List.all_eq_true]
  intro p hp
  unfold newsL at hp
  obtain ⟨n, hn, hp⟩ := List.mem_flatMap.1 hp
  have nm := namesN_name ha hb n hn
  have fa := fit_get ha sa n
  have fb := fit_get hb sb n
  unfold oneN at hp
  rcases List.mem_append.1 hp with hp | hp
  · split at hp
    · cases hp
    · rw [List.mem_singleton.1 hp]; exact mayP_cases.2 ⟨nm, .inl ⟨.inl rfl, rfl, rfl⟩⟩
  rcases List.mem_append.1 hp with hp | hp
  · obtain ⟨h, hh, rfl⟩ := List.mem_map.1 hp
    exact patch_may nm (hunks_may fa.m fb.m (by have := fa.l; have := fb.l; omega) h hh)
  · split at hp
    · cases hp
    · rw [List.mem_singleton.1 hp]; exact mayP_cases.2 ⟨nm, .inl ⟨.inr rfl, rfl, rfl⟩⟩
theorem news_back {a b : TR} (ha : mayT a = true) (hb : mayT b = true) (sa : Few60 a) (sb : Few60 b) : doF b (turnF (newsL a b)) = (0, a) := doF_turn (mayT_up ha) (news_gives ha hb sa sb)
theorem news_two {a b c : TR} (ha : mayT a = true) (hb : mayT b = true) (hc : mayT c = true) (sa : Few60 a) (sb : Few60 b) (sc : Few60 c) : doF a (newsL a b ++ newsL b c) = (0, c) := by
  rw [doF_app (news_gives ha hb sa sb)]
  exact news_gives hb hc sb sc

end Nw
end Go.Proofs.Ytjhjmfodpnipiaa
