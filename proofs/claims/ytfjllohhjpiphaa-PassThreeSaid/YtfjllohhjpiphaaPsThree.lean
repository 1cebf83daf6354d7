/-
  Three changes of which each two pass one another come to the same in the turned order, by either way. No program is walked.
-/
import Derived.Test.YtfjllohhjpiphaaPsPlain
set_option maxRecDepth 100000
namespace Go.Proofs.Ytfjllohhjpiphaa
namespace Pr
open Tx Sq Hk Tr
set_option linter.unusedVariables false

theorem way_fun {p q x y x' y' : Ch} (h' : Way p q x' y') (h : Way p q x y) : x = x' ∧ y = y' := by
  cases h with
  | apart a =>
    cases h' with
    | apart _ => exact ⟨rfl, rfl⟩
    | both _ _ hn => exact absurd hn a.nn
    | out hp _ hn => exact absurd hn.symm (a.tn hp)
    | into _ _ hn => exact absurd hn a.nn
  | both kp kq hn u v h =>
    cases h' with
    | apart a => exact absurd hn a.nn
    | both _ _ _ u' v' h' => rw [h] at h'; injection h' with h'; injection h' with h1 h2; subst h1 h2; exact ⟨rfl, rfl⟩
    | out hp => omega
    | into hq => omega
  | out kp kq hn =>
    cases h' with
    | apart a => exact absurd hn.symm (a.tn kp)
    | both hp => omega
    | out => exact ⟨rfl, rfl⟩
    | into hq => omega
  | into kq kp hn =>
    cases h' with
    | apart a => exact absurd hn a.nn
    | both hp hq => omega
    | out hp => omega
    | into => exact ⟨rfl, rfl⟩

theorem way_three {p q r q1 p1 r1 p2 r2 q2 r3 q3 r4 p3 q4 p4 : Ch} (i : Way p q q1 p1) (j : Way p1 r r1 p2) (k : Way q1 r1 r2 q2)
    (l : Way q r r3 q3) (m : Way p r3 r4 p3) (n : Way p3 q3 q4 p4) : r2 = r4 ∧ q2 = q4 ∧ p2 = p4 := by
  cases i with
  | apart a =>
    cases j with
    | apart b =>
      cases l with
      | apart c =>
        obtain ⟨rfl, rfl⟩ := way_fun k (.apart c)
        obtain ⟨rfl, rfl⟩ := way_fun m (.apart b)
        obtain ⟨rfl, rfl⟩ := way_fun n (.apart a)
        exact ⟨rfl, rfl, rfl⟩
      | both kq kr hn u v h =>
        obtain ⟨rfl, rfl⟩ := way_fun k (.both kq kr hn u v h)
        obtain ⟨rfl, rfl⟩ := way_fun m (Way.apart (q := ⟨r.k, r.nm, r.to, u⟩) ⟨b.nn, b.tn, b.nt, b.tt⟩)
        obtain ⟨rfl, rfl⟩ := way_fun n (Way.apart (q := ⟨q.k, q.nm, q.to, v⟩) ⟨a.nn, a.tn, a.nt, a.tt⟩)
        exact ⟨rfl, rfl, rfl⟩
      | out kq kr hn =>
        obtain ⟨rfl, rfl⟩ := way_fun k (.out kq kr hn)
        obtain ⟨rfl, rfl⟩ := way_fun m (Way.apart (q := ⟨r.k, q.nm, r.to, r.h⟩) ⟨a.nn, a.tn, fun h => by simp only at h; omega, fun _ h => by simp only at h; omega⟩)
        obtain ⟨rfl, rfl⟩ := way_fun n (.apart a)
        exact ⟨rfl, rfl, rfl⟩
      | into kr kq hn =>
        obtain ⟨rfl, rfl⟩ := way_fun k (.into kr kq hn)
        obtain ⟨rfl, rfl⟩ := way_fun m (.apart b)
        obtain ⟨rfl, rfl⟩ := way_fun n (Way.apart (q := ⟨q.k, r.to, q.to, q.h⟩) ⟨b.nt kr, fun hp => b.tt hp kr, fun h => by simp only at h; omega, fun _ h => by simp only at h; omega⟩)
        exact ⟨rfl, rfl, rfl⟩
    | both kp kr hn u v h =>
      -- q apart from p; r of p's file
      have c : Apart q r := ⟨by rw [← hn]; exact a.nn.symm, fun hq => by rw [← hn]; exact (a.nt hq).symm, fun hr => by omega, fun _ hr => by omega⟩
      obtain ⟨rfl, rfl⟩ := way_fun l (.apart c)
      obtain ⟨rfl, rfl⟩ := way_fun k (Way.apart (q := ⟨r.k, r.nm, r.to, u⟩) ⟨c.nn, c.tn, c.nt, c.tt⟩)
      obtain ⟨rfl, rfl⟩ := way_fun m (.both kp kr hn u v h)
      obtain ⟨rfl, rfl⟩ := way_fun n (Way.apart (p := ⟨p.k, p.nm, p.to, v⟩) ⟨a.nn, a.tn, a.nt, a.tt⟩)
      exact ⟨rfl, rfl, rfl⟩
    | out kp kr hn =>
      have c : Apart q r := ⟨by rw [hn]; exact (a.tn kp).symm, fun hq => by rw [hn]; exact (a.tt kp hq).symm, fun hr => by omega, fun _ hr => by omega⟩
      obtain ⟨rfl, rfl⟩ := way_fun l (.apart c)
      obtain ⟨rfl, rfl⟩ := way_fun k (Way.apart (q := ⟨r.k, p.nm, r.to, r.h⟩) ⟨a.nn.symm, fun hq => (a.nt hq).symm, fun h => by simp only at h; omega, fun _ h => by simp only at h; omega⟩)
      obtain ⟨rfl, rfl⟩ := way_fun m (.out kp kr hn)
      obtain ⟨rfl, rfl⟩ := way_fun n (.apart a)
      exact ⟨rfl, rfl, rfl⟩
    | into kr kp hn =>
      -- r moves p's file
      cases l with
      | apart c =>
        obtain ⟨rfl, rfl⟩ := way_fun k (.apart c)
        obtain ⟨rfl, rfl⟩ := way_fun m (.into kr kp hn)
        obtain ⟨rfl, rfl⟩ := way_fun n (Way.apart (p := ⟨p.k, r.to, p.to, p.h⟩) ⟨(c.nt kr).symm, fun h => by simp only at h; omega, fun hq => (c.tt hq kr).symm, fun h => by simp only at h; omega⟩)
        exact ⟨rfl, rfl, rfl⟩
      | both kq kr' hn' u v h => omega
      | out kq kr' hn' => omega
      | into kr' kq hn' => exact absurd (hn.trans hn'.symm) a.nn
  | both kp kq hn u v h =>
    -- p and q of one file
    cases j with
    | apart b =>
      have b' : Apart p r := ⟨b.nn, b.tn, b.nt, b.tt⟩
      have c : Apart q r := ⟨by rw [← hn]; exact b.nn, fun hq => by omega, fun hr => by rw [← hn]; exact b.nt hr, fun hq => by omega⟩
      obtain ⟨rfl, rfl⟩ := way_fun l (.apart c)
      obtain ⟨rfl, rfl⟩ := way_fun k (Way.apart (p := ⟨q.k, q.nm, q.to, u⟩) ⟨c.nn, c.tn, c.nt, c.tt⟩)
      obtain ⟨rfl, rfl⟩ := way_fun m (.apart b')
      obtain ⟨rfl, rfl⟩ := way_fun n (.both kp kq hn u v h)
      exact ⟨rfl, rfl, rfl⟩
    | both kp' kr hn' u' v' h' =>
      simp only at hn' h' kp'
      cases l with
      | apart c => exact absurd (hn.symm.trans hn') c.nn
      | both kq' kr' hn'' u3 v3 h3 =>
        cases k with
        | apart c => exact absurd hn'' c.nn
        | both kq1 kr1 hn1 u2 v2 h2 =>
          cases m with
          | apart c => exact absurd hn' c.nn
          | both kp1 kr2 hn2 u4 v4 h4 =>
            cases n with
            | apart c => exact absurd hn c.nn
            | both kp2 kq2 hn3 u5 v5 h5 =>
              obtain ⟨rfl, rfl, rfl⟩ := Sw.passH_three h h' h2 h3 h4 h5
              exact ⟨rfl, rfl, rfl⟩
            | out kp2 => simp only at kp2; omega
            | into kq2 => simp only at kq2; omega
          | out kp1 => omega
          | into kr2 => simp only at kr2; omega
        | out kq1 => simp only at kq1; omega
        | into kr1 => simp only at kr1; omega
      | out kq' => omega
      | into kr' => omega
    | out kp' => simp only at kp'; omega
    | into kr kp' hn' =>
      simp only at hn'
      obtain ⟨rfl, rfl⟩ := way_fun l (.into kr (.inl kq) (hn.symm.trans hn'))
      obtain ⟨rfl, rfl⟩ := way_fun k (Way.into (p := ⟨q.k, q.nm, q.to, u⟩) kr (.inl kq) (hn.symm.trans hn'))
      obtain ⟨rfl, rfl⟩ := way_fun m (.into kr (.inl kp) hn')
      obtain ⟨rfl, rfl⟩ := way_fun n (Way.both (p := ⟨p.k, r.to, p.to, p.h⟩) (q := ⟨q.k, r.to, q.to, q.h⟩) kp kq rfl u v h)
      exact ⟨rfl, rfl, rfl⟩
  | out kp kq hn =>
    -- p moves, q of where it goes
    cases l with
    | apart c =>
      cases j with
      | apart b =>
        obtain ⟨rfl, rfl⟩ := way_fun k (Way.apart (p := ⟨q.k, p.nm, q.to, q.h⟩) ⟨b.nn, fun h => by simp only at h; omega, b.nt, fun h => by simp only at h; omega⟩)
        obtain ⟨rfl, rfl⟩ := way_fun m (.apart b)
        obtain ⟨rfl, rfl⟩ := way_fun n (.out kp kq hn)
        exact ⟨rfl, rfl, rfl⟩
      | both kp' => omega
      | out kp' kr hn' => exact absurd (hn.trans hn'.symm) c.nn
      | into kr kp' => omega
    | both kq' kr hn' u v h =>
      obtain ⟨rfl, rfl⟩ := way_fun j (.out kp (.inl kr) (hn'.symm.trans hn))
      obtain ⟨rfl, rfl⟩ := way_fun k (Way.both (p := ⟨q.k, p.nm, q.to, q.h⟩) (q := ⟨r.k, p.nm, r.to, r.h⟩) kq' kr rfl u v h)
      obtain ⟨rfl, rfl⟩ := way_fun m (Way.out (q := ⟨r.k, r.nm, r.to, u⟩) kp (.inl kr) (hn'.symm.trans hn))
      obtain ⟨rfl, rfl⟩ := way_fun n (Way.out (q := ⟨q.k, q.nm, q.to, v⟩) kp (.inl kq') hn)
      exact ⟨rfl, rfl, rfl⟩
    | out kq' => omega
    | into kr kq' hn' =>
      cases j with
      | apart b => exact absurd (hn.symm.trans hn') (b.tn kp)
      | both kp' => omega
      | out kp' kr' => omega
      | into kr' kp' => omega
  | into kq kp hn =>
    -- q moves p's file
    cases l with
    | apart c =>
      cases j with
      | apart b =>
        obtain ⟨rfl, rfl⟩ := way_fun k (.apart c)
        obtain ⟨rfl, rfl⟩ := way_fun m (Way.apart (p := p) ⟨by rw [hn]; exact c.nn, fun h => by omega, fun hr => by rw [hn]; exact c.nt hr, fun h => by omega⟩)
        obtain ⟨rfl, rfl⟩ := way_fun n (.into kq kp hn)
        exact ⟨rfl, rfl, rfl⟩
      | both kp' kr hn' => exact absurd hn' (c.tn kq)
      | out kp' => simp only at kp'; omega
      | into kr kp' hn' => exact absurd hn' (c.tn kq)
    | both kq' => omega
    | out kq' kr hn' =>
      cases j with
      | apart b => exact absurd hn'.symm b.nn
      | both kp' kr' hn'' u v h =>
        simp only at kp' h
        obtain ⟨rfl, rfl⟩ := way_fun k (Way.out (q := ⟨r.k, r.nm, r.to, u⟩) kq (.inl kr') hn')
        obtain ⟨rfl, rfl⟩ := way_fun m (Way.both (p := p) (q := ⟨r.k, q.nm, r.to, r.h⟩) kp' kr' hn u v h)
        obtain ⟨rfl, rfl⟩ := way_fun n (Way.into (p := ⟨p.k, p.nm, p.to, v⟩) kq (.inl kp') hn)
        exact ⟨rfl, rfl, rfl⟩
      | out kp' => simp only at kp'; omega
      | into kr' => omega
    | into kr kq' => omega

theorem passP_three {p q r q1 p1 r1 p2 r2 q2 r3 q3 r4 p3 q4 p4 : Ch} (i : passP p q = some (q1, p1)) (j : passP p1 r = some (r1, p2)) (k : passP q1 r1 = some (r2, q2))
    (l : passP q r = some (r3, q3)) (m : passP p r3 = some (r4, p3)) (n : passP p3 q3 = some (q4, p4)) : r2 = r4 ∧ q2 = q4 ∧ p2 = p4 :=
  way_three (passP_way i).2.2 (passP_way j).2.2 (passP_way k).2.2 (passP_way l).2.2 (passP_way m).2.2 (passP_way n).2.2

end Pr
end Go.Proofs.Ytfjllohhjpiphaa
