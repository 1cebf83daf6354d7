/-
  What package code's Get returns (walk).
-/
import Derived.Test.YtjhjmfodpnipiaaGreatDoorCdGetW
set_option maxRecDepth 100000
namespace Go.Proofs.YtjhjmfodpnipiaaGreatDoor
open Go.RowKit Go.Shelf
set_option linter.unusedVariables false
set_option linter.unusedSimpArgs false
namespace Cd
open Tx Df Sq Hk Tr Pr Fl

/-- How it starts. -/
theorem gi_start {A : Option Addr} {n c : Nat} {bs : List UInt8} {w : World} (hn : bs.length = n) (hnc : n ≤ c) (hbig : n ≤ 200000) (hR : RdB w w.heap.size A bs) (hv : Vars w)
    (bL : Blk ((w.alloc (.cells #[.slice none 0 0] 24)).alloc (.cells #[.int .i64 0] 25)) w.heap.size 24 #[.slice none 0 0])
    (bE : Blk ((w.alloc (.cells #[.slice none 0 0] 24)).alloc (.cells #[.int .i64 0] 25)) (w.heap.size + 1) 25 #[.int .i64 0])
    (hb0 : Below w.heap.size w ((w.alloc (.cells #[.slice none 0 0] 24)).alloc (.cells #[.int .i64 0] 25))) :
    GI w w.heap.size [] (.slice none 0 0) bs (((w.alloc (.cells #[.slice none 0 0] 24)).alloc (.cells #[.int .i64 0] 25)).alloc (.cells #[.slice A n c] 22)) := by
  have hb1 : Below w.heap.size w (((w.alloc (.cells #[.slice none 0 0] 24)).alloc (.cells #[.int .i64 0] 25)).alloc (.cells #[.slice A n c] 22)) := hb0.alloc (by simp; omega) _
  have bR := Blk.new ((w.alloc (.cells #[.slice none 0 0] 24)).alloc (.cells #[.int .i64 0] 25)) 22 #[.slice A n c]
  simp only [World.size_alloc] at bR
  refine ⟨bL.alloc _, bE.alloc _, ⟨⟨A, c, ?_, by omega, hR.below hb1⟩, by omega, by omega⟩, gl_nil _ _, (vn_of hv).to hb1, hb1, rfl, none, 0, 0, rfl, rfl, Nat.le_refl _⟩
  rw [hn]; exact bR
/-- The next line is asked for. -/
theorem next {w W : World} {N : Nat} {acc : List Ch} {v : Value} {r : List UInt8} {o : Option (List Ch)} (h : GI w N acc v r W) (hl : acc.length ≤ 200) (ho : o = (listC acc.length r).map (acc ++ ·)) :
    Calls Tryz.prog 23 #[.pointer (some ⟨N + 2, 0, none⟩)] W fun e W' =>
      (∃ s b, e = .returned (.tuple #[strV s, .bool b]) ∧ GRel w N o (strV s) (.bool b) W' ∧ (b = true → restN W' N < r.length)) ∨ (o = none ∧ e = .panicked bad ∧ W = W') := by
  by_cases h0 : r = []
  · subst h0
    refine (next_end N (N + 2) W h.rs).mono ?_
    rintro e w1 ⟨rfl, rfl⟩
    refine .inl ⟨[], false, rfl, ⟨⟨acc, v, [], [], false, rfl, rfl, h, hl, by simp, (fun e => by cases e), fun _ => ⟨rfl, ?_⟩⟩⟩, (fun e => by cases e)⟩
    rw [ho, listC_nil]; simp
  · cases hc : cutLine r with
    | none =>
      refine (next_bad N (N + 2) r W h.rs h0 hc).mono ?_
      rintro e w1 ⟨rfl, rfl⟩
      exact .inr ⟨by rw [ho, listC_none h0 hc]; rfl, rfl, rfl⟩
    | some z =>
      obtain ⟨s, r'⟩ := z
      refine (next_line N (N + 2) r s r' W h.rs hc).mono ?_
      rintro e w1 ⟨rfl, hr, hg⟩
      have h1 := congrArg List.length (cutLine_inv hc).1
      rw [List.length_append, List.length_cons] at h1
      have h2 := h.rs.len
      have hgi := h.read hr hg
      refine .inl ⟨s, true, rfl, ⟨⟨acc, v, s, r', true, rfl, rfl, hgi, hl, by omega, (fun _ => ⟨r, h0, hc, ho⟩), (fun e => by cases e)⟩⟩, fun _ => ?_⟩
      rw [hgi.restN]; omega
/-- What the loop's rounds shrink. -/
def mea (i : Value) (W : World) (N : Nat) : Nat := match i with | .bool true => restN W N + 1 | _ => 0
/-- A change that is read, behind what is got. -/
theorem one_sg {wr w4 : World} {N : Nat} {acc : List Ch} {v : Value} {p : Ch} {A1 A2 : Option Addr} {n1 c1 n2 c2 : Nat} (hgl : GL wr (N + 3) v acc) (hsz : N + 3 ≤ wr.heap.size)
    (hpv : PV w4 w4.heap.size A1 n1 c1 A2 n2 c2 p) (hi1 : Hi wr.heap.size A1) (hi2 : Hi wr.heap.size A2) (o : Obj) :
    PCells (w4.alloc o) (SG (N + 3) (w4.alloc o) v) [p] [.int .i64 p.k, strV p.nm, strV p.to, .int .i64 p.h.pos, .slice A1 n1 c1, .slice A2 n2 c2] := by
  refine ((PCells.one (pg_hi hpv hi1 hi2)).to (fun b _ hl => (World.grownBy_alloc w4 o none).block b hl (by simp))).mono (fun b hb => ⟨by have := hb.1; omega, by have := hb.2; simp; omega, fun e => ?_⟩)
  have h1 := ownS_lt hgl b e.symm
  have := hb.1
  omega
theorem got_cons {acc : List Ch} {b0 s r r' : List UInt8} {p : Ch} {o : Option (List Ch)} (ho : o = (listC acc.length b0).map (acc ++ ·)) (hb : b0 ≠ []) (hc : cutLine b0 = some (s, r)) (h1 : oneC s r = some (p, r')) (hm : mayP p = true) (hl : acc.length < 200) :
    o = (listC (acc ++ [p]).length r').map ((acc ++ [p]) ++ ·) := by
  rw [ho, listC_cons hb hc h1, if_pos ⟨hm, hl⟩, List.length_append]
  cases listC (acc.length + [p].length) r' with
  | none => simp_all
  | some l => simp_all
theorem got_no {acc : List Ch} {b0 s r r' : List UInt8} {p : Ch} {o : Option (List Ch)} (ho : o = (listC acc.length b0).map (acc ++ ·)) (hb : b0 ≠ []) (hc : cutLine b0 = some (s, r)) (h1 : oneC s r = some (p, r')) (hm : ¬ (mayP p = true ∧ acc.length < 200)) : o = none := by
  rw [ho, listC_cons hb hc h1, if_neg hm]; rfl
/-- A change behind what is got, in its row. -/
theorem gl_app {W W' : World} {lo m : Nat} {v : Value} {l u : List Ch} {xs ys : List Value} {g cap : Nat} (hF : PCells W (SG lo W v) l xs) (hxl : xs.length = l.length * 6) (hu : PCells W (SG lo W v) u ys) (hm : u.length = m)
    (r1 : W'.ownsRow lo 34 6 (.slice (some ⟨g, 0, none⟩) (l.length + m) cap) (l.length + m) (xs ++ ys)) (r2 : W.grownBy W' v.ownBlock) (r3 : v.ownBlock = some g ∨ g = W.heap.size) : GL W' lo (.slice (some ⟨g, 0, none⟩) (l.length + m) cap) (l ++ u) := by
  refine ⟨xs ++ ys, by rw [List.length_append, hm]; exact r1, ((hF.append hxl hu).to (fun b hb hl => r2.block b hl hb.2.2)).mono (fun b hb => ⟨hb.1, Nat.lt_of_lt_of_le hb.2.1 r2.size, fun e => ?_⟩)⟩
  have e' : b = g := by injection e
  rcases r3 with r3 | r3
  · exact hb.2.2 (by rw [e']; exact r3.symm)
  · have := hb.2.1; omega

set_option maxRecDepth 100000 in
set_option maxHeartbeats 8000000 in
theorem Get (A : Option Addr) (n c : Nat) (bs : List UInt8) (w : World) (hn : bs.length = n) (hnc : n ≤ c) (hle : n ≤ maxLen) (hR : RdB w w.heap.size A bs) (hv : Vars w) :
    Calls Tryz.prog 5 #[.slice A n c] w (GetEnd w (getC bs)) := by
  have hmf : ∀ (fn : Fn) (first cap : Array Value) (w : World), (Instr.makeFunc fn first cap).run Tryz.prog w = .ok (.func fn first cap) w := fun _ _ _ _ => rfl
  obtain ⟨o, ho⟩ : ∃ o, getC bs = o := ⟨_, rfl⟩
  rw [ho]
  have HO := Lib.hid ho
  have HL := Lib.hid hn; have HR := Lib.hid hR; have HV := Lib.hid hv
  have bL := (Blk.new w 24 #[.slice none 0 0]).alloc (.cells #[.int .i64 0] 25)
  have bE := Blk.new (w.alloc (.cells #[.slice none 0 0] 24)) 25 #[.int .i64 0]
  have hb0 : Below w.heap.size w ((w.alloc (.cells #[.slice none 0 0] 24)).alloc (.cells #[.int .i64 0] 25)) := two_box w _ _
  simp only [World.size_alloc] at bE
  have BL := Lib.hid bL; have BE := Lib.hid bE; have HB0 := Lib.hid hb0
  clear hn hR hv bL bE hb0 ho
  by_cases hbig : n ≤ 200000
  · have hd : decide ((n : Int) ≤ 200000) = true := decide_eq_true (by omega)
    have ho : o = listC 0 bs := by rw [← HO.out]; unfold getC; rw [if_pos (by rw [HL.out]; exact hbig)]
    replace HO := Lib.hid ho; clear ho
    go_enter_defers Tryz.func5, Tryz.ntmps5
    go_wp2_with fail
    refine (must_yes _).mono ?_
    rintro e w1 ⟨rfl, rfl⟩
    go_wp2_with fail
    refine (lines A n c _).mono ?_
    rintro e w1 ⟨rfl, rfl⟩
    simp only [World.size_alloc]
    go_upto_region 4 with fail
    have hgi := gi_start HL.out hnc hbig HR.out HV.out BL.out BE.out HB0.out
    generalize ((w.alloc (.cells #[.slice none 0 0] 24)).alloc (.cells #[.int .i64 0] 25)).alloc (.cells #[.slice A n c] 22) = W at hgi ⊢
    have HG := Lib.hid hgi
    clear BL BE HB0 HR HV hgi
    obtain ⟨N, hN⟩ : ∃ N, w.heap.size = N := ⟨_, rfl⟩
    rw [hN] at HG ⊢
    have HNN := Lib.hid hN; clear hN
    clear hnc hle HL hbig hd
    go_wp2_with fail
    refine (next (o := o) HG.out (Nat.zero_le _) (by rw [HO.out]; cases listC 0 bs <;> simp)).mono ?_
    rintro e w1 (⟨s0, b0, rfl, hrel, _⟩ | ⟨ho, rfl, rfl⟩)
    · have HRL := Lib.hid hrel; clear hrel
      go_wp2
      go_loopw [5, 6] (fun x i W => GRel w N o x i W) (fun _ i W => mea i W N)
      case atStart => exact HRL.out
      case round =>
        obtain ⟨acc, v, s, r, b, rfl, rfl, hgi, hal, hsl, ht, hf⟩ := hrel.ex
        clear hrel HRL HO HG
        have HG := Lib.hid hgi
        cases b with
        | false =>
          obtain ⟨hr, ho⟩ := hf rfl
          subst ho
          clear ht hf hr hgi
          obtain ⟨A1, n1, k1, rfl, hn1, hc1⟩ := HG.out.hl
          have HN1 := Lib.hid hn1; have HC1 := Lib.hid hc1; clear hn1 hc1
          have bl := HG.out.bl; have be := HG.out.be
          have c0 : wr.cell? ⟨N, 0, none⟩ = some (.slice A1 n1 k1) := bl.cell 0 rfl
          have f0 := bl.frozen 0
          have c1 : wr.cell? ⟨N + 1, 0, none⟩ = some (.int .i64 0) := be.cell 0 rfl
          have f1 := be.frozen 0
          have BL := Lib.hid bl; have BE := Lib.hid be
          clear bl be
          go_wp2
          clear c0 f0 c1 f1
          have hn1 := HN1.out; have hc1 := HC1.out
          have hs := HG.out.sz
          have g1 := grownBy_set wr N 0 (.slice A1 n1 k1)
          have g2 := grownBy_set (wr.setCell ⟨N, 0, none⟩ (.slice A1 n1 k1)) (N + 1) 0 (.int .i64 0)
          have hb1 : Below N wr (wr.setCell ⟨N, 0, none⟩ (.slice A1 n1 k1)) := (Below.refl N wr).grown g1 (by omega) (fun b e => by injection e with e; omega)
          have hs1 := g1.size
          have hb2 : Below N wr ((wr.setCell ⟨N, 0, none⟩ (.slice A1 n1 k1)).setCell ⟨N + 1, 0, none⟩ (.int .i64 0)) := hb1.grown g2 (by omega) (fun b e => by injection e with e; omega)
          have hgl := (HG.out.gl.gr g1 (fun b e => by injection e with e; omega)).gr g2 (fun b e => by injection e with e; omega)
          exact door_ok ((BL.out.set 0 (.slice A1 n1 k1)).set_ne (by omega) 0 (.int .i64 0)) ((BE.out.set_ne (by omega) 0 (.slice A1 n1 k1)).set 0 (.int .i64 0)) (by rw [HNN.out]; exact HG.out.bw.trans hb2) hn1 hc1 (rdP_of_own hgl (fun b hb => hb.2.1) hn1) rfl rfl
        | true =>
          obtain ⟨b1, hb0, hb1, ho⟩ := ht rfl
          clear ht hf hgi
          have H0 := Lib.hid hb0; have H1 := Lib.hid hb1; have HO := Lib.hid ho
          clear hb0 hb1 ho
          cases ho1 : oneC s r with
          | none =>
            have key := read s N (N + 2) r wr hsl HG.out.rs HG.out.vn
            rw [ho1] at key
            have hoN : o = none := by rw [HO.out, listC_no H0.out H1.out ho1]; rfl
            subst hoN
            have KEY := Lib.hid key; clear key ho1
            go_wp2_with fail
            refine KEY.out.mono ?_
            rintro e w2 ⟨rfl, hg⟩
            have HGB := Lib.hid (HG.out.bad hg); clear hg KEY
            go_wp2
            exact door_bad HGB.out.1 HGB.out.2.1 HGB.out.2.2 HNN.out rfl rfl
          | some z =>
            obtain ⟨p, r'⟩ := z
            have key := read s N (N + 2) r wr hsl HG.out.rs HG.out.vn
            rw [ho1] at key
            have HO1 := Lib.hid ho1; have KEY := Lib.hid key; clear key ho1
            go_wp2_with fail
            refine KEY.out.mono ?_
            rintro e w2 ⟨A1, n1, c1, A2, n2, c2, rfl, hpv, hi1, hi2, hrest, hg⟩
            have hb3 : Below w2.heap.size w2 (w2.alloc (.cells #[.int .i64 p.k, strV p.nm, strV p.to, .int .i64 p.h.pos, .slice A1 n1 c1, .slice A2 n2 c2] 34)) := (Below.refl _ _).alloc (Nat.le_refl _) _
            have HG3 := Lib.hid ((HG.out.read hrest hg).below hb3)
            have HPV3 := Lib.hid (hpv.mv hb3)
            have HI1 := Lib.hid hi1; have HI2 := Lib.hid hi2
            have HBP := Lib.hid (Blk.new w2 34 #[.int .i64 p.k, strV p.nm, strV p.to, .int .i64 p.h.pos, .slice A1 n1 c1, .slice A2 n2 c2])
            have HSZ := Lib.hid hg.size
            clear KEY hpv hi1 hi2 hrest hg hb3
            go_wp2_with fail
            obtain ⟨mb, hmb⟩ : ∃ b, mayP p = b := ⟨_, rfl⟩
            refine (MayP A1 n1 c1 A2 n2 c2 p _ mb HPV3.out hmb).mono ?_
            rintro e w4 ⟨rfl, hb4⟩
            have HG4 := Lib.hid (HG3.out.below hb4)
            have HPV4 := Lib.hid (HPV3.out.mv hb4)
            have HBP4 := Lib.hid (HBP.out.below hb4 HBP.out.lt)
            have HMB := Lib.hid hmb
            have HSZ4 := Lib.hid (Nat.le_trans HSZ.out (Nat.le_trans (by simp) hb4.size))
            clear HG3 HPV3 HBP hb4 hmb HSZ
            cases mb with
            | false =>
              have hoN : o = none := got_no HO.out H0.out H1.out HO1.out (fun h => by rw [HMB.out] at h; exact absurd h.1 (by decide))
              subst hoN
              go_wp2_with fail
              refine (must_no _).mono ?_
              rintro e w5 ⟨rfl, rfl⟩
              go_wp2
              exact door_bad HG4.out.bl HG4.out.be HG4.out.bw HNN.out rfl rfl
            | true =>
              obtain ⟨Av, nv, cv, rfl, hnv, hcv⟩ := HG4.out.hl
              have HNV := Lib.hid hnv; clear hnv hcv
              have c0 : w4.cell? ⟨N, 0, none⟩ = some (.slice Av nv cv) := HG4.out.bl.cell 0 rfl
              by_cases hlt : nv < 200
              · have hd : decide ((nv : Int) < 200) = true := decide_eq_true (by omega)
                have ho2 := got_cons HO.out H0.out H1.out HO1.out HMB.out (by rw [HNV.out]; exact hlt)
                have HO2 := Lib.hid ho2; clear ho2
                go_wp2_with fail
                refine (must_yes _).mono ?_
                rintro e w5 ⟨rfl, rfl⟩
                have q0 : w4.cell? ⟨w2.heap.size, 0, none⟩ = some (.int .i64 p.k) := HBP4.out.cell 0 rfl
                have q1 : w4.cell? ⟨w2.heap.size, 1, none⟩ = some (strV p.nm) := HBP4.out.cell 1 rfl
                have q2 : w4.cell? ⟨w2.heap.size, 2, none⟩ = some (strV p.to) := HBP4.out.cell 2 rfl
                have q3 : w4.cell? ⟨w2.heap.size, 3, none⟩ = some (.int .i64 p.h.pos) := HBP4.out.cell 3 rfl
                have q4 : w4.cell? ⟨w2.heap.size, 4, none⟩ = some (.slice A1 n1 c1) := HBP4.out.cell 4 rfl
                have q5 : w4.cell? ⟨w2.heap.size, 5, none⟩ = some (.slice A2 n2 c2) := HBP4.out.cell 5 rfl
                have HGA := Lib.hid (HG4.out.gl.gr (World.grownBy_alloc w4 (.cells #[.int .i64 p.k, strV p.nm, strV p.to, .int .i64 p.h.pos, .slice A1 n1 c1, .slice A2 n2 c2] 34) none) (fun b e => by cases e))
                have HONE := Lib.hid (one_sg HG.out.gl HG.out.sz HPV4.out HI1.out HI2.out (.cells #[.int .i64 p.k, strV p.nm, strV p.to, .int .i64 p.h.pos, .slice A1 n1 c1, .slice A2 n2 c2] 34))
                have HSRC : Hid (∃ a, some (⟨w4.heap.size, 0, none⟩ : Addr) = some a ∧ ∀ (j : Nat) x, [.int .i64 p.k, strV p.nm, strV p.to, .int .i64 p.h.pos, .slice A1 n1 c1, .slice A2 n2 c2][j]? = some x → (w4.alloc (.cells #[.int .i64 p.k, strV p.nm, strV p.to, .int .i64 p.h.pos, .slice A1 n1 c1, .slice A2 n2 c2] 34)).cell? (a.add j) = some x) := Lib.hid ⟨_, rfl, World.news_of_block (cs := #[.int .i64 p.k, strV p.nm, strV p.to, .int .i64 p.h.pos, .slice A1 n1 c1, .slice A2 n2 c2]) (t := 34) (fr := (0, 0)) (World.alloc_heap_new w4 _)⟩
                have HLN : Hid (acc.length + 1 ≤ 100000) := Lib.hid (by have h1 := HNV.out; omega)
                have HBS : Hid (N + 3 ≤ (w4.alloc (.cells #[.int .i64 p.k, strV p.nm, strV p.to, .int .i64 p.h.pos, .slice A1 n1 c1, .slice A2 n2 c2] 34)).heap.size) := Lib.hid (by have h1 := HG4.out.sz; simp; omega)
                go_upto_region 9 with fail
                have hgal := World.grownBy_alloc w4 (.cells #[.int .i64 p.k, strV p.nm, strV p.to, .int .i64 p.h.pos, .slice A1 n1 c1, .slice A2 n2 c2] 34) (Value.slice Av nv cv).ownBlock
                have HGAL := Lib.hid hgal; clear hgal
                have hown : ∀ k, (Value.slice Av nv cv).ownBlock = some k → N + 3 ≤ k := fun k hk => ownS_ge HG4.out.gl k hk
                have HOWN := Lib.hid hown; clear hown
                go_wp2_with
                 (at_builtin; refine wpList_ownG rfl (.tmp 37) (.tmp 39) rfl (N + 3) 1 1 (.slice Av nv cv) (some ⟨w4.heap.size, 0, none⟩) acc [p] [.int .i64 p.k, strV p.nm, strV p.to, .int .i64 p.h.pos, .slice A1 n1 c1, .slice A2 n2 c2] rfl rfl HGA.out HONE.out rfl HSRC.out rfl (by decide) HLN.out HBS.out ?_;
                  intro g cap W6 hgl hgrow;
                  have HGR := Lib.hid (HGAL.out.trans hgrow);
                  have HGL := Lib.hid hgl;
                  have y0 : W6.cell? ⟨N, 0, none⟩ = some (.slice Av nv cv) := (HG4.out.bl.gr HGR.out (fun e => by have := HOWN.out N e.symm; omega)).cell 0 rfl;
                  have yf : W6.frozen? ⟨N, 0, none⟩ = false := (HG4.out.bl.gr HGR.out (fun e => by have := HOWN.out N e.symm; omega)).frozen 0;
                  clear hgl hgrow)
                have hgi2 := HG4.out.app (by have h1 := HNV.out; omega) HGR.out HGL.out _ rfl
                have HGI2 := Lib.hid hgi2; clear hgi2
                clear c0 y0 yf q0 q1 q2 q3 q4 q5
                refine (next HGI2.out (by have h1 := HNV.out; rw [List.length_append]; simp; omega) HO2.out).mono ?_
                rintro e w7 (⟨s2, b2, rfl, hrel2, hm2⟩ | ⟨hoN, rfl, rfl⟩)
                · have hme : mea (.bool b2) w7 N < mea (.bool true) wr N := by
                    have h1 := HG.out.restN
                    have h2 := oneC_len HO1.out
                    cases b2 with
                    | false => show 0 < restN wr N + 1; omega
                    | true =>
                      have h3 := hm2 rfl
                      show restN w7 N + 1 < restN wr N + 1
                      omega
                  have HREL := Lib.hid hrel2; have HME := Lib.hid hme
                  clear hrel2 hm2 hme
                  go_wp2
                  exact ⟨HREL.out, HME.out⟩
                · have HON := Lib.hid hoN; clear hoN
                  go_wp2
                  rw [HON.out]
                  exact door_bad HGI2.out.bl HGI2.out.be HGI2.out.bw HNN.out rfl rfl
              · have hd : decide ((nv : Int) < 200) = false := decide_eq_false (by omega)
                have hoN : o = none := got_no HO.out H0.out H1.out HO1.out (fun h => by have := h.2; rw [HNV.out] at this; exact hlt this)
                subst hoN
                go_wp2_with fail
                refine (must_no _).mono ?_
                rintro e w5 ⟨rfl, rfl⟩
                go_wp2
                exact door_bad HG4.out.bl HG4.out.be HG4.out.bw HNN.out rfl rfl
    · have HO' := Lib.hid ho; clear ho
      go_wp2
      rw [HO'.out]
      exact door_bad HG.out.bl HG.out.be HG.out.bw HNN.out rfl rfl
  · have hd : decide ((n : Int) ≤ 200000) = false := decide_eq_false (by omega)
    have ho : o = none := by rw [← HO.out]; unfold getC; rw [if_neg (by rw [HL.out]; exact hbig)]
    subst ho
    go_enter_defers Tryz.func5, Tryz.ntmps5
    go_wp2_with fail
    refine (must_no _).mono ?_
    rintro e w1 ⟨rfl, rfl⟩
    go_wp2
    exact door_bad BL.out BE.out HB0.out rfl rfl rfl

end Cd
end Go.Proofs.YtjhjmfodpnipiaaGreatDoor
