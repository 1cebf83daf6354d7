/-
  The statement BubbleSame: what stays, and then what was put behind, changes a tree as all do; so does what was picked, and then the rest.
-/
import Derived.Deep.Cut
import Derived.BigQuiet
import Derived.Deep.RegionHeld3
import Derived.OpenShut
import Derived.ShutString
import Derived.Test.YtdnkinajbebkoaaBS4
set_option maxRecDepth 100000
namespace Go.Proofs.Ytdnkinajbebkoaa
open Go.RowKit Go.Shelf
set_option linter.unusedVariables false
set_option linter.unusedSimpArgs false
namespace Bb
open Tx Df Sq Hk Tr Pr Rg Fl Pn Tg
attribute [local go_sem] Oper.semAt_some

set_option maxRecDepth 100000 in
set_option maxHeartbeats 8000000 in
theorem BehindC {R : Nat → Prop} {w W : World} {v u : Value} {s gl : List Nm} (K : Nat) (D : Option Addr) (dn dc : Nat) (E : Option Addr) (m k : Nat) (p : Nm) (hR : R K) (h : Rows3 R w W v u gl s) (hb : Blk W K 58 #[v]) (hp : Tg.Lit p) (hg : ∀ x ∈ gl, Tg.Lit x) (hgl : gl.length ≤ 1000) (hv : NV W W.heap.size D dn dc E m k p) :
    Calls Try.prog 36 #[.pointer (some ⟨K, 0, none⟩), nmV p.id D dn dc p.txt E m k] W (GoneEnd R K w v u gl s ((undN p gl.reverse).map fun z => (z.2, z.1.reverse)) W) := by
  obtain ⟨Av, cv, rfl, hcv, hrd⟩ := Tg.rdN_ownT h.a pr_lt
  obtain ⟨nv, hnv⟩ : ∃ nv, gl.length = nv := ⟨_, rfl⟩
  rw [hnv] at h hb hcv hgl ⊢
  have HLN := Lib.hid hnv
  obtain ⟨b0, b1, b2, hba⟩ := three_blk W 45 45 4 #[.int .i64 p.id.1, .int .i64 p.id.2, .slice D dn dc, strV p.txt, .slice E m k] #[.int .i64 0, .int .i64 0, .slice none 0 0, .string ⟨#[]⟩, .slice none 0 0] #[.bool false]
  have hs1 : (((W.alloc (.cells #[.int .i64 p.id.1, .int .i64 p.id.2, .slice D dn dc, strV p.txt, .slice E m k] 45)).alloc (.cells #[.int .i64 0, .int .i64 0, .slice none 0 0, .string ⟨#[]⟩, .slice none 0 0] 45)).alloc (.cells #[.bool false] 4)).heap.size = W.heap.size + 3 := by simp
  have HRK := Lib.hid hR; have HROW := Lib.hid h; have HBK := Lib.hid hb
  have HLK : Hid (K < W.heap.size) := Lib.hid hb.lt
  have HLP := Lib.hid hp; have HLG := Lib.hid hg
  have HRD := Lib.hid (RdN.mv hrd hba); have HV := Lib.hid (NV.mv hv hba)
  clear hnv hb h hcv hR hp hg hrd hv
  refine (callsIn_wide (n := 4)).1 ?_
  refine callsIn_of_wp_marks Try.func36 rfl trivial ?_ rfl
  simp only [Try.ntmps36, List.size_toArray, List.length_cons, List.length_nil, Nat.reduceAdd, Nat.reduceSub, Array.replicate_succ, Array.replicate_zero, List.push_toArray, List.append_toArray, List.nil_append, List.cons_append]
  gi_wp2_with fail
  generalize (((W.alloc (.cells #[.int .i64 p.id.1, .int .i64 p.id.2, .slice D dn dc, strV p.txt, .slice E m k] 45)).alloc (.cells #[.int .i64 0, .int .i64 0, .slice none 0 0, .string ⟨#[]⟩, .slice none 0 0] 45)).alloc (.cells #[.bool false] 4)) = w1 at b0 b1 b2 hba hs1 HRD HV ⊢
  obtain ⟨z, hz⟩ : ∃ z, W.heap.size = z := ⟨_, rfl⟩
  rw [hz] at b0 b1 b2 hs1 ⊢
  have HZ := Lib.hid hz; have HB0 := Lib.hid b0; have HB1 := Lib.hid b1; have HB2 := Lib.hid b2; have HBA := Lib.hid hba; have HS1 := Lib.hid hs1
  have HK1 := Lib.hid (HBK.out.below hba HBK.out.lt)
  have HKZ : Hid (K < z) := Lib.hid (by have := HLK.out; omega)
  have HR1 : Hid (Rows3 (fun b => R b ∨ b = z ∨ b = z + 1 ∨ b = z + 1 + 1) w w1 (.slice Av nv cv) u gl s) := Lib.hid (HROW.out.more (fun b e => e.imp id fun e => by rcases e with e | e | e <;> omega) hba (fun b e => by rcases e with e | e | e | e; (have := (HROW.out.rl b e).2; omega); omega; omega; omega))
  clear hz b0 b1 b2 hba hs1
  refine ⟨trivial, callsIn_wide.2 ((OwnNC D dn dc E m k p w1 (by have h1 := HV.out.l; have h2 := HLP.out.2.1; omega) (by have h1 := HV.out.dl; have h2 := HLP.out.2.2; omega) HLP.out.1 HV.out).mono ?_)⟩
  rintro e u1 ⟨D1, c1, A1, k1, rfl, hn, hb1⟩
  have HN := Lib.hid hn; have HU1 := Lib.hid hb1
  have kk := HK1.out.below hb1 HK1.out.lt
  have kk0 := kk.cell 0 rfl; have kkl := kk.lt; have kkl1 := Nat.lt_succ_of_lt kkl; have kkl2 := Nat.lt_succ_of_lt kkl1
  clear hn hb1 kk
  obtain ⟨j0, hj, hy0, hy1, hy2⟩ := info_parts info_named
  have hmk : ∀ W : World, (Instr.makeSlice 22 (.int .i64 (nv : Int)) (.int .i64 (nv : Int))).run Try.prog W = .ok (.slice (some ⟨W.heap.size, 0, none⟩) nv nv) (W.alloc (.cells (madeCells #[.int .i64 0, .int .i64 0, .slice none 0 0, .string ⟨#[]⟩, .slice none 0 0] (nv * 5)) 45)) := by
    intro W
    have := run_make (P := Try.prog) W 22 45 j0 _ Try.underlying22 hj hy0 .i64 .i64 (nv : Int) (nv : Int) (by omega) (by omega) (by rw [hy2]; omega) (by omega)
    simp only [Int.toNat_natCast, hy1] at this
    exact this
  gi_wp2_with fail
  refine ⟨trivial, ?_⟩
  refine (backN_in 3 Av nv cv _).mono ?_
  rintro e w' ⟨rfl, rfl⟩
  gi_wp2
  have hst := uv_start HN.out HU1.out HRD.out HLN.out hgl HLP.out cv
  dsimp only [Tg.nmC, noC] at hst
  have HF0 := Lib.hid (HU1.out.size)
  obtain ⟨F, hF⟩ : ∃ F, u1.heap.size = F := ⟨_, rfl⟩
  rw [hF] at hst HF0
  rw [hF]
  obtain ⟨g, hg⟩ : ∃ g, F + 1 = g := ⟨_, rfl⟩
  rw [hg] at hst
  rw [hg]
  generalize ((((u1.alloc (.cells #[.int .i64 p.id.1, .int .i64 p.id.2, .slice D1 dn c1, strV p.txt, .slice A1 m k1] 45)).alloc (.cells (madeCells #[.int .i64 0, .int .i64 0, .slice none 0 0, .string ⟨#[]⟩, .slice none 0 0] (nv * 5)) 45)).alloc (.cells #[.slice (some ⟨g, 0, none⟩) nv nv] 22)).alloc (.cells #[.slice Av nv cv] 22)) = w5 at hst ⊢
  obtain ⟨hst, hbs, hsz, hc5⟩ := hst
  have HSZ := Lib.hid hsz; have HFG := Lib.hid hg; have HC5 := Lib.hid hc5
  have hzf : z + 3 ≤ F := by rw [← HS1.out]; exact HF0.out
  clear hmk hF hg hj hy0 hy1 hy2 kk0 kkl kkl1 kkl2 HN HU1 hc5
  refine range_law (n := 4) (gf := 56) (lb := #[.pointer (some ⟨g + 1 + 1, 0, none⟩)]) rfl (enters_of Try.func56 (by kernel_rfl) rfl) (Free := Plain) (fun _ h => h)
    (backN_gives 3 (g + 1 + 1) cv nv Av (by omega) w5 hbs HC5.out) kpN_t (kpN_b (by rw [hsz]; have := HFG.out; omega)) (fun x vals W h => by obtain ⟨_, _, _, _, _, _, _, _, rfl, _⟩ := h; rfl)
    (UvJ w1 F g nv gl p dn m) (UvX (fun b => R b ∨ b = z ∨ b = z + 1 ∨ b = z + 1 + 1) K z w W (.slice Av nv cv) u gl s p) (uvJ_ab (by rw [hsz]; have := HS1.out; omega)) (uvX_ab (by rw [hsz]; have := HROW.out.bw.size; have := HZ.out; omega) (by rw [hsz]; have := HZ.out; omega)) hst
    (fun i a' X => ∃ b v0 v1 v2 v3 v4, a' = { tmps := #[.pointer (some ⟨K, 0, none⟩), nmV p.id D dn dc p.txt E m k, undef, .pointer (some ⟨z, 0, none⟩), .pointer (some ⟨z + 1, 0, none⟩), .pointer (some ⟨z + 1 + 1, 0, none⟩), .pointer (some ⟨F, 0, none⟩), .pointer (some ⟨g + 1, 0, none⟩), .int .i64 (i : Int), .pointer (some ⟨b, 0, none⟩), undef, undef, undef, nmV p.id D dn dc p.txt E m k, nmV p.id D1 dn c1 p.txt A1 m k1, .pointer (some ⟨K, 0, none⟩), .pointer (some ⟨K, 0, none⟩), .pointer (some ⟨K, 0, none⟩), .slice Av nv cv, .int .i64 (nv : Int), .slice (some ⟨g, 0, none⟩) nv nv, .pointer (some ⟨K, 0, none⟩), .pointer (some ⟨K, 0, none⟩), .pointer (some ⟨K, 0, none⟩), .slice Av nv cv, .func (.func 56) #[] #[.pointer (some ⟨g + 1 + 1, 0, none⟩)], .int .i64 (i : Int), .agg #[v0, v1, v2, v3, v4], undef, undef, undef, undef, undef, undef, undef, undef, undef, undef, undef, undef, undef, undef, undef, undef, undef, undef, undef, undef], defers := [] } ∧ EN nv Av i #[.int .i64 (i : Int), .agg #[v0, v1, v2, v3, v4]] X ∧ Blk X b 45 #[v0, v1, v2, v3, v4])
    (fun i a' => ab_ex fun b => ab_ex fun v0 => ab_ex fun v1 => ab_ex fun v2 => ab_ex fun v3 => ab_ex fun v4 => Ab.and (ab_pure _ _ _) (Ab.and ab_EN (ab_blk fun _ => _))) ?assign ?body ?done ?stop
  case assign =>
    rintro y pre i vals X Kc hi hEL hK
    obtain ⟨x, post, Dx, dcx, Ex, kx, hI⟩ := id hi
    obtain ⟨q, D', dn', dc', E', m', k', hq, rfl, hv⟩ := EN.rd hEL (RdN.below HRD.out hI.fr) HLN.out
    clear hI hq hv
    gi_wp2
    exact hK _ _ ((KeepsOthers.alloc X _).from _) (kpN_new (World.grownBy_alloc X _ none)) ((uvJ_ab (Nat.le_refl _)).alloc _ hi) ⟨_, _, _, _, _, _, rfl, ab_EN.alloc (s := ()) (B := 0) _ hEL, Blk.new _ _ _⟩
  case body =>
    rintro y pre pst i a' X hfull hI ⟨b, v0, v1, v2, v3, v4, rfl, hEL, hb⟩
    have hi := dn_split hfull
    clear hfull
    obtain ⟨x, post, Dx, dcx, Ex, kx, hI⟩ := hI
    rw [show nv - pre.length = i + 1 by omega] at hI
    have hrx := RdN.below HRD.out hI.fr
    obtain ⟨q, D', dn', dc', E', m', k', hq, hv, hqv⟩ := EN.rd hEL hrx HLN.out
    obtain ⟨rfl, rfl, rfl, rfl, rfl⟩ := valsN_eq hv
    have HPL := Lib.hid hq; have HI := Lib.hid hI; have HB := Lib.hid hb
    have HLQ := Lib.hid (HLG.out q (List.mem_of_getElem? hq))
    have HPV := Lib.hid (hqv.up hI.fr.size)
    clear hqv hq hv hEL hrx
    obtain ⟨x1, y1, ho⟩ : ∃ x1 y1, outN (passN x q) = (x1, y1) := ⟨_, _, rfl⟩
    obtain ⟨bo, hbo⟩ : ∃ bo, (passN x q).isSome = bo := ⟨_, rfl⟩
    have HO := Lib.hid ho; have HBO := Lib.hid hbo
    clear ho hbo
    have PC := Lib.hid (PassN Dx dn dcx Ex m kx D' dn' dc' E' m' k' x q x1 y1 X bo (by have h1 := hI.ng.l; have h2 := hI.lx.2.1; omega) (by have h1 := HPV.out.l; have h2 := HLQ.out.2.1; omega) (by have h1 := hI.ng.dl; have h2 := hI.lx.2.2; omega) (by have h1 := HPV.out.dl; have h2 := HLQ.out.2.2; omega) hI.lx.1 HLQ.out.1 (hI.ng.mono but_lt).nv HPV.out HO.out HBO.out)
    have e0 := hb.cell 0 rfl; have e1 := hb.cell 1 rfl; have e2 := hb.cell 2 rfl; have e3 := hb.cell 3 rfl; have e4 := hb.cell 4 rfl
    have hbf := hI.bf
    have q0 := hbf.cell 0 (u := .int .i64 x.id.1) rfl; have q1 := hbf.cell 1 (u := .int .i64 x.id.2) rfl; have q2 := hbf.cell 2 (u := .slice Dx dn dcx) rfl; have q3 := hbf.cell 3 (u := strV x.txt) rfl; have q4 := hbf.cell 4 (u := .slice Ex m kx) rfl
    have l0 := hbf.lt; have l9 := hb.lt
    clear hI hb hbf
    gi_wp2_with fail
    refine ⟨trivial, CallsIn.inRound y (callsIn_wide.2 (PC.out.mono ?_))⟩
    rintro e w2 ⟨D1, d1, c1, E1, m1, k1, D2, d2, c2, E2, m2, k2, rfl, n1, n2, hb2⟩
    clear e0 e1 e2 e3 e4 q0 q1 q2 q3 q4 PC l0 l9
    have hbx := below_mv HI.out.fr hb2
    have HB2' := Lib.hid hb2; have HN1 := Lib.hid n1; have HN2 := Lib.hid n2; have HBX := Lib.hid hbx
    clear n1 n2 hb2 hbx
    cases bo with
    | false =>
      have hr0 := HB1.out.below HBX.out HB1.out.lt; have hr2 := HB2.out.below HBX.out HB2.out.lt
      have r0 := hr0.cell 0 (u := .int .i64 0) rfl; have r1 := hr0.cell 1 (u := .int .i64 0) rfl; have r2 := hr0.cell 2 (u := .slice none 0 0) rfl; have r3 := hr0.cell 3 (u := .string ⟨#[]⟩) rfl; have r4 := hr0.cell 4 (u := .slice none 0 0) rfl; have f0 := hr0.frozen 0; have f1 := hr0.frozen 1; have f2 := hr0.frozen 2; have f3 := hr0.frozen 3; have f4 := hr0.frozen 4
      have t0 := hr2.cell 0 (u := .bool false) rfl; have h0 := hr2.frozen 0
      have hlt1 := hr0.lt; have hlt2 := hr2.lt; have hltz := Nat.lt_of_succ_lt hr0.lt
      clear hr0 hr2
      gi_wp2_with fail
      have HNN : Hid (passN x q = none) := Lib.hid (by
        have h := HBO.out
        cases hp : passN x q with
        | none => rfl
        | some z => rw [hp] at h; cases h)
      clear r0 r1 r2 r3 r4 f0 f1 f2 f3 f4 t0 h0 hlt1 hlt2 hltz
      have HUN : Hid (undN p gl.reverse = none) := Lib.hid (by
        obtain ⟨t, ht⟩ := rev_split HPL.out
        rw [ht]
        exact und_snoc_none HI.out.eq HNN.out t)
      exact uv_no HR1.out HK1.out HKZ.out (.inr (.inr (.inl rfl))) (.inr (.inr (.inr rfl))) HZ.out HBA.out HB1.out HB2.out HI.out.fr HB2'.out HUN.out _ _
    | true =>
      have HSM : Hid (passN x q = some (x1, y1)) := Lib.hid (by
        have h := HBO.out; have ho := HO.out
        cases hp : passN x q with
        | none => rw [hp] at h; cases h
        | some z => rw [hp] at ho; exact congrArg some ho)
      obtain ⟨hid, hdp, htx, hll⟩ := (passN_keeps HSM.out).2
      obtain rfl : dn = d2 := by rw [← HN2.out.dl, hdp, HI.out.ng.dl]
      obtain rfl : m = m2 := by rw [← HN2.out.l, hll, HI.out.ng.l]
      clear hid hdp htx hll
      gi_wp2_with fail
      have b3 := (Blk.new w2 45 #[.int .i64 x1.id.1, .int .i64 x1.id.2, .slice D1 d1 c1, strV x1.txt, .slice E1 m1 k1]).alloc (.cells #[.int .i64 y1.id.1, .int .i64 y1.id.2, .slice D2 dn c2, strV y1.txt, .slice E2 m k2] 45)
      have b4 := Blk.new (w2.alloc (.cells #[.int .i64 x1.id.1, .int .i64 x1.id.2, .slice D1 d1 c1, strV x1.txt, .slice E1 m1 k1] 45)) 45 #[.int .i64 y1.id.1, .int .i64 y1.id.2, .slice D2 dn c2, strV y1.txt, .slice E2 m k2]
      have hb4 : Below w2.heap.size w2 ((w2.alloc (.cells #[.int .i64 x1.id.1, .int .i64 x1.id.2, .slice D1 d1 c1, strV x1.txt, .slice E1 m1 k1] 45)).alloc (.cells #[.int .i64 y1.id.1, .int .i64 y1.id.2, .slice D2 dn c2, strV y1.txt, .slice E2 m k2] 45)) := two_box _ _ _
      simp only [World.size_alloc] at b4
      generalize ((w2.alloc (.cells #[.int .i64 x1.id.1, .int .i64 x1.id.2, .slice D1 d1 c1, strV x1.txt, .slice E1 m1 k1] 45)).alloc (.cells #[.int .i64 y1.id.1, .int .i64 y1.id.2, .slice D2 dn c2, strV y1.txt, .slice E2 m k2] 45)) = w4 at b3 b4 hb4 ⊢
      have hw4 := hb4.size
      have HBB := Lib.hid (HI.out.bb.below HB2'.out HI.out.bb.lt); have HBF := Lib.hid (HI.out.bf.below HB2'.out HI.out.bf.lt)
      generalize hz2 : w2.heap.size = z2 at b3 b4 hw4 ⊢
      have hz0 : g + 1 < z2 := by rw [← hz2]; exact HBB.out.lt
      have HB4 := Lib.hid hb4
      have k4 := HBB.out.below hb4 HBB.out.lt
      have HSB : Hid (∀ Y : World, Blk Y (g + 1) 22 #[.slice (some ⟨g, 0, none⟩) nv nv] → Blk Y z2 45 #[.int .i64 x1.id.1, .int .i64 x1.id.2, .slice D1 d1 c1, strV x1.txt, .slice E1 m1 k1] → Blk Y (z2 + 1) 45 #[.int .i64 y1.id.1, .int .i64 y1.id.2, .slice D2 dn c2, strV y1.txt, .slice E2 m k2] → Y.cell? ⟨g + 1, 0, none⟩ = some (.slice (some ⟨g, 0, none⟩) nv nv) ∧ Y.cell? ⟨z2, 0, none⟩ = some (.int .i64 x1.id.1) ∧ Y.cell? ⟨z2, 1, none⟩ = some (.int .i64 x1.id.2) ∧ Y.cell? ⟨z2, 2, none⟩ = some (.slice D1 d1 c1) ∧ Y.cell? ⟨z2, 3, none⟩ = some (strV x1.txt) ∧ Y.cell? ⟨z2, 4, none⟩ = some (.slice E1 m1 k1) ∧ Y.cell? ⟨z2 + 1, 0, none⟩ = some (.int .i64 y1.id.1) ∧ Y.cell? ⟨z2 + 1, 1, none⟩ = some (.int .i64 y1.id.2) ∧ Y.cell? ⟨z2 + 1, 2, none⟩ = some (.slice D2 dn c2) ∧ Y.cell? ⟨z2 + 1, 3, none⟩ = some (strV y1.txt) ∧ Y.cell? ⟨z2 + 1, 4, none⟩ = some (.slice E2 m k2)) := Lib.hid (fun Y h1 h2 h3 => ⟨h1.cell 0 rfl, h2.cell 0 rfl, h2.cell 1 rfl, h2.cell 2 rfl, h2.cell 3 rfl, h2.cell 4 rfl, h3.cell 0 rfl, h3.cell 1 rfl, h3.cell 2 rfl, h3.cell 3 rfl, h3.cell 4 rfl⟩)
      have hfg := HI.out.pos.2
      have STEP := Lib.hid (uv_step HI.out HB2'.out hb4 HN1.out HN2.out HPL.out HLQ.out HSM.out)
      have HK6 := Lib.hid (blk_row5 k4 (g := g) (by omega) i (.int .i64 x1.id.1) (.int .i64 x1.id.2) (.slice D1 d1 c1) (strV x1.txt) (.slice E1 m1 k1))
      have HX6 := Lib.hid (blk_row5 b3 (g := g) (by omega) i (.int .i64 x1.id.1) (.int .i64 x1.id.2) (.slice D1 d1 c1) (strV x1.txt) (.slice E1 m1 k1))
      have HY6 := Lib.hid (blk_row5 b4 (g := g) (by omega) i (.int .i64 x1.id.1) (.int .i64 x1.id.2) (.slice D1 d1 c1) (strV x1.txt) (.slice E1 m1 k1))
      obtain ⟨kk0, e0, e1, e2, e3, e4, yy0, yy1, yy2, yy3, yy4⟩ := HSB.out w4 k4 b3 b4
      have hrow4 := HI.out.row.below (HB2'.out.trans (hb4.mono HB2'.out.size))
      obtain ⟨_, _, _, _, _, _, c0, c1', c2', c3', c4', cf, _⟩ := hrow4.elem (k := i) (x := noN) (by rw [List.length_append, List.length_replicate]; exact HI.out.pl) (by rw [List.getElem?_append_left (by simp), List.getElem?_replicate, if_pos (by omega)])
      have f0 := cf (i * 5); have f1 := cf (i * 5 + 1); have f2 := cf (i * 5 + 2); have f3 := cf (i * 5 + 3); have f4 := cf (i * 5 + 4)
      have hin : (i : Int) < (nv : Int) := by omega
      have hg4 : g < w4.heap.size := by omega
      clear k4 b3 b4 hb4 hrow4 cf
      refine round_held (S := fun Y : World => Y.cell? ⟨g + 1, 0, none⟩ = some (.slice (some ⟨g, 0, none⟩) nv nv) ∧ Y.cell? ⟨z2, 0, none⟩ = some (.int .i64 x1.id.1) ∧ Y.cell? ⟨z2, 1, none⟩ = some (.int .i64 x1.id.2) ∧ Y.cell? ⟨z2, 2, none⟩ = some (.slice D1 d1 c1) ∧ Y.cell? ⟨z2, 3, none⟩ = some (strV x1.txt) ∧ Y.cell? ⟨z2, 4, none⟩ = some (.slice E1 m1 k1) ∧ Y.cell? ⟨z2 + 1, 0, none⟩ = some (.int .i64 y1.id.1) ∧ Y.cell? ⟨z2 + 1, 1, none⟩ = some (.int .i64 y1.id.2) ∧ Y.cell? ⟨z2 + 1, 2, none⟩ = some (.slice D2 dn c2) ∧ Y.cell? ⟨z2 + 1, 3, none⟩ = some (strV y1.txt) ∧ Y.cell? ⟨z2 + 1, 4, none⟩ = some (.slice E2 m k2)) (by kernel_rfl) (by kernel_rfl) ?hq ?hS (fun hS0 => ?_)
      case hq => rintro ⟨_, _, h⟩; exact h
      case hS => exact ⟨kk0, e0, e1, e2, e3, e4, yy0, yy1, yy2, yy3, yy4⟩
      refine wpAnyH_take (i := 0) (v := ?_) rfl (by kernel_rfl) (by kernel_rfl) (by kernel_rfl) (fun _ _ _ h => h) (Or.inl ⟨by rfl, ?_⟩) hS0 ?_
      rotate_left
      · intro Y hY
        obtain ⟨s0, s1, s2, s3, s4, s5, s6, s7, s8, s9, s10⟩ := hY
        go_simp
        try with_reducible rfl
      simp only [Act.put, List.getElem_toArray, List.getElem_cons_succ, List.getElem_cons_zero, List.setIfInBounds_toArray, List.set_cons_succ, List.set_cons_zero]
      refine wpAnyH_take (i := 1) (v := ?_) rfl (by kernel_rfl) (by kernel_rfl) (by kernel_rfl) (fun _ _ _ h => h) (Or.inl ⟨by rfl, ?_⟩) hS0 ?_
      rotate_left
      · intro Y hY
        obtain ⟨s0, s1, s2, s3, s4, s5, s6, s7, s8, s9, s10⟩ := hY
        go_simp
        try with_reducible rfl
      simp only [Act.put, List.getElem_toArray, List.getElem_cons_succ, List.getElem_cons_zero, List.setIfInBounds_toArray, List.set_cons_succ, List.set_cons_zero]
      refine wpAnyH_take (i := 2) (v := ?_) rfl (by kernel_rfl) (by kernel_rfl) (by kernel_rfl) (fun _ _ _ h => h) (Or.inl ⟨by rfl, ?_⟩) hS0 ?_
      rotate_left
      · intro Y hY
        obtain ⟨s0, s1, s2, s3, s4, s5, s6, s7, s8, s9, s10⟩ := hY
        go_simp
        try with_reducible rfl
      simp only [Act.put, List.getElem_toArray, List.getElem_cons_succ, List.getElem_cons_zero, List.setIfInBounds_toArray, List.set_cons_succ, List.set_cons_zero]
      refine wpAnyH_take (i := 3) (v := ?_) rfl (by kernel_rfl) (by kernel_rfl) (by kernel_rfl) (fun _ _ _ h => h) (Or.inl ⟨by rfl, ?_⟩) hS0 ?_
      rotate_left
      · intro Y hY
        obtain ⟨s0, s1, s2, s3, s4, s5, s6, s7, s8, s9, s10⟩ := hY
        go_simp
        try with_reducible rfl
      simp only [Act.put, List.getElem_toArray, List.getElem_cons_succ, List.getElem_cons_zero, List.setIfInBounds_toArray, List.set_cons_succ, List.set_cons_zero]
      refine wpAnyH_take (i := 4) (v := ?_) rfl (by kernel_rfl) (by kernel_rfl) (by kernel_rfl) (fun _ _ _ h => h) (Or.inl ⟨by rfl, ?_⟩) hS0 ?_
      rotate_left
      · intro Y hY
        obtain ⟨s0, s1, s2, s3, s4, s5, s6, s7, s8, s9, s10⟩ := hY
        go_simp
        try with_reducible rfl
      simp only [Act.put, List.getElem_toArray, List.getElem_cons_succ, List.getElem_cons_zero, List.setIfInBounds_toArray, List.set_cons_succ, List.set_cons_zero]
      refine wpAnyH_ready (rs := [5]) (by kernel_rfl) (by simp) ?_
      refine AllReadyH.cons rfl (fun K1 hK => ?_) AllReadyH.nil
      go_simp
      obtain ⟨t1, t2, t3, t4⟩ := STEP.out
      clear hS0 kk0 e0 e1 e2 e3 e4 yy0 yy1 yy2 yy3 yy4 c0 c1' c2' c3' c4' f0 f1 f2 f3 f4 hg4 STEP
      generalize (World.setCell (World.setCell (World.setCell (World.setCell (World.setCell w4 ⟨g, i * 5, none⟩ (.int .i64 x1.id.1)) ⟨g, i * 5 + 1, none⟩ (.int .i64 x1.id.2)) ⟨g, i * 5 + 2, none⟩ (.slice D1 d1 c1)) ⟨g, i * 5 + 3, none⟩ (strV x1.txt)) ⟨g, i * 5 + 4, none⟩ (.slice E1 m1 k1)) = w6 at t1 t2 t3 t4 HK6 HX6 HY6 hK ⊢
      refine hK.out _ _ (HSB.out w6.drew (HK6.out.drewN 1) (HX6.out.drewN 1) (HY6.out.drewN 1)) (fun hS1 => ?_)
      clear hK K1
      have q0 := t4.cell 0 (u := .int .i64 x.id.1) rfl; have q1 := t4.cell 1 (u := .int .i64 x.id.2) rfl; have q2 := t4.cell 2 (u := .slice Dx dn dcx) rfl; have q3 := t4.cell 3 (u := strV x.txt) rfl; have q4 := t4.cell 4 (u := .slice Ex m kx) rfl; have f0 := t4.frozen 0; have f1 := t4.frozen 1; have f2 := t4.frozen 2; have f3 := t4.frozen 3; have f4 := t4.frozen 4; have hqlt := t4.lt
      have T1 := Lib.hid t1; have T2 := Lib.hid t2; have T3 := Lib.hid t3
      have hk9 := blk_set5 HK6.out (g := F) (by omega) (.int .i64 y1.id.1) (.int .i64 y1.id.2) (.slice D2 dn c2) (strV y1.txt) (.slice E2 m k2)
      have hx9 := blk_set5 HX6.out (g := F) (by omega) (.int .i64 y1.id.1) (.int .i64 y1.id.2) (.slice D2 dn c2) (strV y1.txt) (.slice E2 m k2)
      have hy9 := blk_set5 HY6.out (g := F) (by omega) (.int .i64 y1.id.1) (.int .i64 y1.id.2) (.slice D2 dn c2) (strV y1.txt) (.slice E2 m k2)
      clear t1 t2 t3 t4
      refine wpAnyH_ready (rs := [6]) (by kernel_rfl) (by simp) ?_
      refine AllReadyH.cons rfl (fun K1 hK => ?_) AllReadyH.nil
      go_simp
      clear q0 q1 q2 q3 q4 f0 f1 f2 f3 f4 hqlt
      generalize (World.setCell (World.setCell (World.setCell (World.setCell (World.setCell w6 ⟨F, 0, none⟩ (.int .i64 y1.id.1)) ⟨F, 1, none⟩ (.int .i64 y1.id.2)) ⟨F, 2, none⟩ (.slice D2 dn c2)) ⟨F, 3, none⟩ (strV y1.txt)) ⟨F, 4, none⟩ (.slice E2 m k2)) = w9 at hk9 hx9 hy9 T1 T2 T3 hK ⊢
      refine hK.out _ _ (HSB.out w9.drew (hk9.drewN 1) (hx9.drewN 1) (hy9.drewN 1)) (fun _ => wpAnyH_done (by kernel_rfl) ?_ _)
      clear hK K1 hS1
      have hj : nv - (pre ++ [i]).length = i := by rw [List.length_append, List.length_singleton]; omega
      have hd : Below w9.heap.size w9 w9.drew := below_drewN (Below.refl _ _) 1
      refine ⟨(T2.out _).trans (keepsFrom_below _ hd), ⟨fun v hv => T3.out _ v (by omega) (by omega) hv, fun _ => cells5_below (cells5_rd (RdN.below HRD.out T1.out.fr) HLN.out) hd⟩, y1, x1 :: post, D2, c2, E2, k2, ?_⟩
      rw [hj]
      exact T1.out.mv hd
  case done =>
    rintro E9 W9 hE hI hK
    obtain ⟨x, post, Dx, dcx, Ex, kx, hI⟩ := hI
    rw [dn_length, Nat.sub_self] at hI
    have hbf := hI.bf; have hbb := hI.bb
    have hr0 := HB1.out.below hI.fr HB1.out.lt; have hr2 := HB2.out.below hI.fr HB2.out.lt; have hkb := HK1.out.below hI.fr HK1.out.lt
    have q0 := hbf.cell 0 (u := .int .i64 x.id.1) rfl; have q1 := hbf.cell 1 (u := .int .i64 x.id.2) rfl; have q2 := hbf.cell 2 (u := .slice Dx dn dcx) rfl; have q3 := hbf.cell 3 (u := strV x.txt) rfl; have q4 := hbf.cell 4 (u := .slice Ex m kx) rfl
    have bb0 := hbb.cell 0 (u := .slice (some ⟨g, 0, none⟩) nv nv) rfl
    have r0 := hr0.cell 0 (u := .int .i64 0) rfl; have r1 := hr0.cell 1 (u := .int .i64 0) rfl; have r2 := hr0.cell 2 (u := .slice none 0 0) rfl; have r3 := hr0.cell 3 (u := .string ⟨#[]⟩) rfl; have r4 := hr0.cell 4 (u := .slice none 0 0) rfl; have f0 := hr0.frozen 0; have f1 := hr0.frozen 1; have f2 := hr0.frozen 2; have f3 := hr0.frozen 3; have f4 := hr0.frozen 4
    have t0 := hr2.cell 0 (u := .bool false) rfl; have h0 := hr2.frozen 0
    have kk0 := hkb.cell 0 rfl; have kf := hkb.frozen 0
    have hlt0 := hbf.lt; have hlt1 := hr0.lt; have hlt2 := hr2.lt; have hltz := Nat.lt_of_succ_lt hr0.lt; have hltb := hbb.lt; have hkl := hkb.lt
    have hne1 : ¬ F = K := by have := HKZ.out; omega
    have hne2 : ¬ K = z + 1 := by have := HKZ.out; omega
    have hne5 : ¬ K = z + 1 + 1 := by have := HKZ.out; omega
    have hne6 : ¬ z + 1 = K := by have := HKZ.out; omega
    have hne7 : ¬ z + 1 + 1 = K := by have := HKZ.out; omega
    have hne3 : ¬ F = z + 1 := by omega
    have hne4 : ¬ g + 1 = K := by have := HKZ.out; have := hI.pos; omega
    have HI := Lib.hid hI
    have HD := Lib.hid (uv_done hI HR1.out HK1.out HKZ.out (.inl HRK.out) (.inr (.inr (.inl rfl))) (.inr (.inr (.inr rfl))) HZ.out HS1.out HBA.out HB1.out HB2.out (show w1.heap.size ≤ E9 by have := HSZ.out; have := HS1.out; omega) hK)
    clear hI hbf hbb hr0 hr2 hkb
    gi_wp2
    obtain ⟨d1, d2, d3, d4, d5, d6, d7⟩ := HD.out
    clear bb0 q0 q1 q2 q3 q4 r0 r1 r2 r3 r4 f0 f1 f2 f3 f4 t0 h0 kk0 kf hlt0 hlt1 hlt2 hltz hltb hkl hK HD
    refine ⟨by simp, .inl ⟨_, _, rfl, run_takeDeferred d1, ?_⟩⟩
    clear d1
    generalize (World.putObj (World.setCell (World.setCell (World.setCell (World.setCell (World.setCell (World.setCell (World.setCell W9 ⟨K, 0, none⟩ (.slice (some ⟨g, 0, none⟩) nv nv)) ⟨z + 1, 0, none⟩ (.int .i64 x.id.1)) ⟨z + 1, 1, none⟩ (.int .i64 x.id.2)) ⟨z + 1, 2, none⟩ (.slice Dx dn dcx)) ⟨z + 1, 3, none⟩ (strV x.txt)) ⟨z + 1, 4, none⟩ (.slice Ex m kx)) ⟨z + 1 + 1, 0, none⟩ (.bool true)) E9 (.deferred none)) = Wf at *
    have u0 := d2.cell 0 (u := .int .i64 x.id.1) rfl; have u1 := d2.cell 1 (u := .int .i64 x.id.2) rfl; have u2 := d2.cell 2 (u := .slice Dx dn dcx) rfl; have u3 := d2.cell 3 (u := strV x.txt) rfl; have u4 := d2.cell 4 (u := .slice Ex m kx) rfl; have z0 := d3.cell 0 (u := .bool true) rfl
    refine ⟨.tuple #[.agg #[.int .i64 x.id.1, .int .i64 x.id.2, .slice Dx dn dcx, strV x.txt, .slice Ex m kx], .bool true], by simp [results, Try.results36, go_sem, u0, u1, u2, u3, u4, z0], ?_⟩
    have he := HI.out.eq
    rw [List.drop_zero] at he
    have hm : ((undN p gl.reverse).map fun z => (z.2, z.1.reverse)) = some (x, post) := by rw [he]; simp
    rw [hm]
    exact ⟨Dx, dn, dcx, Ex, m, kx, _, rfl, d4.mono fun b hb => ⟨hb.1, fun e => hb.2.1 (.inl e), hb.2.2⟩, d5.less (fun b hb => .inl hb), d6, d7⟩
  case stop =>
    rintro E9 c' pre post W9 hE hpp ⟨rfl, ho, r0, r2, r3, r4, r5⟩ hK
    gi_wp2
    refine ⟨by simp, .inl ⟨_, _, rfl, run_takeDeferred hK, ?_⟩⟩
    have hpg := grownBy_putObj' W9 E9 (.deferred none)
    have hpr : ∀ r, some E9 = some r → ∃ o : Obj, W9.heap[r]? = some o ∧ o.isCells = false := fun r e => by injection e with e; subst e; exact ⟨_, hK, rfl⟩
    have bp : ∀ {b : Nat} {t : TypeId} {cs : Array Value}, Blk W9 b t cs → Blk (W9.putObj E9 (.deferred none)) b t cs := fun {b t cs} h => h.gr hpg (fun e => by
      injection e with e
      subst e
      rw [show W9.heap[b]? = _ from h] at hK
      cases hK)
    have d2 := bp r0; have d3 := bp r2; have d6 := bp r4
    have d5 := r3.plain hpg hpr (fun r e => by injection e with e; have := HROW.out.bw.size; have := HZ.out; have := HSZ.out; omega)
    have d7 := r5.trans (mine_grown (R := fun b => b = E9) hpg (fun j e => by injection e with e; exact e.symm)) (fun b e => .inr (by have := HZ.out; have := HSZ.out; omega))
    clear hK r0 r2 r3 r4 r5 bp hpr hpg
    generalize (World.putObj W9 E9 (.deferred none)) = Wf at *
    have u0 := d2.cell 0 (u := .int .i64 0) rfl; have u1 := d2.cell 1 (u := .int .i64 0) rfl; have u2 := d2.cell 2 (u := .slice none 0 0) rfl; have u3 := d2.cell 3 (u := .string ⟨#[]⟩) rfl; have u4 := d2.cell 4 (u := .slice none 0 0) rfl; have z0 := d3.cell 0 (u := .bool false) rfl
    refine ⟨.tuple #[.agg #[.int .i64 0, .int .i64 0, .slice none 0 0, .string ⟨#[]⟩, .slice none 0 0], .bool false], by simp [results, Try.results36, go_sem, u0, u1, u2, u3, u4, z0], ?_⟩
    rw [ho]
    exact ⟨none, 0, 0, none, 0, 0, _, rfl, ng_no _ _, d5.less (fun b hb => .inl hb), d6, d7⟩

end Bb
end Go.Proofs.Ytdnkinajbebkoaa

set_option maxRecDepth 100000
namespace Go.Proofs.Ytdnkinajbebkoaa
open Go.RowKit
set_option linter.unusedVariables false
set_option linter.unusedSimpArgs false
namespace Bb
open Tx Df Sq Hk Tr Pr Fl Pn Tg

/-- The first k, and the last k, have changed places. -/
def RevK (l : List Nm) (k : Nat) (cur : List Nm) : Prop := cur.length = l.length ∧ ∀ i, i < l.length → cur[i]? = if i < k ∨ l.length ≤ i + k then l[l.length - 1 - i]? else l[i]?
theorem revK_zero (l : List Nm) : RevK l 0 l := ⟨rfl, fun i hi => by rw [if_neg (by omega)]⟩
theorem revK_end {l cur : List Nm} {k : Nat} (h : RevK l k cur) (hk : l.length ≤ 2 * k + 1) : cur = l.reverse := by
  refine List.ext_getElem? fun i => ?_
  by_cases hi : i < l.length
  · rw [h.2 i hi, List.getElem?_reverse hi]
    split
    · rfl
    · rw [show l.length - 1 - i = i by omega]
  · rw [List.getElem?_eq_none (by rw [h.1]; omega), List.getElem?_eq_none (by rw [List.length_reverse]; omega)]
theorem revK_step {l cur : List Nm} {k j : Nat} {x y : Nm} (h : RevK l k cur) (hj : j + k + 1 = l.length) (hkj : k < j) (hx : cur[k]? = some x) (hy : cur[j]? = some y) : RevK l (k + 1) ((cur.set k y).set j x) := by
  refine ⟨by rw [List.length_set, List.length_set]; exact h.1, fun i hi => ?_⟩
  have ex := h.2 k (by omega)
  have ey := h.2 j (by omega)
  rw [if_neg (by omega), hx] at ex
  rw [if_neg (by omega), hy] at ey
  by_cases h1 : i = j
  · subst h1
    rw [List.getElem?_set_self (by rw [List.length_set, h.1]; exact hi), if_pos (by omega), show l.length - 1 - i = k by omega]
    exact ex
  · rw [List.getElem?_set_ne (fun e => h1 e.symm)]
    by_cases h2 : i = k
    · subst h2
      rw [List.getElem?_set_self (by rw [h.1]; exact hi), if_pos (by omega), show l.length - 1 - i = j by omega]
      exact ey
    · rw [List.getElem?_set_ne (fun e => h2 e.symm), h.2 i hi]
      by_cases h3 : i < k ∨ l.length ≤ i + k
      · rw [if_pos h3, if_pos (by omega)]
      · rw [if_neg h3, if_neg (by omega)]

theorem grown_row5 (W : World) (g k : Nat) (v0 v1 v2 v3 v4 : Value) : W.grownBy (((((W.setCell ⟨g, k * 5, none⟩ v0).setCell ⟨g, k * 5 + 1, none⟩ v1).setCell ⟨g, k * 5 + 2, none⟩ v2).setCell ⟨g, k * 5 + 3, none⟩ v3).setCell ⟨g, k * 5 + 4, none⟩ v4) (some g) := by
  have t : ∀ {X : World} (j : Nat) (v : Value), W.grownBy X (some g) → W.grownBy (X.setCell ⟨g, j, none⟩ v) (some g) := fun {X} j v h => Rg.grow_trans h (grownBy_set X g j v) (fun i e => .inr e)
  exact t _ _ (t _ _ (t _ _ (t _ _ (grownBy_set W g _ _))))
def RevEnd (w : World) (S : Nat → Prop) (base : Nat) (v : Value) (l : List Nm) (e : Ending) (w' : World) : Prop := e = .returned (.tuple #[]) ∧ Tg.OwnT w' S base v l.reverse ∧ w.grownBy w' v.ownBlock

set_option maxRecDepth 100000 in
set_option maxHeartbeats 4000000 in
theorem ReverseC (S : Nat → Prop) (base : Nat) (v : Value) (l : List Nm) (w : World) (hl : l.length ≤ 1000) (hS : ∀ b, S b → some b ≠ v.ownBlock) (h : Tg.OwnT w S base v l) :
    Calls Try.prog 37 #[v] w (RevEnd w S base v l) := by
  obtain ⟨A, c, rfl, hc⟩ := Tg.ownT_slice h
  obtain ⟨n, hn⟩ : ∃ n, l.length = n := ⟨_, rfl⟩
  rw [hn] at h hc hl hS ⊢
  have HN := Lib.hid hn; have HH := Lib.hid h; have HS := Lib.hid hS
  clear hn h hc hS
  go_enter Try.func37, Try.ntmps37
  go_wp2_with fail
  go_loopw [2, 3] (fun i j wr => ∃ (k : Nat) (cur : List Nm), 2 * k ≤ n ∧ i = .int .i64 (k : Int) ∧ j = .int .i64 ((n : Int) - 1 - (k : Int)) ∧ RevK l k cur ∧ Tg.OwnT wr S base (.slice A n c) cur ∧ w.grownBy wr (Value.slice A n c).ownBlock) (fun i _ _ => n - (intOf i).toNat)
  case atStart => exact ⟨0, l, by omega, rfl, by go_num, revK_zero l, HH.out, ⟨rfl, rfl, rfl, Nat.le_refl _, fun _ _ _ => rfl⟩⟩
  case round =>
    obtain ⟨k, cur, hk, rfl, rfl, hcur, hrow, hgr⟩ := hrel
    have HC := Lib.hid hcur; have HR := Lib.hid hrow; have HG := Lib.hid hgr
    clear hcur hrow hgr
    by_cases hlt : 2 * k + 1 < n
    · obtain ⟨j, hj⟩ : ∃ j : Nat, (n : Int) - 1 - (k : Int) = (j : Int) := ⟨n - 1 - k, by omega⟩
      have hkj : k < j := by omega
      have hjn : j < n := by omega
      have hki : (k : Int) < (j : Int) := by omega
      have hki2 : (k : Int) < (n : Int) := by omega
      have hji2 : (j : Int) < (n : Int) := by omega
      have HCL : Hid (cur.length = n) := Lib.hid (HC.out.1.trans HN.out)
      obtain ⟨g, cap, hvv, hbg, hgl⟩ := Tg.ownT_addr HR.out (by rw [HCL.out]; omega)
      injection hvv with ha hb hc
      subst ha hc
      clear hb
      obtain ⟨x, hx⟩ : ∃ x, cur[k]? = some x := ⟨_, List.getElem?_eq_getElem (by rw [HCL.out]; omega)⟩
      obtain ⟨y, hy⟩ : ∃ y, cur[j]? = some y := ⟨_, List.getElem?_eq_getElem (by rw [HCL.out]; omega)⟩
      obtain ⟨D, dn, dc, E, m, e, x0, x1, x2, x3, x4, hf, hnx⟩ := HR.out.elem HCL.out hx
      obtain ⟨D', dn', dc', E', m', e', y0, y1, y2, y3, y4, _, hny⟩ := HR.out.elem HCL.out hy
      have HX := Lib.hid hx; have HY := Lib.hid hy; have HNX := Lib.hid hnx; have HNY := Lib.hid hny
      have f0 := hf (k * 5); have f1 := hf (k * 5 + 1); have f2 := hf (k * 5 + 2); have f3 := hf (k * 5 + 3); have f4 := hf (k * 5 + 4)
      have g0 := hf (j * 5); have g1 := hf (j * 5 + 1); have g2 := hf (j * 5 + 2); have g3 := hf (j * 5 + 3); have g4 := hf (j * 5 + 4)
      clear hx hy hnx hny hf
      rw [hj]
      go_wp2_with fail
      go_region
      have hSg : ¬ S g := fun h => HS.out g h rfl
      have r6 := HR.out.store (k := k) HCL.out hSg HNY.out
      have n6 := HNX.out.to_ ((alike_row5 wr g k (.int .i64 y.id.1) (.int .i64 y.id.2) (.slice D' dn' dc') (strV y.txt) (.slice E' m' e')).mono fun b hb e => hSg (e ▸ hb))
      have q6 := Rg.grow_trans HG.out (grown_row5 wr g k (.int .i64 y.id.1) (.int .i64 y.id.2) (.slice D' dn' dc') (strV y.txt) (.slice E' m' e')) (fun i e => .inr e)
      clear x0 x1 x2 x3 x4 y0 y1 y2 y3 y4 f0 f1 f2 f3 f4 g0 g1 g2 g3 g4
      generalize (World.setCell (World.setCell (World.setCell (World.setCell (World.setCell wr ⟨g, k * 5, none⟩ (.int .i64 y.id.1)) ⟨g, k * 5 + 1, none⟩ (.int .i64 y.id.2)) ⟨g, k * 5 + 2, none⟩ (.slice D' dn' dc')) ⟨g, k * 5 + 3, none⟩ (strV y.txt)) ⟨g, k * 5 + 4, none⟩ (.slice E' m' e')) = w6 at *
      have r9 := r6.store (k := j) (by rw [List.length_set]; exact HCL.out) hSg n6
      have q9 := Rg.grow_trans q6 (grown_row5 w6 g j (.int .i64 x.id.1) (.int .i64 x.id.2) (.slice D dn dc) (strV x.txt) (.slice E m e)) (fun i e => .inr e)
      generalize (World.setCell (World.setCell (World.setCell (World.setCell (World.setCell w6 ⟨g, j * 5, none⟩ (.int .i64 x.id.1)) ⟨g, j * 5 + 1, none⟩ (.int .i64 x.id.2)) ⟨g, j * 5 + 2, none⟩ (.slice D dn dc)) ⟨g, j * 5 + 3, none⟩ (strV x.txt)) ⟨g, j * 5 + 4, none⟩ (.slice E m e)) = w9 at *
      have r10 := r9.below (below_drewN (Below.refl _ _) 1)
      have q10 := gr_drewN q9 1
      have hi1 : (k : Int) + 1 ≤ 1000 := by omega
      go_wp2_with fail
      go_roundw
      case rel => exact ⟨k + 1, _, by omega, by go_num, by first | (congr 1; omega) | (go_num), revK_step HC.out (by rw [HN.out]; omega) hkj HX.out HY.out, r10, q10⟩
      case measure => simp [intOf]; omega
    · have hki : ¬ (k : Int) < (n : Int) - 1 - (k : Int) := by omega
      go_wp2_with fail
      go_end0
      have hrv := revK_end HC.out (by rw [HN.out]; omega)
      exact ⟨rfl, hrv ▸ HR.out, HG.out⟩

end Bb
end Go.Proofs.Ytdnkinajbebkoaa

set_option maxRecDepth 100000
namespace Go.Proofs.Ytdnkinajbebkoaa
open Go.RowKit Go.Shelf
set_option linter.unusedVariables false
set_option linter.unusedSimpArgs false
namespace Bb
open Tx Df Sq Hk Tr Pr Rg Fl Pn Tg

theorem up_full {l : List Nm} {n : Nat} (hn : l.length = n) : ∀ k i : Nat, (List.range' 0 n)[k]? = some i → k < n ∧ l[k]? = l[i]? := fun k i h => by
  obtain ⟨hk, e⟩ := List.getElem?_eq_some_iff.1 h
  rw [List.length_range'] at hk
  rw [List.getElem_range'] at e
  have e : k = i := by omega
  exact ⟨hk, by rw [e]⟩
theorem dn_full {l : List Nm} {n : Nat} (hn : l.length = n) : ∀ k i : Nat, (dn n)[k]? = some i → k < n ∧ l.reverse[k]? = l[i]? := fun k i h => by
  have hk : k < n := by
    have := (List.getElem?_eq_some_iff.1 h).1
    rw [dn_length] at this
    exact this
  refine ⟨hk, ?_⟩
  unfold dn at h
  rw [List.getElem?_reverse (by rw [List.length_range]; exact hk), List.length_range, List.getElem?_range (by omega)] at h
  injection h with h
  rw [List.getElem?_reverse (by omega), hn, h]

set_option maxRecDepth 100000 in
set_option maxHeartbeats 4000000 in
theorem PartC (A : Option Addr) (n c : Nat) (l : List Nm) (A' : Option Addr) (n' c' : Nat) (ids : List Id_) (w : World) (hn : l.length = n) (hle : n ≤ 100) (hn' : ids.length = n') (hle' : n' ≤ 1000000) (hall : ∀ p ∈ l, Tg.Lit p) (hR : RdN w w.heap.size A l) (hR' : RdI w w.heap.size A' ids) (s g : List Nm) (ho : partN l ids = (s, g)) :
    Calls Try.prog 12 #[.slice A n c, .slice A' n' c'] w (PartEnd w s g) := by
  have HN := Lib.hid hn; have HN' := Lib.hid hn'; have HALL := Lib.hid hall; have HR := Lib.hid hR; have HR' := Lib.hid hR'; have HO := Lib.hid ho
  have bk := (Blk.new w 58 #[.slice none 0 0]).alloc (.cells #[.slice A n c] 22)
  have bs : Boxed ((w.alloc (.cells #[.slice none 0 0] 58)).alloc (.cells #[.slice A n c] 22)) (w.heap.size + 1) 22 (.slice A n c) := by
    have h := Boxed.new (w.alloc (.cells #[.slice none 0 0] 58)) 22 (.slice A n c)
    rw [World.size_alloc] at h
    exact h
  have hba := two_box w (.cells #[.slice none 0 0] 58) (.cells #[.slice A n c] 22)
  have HBK := Lib.hid bk; have HBS := Lib.hid bs; have HBA := Lib.hid hba
  clear hn hn' hall hR hR' ho bk bs hba
  go_enter Try.func12, Try.ntmps12
  go_wp2_with fail
  refine (callsIn_wide.1 (allN_in 3 A n c _)).mono ?_
  rintro e w' ⟨rfl, rfl⟩
  go_wp2_with fail
  refine (SplitC 52 30 (w.heap.size + 1) w.heap.size A n c l l (List.range' 0 n) A' n' c' ids overN s g w _ (enters_of Try.func52 (by kernel_rfl) rfl) (enters_of Try.func30 (by kernel_rfl) rfl) (fun w5 h1 h2 => allN_gives 3 (w.heap.size + 1) c n A (by omega) w5 h1 h2) (fun R X v u g s D dn dc E m k p hR h hb hp hg hgl hv => AheadC w.heap.size D dn dc E m k p hR h hb hp hg hgl hv) (fun g p x g' h hp hg => over_step h hp hg) HN.out hle (up_full HN.out) HN.out List.length_range' HALL.out HR.out HN'.out hle' HR'.out HBS.out HBA.out HBK.out (Nat.le_refl _) ?_).mono ?_
  · rw [← part_bub]; exact HO.out
  rintro e w9 ⟨v, u, rfl, hrow, hk⟩
  obtain ⟨A1, c1, rfl, _⟩ := Tg.ownT_slice hrow.a
  obtain ⟨A2, c2, rfl, _⟩ := Tg.ownT_slice hrow.b
  have HROW := Lib.hid (fun q => hrow.below (below_drewN (Below.refl w9.heap.size w9) q))
  have kk := hk.cell 0 rfl
  have kl := hk.lt
  clear hrow hk
  go_wp2_with fail
  go_quiet (fail)
  go_wp2_with fail
  go_ret2
  exact (HROW.out _).swap.rows.end_

set_option maxRecDepth 100000 in
set_option maxHeartbeats 4000000 in
theorem PickC (A : Option Addr) (n c : Nat) (l : List Nm) (A' : Option Addr) (n' c' : Nat) (ids : List Id_) (w : World) (hn : l.length = n) (hle : n ≤ 100) (hn' : ids.length = n') (hle' : n' ≤ 1000000) (hall : ∀ p ∈ l, Tg.Lit p) (hR : RdN w w.heap.size A l) (hR' : RdI w w.heap.size A' ids) (s g : List Nm) (ho : pickN ids l = (s, g)) :
    Calls Try.prog 15 #[.slice A n c, .slice A' n' c'] w (PartEnd w s g) := by
  have HN := Lib.hid hn; have HN' := Lib.hid hn'; have HALL := Lib.hid hall; have HR := Lib.hid hR; have HR' := Lib.hid hR'; have HO := Lib.hid ho
  have bk := (Blk.new w 58 #[.slice none 0 0]).alloc (.cells #[.slice A n c] 22)
  have bs : Boxed ((w.alloc (.cells #[.slice none 0 0] 58)).alloc (.cells #[.slice A n c] 22)) (w.heap.size + 1) 22 (.slice A n c) := by
    have h := Boxed.new (w.alloc (.cells #[.slice none 0 0] 58)) 22 (.slice A n c)
    rw [World.size_alloc] at h
    exact h
  have hba := two_box w (.cells #[.slice none 0 0] 58) (.cells #[.slice A n c] 22)
  have HBK := Lib.hid bk; have HBS := Lib.hid bs; have HBA := Lib.hid hba
  clear hn hn' hall hR hR' ho bk bs hba
  go_enter Try.func15, Try.ntmps15
  go_wp2_with fail
  refine (callsIn_wide.1 (backN_in 3 A n c _)).mono ?_
  rintro e w' ⟨rfl, rfl⟩
  go_wp2_with fail
  refine (SplitC 56 36 (w.heap.size + 1) w.heap.size A n c l l.reverse (dn n) A' n' c' ids behN g.reverse s.reverse w _ (enters_of Try.func56 (by kernel_rfl) rfl) (enters_of Try.func36 (by kernel_rfl) rfl) (fun w5 h1 h2 => gives_kp (backN_gives 3 (w.heap.size + 1) c n A (by omega) w5 h1 h2.cells5) (fun W W' h => h.kpN)) (fun R X v u g s D dn dc E m k p hR h hb hp hg hgl hv => BehindC w.heap.size D dn dc E m k p hR h hb hp hg hgl hv) (fun g p x g' h hp hg => beh_step h hp hg) HN.out hle (dn_full HN.out) (by rw [List.length_reverse]; exact HN.out) (dn_length n) HALL.out HR.out HN'.out hle' HR'.out HBS.out HBA.out HBK.out (Nat.le_refl _) ?_).mono ?_
  · rw [pick_bub, HO.out]
  rintro e w9 ⟨v, u, rfl, hrow, hk⟩
  have kk := hk.cell 0 rfl
  have kl := hk.lt
  have HROW := Lib.hid hrow; have HK := Lib.hid hk
  clear hrow hk
  have hsl : s.reverse.length + g.reverse.length = n := by
    have h := pick_len l ids
    rw [HO.out, HN.out] at h
    rw [List.length_reverse, List.length_reverse]; exact h
  go_wp2_with fail
  refine (ReverseC (PR (fun b => b = w.heap.size) w9 v u) w.heap.size v s.reverse w9 (by omega) (fun b hb => hb.2.2.1) HROW.out.a).mono ?_
  rintro e w10 ⟨rfl, ho, hg⟩
  have HROW2 := Lib.hid (HROW.out.app ho hg (fun b e => .inl e))
  have HK2 := Lib.hid (HK.out.gr hg (fun e => HROW.out.na _ e.symm rfl))
  clear ho hg kk kl
  have kk := HK2.out.cell 0 rfl
  have kl := HK2.out.lt
  go_wp2_with fail
  refine (ReverseC (PR (fun b => b = w.heap.size) w10 u v) w.heap.size u g.reverse w10 (by omega) (fun b hb => hb.2.2.1) HROW2.out.swap.a).mono ?_
  rintro e w11 ⟨rfl, ho, hg⟩
  have hrow3 := (HROW2.out.swap.app ho hg (fun b e => .inl e)).swap
  have hk3 := HK2.out.gr hg (fun e => HROW2.out.nb _ e.symm rfl)
  rw [List.reverse_reverse, List.reverse_reverse] at hrow3
  obtain ⟨A1, c1, rfl, _⟩ := Tg.ownT_slice hrow3.a
  obtain ⟨A2, c2, rfl, _⟩ := Tg.ownT_slice hrow3.b
  have HROW3 := Lib.hid hrow3
  clear ho hg kk kl hrow3
  have kk := hk3.cell 0 rfl
  have kl := hk3.lt
  clear hk3
  go_wp2_with fail
  go_ret2
  exact HROW3.out.rows.end_

set_option maxHeartbeats 2000000 in
theorem IdsC (A : Option Addr) (n c : Nat) (l : List Nm) (w : World) (hn : l.length = n) (hle : n ≤ 10000) (hR : RdN w w.heap.size A l) :
    Calls Try.prog 18 #[.slice A n c] w (IdsEnd w (idsN l)) := by
  have HN := Lib.hid hn; have HR := Lib.hid hR
  clear hn hR
  go_enter Try.func18, Try.ntmps18
  go_wp2_with fail
  go_loopw [3, 8] (fun v i wr => ∃ (k : Nat) (A1 : Option Addr) (m c1 : Nat), k ≤ n ∧ i = .int .i64 (k : Int) ∧ v = .slice A1 m c1 ∧ OwnI wr w.heap.size (.slice A1 m c1) (idsN (l.take k)) ∧ Below w.heap.size w wr) (fun _ i _ => n - (intOf i).toNat)
  case atStart => exact ⟨0, none, 0, 0, Nat.zero_le _, rfl, rfl, ownI_nil _ _, Below.refl _ _⟩
  case round =>
    obtain ⟨k, A1, m, c1, hk, rfl, rfl, hO, hbw⟩ := hrel
    have HBW := Lib.hid hbw; have HO := Lib.hid hO; clear hbw hO
    by_cases hlt : k < n
    · have hki : (k : Int) < (n : Int) := by omega
      obtain ⟨a, p, D, i, j, E, mp, d, rfl, hS, hp, c0, c1', c2, c3, c4, hv⟩ := RdN.elem (RdN.mv HR.out HBW.out) (k := k) (by rw [HN.out]; exact hlt)
      have HP := Lib.hid hp
      have hba := two_box wr (.cells #[.int .i64 p.id.1, .int .i64 p.id.2, .slice D i j, strV p.txt, .slice E mp d] 45) (.cells #[.int .i64 p.id.1, .int .i64 p.id.2] 42)
      have b0 := Blk.new (wr.alloc (.cells #[.int .i64 p.id.1, .int .i64 p.id.2, .slice D i j, strV p.txt, .slice E mp d] 45)) 42 #[.int .i64 p.id.1, .int .i64 p.id.2]
      rw [World.size_alloc] at b0
      have HS1 := Lib.hid (rdI_lone (x := p.id) b0 b0.lt)
      have HO1 := Lib.hid (own_gr HO.out (below_gr_row hba))
      have HB1 := Lib.hid (below_mv HBW.out hba)
      have HL := Lib.hid (show (idsN (l.take k)).length + 1 ≤ 100000 by unfold idsN; rw [List.length_map, List.length_take]; omega)
      clear hv hp hS hba b0
      go_wp2_with (at_builtin; refine wpList_ownI rfl (.tmp 12) (.tmp 15) rfl w.heap.size 1 1 (.slice A1 m c1) (some ⟨wr.heap.size + 1, 0, none⟩) (idsN (l.take k)) [p.id] rfl rfl HO1.out HS1.out rfl HL.out HB1.out.size ?_; intro v' W' ho hg)
      obtain ⟨A9, c9, hv9, _, _⟩ := rdI_own ho
      subst hv9
      refine ⟨⟨k + 1, A9, _, c9, by omega, by go_num, rfl, ?_, HB1.out.grown hg HB1.out.size (fun g e => ownI_ge HO1.out g e)⟩, by simp [intOf]; omega⟩
      rw [ids_take HP.out]
      exact ho
    · have hki : ¬ (k : Int) < (n : Int) := by omega
      go_wp2
      go_ret
      have e : l.take k = l := List.take_of_length_le (by rw [HN.out]; omega)
      have ho := HO.out
      rw [e] at ho
      obtain ⟨A9, c9, e9, h9, h10⟩ := rdI_own ho
      injection e9 with e1 e2 e3
      subst e1 e2 e3
      exact ⟨_, _, _, rfl, rfl, h9, h10, HBW.out⟩

end Bb
end Go.Proofs.Ytdnkinajbebkoaa

set_option maxRecDepth 100000
namespace Go.Proofs.Ytdnkinajbebkoaa
open Go.RowKit
set_option linter.unusedVariables false
set_option linter.unusedSimpArgs false
namespace Bb
open Tx Df Sq Hk Tr Pr Fl Pn Tg

def exC : Ch := ⟨3, [97], [], ⟨0, [], [[120]]⟩⟩
def exS : Nm := ⟨(0, 3), [], [], [exC]⟩
theorem part_ex : partN [exN, exQ, exS] [(0, 1)] = ([exQ], [exN, exS]) := by decide
theorem pick_ex : pickN [(0, 3)] [exN, exQ, exS] = ([exN, exS], [exQ]) := by decide
theorem pg_exC {W : World} {S : Nat → Prop} {b : Nat} (h : Blk W b 9 #[strV [120]]) (hS : S b) : PG W S none 0 0 (some ⟨b, 0, none⟩) 1 1 exC :=
  ⟨rfl, rfl, Nat.le_refl _, Nat.le_refl _, by decide, by decide, .inl rfl, .inr ⟨_, rfl, hS, fun j u hu => by
    cases j with
    | zero => injection hu with hu; subst hu; exact h.cell 0 rfl
    | succ j => simp [exC] at hu⟩, by unfold I64; decide, by unfold I64; decide, by decide, by decide, (fun x hx => by cases hx), (fun x hx => by
      have : x = [120] := by simpa [exC] using hx
      rw [this]; decide)⟩
theorem nv_exS {W : World} {N b : Nat} (h : RdP W (· < N) (some ⟨b, 0, none⟩) [exC]) : NV W N none 0 0 (some ⟨b, 0, none⟩) 1 1 exS :=
  ⟨rfl, Nat.le_refl _, by decide, .inl rfl, by decide, rfl, Nat.le_refl _, by decide, h⟩
theorem lit_ex : ∀ p ∈ [exN, exQ, exS], Tg.Lit p := by
  have h : Lt [exC] := fun x hx => by
    have : x = exC := by simpa using hx
    rw [this]
    decide
  intro p hp
  simp only [List.mem_cons, List.not_mem_nil, or_false] at hp
  rcases hp with rfl | rfl | rfl
  · exact ⟨lt_exN, by decide, by decide⟩
  · exact ⟨lt_exQ, by decide, by decide⟩
  · exact ⟨h, by decide, by decide⟩
/-- Three patches in a block of their own are read as a list. -/
theorem rdN_three {W : World} {b : Nat} {D A D' A' D3 A3 : Option Addr} {dn dc n c dn' dc' n' c' d3 e3 n3 c3 : Nat} {p q r : Nm} (h : Blk W b 45 #[.int .i64 p.id.1, .int .i64 p.id.2, .slice D dn dc, strV p.txt, .slice A n c, .int .i64 q.id.1, .int .i64 q.id.2, .slice D' dn' dc', strV q.txt, .slice A' n' c', .int .i64 r.id.1, .int .i64 r.id.2, .slice D3 d3 e3, strV r.txt, .slice A3 n3 c3])
    (hp : NV W W.heap.size D dn dc A n c p) (hq : NV W W.heap.size D' dn' dc' A' n' c' q) (hr : NV W W.heap.size D3 d3 e3 A3 n3 c3 r) (hb : b < W.heap.size) : RdN W W.heap.size (some ⟨b, 0, none⟩) [p, q, r] :=
  .inr ⟨_, rfl, hb, fun k y hy => by
    have e0 : (⟨b, 0, none⟩ : Addr).add (0 * 5) = ⟨b, 0, none⟩ := rfl
    have e1 : (⟨b, 0, none⟩ : Addr).add (1 * 5) = ⟨b, 5, none⟩ := rfl
    have e2 : (⟨b, 0, none⟩ : Addr).add (2 * 5) = ⟨b, 10, none⟩ := rfl
    match k, hy with
    | 0, hy =>
      injection hy with hy
      subst hy
      exact ⟨by rw [e0]; exact h.cell 0 rfl, by rw [e0]; exact h.cell 1 rfl, by rw [e0]; exact h.cell 3 rfl, D, dn, dc, A, n, c, by rw [e0]; exact h.cell 2 rfl, by rw [e0]; exact h.cell 4 rfl, hp⟩
    | 1, hy =>
      injection hy with hy
      subst hy
      exact ⟨by rw [e1]; exact h.cell 5 rfl, by rw [e1]; exact h.cell 6 rfl, by rw [e1]; exact h.cell 8 rfl, D', dn', dc', A', n', c', by rw [e1]; exact h.cell 7 rfl, by rw [e1]; exact h.cell 9 rfl, hq⟩
    | 2, hy =>
      injection hy with hy
      subst hy
      exact ⟨by rw [e2]; exact h.cell 10 rfl, by rw [e2]; exact h.cell 11 rfl, by rw [e2]; exact h.cell 13 rfl, D3, d3, e3, A3, n3, c3, by rw [e2]; exact h.cell 12 rfl, by rw [e2]; exact h.cell 14 rfl, hr⟩
    | k + 3, hy => simp at hy⟩
theorem blk_five (w : World) (t0 t1 t2 t3 t4 : TypeId) (c0 c1 c2 c3 c4 : Array Value) : let W := ((((w.alloc (.cells c0 t0)).alloc (.cells c1 t1)).alloc (.cells c2 t2)).alloc (.cells c3 t3)).alloc (.cells c4 t4)
    Blk W w.heap.size t0 c0 ∧ Blk W (w.heap.size + 1) t1 c1 ∧ Blk W (w.heap.size + 1 + 1) t2 c2 ∧ Blk W (w.heap.size + 1 + 1 + 1) t3 c3 ∧ Blk W (w.heap.size + 1 + 1 + 1 + 1) t4 c4 ∧ Below w.heap.size w W := by
  intro W
  obtain ⟨b0, b1, b2, b3, hb⟩ := four_blk w t0 t1 t2 t3 c0 c1 c2 c3
  have b4 := Blk.new ((((w.alloc (.cells c0 t0)).alloc (.cells c1 t1)).alloc (.cells c2 t2)).alloc (.cells c3 t3)) t4 c4
  simp only [World.size_alloc] at b4
  exact ⟨b0.alloc _, b1.alloc _, b2.alloc _, b3.alloc _, b4, hb.alloc hb.size _⟩

set_option maxRecDepth 100000 in
set_option maxHeartbeats 4000000 in
theorem awake (w : World) : Calls Try.prog 10 #[] w (BoolEnd w true) := by
  go_enter Try.func10, Try.ntmps10
  go_upto_region 2 with fail
  obtain ⟨b0, b1, b2, b3, b4, hb⟩ := blk_five w 54 54 9 54 45 #[.int .i64 0, strV [97], strV [], .int .i64 0, .slice none 0 0, .slice none 0 0] #[.int .i64 0, strV [98], strV [], .int .i64 0, .slice none 0 0, .slice none 0 0] #[strV [120]] #[.int .i64 3, strV [97], strV [], .int .i64 0, .slice none 0 0, .slice (some ⟨w.heap.size + 1 + 1, 0, none⟩) 1 1]
    #[.int .i64 0, .int .i64 1, .slice none 0 0, strV [], .slice (some ⟨w.heap.size, 0, none⟩) 1 1, .int .i64 0, .int .i64 2, .slice none 0 0, strV [], .slice (some ⟨w.heap.size + 1, 0, none⟩) 1 1, .int .i64 0, .int .i64 3, .slice none 0 0, strV [], .slice (some ⟨w.heap.size + 1 + 1 + 1, 0, none⟩) 1 1]
  generalize (World.alloc (World.alloc (World.alloc (World.alloc (World.alloc w (.cells #[.int .i64 0, strV [97], strV [], .int .i64 0, .slice none 0 0, .slice none 0 0] 54)) (.cells #[.int .i64 0, strV [98], strV [], .int .i64 0, .slice none 0 0, .slice none 0 0] 54)) (.cells #[strV [120]] 9)) (.cells #[.int .i64 3, strV [97], strV [], .int .i64 0, .slice none 0 0, .slice (some ⟨w.heap.size + 1 + 1, 0, none⟩) 1 1] 54))
    (.cells #[.int .i64 0, .int .i64 1, .slice none 0 0, strV [], .slice (some ⟨w.heap.size, 0, none⟩) 1 1, .int .i64 0, .int .i64 2, .slice none 0 0, strV [], .slice (some ⟨w.heap.size + 1, 0, none⟩) 1 1, .int .i64 0, .int .i64 3, .slice none 0 0, strV [], .slice (some ⟨w.heap.size + 1 + 1 + 1, 0, none⟩) 1 1] 45)) = w1 at b0 b1 b2 b3 b4 hb ⊢
  obtain ⟨z, hz⟩ : ∃ z, w.heap.size = z := ⟨_, rfl⟩
  rw [hz] at b0 b1 b2 b3 b4 ⊢
  have RA : RdP w1 (· < w1.heap.size) (some ⟨z, 0, none⟩) [exA] := rdP_lone b0 (pg_ex _ _) b0.lt
  have RB : RdP w1 (· < w1.heap.size) (some ⟨z + 1, 0, none⟩) [exB] := rdP_lone b1 (pg_exB _ _) b1.lt
  have RC : RdP w1 (· < w1.heap.size) (some ⟨z + 1 + 1 + 1, 0, none⟩) [exC] := rdP_lone b3 (pg_exC b2 b2.lt) b3.lt
  have RL := Lib.hid (rdN_three (p := exN) (q := exQ) (r := exS) b4 (nv_ex RA) (nv_exQ RB) (nv_exS RC) b4.lt)
  have HB := Lib.hid hb
  clear b0 b1 b2 b3 b4 hb hz RA RB RC
  go_wp2_with fail
  have hb2 : Below w1.heap.size w1 (w1.alloc (.cells #[.int .i64 0, .int .i64 1] 42)) := (Below.refl _ _).alloc (Nat.le_refl _) _
  have b2 := Blk.new w1 42 #[.int .i64 0, .int .i64 1]
  replace RL := Lib.hid (RdN.mv RL.out hb2); replace HB := Lib.hid (below_mv HB.out hb2)
  clear hb2
  obtain ⟨N, hN⟩ : ∃ N, w1.heap.size = N := ⟨_, rfl⟩
  rw [hN] at b2 ⊢
  clear hN
  generalize (w1.alloc (.cells #[.int .i64 0, .int .i64 1] 42)) = w2 at *
  refine (PartC (some ⟨z + 1 + 1 + 1 + 1, 0, none⟩) 3 3 [exN, exQ, exS] (some ⟨N, 0, none⟩) 1 1 [(0, 1)] w2 rfl (by decide) rfl (by decide) lit_ex RL.out (rdI_lone (x := (0, 1)) b2 b2.lt) [exQ] [exN, exS] part_ex).mono ?_
  rintro e w3 ⟨A1, n1, c1, A2, n2, c2, rfl, hn1, hc1, hr1, hn2, hc2, hr2, hb3⟩
  obtain rfl : 1 = n1 := hn1
  obtain rfl : 2 = n2 := hn2
  have HR1 := Lib.hid hr1
  replace RL := Lib.hid (RdN.mv RL.out hb3); replace HB := Lib.hid (below_mv HB.out hb3)
  clear hr1 hr2 hb3 b2 hc1 hc2
  go_wp2_with fail
  have hb2 : Below w3.heap.size w3 (w3.alloc (.cells #[.int .i64 0, .int .i64 3] 42)) := (Below.refl _ _).alloc (Nat.le_refl _) _
  have b2 := Blk.new w3 42 #[.int .i64 0, .int .i64 3]
  replace RL := Lib.hid (RdN.mv RL.out hb2); replace HR1 := Lib.hid (RdN.mv HR1.out hb2); replace HB := Lib.hid (below_mv HB.out hb2)
  clear hb2
  obtain ⟨M, hM⟩ : ∃ M, w3.heap.size = M := ⟨_, rfl⟩
  rw [hM] at b2 ⊢
  clear hM
  generalize (w3.alloc (.cells #[.int .i64 0, .int .i64 3] 42)) = w4 at *
  refine (PickC (some ⟨z + 1 + 1 + 1 + 1, 0, none⟩) 3 3 [exN, exQ, exS] (some ⟨M, 0, none⟩) 1 1 [(0, 3)] w4 rfl (by decide) rfl (by decide) lit_ex RL.out (rdI_lone (x := (0, 3)) b2 b2.lt) [exN, exS] [exQ] pick_ex).mono ?_
  rintro e w5 ⟨A3, n3, c3, A4, n4, c4, rfl, hn3, hc3, hr3, hn4, hc4, hr4, hb5⟩
  obtain rfl : 2 = n3 := hn3
  obtain rfl : 1 = n4 := hn4
  replace RL := Lib.hid (RdN.mv RL.out hb5); replace HR1 := Lib.hid (RdN.mv HR1.out hb5); replace HB := Lib.hid (below_mv HB.out hb5)
  have HR4 := Lib.hid hr4
  clear hr3 hr4 hb5 b2 hc3 hc4
  obtain ⟨a, q, D, i, j, E, mp, d, rfl, hS, hp, x0, x1, x2, x3, x4, hv⟩ := RdN.elem HR1.out (k := 0) (by decide)
  obtain rfl : exQ = q := Option.some.inj hp
  obtain ⟨a', q', D', i', j', E', mp', d', rfl, hS', hp', y0, y1, y2, y3, y4, hv'⟩ := RdN.elem HR4.out (k := 0) (by decide)
  obtain rfl : exQ = q' := Option.some.inj hp'
  clear x0 x2 x3 x4 y0 y2 y3 y4 hv hv' hp hp'
  rw [Nat.zero_mul, add_zero'] at x1 y1
  have x1 : w5.cell? ⟨a.block, a.off + 1, none⟩ = some (.int .i64 2) := x1
  have y1 : w5.cell? ⟨a'.block, a'.off + 1, none⟩ = some (.int .i64 2) := y1
  go_wp2_with fail
  refine (IdsC (some ⟨z + 1 + 1 + 1 + 1, 0, none⟩) 3 3 [exN, exQ, exS] w5 rfl (by decide) RL.out).mono ?_
  rintro e w6 ⟨A6, n6, c6, rfl, hn6, _, _, hb6⟩
  obtain rfl : 3 = n6 := hn6
  replace HB := Lib.hid (below_mv HB.out hb6)
  clear hb6 x1 y1
  go_wp2_with fail
  go_ret
  exact ⟨rfl, HB.out⟩

end Bb
end Go.Proofs.Ytdnkinajbebkoaa

set_option maxRecDepth 100000
namespace Go.Proofs.Ytdnkinajbebkoaa
open Go.ChangeShapes Go.WideShapes Go.ChangeAt Go.RowKit
set_option linter.unusedVariables false
namespace Bb
open Tx Df Sq Hk Tr Pr Fl Pn Tg

structure IdsArg (w : World) (A : Option Addr) (n c : Nat) (l : List Id_) : Prop where
  len : l.length = n
  cap : n ≤ c
  le : n ≤ maxLen
  rd : RdI w w.heap.size A l
section
variable {H : Type} {enc : TypeId × Value → H} {W : World} {base : Nat} {spare : Nat → Bool} {held : Bool}
theorem ids_in {fuel : Nat} {cs : List Value} {x : DataW H × List MemPlace} {A : Option Addr} {l c : Nat} (h : DataW.trod enc Try.prog W base spare held fuel 23 cs = some x) (hcs : cs = [.slice A l c]) : ∃ t : List Id_, IdsArg W A l c t := by
  subst hcs
  obtain ⟨A', n', c', t, e, h1, h2, h3, h4⟩ := ids_any h
  injection e with e1 e2 e3
  subst e1 e2 e3
  exact ⟨t, h1, h2, h3, h4⟩
end
theorem part_lits {ids : List Id_} : ∀ {l s g : List Nm}, (∀ x ∈ l, Tg.Lit x) → (∀ x ∈ s, Tg.Lit x) → (∀ x ∈ g, Tg.Lit x) → (∀ x ∈ (partG ids l s g).1, Tg.Lit x) ∧ ∀ x ∈ (partG ids l s g).2, Tg.Lit x
  | [], s, g, _, hs, hg => by rw [partG]; exact ⟨hs, hg⟩
  | p :: l, s, g, hl, hs, hg => by
    have hp := hl p (.head _)
    have hl' : ∀ x ∈ l, Tg.Lit x := fun x hx => hl x (.tail _ hx)
    have sn : ∀ {t : List Nm} {x : Nm}, (∀ y ∈ t, Tg.Lit y) → Tg.Lit x → ∀ y ∈ t ++ [x], Tg.Lit y := fun {t x} ht hx y hy => by
      rcases List.mem_append.1 hy with h | h
      · exact ht y h
      · rw [List.mem_singleton.1 h]; exact hx
    rcases partG_cases (ids := ids) (p := p) (l := l) (s := s) (g := g) with ⟨h, _⟩ | ⟨x, g', _, ho, h⟩
    · rw [h]; exact part_lits hl' hs (sn hg hp)
    · rw [h]
      have hx := over_lit (bo := true) (show outO (overN g p) = (x, g') by rw [ho]; rfl) (by rw [ho]; rfl) hg hp
      exact part_lits hl' (sn hs hx.1) hx.2
theorem partN_lits {l s g : List Nm} {ids : List Id_} (h : partN l ids = (s, g)) (hl : ∀ x ∈ l, Tg.Lit x) : (∀ x ∈ s, Tg.Lit x) ∧ ∀ x ∈ g, Tg.Lit x := by
  have := part_lits (ids := ids) hl (s := []) (g := []) (fun x hx => by cases hx) (fun x hx => by cases hx)
  rw [show partG ids l [] [] = (s, g) from h] at this
  exact this
theorem partN_len {l s g : List Nm} {ids : List Id_} {n : Nat} (h : partN l ids = (s, g)) (hn : l.length = n) : s.length + g.length = n := by
  have := part_len l ids
  rw [h] at this
  exact this.trans hn
theorem pick_lits {ids : List Id_} : ∀ {l : List Nm}, (∀ x ∈ l, Tg.Lit x) → (∀ x ∈ (pickN ids l).1, Tg.Lit x) ∧ ∀ x ∈ (pickN ids l).2, Tg.Lit x
  | [], _ => ⟨fun x hx => (by cases hx), fun x hx => (by cases hx)⟩
  | p :: l, hl => by
    have hp := hl p (.head _)
    obtain ⟨h1, h2⟩ := pick_lits (ids := ids) (l := l) (fun x hx => hl x (.tail _ hx))
    rcases pickN_cases (ids := ids) (p := p) (l := l) with ⟨h, _⟩ | ⟨k', r', _, hu, h⟩
    · rw [h]
      exact ⟨fun x hx => by
        rcases List.mem_cons.1 hx with rfl | hx
        · exact hp
        · exact h1 x hx, h2⟩
    · rw [h]
      cases hn : undN p (pickN ids l).1 with
      | none => rw [und_none hn] at hu; cases hu
      | some z =>
        rw [und_some (o := z.1) (q := z.2) hn] at hu
        injection hu with hu
        injection hu with e1 e2
        subst e1 e2
        obtain ⟨l1, l2⟩ := und_lit (o := z.1) (q := z.2) hp h1 hn
        exact ⟨l1, fun x hx => by
          rcases List.mem_append.1 hx with hx | hx
          · rw [List.mem_singleton.1 hx]; exact l2
          · exact h2 x hx⟩
theorem pickN_lits {l s g : List Nm} {ids : List Id_} (h : pickN ids l = (s, g)) (hl : ∀ x ∈ l, Tg.Lit x) : (∀ x ∈ s, Tg.Lit x) ∧ ∀ x ∈ g, Tg.Lit x := by
  have := pick_lits (ids := ids) hl
  rw [h] at this
  exact this
theorem pickN_len {l s g : List Nm} {ids : List Id_} {n : Nat} (h : pickN ids l = (s, g)) (hn : l.length = n) : s.length + g.length = n := by
  have := pick_len l ids
  rw [h] at this
  exact this.trans hn

end Bb
end Go.Proofs.Ytdnkinajbebkoaa

set_option maxRecDepth 100000
namespace Go.Proofs.Ytdnkinajbebkoaa
open Go.RowKit
set_option linter.unusedVariables false
namespace Bb
open Tx Df Sq Hk Tr Pr Fl Pn Tg

/-- All changes of few patches. -/
theorem all_lits : ∀ {l : List Nm}, (∀ x ∈ l, Tg.Lit x) → (allN l).length ≤ 10 * l.length ∧ Lt (allN l)
  | [], _ => ⟨Nat.le_refl _, fun x hx => (by cases hx)⟩
  | p :: l, h => by
    obtain ⟨h1, h2⟩ := all_lits fun x hx => h x (.tail _ hx)
    have hp := h p (.head _)
    rw [allN_cons]
    exact ⟨by rw [List.length_append, List.length_cons]; have := hp.2.1; omega, hp.1.app h2⟩
theorem join_lits {a b : List Nm} {n : Nat} (ha : ∀ x ∈ a, Tg.Lit x) (hb : ∀ x ∈ b, Tg.Lit x) (hn : a.length + b.length = n) : (allN (a ++ b)).length ≤ 10 * n ∧ Lt (allN (a ++ b)) := by
  have := all_lits (l := a ++ b) (fun x hx => (List.mem_append.1 hx).elim (ha x) (hb x))
  rw [List.length_append, hn] at this
  exact this
theorem doN_iff {t u : TR} {l : List Nm} : doN t l = (0, u) ↔ doL dN t l = some u := by
  rw [doL_dN]
  exact doF_some.symm
theorem part_does {t u : TR} {l s g : List Nm} {ids : List Id_} (ht : Up lt t) (h : partN l ids = (s, g)) (hd : doN t l = (0, u)) : doN t (s ++ g) = (0, u) := by
  have h1 := part_same (ids := ids) ht (l := l) (s := []) (g := []) (v := u) (by rw [List.nil_append, List.nil_append]; exact doN_iff.1 hd)
  rw [show partG ids l [] [] = (s, g) from h] at h1
  exact doN_iff.2 h1
theorem pick_does {t u : TR} {l s g : List Nm} {ids : List Id_} (ht : Up lt t) (h : pickN ids l = (s, g)) (hd : doN t l = (0, u)) : doN t (s ++ g) = (0, u) := by
  have h1 := pick_same (ids := ids) ht (doN_iff.1 hd)
  rw [h] at h1
  exact doN_iff.2 h1

end Bb
end Go.Proofs.Ytdnkinajbebkoaa

set_option maxRecDepth 100000
namespace Go.Proofs.Ytdnkinajbebkoaa
open Go.RowKit
set_option linter.unusedVariables false
namespace Fl
open Tx Df Sq Hk Tr Pr

/-- How a tree grows by changes. -/
theorem mostF : ∀ {l : List Ch} {t u : TR} {K L : Nat}, Most t K L → K + l.length ≤ 99990 → L + 300 * l.length ≤ 99000 → Lt l → doF t l = (0, u) → Most u (K + l.length) (L + 300 * l.length)
  | [], t, u, K, L, h, _, _, _, hd => by injection hd with _ hd; subst hd; exact h
  | p :: l, t, u, K, L, h, hK, hL, hl, hd => by
    rw [List.length_cons] at hK hL ⊢
    by_cases h0 : (doP t p).1 = 0
    · have e : doP t p = (0, (doP t p).2) := Prod.ext h0 rfl
      rw [doF_cons_ok e] at hd
      have h1 := h.do (by omega) (by omega) (hl p (.head _)) e
      have h2 := mostF h1 (by omega) (by omega) hl.tail hd
      exact h2.mono (by omega) (by omega)
    · rw [doF_cons_no h0] at hd
      injection hd with hd _
      exact absurd hd h0
theorem doF_no {t u : TR} {l : List Ch} {r : Int} (h : doF t l = (r, u)) (h0 : r ≠ 0) : u = [] := by
  have := doF_none (a := l) (t := t) (by rw [h]; exact h0)
  rw [h] at this
  exact this

theorem smallF {l : List Ch} {t u : TR} {K L : Nat} {r : Int} (h : Most t K L) (hK : K + l.length ≤ 99990) (hL : L + 300 * l.length ≤ 99000) (hl : Lt l) (hd : doF t l = (r, u)) : Small u := by
  by_cases h0 : r = 0
  · subst h0
    exact (mostF h hK hL hl hd).s
  · have := doF_no hd h0
    subst this
    exact ⟨by decide, fun x hx => by cases hx⟩

end Fl
end Go.Proofs.Ytdnkinajbebkoaa

set_option maxRecDepth 100000
namespace Go.Proofs.Ytdnkinajbebkoaa
open Go.RowKit
set_option linter.unusedVariables false
set_option linter.unusedSimpArgs false
namespace Pn
open Tx Df Sq Hk Tr Pr Fl

set_option maxHeartbeats 1000000 in
theorem ApplyN (K L : Nat) (A0 : Option Addr) (n0 c0 : Nat) (A : Option Addr) (n c : Nat) (t : TR) (l : List Nm) (w : World) (R : Int × TR) (ht : Most t K L) (hK : K ≤ 2000) (hL : L ≤ 2000) (hn0 : t.length = n0) (hn : l.length = n) (hle : n ≤ 1000) (hT : (allN l).length ≤ 200) (hl : Lt (allN l)) (hR0 : RdT w w.heap.size A0 t) (hR : RdN w w.heap.size A l) (hD : doN t l = R) :
    Calls Try.prog 22 #[.slice A0 n0 c0, .slice A n c] w (DoEnd w R) := by
  have HR := Lib.hid hR; have HN := Lib.hid hn; have HL := Lib.hid hl; have HT := Lib.hid hT; have HM := Lib.hid ht; have HR0 := Lib.hid hR0; have HN0 := Lib.hid hn0; have HD := Lib.hid hD
  clear hR hn hl hT ht hR0 hn0 hD
  go_enter Try.func22, Try.ntmps22
  go_wp2_with fail
  refine (AllN A n c l w HN.out (by omega) (by have := HT.out; omega) HL.out HR.out).mono ?_
  rintro e w1 ⟨A1, c1, rfl, hc1, hr1, hb1⟩
  obtain ⟨m, hm⟩ : ∃ m, (allN l).length = m := ⟨_, rfl⟩
  rw [hm] at hc1 ⊢
  have HR1 := Lib.hid (hr1.mono fun b (hb : w.heap.size ≤ b ∧ b < w1.heap.size) => hb.2); have HB1 := Lib.hid hb1; have HMM := Lib.hid hm
  clear hc1 hr1 hb1 hm
  go_wp2_with fail
  refine (ApplyL K L A0 n0 c0 A1 m c1 t (allN l) w1 R HM.out (by have := HT.out; have := HMM.out; omega) (by have := HT.out; have := HMM.out; omega) HN0.out HMM.out HL.out (HR0.out.mv HB1.out) HR1.out HD.out).mono ?_
  rintro e w2 ⟨B, k, d, rfl, h1, h2, h3, h4⟩
  have H1 := Lib.hid h1; have H2 := Lib.hid h2; have H3 := Lib.hid h3; have HB := Lib.hid (below_mv HB1.out h4)
  clear h1 h2 h3 h4
  go_wp2
  go_ret2
  exact ⟨B, k, d, rfl, H1.out, H2.out, H3.out, HB.out⟩

end Pn
end Go.Proofs.Ytdnkinajbebkoaa

set_option maxRecDepth 100000
namespace Go.Proofs.Ytdnkinajbebkoaa
open Go.RowKit
set_option linter.unusedVariables false
set_option linter.unusedSimpArgs false
open Tr Tx Hk Pr Fl Pn Tg Bb
namespace BbL
attribute [local go_sem] eq_id

set_option maxRecDepth 100000 in
set_option maxHeartbeats 8000000 in
theorem bubbleSame_walk (A_t : Option Addr) (n_t c_t : Nat) (t : TR) (A_l : Option Addr) (n_l c_l : Nat) (l : List Nm) (A_ids : Option Addr) (n_ids c_ids : Nat) (ids : List Id_) (w : World) (h_t : TreeArg w A_t n_t c_t t) (h_l : NmsArg w A_l n_l c_l l) (h_ids : IdsArg w A_ids n_ids c_ids ids) :
    Calls Try.prog 4 #[.slice A_t n_t c_t, .slice A_l n_l c_l, .slice A_ids n_ids c_ids] w (LawEnd w) := by
  have HT_t := Lib.hid h_t.rd; have HN_t := Lib.hid h_t.len; have HF_t := Lib.hid h_t.fit; have HC_t := Lib.hid h_t.le; have HK_t := Lib.hid h_t.cap
  clear h_t
  have HR_l := Lib.hid h_l.rd; have HN_l := Lib.hid h_l.len; have HC_l := Lib.hid h_l.cap; have HM_l := Lib.hid h_l.le
  clear h_l
  have HR_ids := Lib.hid h_ids.rd; have HN_ids := Lib.hid h_ids.len; have HC_ids := Lib.hid h_ids.cap; have HM_ids := Lib.hid h_ids.le
  clear h_ids
  have HB := Lib.hid (Below.refl w.heap.size w)
  go_enter Try.func4, Try.ntmps4
  go_wp2_with fail
  refine (Bb.awake w).mono ?_
  rintro e w_1 ⟨rfl, hb⟩
  replace HT_t := Lib.hid (HT_t.out.mv hb)
  replace HR_l := Lib.hid (RdN.mv HR_l.out hb)
  replace HR_ids := Lib.hid (RdI.mv HR_ids.out hb)
  replace HB := Lib.hid (below_mv HB.out hb)
  clear hb
  go_wp2_with fail
  refine (LightT A_t c_t n_t _ t _ HN_t.out HC_t.out HF_t.out HT_t.out).mono ?_
  rintro e w' ⟨rfl, rfl⟩
  obtain ⟨bt_t, hbl⟩ : ∃ bb, lightT t = bb := ⟨_, rfl⟩
  rw [hbl]
  have HBL_t := Lib.hid hbl; clear hbl
  obtain ⟨bl_l, hbl⟩ : ∃ bb, fewN l 8 = bb := ⟨_, rfl⟩
  have HBL_l := Lib.hid hbl; clear hbl
  go_wp2_with fail
  refine (FewN A_l n_l c_l 8 l w_1 bl_l (by decide) ⟨HN_l.out, HC_l.out, HM_l.out, HR_l.out⟩ HBL_l.out).mono ?_
  rintro e w_2 ⟨rfl, hb⟩
  replace HT_t := Lib.hid (HT_t.out.mv hb)
  replace HR_l := Lib.hid (RdN.mv HR_l.out hb)
  replace HR_ids := Lib.hid (RdI.mv HR_ids.out hb)
  replace HB := Lib.hid (below_mv HB.out hb)
  clear hb
  cases bt_t with
  | false =>
    go_wp2
    go_ret
    exact ⟨rfl, HB.out⟩
  | true =>
  have HS_t := Lib.hid (lightT_small HBL_t.out).2; have HM40_t := Lib.hid (most_light HBL_t.out); clear HF_t HC_t
  cases bl_l with
  | false =>
    go_wp2
    go_ret
    exact ⟨rfl, HB.out⟩
  | true =>
  have HQ_l : Hid (n_l ≤ 8) := Lib.hid (by have h1 := fewN_len HBL_l.out; rw [HN_l.out] at h1; exact h1)
  have HL_l := Lib.hid (few_all HBL_l.out)
  have hle_ids := HM_ids.out
  unfold maxLen at hle_ids
  by_cases hbig : (30 : Int) < (n_ids : Int)
  case pos =>
    go_wp2
    go_ret
    exact ⟨rfl, HB.out⟩
  have HQ_ids : Hid (n_ids ≤ 30) := Lib.hid (by omega)
  clear hle_ids
  obtain ⟨m, hm⟩ : ∃ b, mayT t = b := ⟨_, rfl⟩
  have HM := Lib.hid hm; clear hm
  go_wp2_with fail
  refine (MayC (b := m) HN_t.out HS_t.out HT_t.out HM.out).mono ?_
  rintro e w_3 ⟨rfl, hb⟩
  replace HT_t := Lib.hid (HT_t.out.mv hb)
  replace HR_l := Lib.hid (RdN.mv HR_l.out hb)
  replace HR_ids := Lib.hid (RdI.mv HR_ids.out hb)
  replace HB := Lib.hid (below_mv HB.out hb)
  clear hb
  cases m with
  | false =>
    go_wp2
    go_ret
    exact ⟨rfl, HB.out⟩
  | true =>
  have HAL := Lib.hid (all_lits HL_l.out)
  obtain ⟨⟨r, u⟩, hD⟩ : ∃ D, doN t l = D := ⟨_, rfl⟩
  have HD_u := Lib.hid hD; clear hD
  go_wp2_with fail
  refine (ApplyN 40 300 A_t n_t c_t A_l n_l c_l t l w_3 (r, u) HM40_t.out (by decide) (by decide) HN_t.out HN_l.out (by have := HQ_l.out; omega) (by have h1 := HAL.out.1; have h2 := HN_l.out; have h3 := HQ_l.out; omega) HAL.out.2 HT_t.out HR_l.out HD_u.out).mono ?_
  rintro e w_4 ⟨A_u, n_u, c_u, rfl, hc, hn, hr, hb⟩
  replace HT_t := Lib.hid (HT_t.out.mv hb)
  replace HR_l := Lib.hid (RdN.mv HR_l.out hb)
  replace HR_ids := Lib.hid (RdI.mv HR_ids.out hb)
  replace HB := Lib.hid (below_mv HB.out hb)
  clear hb
  have HT_u := Lib.hid hr; have HN_u := Lib.hid (show List.length _ = n_u from hn); clear hr hc hn
  have HS_u := Lib.hid (smallF (r := r) HM40_t.out (by have h1 := HAL.out.1; have h2 := HN_l.out; have h3 := HQ_l.out; omega) (by have h1 := HAL.out.1; have h2 := HN_l.out; have h3 := HQ_l.out; omega) HAL.out.2 HD_u.out)
  by_cases hr : r = 0
  case neg =>
    have e2 : (r != 0) = true := by rw [bne_iff_ne]; exact hr
    go_wp2
    go_ret
    exact ⟨rfl, HB.out⟩
  subst hr
  obtain ⟨⟨sx, gx⟩, hpp⟩ : ∃ z, partN l ids = z := ⟨_, rfl⟩
  have HP1 := Lib.hid hpp; have HLS1 := Lib.hid (partN_lits hpp HL_l.out); have HLN1 := Lib.hid (partN_len hpp HN_l.out)
  clear hpp
  obtain ⟨⟨px, rx⟩, hpp⟩ : ∃ z, pickN ids l = z := ⟨_, rfl⟩
  have HP2 := Lib.hid hpp; have HLS2 := Lib.hid (pickN_lits hpp HL_l.out); have HLN2 := Lib.hid (pickN_len hpp HN_l.out)
  clear hpp
  obtain ⟨v, hv⟩ : ∃ v, u = v := ⟨_, rfl⟩
  have HUV := Lib.hid hv
  obtain ⟨x, hx⟩ : ∃ x, u = x := ⟨_, rfl⟩
  have HUX := Lib.hid hx
  have HDV : Hid (doN t (sx ++ gx) = (0, v)) := Lib.hid (by rw [← hv]; exact part_does (mayT_up HM.out) HP1.out HD_u.out)
  have HDX : Hid (doN t (px ++ rx) = (0, x)) := Lib.hid (by rw [← hx]; exact pick_does (mayT_up HM.out) HP2.out HD_u.out)
  clear hv hx
  go_wp2_with fail
  refine (PartC A_l n_l c_l l A_ids n_ids c_ids ids w_4 HN_l.out (by have := HQ_l.out; omega) HN_ids.out (by have := HQ_ids.out; omega) HL_l.out HR_l.out HR_ids.out sx gx HP1.out).mono ?_
  rintro e w_5 ⟨A_a, n_a, c_a, A_b, n_b, c_b, rfl, hn1, hc1, hr1, hn2, hc2, hr2, hb⟩
  have HN_a := Lib.hid hn1; have HC_a := Lib.hid hc1; have HR_a := Lib.hid hr1; have HN_b := Lib.hid hn2; have HC_b := Lib.hid hc2; have HR_b := Lib.hid hr2
  clear hn1 hc1 hr1 hn2 hc2 hr2
  replace HT_t := Lib.hid (HT_t.out.mv hb)
  replace HR_l := Lib.hid (RdN.mv HR_l.out hb)
  replace HR_ids := Lib.hid (RdI.mv HR_ids.out hb)
  replace HT_u := Lib.hid (HT_u.out.mv hb)
  replace HB := Lib.hid (below_mv HB.out hb)
  clear hb
  go_wp2_with fail
  refine (PickC A_l n_l c_l l A_ids n_ids c_ids ids w_5 HN_l.out (by have := HQ_l.out; omega) HN_ids.out (by have := HQ_ids.out; omega) HL_l.out HR_l.out HR_ids.out px rx HP2.out).mono ?_
  rintro e w_6 ⟨A_p, n_p, c_p, A_q, n_q, c_q, rfl, hn1, hc1, hr1, hn2, hc2, hr2, hb⟩
  have HN_p := Lib.hid hn1; have HC_p := Lib.hid hc1; have HR_p := Lib.hid hr1; have HN_q := Lib.hid hn2; have HC_q := Lib.hid hc2; have HR_q := Lib.hid hr2
  clear hn1 hc1 hr1 hn2 hc2 hr2
  replace HT_t := Lib.hid (HT_t.out.mv hb)
  replace HR_l := Lib.hid (RdN.mv HR_l.out hb)
  replace HR_ids := Lib.hid (RdI.mv HR_ids.out hb)
  replace HT_u := Lib.hid (HT_u.out.mv hb)
  replace HR_a := Lib.hid (RdN.mv HR_a.out hb)
  replace HR_b := Lib.hid (RdN.mv HR_b.out hb)
  replace HB := Lib.hid (below_mv HB.out hb)
  clear hb
  have HQ_a : Hid (n_a ≤ 8 ∧ n_b ≤ 8) := Lib.hid (by have h1 := HLN1.out; have h2 := HN_b.out; have h4 := HN_a.out; have h3 := HQ_l.out; omega)
  have HQ_p : Hid (n_p ≤ 8 ∧ n_q ≤ 8) := Lib.hid (by have h1 := HLN2.out; have h2 := HN_q.out; have h4 := HN_p.out; have h3 := HQ_l.out; omega)
  have HAJ := Lib.hid (join_lits HLS1.out.1 HLS1.out.2 HLN1.out); have HAK := Lib.hid (join_lits HLS2.out.1 HLS2.out.2 HLN2.out)
  go_wp2_with (at_builtin; first
    | (refine wpList_ownM rfl (.const (.slice none 0 0)) (.tmp 68) rfl w_6.heap.size w_6.heap.size n_a c_a (.slice none 0 0) A_a [] sx rfl rfl (ownM_nil _ _ _) HR_a.out HN_a.out (by have := HQ_a.out; simp; omega) (Nat.le_refl _) (Nat.le_refl _) ?_; intro va wa ho hg; have hb2 : Below w_6.heap.size w_6 wa := (Below.refl _ _).grown hg (Nat.le_refl _) (fun k e => by cases e); have HO_j := Lib.hid (show OwnM wa w_6.heap.size w_6.heap.size va sx from ho); have HB_j := Lib.hid hb2; clear ho hg hb2)
    | (refine wpList_ownM rfl (.tmp 69) (.tmp 70) rfl w_6.heap.size w_6.heap.size n_b c_b va A_b sx gx rfl rfl HO_j.out (HR_b.out.below HB_j.out) HN_b.out (by have h1 := HQ_a.out; have h2 := HN_a.out; omega) (Nat.le_refl _) HB_j.out.size ?_; intro vb w_j ho hg; have hb3 : Below w_6.heap.size w_6 w_j := HB_j.out.grown hg HB_j.out.size (fun k e => ownM_ge HO_j.out k e); have HP_j := Lib.hid ho; have HD_j := Lib.hid hb3; clear ho hg hb3 HO_j HB_j; obtain ⟨A_j, c_j, hv, hc, hr⟩ := rdN_own HP_j.out HD_j.out.size; have HR_j := Lib.hid hr; obtain ⟨n_j, hn⟩ : ∃ n, List.length (sx ++ gx) = n := ⟨_, rfl⟩; rw [hn] at hv; subst hv; have HN_j := Lib.hid hn; clear hc hr HP_j hn))
  have hb := HD_j.out
  clear HD_j
  replace HT_t := Lib.hid (HT_t.out.mv hb)
  replace HR_l := Lib.hid (RdN.mv HR_l.out hb)
  replace HR_ids := Lib.hid (RdI.mv HR_ids.out hb)
  replace HT_u := Lib.hid (HT_u.out.mv hb)
  replace HR_a := Lib.hid (RdN.mv HR_a.out hb)
  replace HR_b := Lib.hid (RdN.mv HR_b.out hb)
  replace HR_p := Lib.hid (RdN.mv HR_p.out hb)
  replace HR_q := Lib.hid (RdN.mv HR_q.out hb)
  replace HB := Lib.hid (below_mv HB.out hb)
  clear hb
  go_wp2_with fail
  refine (ApplyN 40 300 A_t n_t c_t A_j n_j c_j t (sx ++ gx) w_j (0, v) HM40_t.out (by decide) (by decide) HN_t.out HN_j.out (by have h1 := HN_j.out; have h2 := HLN1.out; have h3 := HQ_l.out; rw [List.length_append] at h1; omega) (by have h1 := HAJ.out.1; have h3 := HQ_l.out; omega) HAJ.out.2 HT_t.out HR_j.out HDV.out).mono ?_
  rintro e w_7 ⟨A_v, n_v, c_v, rfl, hc, hn, hr, hb⟩
  replace HT_t := Lib.hid (HT_t.out.mv hb)
  replace HR_l := Lib.hid (RdN.mv HR_l.out hb)
  replace HR_ids := Lib.hid (RdI.mv HR_ids.out hb)
  replace HT_u := Lib.hid (HT_u.out.mv hb)
  replace HR_a := Lib.hid (RdN.mv HR_a.out hb)
  replace HR_b := Lib.hid (RdN.mv HR_b.out hb)
  replace HR_p := Lib.hid (RdN.mv HR_p.out hb)
  replace HR_q := Lib.hid (RdN.mv HR_q.out hb)
  replace HR_j := Lib.hid (RdN.mv HR_j.out hb)
  replace HB := Lib.hid (below_mv HB.out hb)
  clear hb
  have HT_v := Lib.hid hr; have HN_v := Lib.hid (show List.length _ = n_v from hn); clear hr hc hn
  go_wp2_with (at_builtin; first
    | (refine wpList_ownM rfl (.const (.slice none 0 0)) (.tmp 77) rfl w_7.heap.size w_7.heap.size n_p c_p (.slice none 0 0) A_p [] px rfl rfl (ownM_nil _ _ _) HR_p.out HN_p.out (by have := HQ_p.out; simp; omega) (Nat.le_refl _) (Nat.le_refl _) ?_; intro va wa ho hg; have hb2 : Below w_7.heap.size w_7 wa := (Below.refl _ _).grown hg (Nat.le_refl _) (fun k e => by cases e); have HO_j := Lib.hid (show OwnM wa w_7.heap.size w_7.heap.size va px from ho); have HB_j := Lib.hid hb2; clear ho hg hb2)
    | (refine wpList_ownM rfl (.tmp 78) (.tmp 79) rfl w_7.heap.size w_7.heap.size n_q c_q va A_q px rx rfl rfl HO_j.out (HR_q.out.below HB_j.out) HN_q.out (by have h1 := HQ_p.out; have h2 := HN_p.out; omega) (Nat.le_refl _) HB_j.out.size ?_; intro vb w_k ho hg; have hb3 : Below w_7.heap.size w_7 w_k := HB_j.out.grown hg HB_j.out.size (fun k e => ownM_ge HO_j.out k e); have HP_j := Lib.hid ho; have HD_j := Lib.hid hb3; clear ho hg hb3 HO_j HB_j; obtain ⟨A_k, c_k, hv, hc, hr⟩ := rdN_own HP_j.out HD_j.out.size; have HR_k := Lib.hid hr; obtain ⟨n_k, hn⟩ : ∃ n, List.length (px ++ rx) = n := ⟨_, rfl⟩; rw [hn] at hv; subst hv; have HN_k := Lib.hid hn; clear hc hr HP_j hn))
  have hb := HD_j.out
  clear HD_j
  replace HT_t := Lib.hid (HT_t.out.mv hb)
  replace HR_l := Lib.hid (RdN.mv HR_l.out hb)
  replace HR_ids := Lib.hid (RdI.mv HR_ids.out hb)
  replace HT_u := Lib.hid (HT_u.out.mv hb)
  replace HR_a := Lib.hid (RdN.mv HR_a.out hb)
  replace HR_b := Lib.hid (RdN.mv HR_b.out hb)
  replace HR_p := Lib.hid (RdN.mv HR_p.out hb)
  replace HR_q := Lib.hid (RdN.mv HR_q.out hb)
  replace HR_j := Lib.hid (RdN.mv HR_j.out hb)
  replace HT_v := Lib.hid (HT_v.out.mv hb)
  replace HB := Lib.hid (below_mv HB.out hb)
  clear hb
  go_wp2_with fail
  refine (ApplyN 40 300 A_t n_t c_t A_k n_k c_k t (px ++ rx) w_k (0, x) HM40_t.out (by decide) (by decide) HN_t.out HN_k.out (by have h1 := HN_k.out; have h2 := HLN2.out; have h3 := HQ_l.out; rw [List.length_append] at h1; omega) (by have h1 := HAK.out.1; have h3 := HQ_l.out; omega) HAK.out.2 HT_t.out HR_k.out HDX.out).mono ?_
  rintro e w_8 ⟨A_x, n_x, c_x, rfl, hc, hn, hr, hb⟩
  replace HT_t := Lib.hid (HT_t.out.mv hb)
  replace HR_l := Lib.hid (RdN.mv HR_l.out hb)
  replace HR_ids := Lib.hid (RdI.mv HR_ids.out hb)
  replace HT_u := Lib.hid (HT_u.out.mv hb)
  replace HR_a := Lib.hid (RdN.mv HR_a.out hb)
  replace HR_b := Lib.hid (RdN.mv HR_b.out hb)
  replace HR_p := Lib.hid (RdN.mv HR_p.out hb)
  replace HR_q := Lib.hid (RdN.mv HR_q.out hb)
  replace HR_j := Lib.hid (RdN.mv HR_j.out hb)
  replace HT_v := Lib.hid (HT_v.out.mv hb)
  replace HR_k := Lib.hid (RdN.mv HR_k.out hb)
  replace HB := Lib.hid (below_mv HB.out hb)
  clear hb
  have HT_x := Lib.hid hr; have HN_x := Lib.hid (show List.length _ = n_x from hn); clear hr hc hn
  obtain rfl := HUV.out
  obtain rfl := HUX.out
  go_wp2_with fail
  refine (SameC (b := true) HN_u.out HN_v.out HS_u.out HT_u.out HT_v.out (decide_eq_true rfl)).mono ?_
  rintro e w_9 ⟨rfl, hb⟩
  replace HT_t := Lib.hid (HT_t.out.mv hb)
  replace HR_l := Lib.hid (RdN.mv HR_l.out hb)
  replace HR_ids := Lib.hid (RdI.mv HR_ids.out hb)
  replace HT_u := Lib.hid (HT_u.out.mv hb)
  replace HR_a := Lib.hid (RdN.mv HR_a.out hb)
  replace HR_b := Lib.hid (RdN.mv HR_b.out hb)
  replace HR_p := Lib.hid (RdN.mv HR_p.out hb)
  replace HR_q := Lib.hid (RdN.mv HR_q.out hb)
  replace HR_j := Lib.hid (RdN.mv HR_j.out hb)
  replace HT_v := Lib.hid (HT_v.out.mv hb)
  replace HR_k := Lib.hid (RdN.mv HR_k.out hb)
  replace HT_x := Lib.hid (HT_x.out.mv hb)
  replace HB := Lib.hid (below_mv HB.out hb)
  clear hb
  go_wp2_with fail
  refine (SameC (b := true) HN_u.out HN_x.out HS_u.out HT_u.out HT_x.out (decide_eq_true rfl)).mono ?_
  rintro e w_10 ⟨rfl, hb⟩
  replace HT_t := Lib.hid (HT_t.out.mv hb)
  replace HR_l := Lib.hid (RdN.mv HR_l.out hb)
  replace HR_ids := Lib.hid (RdI.mv HR_ids.out hb)
  replace HT_u := Lib.hid (HT_u.out.mv hb)
  replace HR_a := Lib.hid (RdN.mv HR_a.out hb)
  replace HR_b := Lib.hid (RdN.mv HR_b.out hb)
  replace HR_p := Lib.hid (RdN.mv HR_p.out hb)
  replace HR_q := Lib.hid (RdN.mv HR_q.out hb)
  replace HR_j := Lib.hid (RdN.mv HR_j.out hb)
  replace HT_v := Lib.hid (HT_v.out.mv hb)
  replace HR_k := Lib.hid (RdN.mv HR_k.out hb)
  replace HT_x := Lib.hid (HT_x.out.mv hb)
  replace HB := Lib.hid (below_mv HB.out hb)
  clear hb
  go_wp2
  go_ret
  exact ⟨rfl, HB.out⟩

end BbL
open BbL
open Tx
open Go.ChangeShapes Go.WideShapes Go.ChangeAt

theorem bubbleSame_own : ownKnob Try.prog.godebug = none := by kernel_rfl
theorem bubbleSame_laidOut : laidOutB Try.prog = true := by kernel_rfl

set_option maxRecDepth 100000 in
theorem bubbleSame_lifted (os : Os) (started : os.Started) (H : Type) (enc : TypeId × Value → H) :
    ReturnsInHanded {} Try.checked os 4 .any (Rows.bubbleSameSpec.pre6 enc Try.prog Try.f4 Rows.bubbleSameRow.domain false) (Rows.bubbleSameSpec.post enc Try.prog Try.f4 false true false false) := by
  refine returnsInHanded_of_change (C := Try.checked) bubbleSame_own started (by kernel_rfl) Try.func4
    (ChangeSpec.witness6 (enc := enc) (C := Try.checked) false ⟨#[], #[.slice none 0 0, .slice none 0 0, .slice none 0 0], []⟩ 8 (by kernel_rfl) (by kernel_rfl) (by kernel_rfl) (by kernel_rfl)) ?_
  intro W base args ds gs before hval0 hW hcnd _
  have hval : ∀ (j : Nat) t v, Try.f4.params[j]? = some t → args[j]? = some v → Value.okWide Try.prog W .any base t v := hval0
  have hW' := hW
  obtain ⟨p, q, hA0, hV, rfl, hfz, hnd⟩ := hW
  have hA : DataW.TrodAll enc Try.prog W 0 (fun _ => true) true Try.f4.params.toList args.toList ds p := hA0
  rw [Try.params4] at hA hval
  obtain ⟨v0, vs0, d0, ds0, p0, q0, hargs, rfl, rfl, h0, r0⟩ := trodAll_cons hA
  obtain ⟨v1, vs1, d1, ds1, p1, q1, rfl, rfl, rfl, h1, r1⟩ := trodAll_cons r0
  obtain ⟨v2, vs2, d2, ds2, p2, q2, rfl, rfl, rfl, h2, r2⟩ := trodAll_cons r1
  obtain ⟨rfl, rfl, rfl⟩ := trodAll_nil r2
  obtain rfl : args = #[v0, v1, v2] := by cases args; simp_all
  obtain ⟨rfl, rfl⟩ := trodVars_none hV
  obtain ⟨a0, n0, c0, rfl⟩ := okWide_slice Try.underlying33 (hval 0 33 v0 rfl rfl)
  have k0 := h0
  have lt0 : ∀ x ∈ p0, x.block < W.heap.size := by obtain ⟨m, hm⟩ := k0; exact DataW.trod_lt m _ _ _ hm
  obtain ⟨l0, s0⟩ : ∃ l, TreeArg W a0 n0 c0 l := by
    obtain ⟨fuel, hf⟩ := h0
    exact tree_in hf (by simp [Value.cells])
  obtain ⟨a1, n1, c1, rfl⟩ := okWide_slice Try.underlying22 (hval 1 22 v1 rfl rfl)
  have k1 := h1
  have lt1 : ∀ x ∈ p1, x.block < W.heap.size := by obtain ⟨m, hm⟩ := k1; exact DataW.trod_lt m _ _ _ hm
  obtain ⟨l1, s1⟩ : ∃ l, NmsArg W a1 n1 c1 l := by
    obtain ⟨fuel, hf⟩ := h1
    exact nms_in hf (by simp [Value.cells])
  obtain ⟨a2, n2, c2, rfl⟩ := okWide_slice Try.underlying23 (hval 2 23 v2 rfl rfl)
  have k2 := h2
  have lt2 : ∀ x ∈ p2, x.block < W.heap.size := by obtain ⟨m, hm⟩ := k2; exact DataW.trod_lt m _ _ _ hm
  obtain ⟨l2, s2⟩ : ∃ l, IdsArg W a2 n2 c2 l := by
    obtain ⟨fuel, hf⟩ := h2
    exact ids_in hf (by simp [Value.cells])
  clear hA0 hval0
  refine (bubbleSame_walk a0 n0 c0 l0 a1 n1 c1 l1 a2 n2 c2 l2 W s0 s1 s2).mono fun e W' ⟨he, bel⟩ => ?_
  subst he
  exact ⟨_, rfl, _, _, _, [], _, [], hW', trodAll_mk1 (shut_bool Try.underlying4 _), (trodAll_cons_mk (Below.trod bubbleSame_laidOut (by kernel_rfl) (of_decide_eq_true (by kernel_rfl)) k0 bel lt0) (trodAll_cons_mk (Below.trod bubbleSame_laidOut (by kernel_rfl) (of_decide_eq_true (by kernel_rfl)) k1 bel lt1) (trodAll_cons_mk (Below.trod bubbleSame_laidOut (by kernel_rfl) (of_decide_eq_true (by kernel_rfl)) k2 bel lt2) trodAll_mk0))), rfl, bel.frame _, fun h => by cases h⟩

/-- The statement. -/
theorem bubbleSame_proved : Rows.BubbleSameSaid :=
  OpenClaim.holds_of_wide 4 Try.f4 rfl rfl rfl rfl rfl rfl rfl ⟨rfl, rfl, rfl, rfl, rfl⟩ rfl rfl rfl rfl rfl (by kernel_rfl) Try.func4 (by kernel_rfl)
    (of_decide_eq_true (by kernel_rfl)) (by unfold Func.isWrapper; first | (rw [if_pos (by decide +kernel)]; kernel_rfl) | (rw [if_neg (by decide +kernel)]; exact ⟨rfl, rfl⟩))
    (fun os started H enc _ => bubbleSame_lifted os started H enc)

#print axioms bubbleSame_proved
end Go.Proofs.Ytdnkinajbebkoaa
