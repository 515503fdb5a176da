/-
 QAy14ToLm14: Ay14, Like11, Scaled9, Lm14, joined.
-/
import Derived.Test.YtakkmpkkoecnhaaGreatQAg14
import Derived.Test.YtakkmpkkoecnhaaGreatQMn14
import Derived.Test.YtakkmpkkoecnhaaGreatQTa14ToDm14
import Derived.Test.YtakkmpkkoecnhaaGreatQUnit9ToMWord
import Derived.Test.YtakkmpkkoecnhaaGreatQSh11ToLeastA9
import Derived.Test.YtakkmpkkoecnhaaGreatQFil9ToTail
import Derived.Test.YtakkmpkkoecnhaaGreatQExtPureToTy9

set_option maxRecDepth 100000
set_option maxHeartbeats 6400000
set_option linter.unusedVariables false
set_option linter.unusedSimpArgs false
namespace Go.Proofs.YtakkmpkkoecnhaaGreat
open Go.RowKit
theorem AZ.mc14 {w : World} {g m n : Nat} {F : Nat → Nat → Int} {k : Nat} (h : AZ w g (zF m n F) k) (hm : m ≤ 64) (hn : n ≤ 64) : Mc w (matv m n (.slice (some ⟨g, 0, none⟩) (m * n) (m * n))) m n (zF m n F) k := by
 obtain ⟨ps, h1, h2⟩ := h; have hl : ps.length = m * n := by rw [h2.1, zEB]
 have h4 : m * n ≤ 64 * 64 := Nat.mul_le_mul hm hn; refine ⟨_, ps, rfl, ?_, h2.zcs, zEB _ _ _, hm, hn⟩; rw [← hl]; exact h1.prs (Nat.zero_le _) (by omega) (Nat.le_refl _)
theorem zVG {w : World} {va : Value} {n kk : Nat} {zs : List Int} (ha : Mx w va n n zs kk) (hkk : 64 * kk + 7 ≤ 4000000000) :
  Calls Tryz.prog 9 #[va] w (zhB w n n (zF n n (adz n (en n zs))) (64 * kk + 7)) := by
 have M0 := ha; obtain ⟨aa, ca, rfl, hm64, -⟩ := ha.form; obtain ⟨nn, hnn⟩ : ∃ nn, n * n = nn := ⟨_, rfl⟩
 rw [hnn] at M0 ⊢; have ENN := hid hnn; obtain ⟨W0, hW⟩ : ∃ W0, (w.alloc (matO n n (.slice aa nn ca))).alloc mbox = W0 := ⟨_, rfl⟩
 obtain ⟨b0, sz0⟩ := ziA w (matO n n (.slice aa nn ca)) mbox; rw [hW] at b0 sz0; have PA : Hid (Cel W0 w.heap.size 24 (matc n n (.slice aa nn ca))) := by
  unfold Hid; rw [← hW]; exact (Cel.new w 24 (matc n n (.slice aa nn ca))).step ((Below.refl _ _).alloc (Nat.le_refl _) _)
 have PR : Hid (Cel W0 (w.heap.size + 1) 24 [.int .i64 0, .int .i64 0, .slice none 0 0]) := by
  unfold Hid; rw [← hW]; have := Cel.new (w.alloc (matO n n (.slice aa nn ca))) 24 [.int .i64 0, .int .i64 0, .slice none 0 0]
  simpa using this
 have HC := hid (mcsq_yes (M0.now b0)); have MA := hid (M0.now b0); have G := hid b0; have x0 := PA.out.at (i := 0) rfl; have x1 := PA.out.at (i := 1) rfl; have x2 := PA.out.at (i := 2) rfl; rw [← hW] at x0 x1 x2; have EW := hid hW; clear ha M0 b0 hW hnn sz0; go_enter Tryz.func9, Tryz.ntmps9; go_wp2_with fail; rw [EW.out]; clear EW x0 x1 x2; refine HC.out.mono ?_; rintro e w1 ⟨rfl, b⟩; have HA := hid (zXD (MA.out.now b) hkk); replace PA := hid (PA.out.step b); replace PR := hid (PR.out.step b); replace G := hid (zAA G.out b); have x0 := PA.out.at (i := 0) rfl; have x1 := PA.out.at (i := 1) rfl; have x2 := PA.out.at (i := 2) rfl; clear HC b MA; go_wp2_with fail; refine HA.out.mono ?_; rintro e w2 ⟨gz, rfl, hgz, haz, b⟩; have MC := hid (haz.mc14 hm64 hm64); rw [ENN.out] at MC; rw [ENN.out]; replace PR := hid (PR.out.step b); have r0 := PR.out.at (i := 0) rfl; have r1 := PR.out.at (i := 1) rfl; have r2 := PR.out.at (i := 2) rfl; have f0 := PR.out.fz 0; have f1 := PR.out.fz 1; have f2 := PR.out.fz 2; have FIN : Hid (zhB w n n (zF n n (adz n (en n zs))) (64 * kk + 7) (.returned (.tuple #[.agg #[.int .i64 (n : Int), .int .i64 (n : Int), .slice (some ⟨gz, 0, none⟩) nn nn], .int .i64 0])) (put3 w2 (w.heap.size + 1) (.int .i64 (n : Int)) (.int .i64 (n : Int)) (.slice (some ⟨gz, 0, none⟩) nn nn))) :=
  ⟨_, rfl, MC.out.wk PR.out _ _ _, zOA (zAA G.out b) (by omega) _ _ _⟩
 have PF := hid (PR.out.put3 (.int .i64 (n : Int)) (.int .i64 (n : Int)) (.slice (some ⟨gz, 0, none⟩) nn nn)); clear HA b haz MC x0 x1 x2 G PR; go_wp2; exact bodyPost_ret (zGC Tryz.results9 PF.out _ (by rfl) (by rfl)) rfl FIN.out
theorem zwG {w : World} {v u : Value} {z y : Int} {k l : Nat} (h : Zc w v z k) (h' : Zc w u y l) (hzy : z = y) :
  Calls Tryz.prog 21 #[v, u] w fun e w' => e = .returned (.bool true) ∧ Below w.heap.size w w' := by
 subst hzy; obtain ⟨n, xs, a, c, rfl, s0, q0, e0, z0, k0⟩ := h; obtain ⟨m, ys, b, d, rfl, s1, q1, e1, z1, k1⟩ := h'; obtain ⟨rfl, rfl⟩ := iv_one (z0.trans z1.symm) q0 q1 e0 e1; obtain ⟨W0, hW⟩ : ∃ W0, (w.alloc (duo (.bool n) (.slice a xs.length c))).alloc (duo (.bool n) (.slice b xs.length d)) = W0 := ⟨_, rfl⟩
 have b0 := (ziA w (duo (.bool n) (.slice a xs.length c)) (duo (.bool n) (.slice b xs.length d))).1; rw [hW] at b0; have P2 : Hid (Duo W0 w.heap.size (.bool n) (.slice a xs.length c)) := by unfold Hid; rw [← hW]; exact (Duo.new w _ _).later (by simp) _
 have P3 : Hid (Duo W0 (w.heap.size + 1) (.bool n) (.slice b xs.length d)) := by
  unfold Hid; rw [← hW]; have := Duo.new (w.alloc (duo (.bool n) (.slice a xs.length c))) (.bool n) (.slice b xs.length d)
  simpa using this
 have HC := hid (same_yes (s0.now b0) (s1.now b0) rfl); have B0 := hid b0; have x0 := P2.out.c0; have y0 := P3.out.c0; have x1 := P2.out.c1; have y1 := P3.out.c1; rw [← hW] at x0 y0 x1 y1; have EW := hid hW; have hq : (n == n) = true := by simp
 clear s0 s1 z0 z1 b0 q0 q1 e0 e1 hW; go_enter Tryz.func21, Tryz.ntmps21; go_wp2_with fail; rw [EW.out]; refine HC.out.mono ?_; rintro e w1 ⟨rfl, b1⟩; have B1 := hid (zAA B0.out b1); clear b1 HC x0 y0 x1 y1 EW; go_wp2; go_ret; exact ⟨rfl, B1.out⟩
theorem likeRow_yes {w : World} {va vb : Value} {ps qs : List (Value × Value)} {k l : Nat} {zs ys : List Int} (ha : Prs 0 w va ps) (hza : Zcs w ps zs k) (hb : Prs 0 w vb qs) (hzb : Zcs w qs ys l) (he : zs = ys) :
  Calls Tryz.prog 44 #[va, vb] w fun e w' => e = .returned (.bool true) ∧ Below w.heap.size w w' := by
 subst he; obtain ⟨aa, ca, rfl, hca, hna, -, hfa⟩ := ha.form; obtain ⟨ab, cb, rfl, hcb, hnb, -, hfb⟩ := hb.form; obtain ⟨n, hn⟩ : ∃ n, zs.length = n := ⟨_, rfl⟩
 have ea : ps.length = n := hza.1.trans hn; have eb : qs.length = n := hzb.1.trans hn; have A0 := hid ha; have B0 := hid hb; rw [ea] at A0 hna hca ⊢; rw [eb] at B0 hnb hcb ⊢; have q2 : ((n : Int) != (n : Int)) = false := by simp
 have ZA := hid hza; have ZB := hid hzb; have FA : Hid (n ≠ 0 → ∃ b off, aa = some ⟨b, off, none⟩) := fun h => by
  obtain ⟨b, off, e, -⟩ := hfa (fun e => h (by rw [← ea, e]; rfl)); exact ⟨b, off, e⟩
 have FB : Hid (n ≠ 0 → ∃ b off, ab = some ⟨b, off, none⟩) := fun h => by
  obtain ⟨b, off, e, -⟩ := hfb (fun e => h (by rw [← eb, e]; rfl)); exact ⟨b, off, e⟩
 have HN := hid hn; have H0 : Hid (zfJ w n n (.int .i64 0) w) := ⟨0, rfl, Nat.zero_le _, by omega, Below.refl _ _⟩
 clear ha hza hb hzb hfa hfb hn ea eb; go_enter Tryz.func44, Tryz.ntmps44; go_wp2_with fail
 go_loopg [5] n (fun gk s5 wx => zfJ w n gk s5 wx)
 case atStart => exact H0.out
 case round =>
  clear H0; obtain ⟨i, rfl, hin, hg, hG⟩ := hrel; have G := hid hG; have HG := hid hg; clear hG hg
  by_cases hlt : i < n
  ·have hlt' : (i : Int) < (n : Int) := by omega
   obtain ⟨b1, o1, rfl⟩ := FA.out (by omega); obtain ⟨b2, o2, rfl⟩ := FB.out (by omega); obtain ⟨nf, xf, adf, qf, k0, k1, zf⟩ := Zcs.at9 (A0.out.now G.out) (ZA.out.now G.out) (i := i) (by rw [HN.out]; exact hlt); obtain ⟨ng, xg, adg, qg, k2, k3, zg⟩ := Zcs.at9 (B0.out.now G.out) (ZB.out.now G.out) (i := i) (by rw [HN.out]; exact hlt); have HS : Hid (∀ w', Below wr.heap.size wr w' → Calls Tryz.prog 21 #[.agg #[.bool nf, .slice adf xf.length qf], .agg #[.bool ng, .slice adg xg.length qg]] w' fun e w'' => e = .returned (.bool true) ∧ Below w'.heap.size w' w'') := fun w' h => zwG (zf.now h) (zg.now h) rfl
   clear zf zg; have hw := zQA (i := i) (by omega); go_wp2_with fail; have KB : Hid (∀ w', Below wr.heap.size wr w' → w'.cell? ⟨b1, o1 + i * 2, none⟩ = some (.bool nf) ∧ w'.cell? ⟨b1, o1 + i * 2 + 1, none⟩ = some (.slice adf xf.length qf) ∧ w'.cell? ⟨b2, o2 + i * 2, none⟩ = some (.bool ng) ∧ w'.cell? ⟨b2, o2 + i * 2 + 1, none⟩ = some (.slice adg xg.length qg)) := fun w' h => ⟨cnow h k0, cnow h k1, cnow h k2, cnow h k3⟩
   refine zEA (fun w' => w'.cell? ⟨b1, o1 + i * 2, none⟩ = some (.bool nf) ∧ w'.cell? ⟨b1, o1 + i * 2 + 1, none⟩ = some (.slice adf xf.length qf) ∧ w'.cell? ⟨b2, o2 + i * 2, none⟩ = some (.bool ng) ∧ w'.cell? ⟨b2, o2 + i * 2 + 1, none⟩ = some (.slice adg xg.length qg)) 9 (by kernel_rfl) ?_; obtain ⟨D1, hD⟩ : ∃ D1, wr.drew = D1 := ⟨_, rfl⟩
   have GB : Hid (Below wr.heap.size wr D1) := by unfold Hid; rw [← hD]; exact (Below.refl _ _).drew
   rw [hD]; clear hD; refine zCA [(0, (.slice (some ⟨b1, o1, none⟩) n ca)), (1, (.int .i64 (i : Int))), (2, (.pointer (some ⟨b1, o1 + i * 2, none⟩))), (3, (.agg #[.bool nf, .slice adf xf.length qf])), (4, (.slice (some ⟨b2, o2, none⟩) n cb)), (5, (.int .i64 (i : Int))), (6, (.pointer (some ⟨b2, o2 + i * 2, none⟩))), (7, (.agg #[.bool ng, .slice adg xg.length qg]))] 8 ?_ (KB.out _ GB.out) ?_
   ·simp only [zMA, gA9, g09, g19, Act.put, sI9, s09, s19]; (repeat' (first | exact trivial | refine And.intro (Or.inl ⟨by rfl, ?_⟩) ?_)) <;> (intro w hSw; (try dsimp only at hSw); go_simp)
   simp only [actV, gA9, g09, g19, Act.put, sI9, s09, s19]; refine zBA (i := 8) (o := ⟨some 25, .call { callee := .value (.func 21), args := #[.tmp 20, .tmp 24], argTypes := #[29, 29] }, 4, "keep.go:21", #[⟨3, .data⟩, ⟨7, .data⟩], none⟩) (by kernel_rfl) rfl (fun K hK => ?_); go_simp; go_at_call 21; refine (HS.out _ GB.out).mono ?_; rintro e w2 ⟨rfl, b⟩; have lz2 := (show Below _ _ _ from b).size; replace GB := hid (zAA GB.out b); have G1 := hid (zAA G.out GB.out); clear b; refine hK.out _ _ (fun _ => KB.out _ GB.out) ?_; clear hK; refine zBA (i := 9) (o := ⟨some 26, .unOp .not 4 (.tmp 25), 4, "keep.go:21", #[⟨8, .data⟩], none⟩) (by kernel_rfl) rfl (fun K hK => ?_); go_simp; refine hK.out _ _ (fun h => absurd h (by decide)) ?_; clear hK
   try simp only [Act.put]
   refine zDA (by kernel_rfl) ?_ _; have HN1 : Hid (zfJ w n (n - (i + 1)) (.int .i64 ((i + 1 : Nat) : Int)) w2) := ⟨i + 1, rfl, by omega, rfl, G1.out⟩
   have HMM : Hid (n - (i + 1) < gk) := by unfold Hid; rw [HG.out]; omega
   clear HS G HG G1 GB KB k0 k1 k2 k3; go_wp2_with fail; go_roundg (n - (i + 1))
   case rel => exact HN1.out
   case measure => exact HMM.out
  ·have hlt' : ¬ (i : Int) < (n : Int) := by omega
   have FIN := hid G.out; clear HG G; go_wp2; go_ret; exact ⟨rfl, FIN.out⟩
theorem ztB {w : World} {va vb : Value} {r c k l : Nat} {zs ys : List Int} (ha : Mc w va r c zs k) (hb : Mc w vb r c ys l) (he : zs = ys) :
  Calls Tryz.prog 14 #[va, vb] w fun e w' => e = .returned (.bool true) ∧ Below w.heap.size w w' := by
 obtain ⟨ata, ps, rfl, pa1, pa2, -, -, -⟩ := ha; obtain ⟨atb, qs, rfl, pb1, pb2, -, -, -⟩ := hb; obtain ⟨W0, hW⟩ : ∃ W0, (w.alloc (matO r c ata)).alloc (matO r c atb) = W0 := ⟨_, rfl⟩
 obtain ⟨b0, sz0⟩ := ziA w (matO r c ata) (matO r c atb); rw [hW] at b0 sz0; have HR := hid (likeRow_yes (pa1.now b0) (pa2.now b0) (pb1.now b0) (pb2.now b0) he); obtain ⟨aa, ca, rfl, -, -, -, -⟩ := pa1.form; obtain ⟨ab, cb, rfl, -, -, -, -⟩ := pb1.form; generalize ps.length = na at *; generalize qs.length = nb at *; have pa : Cel W0 w.heap.size 24 (matc r c (.slice aa na ca)) := by
  rw [← hW]; exact (Cel.new w 24 (matc r c (.slice aa na ca))).step ((Below.refl _ _).alloc (Nat.le_refl _) _)
 have pb : Cel W0 (w.heap.size + 1) 24 (matc r c (.slice ab nb cb)) := by
  rw [← hW]; have := Cel.new (w.alloc (matO r c (.slice aa na ca))) 24 (matc r c (.slice ab nb cb))
  simpa using this
 have x0 := pa.at (i := 0) rfl; have x1 := pa.at (i := 1) rfl; have x2 := pa.at (i := 2) rfl; have y0 := pb.at (i := 0) rfl; have y1 := pb.at (i := 1) rfl; have y2 := pb.at (i := 2) rfl; rw [← hW] at x0 x1 x2 y0 y1 y2; have q0 : ((r : Int) == (r : Int)) = true := by simp
 have q1 : ((c : Int) == (c : Int)) = true := by simp
 have G0 := hid b0; have EW := hid hW; clear pa1 pa2 pb1 pb2 b0 sz0 hW pa pb; go_enter Tryz.func14, Tryz.ntmps14; go_wp2_with fail; rw [EW.out]; refine HR.out.mono ?_; rintro e w1 ⟨rfl, b⟩; have FIN := hid (zAA G0.out b); clear x0 x1 x2 y0 y1 y2 EW b HR G0; go_wp2; go_ret; exact ⟨rfl, FIN.out⟩
instance snd11 (r c : Int) (l : Nat) : Decidable (Snd r c l) := by unfold Snd; infer_instance
theorem scaled1_any {w : World} {xv x0 x1 : Value} {kb l k : Nat} {K9 Z : Int} (hp : w.cell? ⟨kb, 0, none⟩ = some x0) (hp1 : w.cell? ⟨kb, 1, none⟩ = some x1) (hk9 : Zi w (.agg #[x0, x1]) K9 k) (hz : Zi w xv Z l) (hk : k + l ≤ 35184372088832) :
  Calls Tryz.prog 73 #[xv, .pointer (some ⟨kb, 0, none⟩)] w (zYA w (K9 * Z) (k + l)) := by
 have z0 := hz; have kz0 := hk9; obtain ⟨n, xs, a, c, rfl, -, -, -⟩ := hz; obtain ⟨nk, ks, ak, ck, ek, -, -, -⟩ := hk9; simp only [Value.agg.injEq, Array.mk.injEq, List.cons.injEq, and_true] at ek; obtain ⟨rfl, rfl⟩ := ek; obtain ⟨W0, hW⟩ : ∃ W0, (w.alloc (duo (.bool n) (.slice a xs.length c))).alloc zbox = W0 := ⟨_, rfl⟩
 obtain ⟨b0, sz0⟩ := ziA w (duo (.bool n) (.slice a xs.length c)) zbox; rw [hW] at b0 sz0; have P2 : Hid (Duo W0 w.heap.size (.bool n) (.slice a xs.length c)) := by unfold Hid; rw [← hW]; exact (Duo.new w _ _).later (by simp) _
 have P3 : Hid (Duo W0 (w.heap.size + 1) (.bool false) (.slice none 0 0)) := by
  unfold Hid; rw [← hW]; have := Duo.new (w.alloc (duo (.bool n) (.slice a xs.length c))) (.bool false) (.slice none 0 0)
  simpa using this
 have HS := hid (zAD (kz0.now b0) (z0.now b0) hk); have k0 := cnow b0 hp; have k1 := cnow b0 hp1; have k2 := P2.out.c0; have k3 := P2.out.c1; rw [← hW] at k0 k1 k2 k3; have G0 := hid b0; have EW := hid hW; have SZ := hid sz0; clear b0 sz0 hW z0 kz0 hp hp1 hk; go_enter Tryz.func73, Tryz.ntmps73; go_wp2_with fail; rw [EW.out]; refine HS.out.mono ?_; rintro e w1 ⟨r, rfl, m1, b⟩; have P31 := hid (P3.out.step b); have G1 := hid (zAA G0.out b); have HM := hid (m1.mono G0.out.size); obtain ⟨nr, xr, ar, cr, rfl⟩ := m1.parts; have r0 := P31.out.c0; have r1 := P31.out.c1; have f0 := P31.out.fz 0; have f1 := P31.out.fz 1; have FIN : Hid (zYA w (K9 * Z) (k + l) (.returned (.agg #[.bool nr, .slice ar xr.length cr])) ((w1.setCell ⟨w.heap.size + 1, 0, none⟩ (.bool nr)).setCell ⟨w.heap.size + 1, 1, none⟩ (.slice ar xr.length cr))) := ⟨_, rfl, HM.out.box P31.out _ _, bset (bset G1.out (by omega)) (by omega)⟩
 clear HS G0 EW m1 b SZ k0 k1 k2 k3 P2 P3; go_wp2; exact bodyPost_ret (zoA Tryz.results73 (P31.out.set _ _) _ (by rfl)) rfl FIN.out
abbrev fnScaled (kb : Nat) : Value := .func (.func 73) #[] #[.pointer (some ⟨kb, 0, none⟩)]
def zjI (w : World) (g n : Nat) (F : Nat → Int) (k gk : Nat) (s : Value) (wx : World) : Prop :=
 ∃ i : Nat, s = .int .i64 (i : Int) ∧ i ≤ n ∧ gk = n - i ∧ FilM wx g n i F k ∧ Below w.heap.size w wx
def zJB (K9 : Int) (zs : List Int) : List Int := (List.range zs.length).map fun j => K9 * zs.getD j 0
theorem eachScaled_any {w : World} {kb k l : Nat} {v x0 x1 : Value} {zs : List Int} {K9 : Int} (hv : Zl w v zs l) (hp : w.cell? ⟨kb, 0, none⟩ = some x0) (hp1 : w.cell? ⟨kb, 1, none⟩ = some x1) (hk9 : Zi w (.agg #[x0, x1]) K9 k) (hk : k + l ≤ 35184372088832) :
  Calls Tryz.prog 72 #[v, fnScaled kb] w (zKF w (zJB K9 zs) (k + l)) := by
 have V0 := hid hv; have KZ := hid hk9; have C0 := hid hp; have C1 := hid hp1; have HK := hid hk; have HMP : Hid (zJB K9 zs = (List.range zs.length).map fun j => K9 * zs.getD j 0) := rfl; obtain ⟨RS, hRS⟩ : ∃ RS, zJB K9 zs = RS := ⟨_, rfl⟩
 rw [hRS] at HMP ⊢; obtain ⟨a0, c0, rfl, hc0, hn0, hf0⟩ := V0.out.form9; obtain ⟨n, hn⟩ : ∃ n, zs.length = n := ⟨_, rfl⟩
 rw [hn] at V0 hc0 hn0 HMP ⊢; have HN := hid hn; have F0 := hid hf0; clear hv hf0 hn hp hp1 hk9 hk hRS; go_enter Tryz.func72, Tryz.ntmps72; go_wp2_with (at_make; refine zUA _ rfl _ _ rfl _ _ n n rfl rfl rfl rfl (Nat.le_refl _) (by omega) ?_)
 intro w1 hrow hb1 hsz1; have H0 : Hid (zjI w w.heap.size n (fun j => K9 * zs.getD j 0) (k + l) n (.int .i64 0) w1) := ⟨0, rfl, Nat.zero_le _, by omega, FilM.start hrow _ _, hb1⟩
 clear hrow hb1 hsz1; go_wp2_with fail
 go_loopg [13] n (fun gk s13 wx => zjI w w.heap.size n (fun j => K9 * zs.getD j 0) (k + l) gk s13 wx)
 case atStart => exact H0.out
 case round =>
  clear H0; obtain ⟨i, rfl, hin, hg, hfil, hG⟩ := hrel; have FI := hid hfil; have G := hid hG; have HG := hid hg; clear hfil hG hg
  by_cases hlt : i < n
  ·have hlt' : (i : Int) < (n : Int) := by omega
   obtain ⟨b1, o1, rfl⟩ := F0.out (fun e => by have := HN.out; rw [e] at this; simp at this; omega); obtain ⟨nf, xf, adf, qf, k0, k1, zf⟩ := (V0.out.now G.out).at9 (i := i) (by rw [HN.out]; exact hlt); rw [zgC] at zf; obtain ⟨V1, hV⟩ : ∃ V1, wr.alloc (duo (.bool nf) (.slice adf xf.length qf)) = V1 := ⟨_, rfl⟩
   obtain ⟨b, sz1⟩ := alo1 wr (duo (.bool nf) (.slice adf xf.length qf)); rw [hV] at b sz1; have PN : Hid (Duo V1 wr.heap.size (.bool nf) (.slice adf xf.length qf)) := by unfold Hid; rw [← hV]; exact Duo.new wr _ _
   have G0 := hid (zAA G.out b); have HS := hid (scaled1_any (cnow G0.out C0.out) (cnow G0.out C1.out) (KZ.out.now G0.out) (zf.now b) HK.out); have FI0 := hid (FI.out.step b); have n0 := PN.out.c0; have n1 := PN.out.c1; rw [← hV] at n0 n1; have EV := hid hV; have hw := zQA (i := i) (by omega); clear zf b sz1 hV PN FI G; go_wp2_with fail; rw [EV.out]; refine HS.out.mono ?_; rintro e w1 ⟨r, rfl, m1, b⟩; have FI1 := hid (FI0.out.step b); have G1 := hid (zAA G0.out b); have M1 := hid (m1.mono (Nat.zero_le _)); obtain ⟨nr, xr, ar, cr, rfl⟩ := m1.parts; obtain ⟨m0, am, lm, cm, e0, e1, e2, e3⟩ := FI1.out.cells hlt; have HN1 : Hid (zjI w w.heap.size n (fun j => K9 * zs.getD j 0) (k + l) (n - (i + 1)) (.int .i64 ((i + 1 : Nat) : Int)) ((w1.setCell ⟨w.heap.size, i * 2, none⟩ (.bool nr)).setCell ⟨w.heap.size, i * 2 + 1, none⟩ (.slice ar xr.length cr))) :=
    ⟨i + 1, rfl, by omega, rfl, FI1.out.put hlt M1.out, bset (bset G1.out (Nat.le_refl _)) (Nat.le_refl _)⟩
   have HMM : Hid (n - (i + 1) < gk) := by unfold Hid; rw [HG.out]; omega
   clear HS FI0 G0 HG FI1 G1 M1 m1 b k0 k1 n0 n1 EV; go_wp2_with fail; go_roundg (n - (i + 1))
   case rel => exact HN1.out
   case measure => exact HMM.out
  ·have hlt' : ¬ (i : Int) < (n : Int) := by omega
   obtain rfl : i = n := by omega
   obtain ⟨ps, p1, p2⟩ := FI.out.done hn0; rw [← HMP.out] at p2; have FIN : Hid (zKF w RS (k + l) (.returned (.slice (some ⟨w.heap.size, 0, none⟩) i i)) wr) := ⟨_, ps, rfl, p1, p2, G.out⟩
   clear FI G HG p1 p2; go_wp2; go_ret; exact FIN.out
theorem scaled_any {w : World} {k l : Nat} {v kv : Value} {zs : List Int} {K9 : Int} (hk9 : Zi w kv K9 k) (hv : Zl w v zs l) (hk : k + l ≤ 35184372088832) :
  Calls Tryz.prog 41 #[kv, v] w (zKF w (zJB K9 zs) (k + l)) := by
 have z0 := hk9; obtain ⟨n, xs, a, c, rfl, -, -, -⟩ := hk9; obtain ⟨W0, hW⟩ : ∃ W0, w.alloc (duo (.bool n) (.slice a xs.length c)) = W0 := ⟨_, rfl⟩
 obtain ⟨b0, sz0⟩ := alo1 w (duo (.bool n) (.slice a xs.length c)); rw [hW] at b0 sz0; have P2 : Duo W0 w.heap.size (.bool n) (.slice a xs.length c) := by rw [← hW]; exact Duo.new w _ _
 have HS := hid (eachScaled_any (hv.now b0) P2.c0 P2.c1 (z0.now b0) hk); obtain ⟨a0, c0, rfl, -, -, -⟩ := hv.form9; generalize zJB K9 zs = RS at *; have G0 := hid b0; have EW := hid hW; clear b0 sz0 hW z0 hv hk P2; go_enter Tryz.func41, Tryz.ntmps41; go_wp2_with fail; rw [EW.out]; refine HS.out.mono ?_; rintro e w1 ⟨u, ps, rfl, p1, p2, b⟩; have FIN : Hid (zKF w RS (k + l) (.returned u) w1) := ⟨u, ps, rfl, p1, p2, zAA G0.out b⟩
 clear HS G0 EW p1 p2 b; go_wp2; go_ret; exact FIN.out
theorem ztF : ∀ (xs : List Int), wid xs = xs.length → ∀ h : xs.length - 1 < xs.length, xs[xs.length - 1] ≠ 0
 | [x], hw, _ => by
  intro e; have e' : x = 0 := by simpa using e
  subst e'; simp [wid] at hw
 | x :: y :: r, hw, _ => by
  have h1 : wid (y :: r) = (y :: r).length := by
   have := zWA (y :: r); rw [wid] at hw; have e : (x :: y :: r).length = (y :: r).length + 1 := rfl; rw [e] at hw
   by_cases q : wid (y :: r) = 0
   ·rw [if_pos q] at hw
    have e2 : (y :: r).length = r.length + 1 := rfl
    by_cases q2 : x = 0
    ·rw [if_pos q2] at hw; omega
    ·rw [if_neg q2] at hw; omega
   ·rw [if_neg q] at hw; omega
  have := ztF (y :: r) h1 (by simp)
  simpa using this
theorem leastInt_yes {w : World} {v : Value} {z : Int} {k : Nat} (h : Zc w v z k) : Calls Tryz.prog 48 #[v] w fun e w' => e = .returned (.bool true) ∧ Below w.heap.size w w' := by
 obtain ⟨n, xs, a, c, rfl, hs, hc, hn, -, -⟩ := h; obtain ⟨W0, hW⟩ : ∃ W0, w.alloc (duo (.bool n) (.slice a xs.length c)) = W0 := ⟨_, rfl⟩
 obtain ⟨b0, sz0⟩ := alo1 w (duo (.bool n) (.slice a xs.length c)); rw [hW] at b0 sz0; have P1 : Duo W0 w.heap.size (.bool n) (.slice a xs.length c) := by rw [← hW]; exact Duo.new w _ _
 have x0 := P1.c0; have x1 := P1.c1; have G := hid b0; have EW := hid hW
 by_cases hx : xs = []
 ·obtain rfl := hn hx
  subst hx; rw [← hW] at x0 x1; clear hs hc hn b0 sz0 hW P1; simp only [List.length_nil] at x1 EW ⊢; go_enter Tryz.func48, Tryz.ntmps48; go_wp2_with fail; rw [EW.out]; go_ret; exact ⟨rfl, G.out⟩
 ·obtain ⟨hwf, a', cap, he, hcap, hlen, hq⟩ := hs
  simp only [Value.slice.injEq] at he; obtain ⟨rfl, -, rfl⟩ := he; rcases hq with hq | ⟨b, off, rfl, hb, hq⟩
  ·exact absurd hq hx
  ·have hpos : 0 < xs.length := List.length_pos_iff.2 hx
   have htop := ztF xs hc.2 (by omega); have y0 := cnow b0 (hq (xs.length - 1) (by omega)); obtain ⟨m, hm⟩ : ∃ m, xs.length = m + 1 := ⟨xs.length - 1, by omega⟩
   have hwm : IntKind.i64.wrap (((m + 1 : Nat) : Int) - 1) = (m : Int) := by rw [zVA] <;> omega
   obtain ⟨t, ht⟩ : ∃ t, xs[xs.length - 1]'(by omega) = t := ⟨_, rfl⟩
   rw [ht] at htop y0; have hoff : xs.length - 1 = m := by omega
   rw [hoff] at y0; rw [hm] at x1 EW ⊢; have hne : (t != 0) = true := by simpa using htop
   have hlt : (m : Int) < ((m + 1 : Nat) : Int) := by omega
   have hz : (((m + 1 : Nat) : Int) == 0) = false := by simp; omega
   have hz2 : ¬ ((m + 1 : Nat) : Int) = 0 := by omega
   rw [hm] at hW hlen hcap; rw [← hW] at x0 x1 y0; obtain ⟨l1, hl1⟩ : ∃ l1, m + 1 = l1 := ⟨_, rfl⟩
   rw [hl1] at hwm x0 x1 y0 EW hlt hz hz2 hcap ⊢; clear hc hn b0 sz0 hW P1 hq ht htop hoff hpos hx hm hwf; go_enter Tryz.func48, Tryz.ntmps48; go_wp2_with fail; rw [EW.out]; go_ret; exact ⟨rfl, G.out⟩
def LmH (w : World) (n gk : Nat) (s : Value) (wx : World) : Prop := ∃ i : Nat, s = .int .i64 (i : Int) ∧ i ≤ n ∧ gk = n - i ∧ Below w.heap.size w wx
theorem leastMat_yes {w : World} {va : Value} {r c k : Nat} {zs : List Int} (ha : Mc w va r c zs k) :
  Calls Tryz.prog 18 #[va] w fun e w' => e = .returned (.bool true) ∧ Below w.heap.size w w' := by
 obtain ⟨ata, ps, rfl, pa1, pa2, hzl, hr, hc⟩ := ha; obtain ⟨aa, ca, rfl, hca, hna, -, hfa⟩ := pa1.form; obtain ⟨n, hn⟩ : ∃ n, ps.length = n := ⟨_, rfl⟩
 have hrc : r * c = n := by rw [← hzl, ← pa2.1, hn]
 rw [hn] at hca hna ⊢; have A0 := hid pa1; have ZA := hid pa2; rw [hn] at A0; have hzn : zs.length = n := by rw [hzl, hrc]
 have HN := hid hzn; have FA : Hid (n ≠ 0 → ∃ b off, aa = some ⟨b, off, none⟩) := fun h => by
  obtain ⟨b, off, e, -⟩ := hfa (fun e => h (by rw [← hn, e]; rfl)); exact ⟨b, off, e⟩
 obtain ⟨W0, hW⟩ : ∃ W0, w.alloc (matO r c (.slice aa n ca)) = W0 := ⟨_, rfl⟩
 obtain ⟨b0, sz0⟩ := alo1 w (matO r c (.slice aa n ca)); rw [hW] at b0 sz0; have PA : Hid (Cel W0 w.heap.size 24 (matc r c (.slice aa n ca))) := by unfold Hid; rw [← hW]; exact Cel.new w _ _
 have hm0 := zaB (i := r) (c := c) hr hc; rw [hrc] at hm0; have q1 : ¬ (r : Int) < 0 := by omega
 have q2 : ¬ (c : Int) < 0 := by omega
 have q3 : ¬ (64 : Int) < (r : Int) := by omega
 have q4 : ¬ (64 : Int) < (c : Int) := by omega
 have q1d : decide ((r : Int) < 0) = false := decide_eq_false q1; have q2d : decide ((c : Int) < 0) = false := decide_eq_false q2; have q3d : decide ((64 : Int) < (r : Int)) = false := decide_eq_false q3; have q4d : decide ((64 : Int) < (c : Int)) = false := decide_eq_false q4; have q5 : ((n : Int) != (n : Int)) = false := by simp
 have x0 := PA.out.at (i := 0) rfl; have x1 := PA.out.at (i := 1) rfl; have x2 := PA.out.at (i := 2) rfl; rw [← hW] at x0 x1 x2; have H0 : Hid (LmH W0 n n (.int .i64 0) W0) := ⟨0, rfl, Nat.zero_le _, by omega, Below.refl _ _⟩
 have A1 := hid (A0.out.now b0); have ZA1 := hid (ZA.out.now b0); have G := hid b0; have EW := hid hW; clear pa1 pa2 hfa hn hzl hrc A0 ZA b0 sz0 hW hzn; go_enter Tryz.func18, Tryz.ntmps18; go_wp2_with fail; rw [EW.out]; clear EW x0 x1 x2 q1 q2 q3 q4 q1d q2d q3d q4d q5 hm0
 go_loopg [3] n (fun gk s3 wx => LmH W0 n gk s3 wx)
 case atStart => exact H0.out
 case round =>
  clear H0; obtain ⟨i, rfl, hin, hg, hG⟩ := hrel; have B := hid hG; have HG := hid hg; have x2 := (PA.out.step hG).at (i := 2) rfl; clear hG hg
  by_cases hlt : i < n
  ·have hlt' : (i : Int) < (n : Int) := by omega
   obtain ⟨b1, o1, rfl⟩ := FA.out (by omega); obtain ⟨nf, xf, adf, qf, k0, k1, zf⟩ := Zcs.at9 (A1.out.now B.out) (ZA1.out.now B.out) (i := i) (by rw [HN.out]; exact hlt); have HS := hid (leastInt_yes zf); have hw := zQA (i := i) (by omega); have HMM : Hid (n - (i + 1) < gk) := by unfold Hid; rw [HG.out]; omega
   clear zf HG; go_wp2_with fail; refine HS.out.mono ?_; rintro e w1 ⟨rfl, b⟩; have HN1 : Hid (LmH W0 n (n - (i + 1)) (.int .i64 ((i + 1 : Nat) : Int)) w1) := ⟨i + 1, rfl, by omega, rfl, zAA B.out b⟩
   clear HS b B x2 k0 k1; go_wp2_with fail; go_roundg (n - (i + 1))
   case rel => exact HN1.out
   case measure => exact HMM.out
  ·have hlt' : ¬ (i : Int) < (n : Int) := by omega
   have FIN := hid (zAA G.out B.out); clear HG; go_wp2; go_ret; exact ⟨rfl, FIN.out⟩
end Go.Proofs.YtakkmpkkoecnhaaGreat
