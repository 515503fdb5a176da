/-
 QMu19ToSd13: Mu19, Like11, Scaled9, Lm14, Sc14, Pf19, Ld13, Pk13, Sd13, joined.
-/
import Derived.Test.YtfeofdpnhhiclaaGreatQBm19
import Derived.Test.YtfeofdpnhhiclaaGreatQLm6ToChkN9
import Derived.Test.YtfeofdpnhhiclaaGreatQUnit9ToOpenM9
import Derived.Test.YtfeofdpnhhiclaaGreatQFil9ToRowsOf9
import Derived.Test.YtfeofdpnhhiclaaGreatQEach9ToMul9
import Derived.Test.YtfeofdpnhhiclaaGreatQSa19ToAw19
import Derived.Test.YtfeofdpnhhiclaaGreatQCo13ToVo19
import Derived.Test.YtfeofdpnhhiclaaGreatQDt13ToSl13
import Derived.Test.YtfeofdpnhhiclaaGreatQPickB9ToPl19

set_option maxRecDepth 100000
set_option maxHeartbeats 6400000
set_option linter.unusedVariables false
set_option linter.unusedSimpArgs false
namespace Go.Proofs.YtfeofdpnhhiclaaGreat
open Go.RowKit
def zZH (w : World) (r c : Nat) (A : Nat → Nat → Int) (D : Int) (kw : Nat) (e : Ending) (w' : World) : Prop :=
 ∃ v H,e = .returned (.tuple #[v,.int .i64 0]) ∧ Mc w' v c c (zF c c H) kw ∧ Hb19 c H (Md19 r c A D) ∧ Below w.heap.size w w'
theorem modulo19 {w : World} {v u : Value} {r c : Nat} {zs : List Int} {z M : Int} {k k1 kw : Nat} (hm : Mx w v r c zs k1) (hd : Zi w u z k) (hz : z ≠ 0) (hMz : (z.natAbs : Int) ≤ M) (hMA : ∀ x ∈ zs,(x.natAbs : Int) ≤ M) (hM : M + 64 * ((z.natAbs : Int) * (z.natAbs : Int)) < pw kw) (hk : 1 ≤ k) (hkw : k ≤ kw) (hkw1 : k1 ≤ kw) (hK : kw ≤ 17179869184) :
  Calls Tryz.prog 9 #[v,u] w (zZH w r c (en c zs) (z.natAbs : Int) kw) := by
 have M0 := hid hm;obtain ⟨aa,ca,rfl,hr,hc⟩ := hm.form;obtain ⟨nz,xz,az,cz,rfl,-,-,-⟩ := id hd;obtain ⟨la,hla⟩ : ∃ la,r * c = la := ⟨_,rfl⟩
 rw [hla] at M0 ⊢;obtain ⟨W0,hW⟩ : ∃ W0,((w.alloc (matO r c (.slice aa la ca))).alloc (duo (.bool nz) (.slice az xz.length cz))).alloc mbox = W0 := ⟨_,rfl⟩
 obtain ⟨b0,sz0⟩ := zKB w (matO r c (.slice aa la ca)) (duo (.bool nz) (.slice az xz.length cz)) mbox;rw [hW] at b0 sz0;have pa : Cel W0 w.heap.size 24 (matc r c (.slice aa la ca)) := by
  rw [← hW];exact ((Cel.new w 24 (matc r c (.slice aa la ca))).step ((Below.refl _ _).alloc (Nat.le_refl _) _)).step ((Below.refl _ _).alloc (Nat.le_refl _) _)
 have pd : Duo W0 (w.heap.size + 1) (.bool nz) (.slice az xz.length cz) := by rw [← hW];exact zEA (zGA (by simp)) _
 have PR : Hid (Cel W0 (w.heap.size + 1 + 1) 24 [.int .i64 0,.int .i64 0,.slice none 0 0]) := by
  unfold Hid;rw [← hW];have := Cel.new ((w.alloc (matO r c (.slice aa la ca))).alloc (duo (.bool nz) (.slice az xz.length cz))) 24 [.int .i64 0,.int .i64 0,.slice none 0 0]
  simpa using this
 have HCK := hid (zJB (M0.out.now b0));have x0 := pa.at (i := 0) rfl;have x1 := pa.at (i := 1) rfl;have x2 := pa.at (i := 2) rfl;rw [← hW] at x0 x1 x2;have PA := hid pa;have PD := hid pd;have G0 := hid b0;have EW := hid hW;have SZ := hid sz0;have ZD := hid (hd.now b0);have HB : Hid (∀ w',Mx w' (matv r c (.slice aa la ca)) r c zs k1 → Zi w' (.agg #[.bool nz,.slice az xz.length cz]) z k → Calls Tryz.prog 29 #[matv r c (.slice aa la ca),.agg #[.bool nz,.slice az xz.length cz]] w' (zrF w' r c (en c zs) (z.natAbs : Int) kw)) := fun w' h1 h2 => zsC h1 h2 hz hMz hMA hM hk hkw hkw1 hK
 have HZN := hid hz;replace M0 := hid (M0.out.now b0);clear hm hd hz hMz hMA hM hk hkw hkw1 hK hla b0 sz0 hW pa pd;go_enter Tryz.func9,Tryz.ntmps9;go_wp2_with fail;rw [EW.out];clear EW x0 x1 x2;refine HCK.out.mono ?_;rintro e w1 ⟨rfl,b⟩;replace PA := hid (PA.out.step b);replace PD := hid (PD.out.step b);replace PR := hid (PR.out.step b);replace M0 := hid (M0.out.now b);replace ZD := hid (ZD.out.now b);replace G0 := hid (below_step G0.out b);have HSG := hid (zhA ZD.out);have y0 := PD.out.c0;have y1 := PD.out.c1;have hsg : ¬ cmpI z 0 = 0 := by
  have := HZN.out;unfold cmpI
  split <;> (try split) <;> omega
 obtain ⟨sg,hse⟩ : ∃ sg,cmpI z 0 = sg := ⟨_,rfl⟩
 rw [hse] at hsg HSG;clear HCK b hse;go_wp2_with fail;clear y0 y1;refine HSG.out.mono ?_;rintro e w2 ⟨rfl,b⟩;replace PA := hid (PA.out.step b);replace PD := hid (PD.out.step b);replace PR := hid (PR.out.step b);replace M0 := hid (M0.out.now b);replace ZD := hid (ZD.out.now b);replace G0 := hid (below_step G0.out b);have HBM := hid (HB.out w2 M0.out ZD.out);have x0 := PA.out.at (i := 0) rfl;have x1 := PA.out.at (i := 1) rfl;have x2 := PA.out.at (i := 2) rfl;have y0 := PD.out.c0;have y1 := PD.out.c1;clear HSG b HB;go_wp2_with fail;clear x0 x1 x2 y0 y1;refine HBM.out.mono ?_;rintro e w3 ⟨vm,H,rfl,mm,hh,b⟩;obtain ⟨am,cm,rfl,-,-⟩ := mm.mx.form;have PR2 := hid (PR.out.step b);have G2 := hid (below_step G0.out b);have r0 := PR2.out.at (i := 0) rfl;have r1 := PR2.out.at (i := 1) rfl;have r2 := PR2.out.at (i := 2) rfl;have f0 := PR2.out.fz 0;have f1 := PR2.out.fz 1;have f2 := PR2.out.fz 2;have FIN : Hid (zZH w r c (en c zs) (z.natAbs : Int) kw (.returned (.tuple #[.agg #[.int .i64 (c : Int),.int .i64 (c : Int),.slice am (c * c) cm],.int .i64 0])) (put3 w3 (w.heap.size + 1 + 1) (.int .i64 (c : Int)) (.int .i64 (c : Int)) (.slice am (c * c) cm))) :=
  ⟨_,H,rfl,mm.wk PR2.out _ _ _,hh,zHA G2.out (by omega) _ _ _⟩
 have PF := hid (PR2.out.put3 (.int .i64 (c : Int)) (.int .i64 (c : Int)) (.slice am (c * c) cm));obtain ⟨lm,hlm⟩ : ∃ lm,c * c = lm := ⟨_,rfl⟩
 rw [hlm] at FIN PF ⊢;clear HBM mm hh b PR G0 G2 PA PD M0 ZD hlm;go_wp2;exact bodyPost_ret (ziD Tryz.results9 PF.out _ (by rfl) (by rfl)) rfl FIN.out
instance snd11 (r c : Int) (l : Nat) : Decidable (Snd r c l) := by unfold Snd;infer_instance
theorem scaled1_any {w : World} {xv x0 x1 : Value} {kb l k : Nat} {K9 Z : Int} (hp : w.cell? ⟨kb,0,none⟩ = some x0) (hp1 : w.cell? ⟨kb,1,none⟩ = some x1) (hk9 : Zi w (.agg #[x0,x1]) K9 k) (hz : Zi w xv Z l) (hk : k + l ≤ 35184372088832) :
  Calls Tryz.prog 59 #[xv,.pointer (some ⟨kb,0,none⟩)] w (zwA w (K9 * Z) (k + l)) := by
 have z0 := hz;have kz0 := hk9;obtain ⟨n,xs,a,c,rfl,-,-,-⟩ := hz;obtain ⟨nk,ks,ak,ck,ek,-,-,-⟩ := hk9;simp only [Value.agg.injEq,Array.mk.injEq,List.cons.injEq,and_true] at ek;obtain ⟨rfl,rfl⟩ := ek;obtain ⟨W0,hW⟩ : ∃ W0,(w.alloc (duo (.bool n) (.slice a xs.length c))).alloc zbox = W0 := ⟨_,rfl⟩
 obtain ⟨b0,sz0⟩ := ziA w (duo (.bool n) (.slice a xs.length c)) zbox;rw [hW] at b0 sz0;have P2 : Hid (Duo W0 w.heap.size (.bool n) (.slice a xs.length c)) := by unfold Hid;rw [← hW];exact (Duo.new w _ _).later (by simp) _
 have P3 : Hid (Duo W0 (w.heap.size + 1) (.bool false) (.slice none 0 0)) := by
  unfold Hid;rw [← hW];have := Duo.new (w.alloc (duo (.bool n) (.slice a xs.length c))) (.bool false) (.slice none 0 0)
  simpa using this
 have HS := hid (zrB (kz0.now b0) (z0.now b0) hk);have k0 := cnow b0 hp;have k1 := cnow b0 hp1;have k2 := P2.out.c0;have k3 := P2.out.c1;rw [← hW] at k0 k1 k2 k3;have G0 := hid b0;have EW := hid hW;have SZ := hid sz0;clear b0 sz0 hW z0 kz0 hp hp1 hk;go_enter Tryz.func59,Tryz.ntmps59;go_wp2_with fail;rw [EW.out];refine HS.out.mono ?_;rintro e w1 ⟨r,rfl,m1,b⟩;have P31 := hid (P3.out.step b);have G1 := hid (below_step G0.out b);have HM := hid (m1.mono G0.out.size);obtain ⟨nr,xr,ar,cr,rfl⟩ := m1.parts;have r0 := P31.out.c0;have r1 := P31.out.c1;have f0 := P31.out.fz 0;have f1 := P31.out.fz 1;have FIN : Hid (zwA w (K9 * Z) (k + l) (.returned (.agg #[.bool nr,.slice ar xr.length cr])) ((w1.setCell ⟨w.heap.size + 1,0,none⟩ (.bool nr)).setCell ⟨w.heap.size + 1,1,none⟩ (.slice ar xr.length cr))) := ⟨_,rfl,HM.out.box P31.out _ _,bset (bset G1.out (by omega)) (by omega)⟩
 clear HS G0 EW m1 b SZ k0 k1 k2 k3 P2 P3;go_wp2;exact bodyPost_ret (zZB Tryz.results59 (P31.out.set _ _) _ (by rfl)) rfl FIN.out
abbrev fnScaled (kb : Nat) : Value := .func (.func 59) #[] #[.pointer (some ⟨kb,0,none⟩)]
def zdG (w : World) (g n : Nat) (F : Nat → Int) (k gk : Nat) (s : Value) (wx : World) : Prop :=
 ∃ i : Nat,s = .int .i64 (i : Int) ∧ i ≤ n ∧ gk = n - i ∧ FilM wx g n i F k ∧ Below w.heap.size w wx
def zlA (K9 : Int) (zs : List Int) : List Int := (List.range zs.length).map fun j => K9 * zs.getD j 0
theorem eachScaled_any {w : World} {kb k l : Nat} {v x0 x1 : Value} {zs : List Int} {K9 : Int} (hv : Zl w v zs l) (hp : w.cell? ⟨kb,0,none⟩ = some x0) (hp1 : w.cell? ⟨kb,1,none⟩ = some x1) (hk9 : Zi w (.agg #[x0,x1]) K9 k) (hk : k + l ≤ 35184372088832) :
  Calls Tryz.prog 58 #[v,fnScaled kb] w (zkE w (zlA K9 zs) (k + l)) := by
 have V0 := hid hv;have KZ := hid hk9;have C0 := hid hp;have C1 := hid hp1;have HK := hid hk;have HMP : Hid (zlA K9 zs = (List.range zs.length).map fun j => K9 * zs.getD j 0) := rfl;obtain ⟨RS,hRS⟩ : ∃ RS,zlA K9 zs = RS := ⟨_,rfl⟩
 rw [hRS] at HMP ⊢;obtain ⟨a0,c0,rfl,hc0,hn0,hf0⟩ := V0.out.form9;obtain ⟨n,hn⟩ : ∃ n,zs.length = n := ⟨_,rfl⟩
 rw [hn] at V0 hc0 hn0 HMP ⊢;have HN := hid hn;have F0 := hid hf0;clear hv hf0 hn hp hp1 hk9 hk hRS;go_enter Tryz.func58,Tryz.ntmps58;go_wp2_with (at_make;refine zYA _ rfl _ _ rfl _ _ n n rfl rfl rfl rfl (Nat.le_refl _) (by omega) ?_)
 intro w1 hrow hb1 hsz1;have H0 : Hid (zdG w w.heap.size n (fun j => K9 * zs.getD j 0) (k + l) n (.int .i64 0) w1) := ⟨0,rfl,Nat.zero_le _,by omega,FilM.start hrow _ _,hb1⟩
 clear hrow hb1 hsz1;go_wp2_with fail
 go_loopg [13] n (fun gk s13 wx => zdG w w.heap.size n (fun j => K9 * zs.getD j 0) (k + l) gk s13 wx)
 case atStart => exact H0.out
 case round =>
  clear H0;obtain ⟨i,rfl,hin,hg,hfil,hG⟩ := hrel;have FI := hid hfil;have G := hid hG;have HG := hid hg;clear hfil hG hg
  by_cases hlt : i < n
  ·have hlt' : (i : Int) < (n : Int) := by omega
   obtain ⟨b1,o1,rfl⟩ := F0.out (fun e => by have := HN.out;rw [e] at this;simp at this;omega);obtain ⟨nf,xf,adf,qf,k0,k1,zf⟩ := (V0.out.now G.out).at9 (i := i) (by rw [HN.out];exact hlt);rw [zoD] at zf;obtain ⟨V1,hV⟩ : ∃ V1,wr.alloc (duo (.bool nf) (.slice adf xf.length qf)) = V1 := ⟨_,rfl⟩
   obtain ⟨b,sz1⟩ := alo1 wr (duo (.bool nf) (.slice adf xf.length qf));rw [hV] at b sz1;have PN : Hid (Duo V1 wr.heap.size (.bool nf) (.slice adf xf.length qf)) := by unfold Hid;rw [← hV];exact Duo.new wr _ _
   have G0 := hid (below_step G.out b);have HS := hid (scaled1_any (cnow G0.out C0.out) (cnow G0.out C1.out) (KZ.out.now G0.out) (zf.now b) HK.out);have FI0 := hid (FI.out.step b);have n0 := PN.out.c0;have n1 := PN.out.c1;rw [← hV] at n0 n1;have EV := hid hV;have hw := zpA (i := i) (by omega);clear zf b sz1 hV PN FI G;go_wp2_with fail;rw [EV.out];refine HS.out.mono ?_;rintro e w1 ⟨r,rfl,m1,b⟩;have FI1 := hid (FI0.out.step b);have G1 := hid (below_step G0.out b);have M1 := hid (m1.mono (Nat.zero_le _));obtain ⟨nr,xr,ar,cr,rfl⟩ := m1.parts;obtain ⟨m0,am,lm,cm,e0,e1,e2,e3⟩ := FI1.out.cells hlt;have HN1 : Hid (zdG w w.heap.size n (fun j => K9 * zs.getD j 0) (k + l) (n - (i + 1)) (.int .i64 ((i + 1 : Nat) : Int)) ((w1.setCell ⟨w.heap.size,i * 2,none⟩ (.bool nr)).setCell ⟨w.heap.size,i * 2 + 1,none⟩ (.slice ar xr.length cr))) :=
    ⟨i + 1,rfl,by omega,rfl,FI1.out.put hlt M1.out,bset (bset G1.out (Nat.le_refl _)) (Nat.le_refl _)⟩
   have HMM : Hid (n - (i + 1) < gk) := by unfold Hid;rw [HG.out];omega
   clear HS FI0 G0 HG FI1 G1 M1 m1 b k0 k1 n0 n1 EV;go_wp2_with fail;go_roundg (n - (i + 1))
   case rel => exact HN1.out
   case measure => exact HMM.out
  ·have hlt' : ¬ (i : Int) < (n : Int) := by omega
   obtain rfl : i = n := by omega
   obtain ⟨ps,p1,p2⟩ := FI.out.done hn0;rw [← HMP.out] at p2;have FIN : Hid (zkE w RS (k + l) (.returned (.slice (some ⟨w.heap.size,0,none⟩) i i)) wr) := ⟨_,ps,rfl,p1,p2,G.out⟩
   clear FI G HG p1 p2;go_wp2;go_ret;exact FIN.out
theorem scaled_any {w : World} {k l : Nat} {v kv : Value} {zs : List Int} {K9 : Int} (hk9 : Zi w kv K9 k) (hv : Zl w v zs l) (hk : k + l ≤ 35184372088832) :
  Calls Tryz.prog 36 #[kv,v] w (zkE w (zlA K9 zs) (k + l)) := by
 have z0 := hk9;obtain ⟨n,xs,a,c,rfl,-,-,-⟩ := hk9;obtain ⟨W0,hW⟩ : ∃ W0,w.alloc (duo (.bool n) (.slice a xs.length c)) = W0 := ⟨_,rfl⟩
 obtain ⟨b0,sz0⟩ := alo1 w (duo (.bool n) (.slice a xs.length c));rw [hW] at b0 sz0;have P2 : Duo W0 w.heap.size (.bool n) (.slice a xs.length c) := by rw [← hW];exact Duo.new w _ _
 have HS := hid (eachScaled_any (hv.now b0) P2.c0 P2.c1 (z0.now b0) hk);obtain ⟨a0,c0,rfl,-,-,-⟩ := hv.form9;generalize zlA K9 zs = RS at *;have G0 := hid b0;have EW := hid hW;clear b0 sz0 hW z0 hv hk P2;go_enter Tryz.func36,Tryz.ntmps36;go_wp2_with fail;rw [EW.out];refine HS.out.mono ?_;rintro e w1 ⟨u,ps,rfl,p1,p2,b⟩;have FIN : Hid (zkE w RS (k + l) (.returned u) w1) := ⟨u,ps,rfl,p1,p2,below_step G0.out b⟩
 clear HS G0 EW p1 p2 b;go_wp2;go_ret;exact FIN.out

theorem zHD (z : Int) (zs : List Int) : (zlA z zs).length = zs.length := by simp [zlA]
theorem mx_zl14 {w : World} {at_ : Value} {r c l : Nat} {zs : List Int} (h : Mx w (matv r c at_) r c zs l) : Zl w at_ zs l := by
 obtain ⟨at2,ps,e,h1,h2,h3,-,-⟩ := h;simp only [matv,Value.agg.injEq] at e;have e2 : at_ = at2 := by simpa using e
 subst e2;exact zuF h1 h2
theorem zeC {w : World} {kv va : Value} {r c k l : Nat} {z : Int} {zs : List Int} (hz : Zi w kv z k) (ha : Mx w va r c zs l) (hk : k + l ≤ 35184372088832) :
  Calls Tryz.prog 15 #[kv,va] w (zBC w r c (zlA z zs) (k + l)) := by
 have M0 := ha;have Z0 := hz;obtain ⟨aa,ca,rfl,hr,hc⟩ := ha.form;obtain ⟨nk,xk,ak,ck,rfl,-,-,-⟩ := hz;obtain ⟨lk,hlk⟩ : ∃ lk,xk.length = lk := ⟨_,rfl⟩
 rw [hlk] at Z0 ⊢;have hzl : zs.length = r * c := by obtain ⟨_,_,_,_,_,h,_⟩ := M0;exact h
 have HZL := hid hzl;obtain ⟨la,hla⟩ : ∃ la,r * c = la := ⟨_,rfl⟩
 rw [hla] at M0 ⊢;have HLA := hid hla;obtain ⟨W0,hW⟩ : ∃ W0,((w.alloc (duo (.bool nk) (.slice ak lk ck))).alloc (matO r c (.slice aa la ca))).alloc mbox = W0 := ⟨_,rfl⟩
 obtain ⟨b0,sz0⟩ := zKB w (duo (.bool nk) (.slice ak lk ck)) (matO r c (.slice aa la ca)) mbox;rw [hW] at b0 sz0;have PK : Hid (Duo W0 w.heap.size (.bool nk) (.slice ak lk ck)) := by
  unfold Hid;rw [← hW];exact ((Duo.new w _ _).step ((Below.refl _ _).alloc (Nat.le_refl _) _)).step ((Below.refl _ _).alloc (Nat.le_refl _) _)
 have PA : Hid (Cel W0 (w.heap.size + 1) 24 (matc r c (.slice aa la ca))) := by
  unfold Hid;rw [← hW];have := (Cel.new (w.alloc (duo (.bool nk) (.slice ak lk ck))) 24 (matc r c (.slice aa la ca))).step ((Below.refl _ _).alloc (Nat.le_refl _) mbox)
  simpa using this
 have PR : Hid (Cel W0 (w.heap.size + 1 + 1) 24 [.int .i64 0,.int .i64 0,.slice none 0 0]) := by
  unfold Hid;rw [← hW];have := Cel.new ((w.alloc (duo (.bool nk) (.slice ak lk ck))).alloc (matO r c (.slice aa la ca))) 24 [.int .i64 0,.int .i64 0,.slice none 0 0]
  simpa using this
 have HC := hid (zJB (M0.now b0));have MA := hid (M0.now b0);have ZK := hid (Z0.now b0);have G := hid b0;have HK := hid hk;have x0 := PA.out.at (i := 0) rfl;have x1 := PA.out.at (i := 1) rfl;have x2 := PA.out.at (i := 2) rfl;rw [← hW] at x0 x1 x2;have EW := hid hW;clear ha M0 Z0 b0 sz0 hW hlk hla hzl hk;go_enter Tryz.func15,Tryz.ntmps15;go_wp2_with fail;rw [EW.out];clear EW x0 x1 x2;refine HC.out.mono ?_;rintro e w1 ⟨rfl,b⟩;replace PA := hid (PA.out.step b);replace PK := hid (PK.out.step b);replace PR := hid (PR.out.step b);replace MA := hid (MA.out.now b);replace ZK := hid (ZK.out.now b);replace G := hid (below_step G.out b);obtain ⟨b2,hb2⟩ : ∃ b2,w.heap.size + 1 = b2 := ⟨_,rfl⟩
 obtain ⟨b3,hb3⟩ : ∃ b3,b2 + 1 = b3 := ⟨_,rfl⟩
 obtain ⟨b1,hb1⟩ : ∃ b1,w.heap.size = b1 := ⟨_,rfl⟩
 rw [hb2,hb3] at PR;rw [hb2] at PA;rw [hb1] at PK;rw [hb2,hb3,hb1];have HB : Hid (w.heap.size ≤ b3 ∧ w.heap.size ≤ b1) := by unfold Hid;omega
 have x0 := PA.out.at (i := 0) rfl;have x1 := PA.out.at (i := 1) rfl;have x2 := PA.out.at (i := 2) rfl;have y0 := PK.out.c0;have y1 := PK.out.c1;clear HC b hb1 hb2 hb3;go_wp2_with fail;have KB : Hid (∀ w',Below w1.heap.size w1 w' → w'.cell? ⟨b2,0,none⟩ = some (.int .i64 (r : Int)) ∧ w'.cell? ⟨b2,1,none⟩ = some (.int .i64 (c : Int)) ∧ w'.cell? ⟨b2,2,none⟩ = some (.slice aa la ca) ∧ w'.cell? ⟨b1,0,none⟩ = some (.bool nk) ∧ w'.cell? ⟨b1,1,none⟩ = some (.slice ak lk ck)) := fun w' h => ⟨cnow h x0,cnow h x1,cnow h x2,cnow h y0,cnow h y1⟩
 refine zFA (fun w' => w'.cell? ⟨b2,0,none⟩ = some (.int .i64 (r : Int)) ∧ w'.cell? ⟨b2,1,none⟩ = some (.int .i64 (c : Int)) ∧ w'.cell? ⟨b2,2,none⟩ = some (.slice aa la ca) ∧ w'.cell? ⟨b1,0,none⟩ = some (.bool nk) ∧ w'.cell? ⟨b1,1,none⟩ = some (.slice ak lk ck)) 9 (by kernel_rfl) ?_;obtain ⟨D1,hD⟩ : ∃ D1,w1.drew = D1 := ⟨_,rfl⟩
 have GB : Hid (Below w1.heap.size w1 D1) := by unfold Hid;rw [← hD];exact (Below.refl _ _).drew
 rw [hD];clear hD;refine zBA (i := 0) (oi := ⟨some 13,.fieldAddr 24 (.tmp 3) 0,0, "ring.go:23",#[],none⟩) (v := (.pointer (some ⟨b2,0,none⟩))) rfl (by kernel_rfl) (fun _ _ _ h => h) (Or.inl ⟨by rfl,?_⟩) (KB.out _ GB.out) ?_
 ·intro w hSw;(try dsimp only at hSw);go_simp
 simp only [Act.put,sIb,sC0,sC1];refine zBA (i := 1) (oi := ⟨some 14,.load 3 (.tmp 13),3, "ring.go:23",#[⟨0,.data⟩],none⟩) (v := (.int .i64 (r : Int))) rfl (by kernel_rfl) (fun _ _ _ h => h) (Or.inl ⟨by rfl,?_⟩) (KB.out _ GB.out) ?_
 ·intro w hSw;(try dsimp only at hSw);go_simp
 simp only [Act.put,sIb,sC0,sC1];refine zBA (i := 2) (oi := ⟨some 15,.fieldAddr 24 (.tmp 3) 1,0, "ring.go:23",#[],none⟩) (v := (.pointer (some ⟨b2,1,none⟩))) rfl (by kernel_rfl) (fun _ _ _ h => h) (Or.inl ⟨by rfl,?_⟩) (KB.out _ GB.out) ?_
 ·intro w hSw;(try dsimp only at hSw);go_simp
 simp only [Act.put,sIb,sC0,sC1];refine zBA (i := 3) (oi := ⟨some 16,.load 3 (.tmp 15),3, "ring.go:23",#[⟨2,.data⟩],none⟩) (v := (.int .i64 (c : Int))) rfl (by kernel_rfl) (fun _ _ _ h => h) (Or.inl ⟨by rfl,?_⟩) (KB.out _ GB.out) ?_
 ·intro w hSw;(try dsimp only at hSw);go_simp
 simp only [Act.put,sIb,sC0,sC1];refine zBA (i := 4) (oi := ⟨some 17,.load 27 (.tmp 2),27, "ring.go:23",#[],none⟩) (v := (.agg #[.bool nk,.slice ak lk ck])) rfl (by kernel_rfl) (fun _ _ _ h => h) (Or.inl ⟨by rfl,?_⟩) (KB.out _ GB.out) ?_
 ·intro w hSw;(try dsimp only at hSw);go_simp
 simp only [Act.put,sIb,sC0,sC1];refine zBA (i := 5) (oi := ⟨some 18,.fieldAddr 24 (.tmp 3) 2,0, "ring.go:23",#[],none⟩) (v := (.pointer (some ⟨b2,2,none⟩))) rfl (by kernel_rfl) (fun _ _ _ h => h) (Or.inl ⟨by rfl,?_⟩) (KB.out _ GB.out) ?_
 ·intro w hSw;(try dsimp only at hSw);go_simp
 simp only [Act.put,sIb,sC0,sC1];refine zBA (i := 6) (oi := ⟨some 19,.load 22 (.tmp 18),22, "ring.go:23",#[⟨5,.data⟩],none⟩) (v := (.slice aa la ca)) rfl (by kernel_rfl) (fun _ _ _ h => h) (Or.inl ⟨by rfl,?_⟩) (KB.out _ GB.out) ?_
 ·intro w hSw;(try dsimp only at hSw);go_simp
 simp only [Act.put,sIb,sC0,sC1];refine zAA (i := 7) (o := ⟨some 20,.call { callee := .value (.func 36),args := #[.tmp 17,.tmp 19],argTypes := #[27,22] },22, "ring.go:23",#[⟨4,.data⟩,⟨6,.data⟩],none⟩) (by kernel_rfl) rfl (fun K hK => ?_);go_simp;go_at_call 36;refine (scaled_any (ZK.out.now GB.out) (mx_zl14 (MA.out.now GB.out)) HK.out).mono ?_;rintro e w2 ⟨u,psu,rfl,hpt,hzm,b⟩;have lz2 := (show Below _ _ _ from b).size;replace GB := hid (below_step GB.out b);obtain ⟨au,cu,rfl,hcu,hnu,-,-⟩ := hpt.1.form;have hpl : psu.length = la := by rw [hzm.1,zHD,HZL.out,HLA.out]
 rw [hpl];have MM : Hid (Mc w2 (matv r c (.slice au la cu)) r c (zlA z zs) (k + l)) := by
  have h := hpt.1;rw [hpl] at h;exact ⟨_,psu,rfl,h,hzm.zcs,by rw [zHD];exact HZL.out,hr,hc⟩
 clear hpt hzm hcu hnu hpl;clear b;refine hK.out _ _ (fun _ => KB.out _ GB.out) ?_;clear hK;refine zBA (i := 8) (oi := ⟨some 21,.build 24 #[(0,.tmp 14),(1,.tmp 16),(2,.tmp 20)],24, "ring.go:23",#[⟨1,.data⟩,⟨3,.data⟩,⟨7,.data⟩],none⟩) (v := (.agg #[.int .i64 (r : Int),.int .i64 (c : Int),.slice au la cu])) rfl (by kernel_rfl) (fun _ _ _ h => h) (Or.inl ⟨by rfl,?_⟩) (KB.out _ GB.out) ?_
 ·intro w hSw;(try dsimp only at hSw);go_simp
 simp only [Act.put,sIb,sC0,sC1];refine zAA (i := 9) (o := ⟨none,.store 24 (.tmp 4) (.tmp 21),0, "ring.go:23",#[⟨8,.data⟩,⟨7,.chain⟩,⟨0,.phase⟩,⟨1,.phase⟩,⟨2,.phase⟩,⟨3,.phase⟩,⟨4,.phase⟩,⟨5,.phase⟩,⟨6,.phase⟩,⟨7,.phase⟩,⟨8,.phase⟩],none⟩) (by kernel_rfl) rfl (fun K hK => ?_);have PR2 := hid (PR.out.step GB.out);have e0 := PR2.out.at (i := 0) rfl;have e1 := PR2.out.at (i := 1) rfl;have e2 := PR2.out.at (i := 2) rfl;have f0 := PR2.out.fz 0;have f1 := PR2.out.fz 1;have f2 := PR2.out.fz 2;go_simp;clear e0 e1 e2 f0 f1 f2;obtain ⟨V3,hW⟩ : ∃ V3,(put3 w2 b3 (.int .i64 (r : Int)) (.int .i64 (c : Int)) (.slice au la cu)) = V3 := ⟨_,rfl⟩
 have FIN : Hid (zBC w r c (zlA z zs) (k + l) (.returned (.tuple #[.agg #[.int .i64 (r : Int),.int .i64 (c : Int),.slice au la cu],.int .i64 0])) V3) := by
  unfold Hid;rw [← hW];exact ⟨_,rfl,MM.out.wk PR2.out _ _ _,zHA (below_step G.out GB.out) HB.out.1 _ _ _⟩
 have PF : Hid (Cel V3 b3 24 [.int .i64 (r : Int),.int .i64 (c : Int),.slice au la cu]) := by unfold Hid;rw [← hW];exact PR2.out.put3 _ _ _
 replace hW : ((w2.setCell ⟨b3,0,none⟩ (.int .i64 (r : Int))).setCell ⟨b3,1,none⟩ (.int .i64 (c : Int))).setCell ⟨b3,2,none⟩ (.slice au la cu) = V3 := hW;rw [hW];clear hW;refine hK.out _ _ (fun h => absurd h (by decide)) ?_;clear hK
 try simp only [Act.put]
 refine zAA (i := 10) (o := ⟨some 5,.assign (.const (.int .i64 0)),29, "ring.go:23",#[⟨9,.chain⟩,⟨0,.phase⟩,⟨1,.phase⟩,⟨2,.phase⟩,⟨3,.phase⟩,⟨4,.phase⟩,⟨5,.phase⟩,⟨6,.phase⟩,⟨7,.phase⟩,⟨8,.phase⟩,⟨9,.phase⟩],none⟩) (by kernel_rfl) rfl (fun K hK => ?_);go_simp;refine hK.out _ _ (fun h => absurd h (by decide)) ?_;clear hK
 try simp only [Act.put]
 refine zCA (by kernel_rfl) ?_ _;clear GB KB MM PR2;go_wp2;exact bodyPost_ret (ziD Tryz.results15 PF.out _ (by rfl) (by rfl)) rfl FIN.out
theorem zaD {n : Nat} : ∀ {t : Nat},t ≤ n → ∀ i j,i < n → j < n → en n (zBB n t) i j = if i < t then un19 1 i j else 0
 | 0,_,i,j,hi,hj => by
  have := zpE hi hj;simp [en,zBB,this]
 | t + 1,ht,i,j,hi,hj => by
  have ih := zaD (t := t) (by omega) i j hi hj;have hl := zpE hi hj;have hlt := zpE (show t < n by omega) (show t < n by omega);have hu := zzA n t;unfold en at ih ⊢
  show ((zBB n t).set (t * n + t) 1).getD (i * n + j) 0 = _
  by_cases e : i * n + j = t * n + t
  ·have e1 := zhG (i := i) hj
   have e2 := zhG (n := n) (i := t) (j := t) (by omega);rw [e] at e1;have hit : i = t := by omega
   have hjt : j = t := by omega
   subst hit;subst hjt;rw [if_pos (by omega)];simp [hu,hl,un19]
  ·rw [List.getD_eq_getElem?_getD,List.getElem?_set_ne (by omega),← List.getD_eq_getElem?_getD,ih]
   by_cases q : i < t
   ·rw [if_pos q,if_pos (by omega)]
   ·rw [if_neg q]
    by_cases q2 : i = t
    ·subst q2
     rw [if_pos (by omega)];unfold un19;rw [if_neg (fun q3 => e (by rw [q3]))]
    ·rw [if_neg (by omega)]
theorem unit_zF19 (n : Nat) : zBB n n = zF n n (un19 1) := by
 rw [← zgH (zzA n n)];exact zCC fun i j hi hj => by rw [zaD (Nat.le_refl _) i j hi hj,if_pos hi]
theorem zHE {r c : Nat} {z : Int} {zs : List Int} (hl : zs.length = r * c) {i j : Nat} (hi : i < r) (hj : j < c) : en c (zlA z zs) i j = z * en c zs i j := by
 have := zpE hi hj;unfold en zlA;simp [hl,this]
theorem scale_unit19 (n : Nat) (z : Int) : zlA z (zBB n n) = zF n n (un19 z) := by
 have hl : (zlA z (zBB n n)).length = n * n := by simp [zlA,zzA]
 rw [← zgH hl];refine zCC fun i j hi hj => ?_
 rw [zHE (zzA n n) hi hj,zaD (Nat.le_refl _) i j hi hj,if_pos hi];unfold un19
 split <;> simp
theorem per_neg19 {c r : Nat} {A H G : Nat → Nat → Int} {d : Int} (h : Hb19 c H (Md19 r c A (d.natAbs : Int))) (g : Hb19 c G (Md19 r c A ((-d).natAbs : Int))) : zF c c H = zF c c G := by
 rw [Int.natAbs_neg] at g;exact zCC (h.one g fun v => Iff.rfl)
theorem per_two19 {c r : Nat} {A H W Z : Nat → Nat → Int} {d k : Int} (h : Hb19 c H (Md19 r c A (d.natAbs : Int))) (hW : Hb19 c W (Md19 r c A ((d * k).natAbs : Int))) (hZ : Hb19 c Z (Md19 c c (en c (zF c c W)) (d.natAbs : Int))) : zF c c H = zF c c Z := by
 rw [Int.natAbs_mul,Int.natCast_mul] at hW;refine zCC (h.one hZ fun v => ?_);rw [Md19.congr (B := W) (fun i j hi hj => zkH hi hj)];exact (per_two hW v).symm
theorem per_one19 {c r : Nat} {A H : Nat → Nat → Int} (h : Hb19 c H (Md19 r c A ((1 : Int).natAbs : Int))) : zF c c H = zBB c c := by
 rw [unit_zF19];exact zCC (h.one (per_one A) fun v => Iff.rfl)
theorem per_mul19 {c r : Nat} {zs : List Int} {H : Nat → Nat → Int} {d : Int} (hd : d ≠ 0) (hl : zs.length = r * c) (h : Hb19 c H (Md19 r c (en c (zlA d zs)) (d.natAbs : Int))) : zF c c H = zlA (d.natAbs : Int) (zBB c c) := by
 rw [scale_unit19];exact zCC (h.one (zDG (A := en c zs) hd fun i j hi hj => zHE hl hi hj) fun v => Iff.rfl)
theorem zfA {w : World} {v u : Value} {r c : Nat} {zs : List Int} {z : Int} {k k1 a : Nat} (hm : Mx w v r c zs k1) (hd : Zi w u z k) (hz : z ≠ 0) (hk : 1 ≤ k) (hka : k ≤ a) (hk1 : k1 ≤ a) (ha : a ≤ 8000000000) :
  Calls Tryz.prog 9 #[v,u] w (zZH w r c (en c zs) (z.natAbs : Int) (2 * a + 1)) := by
 have mono : ∀ {x y : Nat},x ≤ y → pw x ≤ pw y := fun {x y} h => by rw [pw13,pw13];exact Int.ofNat_le.2 (Nat.pow_le_pow_right (by omega) (by omega))
 have hdl := hd.lt;have m1 := mono hka;have m2 := mono hk1;refine modulo19 (M := pw a) hm hd hz (by omega) (fun x hx => ?_) (zCG (by omega) (by omega)) hk (by omega) (by omega) (by omega);obtain ⟨_,_,_,_,h,_⟩ := hm;have := h.lt x hx;omega
open Go.RowKit Go.Shelf
attribute [local go_sem] Oper.semAt_some
end Go.Proofs.YtfeofdpnhhiclaaGreat
namespace Go.Proofs.YtfeofdpnhhiclaaGreat
open Go.RowKit
theorem snd13 {r c : Int} {l : Nat} (h : Snd r c l) : ∃ a b : Nat,r = (a : Int) ∧ c = (b : Int) := by
 obtain ⟨h1,h2,h3,h4,h5⟩ := h;exact ⟨r.toNat,c.toNat,by omega,by omega⟩
theorem Raw.mx13 {w : World} {v : Value} {r c : Nat} {l : Nat} {zs : List Int} (h : Raw w v (r : Int) (c : Int) l zs) (hs : Snd (r : Int) (c : Int) l) : Mx w v r c zs 1048576 ∧ l = r * c := ⟨h.mx hs,by have := hs.2.2.2.2;exact Int.ofNat.inj this⟩
end Go.Proofs.YtfeofdpnhhiclaaGreat
