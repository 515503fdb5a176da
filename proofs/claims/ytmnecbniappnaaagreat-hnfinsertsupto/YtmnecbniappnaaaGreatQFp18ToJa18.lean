/-
 QFp18ToJa18: Fp18, Lo18, Mp18, Ja18, joined.
-/
import Derived.Test.YtmnecbniappnaaaGreatQAr18ToPv18
import Derived.Test.YtmnecbniappnaaaGreatQFo18
import Derived.Test.YtmnecbniappnaaaGreatQLm6ToLeastA9
import Derived.Test.YtmnecbniappnaaaGreatQEachM11ToPr12
import Derived.Deep.AppendLies

set_option maxRecDepth 100000
set_option maxHeartbeats 6400000
set_option linter.unusedVariables false
set_option linter.unusedSimpArgs false
namespace Go.Proofs.YtmnecbniappnaaaGreat
open Go.RowKit
theorem Ivs.mono18 {B B' : Nat} {w : World} {v : Value} {l : List Nat} (h : Ivs B w v l) (hB : B' ≤ B) : Ivs B' w v l := by
 obtain ⟨q1,⟨q2,q3⟩ | ⟨g,cap,cur,q2,q3,q4⟩⟩ := h
 ·exact ⟨q1,.inl ⟨q2,q3⟩⟩
 ·exact ⟨q1,.inr ⟨g,cap,cur,q2,Nat.le_trans hB q3,q4⟩⟩
theorem Sh17.mono18 {B B' m n k : Nat} {w : World} {lv : Value} {gs : Nat → Nat} {L : Nat → Nat → Int} (h : Sh17 B w lv m n gs L k) (hB : B' ≤ B) : Sh17 B' w lv m n gs L k := by
 obtain ⟨h1,h4,h5⟩ := h;refine ⟨?_,h4,fun i hi => ⟨Nat.le_trans hB (h5 i hi).1,(h5 i hi).2⟩⟩;rcases h1 with h1 | ⟨h0,Lb,cap,r,e,e0,e1,e2⟩
 ·exact .inl h1
 ·exact .inr ⟨h0,Lb,cap,r,e,e0,Nat.le_trans hB e1,e2⟩
def zjI (w : World) (m n r : Nat) (γ : Nat → Nat) (X : Nat → Nat → Int) (k : Nat) (e : Ending) (w' : World) : Prop :=
 ∃ lv gs cv,e = .returned (.tuple #[lv,cv,.int .i64 0]) ∧ Sh17 w.heap.size w' lv m n gs X k ∧ w'.ownsRow w.heap.size 22 1 lv m (gv17 m n gs) ∧ Ivs w.heap.size w' cv (zwA γ r) ∧ Below w.heap.size w w'
theorem formAndPivotsO18 {w : World} {v : Value} {m n k r : Nat} {γ : Nat → Nat} {zs : List Int} (h : Mx w v m n zs k) (hE : Ec18 n m r id γ (en18 n zs)) (hR : Rd18 0 r id γ (en18 n zs)) :
  Calls Tryz.prog 17 #[v,.int .i64 (n : Int)] w (zjI w m n r γ (en18 n zs) k) := by
 have M0 := hid h;obtain ⟨aa,ca,rfl,hr,hc⟩ := h.form;have HZL : Hid (zs.length = m * n) := by obtain ⟨_,_,_,_,_,h,_⟩ := h;exact h
 obtain ⟨la,hla⟩ : ∃ la,m * n = la := ⟨_,rfl⟩
 rw [hla] at M0 ⊢;obtain ⟨W0,hW⟩ : ∃ W0,w.alloc (matO m n (.slice aa la ca)) = W0 := ⟨_,rfl⟩
 obtain ⟨b0,sz0⟩ := alo1 w (matO m n (.slice aa la ca));rw [hW] at b0 sz0;have pa : Cel W0 w.heap.size 24 (matc m n (.slice aa la ca)) := by rw [← hW];exact Cel.new w _ _
 have PA := hid pa;have HCK := hid (zoC (M0.out.now b0));replace M0 := hid (M0.out.now b0);have x0 := pa.at (i := 0) rfl;have x1 := pa.at (i := 1) rfl;have x2 := pa.at (i := 2) rfl;rw [← hW] at x0 x1 x2;have G := hid b0;have EW := hid hW;have HE := hid hE;have HR := hid hR;have hnn : ((n : Int) != (n : Int)) = false := by simp
 clear h b0 sz0 hW pa hE hR hla;go_enter Tryz.func17,Tryz.ntmps17;go_wp2_with fail;rw [EW.out];clear EW x0 x1 x2;refine HCK.out.mono ?_;rintro e w1 ⟨rfl,b⟩;replace PA := hid (PA.out.step b);replace M0 := hid (M0.out.now b);replace G := hid (below_step G.out b);have HL := hid (zPE M0.out);have x0 := PA.out.at (i := 0) rfl;have x1 := PA.out.at (i := 1) rfl;have x2 := PA.out.at (i := 2) rfl;clear HCK b;go_wp2_with fail;clear x0 x1 x2;refine HL.out.mono ?_;rintro e w2 ⟨lv,gs,rfl,sh,ow,b⟩;have hlen : (rowsL m n zs).length = m := by simp [rowsL]
 rw [hlen] at sh ow;have OW := hid ow;have sh2 := sh.congr (L' := en18 n zs) fun i j hi hj => zkF HZL.out hi hj
 have HP := hid (pivotsOf18 sh2 hr hc HE.out HR.out);have HS1 : Hid (w.heap.size ≤ w1.heap.size) := G.out.size;replace G := hid (below_step G.out b);obtain ⟨al,cl,rfl⟩ : ∃ al cl,lv = .slice al m cl := by
  rcases sh2.1 with ⟨e0,e⟩ | ⟨h0,Lb,cap,q,e,e1,_⟩
  ·exact ⟨none,0,by rw [e,e0]⟩
  ·exact ⟨_,cap,e⟩
 have B1 := hid b;have SH2 := hid sh2;clear HL b sh sh2 ow M0 PA hlen;go_wp2_with fail;refine HP.out.mono ?_;rintro e w3 ⟨cv,rfl,hv,b⟩;obtain ⟨ac,cc,rfl,-,-⟩ := hv.form;have FIN : Hid (zjI w m n r γ (en18 n zs) k (.returned (.tuple #[.slice al m cl,.slice ac (zwA γ r).length cc,.int .i64 0])) w3) := ⟨_,gs,_,rfl,(SH2.out.now b).mono18 HS1.out,zQC (zvB OW.out fun j _ hj => b.block j hj) HS1.out,hv.mono18 (Nat.le_trans HS1.out B1.out.size),below_step G.out b⟩
 clear HP hv b SH2 OW G B1 HE HR;generalize (zwA γ r).length = lr at *;go_wp2;go_ret3;exact FIN.out
theorem leastOf18 {w : World} {k : Nat} {v : Value} {zs : List Int} (h : Zl w v zs k) :
  Calls Tryz.prog 18 #[v] w (zFE w zs k) := by
 have V0 := hid h;have HMP : Hid (zs = (List.range zs.length).map fun j => zs.getD j 0) := by
  unfold Hid
  apply List.ext_getElem
  ·simp
  ·intro j h1 h2
   simp [h1]
 obtain ⟨a0,c0,rfl,hc0,hn0,hf0⟩ := V0.out.form9;obtain ⟨n,hn⟩ : ∃ n,zs.length = n := ⟨_,rfl⟩
 rw [hn] at V0 hc0 hn0 HMP ⊢;have HN := hid hn;have F0 := hid hf0;clear h hf0 hn;go_enter Tryz.func18,Tryz.ntmps18;go_wp2_with (at_make;refine zcA _ rfl _ _ rfl _ _ n n rfl rfl rfl rfl (Nat.le_refl _) (by omega) ?_)
 intro w1 hrow hb1 hsz1;have H0 : Hid (zXG w w.heap.size n (fun j => zs.getD j 0) k n (.int .i64 0) w1) := ⟨0,rfl,Nat.zero_le _,by omega,FilM.start hrow _ _,hb1⟩
 clear hrow hb1 hsz1;go_wp2_with fail
 go_loopg [11] n (fun gk s11 wx => zXG w w.heap.size n (fun j => zs.getD j 0) k gk s11 wx)
 case atStart => exact H0.out
 case round =>
  clear H0;obtain ⟨i,rfl,hin,hg,hfil,hG⟩ := hrel;have FI := hid hfil;have G := hid hG;have HG := hid hg;clear hfil hG hg
  by_cases hlt : i < n
  ·have hlt' : (i : Int) < (n : Int) := by omega
   obtain ⟨b1,o1,rfl⟩ := F0.out (fun e => by have := HN.out;rw [e] at this;simp at this;omega);obtain ⟨nf,xf,adf,qf,k0,k1,zf⟩ := (V0.out.now G.out).at9 (i := i) (by rw [HN.out];exact hlt);rw [zvE] at zf;obtain ⟨V1,hV⟩ : ∃ V1,wr.alloc (duo (.bool nf) (.slice adf xf.length qf)) = V1 := ⟨_,rfl⟩
   obtain ⟨b,sz1⟩ := alo1 wr (duo (.bool nf) (.slice adf xf.length qf));rw [hV] at b sz1;have PN : Hid (Duo V1 wr.heap.size (.bool nf) (.slice adf xf.length qf)) := by unfold Hid;rw [← hV];exact Duo.new wr _ _
   have HS := hid (zqE (zf.now b));have FI0 := hid (FI.out.step b);have G0 := hid (below_step G.out b);have n0 := PN.out.c0;have n1 := PN.out.c1;rw [← hV] at n0 n1;have EV := hid hV;have hw := zVA (i := i) (by omega);clear zf b sz1 hV PN FI G;go_wp2_with fail;rw [EV.out];refine HS.out.mono ?_;rintro e w1 ⟨r,rfl,m1,b⟩;have FI1 := hid (FI0.out.step b);have G1 := hid (below_step G0.out b);have M1 := hid (m1.mono (Nat.zero_le _));obtain ⟨nr,xr,ar,cr,rfl⟩ := m1.parts;obtain ⟨m0,am,lm,cm,e0,e1,e2,e3⟩ := FI1.out.cells hlt;have HN1 : Hid (zXG w w.heap.size n (fun j => zs.getD j 0) k (n - (i + 1)) (.int .i64 ((i + 1 : Nat) : Int)) ((w1.setCell ⟨w.heap.size,i * 2,none⟩ (.bool nr)).setCell ⟨w.heap.size,i * 2 + 1,none⟩ (.slice ar xr.length cr))) :=
    ⟨i + 1,rfl,by omega,rfl,FI1.out.put hlt M1.out,bset (bset G1.out (Nat.le_refl _)) (Nat.le_refl _)⟩
   have HMM : Hid (n - (i + 1) < gk) := by unfold Hid;rw [HG.out];omega
   clear HS FI0 G0 HG FI1 G1 M1 m1 b k0 k1 n0 n1 EV;go_wp2_with fail;go_roundg (n - (i + 1))
   case rel => exact HN1.out
   case measure => exact HMM.out
  ·have hlt' : ¬ (i : Int) < (n : Int) := by omega
   obtain rfl : i = n := by omega
   obtain ⟨ps,p1,pl,p2⟩ := FI.out.doneN;rw [← HMP.out] at p2;have FIN : Hid (zFE w zs k (.returned (.slice (some ⟨w.heap.size,0,none⟩) i i)) wr) := ⟨_,_,ps,rfl,Nat.le_refl _,pl,p1,p2,G.out⟩
   clear FI G HG p1 p2 pl;go_wp2;go_ret;exact FIN.out
theorem Prr.top18 {B m r c : Nat} {w : World} {a : Option Addr} {pss : List (List (Value × Value))} (h : Prr B w (.slice a m c) pss) (hr : r ≤ pss.length) : Prr B w (.slice a r c) (pss.take r) := by
 obtain ⟨a',c',h1,h2,h3,h4⟩ := h;simp only [Value.slice.injEq] at h1;obtain ⟨rfl,rfl,rfl⟩ := h1;have hl : (pss.take r).length = r := by rw [List.length_take];omega
 refine ⟨a,c,by rw [hl],by omega,by omega,?_⟩;rcases h4 with h4 | ⟨b,off,h5,h6,h7⟩
 ·exact .inl (by rw [h4];simp)
 ·refine .inr ⟨b,off,h5,h6,fun j ps hp => h7 j ps ?_⟩
  rw [List.getElem?_take] at hp
  split at hp
  ·exact hp
  ·cases hp
theorem Zcss.top18 {w : World} {m n k r : Nat} {pss : List (List (Value × Value))} {H : Nat → Nat → Int} (h : Zcss w pss ((List.range m).map fun i => (List.range n).map (H i)) k) (hr : r ≤ m) : Zcss w (pss.take r) ((List.range r).map fun i => (List.range n).map (H i)) k := by
 have hl : pss.length = m := by rw [h.1];simp
 refine ⟨by rw [List.length_take,hl];simp;omega,fun j ps hp => ?_⟩;rw [List.getElem?_take] at hp
 split at hp
 ·rename_i q
  have := h.2 j ps hp;have e1 : ((List.range m).map fun i => (List.range n).map (H i)).getD j [] = (List.range n).map (H j) := by simp [show j < m by omega]
  have e2 : ((List.range r).map fun i => (List.range n).map (H i)).getD j [] = (List.range n).map (H j) := by simp [q]
  rw [e1] at this;rw [e2];exact this
 ·cases hp
theorem ziB {w : World} {a : Option Addr} {m c r : Nat} (hr : r ≤ c) (ha : a = none ∧ c = 0 ∨ ∃ b,a = some ⟨b,0,none⟩ ∧ 0 < c) : (Instr.slice 45 (.slice a m c) none (some (.int .i64 (r : Int))) none).run Tryz.prog w = .ok (.slice a r c) w := by
 have i2 : (0 : Int) ≤ (r : Int) := by omega
 have i5 : (r : Int) ≤ (c : Int) := by omega
 rcases ha with ⟨rfl,rfl⟩ | ⟨b,rfl,h0⟩
 ·obtain rfl : r = 0 := by omega
  go_simp
 ·have i4 : ¬ c = 0 := by omega
  go_simp
theorem zNF {w : World} {m n kw : Nat} {la : Option Addr} {lc : Nat} {pss : List (List (Value × Value))} {H : Nat → Nat → Int} (hp : Prr 0 w (.slice la m lc) pss) (hz : Zcss w pss ((List.range m).map fun i => (List.range n).map (H i)) kw) (hsm : zKI n pss) (hr : m ≤ 64) (hc : n ≤ 64) :
  Calls Tryz.prog 16 #[.slice la m lc,.int .i64 (n : Int)] w (zfE w m n (zG18 m n H) kw) := by
 obtain ⟨W0,hW⟩ : ∃ W0,w.alloc mbox = W0 := ⟨_,rfl⟩
 obtain ⟨b0,sz0⟩ := alo1 w mbox;rw [hW] at b0 sz0;have PR := hid (zkB hW);have hrc : m * n ≤ 64 * 64 := Nat.mul_le_mul hr hc;have HPL : Hid (pss.length = m) := by unfold Hid;rw [hz.1];simp
 have HC := hid (zZE (hp.now b0) hsm (by rw [HPL.out];omega) (by omega));have ZF := hid (((Zcss.flat hz).now b0));rw [zVD] at ZF;have hfl := zyA m n H;obtain ⟨FT,hFT⟩ : ∃ FT,pss.flatten = FT := ⟨_,rfl⟩
 obtain ⟨ZS,hZS⟩ : ∃ ZS,zG18 m n H = ZS := ⟨_,rfl⟩
 rw [hFT] at HC ZF;rw [hZS] at ZF hfl ⊢;have HFL := hid hfl;have G := hid b0;have EW := hid hW;clear hp hz hsm hfl b0 sz0 hW hFT hZS HPL;go_enter Tryz.func16,Tryz.ntmps16;go_upto_region 1 with fail
 rw [EW.out];clear EW;go_wp2_with fail;refine HC.out.mono ?_;rintro e w1 ⟨v1,rfl,q1,b1⟩;have HMK := hid (zIG q1 (ZF.out.now b1).zis HFL.out hr hc);have B1 := hid (below_step G.out b1);have PR1 := hid (PR.out.step b1);clear HC q1 b1 G PR ZF;go_wp2_with fail;refine HMK.out.mono ?_;rintro e w2 ⟨v2,rfl,q2,b2⟩;obtain ⟨a2,c2,rfl,-,-⟩ := q2.mx.form;dsimp only [matv];obtain ⟨V3,hV3⟩ : ∃ V3,w2.alloc (.cells #[.int .i64 (m : Int),.int .i64 (n : Int),.slice a2 (m * n) c2] 24) = V3 := ⟨_,rfl⟩
 obtain ⟨b3,sz3⟩ := alo1 w2 (.cells #[.int .i64 (m : Int),.int .i64 (n : Int),.slice a2 (m * n) c2] 24);rw [hV3] at b3 sz3;have d3 : Cel V3 w2.heap.size 24 [.int .i64 (m : Int),.int .i64 (n : Int),.slice a2 (m * n) c2] := by rw [← hV3];exact Cel.new w2 _ _
 have pr := PR1.out.step (below_step b2 b3);have x0 := d3.at (i := 0) rfl;have x1 := d3.at (i := 1) rfl;have x2 := d3.at (i := 2) rfl;have y0 := pr.at (i := 0) rfl;have y1 := pr.at (i := 1) rfl;have y2 := pr.at (i := 2) rfl;have f0 := pr.fz 0;have f1 := pr.fz 1;have f2 := pr.fz 2;have FF : Hid (zfE w m n ZS kw (.returned (.agg #[.int .i64 (m : Int),.int .i64 (n : Int),.slice a2 (m * n) c2])) (put3 V3 w.heap.size (.int .i64 (m : Int)) (.int .i64 (n : Int)) (.slice a2 (m * n) c2)) ∧ Cel (put3 V3 w.heap.size (.int .i64 (m : Int)) (.int .i64 (n : Int)) (.slice a2 (m * n) c2)) w.heap.size 24 [.int .i64 (m : Int),.int .i64 (n : Int),.slice a2 (m * n) c2]) :=
  ⟨⟨_,rfl,(q2.now b3).wk pr _ _ _,bset (bset (bset (below_step B1.out (below_step b2 b3)) (Nat.le_refl _)) (Nat.le_refl _)) (Nat.le_refl _)⟩,pr.put3 _ _ _⟩
 have EV := hid hV3;rw [← hV3] at x0 x1 x2 y0 y1 y2 f0 f1 f2;clear HMK q2 b2 b3 sz3 hV3 d3 pr PR1 B1;go_wp2_with fail;rw [EV.out];refine bodyPost_ret (zGI Tryz.results16 FF.out.2 _ (by rfl)) rfl ?_;exact FF.out.1
open Go.RowKit Go.Shelf
attribute [local go_sem] Oper.semAt_some
theorem Tryz.infoSt18 : (Tryz.prog.info? 65).map (fun i => (i.zero,i.size,i.bytes)) = some (some (.agg #[.int .i64 0,.int .i64 0]),2,16) := by kernel_rfl
theorem zhD {B n s : Nat} {e : TypeId} {w w' : World} {v : Value} {xs : List Value} (h1 : w.ownsRow B e s v n xs) (k2 : w.grownBy w' v.ownBlock) (hBs : B ≤ w.heap.size) : Below B w w' := by
 refine ⟨k2.os,k2.tape,k2.output,k2.size,fun k hk => k2.block k (by omega) (fun e => ?_)⟩;obtain ⟨_,⟨q,_⟩ | ⟨g1,cap1,cur,q,q3,_⟩⟩ := h1
 ·rw [q] at e;cases e
 ·rw [q] at e
  obtain rfl : k = g1 := by simpa [Value.ownBlock] using e
  omega
theorem step_append_ln18 (w : World) {ops : Array Oper} {o : Oper} {a : Act} {K : Act → World → Prop} {Q : Exit → Act → World → Prop} {E : Prop}
  (hgd : o.guard = none) (s x : Operand) (hop : o.op = .call { callee := .builtin .append,args := #[s,x],argTypes := #[45,45] })
  (B n : Nat) (v : Value) (Us : List Value) (u : Value) (hs : a.eval s = v) (h1 : w.ownsRow B 22 1 v n Us) (gx : Nat) (hx : a.eval x = .slice (some ⟨gx,0,none⟩) 1 1) (hc : w.cell? ⟨gx,0,none⟩ = some u) (hu : u.oneCell' = true) (hlen : n ≤ 1000000000) (hBs : B ≤ w.heap.size)
  (hK : ∀ a' cap' w',Hid (w'.ownsRow B 22 1 (.slice (some ⟨a',0,none⟩) (n + 1) cap') (n + 1) (Us ++ [u])) → Hid (Ty 22 w w') → Hid (Below B w w') → K (a.put o.dst (.slice (some ⟨a',0,none⟩) (n + 1) cap')) w') :
  if Region.wanted o (yielded ops a.tmps) = true then Oper.wp Tryz.prog o a w K Q else E := by
 have hw : Region.wanted o (yielded ops a.tmps) = true := by simp [Region.wanted,hgd]
 rw [if_pos hw];obtain ⟨i,hi,hz,hsz,hby⟩ := info_parts Tryz.infoL9;have ea : ∀ j,(⟨gx,0,none⟩ : Addr).add j = ⟨gx,j,none⟩ := fun j => by unfold Addr.add;split <;> simp_all
 refine wp_append_lies w s x 45 hop B 22 i (.slice none 0 0) 1 24 Tryz.underlying45 hi hz hsz hby rfl (by omega) v n Us hs h1 ⟨gx,0,none⟩ 1 1 [u] hx rfl ?_ ?_ (by omega) (by unfold maxLen;omega) (by omega) hBs w.heap.size rfl ?_
 ·intro j u' hj
  match j,hj with
  | 0,hj => simp at hj;subst hj;rw [ea];exact hc
 ·intro u' hu'
  simp at hu';subst hu';exact hu
 ·intro g' cap' w' k1 k2 k3 k4
  exact hK _ _ w' k1 (Ty.grown h1 k2) (zhD h1 k2 hBs)
theorem wpList_append_st18 (w : World) {ops : Array Oper} {rest : List Oper} {o : Oper} {a : Act} {Q : Exit → Act → World → Prop}
  (hgd : o.guard = none) (s x : Operand) (hop : o.op = .call { callee := .builtin .append,args := #[s,x],argTypes := #[61,61] })
  (B r : Nat) (v : Value) (γ : Nat → Nat) (hs : a.eval s = v) (h1 : w.ownsRow B 65 2 v r (sc18 r id γ)) (q : Nat) (hx : a.eval x = .slice (some ⟨q,0,none⟩) 1 1)
  (hc0 : w.cell? ⟨q,0,none⟩ = some (.int .i64 (r : Int))) (hc1 : w.cell? ⟨q,1,none⟩ = some (.int .i64 (γ r : Int))) (hlen : r ≤ 64) (hBs : B ≤ w.heap.size)
  (hK : ∀ g' cap' w',Hid (w'.ownsRow B 65 2 (.slice (some ⟨g',0,none⟩) (r + 1) cap') (r + 1) (sc18 (r + 1) id γ)) → Hid (Ty 65 w w') → Hid (Below B w w') → wpList Tryz.prog ops Q rest (a.put o.dst (.slice (some ⟨g',0,none⟩) (r + 1) cap')) w') :
  wpList Tryz.prog ops Q (o :: rest) a w := by
 obtain ⟨i,hi,hz,hsz,hby⟩ := info_parts Tryz.infoSt18;have ea : ∀ j,(⟨q,0,none⟩ : Addr).add j = ⟨q,j,none⟩ := fun j => by unfold Addr.add;split <;> simp_all
 refine wpList_append_lies w hgd s x 61 hop B 65 i (.agg #[.int .i64 0,.int .i64 0]) 2 16 Tryz.underlying61 hi hz hsz hby rfl (by omega) v r (sc18 r id γ) hs h1 ⟨q,0,none⟩ 1 1 [.int .i64 (r : Int),.int .i64 (γ r : Int)] hx rfl ?_ ?_ (by omega) (by unfold maxLen;omega) (by omega) hBs w.heap.size rfl ?_
 ·intro j u' hj
  match j,hj with
  | 0,hj => simp at hj;subst hj;rw [ea];exact hc0
  | 1,hj => simp at hj;subst hj;rw [ea];exact hc1
 ·intro u' hu'
  simp at hu';rcases hu' with rfl | rfl <;> rfl
 ·intro g' cap' w' k1 k2 k3 k4
  refine hK _ _ w' ?_ (Ty.grown h1 k2) (zhD h1 k2 hBs);unfold Hid;rw [sc18_succ];exact k1
theorem own_top18 {B m r : Nat} {w : World} {v : Value} {xs : List Value} (h : w.ownsRow B 22 1 v m xs) (hr : r ≤ m) : ∃ la lc,v = .slice la m lc ∧ m ≤ lc ∧ w.ownsRow B 22 1 (.slice la r lc) r (xs.take r) ∧ (la = none ∧ lc = 0 ∨ ∃ b,la = some ⟨b,0,none⟩) := by
 obtain ⟨h0,⟨q1,q2⟩ | ⟨g,cap,cur,q1,q2,q3,q4,q5,q6,q7⟩⟩ := h
 ·subst q2
  obtain rfl : r = 0 := by omega
  refine ⟨none,0,q1,Nat.le_refl _,?_,.inl ⟨rfl,rfl⟩⟩;rw [List.take_zero];exact World.ownsRow_nil _ _ _ _
 ·refine ⟨_,cap,q1,q4,⟨by rw [List.length_take];omega,.inr ⟨g,cap,cur,rfl,q2,q3,by omega,q5,q6,?_⟩⟩,?_⟩
  ·rw [← q7,List.take_take]
   congr 1
   omega
  ·exact .inr ⟨g,rfl⟩
theorem zeD {w : World} {a : Option Addr} {m c r : Nat} (hr : r ≤ c) (ha : a = none ∧ c = 0 ∨ ∃ b,a = some ⟨b,0,none⟩) : (Instr.slice 45 (.slice a m c) none (some (.int .i64 (r : Int))) none).run Tryz.prog w = .ok (.slice a r c) w := by
 rcases ha with ⟨rfl,rfl⟩ | ⟨b,rfl⟩
 ·exact ziB hr (.inl ⟨rfl,rfl⟩)
 ·by_cases h0 : 0 < c
  ·exact ziB hr (.inr ⟨b,rfl,h0⟩)
  ·obtain rfl : c = 0 := by omega
   obtain rfl : r = 0 := by omega
   go_simp
end Go.Proofs.YtmnecbniappnaaaGreat
