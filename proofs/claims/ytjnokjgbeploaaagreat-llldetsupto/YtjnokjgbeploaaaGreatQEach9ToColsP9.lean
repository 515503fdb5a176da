/-
 QEach9ToColsP9: Each9, DotsA9, ColsP9, joined.
-/
import Derived.Test.YtjnokjgbeploaaaGreatQRows9ToCat9

set_option maxRecDepth 100000
set_option maxHeartbeats 6400000
set_option linter.unusedVariables false
set_option linter.unusedSimpArgs false
namespace Go.Proofs.YtjnokjgbeploaaaGreat
open Go.RowKit
abbrev mbox:Obj:=.cells #[.int .i64 0,.int .i64 0,.slice none 0 0] 24
def zqH (w:World) (r c:Nat) (ps:List (Value×Value)) (e:Ending) (w':World):Prop:=∃at_,e=.returned (matv r c at_)∧Prs w.heap.size w' at_ ps∧Below w.heap.size w w'
theorem mbox_new {w W0:World} (hW:w.alloc mbox=W0):Cel W0 w.heap.size 24 [.int .i64 0,.int .i64 0,.slice none 0 0]:=by rw [←hW];exact Cel.new w _ _
theorem zoC {w:World} {B m C R:Nat} {v:Value} {pss:List (List (Value×Value))} (hv:Prr B w v pss) (hm:zoH m pss) (hl:pss.length*m≤1048576) (hm1:m≤1048576) (hR:pss.length=R) :
  Calls Tryz.prog 38 #[v,.int .i64 (C:Int)] w (zqH w R C pss.flatten):=by
 obtain ⟨W0,hW⟩:∃W0,w.alloc mbox=W0:=⟨_,rfl⟩
 obtain ⟨b0,sz0⟩:=alo1 w mbox;rw [hW] at b0 sz0;have P4:=hid (mbox_new hW);have HC:=hid (concat_any (hv.now b0) hm hl hm1);obtain ⟨a0,c0,rfl,hc0,hn0,hf0⟩:=hv.form;rw [hR] at HC hc0 hn0 ⊢;generalize pss.flatten=FT at *;have G0:=hid b0;have EW:=hid hW;have SZ:=hid sz0;clear b0 hW sz0 hv hm hf0 hR hl;go_enter Tryz.func38,Tryz.ntmps38;go_wp2_with fail;rw [EW.out];refine HC.out.mono ?_;rintro e w1 ⟨u,rfl,p1,b⟩;obtain ⟨au,cu,rfl,-,-,-,-⟩:=p1.form;have P41:=hid (P4.out.step b);have G1:=hid (zBA G0.out b);have HP:=hid p1;have r0:=P41.out.at (i:=0) rfl;have r1:=P41.out.at (i:=1) rfl;have r2:=P41.out.at (i:=2) rfl;have f0:=P41.out.fz 0;have f1:=P41.out.fz 1;have f2:=P41.out.fz 2;have HB:Hid (w.heap.size<W0.heap.size):=by unfold Hid;rw [SZ.out];omega
 have FIN:Hid (zqH w R C FT (.returned (.agg #[.int .i64 (R:Int),.int .i64 (C:Int),.slice au FT.length cu])) (put3 w1 w.heap.size (.int .i64 (R:Int)) (.int .i64 (C:Int)) (.slice au FT.length cu))):=⟨_,rfl,(HP.out.put3 HB.out _ _ _).mono (Nat.le_of_lt HB.out),zSA G1.out (Nat.le_refl _) _ _ _⟩
 have PF:=hid (P41.out.put3 (.int .i64 (R:Int)) (.int .i64 (C:Int)) (.slice au FT.length cu));clear HC P4 G0 EW p1 b SZ HP G1 P41;go_wp2;exact bodyPost_ret (zhF Tryz.results38 PF.out _ (by rfl)) rfl FIN.out
theorem dots1_any {w:World} {xv cv:Value} {pb k l:Nat} {xs ys:List Int} (hp:w.cell? ⟨pb,0,none⟩=some xv) (hx:Zl w xv xs k) (hc:Zl w cv ys l) (he:ys.length=xs.length) (hk:k+l+xs.length<35184372088832) :
  Calls Tryz.prog 63 #[cv,.pointer (some ⟨pb,0,none⟩)] w (zWA w (dotv xs ys) (k+l+xs.length)):=by
 obtain ⟨W0,hW⟩:∃W0,w.alloc zbox=W0:=⟨_,rfl⟩
 obtain ⟨b0,sz0⟩:=alo1 w zbox;rw [hW] at b0 sz0;have P3:Hid (Duo W0 w.heap.size (.bool false) (.slice none 0 0)):=by unfold Hid;rw [←hW];exact Duo.new w _ _
 have HD:=hid (zZH (hx.now b0) (hc.now b0) he hk);have k0:(w.alloc zbox).cell? ⟨pb,0,none⟩=some xv:=by rw [hW];exact cnow b0 hp
 obtain ⟨a0,c0,rfl,-,-,-⟩:=hx.form9;obtain ⟨a1,c1,rfl,-,-,-⟩:=hc.form9;have G0:=hid b0;have EW:=hid hW;have SZ:=hid sz0;clear b0 hW sz0 hx hc hp hk he;generalize dotv xs ys=dd at *;generalize k+l+xs.length=kk at *;go_enter Tryz.func63,Tryz.ntmps63;go_wp2_with fail;rw [EW.out];refine HD.out.mono ?_;rintro e w1 ⟨r,rfl,m1,b⟩;obtain ⟨nr,xr,ar,cr,rfl⟩:=m1.parts;obtain ⟨V1,hV⟩:∃V1,w1.alloc (duo (.bool nr) (.slice ar xr.length cr))=V1:=⟨_,rfl⟩
 obtain ⟨b1,sz1⟩:=alo1 w1 (duo (.bool nr) (.slice ar xr.length cr));rw [hV] at b1 sz1;have P4:Hid (Duo V1 w1.heap.size (.bool nr) (.slice ar xr.length cr)):=by unfold Hid;rw [←hV];exact Duo.new w1 _ _
 have P31:=hid ((P3.out.step b).step b1);have G1:=hid (zBA (zBA G0.out b) b1);have HM:=hid (m1.now b1);have HB:Hid (w.heap.size<W0.heap.size):=by unfold Hid;rw [SZ.out];omega
 have r0:=P31.out.c0;have r1:=P31.out.c1;have f0:=P31.out.fz 0;have f1:=P31.out.fz 1;have s0:=P4.out.c0;have s1:=P4.out.c1;rw [←hV] at r0 r1 f0 f1 s0 s1;have EV:=hid hV;clear HD P3 G0 EW m1 b b1 SZ hV sz1 k0;go_wp2;rw [EV.out];exact bodyPost_ret (znA Tryz.results63 (P31.out.set _ _) _ (by rfl)) rfl ⟨_,rfl,(HM.out.mono (Nat.le_of_lt HB.out)).box P31.out _ _,bset (bset G1.out (Nat.le_refl _)) (Nat.le_refl _)⟩
abbrev fnDots (pb:Nat):Value:=.func (.func 63) #[] #[.pointer (some ⟨pb,0,none⟩)]
def zKD (w:World) (g n:Nat) (F:Nat→Int) (k gk:Nat) (s:Value) (wx:World):Prop :=
 ∃i:Nat,s=.int .i64 (i:Int)∧i≤n∧gk=n-i∧Fil wx g n i F k∧Below w.heap.size w wx
def zcB (w:World) (zs:List Int) (k:Nat) (e:Ending) (w':World):Prop:=∃u ps,e=.returned u∧Prs w.heap.size w' u ps∧Zcs w' ps zs k∧Below w.heap.size w w'
def Ziss (w:World) (pss:List (List (Value×Value))) (zss:List (List Int)) (k:Nat):Prop:=pss.length=zss.length∧∀(j:Nat) (ps:List (Value×Value)),pss[j]?=some ps→Zis w ps (zss.getD j []) k
theorem Ziss.now {w w':World} {pss:List (List (Value×Value))} {zss:List (List Int)} {k:Nat} (h:Ziss w pss zss k) (hb:Below w.heap.size w w'):Ziss w' pss zss k:=⟨h.1,fun j ps hp=>(h.2 j ps hp).now hb⟩
theorem eachDots_any {w:World} {B pb k l:Nat} {v xv:Value} {pss:List (List (Value×Value))} {zss:List (List Int)} {xs:List Int} (hv:Prr B w v pss) (hz:Ziss w pss zss l) (hp:w.cell? ⟨pb,0,none⟩=some xv) (hx:Zl w xv xs k) (he:∀ys∈zss,ys.length=xs.length) (hk:k+l+xs.length<35184372088832) :
  Calls Tryz.prog 62 #[v,fnDots pb] w (zcB w (zss.map (dotv xs)) (k+l+xs.length)):=by
 have V0:=hid hv;have X0:=hid hx;have Z0:=hid hz;have C0:=hid hp;have HE:Hid (∀j,j<zss.length→(zss.getD j []).length=xs.length):=fun j hj=>by
  have e:zss.getD j []=zss[j]:=by simp [hj]
  rw [e];exact he _ (List.getElem_mem hj)
 have HK:=hid hk;have HMP:Hid (zss.map (dotv xs)=(List.range zss.length).map fun j=>dotv xs (zss.getD j [])):=by
  unfold Hid
  apply List.ext_getElem
  ·simp
  ·intro j h1 h2
   simp at h1;simp [h1]
 obtain ⟨a0,c0,rfl,hc0,hn0,hf0⟩:=hv.form;obtain ⟨n,hn⟩:∃n,pss.length=n:=⟨_,rfl⟩
 have hzl:=hz.1;rw [hn] at V0 hc0 hn0 hzl ⊢;rw [←hzl] at HMP HE;have HN:=hid hn;have F0:=hid hf0;clear hv hx hz hp he hk hf0 hn hzl;generalize zss.map (dotv xs)=RS at *;go_enter Tryz.func62,Tryz.ntmps62;go_wp2_with (at_make;refine zUA _ rfl _ _ rfl _ _ n n rfl rfl rfl rfl (Nat.le_refl _) (by omega) ?_)
 intro w1 hrow hb1 hsz1;have H0:Hid (zKD w w.heap.size n (fun j=>dotv xs (zss.getD j [])) (k+l+xs.length) n (.int .i64 0) w1):=⟨0,rfl,Nat.zero_le _,by omega,Fil.start hrow _ _,hb1⟩
 clear hrow hb1 hsz1;go_wp2_with fail
 go_loopg [13] n (fun gk s13 wx=>zKD w w.heap.size n (fun j=>dotv xs (zss.getD j [])) (k+l+xs.length) gk s13 wx)
 case atStart=>exact H0.out
 case round =>
  clear H0;obtain ⟨i,rfl,hin,hg,hfil,hG⟩:=hrel;have FI:=hid hfil;have G:=hid hG;have HG:=hid hg;clear hfil hG hg
  by_cases hlt:i<n
  ·have hlt':(i:Int)<(n:Int):=by omega
   obtain ⟨b1,o1,rfl⟩:=F0.out (fun e=>by have:=HN.out;rw [e] at this;simp at this;omega);have hpi:pss[i]?=some (pss[i]'(by rw [HN.out];exact hlt)):=List.getElem?_eq_getElem (by rw [HN.out];exact hlt);obtain ⟨u,k0,pu⟩:=(V0.out.now G.out).at (i:=i) hpi;have HS:=hid (dots1_any (cnow G.out C0.out) (X0.out.now G.out) (zME pu ((Z0.out.2 i _ hpi).now G.out)) (HE.out i hlt) HK.out);obtain ⟨au,cu,rfl,-,-,-,-⟩:=pu.form;have hw:=zNA (i:=i) (by omega);clear hpi pu;go_wp2_with fail;refine HS.out.mono ?_;rintro e w1 ⟨r,rfl,m1,b⟩;have FI1:=hid (FI.out.step b);have G1:=hid (zBA G.out b);have M1:=hid m1.zc;obtain ⟨nr,xr,ar,cr,rfl⟩:=m1.parts;obtain ⟨m0,am,lm,cm,e0,e1,e2,e3⟩:=FI1.out.cells hlt;have HN1:Hid (zKD w w.heap.size n (fun j=>dotv xs (zss.getD j [])) (k+l+xs.length) (n-(i+1)) (.int .i64 ((i+1:Nat):Int)) ((w1.setCell ⟨w.heap.size,i*2,none⟩ (.bool nr)).setCell ⟨w.heap.size,i*2+1,none⟩ (.slice ar xr.length cr))) :=
    ⟨i+1,rfl,by omega,rfl,FI1.out.put hlt M1.out,bset (bset G1.out (Nat.le_refl _)) (Nat.le_refl _)⟩
   have HMM:Hid (n-(i+1)<gk):=by unfold Hid;rw [HG.out];omega
   clear HS FI G HG FI1 G1 M1 m1 b k0;go_wp2_with fail;go_roundg (n-(i+1))
   case rel=>exact HN1.out
   case measure=>exact HMM.out
  ·have hlt':¬(i:Int)<(n:Int):=by omega
   obtain rfl:i=n:=by omega
   obtain ⟨ps,p1,p2⟩:=FI.out.done (B:=w.heap.size) (Nat.le_refl _) hn0;rw [←HMP.out] at p2;have FIN:Hid (zcB w RS (k+l+xs.length) (.returned (.slice (some ⟨w.heap.size,0,none⟩) i i)) wr):=⟨_,ps,rfl,p1,p2,G.out⟩
   clear FI G HG p1 p2;go_wp2;go_ret;exact FIN.out
theorem dots_any {w:World} {B k l:Nat} {v xv:Value} {pss:List (List (Value×Value))} {zss:List (List Int)} {xs:List Int} (hv:Prr B w v pss) (hz:Ziss w pss zss l) (hx:Zl w xv xs k) (he:∀ys∈zss,ys.length=xs.length) (hk:k+l+xs.length<35184372088832) :
  Calls Tryz.prog 43 #[xv,v] w (zcB w (zss.map (dotv xs)) (k+l+xs.length)):=by
 have X0:=hid hx;obtain ⟨a1,c1,rfl,-,-,-⟩:=hx.form9;obtain ⟨W0,hW⟩:∃W0,w.alloc (.cells #[.slice a1 xs.length c1] 22)=W0:=⟨_,rfl⟩
 obtain ⟨b0,sz0⟩:=alo1 w (.cells #[.slice a1 xs.length c1] 22);rw [hW] at b0 sz0;have hp:W0.cell? ⟨w.heap.size,0,none⟩=some (.slice a1 xs.length c1):=by rw [←hW];exact (Cel.new w 22 [.slice a1 xs.length c1]).at (i:=0) rfl
 have HC:=hid (eachDots_any (hv.now b0) (hz.now b0) hp (X0.out.now b0) he hk);obtain ⟨a0,c0,rfl,-,-,-⟩:=hv.form;have G0:=hid b0;have EW:=hid hW;clear hv hz hx he hk b0 hW sz0 hp X0;generalize zss.map (dotv xs)=RS at *;generalize k+l+xs.length=kk at *;go_enter Tryz.func43,Tryz.ntmps43;go_wp2_with fail;rw [EW.out];refine HC.out.mono ?_;rintro e w1 ⟨u,ps,rfl,p1,p2,b⟩;have FIN:Hid (zcB w RS kk (.returned u) w1):=⟨u,ps,rfl,p1.mono G0.out.size,p2,zBA G0.out b⟩
 clear HC G0 EW p1 p2 b;go_wp2;go_ret;exact FIN.out
theorem zAB (w:World) {ops:Array Oper} {o:Oper} {a:Act} {K:Act→World→Prop} {Q:Exit→Act→World→Prop} {E:Prop}
  (hgd:o.guard=none) (s x:Operand) (hop:o.op=.call { callee:=.builtin .append,args:=#[s,x],argTypes:=#[22,22] })
  (B:Nat) (v:Value) (ps:List (Value×Value)) (hs:a.eval s=v) (hB:OwnP B w v ps) (g:Nat) (x0 x1:Value) (hx:a.eval x=.slice (some ⟨g,0,none⟩) 1 1) (hc0:w.cell? ⟨g,0,none⟩=some x0) (hc1:w.cell? ⟨g,1,none⟩=some x1) (hi:IsI (x0,x1)) (hlen:ps.length≤1048576) (hBs:B≤w.heap.size)
  (hK:∀g' l' cap' w',l'=ps.length+1→Hid (OwnP B w' (.slice (some ⟨g',0,none⟩) l' cap') (ps ++ [(x0,x1)]))→Hid (w.grownBy w' v.ownBlock)→Hid (v.ownBlock=some g'∨g'=w.heap.size)→K (a.put o.dst (.slice (some ⟨g',0,none⟩) l' cap')) w') :
  if Region.wanted o (yielded ops a.tmps)=true then Oper.wp Tryz.prog o a w K Q else E:=by
 obtain ⟨i,hii,hz,hsz,hby⟩:=info_parts Tryz.infoZ9;have ea:∀j,(⟨g,0,none⟩:Addr).add j=⟨g,j,none⟩:=fun j=>by unfold Addr.add;split <;> simp_all
 refine step_append_lies w hgd s x 22 hop B 39 i (.agg #[.bool false,.slice none 0 0]) 2 32 Tryz.underlying22 hii hz hsz hby rfl (by omega) v ps.length (flat ps) hs hB ⟨g,0,none⟩ 1 1 [x0,x1] hx rfl ?_ ?_ (by omega) (by unfold maxLen;omega) (by omega) hBs w.heap.size rfl ?_
 ·intro j u' hj
  match j,hj with
  | 0,hj=>simp at hj;subst hj;rw [ea];exact hc0
  | 1,hj=>simp at hj;subst hj;rw [ea];exact hc1
 ·obtain ⟨n,b,l,c,e⟩:=hi
  simp only [Prod.mk.injEq] at e;obtain ⟨rfl,rfl⟩:=e;intro u' hu';simp at hu';rcases hu' with rfl | rfl <;> rfl
 ·intro g' cap' w' k1 k2 k3 k4
  refine hK g' _ cap' w' rfl ?_ k2 k3;unfold Hid OwnP;rw [zgB,List.length_append];exact k1
def clen (i j jj:Nat):Nat:=if jj<j then i+1 else i
def colL {α:Type} (c:Nat) (ps:List α) (z:α) (n j:Nat):List α:=(List.range n).map fun t=>ps.getD (t*c+j) z
structure Kp (N g:Nat) (w wx:World):Prop where
 os:wx.os=w.os
 tape:wx.tape=w.tape
 output:wx.output=w.output
 size:w.heap.size≤wx.heap.size
 block:∀b,b<N→b≠g→wx.heap[b]?=w.heap[b]?
theorem Kp.refl (N g:Nat) (w:World):Kp N g w w:=⟨rfl,rfl,rfl,Nat.le_refl _,fun _ _ _=>rfl⟩
theorem Kp.step {g:Nat} {w wx wy:World} (h:Kp w.heap.size g w wx) (hb:Below wx.heap.size wx wy):Kp w.heap.size g w wy :=
 ⟨hb.os.trans h.os,hb.tape.trans h.tape,hb.output.trans h.output,Nat.le_trans h.size hb.size,fun b hlt hne=>(hb.block b (Nat.lt_of_lt_of_le hlt h.size)).trans (h.block b hlt hne)⟩
theorem Kp.below {g:Nat} {w0 w wx:World} (h:Kp w.heap.size g w wx) (hb:Below w0.heap.size w0 w) (hg:w0.heap.size≤g):Below w0.heap.size w0 wx :=
 ⟨h.os.trans hb.os,h.tape.trans hb.tape,h.output.trans hb.output,Nat.le_trans hb.size h.size,fun b hlt=>(h.block b (Nat.lt_of_lt_of_le hlt hb.size) (by omega)).trans (hb.block b hlt)⟩
theorem Kp.cell {g b i:Nat} {w wx:World} {v:Value} (h:Kp w.heap.size g w wx) (hb:b≠g) (hc:w.cell? ⟨b,i,none⟩=some v):wx.cell? ⟨b,i,none⟩=some v :=
 (World.cell?_of_block (h.block b (World.block_lt_of_cell? w _ hc) hb)).trans hc
structure zHC (w wx:World) (g c i j:Nat) (ps:List (Value×Value)) (vs:List Value):Prop where
 row:zjE wx g vs
 len:vs.length=c
 own:∀(jj:Nat) (u:Value),vs[jj]?=some u→OwnP w.heap.size wx u (colL c ps zqA (clen i j jj) jj)
 apart:∀(jj kk:Nat) (u u':Value) (b:Nat),vs[jj]?=some u→vs[kk]?=some u'→jj≠kk→u.ownBlock=some b→u'.ownBlock≠some b
 off:∀(jj:Nat) (u:Value),vs[jj]?=some u→u.ownBlock≠some g
 kp:Kp w.heap.size g w wx
theorem OwnP.keep {B:Nat} {w w':World} {v:Value} {ps:List (Value×Value)} (h:OwnP B w v ps) (hk:∀b,v.ownBlock=some b→b<w.heap.size→w'.heap[b]?=w.heap[b]?):OwnP B w' v ps:=zyA h hk
theorem zHC.step {w wx wy:World} {g c i j:Nat} {ps:List (Value×Value)} {vs:List Value} (h:zHC w wx g c i j ps vs) (hb:Below wx.heap.size wx wy):zHC w wy g c i j ps vs :=
 ⟨h.row.step hb,h.len,fun jj u hu=>(h.own jj u hu).keep (fun b _ hlt=>hb.block b hlt),h.apart,h.off,h.kp.step hb⟩
theorem colL_succ {α:Type} {c:Nat} {ps:List α} {z:α} {n j:Nat}:colL c ps z (n+1) j=colL c ps z n j ++ [ps.getD (n*c+j) z]:=by simp [colL,List.range_succ]
theorem zHB {α:Type} {c:Nat} {ps:List α} {z:α} {n j:Nat}:(colL c ps z n j).length=n:=by simp [colL]
theorem zHC.next {w wx wy:World} {g c i j l' g' cap':Nat} {ps:List (Value×Value)} {vs:List Value} {u:Value} (h:zHC w wx g c i j ps vs) (hj:j<c) (hu:vs[j]?=some u)
  (ho:OwnP w.heap.size wy (.slice (some ⟨g',0,none⟩) l' cap') (colL c ps zqA i j ++ [ps.getD (i*c+j) zqA])) (hg:wx.grownBy wy u.ownBlock) (hw:u.ownBlock=some g'∨g'=wx.heap.size) :
  zHC w (wy.setCell ⟨g,j,none⟩ (.slice (some ⟨g',0,none⟩) l' cap')) g c i (j+1) ps (vs.set j (.slice (some ⟨g',0,none⟩) l' cap')):=by
 have hgb:g<wx.heap.size:=h.row.blk;have hgg:g'≠g:=by
  rcases hw with q | q
  ·intro e
   subst e;exact h.off j u hu q
  ·omega
 have hset:∀b,b≠g→(wy.setCell ⟨g,j,none⟩ (.slice (some ⟨g',0,none⟩) l' cap')).heap[b]?=wy.heap[b]?:=fun b hb=>Below.heap_setCell wy _ _ b (fun e=>hb (by simpa using e))
 have hrow:zjE wy g vs:=(hg.block g hgb (fun e=>h.off j u hu e.symm)).trans h.row;refine ⟨hrow.set j _,by simpa using h.len,fun jj x hx=>?_,fun jj kk x y b hx hy hne hb=>?_,fun jj x hx=>?_,?_⟩
 ·by_cases q:jj=j
  ·subst q
   rw [List.getElem?_set_self (by rw [h.len];exact hj),Option.some.injEq] at hx;subst hx;rw [show clen i (jj+1) jj=i+1 by simp [clen],colL_succ];exact ho.keep (fun b hb _=>hset b (fun e=>hgg (by simp [Value.ownBlock] at hb;omega)))
  ·rw [List.getElem?_set_ne (by omega)] at hx
   have e:clen i (j+1) jj=clen i j jj:=by unfold clen;split <;> split <;> omega
   rw [e];refine (h.own jj x hx).keep (fun b hb hlt=>?_);rw [hset b (fun e=>h.off jj x hx (by rw [hb,e]))];exact hg.block b hlt (fun e=>h.apart jj j x u b hx hu q hb e.symm)
 ·have blt:∀ {n:Nat} {z:Value},vs[n]?=some z→z.ownBlock=some b→b<wx.heap.size:=fun hz hb=>(World.ownsRow.lt (h.own _ _ hz) b hb).2
  by_cases q:jj=j
  ·subst q
   rw [List.getElem?_set_self (by rw [h.len];exact hj),Option.some.injEq] at hx;rw [List.getElem?_set_ne (by omega)] at hy;subst hx;simp only [Value.ownBlock,Option.some.injEq] at hb;subst hb;intro e;rcases hw with q | q
   ·exact h.apart jj kk u y g' hu hy hne q e
   ·have:=blt hy e
    omega
  ·rw [List.getElem?_set_ne (by omega)] at hx
   by_cases q2:kk=j
   ·subst q2
    rw [List.getElem?_set_self (by rw [h.len];exact hj),Option.some.injEq] at hy;subst hy;simp only [Value.ownBlock,ne_eq,Option.some.injEq];intro e;subst e;rcases hw with q3 | q3
    ·exact h.apart jj kk x u g' hx hu q hb q3
    ·have:=blt hx hb
     omega
   ·rw [List.getElem?_set_ne (by omega)] at hy
    exact h.apart jj kk x y b hx hy hne hb
 ·by_cases q:jj=j
  ·subst q
   rw [List.getElem?_set_self (by rw [h.len];exact hj),Option.some.injEq] at hx;subst hx;simp only [Value.ownBlock,ne_eq,Option.some.injEq];exact hgg
  ·rw [List.getElem?_set_ne (by omega)] at hx
   exact h.off jj x hx
 ·have e:∀_:Nat,(wy.setCell ⟨g,j,none⟩ (.slice (some ⟨g',0,none⟩) l' cap')).heap.size=wy.heap.size:=fun _=>by simp
  refine ⟨hg.os.trans h.kp.os,hg.tape.trans h.kp.tape,hg.output.trans h.kp.output,by rw [e 0];exact Nat.le_trans h.kp.size hg.size,fun b hlt hne=>?_⟩;rw [hset b hne,hg.block b (Nat.lt_of_lt_of_le hlt h.kp.size) (fun e=>?_)]
  ·exact h.kp.block b hlt hne
  ·have:=(World.ownsRow.lt (h.own j u hu) b e.symm).1
   omega
theorem zHC.row_end {w wx:World} {g c i:Nat} {ps:List (Value×Value)} {vs:List Value} (h:zHC w wx g c i c ps vs):zHC w wx g c (i+1) 0 ps vs:=by
 refine ⟨h.row,h.len,fun jj u hu=>?_,h.apart,h.off,h.kp⟩;have hj:jj<c:=by rw [←h.len];exact (List.getElem?_eq_some_iff.1 hu).1
 have e:clen (i+1) 0 jj=clen i c jj:=by simp [clen,hj]
 rw [e];exact h.own jj u hu
theorem zHC.start {w wx:World} {g c:Nat} (ps:List (Value×Value)) (h:zjE wx g (List.replicate c (.slice none 0 0))) (hb:Kp w.heap.size g w wx):zHC w wx g c 0 0 ps (List.replicate c (.slice none 0 0)):=by
 have key:∀(jj:Nat) (u:Value),(List.replicate c (Value.slice none 0 0))[jj]?=some u→u=.slice none 0 0:=fun jj u hu=>List.eq_of_mem_replicate (List.mem_of_getElem? hu)
 refine ⟨h,by simp,fun jj u hu=>?_,fun jj kk u u' b hu _ _ hb=>?_,fun jj u hu=>?_,hb⟩
 ·rw [key jj u hu]
  simpa [clen,colL,OwnP,flat] using World.ownsRow_nil wx w.heap.size 39 2
 ·rw [key jj u hu] at hb;cases hb
 ·rw [key jj u hu];simp [Value.ownBlock]
def colsL {α:Type} (r c:Nat) (ps:List α) (z:α):List (List α):=(List.range c).map (colL c ps z r)
theorem zHC.done {w wx:World} {g c r:Nat} {ps:List (Value×Value)} {vs:List Value} (h:zHC w wx g c r 0 ps vs) (hc:c≤64) (hr:r≤64):Prr w.heap.size wx (.slice (some ⟨g,0,none⟩) c c) (colsL r c ps zqA):=by
 refine ⟨some ⟨g,0,none⟩,c,by simp [colsL],by simp [colsL],by simp [colsL];omega,.inr ⟨g,0,rfl,h.row.blk,fun j qs hq=>?_⟩⟩;have hj:j<c:=by simpa [colsL] using (List.getElem?_eq_some_iff.1 hq).1
 have hv:vs[j]?=some (vs[j]'(by rw [h.len];exact hj)):=List.getElem?_eq_getElem (by rw [h.len];exact hj);refine ⟨_,by rw [Nat.zero_add];exact h.row.at hv,?_⟩;have e:qs=colL c ps zqA r j:=by
  simp [colsL,hj] at hq;exact hq.symm
 rw [e];have:=h.own j _ hv;rw [show clen r 0 j=r by simp [clen]] at this;exact zzB this (by rw [zHB];omega)
end Go.Proofs.YtjnokjgbeploaaaGreat
