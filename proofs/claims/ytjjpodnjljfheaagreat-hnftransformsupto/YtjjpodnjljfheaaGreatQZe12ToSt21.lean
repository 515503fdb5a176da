/-
 QZe12ToSt21: Ze12, Un12, Ts18, St21, joined.
-/
import Derived.Test.YtjjpodnjljfheaaGreatQDo11ToRowsI
import Derived.Test.YtjjpodnjljfheaaGreatQRm12
import Derived.Test.YtjjpodnjljfheaaGreatQSt18ToIo18
import Derived.Test.YtjjpodnjljfheaaGreatQHq18ToIv21

set_option maxRecDepth 100000
set_option maxHeartbeats 6400000
set_option linter.unusedVariables false
set_option linter.unusedSimpArgs false
namespace Go.Proofs.YtjjpodnjljfheaaGreat
open Go.RowKit
theorem routside12 {n:Nat} (hn:n≤64) (w:World):Calls Tryz.prog 56 #[.int .i64 (n:Int)] w fun e w'=>e=.returned (.bool false)∧w'=w:=by
 have h1:¬(n:Int)<0:=by omega
 have h2:¬(64:Int)<(n:Int):=by omega
 go_enter Tryz.func56,Tryz.ntmps56;go_wp2;go_ret;exact ⟨rfl,rfl⟩
theorem rzero12 {w:World} {r c:Nat} (hr:r≤64) (hc:c≤64):Calls Tryz.prog 27 #[.int .i64 (r:Int),.int .i64 (c:Int)] w (zbH w r c (r*c)):=by
 obtain ⟨W0,hW⟩:∃W0,w.alloc mbox=W0:=⟨_,rfl⟩
 obtain ⟨b0,sz0⟩:=alo1 w mbox;rw [hW] at b0 sz0;have P4:=hid (zZB hW);obtain ⟨n,hn⟩:∃n,r*c=n:=⟨_,rfl⟩
 have HB:=hid (zcF (w:=W0) hr hc hn);rw [hn];have G0:=hid b0;have EW:=hid hW;have SZ:=hid sz0;clear b0 hW sz0 hn;go_enter Tryz.func27,Tryz.ntmps27;go_wp2_with fail;rw [EW.out];refine (routside12 hr W0).mono ?_;rintro e w1 ⟨rfl,rfl⟩;go_wp2_with fail;refine (routside12 hc _).mono ?_;rintro e w1 ⟨rfl,rfl⟩;go_wp2_with fail;refine HB.out.mono ?_;rintro e w2 ⟨g,rfl,hge,harr,b2⟩;have PR:=hid (P4.out.step b2);have r0:=PR.out.at (i:=0) rfl;have r1:=PR.out.at (i:=1) rfl;have r2:=PR.out.at (i:=2) rfl;have f0:=PR.out.fz 0;have f1:=PR.out.fz 1;have f2:=PR.out.fz 2;have FIN:Hid (zbH w r c n (.returned (.tuple #[.agg #[.int .i64 (r:Int),.int .i64 (c:Int),.slice (some ⟨g,0,none⟩) n n],.int .i64 0])) (put3 w2 w.heap.size (.int .i64 (r:Int)) (.int .i64 (c:Int)) (.slice (some ⟨g,0,none⟩) n n))) :=
  ⟨_,rfl,by have:=SZ.out;omega,harr.put3 (by have:=SZ.out;omega) _ _ _,zVA (below_step G0.out b2) (Nat.le_refl _) _ _ _⟩
 have PF:=hid (PR.out.put3 (.int .i64 (r:Int)) (.int .i64 (c:Int)) (.slice (some ⟨g,0,none⟩) n n));clear P4 harr b2 G0 EW HB hge;go_wp2;exact bodyPost_ret (zWC Tryz.results27 PF.out _ (by rfl) (by rfl)) rfl FIN.out
def UnH (w:World) (g bu n N:Nat) (gk:Nat) (s:Value) (wx:World):Prop :=
 ∃i:Nat,s=.int .i64 (i:Int)∧i≤n∧gk=n-i∧(∃ps,Arr wx g ps∧ps.length=N∧Zcs wx ps (zfB n i) 1)∧Cel wx bu 24 (matc n n (.slice (some ⟨g,0,none⟩) N N))∧Cel wx w.heap.size 24 [.int .i64 0,.int .i64 0,.slice none 0 0]∧Below w.heap.size w wx
theorem runit12 {w:World} {n:Nat} (hn:n≤64):Calls Tryz.prog 8 #[.int .i64 (n:Int)] w (zyA w n n (zfB n n) 1):=by
 obtain ⟨W0,hW⟩:∃W0,w.alloc mbox=W0:=⟨_,rfl⟩
 obtain ⟨b0,sz0⟩:=alo1 w mbox;rw [hW] at b0 sz0;have P2:=hid (zZB hW);have HS:=hid (rzero12 (w:=W0) hn hn);have G0:=hid b0;have EW:=hid hW;have SZ:=hid sz0;have hnn:n*n≤64*64:=Nat.mul_le_mul hn hn;obtain ⟨N,hN⟩:∃N,n*n=N:=⟨_,rfl⟩
 have HNN:=hid hN;rw [hN] at HS hnn;clear b0 hW sz0 hN;go_enter Tryz.func8,Tryz.ntmps8;go_wp2_with fail;rw [EW.out];refine HS.out.mono ?_;rintro e w1 ⟨g,rfl,hge,harr,b⟩;obtain ⟨V1,hV⟩:∃V1,w1.alloc (matO n n (.slice (some ⟨g,0,none⟩) N N))=V1:=⟨_,rfl⟩
 obtain ⟨b1,sz1⟩:=alo1 w1 (matO n n (.slice (some ⟨g,0,none⟩) N N));rw [hV] at b1 sz1;have PU:Hid (Cel V1 w1.heap.size 24 (matc n n (.slice (some ⟨g,0,none⟩) N N))):=by unfold Hid;rw [←hV];exact Cel.new w1 _ _
 have HGW:Hid (w.heap.size<g):=by unfold Hid;have h1:=SZ.out;omega
 have H0:Hid (UnH w g w1.heap.size n N n (.int .i64 0) V1):=by
  refine ⟨0,rfl,Nat.zero_le _,by omega,⟨_,harr.step b1,by simp,?_⟩,PU.out,(P2.out.step b).step b1,below_step (below_step G0.out b) b1⟩;rw [zfB,HNN.out];exact zwG _ _ _
 have EV:=hid hV;clear HS P2 G0 EW harr b b1 sz1 PU hV hge;go_wp2_with fail;rw [EV.out];clear EV;obtain ⟨bu,hbu⟩:∃bu,w1.heap.size=bu:=⟨_,rfl⟩
 rw [hbu] at H0 ⊢;clear hbu
 go_loopg [6] n (fun gk s6 wx=>UnH w g bu n N gk s6 wx)
 case atStart=>exact H0.out
 case round =>
  clear H0;obtain ⟨i,rfl,hin,hg,⟨ps,harr,hpl,hzc⟩,hbu,hre,hG⟩:=hrel;have AR:=hid harr;have PL:=hid hpl;have ZC:=hid hzc;have PU:=hid hbu;have PR:=hid hre;have G:=hid hG;have HG:=hid hg;clear harr hpl hzc hbu hre hG hg;have x0:=PU.out.at (i:=0) rfl
  by_cases hlt:i<n
  ·have hlt':(i:Int)<(n:Int):=by omega
   have hw:=zbA (i:=i) (by omega);have hm0:=zJB (i:=i) (c:=n) (by omega) hn;have hix:i*n+i<N:=by rw [←HNN.out];exact zJC hlt hlt
   have UL:Hid (zfB n (i+1)=(zfB n i).set (i*n+i) 1):=rfl;obtain ⟨lo,hlo⟩:∃lo,i*n=lo:=⟨_,rfl⟩
   rw [hlo] at hm0 hix UL;obtain ⟨ix,hix2⟩:∃ix,lo+i=ix:=⟨_,rfl⟩
   rw [hix2] at hix UL;have ha0:IntKind.i64.wrap ((lo:Int)+(i:Int))=(ix:Int):=by rw [zTA] <;> omega
   have ha1:=ha0;have hm1:=hm0;rw [IntKind.wrap_i64] at ha1 hm1;have hixN:(ix:Int)<(N:Int):=by omega
   have HMM:Hid (n-(i+1)<gk):=by unfold Hid;rw [HG.out];omega
   obtain ⟨X,hX⟩:∃X,wr.alloc (.cells #[.int .u64 1] 49)=X:=⟨_,rfl⟩
   obtain ⟨bX,szX⟩:=alo1 wr (.cells #[.int .u64 1] 49);have sX:=zDE wr 1 (by decide);rw [hX] at bX szX sX;have ZX:Zc X (.agg #[.bool false,.slice (some ⟨wr.heap.size,0,none⟩) 1 1]) 1 1:=⟨false,[1],_,_,rfl,sX,⟨zoH (by omega) WF.nil,by first | rfl | decide | simp [lst]⟩,by simp,by simp [iv,val],by simp⟩
   have AX:=AR.out.step bX;have hpx:ix<ps.length:=by rw [PL.out];exact hix
   have hp:ps[ix]?=some (ps[ix]):=List.getElem?_eq_getElem hpx;obtain ⟨m0,a0,l0,c0,e0⟩:=AX.2 _ (List.getElem_mem hpx);have q:=AX.at hp;rw [e0] at q;obtain ⟨e1,e2⟩:=q;have e3:=AX.1.fz (ix*2);have e4:=AX.1.fz (ix*2+1);have HN1:Hid (UnH w g bu n N (n-(i+1)) (.int .i64 ((i+1:Nat):Int)) ((X.setCell ⟨g,ix*2,none⟩ (.bool false)).setCell ⟨g,ix*2+1,none⟩ (.slice (some ⟨wr.heap.size,0,none⟩) 1 1))):=by
    have hwk:=AX.wk hpx (.bool false) (.slice (some ⟨wr.heap.size,0,none⟩) 1 1);have hty:=AX.ty12 (t:=ix) (.bool false) (.slice (some ⟨wr.heap.size,0,none⟩) 1 1);refine ⟨i+1,rfl,by omega,rfl,⟨_,AX.put hpx ZX.zi.isI,by simpa using PL.out,?_⟩,(PU.out.step bX).ty12 hty (by decide),(PR.out.step bX).ty12 hty (by decide),bset (bset (below_step G.out bX) (by have:=HGW.out;omega)) (by have:=HGW.out;omega)⟩;rw [UL.out];exact (ZC.out.now bX).set hwk (ZX.wk hwk)
   have x2:=(PU.out.step bX).at (i:=2) rfl;have x2':=PU.out.at (i:=2) rfl;rw [←hX] at x2 e1 e2 e3 e4;have EX:=hid hX;rw [←hX] at HN1;clear hlo hix2 AR PL ZC PU PR G HG bX szX sX ZX AX hp e0 hX EX;go_wp2_with fail;go_roundg (n-(i+1))
   case rel=>exact HN1.out
   case measure=>exact HMM.out
  ·have hlt':¬(i:Int)<(n:Int):=by omega
   obtain rfl:i=n:=by omega
   have m1:=PU.out.at (i:=1) rfl;have m2:=PU.out.at (i:=2) rfl;have r0:=PR.out.at (i:=0) rfl;have r1:=PR.out.at (i:=1) rfl;have r2:=PR.out.at (i:=2) rfl;have f0:=PR.out.fz 0;have f1:=PR.out.fz 1;have f2:=PR.out.fz 2;have FIN:Hid (zyA w i i (zfB i i) 1 (.returned (.tuple #[.agg #[.int .i64 (i:Int),.int .i64 (i:Int),.slice (some ⟨g,0,none⟩) N N],.int .i64 0])) (put3 wr w.heap.size (.int .i64 (i:Int)) (.int .i64 (i:Int)) (.slice (some ⟨g,0,none⟩) N N))):=by
    have hpr:Prs 0 (put3 wr w.heap.size (.int .i64 (i:Int)) (.int .i64 (i:Int)) (.slice (some ⟨g,0,none⟩) N N)) (.slice (some ⟨g,0,none⟩) N N) ps:=by
     have:=(AR.out.put3 (b:=w.heap.size) (by have:=HGW.out;omega) (.int .i64 (i:Int)) (.int .i64 (i:Int)) (.slice (some ⟨g,0,none⟩) N N)).prs (Nat.zero_le _) (by rw [PL.out];omega) (Nat.le_refl _);rw [PL.out] at this;exact this
    exact ⟨_,rfl,⟨_,ps,rfl,hpr,ZC.out.wk (PR.out.wk3 _ _ _),by rw [zKB],hn,hn⟩,zVA G.out (Nat.le_refl _) _ _ _⟩
   have PG:=hid (PR.out.put3 (.int .i64 (i:Int)) (.int .i64 (i:Int)) (.slice (some ⟨g,0,none⟩) N N));clear AR PL ZC PU PR G HG;go_wp2;exact bodyPost_ret (zWC Tryz.results8 PG.out _ (by rfl) (by rfl)) rfl FIN.out
end Go.Proofs.YtjjpodnjljfheaaGreat
namespace Go.Proofs.YtjjpodnjljfheaaGreat
theorem zHE {r m c:Nat} {xs ys:List Int} {F:Nat→Nat→Int} (hF:∀i j,i<r→j<c→su m (fun k=>en18 m xs i k*en18 c ys k j)=F i j):mulL r m c xs ys=zG18 r c F:=by
 have hl:(mulL r m c xs ys).length=r*c:=by simp [mulL]
 rw [←zhG hl];refine ziB fun i j hi hj=>?_
 rw [←hF i j hi hj];have hlt:=zQE hi hj
 show (mulL r m c xs ys).getD (i*c+j) 0=_
 unfold mulL;rw [List.getD_eq_getElem?_getD,List.getElem?_map,List.getElem?_range hlt];exact zEI hj
theorem zxF (n:Nat):zfB n n=zG18 n n dlz:=by
 rw [←zhG (zKB n n)];refine ziB fun i j hi hj=>?_
 unfold en18;rw [zpH hi hj];unfold dlz
 by_cases q:i=j
 ·rw [if_pos q,if_pos q.symm]
 ·rw [if_neg q,if_neg (Ne.symm q)]
section
variable {m n R:Nat} {γ:Nat→Nat} {X V A:Nat→Nat→Int} {zs:List Int}
theorem uw18 (hv:Iv21 m n X V):mulL m m m (zG18 m m fun i k=>X i (n+k)) (zG18 m m fun i k=>V k i)=zfB m m:=by
 rw [zxF];refine zHE fun i j hi hj=>?_
 rw [zJA (g:=fun k=>X i (n+k)*V j k) fun k hk=>by rw [zlB (F:=fun i k=>X i (n+k)) hi hk,zlB (F:=fun i k=>V k i) hk hj]];exact hv i j hi hj
theorem wu18 (hv:Iv21 m n X V):mulL m m m (zG18 m m fun i k=>V k i) (zG18 m m fun i k=>X i (n+k))=zfB m m:=by
 rw [zxF];refine zHE fun i j hi hj=>?_
 rw [zJA (g:=fun k=>V k i*X k (n+j)) fun k hk=>by rw [zlB (F:=fun i k=>V k i) hi hk,zlB (F:=fun i k=>X i (n+k)) hk hj]];exact hv.back hi hj
theorem ua18 (h:Hb18 m (n+m) m R id γ X A) (hA:∀i k,i<m→k<m→A i (n+k)=dlz i k) (hB:∀k j,k<m→j<n→A k j=en18 n zs k j):mulL m m n (zG18 m m fun i k=>X i (n+k)) zs=zG18 m n X:=by
 refine zHE fun i j hi hj=>?_
 rw [zJA (g:=fun k=>X i (n+k)*A k j) fun k hk=>by rw [zlB (F:=fun i k=>X i (n+k)) hi hk,hB k j hk hj]];exact (h.made21 hA hi hj).symm
theorem wh18 (h:Hb18 m (n+m) m R id γ X A) (hv:Iv21 m n X V) (hA:∀i k,i<m→k<m→A i (n+k)=dlz i k) (hB:∀k j,k<m→j<n→A k j=en18 n zs k j) (hz:zs.length=m*n):mulL m m n (zG18 m m fun i k=>V k i) (zG18 m n X)=zs:=by
 rw [←zhG hz];refine zHE fun i j hi hj=>?_
 rw [zJA (g:=fun k=>su m fun l=>V k i*(X k (n+l)*A l j)) fun k hk=>by
  rw [zlB (F:=fun i k=>V k i) hi hk,zlB hk hj,h.made21 hA hk hj,zvA]]
 rw [zBD,zJA (g:=fun l=>dlz i l*A l j) fun l hl=>by
  rw [zJA (g:=fun k=>V k i*X k (n+l)*A l j) fun k hk=>by rw [Int.mul_assoc],zjD,hv.back hi hl]]
 rw [zJA (g:=fun l=>A l j*dlz l i) fun l hl=>by
  rw [Int.mul_comm];unfold dlz
  by_cases q:i=l
  ·rw [if_pos q,if_pos q.symm]
  ·rw [if_neg q,if_neg fun e=>q e.symm],zAG hi,hB i j hi hj]
end
open Go.RowKit
abbrev hg3 (Bm:Nat):Value:=.func (.func 46) #[] #[.pointer (some ⟨Bm,0,none⟩)]
abbrev hg4 (Bm:Nat):Value:=.func (.func 47) #[] #[.pointer (some ⟨Bm,0,none⟩)]
abbrev hd21 (b:Nat):List Value:=[hf1 b,hf2 b,hf3 b,hf4 b]
structure zKA where
 full:Bool
 n0:Nat
 Bl:Nat
 Bh:Nat
 Bm:Nat
 Ba:Nat→Nat
 lv:Nat→Value
 S:Nat→Prop
def zKA.q (R:zKA):Nat:=if R.full then 3 else 1
def zKA.p (R:zKA):Nat:=if R.full then 2 else 1
def zKA.wd (R:zKA) (m t:Nat):Nat:=if t=0 then R.n0 else m
def zKA.looks (R:zKA):List Value:=if R.full then [R.lv 0,R.lv 1] else [R.lv 0]
def zKA.hands (R:zKA):List Value:=if R.full then [hf1 (R.Ba 0),hf2 (R.Ba 0),hf3 (R.Ba 0),hf4 (R.Ba 0),hf1 (R.Ba 1),hf2 (R.Ba 1),hf3 (R.Ba 1),hf4 (R.Ba 1),hf1 (R.Ba 2),hf2 (R.Ba 2),hg3 R.Bm,hg4 R.Bm] else hd21 (R.Ba 0)
def zKA.L (R:zKA) (b:Nat):Prop:=∃t n c,t<R.q∧R.lv t=.slice (some ⟨b,0,none⟩) n c
theorem zKA.q0 (R:zKA):0<R.q:=by unfold zKA.q;split <;> omega
theorem zKA.q3 (R:zKA):R.q≤3:=by unfold zKA.q;split <;> omega
theorem zKA.ful (R:zKA) {t:Nat} (h:t<R.q) (h0:0<t):R.full=true:=by
 unfold zKA.q at h
 by_cases e:R.full=true
 ·exact e
 ·rw [if_neg e] at h;omega
theorem zKA.qf (R:zKA) (h:R.full=true):R.q=3:=by unfold zKA.q;rw [if_pos h]
structure Wk21 (R:zKA) (B:Nat) (w:World) (bs:Nat) (sv:Value) (m r:Nat) (ρ γ:Nat→Nat) (gs:Nat→Nat→Nat) (Z:Nat→Nat→Nat→Int) (kz:Nat→Nat):Prop where
 s:Cel w bs 66 [.slice (some ⟨R.Bl,0,none⟩) R.p R.p,.slice (some ⟨R.Bh,0,none⟩) R.q R.q,sv]
 l:Cel w R.Bl 52 R.looks
 h:Cel w R.Bh 61 R.hands
 a:∀t,t<R.q→Cel w (R.Ba t) 52 [R.lv t]
 g:R.full=true→Cel w R.Bm 61 (hd21 (R.Ba 2))
 sp:Sp18 B w sv r ρ γ
 sh:∀t,t<R.q→Sh17 B w (R.lv t) m (R.wd m t) (gs t) (Z t) (kz t)
 ne:∀t u i j,t<R.q→u<R.q→t≠u→i<m→j<m→gs t i≠gs u j
 rs:∀b,R.S b↔∃t i,t<R.q∧i<m∧b=gs t i
 ln:∀t u b n c n' c',t<R.q→u<R.q→R.lv t=.slice (some ⟨b,0,none⟩) n c→R.lv u=.slice (some ⟨b,0,none⟩) n' c'→t=u
section
variable {R:zKA} {B bs m r:Nat} {w w':World} {sv:Value} {ρ γ:Nat→Nat} {gs:Nat→Nat→Nat} {Z:Nat→Nat→Nat→Int} {kz:Nat→Nat}
theorem Wk21.now (h:Wk21 R B w bs sv m r ρ γ gs Z kz) (b:Below w.heap.size w w'):Wk21 R B w' bs sv m r ρ γ gs Z kz :=
 ⟨h.s.step b,h.l.step b,h.h.step b,fun t ht=>(h.a t ht).step b,fun e=>(h.g e).step b,h.sp.cel fun _ _ d=>d.step b,fun t ht=>(h.sh t ht).now b,h.ne,h.rs,h.ln⟩
theorem Wk21.form (h:Wk21 R B w bs sv m r ρ γ gs Z kz) (hm:0<m) {t:Nat} (ht:t<R.q):∃Lb cap,R.lv t=.slice (some ⟨Lb,0,none⟩) m cap:=by
 rcases (h.sh t ht).1 with ⟨e,_⟩ | ⟨_,Lb,cap,_,e,_⟩
 ·omega
 ·exact ⟨Lb,cap,e⟩
theorem Wk21.sform (h:Wk21 R B w bs sv m r ρ γ gs Z kz):∃sa sc,sv=.slice sa r sc:=by
 rcases h.sp with ⟨e,h⟩ | ⟨_,Bp,cap,t,e,_⟩
 ·exact ⟨none,0,by rw [e];exact h⟩
 ·exact ⟨_,cap,e⟩
theorem Wk21.cel (h:Wk21 R B w bs sv m r ρ γ gs Z kz) {b:Nat} (hb:R.S b):∃L,Cel w b 47 L:=by
 obtain ⟨t,i,ht,hi,rfl⟩:=(h.rs b).1 hb;exact ((h.sh t ht).2.2 i hi).2.cel18
theorem Wk21.own (h:Wk21 R B w bs sv m r ρ γ gs Z kz) {t i:Nat} (ht:t<R.q) (hi:i<m):R.S (gs t i):=(h.rs _).2 ⟨t,i,ht,hi,rfl⟩
theorem Wk21.low (h:Wk21 R B w bs sv m r ρ γ gs Z kz) {b:Nat} (hb:R.S b):B≤b:=by
 obtain ⟨t,i,ht,hi,rfl⟩:=(h.rs b).1 hb;exact ((h.sh t ht).2.2 i hi).1
theorem Wk21.put {t:Nat} {S:Nat→Prop} {Y:Nat→Nat→Int} (h:Wk21 R B w bs sv m r ρ γ gs Z kz) (ht:t<R.q) (hS:∀b,S b→∃i,i<m∧b=gs t i) (hT:Touch S w w') (hr:∀i,i<m→Rw17 w' (gs t i) (R.wd m t) (Y i) (kz t)) {Z':Nat→Nat→Nat→Int} (e1:Z' t=Y) (e2:∀u,u≠t→Z' u=Z u):Wk21 R B w' bs sv m r ρ γ gs Z' kz:=by
 have ty:Ty 47 w w':=hT.tyS18 fun b q=>by
  obtain ⟨i,hi,rfl⟩:=hS b q;exact h.cel (h.own ht hi)
 refine ⟨h.s.ty13 ty (by decide),h.l.ty13 ty (by decide),h.h.ty13 ty (by decide),fun t ht=>(h.a t ht).ty13 ty (by decide),fun e=>(h.g e).ty13 ty (by decide),h.sp.cel fun _ _ d=>d.ty13 ty (by decide),fun u hu=>?_,h.ne,h.rs,h.ln⟩;obtain ⟨h1,h4,h5⟩:=h.sh u hu;refine ⟨?_,h4,fun i hi=>⟨(h5 i hi).1,?_⟩⟩
 ·rcases h1 with h1 | ⟨h0,Lb,cap,r,e,e0,e1,e2⟩
  ·exact .inl h1
  ·exact .inr ⟨h0,Lb,cap,r,e,e0,e1,e2.ty13 ty (by decide)⟩
 ·by_cases q:u=t
  ·subst q;rw [e1];exact hr i hi
  ·rw [e2 u q]
   exact (h5 i hi).2.oth18 hT ty fun b=>by
    obtain ⟨j,hj,e⟩:=hS _ b;exact h.ne u t i j hu ht q hi hj e
theorem Wk21.row {t i:Nat} {F:Nat→Int} {Y:Nat→Nat→Int} (h:Wk21 R B w bs sv m r ρ γ gs Z kz) (ht:t<R.q) (hi:i<m) (hr:Rw17 w' (gs t i) (R.wd m t) F (kz t)) (hT:Touch (· = gs t i) w w') (f1:∀c,c<R.wd m t→F c=Y i c) (f2:∀u,u≠i→Y u=Z t u) {Z':Nat→Nat→Nat→Int} (e1:Z' t=Y) (e2:∀u,u≠t→Z' u=Z u):Wk21 R B w' bs sv m r ρ γ gs Z' kz:=by
 have ty:=ziD ((h.sh t ht).2.2 i hi).2 hT;refine h.put ht (fun b q=>⟨i,hi,q⟩) hT (fun u hu=>?_) e1 e2
 by_cases q:u=i
 ·subst q;exact hr.congr f1
 ·rw [f2 u q];exact ((h.sh t ht).2.2 u hu).2.oth18 hT ty fun e=>q ((h.sh t ht).2.1 u i hu hi e)
theorem Wk21.two {t i j:Nat} {F G:Nat→Int} {Y:Nat→Nat→Int} (h:Wk21 R B w bs sv m r ρ γ gs Z kz) (ht:t<R.q) (hi:i<m) (hj:j<m) (hij:i≠j) (hr:Rw17 w' (gs t i) (R.wd m t) F (kz t)) (hs:Rw17 w' (gs t j) (R.wd m t) G (kz t)) (hT:Touch (zBF (gs t i) (gs t j)) w w') (f1:∀c,c<R.wd m t→F c=Y i c) (f2:∀c,c<R.wd m t→G c=Y j c) (f3:∀u,u≠i→u≠j→Y u=Z t u) {Z':Nat→Nat→Nat→Int} (e1:Z' t=Y) (e2:∀u,u≠t→Z' u=Z u):Wk21 R B w' bs sv m r ρ γ gs Z' kz:=by
 have hS:∀b,zBF (gs t i) (gs t j) b→∃i,i<m∧b=gs t i:=fun b q=>by
  rcases q with q | q
  ·exact ⟨i,hi,q⟩
  ·exact ⟨j,hj,q⟩
 have ty:Ty 47 w w':=hT.tyS18 fun b q=>by
  obtain ⟨i,hi,rfl⟩:=hS b q;exact h.cel (h.own ht hi)
 refine h.put ht hS hT (fun u hu=>?_) e1 e2
 by_cases q:u=i
 ·subst q;exact hr.congr f1
 ·by_cases q2:u=j
  ·subst q2;exact hs.congr f2
  ·rw [f3 u q q2]
   exact ((h.sh t ht).2.2 u hu).2.oth18 hT ty fun e=>by
    rcases e with e | e
    ·exact q ((h.sh t ht).2.1 u i hu hi e)
    ·exact q2 ((h.sh t ht).2.1 u j hu hj e)
theorem Wk21.exch {t Lb cap i j:Nat} {Y:Nat→Nat→Int} (h:Wk21 R B w bs sv m r ρ γ gs Z kz) (ht:t<R.q) (hlv:R.lv t=.slice (some ⟨Lb,0,none⟩) m cap) (hi:i<m) (hj:j<m) (hs:Sh17 B w' (R.lv t) m (R.wd m t) (swF (gs t) i j) Y (kz t)) (hT:Touch (· = Lb) w w') {Z':Nat→Nat→Nat→Int} {gs':Nat→Nat→Nat} (e1:Z' t=Y) (e2:∀u,u≠t→Z' u=Z u) (e3:gs' t=swF (gs t) i j) (e4:∀u,u≠t→gs' u=gs u):Wk21 R B w' bs sv m r ρ γ gs' Z' kz:=by
 have hcl:∀b,b=Lb→∃L,Cel w b 22 L:=fun b q=>by
  subst q;rcases (h.sh t ht).1 with ⟨_,h1⟩ | ⟨h0,Lb',cap',r,e,e0,e1,e2⟩
  ·rw [hlv] at h1;cases h1
  rw [hlv] at e;simp only [Value.slice.injEq,Option.some.injEq,Addr.mk.injEq,and_true,true_and] at e;obtain ⟨rfl,rfl⟩:=e;exact ⟨_,e2⟩
 have ty:Ty 22 w w':=hT.tyS18 hcl;have hsw:∀a,a<m→∃b,b<m∧swF (gs t) i j a=gs t b:=fun a ha=>by
  unfold swF
  split
  ·exact ⟨j,hj,rfl⟩
  ·split
   ·exact ⟨i,hi,rfl⟩
   ·exact ⟨a,ha,rfl⟩
 have hgs:∀u a,a<m→∃b,b<m∧gs' u a=gs u b:=fun u a ha=>by
  by_cases q:u=t
  ·subst q;rw [e3];exact hsw a ha
  ·rw [e4 u q];exact ⟨a,ha,rfl⟩
 have hback:∀u b,b<m→∃a,a<m∧gs u b=gs' u a:=fun u b hb=>by
  by_cases q:u=t
  ·subst q
   rw [e3]
   by_cases q1:b=i
   ·by_cases q3:i=j
    ·exact ⟨i,hi,by unfold swF;rw [if_pos rfl,q1,←q3]⟩
    ·exact ⟨j,hj,by unfold swF;rw [if_neg (Ne.symm q3),if_pos rfl,q1]⟩
   ·by_cases q2:b=j
    ·exact ⟨i,hi,by unfold swF;rw [if_pos rfl,q2]⟩
    ·exact ⟨b,hb,by unfold swF;rw [if_neg q1,if_neg q2]⟩
  ·rw [e4 u q];exact ⟨b,hb,rfl⟩
 refine ⟨h.s.ty13 ty (by decide),h.l.ty13 ty (by decide),h.h.ty13 ty (by decide),fun t ht=>(h.a t ht).ty13 ty (by decide),fun e=>(h.g e).ty13 ty (by decide),h.sp.cel fun _ _ d=>d.ty13 ty (by decide),fun u hu=>?_,fun u v a b hu hv huv ha hb e=>?_,fun b=>?_,h.ln⟩
 ·by_cases q:u=t
  ·subst q;rw [e1,e3];exact hs
  ·rw [e2 u q,e4 u q]
   obtain ⟨h1,h4,h5⟩:=h.sh u hu;refine ⟨?_,h4,fun a ha=>⟨(h5 a ha).1,(h5 a ha).2.ty ty (by decide) (by decide)⟩⟩;rcases h1 with h1 | ⟨h0,Lb',cap',r,e,e0,e1,e2⟩
   ·exact .inl h1
   ·refine .inr ⟨h0,Lb',cap',r,e,e0,e1,(hT.block Lb' e2.blk ?_).trans e2⟩
    intro q';subst q';exact q (h.ln u t _ _ _ _ _ hu ht e hlv)
 ·obtain ⟨a',ha',ea⟩:=hgs u a ha
  obtain ⟨b',hb',eb⟩:=hgs v b hb;rw [ea,eb] at e;exact h.ne u v a' b' hu hv huv ha' hb' e
 ·rw [h.rs b]
  constructor
  ·rintro ⟨u,a,hu,ha,rfl⟩
   obtain ⟨a',ha',e⟩:=hback u a ha;exact ⟨u,a',hu,ha',e⟩
  ·rintro ⟨u,a,hu,ha,rfl⟩
   obtain ⟨a',ha',e⟩:=hgs u a ha;exact ⟨u,a',hu,ha',e⟩
theorem Wk21.lt (h:Wk21 R B w bs sv m r ρ γ gs Z kz) {t i c:Nat} (ht:t<R.q) (hi:i<m) (hc:c<R.wd m t):((Z t i c).natAbs:Int)<pw (kz t):=by
 obtain ⟨_,_,_,_,_,_,_,_,z⟩:=((h.sh t ht).2.2 i hi).2.at hc;exact z.zi.lt
end
structure Lk21 (R:zKA) (m n:Nat) (X:Nat→Nat→Int) (kw:Nat) (Z:Nat→Nat→Nat→Int) (kz:Nat→Nat):Prop where
 n64:R.n0≤64
 k1:1≤kw
 k0:∀t,t<R.q→t≠2→kz t=kw
 x0:∀i c,i<m→c<R.n0→X i c=Z 0 i c
 one:R.full=false→n=R.n0
 n2:R.full=true→n=R.n0+m∧kz 2=64*kw+65∧kw≤10000000000
 x1:R.full=true→∀i c,i<m→c<m→X i (R.n0+c)=Z 1 i c
 iv:R.full=true→Iv21 m R.n0 X (Z 2)
def zOA (R:zKA) (B:Nat) (w:World) (bs:Nat) (sv:Value) (m n r:Nat) (ρ γ:Nat→Nat) (X:Nat→Nat→Int) (kw:Nat):Prop:=∃gs Z kz,Wk21 R B w bs sv m r ρ γ gs Z kz∧Lk21 R m n X kw Z kz
section
variable {R:zKA} {B bs m n r kw:Nat} {w w':World} {sv:Value} {ρ γ:Nat→Nat} {X:Nat→Nat→Int}
theorem zOA.now (h:zOA R B w bs sv m n r ρ γ X kw) (b:Below w.heap.size w w'):zOA R B w' bs sv m n r ρ γ X kw:=by
 obtain ⟨gs,Z,kz,h1,h2⟩:=h;exact ⟨gs,Z,kz,h1.now b,h2⟩
theorem Lk21.congr {Y:Nat→Nat→Int} {Z:Nat→Nat→Nat→Int} {kz:Nat→Nat} (h:Lk21 R m n X kw Z kz) (e:∀i j,i<m→j<n→X i j=Y i j):Lk21 R m n Y kw Z kz:=by
 have hn0:R.n0≤n:=by
  by_cases q:R.full=true
  ·have:=h.n2 q;omega
  ·have:=h.one (by simpa using q);omega
 refine ⟨h.n64,h.k1,h.k0,fun i c hi hc=>by rw [←e i c hi (by omega)];exact h.x0 i c hi hc,h.one,h.n2,fun q i c hi hc=>by have:=h.n2 q;rw [←e i _ hi (by omega)];exact h.x1 q i c hi hc,fun q=>(h.iv q).congr (fun i k hi hk=>e i _ hi (by have:=h.n2 q;omega)) fun _ _ _ _=>rfl⟩
theorem zOA.congr {Y:Nat→Nat→Int} (h:zOA R B w bs sv m n r ρ γ X kw) (e:∀i j,i<m→j<n→X i j=Y i j):zOA R B w bs sv m n r ρ γ Y kw:=by
 obtain ⟨gs,Z,kz,h1,h2⟩:=h;exact ⟨gs,Z,kz,h1,h2.congr e⟩
theorem zOA.sform (h:zOA R B w bs sv m n r ρ γ X kw):∃sa sc,sv=.slice sa r sc:=by
 obtain ⟨gs,Z,kz,h1,h2⟩:=h;exact h1.sform
theorem zOA.sp (h:zOA R B w bs sv m n r ρ γ X kw):Sp18 B w sv r ρ γ:=by
 obtain ⟨gs,Z,kz,h1,h2⟩:=h;exact h1.sp
theorem zOA.s2 (h:zOA R B w bs sv m n r ρ γ X kw):w.cell? ⟨bs,2,none⟩=some sv:=by
 obtain ⟨gs,Z,kz,h1,h2⟩:=h;exact h1.s.at (i:=2) rfl
theorem zOA.cel (h:zOA R B w bs sv m n r ρ γ X kw) {b:Nat} (hb:R.S b):∃L,Cel w b 47 L:=by
 obtain ⟨gs,Z,kz,h1,h2⟩:=h;exact h1.cel hb
theorem zOA.low (h:zOA R B w bs sv m n r ρ γ X kw) {b:Nat} (hb:R.S b):B≤b:=by
 obtain ⟨gs,Z,kz,h1,h2⟩:=h;exact h1.low hb
theorem Wk21.x {gs:Nat→Nat→Nat} {Z:Nat→Nat→Nat→Int} {kz:Nat→Nat} {i c:Nat} (h:Wk21 R B w bs sv m r ρ γ gs Z kz) (hk:Lk21 R m n X kw Z kz) (hi:i<m) (hc:c<n):((X i c).natAbs:Int)<pw kw:=by
 by_cases q:c<R.n0
 ·rw [hk.x0 i c hi q,←hk.k0 0 R.q0 (by omega)]
  exact h.lt R.q0 hi (by unfold zKA.wd;rw [if_pos rfl];exact q)
 ·have hf:R.full=true:=Classical.byContradiction fun e=>by have:=hk.one (by simpa using e);omega
  have hn:=hk.n2 hf;have hq:=R.qf hf;have:=h.lt (t:=1) (c:=c-R.n0) (by omega) hi (by unfold zKA.wd;rw [if_neg (by omega)];omega);rw [←hk.x1 hf i (c-R.n0) hi (by omega),hk.k0 1 (by omega) (by omega),show R.n0+(c-R.n0)=c by omega] at this;exact this
theorem zKE {m n0 kw:Nat} {X V:Nat→Nat→Int} (h:Iv21 m n0 X V) (hm:m≤64) (hk:1≤kw) (hX:∀i k,i<m→k<m→((X i (n0+k)).natAbs:Int)<pw kw):∀j i,j<m→i<m→((V j i).natAbs:Int)<pw (64*kw+65):=fun j i hj hi=>by
 have hp1:(1:Int)<pw kw:=by
  obtain ⟨d,rfl⟩:∃d,kw=d+1:=⟨kw-1,by omega⟩
  rw [zSB];have hp:=zwA d;have:1*pw 1≤pw d*pw 1:=Int.mul_le_mul_of_nonneg_right (by omega) (by decide);have:(1:Int)<pw 1:=by decide
  omega
 have h1:=h.size hm (Y:=(pw kw-1).toNat) (by omega) (fun i k hi hk=>by have:=hX i k hi hk;omega) j i hj hi;have h2:=zOJ (Y:=(pw kw-1).toNat) (k:=kw) (by omega);have h3:((V j i).natAbs:Int)≤((64*(64*(pw kw-1).toNat) ^ 64:Nat):Int):=by exact_mod_cast h1
 omega
end
end Go.Proofs.YtjjpodnjljfheaaGreat
