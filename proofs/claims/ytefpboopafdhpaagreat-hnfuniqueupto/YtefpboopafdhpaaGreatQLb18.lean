import Derived.Test.YtefpboopafdhpaaGreatQLx18ToLp18
import Derived.Test.YtefpboopafdhpaaGreatQUf18ToAdd11
set_option maxRecDepth 100000
set_option maxHeartbeats 6400000
set_option linter.unusedVariables false
set_option linter.unusedSimpArgs false
namespace Go.Proofs.YtefpboopafdhpaaGreat
open Go.RowKit
section
variable {n m i nx c:Nat} {γ:Nat→Nat} {X:Nat→Nat→Int}
theorem Pf18.rest_ (h:Pf18 n i i nx γ X) (him:i≤m) (hz:∀t,i≤t→t<m→∀j,j<n→X t j=0):Ec18 n m i id γ X :=
 ⟨h.ec.up,h.ec.cl,fun a ha=>by simp only [id];omega,h.ec.inj,h.ec.zero,h.ec.pos,fun t ht hn j hj=>hz t (by
  rcases Nat.lt_or_ge t i with q | q
  ·exact absurd rfl (hn t q)
  ·exact q) ht j hj⟩
theorem Hf18.not_rest {k:Nat} (hi:i<m) (hz:∀j,j<n→X i j=0) (hk:i≤k) (hkm:k<m) (hc:c<n) (h1:X k c≠0):¬Hf18 n m X:=by
 rintro ⟨r',γ',hE,hR⟩;have hr:r'≤i:=Nat.le_of_not_lt fun q=>by
  have h2:=hE.pos i q;have h3:=hz _ (hE.cl i q);simp only [id] at h2;omega
 exact h1 (hE.rest k hkm (fun a ha e=>by simp only [id] at e;omega) c hc)
theorem zuC (γ:Nat→Nat) (i c:Nat):zhB (fun a=>if a=i then c else γ a) (i+1)=zhB γ i ++ [c]:=by
 rw [pvL18_more]
 congr 1
 ·unfold zhB
  exact List.map_congr_left fun a ha=>if_neg (by have:=List.mem_range.1 ha;omega)
 ·simp
end
def znC (w:World) (n m:Nat) (X:Nat→Nat→Int) (e:Ending) (w':World):Prop:=∃v bb,e=.returned (.tuple #[v,.bool bb])∧(bb=true→∃r γ,Ec18 n m r id γ X∧Rd18 0 r id γ X∧Ivs w.heap.size w' v (zhB γ r))∧(bb=false→¬Hf18 n m X)∧Below w.heap.size w w'
def zeH (w:World) (m n:Nat) (X:Nat→Nat→Int) (A0:List Value) (gk:Nat) (s4 s5:Value) (wx:World):Prop :=
 ∃(i:Nat) (γ:Nat→Nat) (nx:Nat),s5=.int .i64 (i:Int)∧i≤m∧gk=m-i∧Pf18 n i i nx γ X∧Ivs w.heap.size wx s4 (zhB γ i)∧zbH w A0 wx
def zPI (W:World) (i:Nat) (F:Nat→Int) (z:Int) (gk:Nat) (s:Value) (wx:World):Prop :=
 ∃t:Nat,s=.int .i64 (t:Int)∧t≤i∧gk=i-t∧(∀k,k<t→0≤F k∧F k<z)∧Below W.heap.size W wx
def zOI (W:World) (lo N n:Nat) (X:Nat→Nat→Int) (gk:Nat) (s:Value) (wx:World):Prop :=
 ∃t:Nat,s=.int .i64 (t:Int)∧lo≤t∧t≤N∧gk=N-t∧(∀p,lo≤p→p<t→X (p / n) (p % n)=0)∧Below W.heap.size W wx
theorem zME {w:World} {v:Value} {m n k:Nat} {zs:List Int} (h:Mx w v m n zs k) (hk:k≤1099511627776) :
  Calls Tryz.prog 9 #[v] w (znC w n m (en18 n zs)):=by
 obtain ⟨ata,pa,rfl,pa1,pa2,pa3,hm,hn⟩:=h;have hmn:m*n≤64*64:=Nat.mul_le_mul hm hn;have HAA:Hid (∀wx,Below w.heap.size w wx→∀i j,i<m→j<n→∃b off cap n1 a l c',ata=.slice (some ⟨b,off,none⟩) (m*n) cap∧wx.cell? ⟨b,off+(i*n+j)*2,none⟩=some (.bool n1)∧wx.cell? ⟨b,off+(i*n+j)*2+1,none⟩=some (.slice a l c')∧Zi wx (.agg #[.bool n1,.slice a l c']) (en18 n zs i j) k):=fun wx h i j hi hj=>by
  have:=(pa1.now h).isI12 (pa2.now h) (t:=i*n+j) (by rw [pa3];exact ziE hi hj);rw [pa3] at this;exact this
 obtain ⟨N,hN⟩:∃N,m*n=N:=⟨_,rfl⟩
 have HNN:=hid hN;obtain ⟨aa,ca,rfl,-,-,-,-⟩:=pa1.form;have hpl:pa.length=N:=by rw [pa2.1,pa3,hN]
 rw [hpl] at HAA ⊢;rw [hN] at HAA hmn;obtain ⟨W0,hW⟩:∃W0,w.alloc (matO m n (.slice aa N ca))=W0:=⟨_,rfl⟩
 obtain ⟨b0,sz0⟩:=alo1 w (matO m n (.slice aa N ca));rw [hW] at b0 sz0;have PA:Hid (Cel W0 w.heap.size 24 (matc m n (.slice aa N ca))):=by unfold Hid;rw [←hW];exact Cel.new w _ _
 have x0:=PA.out.at (i:=0) rfl;have x1:=PA.out.at (i:=1) rfl;have x2:=PA.out.at (i:=2) rfl;rw [←hW] at x0 x1 x2;have HK:=hid hk;have EW:=hid hW;have H0:Hid (zeH w m n (en18 n zs) (matc m n (.slice aa N ca)) m (.slice none 0 0) (.int .i64 0) W0):=⟨0,fun _=>0,0,rfl,Nat.zero_le _,rfl,Pf18.start n _ _,Ivs.nil _ _,PA.out,b0⟩
 clear pa1 pa2 pa3 hpl b0 sz0 hW hk hN PA;go_enter Tryz.func9,Tryz.ntmps9;go_wp2_with fail;rw [EW.out];clear EW x0 x1 x2
 go_loopg [4,5] m (fun gk s4 s5 wx=>zeH w m n (en18 n zs) (matc m n (.slice aa N ca)) gk s4 s5 wx)
 case atStart=>exact H0.out
 case round =>
  clear H0;obtain ⟨i,γ,nx,rfl,him,hgk,hpf,hiv,ho⟩:=hrel;have HP:=hid hpf;clear hpf;have IV:=hid hiv;have OB:=hid ho;have HG:=hid hgk;clear hiv ho hgk;obtain ⟨al,cl,rfl,-,-⟩:=IV.out.form;rw [zhA] at IV ⊢;have x0:=OB.out.1.at (i:=0) rfl
  by_cases hlt:i<m
  ·have hlt':(i:Int)<(m:Int):=by omega
   obtain ⟨W2,hW2⟩:∃W2,wr=W2:=⟨_,rfl⟩
   rw [hW2] at IV OB x0 ⊢;have HMM:Hid (m-(i+1)<gk):=by unfold Hid;rw [HG.out];omega
   have H1:Hid (zNI W2 n (en18 n zs i) n (.int .i64 0) W2):=⟨0,rfl,Nat.zero_le _,rfl,fun j hj=>by omega,Below.refl _ _⟩
   clear HG hW2;go_wp2_with fail
   go_loopg [6] n (fun gk2 s6 wx=>zNI W2 n (en18 n zs i) gk2 s6 wx)
   case atStart=>exact H1.out
   case round =>
    clear H1 x0;obtain ⟨c,rfl,hcn,hg,hz0,hb⟩:=hrel;have BB:=hid hb;have HG:=hid hg;have HZ0:=hid hz0;clear hb hg hz0;have OB2:=hid (OB.out.step BB.out);have x1:=OB2.out.1.at (i:=1) rfl;have x2:=OB2.out.1.at (i:=2) rfl;have k1:=zsB (i:=i) (c:=n) (by omega) hn;have k1':=k1;rw [IntKind.wrap_i64] at k1'
    by_cases hlt2:c<n
    ·have hlt2':(c:Int)<(n:Int):=by omega
     have hw2:=zYA (i:=c) (by omega);obtain ⟨b1,o1,c1,n1,a1,l1,d1,e1,u0,u1,z1⟩:=HAA.out wr OB2.out.2 i c hlt hlt2;simp only [Value.slice.injEq] at e1;obtain ⟨rfl,-,rfl⟩:=e1;have hp1:i*n+c<N:=by rw [←HNN.out];exact ziE hlt hlt2
     have k3:IntKind.i64.wrap (((i*n:Nat):Int)+(c:Int))=((i*n+c:Nat):Int):=by rw [zWA] <;> omega
     obtain ⟨q1,hq1⟩:∃q1,i*n=q1:=⟨_,rfl⟩
     rw [hq1] at hp1 k1 k1' k3 u0 u1;obtain ⟨t1,ht1⟩:∃t1,q1+c=t1:=⟨_,rfl⟩
     rw [ht1] at hp1 k3 u0 u1;have hp1':(t1:Int)<(N:Int):=by omega
     have k3':=k3;rw [IntKind.wrap_i64] at k3';obtain ⟨z,hz⟩:∃z,en18 n zs i c=z:=⟨_,rfl⟩
     rw [hz] at z1;have Z1:=hid z1;have HQ1:=hid hq1;have HT1:=hid ht1;clear z1 hq1 ht1
     by_cases h0:z=0
     ·have HS:Hid (Calls Tryz.prog 20 #[.agg #[.bool n1,.slice a1 l1 d1]] wr fun e w'=>e=.returned (.int .i64 0)∧Below wr.heap.size wr w'):=by
       have:=zPB Z1.out HK.out;rw [h0,cmpI_self] at this;exact this
      have HMM2:Hid (n-(c+1)<gk):=by unfold Hid;rw [HG.out];omega
      have HZN:Hid (∀j,j<c+1→en18 n zs i j=0):=fun j hj=>by
       by_cases q:j<c
       ·exact HZ0.out j q
       ·obtain rfl:j=c:=by omega
        rw [hz];exact h0
      clear h0 hz Z1 HG HZ0;go_wp2_with fail;refine HS.out.mono ?_;rintro e w3 ⟨rfl,b⟩;have HN1:Hid (zNI W2 n (en18 n zs i) (n-(c+1)) (.int .i64 ((c+1:Nat):Int)) w3):=⟨c+1,rfl,by omega,rfl,HZN.out,below_step BB.out b⟩
      clear HS HZN BB OB2 b u0 u1 x1 x2;go_wp2_with fail;go_roundg (n-(c+1))
      case rel=>exact HN1.out
      case measure=>exact HMM2.out
     ·by_cases hneg:z<0
      ·have HS:Hid (Calls Tryz.prog 20 #[.agg #[.bool n1,.slice a1 l1 d1]] wr fun e w'=>e=.returned (.int .i64 (-1))∧Below wr.heap.size wr w'):=by
        have:=zPB Z1.out HK.out;rw [zZA hneg] at this;exact this
       have HNF:=hid (Hf18.not_neg (m:=m) hlt hlt2 HZ0.out (by rw [hz];exact hneg));clear h0 hz HG HZ0;go_wp2_with fail;refine HS.out.mono ?_;rintro e w3 ⟨rfl,b⟩;have OB3:=hid (OB2.out.step b);have Z3:=hid (Z1.out.now b);replace u0:=cnow b u0;replace u1:=cnow b u1;clear HS BB OB2 b x1 x2 Z1 IV OB;have x1:=OB3.out.1.at (i:=1) rfl;have x2:=OB3.out.1.at (i:=2) rfl;have hcn':((c:Int) == (n:Int))=false:=by simp;omega
       obtain ⟨V,hV⟩:∃V,w3.alloc (duo (.bool n1) (.slice a1 l1 d1))=V:=⟨_,rfl⟩
       obtain ⟨bV,szV⟩:=alo1 w3 (duo (.bool n1) (.slice a1 l1 d1));rw [hV] at bV szV;have PP:Hid (Duo V w3.heap.size (.bool n1) (.slice a1 l1 d1)):=by unfold Hid;rw [←hV];exact Duo.new w3 _ _
       have OV:=hid (OB3.out.step bV);have p0:=PP.out.c0;have p1:=PP.out.c1;have HS2:Hid (Calls Tryz.prog 20 #[.agg #[.bool n1,.slice a1 l1 d1]] V fun e w'=>e=.returned (.int .i64 (-1))∧Below V.heap.size V w'):=by
        have:=zPB (Z3.out.now bV) HK.out;rw [zZA hneg] at this;exact this
       have EV:=hid hV;rw [←hV] at p0 p1;clear bV szV hV OB3 Z3;go_wp2_with fail;rw [EV.out];refine HS2.out.mono ?_;rintro e w4 ⟨rfl,b⟩;have FIN:Hid (znC w n m (en18 n zs) (.returned (.tuple #[.slice none 0 0,.bool false])) w4):=⟨_,false,rfl,(fun e=>by cases e),fun _=>HNF.out,(OV.out.step b).2⟩
       clear b EV HS2 p0 p1 u0 u1 x1 x2 k1 k1' k3 k3' hcn' OV PP;go_wp2;go_ret2;exact FIN.out
      have hpos:0<z:=by omega
      have HPO:=hid hpos;have HS:Hid (Calls Tryz.prog 20 #[.agg #[.bool n1,.slice a1 l1 d1]] wr fun e w'=>e=.returned (.int .i64 1)∧Below wr.heap.size wr w'):=by
       have:=zPB Z1.out HK.out;rw [ziA hpos] at this;exact this
      have HZE:=hid hz;clear h0 hz HG hpos hneg;go_wp2_with fail;refine HS.out.mono ?_;rintro e w3 ⟨rfl,b⟩;have OB3:=hid (OB2.out.step b);have IV3:=hid ((IV.out.now BB.out).now b);have Z3:=hid (Z1.out.now b);replace u0:=cnow b u0;replace u1:=cnow b u1;clear HS BB OB2 b x1 x2 Z1 IV OB;have x1:=OB3.out.1.at (i:=1) rfl;have x2:=OB3.out.1.at (i:=2) rfl;have hcn':((c:Int) == (n:Int))=false:=by simp;omega
      obtain ⟨V,hV⟩:∃V,w3.alloc (duo (.bool n1) (.slice a1 l1 d1))=V:=⟨_,rfl⟩
      obtain ⟨bV,szV⟩:=alo1 w3 (duo (.bool n1) (.slice a1 l1 d1));rw [hV] at bV szV;have PP:Hid (Duo V w3.heap.size (.bool n1) (.slice a1 l1 d1)):=by unfold Hid;rw [←hV];exact Duo.new w3 _ _
      have OV:=hid (OB3.out.step bV);have IVV:=hid (IV3.out.now bV);have ZV:=hid (Z3.out.now bV);have p0:=PP.out.c0;have p1:=PP.out.c1;have HS2:Hid (Calls Tryz.prog 20 #[.agg #[.bool n1,.slice a1 l1 d1]] V fun e w'=>e=.returned (.int .i64 1)∧Below V.heap.size V w'):=by
       have:=zPB ZV.out HK.out;rw [ziA HPO.out] at this;exact this
      have EV:=hid hV;rw [←hV] at p0 p1;clear bV szV hV OB3 IV3 Z3;go_wp2_with fail;rw [EV.out];refine HS2.out.mono ?_;rintro e w4 ⟨rfl,b⟩;replace PP:=hid (PP.out.step b);replace OV:=hid (OV.out.step b);replace IVV:=hid (IVV.out.now b);replace ZV:=hid (ZV.out.now b);obtain ⟨pb,hpb⟩:∃pb,w3.heap.size=pb:=⟨_,rfl⟩
      rw [hpb] at PP;clear b EV HS2 p0 p1 u0 u1 x1 x2 k1 k1' k3 k3' hcn'
      by_cases hi0:i=0
      ·have hi0':¬(0:Int)<(i:Int):=by omega
       obtain ⟨W4,hW4⟩:∃W4,w4=W4:=⟨_,rfl⟩
       rw [hW4] at PP OV IVV ZV ⊢;have H4:Hid (zfI W4 0 i i (.int .i64 0) W4):=⟨0,rfl,Nat.le_refl _,Nat.zero_le _,rfl,Below.refl _ _⟩
       have HI0:=hid hi0;clear hW4 PP ZV hi0;go_wp2_with fail
       go_loopg [9] i (fun gk3 s9 wx=>zfI W4 0 i gk3 s9 wx)
       case atStart=>exact H4.out
       case round =>
       clear H4;obtain ⟨t,rfl,-,hti,hg,hb⟩:=hrel;have BB:=hid hb;clear hb hg;replace OV:=hid (OV.out.step BB.out);replace IVV:=hid (IVV.out.now BB.out);have hlt3':¬(t:Int)<(i:Int):=by have:=HI0.out;omega
       clear BB;have CV0:=hid (below_step OV.out.2 (Below.refl _ _));obtain ⟨V5,hV⟩:∃V5,wr.alloc (.cells #[.int .i64 (c:Int)] 3)=V5:=⟨_,rfl⟩
       obtain ⟨bv,szv⟩:=alo1 wr (.cells #[.int .i64 (c:Int)] 3);rw [hV] at bv szv;have CV:Hid (V5.cell? ⟨wr.heap.size,0,none⟩=some (.int .i64 (c:Int))):=by unfold Hid;rw [←hV];exact (Cel.new wr 3 [.int .i64 (c:Int)]).at (i:=0) rfl
       have OV5:=hid (OV.out.step bv);have IV5:=hid (IVV.out.now bv);have HL:Hid ((zhB γ i).length≤1000000):=by unfold Hid;rw [zhA];omega
       have EV:=hid hV;have hwi:=zYA (i:=i) (by omega);clear bv szv hV OV IVV CV0;go_wp2_with (at_builtin;rw [EV.out];refine zxA V5 rfl (.tmp 112) (.tmp 114) rfl w.heap.size _ (zhB γ i) c rfl IV5.out wr.heap.size rfl CV.out HL.out OV5.out.2.size ?_)
       intro g' cap' w5 hI hgr hbk;rw [zhA] at hI ⊢;have HN1:Hid (zeH w m n (en18 n zs) (matc m n (.slice (some ⟨b1,o1,none⟩) N ca)) (m-(i+1)) (.slice (some ⟨g',0,none⟩) (i+1) cap') (.int .i64 ((i+1:Nat):Int)) w5):=by
        refine ⟨i+1,_,_,rfl,by omega,rfl,(HP.out.piv hlt2 HZ0.out (by rw [HZE.out];exact HPO.out) (Nat.le_of_not_lt fun q=>by have:=HI0.out;rcases (HP.out.nx c hlt2).1 q with q | q <;> omega) fun k hk=>by have:=HI0.out;omega).2,?_,?_,zRC OV5.out.2 OV5.out.2.size IV5.out hgr.out⟩
        ·rw [zuC];exact hI.out
        ·exact zaF OV5.out.1 IV5.out hgr.out
       clear OV5 IV5 EV CV HL hI hgr hbk;go_wp2_with fail;go_roundg (m-(i+1))
       case rel=>exact HN1.out
       case measure=>exact HMM.out
      ·have hi0':(0:Int)<(i:Int):=by omega
       obtain ⟨gl,cpl,el,kl⟩:=IVV.out.at18 (t:=i-1) (by rw [zhA];omega);rw [zhA] at el;simp only [Value.slice.injEq] at el;obtain ⟨rfl,-,rfl⟩:=el;obtain ⟨gc,hgc⟩:∃gc,(zhB γ i).getD (i-1) 0=gc:=⟨_,rfl⟩
       rw [hgc] at kl;have eg:gc=γ (i-1):=by rw [←hgc];simp [zhB,show i-1<i by omega]
       by_cases hgl:c≤gc
       ·have hgl':(c:Int)≤(gc:Int):=by omega
        have hgd:decide (c≤gc)=true:=by simp;omega
        have FIN:Hid (znC w n m (en18 n zs) (.returned (.tuple #[.slice none 0 0,.bool false])) w4):=⟨_,false,rfl,(fun e=>by cases e),fun _=>HP.out.not_next (m:=m) hlt hlt2 HZ0.out (by rw [HZE.out];have:=HPO.out;omega) ((HP.out.nx c hlt2).2 (.inr ⟨by omega,by omega⟩)),OV.out.2⟩
        obtain ⟨i1,hi1⟩:∃i1,i-1=i1:=⟨_,rfl⟩
        rw [hi1] at kl;have hw1:IntKind.i64.wrap ((i:Int)-1)=(i1:Int):=by rw [zWA] <;> omega
        have hi1':(i1:Int)<(i:Int):=by omega
        clear hgc hi0 eg PP OV IVV ZV hi1;go_wp2_with fail
        try simp only [hgd]
        go_wp2;go_ret2;exact FIN.out
       have HNX:Hid (nx≤c):=Nat.le_of_not_lt fun q=>by rcases (HP.out.nx c hlt2).1 q with q | q <;> omega
       have hgl':¬(c:Int)≤(gc:Int):=by omega
       have hgd:decide (c≤gc)=false:=by simp;omega
       obtain ⟨i1,hi1⟩:∃i1,i-1=i1:=⟨_,rfl⟩
       rw [hi1] at kl;have hw1:IntKind.i64.wrap ((i:Int)-1)=(i1:Int):=by rw [zWA] <;> omega
       have hi1':(i1:Int)<(i:Int):=by omega
       obtain ⟨W4,hW4⟩:∃W4,w4=W4:=⟨_,rfl⟩
       rw [hW4] at PP OV IVV ZV kl ⊢;have H4:Hid (zPI W4 i (fun k=>en18 n zs k c) z i (.int .i64 0) W4):=⟨0,rfl,Nat.zero_le _,rfl,fun k hk=>by omega,Below.refl _ _⟩
       clear hW4 hgc hgl hi0 eg;go_wp2_with fail
       try simp only [hgd]
       clear kl hgl' hgd hw1 hi1' hi1
       go_loopg [9] i (fun gk3 s9 wx=>zPI W4 i (fun k=>en18 n zs k c) z gk3 s9 wx)
       case atStart=>exact H4.out
       case round =>
        clear H4;obtain ⟨t,rfl,hti,hg,hrdd,hb⟩:=hrel;have HRD:=hid hrdd;clear hrdd;have BB:=hid hb;have HG:=hid hg;clear hb hg;replace PP:=hid (PP.out.step BB.out);replace OV:=hid (OV.out.step BB.out);replace IVV:=hid (IVV.out.now BB.out);replace ZV:=hid (ZV.out.now BB.out)
        by_cases hlt3:t<i
        ·have hlt3':(t:Int)<(i:Int):=by omega
         have hw3:=zYA (i:=t) (by omega);have HMM3:Hid (i-(t+1)<gk):=by unfold Hid;rw [HG.out];omega
         have x1:=OV.out.1.at (i:=1) rfl;have x2:=OV.out.1.at (i:=2) rfl;obtain ⟨b3,o3,c3,n3,a3,l3,d3,e3,v0,v1,z3⟩:=HAA.out wr OV.out.2 t c (by omega) hlt2;simp only [Value.slice.injEq] at e3;have e31:=e3.1;simp only [Option.some.injEq,Addr.mk.injEq,and_true] at e31;obtain ⟨rfl,rfl⟩:=e31;have hp3:t*n+c<N:=by rw [←HNN.out];exact ziE (by omega) hlt2
         have k1:=zsB (i:=t) (c:=n) (by omega) hn;have k3:IntKind.i64.wrap (((t*n:Nat):Int)+(c:Int))=((t*n+c:Nat):Int):=by rw [zWA] <;> omega
         obtain ⟨q3,hq3⟩:∃q3,t*n=q3:=⟨_,rfl⟩
         rw [hq3] at hp3 k1 k3 v0 v1;obtain ⟨t3,ht3⟩:∃t3,q3+c=t3:=⟨_,rfl⟩
         rw [ht3] at hp3 k3 v0 v1;have hp3':(t3:Int)<(N:Int):=by omega
         have k1':=k1;rw [IntKind.wrap_i64] at k1';have k3':=k3;rw [IntKind.wrap_i64] at k3';obtain ⟨y,hy⟩:∃y,en18 n zs t c=y:=⟨_,rfl⟩
         rw [hy] at z3
         by_cases hrd:¬(0≤y∧y<z)
         ·have HNF:=hid (Hf18.not_red (m:=m) hlt hlt2 HZ0.out (by rw [HZE.out];have:=HPO.out;omega) hlt3 (by rw [hy,HZE.out];exact hrd))
          obtain ⟨VY,hVY⟩:∃VY,wr.alloc (duo (.bool n3) (.slice a3 l3 d3))=VY:=⟨_,rfl⟩
          obtain ⟨bY,szY⟩:=alo1 wr (duo (.bool n3) (.slice a3 l3 d3));rw [hVY] at bY szY;have PX:Hid (Duo VY wr.heap.size (.bool n3) (.slice a3 l3 d3)):=by unfold Hid;rw [←hVY];exact Duo.new wr _ _
          have ZX:=hid (z3.now bY);have PPY:=hid (PP.out.step bY);have OY:=hid (OV.out.step bY);have HS3:=hid (zPB ZX.out HK.out);have HC3:Hid (∀w',Below VY.heap.size VY w'→Calls Tryz.prog 21 #[.agg #[.bool n3,.slice a3 l3 d3],.agg #[.bool n1,.slice a1 l1 d1]] w' fun e w''=>e=.returned (.int .i64 (cmpI y z))∧Below w'.heap.size w' w''):=fun w' hb=>zkH (ZX.out.now hb) ((ZV.out.now bY).now hb) HK.out HK.out
          have p0:=PX.out.c0;have p1:=PX.out.c1;have EY:=hid hVY;rw [←hVY] at p0 p1
          by_cases hy0:y<0
          ·have e3':cmpI y 0 = -1:=zZA hy0
           rw [e3'] at HS3;clear hrd z3 hy bY szY hVY hq3 ht3 HG e3 e3' HC3;go_wp2_with fail;rw [EY.out];refine HS3.out.mono ?_;rintro e w6 ⟨rfl,b⟩;have FIN:Hid (znC w n m (en18 n zs) (.returned (.tuple #[.slice none 0 0,.bool false])) w6):=⟨_,false,rfl,(fun e=>by cases e),fun _=>HNF.out,(OY.out.step b).2⟩
           clear p0 p1 EY HS3 b x1 x2 v0 v1 OV IVV ZV PP PPY ZX PX OY;go_wp2;go_ret2;exact FIN.out
          ·have hs3:¬cmpI y 0<0:=by
            unfold cmpI;rw [if_neg (by omega)]
            split <;> omega
           obtain ⟨sy,hsy⟩:∃sy,cmpI y 0=sy:=⟨_,rfl⟩
           rw [hsy] at HS3 hs3;have hs4:0≤cmpI y z:=by
            unfold cmpI;rw [if_neg (by omega)]
            split <;> omega
           obtain ⟨sz,hsz⟩:∃sz,cmpI y z=sz:=⟨_,rfl⟩
           rw [hsz] at hs4;simp only [hsz] at HC3;clear hrd z3 hy bY szY hVY hsy hq3 ht3 HG e3 hsz hy0;go_wp2_with fail;rw [EY.out];refine HS3.out.mono ?_;rintro e w6 ⟨rfl,b⟩;have p2:=(PX.out.step b).c0;have p3:=(PX.out.step b).c1;have p4:=(PPY.out.step b).c0;have p5:=(PPY.out.step b).c1;have HC4:=hid (HC3.out _ b);replace OY:=hid (OY.out.step b);clear p0 p1 EY HS3 HC3 b x1 x2 v0 v1;go_wp2_with fail;refine HC4.out.mono ?_;rintro e w7 ⟨rfl,b⟩;have FIN:Hid (znC w n m (en18 n zs) (.returned (.tuple #[.slice none 0 0,.bool false])) w7):=⟨_,false,rfl,(fun e=>by cases e),fun _=>HNF.out,(OY.out.step b).2⟩
           clear HC4 b p2 p3 p4 p5 PX PPY ZX k1 k1' k3 k3' hp3 hp3' OY OV IVV ZV PP;go_wp2;go_ret2;exact FIN.out
         replace hrd:0≤y∧y<z:=Classical.not_not.1 hrd;have HRY:Hid (0≤en18 n zs t c∧en18 n zs t c<z):=by unfold Hid;rw [hy];exact hrd
         obtain ⟨VY,hVY⟩:∃VY,wr.alloc (duo (.bool n3) (.slice a3 l3 d3))=VY:=⟨_,rfl⟩
         obtain ⟨bY,szY⟩:=alo1 wr (duo (.bool n3) (.slice a3 l3 d3));rw [hVY] at bY szY;have PX:Hid (Duo VY wr.heap.size (.bool n3) (.slice a3 l3 d3)):=by unfold Hid;rw [←hVY];exact Duo.new wr _ _
         have ZX:=hid (z3.now bY);have PPY:=hid (PP.out.step bY);have BY:=hid (below_step BB.out bY);have HS3:=hid (zPB ZX.out HK.out);have hs3:¬cmpI y 0<0:=by
          unfold cmpI;rw [if_neg (by omega)]
          split <;> omega
         obtain ⟨sy,hsy⟩:∃sy,cmpI y 0=sy:=⟨_,rfl⟩
         rw [hsy] at HS3 hs3;have HC3:Hid (∀w',Below VY.heap.size VY w'→Calls Tryz.prog 21 #[.agg #[.bool n3,.slice a3 l3 d3],.agg #[.bool n1,.slice a1 l1 d1]] w' fun e w''=>e=.returned (.int .i64 (-1))∧Below w'.heap.size w' w''):=fun w' hb=>by
          have:=zkH (ZX.out.now hb) ((ZV.out.now bY).now hb) HK.out HK.out;rw [zZA hrd.2] at this;exact this
         have p0:=PX.out.c0;have p1:=PX.out.c1;have EY:=hid hVY;rw [←hVY] at p0 p1;clear hrd z3 hy bY szY hVY hsy hq3 ht3 HG e3;go_wp2_with fail;rw [EY.out];refine HS3.out.mono ?_;rintro e w6 ⟨rfl,b⟩;have p2:=(PX.out.step b).c0;have p3:=(PX.out.step b).c1;have p4:=(PPY.out.step b).c0;have p5:=(PPY.out.step b).c1;have HC4:=hid (HC3.out _ b);have BY6:=hid (below_step BY.out b);clear p0 p1 EY HS3 HC3 b x1 x2 v0 v1;go_wp2_with fail;refine HC4.out.mono ?_;rintro e w7 ⟨rfl,b⟩;have HN3:Hid (zPI W4 i (fun k=>en18 n zs k c) z (i-(t+1)) (.int .i64 ((t+1:Nat):Int)) w7):=⟨t+1,rfl,by omega,rfl,fun k hk=>by
          by_cases q:k=t
          ·rw [q];exact HRY.out
          ·exact HRD.out k (by omega),below_step BY6.out b⟩
         clear HC4 BY6 BY b p2 p3 p4 p5 PX PPY ZX k1 k1' k3 k3' hp3 hp3';go_wp2_with fail;go_roundg (i-(t+1))
         case rel=>exact HN3.out
         case measure=>exact HMM3.out
        ·have hlt3':¬(t:Int)<(i:Int):=by omega
         clear PP ZV HG BB;have CV0:=hid (below_step OV.out.2 (Below.refl _ _));obtain ⟨V5,hV⟩:∃V5,wr.alloc (.cells #[.int .i64 (c:Int)] 3)=V5:=⟨_,rfl⟩
         obtain ⟨bv,szv⟩:=alo1 wr (.cells #[.int .i64 (c:Int)] 3);rw [hV] at bv szv;have CV:Hid (V5.cell? ⟨wr.heap.size,0,none⟩=some (.int .i64 (c:Int))):=by unfold Hid;rw [←hV];exact (Cel.new wr 3 [.int .i64 (c:Int)]).at (i:=0) rfl
         have OV5:=hid (OV.out.step bv);have IV5:=hid (IVV.out.now bv);have HL:Hid ((zhB γ i).length≤1000000):=by unfold Hid;rw [zhA];omega
         have EV:=hid hV;have hwi:=zYA (i:=i) (by omega);clear bv szv hV OV IVV CV0;go_wp2_with (at_builtin;rw [EV.out];refine zxA V5 rfl (.tmp 112) (.tmp 114) rfl w.heap.size _ (zhB γ i) c rfl IV5.out wr.heap.size rfl CV.out HL.out OV5.out.2.size ?_)
         intro g' cap' w5 hI hgr hbk;rw [zhA] at hI ⊢;have HN1:Hid (zeH w m n (en18 n zs) (matc m n (.slice (some ⟨b1,o1,none⟩) N ca)) (m-(i+1)) (.slice (some ⟨g',0,none⟩) (i+1) cap') (.int .i64 ((i+1:Nat):Int)) w5):=by
          refine ⟨i+1,_,_,rfl,by omega,rfl,(HP.out.piv hlt2 HZ0.out (by rw [HZE.out];exact HPO.out) HNX.out fun k hk=>by rw [HZE.out];exact HRD.out k (by omega)).2,?_,?_,zRC OV5.out.2 OV5.out.2.size IV5.out hgr.out⟩
          ·rw [zuC];exact hI.out
          ·exact zaF OV5.out.1 IV5.out hgr.out
         clear OV5 IV5 EV CV HL hI hgr hbk;go_wp2_with fail;go_roundg (m-(i+1))
         case rel=>exact HN1.out
         case measure=>exact HMM.out
    ·have hce:c=n:=by omega
     have hlt2':¬(c:Int)<(n:Int):=by omega
     have HZR:Hid (∀j,j<n→en18 n zs i j=0):=fun j hj=>HZ0.out j (by omega)
     have hceq:((c:Int) == (n:Int))=true:=by simp;omega
     obtain ⟨lo,hlo⟩:∃lo,i*n=lo:=⟨_,rfl⟩
     rw [hlo] at k1 k1';have hloN:lo≤N:=by rw [←hlo,←HNN.out];exact Nat.mul_le_mul_right n him
     have HLO:=hid hlo;have IV2:=hid (IV.out.now BB.out);obtain ⟨W4,hW4⟩:∃W4,wr=W4:=⟨_,rfl⟩
     rw [hW4] at OB2 IV2 x1 x2 ⊢;have H4:Hid (zOI W4 lo N n (en18 n zs) (N-lo) (.int .i64 (lo:Int)) W4):=⟨lo,rfl,Nat.le_refl _,hloN,rfl,fun p h1 h2=>by omega,Below.refl _ _⟩
     clear HG hW4 hlo IV OB BB HZ0;go_wp2_with fail
     go_loopg [7] (N-lo) (fun gk3 s7 wx=>zOI W4 lo N n (en18 n zs) gk3 s7 wx)
     case atStart=>exact H4.out
     case round =>
      clear H4 x1 x2 k1 k1';obtain ⟨t,rfl,hlt4,htN,hg,hzz,hb⟩:=hrel;have HZZ:=hid hzz;clear hzz;have B4:=hid hb;have HG:=hid hg;clear hb hg;have OB4:=hid (OB2.out.step B4.out);have x2:=OB4.out.1.at (i:=2) rfl
      by_cases hlt3:t<N
      ·have hlt3':(t:Int)<(N:Int):=by omega
       have hw3:=zYA (i:=t) (by omega);have HMM3:Hid (N-(t+1)<gk):=by unfold Hid;rw [HG.out];omega
       have hn0:0<n:=Nat.pos_of_ne_zero fun q=>by have h1:=HNN.out;rw [q,Nat.mul_zero] at h1;omega
       have hti:i≤t / n:=(Nat.le_div_iff_mul_le hn0).2 (by rw [HLO.out];exact hlt4);have htm:t / n<m:=(Nat.div_lt_iff_lt_mul hn0).2 (by rw [HNN.out];exact hlt3);obtain ⟨b3,o3,c3,n3,a3,l3,d3,e3,v0,v1,z3⟩:=HAA.out wr OB4.out.2 (t / n) (t % n) htm (Nat.mod_lt _ hn0);simp only [Value.slice.injEq] at e3;obtain ⟨rfl,-,rfl⟩:=e3;have htt:t / n*n+t % n=t:=by rw [Nat.mul_comm];exact Nat.div_add_mod t n
       rw [htt] at v0 v1
       by_cases hz3:en18 n zs (t / n) (t % n)≠0
       ·have HNF:=hid (Hf18.not_rest (m:=m) hlt HZR.out hti htm (Nat.mod_lt _ hn0) hz3)
        have HS3:=hid (zPB z3 HK.out);have hs3:cmpI (en18 n zs (t / n) (t % n)) 0≠0:=by
         unfold cmpI
         split
         ·omega
         ·split <;> omega
        obtain ⟨sy,hsy⟩:∃sy,cmpI (en18 n zs (t / n) (t % n)) 0=sy:=⟨_,rfl⟩
        rw [hsy] at HS3 hs3;have hs4:(sy != 0)=true:=by simpa using hs3
        clear z3 hz3 htt htm hti HG hsy;go_wp2_with fail;refine HS3.out.mono ?_;rintro e w6 ⟨rfl,b⟩;have FIN:Hid (znC w n m (en18 n zs) (.returned (.tuple #[.slice none 0 0,.bool false])) w6):=⟨_,false,rfl,(fun e=>by cases e),fun _=>HNF.out,(OB4.out.step b).2⟩
        clear HS3 B4 OB4 b x2 v0 v1 IV2;go_wp2;go_ret2;exact FIN.out
       replace hz3:en18 n zs (t / n) (t % n)=0:=Classical.not_not.1 hz3;have HZT:=hid hz3;rw [hz3] at z3;have HS3:Hid (Calls Tryz.prog 20 #[.agg #[.bool n3,.slice a3 l3 d3]] wr fun e w'=>e=.returned (.int .i64 0)∧Below wr.heap.size wr w'):=by
        have:=zPB z3 HK.out;rw [cmpI_self] at this;exact this
       clear z3 hz3 htt htm hti HG;go_wp2_with fail;refine HS3.out.mono ?_;rintro e w6 ⟨rfl,b⟩;have HN3:Hid (zOI W4 lo N n (en18 n zs) (N-(t+1)) (.int .i64 ((t+1:Nat):Int)) w6):=⟨t+1,rfl,by omega,by omega,rfl,fun p h1 h2=>by
        by_cases q:p=t
        ·rw [q];exact HZT.out
        ·exact HZZ.out p h1 (by omega),below_step B4.out b⟩
       clear HS3 B4 OB4 b x2 v0 v1;go_wp2_with fail;go_roundg (N-(t+1))
       case rel=>exact HN3.out
       case measure=>exact HMM3.out
      ·have hlt3':¬(t:Int)<(N:Int):=by omega
       have FIN:Hid (znC w n m (en18 n zs) (.returned (.tuple #[.slice al i cl,.bool true])) wr):=⟨_,true,rfl,fun _=>⟨i,γ,HP.out.rest_ him fun t' h1 h2 j hj=>by
        have hn0:0<n:=by omega
        have e1:(t'*n+j) / n=t':=by rw [Nat.mul_comm,Nat.mul_add_div hn0,Nat.div_eq_of_lt hj];omega
        have e2:(t'*n+j) % n=j:=by rw [Nat.mul_comm,Nat.mul_add_mod,Nat.mod_eq_of_lt hj]
        have h3:t'*n+j<N:=by rw [←HNN.out];exact ziE h2 hj
        have h4:lo≤t'*n:=by rw [←HLO.out];exact Nat.mul_le_mul_right n h1
        have:=HZZ.out (t'*n+j) (by omega) (by omega);rw [e1,e2] at this;exact this,HP.out.rd,IV2.out.now B4.out⟩,(fun e=>by cases e),OB4.out.2⟩
       clear HG B4 OB4 IV2;go_wp2;go_ret2;exact FIN.out
  ·obtain rfl:i=m:=by omega
   have hlt':¬(i:Int)<(i:Int):=by omega
   have FIN:Hid (znC w n i (en18 n zs) (.returned (.tuple #[.slice al i cl,.bool true])) wr):=⟨_,true,rfl,fun _=>⟨i,γ,HP.out.ec,HP.out.rd,IV.out⟩,(fun e=>by cases e),OB.out.2⟩
   clear HG IV OB;go_wp2;go_ret2;exact FIN.out
end Go.Proofs.YtefpboopafdhpaaGreat
