/-
 QCutToAddTo: Cut, AddTo, joined.
-/
import Derived.Test.YtjnokjgbeploaaaGreatQMadeToByWord
import Derived.Test.YtjnokjgbeploaaaGreatQWordsToCarry

set_option maxRecDepth 100000
set_option maxHeartbeats 6400000
set_option linter.unusedVariables false
set_option linter.unusedSimpArgs false
namespace Go.Proofs.YtjnokjgbeploaaaGreat
open Go.RowKit
theorem Sl.taken {B:Nat} {w:World} {a:Option Addr} {len cap:Nat} {xs:List Int} (h:Sl B w (.slice a len cap) xs) {n:Nat} (hn:n≤xs.length):Sl B w (.slice a n n) (xs.take n):=by
 obtain ⟨hw,a',cap',he,hlc,hcm,hm⟩:=h;simp only [Value.slice.injEq] at he;obtain ⟨rfl,rfl,rfl⟩:=he;have e:(xs.take n).length=n:=by simp;omega
 exact ⟨hw.take n,a,n,by rw [e],by omega,by omega,Sl.source hm⟩
theorem Sl.dropped {B:Nat} {w:World} {b off:Nat} {len cap:Nat} {xs:List Int} (h:Sl B w (.slice (some ⟨b,off,none⟩) len cap) xs) {n:Nat} (hn:n≤xs.length):Sl B w (.slice (some ⟨b,off+n,none⟩) (len-n) (len-n)) (xs.drop n):=by
 obtain ⟨hw,a',cap',he,hlc,hcm,hm⟩:=h;simp only [Value.slice.injEq] at he;obtain ⟨rfl,rfl,rfl⟩:=he;have e:(xs.drop n).length=xs.length-n:=by simp
 refine ⟨hw.rest n,_,_,by rw [e],by omega,by omega,?_⟩;rcases hm with rfl | ⟨b',off',h1,h2,h3⟩
 ·exact .inl (by simp)
 ·simp only [Option.some.injEq,Addr.mk.injEq,and_true] at h1
  obtain ⟨rfl,rfl⟩:=h1;refine .inr ⟨b,off+n,rfl,h2,fun j hj=>?_⟩;rw [e] at hj;rw [Nat.add_assoc,h3 (n+j) (by omega)]
  simp
theorem Sl.none {B:Nat} {w:World} (a:Option Addr) (xs:List Int) (h:xs=[]):Sl B w (.slice a 0 0) xs:=by
 subst h;exact ⟨WF.nil,a,0,rfl,Nat.le_refl _,Nat.zero_le _,.inl rfl⟩
def Splits (w:World) (xs:List Int) (n:Nat) (e:Ending) (w':World):Prop :=
 ∃l r,e=.returned (.tuple #[l,r])∧Sl w'.heap.size w' l (xs.take n)∧Sl w'.heap.size w' r (xs.drop n)∧Below w.heap.size w w'
theorem zXB {w:World} {v:Value} {xs:List Int} (h:Sl w.heap.size w v xs) {n:Nat} (hn:n≤35184372088832) :
  Calls Tryz.prog 100 #[v,.int .i64 (n:Int)] w (Splits w xs n):=by
 have HS:=hid h;obtain ⟨hw,a,cap,rfl,hlc,hcm,hm⟩:=h
 by_cases hle:n≤xs.length
 ·by_cases hlt:n<xs.length
  ·rcases hm with e | ⟨b,off,rfl,hbg,hcc⟩
   ·subst e;simp at hlt
   have HT:=hid (HS.out.taken hle);have HD:=hid (HS.out.dropped hle);clear hcc HS;generalize xs.length=L at *;have hmin:min (n:Int) (L:Int)=(n:Int):=by omega
   go_enter Tryz.func100,Tryz.ntmps100;go_wp2;go_quiet (fail);go_wp2;go_ret2;exact ⟨_,_,rfl,HT.out.drewN nq,HD.out.drewN nq,below_drewN (Below.refl _ _) nq⟩
  ·have e:n=xs.length:=by omega
   have HT:=hid (HS.out.taken (Nat.le_refl _));have HX:Hid (xs.take n=xs∧xs.drop n=[]):=⟨by rw [e];simp,by rw [e];simp⟩
   clear hm HS;generalize xs.length=L at *;subst e;go_enter Tryz.func100,Tryz.ntmps100;go_wp2;go_quiet (fail);go_wp2;go_ret2;exact ⟨_,_,rfl,HT.out.drewN nq,Sl.none _ _ HX.out.2,below_drewN (Below.refl _ _) nq⟩
 ·have HT:=hid (HS.out.taken (Nat.le_refl _))
  rw [List.take_length] at HT;have HX:Hid (xs.take n=xs∧xs.drop n=[]):=⟨by rw [List.take_of_length_le (by omega)],by rw [List.drop_of_length_le (by omega)]⟩
  clear hm HS;generalize xs.length=L at *;have hmin:min (n:Int) (L:Int)=(L:Int):=by omega
  go_enter Tryz.func100,Tryz.ntmps100;go_wp2;go_quiet (fail);go_wp2;go_ret2;refine ⟨_,_,rfl,?_,Sl.none _ _ HX.out.2,below_drewN (Below.refl _ _) nq⟩;rw [HX.out.1];exact HT.out.drewN nq
theorem ws_splice (zs src:List Int) (o:Nat):splice (ws zs) o (ws src)=ws (splice zs o src):=by
 unfold splice ws
 simp
theorem zuA (w:World) {ops:Array Oper} {rest:List Oper} {o:Oper} {a:Act} {Q:Exit→Act→World→Prop}
  (hgd:o.guard=none) (d s:Operand) (hop:o.op=.call { callee:=.builtin .copy,args:=#[d,s],argTypes:=#[37,37] })
  (g off:Nat) (dp sp:Option Addr) (dLen dCap sLen sCap:Nat) (zs src:List Int) (hrow:Row w g (ws zs)) (hd:a.eval d=.slice dp dLen dCap) (hs:a.eval s=.slice sp sLen sCap)
  (hlen:src.length=sLen) (hle:sLen≤dLen) (hdp:0<sLen→dp=some ⟨g,off,none⟩) (hfit:off+sLen≤zs.length)
  (hsl:src=[]∨∃b off,sp=some ⟨b,off,none⟩∧b<g∧∀j (h:j<src.length),w.cell? ⟨b,off+j,none⟩=some (.int .u64 src[j]))
  (hK:∀w',Hid (Row w' g (ws (splice zs off src)))→Below g w w'→wpList Tryz.prog ops Q rest (a.put o.dst (goInt sLen)) w') :
  wpList Tryz.prog ops Q (o :: rest) a w:=by
 have hmin:Nat.min sLen dLen=sLen:=Nat.min_eq_left hle;refine wpList_copy_splice hgd d s 37 37 hop 58 Tryz.underlying37 Tryz.sizeW _ _ dLen dCap sLen sCap hd hs g off (ws zs) 58 hrow (ws src) (by rw [zMA,hlen,hmin]) ?_ (by rw [zMA,zMA,hlen];exact hfit) ?_ g w (Below.refl _ _) (Nat.le_refl _) ?_
 ·intro hpos
  rcases hsl with rfl | ⟨b,so,hsp,_,hc⟩
  ·simp [ws] at hpos
  ·rw [zMA,hlen] at hpos
   refine ⟨hdp hpos,_,hsp,fun j v hj=>?_⟩;have hj':j<src.length:=by
    have:=(List.getElem?_eq_some_iff.1 hj).1
    simpa [zMA] using this
   have:(ws src)[j]?=some (.int .u64 src[j]):=by simp [ws,hj']
   rw [this] at hj;rw [←hj];have e:(⟨b,so,none⟩:Addr).add j=⟨b,so+j,none⟩:=by unfold Addr.add;split <;> simp_all
   rw [e];exact hc j hj'
 ·intro v hv
  simp only [ws,List.mem_map] at hv;obtain ⟨x,_,rfl⟩:=hv
  rfl
 ·intro w' h1 h2
  have:=hK w' (by unfold Hid Row;rw [←ws_splice];exact h1.out) h2
  simpa [zMA,hlen] using this
theorem splice_low (N:Nat) (xs:List Int):splice (List.replicate N 0) 0 xs=xs ++ List.replicate (N-xs.length) 0:=by
 simp [splice]
theorem splice_high (n m:Nat) (xs ys:List Int) (hx:xs.length≤n) (hy:ys.length=m):splice (xs ++ List.replicate (n+m-xs.length) 0) n ys=xs ++ List.replicate (n-xs.length) 0 ++ ys:=by
 subst hy;unfold splice;rw [List.take_append,List.drop_append,List.take_of_length_le hx,List.drop_of_length_le (by omega)]
 simp
 omega
theorem zcE {w:World} {v u:Value} {xs ys:List Int} (h:Sl w.heap.size w v xs) (h':Sl w.heap.size w u ys) {n:Nat} (hx:xs.length≤n) (hl:n+ys.length≤35184372088832) :
  Calls Tryz.prog 101 #[v,u,.int .i64 (n:Int)] w fun e w'=>e=.returned (.slice (some ⟨w.heap.size,0,none⟩) (n+ys.length) (n+ys.length))∧Row w' w.heap.size (ws (xs ++ List.replicate (n-xs.length) 0 ++ ys))∧Below w.heap.size w w':=by
 obtain ⟨hwx,a,capx,rfl,hlc,hcm,hm⟩:=h;obtain ⟨hwy,b,capy,rfl,hlc',hcm',hm'⟩:=h';have HM:=hid hm;have HM':=hid hm';have H1:Hid (splice (List.replicate (n+ys.length) 0) 0 xs=xs ++ List.replicate (n+ys.length-xs.length) 0):=splice_low _ _;have H2:Hid (splice (xs ++ List.replicate (n+ys.length-xs.length) 0) n ys=xs ++ List.replicate (n-xs.length) 0 ++ ys):=splice_high n _ xs ys hx rfl;have H3:Hid ((xs ++ List.replicate (n+ys.length-xs.length) 0).length=n+ys.length):=by unfold Hid;simp;omega
 generalize xs ++ List.replicate (n+ys.length-xs.length) 0=S1 at *;generalize xs ++ List.replicate (n-xs.length) 0 ++ ys=S2 at *;obtain ⟨k,hk⟩:∃k,k=xs.length:=⟨_,rfl⟩
 obtain ⟨m,hmm⟩:∃m,m=ys.length:=⟨_,rfl⟩
 rw [←hk] at hx hlc;rw [←hmm] at hl hlc' H1 H3;rw [←hk,←hmm];have HK:=hid hk;have HMM:=hid hmm;clear hm hm' hk hmm hwx hwy
 by_cases h0:m=0
 ·subst h0
  rw [Nat.add_zero] at H1 H3;simp only [Nat.add_zero];go_enter Tryz.func101,Tryz.ntmps101;go_wp2_with (at_make;refine wpList_make_words _ rfl _ _ rfl _ _ (n) (n) rfl rfl (by omega) (by omega) (Nat.le_refl _) (by omega) ?_)
  intro w2 hrow hb2 hsz2;have hs1:=hid (Sl.sourceB HM.out hb2 (Nat.le_refl _));have HR2:=hid hrow;have HB2:=hid hb2;clear hrow hsz2 hb2;go_wp2_with (refine zuA _ rfl (.tmp 13) (.tmp 14) rfl w.heap.size 0 _ _ _ _ _ _ _ xs HR2.out rfl rfl HK.out.symm (by omega) (fun _=>rfl) (by simp;omega) hs1.out ?_)
  intro w3 HR3 hb3;have HB3:=hid (HB2.out.trans hb3);clear hb3 HR2 HB2 hs1;rw [H1.out] at HR3;have hs2:=hid (Sl.sourceB HM'.out HB3.out (Nat.le_refl _));go_wp2_with (refine zuA _ rfl (.tmp 18) (.tmp 19) rfl w.heap.size n _ _ _ _ _ _ _ ys HR3.out rfl rfl HMM.out.symm (by omega) (fun _=>by omega) (by rw [H3.out];omega) hs2.out ?_)
  intro w4 HR4 hb4;have HB4:=hid (HB3.out.trans hb4);clear hb4 HR3 HB3 hs2;rw [H2.out] at HR4;go_wp2;go_ret;exact ⟨rfl,HR4.out,HB4.out⟩
 ·have hpos:n<n+m:=by omega
  clear h0;go_enter Tryz.func101,Tryz.ntmps101;go_wp2_with (at_make;refine wpList_make_words _ rfl _ _ rfl _ _ (n+m) (n+m) rfl rfl (by omega) (by omega) (Nat.le_refl _) (by omega) ?_)
  intro w2 hrow hb2 hsz2;have hs1:=hid (Sl.sourceB HM.out hb2 (Nat.le_refl _));have HR2:=hid hrow;have HB2:=hid hb2;clear hrow hsz2 hb2;go_wp2_with (refine zuA _ rfl (.tmp 13) (.tmp 14) rfl w.heap.size 0 _ _ _ _ _ _ _ xs HR2.out rfl rfl HK.out.symm (by omega) (fun _=>rfl) (by simp;omega) hs1.out ?_)
  intro w3 HR3 hb3;have HB3:=hid (HB2.out.trans hb3);clear hb3 HR2 HB2 hs1;rw [H1.out] at HR3;have hs2:=hid (Sl.sourceB HM'.out HB3.out (Nat.le_refl _));go_wp2_with (refine zuA _ rfl (.tmp 18) (.tmp 19) rfl w.heap.size n _ _ _ _ _ _ _ ys HR3.out rfl rfl HMM.out.symm (by omega) (fun _=>rfl) (by rw [H3.out];omega) hs2.out ?_)
  intro w4 HR4 hb4;have HB4:=hid (HB3.out.trans hb4);clear hb4 HR3 HB3 hs2;rw [H2.out] at HR4;go_wp2;go_ret;exact ⟨rfl,HR4.out,HB4.out⟩
theorem zXF {g:Nat} {w:World} {u:Value} {zs0 ys:List Int} {r:List Value} {cap:Nat} (hz0:WF zs0) (hrow:Row w g (ws zs0 ++ r)) (hlz:zs0.length≤35184372088832) (hy:Sl g w u ys) (hl:ys.length≤zs0.length) :
  Calls Tryz.prog 102 #[.slice (some ⟨g,0,none⟩) zs0.length cap,u] w fun e w' =>
   ∃zs c,e=.returned (.int .u64 c)∧zs.length=zs0.length∧WF zs∧0≤c∧c≤1∧val zs+pw zs0.length*c=val zs0+val ys∧Row w' g (ws zs ++ r)∧Below g w w':=by
 obtain ⟨hwy,a,capy,rfl,hlc,hcm,hm⟩:=hy;have HV0:Hid (val zs0+pw 0*0=val zs0+val (ys.take 0)):=by unfold Hid;simp [val]
 have HTL:Hid (ys.take ys.length=ys):=by unfold Hid;simp
 obtain ⟨m,hmz⟩:∃m,m=zs0.length:=⟨_,rfl⟩
 obtain ⟨n,hny⟩:∃n,n=ys.length:=⟨_,rfl⟩
 rw [←hmz] at hl hlz;rw [←hny] at hl hlc HTL;rw [←hmz,←hny];have HM:Hid (m=zs0.length):=hmz;have HN:Hid (n=ys.length):=hny;clear hmz hny;go_enter Tryz.func102,Tryz.ntmps102;go_wp2_with fail
 go_loopw [5,10] (fun c i wr=>∃(k:Nat) (zs:List Int) (cc:Int),k≤n∧i=.int .i64 k∧c=.int .u64 cc∧0≤cc∧cc≤1∧Hid (zs.length=m)∧WF zs∧Hid (val zs+pw k*cc=val zs0+val (ys.take k))∧Row wr g (ws zs ++ r)∧Below g w wr) (fun _ i _=>n-(intOf i).toNat)
 case atStart=>exact ⟨0,zs0,0,Nat.zero_le _,rfl,rfl,by omega,by omega,HM.out.symm,hz0,HV0,hrow,Below.refl _ _⟩
 case round =>
  obtain ⟨k,zs,cc,hk,rfl,rfl,hc0,hc1,HL,hwz,HV,hr,hb⟩:=hrel
  by_cases hlt:k<n
  ·have hk1:k<zs.length:=by have:=HL.out;omega
   have hk2:k<ys.length:=by have:=HN.out;omega
   rcases hm with e | ⟨b,off,rfl,hbg,hcy⟩
   ·subst e;simp at hk2
   have c1:wr.cell? ⟨g,k,none⟩=some (.int .u64 zs[k]):=hr.word hk1;have c2:wr.cell? ⟨b,off+k,none⟩=some (.int .u64 ys[k]):=(hb.cell (p:=⟨b,off+k,none⟩) hbg).trans (hcy k hk2);have cf:wr.frozen? ⟨g,k,none⟩=false:=hr.frozen k;obtain ⟨s,d,hs,hd0,hd1,hsum,hadd⟩:=zJB (hwz.get hk1) (hwy.get hk2) hc0 hc1;have HV':Hid (val (zs.set k s)+pw (k+1)*d=val zs0+val (ys.take (k+1))):=zsC hk1 HV.out (zOA ys k hk2) hsum rfl;have hwz':WF (zs.set k s):=hwz.set k hs;have HR:=hr.setWord hk1 s;have HB:=hb.setCell (p:=⟨g,k,none⟩) (Nat.le_refl _) (.int .u64 s);clear hsum hs;generalize zs[k]=x at *;generalize ys[k]=y at *;have HL':Hid ((zs.set k s).length=m):=by unfold Hid;rw [List.length_set];exact HL.out
   generalize zs.set k s=zs' at *;clear hcy hr hb hwz HV hrow HL;go_wp2_with fail;have i0:(0:Int)≤(k:Int):=by omega
   have i1:(k:Int)<(n:Int):=by omega
   have i2:(k:Int)<(m:Int):=by omega
   go_region;go_wp2;go_roundw
   case rel=>exact ⟨k+1,zs',d,by omega,by go_num,rfl,hd0,hd1,HL',hwz',HV',HR.drewN 1,HB.drew⟩
   case measure=>simp [intOf];omega
  ·obtain rfl:k=n:=by omega
   rw [HTL.out] at HV;clear hm hrow hz0 hwy HTL HV0;go_wp2_with fail
   go_loopw [5,7] (fun c i wr=>∃(j:Nat) (zs:List Int) (cc:Int),j≤m∧i=.int .i64 j∧c=.int .u64 cc∧0≤cc∧cc≤1∧Hid (zs.length=m)∧WF zs∧Hid (val zs+pw j*cc=val zs0+val ys)∧Row wr g (ws zs ++ r)∧Below g w wr) (fun _ i _=>m-(intOf i).toNat)
   case atStart=>exact ⟨k,zs,cc,hl,rfl,rfl,hc0,hc1,HL,hwz,HV,hr,hb⟩
   case round =>
    clear HV hr hb hwz HL hc0 hc1;obtain ⟨j,zs,cc,hj,rfl,rfl,hc0,hc1,HL,hwz,HV,hr,hb⟩:=hrel
    by_cases hcc:cc=0
    ·have hcb:(cc != 0)=false:=by simp [hcc]
     have HCC:Hid (cc=0):=hcc;clear hcc;go_wp2;go_ret;refine ⟨zs,cc,rfl,HL.out,hwz,hc0,hc1,?_,hr,hb⟩;have:=HV.out;rw [HCC.out] at this ⊢
     simpa using this
    ·have hcb:(cc != 0)=true:=by simp [hcc]
     clear hcc
     by_cases hlt:j<m
     ·have hk1:j<zs.length:=by have:=HL.out;omega
      have c1:wr.cell? ⟨g,j,none⟩=some (.int .u64 zs[j]):=hr.word hk1;have cf:wr.frozen? ⟨g,j,none⟩=false:=hr.frozen j;obtain ⟨s,d,hs,hd0,hd1,hsum,hadd⟩:=zJB (hwz.get hk1) (show IsW 0 by unfold IsW wB;omega) hc0 hc1;have HV':Hid (val (zs.set j s)+pw (j+1)*d=val zs0+val ys):=zsC hk1 HV.out (y:=0) (by simp) hsum rfl;have hwz':WF (zs.set j s):=hwz.set j hs;have HR:=hr.setWord hk1 s;have HB:=hb.setCell (p:=⟨g,j,none⟩) (Nat.le_refl _) (.int .u64 s);clear hsum hs;generalize zs[j]=x at *;have HL':Hid ((zs.set j s).length=m):=by unfold Hid;rw [List.length_set];exact HL.out
      generalize zs.set j s=zs' at *;clear hr hb hwz HV HL;have i0:(0:Int)≤(j:Int):=by omega
      have i2:(j:Int)<(m:Int):=by omega
      go_wp2;go_roundw
      case rel=>exact ⟨j+1,zs',d,by omega,by go_num,rfl,hd0,hd1,HL',hwz',HV',HR,HB⟩
      case measure=>simp [intOf];omega
     ·obtain rfl:j=m:=by omega
      go_wp2;go_ret;exact ⟨zs,cc,rfl,HL.out,hwz,hc0,hc1,HV.out,hr,hb⟩
end Go.Proofs.YtjnokjgbeploaaaGreat
