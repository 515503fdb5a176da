/-
 QDo14ToIx14: Do14, Gi10, Up13, Ix14, joined.
-/
import Derived.Test.YtjnokjgbeploaaaGreatQTo14ToSp14
import Derived.Test.YtjnokjgbeploaaaGreatQPickA9ToPickB9
import Derived.Deep.AppendLies
import Derived.Test.YtjnokjgbeploaaaGreatQSr13
import Derived.Maps.AppendAt
import Derived.Lib.BufferMore

set_option maxRecDepth 100000
set_option maxHeartbeats 6400000
set_option linter.unusedVariables false
set_option linter.unusedSimpArgs false
namespace Go.Proofs.YtjnokjgbeploaaaGreat
def ixo (l:List Nat) (x:Nat):Nat:=l.findIdx (· == x)
theorem zrB {l:List Nat} {x:Nat} (h:x∈l):ixo l x<l.length:=List.findIdx_lt_length_of_exists ⟨x,h,by simp⟩
theorem zYB {l:List Nat} {x:Nat} (h:x∈l):l.getD (ixo l x) 0=x:=by
 have h1:=zrB h;have h2:(l[ixo l x] == x)=true:=List.findIdx_getElem (p:=(· == x)) (w:=h1);simp [h1] at h2 ⊢;exact h2
theorem ixo_is {l:List Nat} {x i:Nat} (hi:i<l.length) (he:l.getD i 0=x) (hj:∀j,j<i→l.getD j 0≠x):ixo l x=i:=by
 refine (List.findIdx_eq (p:=(· == x)) hi).2 ⟨by simpa [hi] using he,fun j hji=>?_⟩;have hjl:j<l.length:=by omega
 have:=hj j hji
 simpa [hjl] using this
theorem zTA {l:List Nat} {i:Nat} (h:i<l.length):l.getD i 0∈l:=by
 rw [List.getD_eq_getElem?_getD,List.getElem?_eq_getElem h];exact List.getElem_mem _
theorem zUG {l:List Nat} {x:Nat} (h:x∈l):∃i,i<l.length∧l.getD i 0=x:=⟨ixo l x,zrB h,zYB h⟩
section
variable (W bs os:List Nat) (m:Nat)
def opnL (p:Nat):List Nat:=(List.range p).filter fun t=>decide (W.getD t 0 ∉ bs)
def sltL (p:Nat):List Nat:=(opnL W bs p).map fun t=>ixo os (W.getD t 0)
def freL (i:Nat):List Nat:=(List.range i).filter fun t=>decide (bs.getD t 0 ∉ W)
def or1 (p t:Nat):Int:=if t<p then (if W.getD t 0∈bs then (ixo bs (W.getD t 0):Int) else -1) else 0
def or2 (i t:Nat):Int:=if W.getD t 0∈bs then (ixo bs (W.getD t 0):Int) else if ixo (opnL W bs m) t<(freL W bs i).length then ((freL W bs i).getD (ixo (opnL W bs m) t) 0:Nat) else -1
def ordF (t:Nat):Nat:=if W.getD t 0∈bs then ixo bs (W.getD t 0) else (freL W bs m).getD (ixo (opnL W bs m) t) 0
def ordL:List Nat:=(List.range m).map (ordF W bs m)
end
section
variable {W bs os:List Nat} {m:Nat}
theorem zAC {p t:Nat}:t∈opnL W bs p↔t<p∧W.getD t 0 ∉ bs:=by simp [opnL]
theorem zMD {i t:Nat}:t∈freL W bs i↔t<i∧bs.getD t 0 ∉ W:=by simp [freL]
theorem zEH (p:Nat):(opnL W bs p).Nodup:=List.Pairwise.filter _ List.nodup_range
theorem freL_nd (i:Nat):(freL W bs i).Nodup:=List.Pairwise.filter _ List.nodup_range
theorem zlI {l:List Nat} (h:∀i j,i<l.length→j<l.length→l.getD i 0=l.getD j 0→i=j):l.Nodup:=List.pairwise_iff_getElem.2 fun i j hi hj hij e=>by
 have:=h i j hi hj (by simpa [hi,hj] using e);omega
theorem zWG (P:Nat→Bool) (l:List Nat):((List.range l.length).filter fun t=>P (l.getD t 0)).length=(l.filter P).length:=by
 have e:l=(List.range l.length).map fun t=>l.getD t 0:=List.ext_getElem (by simp) fun i h1 h2=>by simp [h1]
 conv=>rhs;rw [e,List.filter_map,List.length_map]
 rfl
theorem zfF (hW:W.length=m) (hb:bs.length=m) (nW:W.Nodup) (nb:bs.Nodup):(opnL W bs m).length=(freL W bs m).length:=by
 have h1:(opnL W bs m).length+(W.filter fun x=>decide (x∈bs)).length=m:=by
  have:=zWG (fun x=>decide (x ∉ bs)) W;rw [hW] at this;unfold opnL;rw [this];have h2:=List.length_eq_countP_add_countP (p:=fun x=>decide (x∈bs)) (l:=W);simp only [List.countP_eq_length_filter] at h2;rw [hW] at h2;have e:(fun x=>decide (x ∉ bs))=fun a=>decide ¬(decide (a∈bs))=true:=by funext a;simp
  rw [e];omega
 have h2:(freL W bs m).length+(bs.filter fun x=>decide (x∈W)).length=m:=by
  have:=zWG (fun x=>decide (x ∉ W)) bs;rw [hb] at this;unfold freL;rw [this];have h2:=List.length_eq_countP_add_countP (p:=fun x=>decide (x∈W)) (l:=bs);simp only [List.countP_eq_length_filter] at h2;rw [hb] at h2;have e:(fun x=>decide (x ∉ W))=fun a=>decide ¬(decide (a∈W))=true:=by funext a;simp
  rw [e];omega
 have h3:(W.filter fun x=>decide (x∈bs)).Perm (bs.filter fun x=>decide (x∈W)):=(List.perm_ext_iff_of_nodup (nW.filter _) (nb.filter _)).2 fun a=>by simp [and_comm]
 have:=h3.length_eq;omega
theorem zfD {t:Nat} (ht:t<m) (hx:W.getD t 0 ∉ bs):ixo (opnL W bs m) t<(opnL W bs m).length∧(opnL W bs m).getD (ixo (opnL W bs m) t) 0=t:=by
 have h:t∈opnL W bs m:=zAC.2 ⟨ht,hx⟩;exact ⟨zrB h,zYB h⟩
theorem zQI {s:Nat} (hs:s<(opnL W bs m).length):ixo (opnL W bs m) ((opnL W bs m).getD s 0)=s:=by
 have h:=zTA hs;exact zgD (zEH m) (zrB h) hs (zYB h)
theorem ord_all (hW:W.length=m) (hb:bs.length=m) (nW:W.Nodup) (nb:bs.Nodup) (hc:∀x∈W,x∈bs∨x∈os) :
  (ordL W bs m).length=m∧(ordL W bs m).Nodup∧(∀x∈ordL W bs m,x<m)∧(opnL W bs m).Nodup∧(∀p∈opnL W bs m,p<m)∧(∀p,p<m→p ∉ opnL W bs m→bs.getD ((ordL W bs m).getD p 0) 0=W.getD p 0) ∧
  (∀t,t<(opnL W bs m).length→(ordL W bs m).getD ((opnL W bs m).getD t 0) 0=(freL W bs m).getD t 0∧(sltL W bs os m).getD t 0<os.length∧os.getD ((sltL W bs os m).getD t 0) 0=W.getD ((opnL W bs m).getD t 0) 0):=by
 have hlen:=zfF hW hb nW nb;have hat:∀p,p<m→(ordL W bs m).getD p 0=ordF W bs m p:=fun p hp=>by simp [ordL,hp]
 have hin:∀p,p<m→W.getD p 0∈bs→ordF W bs m p=ixo bs (W.getD p 0):=fun p _ h=>if_pos h
 have hout:∀p,p<m→W.getD p 0 ∉ bs→ordF W bs m p=(freL W bs m).getD (ixo (opnL W bs m) p) 0∧ordF W bs m p∈freL W bs m:=fun p hp h=>by
  have e:ordF W bs m p=(freL W bs m).getD (ixo (opnL W bs m) p) 0:=if_neg h;exact ⟨e,by rw [e];exact zTA (by rw [←hlen];exact (zfD hp h).1)⟩
 have hlt:∀p,p<m→ordF W bs m p<m:=fun p hp=>by
  by_cases h:W.getD p 0∈bs
  ·rw [hin p hp h,←hb];exact zrB h
  ·exact (zMD.1 (hout p hp h).2).1
 refine ⟨by simp [ordL],zlI fun i j hi hj e=>?_,fun x hx=>?_,zEH m,fun p hp=>(zAC.1 hp).1,fun p hp hx=>?_,fun t ht=>?_⟩
 ·have hi':i<m:=by simpa [ordL] using hi
  have hj':j<m:=by simpa [ordL] using hj
  rw [hat i hi',hat j hj'] at e
  by_cases a:W.getD i 0∈bs <;> by_cases b:W.getD j 0∈bs
  ·rw [hin i hi' a,hin j hj' b] at e
   have e2:W.getD i 0=W.getD j 0:=by rw [←zYB a,←zYB b,e]
   exact zgD nW (by omega) (by omega) e2
  ·have h1:=(zMD.1 (hout j hj' b).2).2
   rw [←e,hin i hi' a,zYB a] at h1;exact absurd (zTA (by omega)) h1
  ·have h1:=(zMD.1 (hout i hi' a).2).2
   rw [e,hin j hj' b,zYB b] at h1;exact absurd (zTA (by omega)) h1
  ·rw [(hout i hi' a).1,(hout j hj' b).1] at e
   have e2:=zgD (freL_nd m) (by rw [←hlen];exact (zfD hi' a).1) (by rw [←hlen];exact (zfD hj' b).1) e;rw [←(zfD hi' a).2,←(zfD hj' b).2,e2]
 ·obtain ⟨p,hp,rfl⟩:=List.mem_map.1 hx
  exact hlt p (by simpa using hp)
 ·have h:W.getD p 0∈bs:=Classical.byContradiction fun q=>hx (zAC.2 ⟨hp,q⟩)
  rw [hat p hp,hin p hp h,zYB h]
 ·have hm:=zAC.1 (zTA ht)
  have hs:(sltL W bs os m).getD t 0=ixo os (W.getD ((opnL W bs m).getD t 0) 0):=by
   unfold sltL;simp [List.getElem?_map,List.getElem?_eq_getElem ht]
  have ho:W.getD ((opnL W bs m).getD t 0) 0∈os:=(hc _ (zTA (by omega))).resolve_left hm.2;refine ⟨?_,?_,?_⟩
  ·rw [hat _ hm.1,(hout _ hm.1 hm.2).1,zQI ht]
  ·rw [hs];exact zrB ho
  ·rw [hs];exact zYB ho
theorem zwE {p:Nat} (h:W.getD p 0 ∉ bs):opnL W bs (p+1)=opnL W bs p ++ [p]:=by unfold opnL;rw [List.range_succ,List.filter_append];simpa using h
theorem zxE {p:Nat} (h:W.getD p 0∈bs):opnL W bs (p+1)=opnL W bs p:=by unfold opnL;rw [List.range_succ,List.filter_append];simpa using h
theorem sltL_succ {p:Nat} (h:W.getD p 0 ∉ bs):sltL W bs os (p+1)=sltL W bs os p ++ [ixo os (W.getD p 0)]:=by unfold sltL;rw [zwE h];simp
theorem sltL_skip {p:Nat} (h:W.getD p 0∈bs):sltL W bs os (p+1)=sltL W bs os p:=by unfold sltL;rw [zxE h]
theorem znD {i:Nat} (h:bs.getD i 0 ∉ W):freL W bs (i+1)=freL W bs i ++ [i]:=by unfold freL;rw [List.range_succ,List.filter_append];simpa using h
theorem zKF {i:Nat} (h:bs.getD i 0∈W):freL W bs (i+1)=freL W bs i:=by unfold freL;rw [List.range_succ,List.filter_append];simpa using h
theorem freL_le {i:Nat} (hi:i≤m):(freL W bs i).length≤(freL W bs m).length:=by
 unfold freL;obtain ⟨d,rfl⟩:∃d,m=i+d:=⟨m-i,by omega⟩
 rw [List.range_add,List.filter_append,List.length_append];omega
theorem or1_end {t:Nat} (ht:t<m):or1 W bs m t=or2 W bs m 0 t:=by
 unfold or1 or2;rw [if_pos ht]
 by_cases h:W.getD t 0∈bs
 ·rw [if_pos h,if_pos h]
 ·rw [if_neg h,if_neg h,if_neg (by simp [freL])]
theorem or2_skip {i t:Nat} (h:bs.getD i 0∈W):or2 W bs m (i+1) t=or2 W bs m i t:=by unfold or2;rw [zKF h]
theorem or2_put {i t:Nat} (h:bs.getD i 0 ∉ W) (ht:t<m) (hs:(freL W bs i).length<(opnL W bs m).length) :
  (if t=(opnL W bs m).getD (freL W bs i).length 0 then (i:Int) else or2 W bs m i t)=or2 W bs m (i+1) t:=by
 unfold or2;rw [znD h,List.length_append,List.length_singleton]
 by_cases e:t=(opnL W bs m).getD (freL W bs i).length 0
 ·have hm:=zAC.1 (zTA hs)
  rw [if_pos e,if_neg (by rw [e];exact hm.2)];rw [e,zQI hs,if_pos (by omega)]
  simp
 ·rw [if_neg e]
  by_cases a:W.getD t 0∈bs
  ·rw [if_pos a,if_pos a]
  ·rw [if_neg a,if_neg a]
   have hne:ixo (opnL W bs m) t≠(freL W bs i).length:=fun q=>e (by rw [←q];exact (zfD ht a).2.symm)
   by_cases b:ixo (opnL W bs m) t<(freL W bs i).length
   ·rw [if_pos b,if_pos (by omega)]
    simp [List.getElem?_append_left b]
   ·rw [if_neg b,if_neg (by omega)]
theorem or2_end {t:Nat} (hW:W.length=m) (hb:bs.length=m) (nW:W.Nodup) (nb:bs.Nodup) (ht:t<m):or2 W bs m m t=((ordL W bs m).getD t 0:Nat):=by
 have hat:(ordL W bs m).getD t 0=ordF W bs m t:=by simp [ordL,ht]
 rw [hat];unfold or2 ordF
 by_cases h:W.getD t 0∈bs
 ·rw [if_pos h,if_pos h]
 ·rw [if_neg h,if_neg h,if_pos (by rw [←zfF hW hb nW nb];exact (zfD ht h).1)]
end
open Go.RowKit
def wi10 (xs:List Int):List Value:=xs.map (Value.int .i64)
def zlC (w:World) (g:Nat) (L:List Value):Prop:=w.heap[g]?=some (.cells L.toArray 3 (0,0))
theorem zlC.lt {w:World} {g:Nat} {L:List Value} (h:zlC w g L):g<w.heap.size:=(Array.getElem?_eq_some_iff.1 h).1
theorem zlC.num {w:World} {g:Nat} {xs:List Int} {r:List Value} (h:zlC w g (wi10 xs ++ r)) {i:Nat} (hi:i<xs.length):w.cell? ⟨g,i,none⟩=some (.int .i64 xs[i]):=by
 unfold zlC at h;have h1:i<(wi10 xs ++ r).length:=by simp [wi10];omega
 have h2:(wi10 xs ++ r)[i]=.int .i64 xs[i]:=by
  rw [List.getElem_append_left (by simp [wi10];exact hi)];simp [wi10]
 have h3:(wi10 xs ++ r)[i]?=some (.int .i64 xs[i]):=by rw [List.getElem?_eq_getElem h1,h2]
 simpa [World.cell?,h] using h3
theorem zlC.in9 {w:World} {g cap:Nat} {ds:List Int} {r:List Value} (h:zlC w g (wi10 ds ++ r)) (hc:ds.length≤cap) (hl:ds.length≤1048576):In9 w (.slice (some ⟨g,0,none⟩) ds.length cap) ds :=
 ⟨_,cap,rfl,hc,hl,.inr ⟨g,0,rfl,h.lt,fun j hj=>by rw [Nat.zero_add];exact h.num hj⟩⟩
def zkG (B:Nat) (w:World) (v:Value) (ds:List Int):Prop:=w.ownsRow B 3 1 v ds.length (wi10 ds)
theorem zkG.row {B:Nat} {w:World} {v:Value} {ds:List Int} (h:zkG B w v ds) (hn:0<ds.length):∃g cap rest,v=.slice (some ⟨g,0,none⟩) ds.length cap∧B≤g∧zlC w g (wi10 ds ++ rest)∧ds.length≤cap:=by
 obtain ⟨q1,⟨q2,q3⟩ | ⟨g,cap,cur,q2,q3,q4,q5,q6,q7,q8⟩⟩:=h
 ·omega
 ·rw [Nat.mul_one] at q7 q8
  refine ⟨g,cap,cur.toList.drop ds.length,q2,q3,?_,q5⟩;unfold zlC;rw [←q8,List.take_append_drop]
  simpa using q4
theorem zkG.in9 {B:Nat} {w:World} {v:Value} {ds:List Int} (h:zkG B w v ds) (hl:ds.length≤1048576):In9 w v ds:=by
 by_cases hn:0<ds.length
 ·obtain ⟨g,cap,rest,rfl,_,q,qc⟩:=h.row hn
  exact q.in9 qc hl
 ·obtain rfl:ds=[]:=List.eq_nil_of_length_eq_zero (by omega)
  obtain ⟨q1,⟨q2,q3⟩ | ⟨g,cap,cur,q2,_,_,q5,_⟩⟩:=h
  ·subst q2
   exact ⟨none,0,rfl,Nat.le_refl _,hl,.inl rfl⟩
  ·subst q2
   exact ⟨_,cap,rfl,Nat.zero_le _,hl,.inl rfl⟩
theorem Ivs.itr {B:Nat} {w:World} {v:Value} {l:List Nat} (h:Ivs B w v l):zkG B w v (natv l):=by
 have e1:(natv l).length=l.length:=by simp [natv]
 have e2:wi10 (natv l)=l.map fun (a:Nat)=>Value.int .i64 (a:Int):=by simp [wi10,natv]
 unfold zkG;rw [e1,e2];exact h
theorem Ivs.in9 {B:Nat} {w:World} {v:Value} {l:List Nat} (h:Ivs B w v l) (hl:l.length≤1048576):In9 w v (natv l):=h.itr.in9 (by simp [natv];exact hl)
theorem zTF {B:Nat} {w0 w w':World} {v:Value} {l:List Nat} (h:Below B w0 w) (hB:B≤w.heap.size) (ho:Ivs B w v l) (hg:w.grownBy w' v.ownBlock):Below B w0 w' :=
 h.trans ⟨hg.os,hg.tape,hg.output,hg.size,fun k hk=>hg.block k (by omega) (fun e=>by have:=(ho.blk e.symm).1;omega)⟩
def ixI (l:List Nat) (x:Nat):Int:=if x∈l then (ixo l x:Int) else -1
def IxH (w:World) (l:List Nat) (x gk:Nat) (s8:Value) (wx:World):Prop:=∃i:Nat,s8=.int .i64 (i:Int)∧i≤l.length∧gk=l.length-i∧(∀j,j<i→l.getD j 0≠x)∧wx=w
theorem zmD {w:World} {v:Value} {l:List Nat} {x:Nat} (h:In9 w v (natv l)) (hl:l.length≤4096):Calls Tryz.prog 80 #[v,.int .i64 (x:Int)] w fun e w'=>e=.returned (.int .i64 (ixI l x))∧w'=w:=by
 obtain ⟨a,c,rfl,hc,h1,hf⟩:=h.form;have e1:(natv l).length=l.length:=by simp [natv]
 rw [e1] at hc ⊢;have HI:=hid h;rw [e1] at HI;have HF:Hid (0<l.length→∃b off,a=some ⟨b,off,none⟩):=fun q=>hf (fun e=>by rw [←e1,e] at q;simp at q)
 obtain ⟨n,hn⟩:∃n,l.length=n:=⟨_,rfl⟩
 have H0:Hid (IxH w l x l.length (.int .i64 0) w):=⟨0,rfl,Nat.zero_le _,rfl,fun j hj=>by omega,rfl⟩
 rw [hn] at HI HF hl hc H0 ⊢;have HN:=hid hn;clear h hf h1 e1 hn;go_enter Tryz.func80,Tryz.ntmps80;go_wp2_with fail
 go_loopg [8] n (fun gk s8 wx=>IxH w l x gk s8 wx)
 case atStart=>exact H0.out
 case round =>
  clear H0;obtain ⟨i,rfl,hil,hg,hj,hwx⟩:=hrel;rw [hwx];clear hwx wr;rw [HN.out] at hil hg;have HG:=hid hg;have HJ:=hid hj;clear hg hj
  by_cases hlt:i<n
  ·have hlt':(i:Int)<(n:Int):=by omega
   have hw:=zNA (i:=i) (by omega);obtain ⟨b,off,rfl⟩:=HF.out (by omega);have hil2:i<l.length:=by rw [HN.out];exact hlt
   have c0:w.cell? ⟨b,off+i,none⟩=some (.int .i64 (l.getD i 0:Nat)):=by
    rw [HI.out.at (i:=i) (by simp [natv];exact hil2)];simp [natv,hil2]
   obtain ⟨y,hy⟩:∃y,l.getD i 0=y:=⟨_,rfl⟩
   rw [hy] at c0;have HY:=hid hy;clear hy
   by_cases hxy:x=y
   ·have hb:((x:Int) == (y:Int))=true:=by simp [hxy]
    have hxi:(x:Int)=(y:Int):=by omega
    have FIN:Hid (ixI l x=(i:Int)):=by
     unfold Hid ixI;rw [if_pos (by rw [hxy,←HY.out];exact zTA hil2),ixo_is hil2 (by rw [HY.out,hxy]) HJ.out]
    clear HG HJ HI hxy hxi;go_wp2;go_ret;exact ⟨by rw [FIN.out];rfl,rfl⟩
   ·have hb:((x:Int) == (y:Int))=false:=by simp;omega
    have hxi:¬(x:Int)=(y:Int):=by omega
    have HN1:Hid (IxH w l x (n-(i+1)) (.int .i64 ((i+1:Nat):Int)) w):=⟨i+1,rfl,by rw [HN.out];omega,by rw [HN.out],fun j hj=>by
     by_cases e:j=i
     ·subst e;rw [HY.out];omega
     ·exact HJ.out j (by omega),rfl⟩
    have HMM:Hid (n-(i+1)<gk):=by unfold Hid;rw [HG.out];omega
    clear HG HJ HI hxy;go_wp2_with fail;go_roundg (n-(i+1))
    case rel=>exact HN1.out
    case measure=>exact HMM.out
  ·have hlt':¬(i:Int)<(n:Int):=by omega
   have FIN:Hid (ixI l x = -1):=by
    unfold Hid ixI;rw [if_neg fun q=>by
     obtain ⟨j,hj,e⟩:=zUG q;rw [HN.out] at hj;exact HJ.out j (by omega) e]
   clear HG HJ HI;go_wp2;go_ret;exact ⟨by rw [FIN.out];rfl,rfl⟩
theorem contains_any {w:World} {v:Value} {l:List Nat} {x:Nat} (h:In9 w v (natv l)) (hl:l.length≤4096):Calls Tryz.prog 81 #[v,.int .i64 (x:Int)] w fun e w'=>e=.returned (.bool (decide (x∈l)))∧w'=w:=by
 obtain ⟨a,c,hv,-,-,-⟩:=h.form;obtain ⟨n,hn⟩:∃n,(natv l).length=n:=⟨_,rfl⟩
 rw [hn] at hv;subst hv;have HI:=hid (zmD (x:=x) h hl);clear h hn;go_enter Tryz.func81,Tryz.ntmps81;go_wp2_with fail;refine HI.out.mono ?_;rintro e w1 ⟨rfl,hw1⟩;rw [hw1];clear hw1 w1 HI
 by_cases hx:x∈l
 ·have e1:ixI l x=((ixo l x:Nat):Int):=if_pos hx
  have HX:=hid (decide_eq_true hx);rw [e1];generalize ixo l x=q;have hq:(0:Int)≤(q:Int):=by omega
  clear hx e1;go_wp2;go_ret;exact ⟨by rw [HX.out];rfl,rfl⟩
 ·have e1:ixI l x = -1:=if_neg hx
  have HX:=hid (decide_eq_false hx);rw [e1];clear hx e1;go_wp2;go_ret;exact ⟨by rw [HX.out];rfl,rfl⟩
theorem wpList_append_row14 (w:World) {ops:Array Oper} {rest:List Oper} {o:Oper} {a:Act} {Q:Exit→Act→World→Prop}
  (hgd:o.guard=none) (s x:Operand) (hop:o.op=.call { callee:=.builtin .append,args:=#[s,x],argTypes:=#[47,47] })
  (B:Nat) (v:Value) (hs:a.eval s=v) (hP:Ivs B w v []) (g k:Nat) (l:List Nat) (hx:a.eval x=.slice (some ⟨g,0,none⟩) k k) (hc:Cel w g 3 (wf k (nf l))) (hl:l.length=k) (hk:k≤4096) (hBs:B≤w.heap.size)
  (hK:∀v' w',Hid (Ivs B w' v' l)→Hid (w.grownBy w' v.ownBlock)→wpList Tryz.prog ops Q rest (a.put o.dst v') w') :
  wpList Tryz.prog ops Q (o :: rest) a w:=by
 refine wpList_plain hgd fun K hK'=>?_
 obtain ⟨i,hi,hz,hsz,hby⟩:=info_parts Tryz.infoI13;have hnews:∀j u,(l.map fun (a:Nat)=>Value.int .i64 (a:Int))[j]?=some u→w.cell? ((⟨g,0,none⟩:Addr).add j)=some u:=fun j u hj=>by
  have hj':j<k:=by
   have:=(List.getElem?_eq_some_iff.1 hj).1;rw [List.length_map,hl] at this;exact this
  rw [zDC,hc.nf hj']
  show some (Value.int .i64 ((l.getD j 0:Nat):Int))=some u
  have hjl:j<l.length:=by omega
  simp [hjl] at hj ⊢;exact hj
 obtain ⟨v',w',hr,k1,k2,-,-⟩:=run_append_own_at (P:=Tryz.prog) w B 47 o.type 3 i (.int .i64 0) 1 8 Tryz.underlying47 hi hz hsz hby rfl (by omega) v 0 [] (by have:=hP;unfold Ivs at this;simpa using this) ⟨g,0,none⟩ k k _ (by rw [List.length_map,hl,Nat.mul_one]) hnews (fun u hu=>by
  obtain ⟨_,_,rfl⟩:=List.mem_map.1 hu
  rfl) (by unfold maxLen;omega) (by omega) hBs
 unfold Oper.wp execOp;simp only [hop,resolve,invoke,builtin,Sem.run_bind,Sem.run_pure,Result.andThen_ok,List.map_toArray,List.map_cons,List.map_nil,hs,hx,hr];refine hK' _ _ (hK v' w' ?_ k2);unfold Hid Ivs;rw [hl];rw [Nat.zero_add,List.nil_append] at k1;exact k1
theorem clone_any {w:World} {g k:Nat} {l:List Nat} (hc:Cel w g 3 (wf k (nf l))) (hl:l.length=k) (hk:k≤4096):Calls Tryz.prog 73 #[.slice (some ⟨g,0,none⟩) k k] w fun e w'=>∃v,e=.returned v∧Ivs w.heap.size w' v l∧Below w.heap.size w w':=by
 obtain ⟨V,hV⟩:∃V,w.alloc (.cells #[] 3)=V:=⟨_,rfl⟩
 obtain ⟨bv,szv⟩:=alo1 w (.cells #[] 3);rw [hV] at bv szv;have IV:Hid (Ivs w.heap.size V (.slice (some ⟨w.heap.size,0,none⟩) 0 0) []):=by
  unfold Hid Ivs;refine ⟨by simp,.inr ⟨w.heap.size,0,#[],by simp,Nat.le_refl _,?_,Nat.le_refl _,Nat.zero_le _,by simp,by simp⟩⟩;rw [←hV];exact heap_alloc_new w _
 have CV:=hid (hc.step bv);have BV:=hid bv;have EV:=hid hV;have HL:=hid hl;have hnil:∀W,(binOp .eql 47 (.slice (some ⟨g,0,none⟩) k k) (.slice none 0 0)).run Tryz.prog W=.ok (.bool false) W:=fun W=>Lib.run_eql_slice_some_nil W _ _ _ Tryz.underlying47
 clear hc bv szv hV hl;go_enter Tryz.func73,Tryz.ntmps73;go_wp2_with (at_builtin;rw [EV.out];refine wpList_append_row14 V rfl (.tmp 5) (.tmp 6) rfl w.heap.size _ rfl IV.out g k l rfl CV.out HL.out hk BV.out.size ?_)
 intro v' w' hI hg;have FIN:Hid (Ivs w.heap.size w' v' l∧Below w.heap.size w w'):=⟨hI.out,zTF BV.out BV.out.size IV.out hg.out⟩
 obtain ⟨a',c',hv',-,-⟩:=hI.out.form;rw [HL.out] at hv';subst hv';clear hI hg IV CV EV hnil;go_wp2;go_ret;exact ⟨_,rfl,FIN.out⟩
end Go.Proofs.YtjnokjgbeploaaaGreat
