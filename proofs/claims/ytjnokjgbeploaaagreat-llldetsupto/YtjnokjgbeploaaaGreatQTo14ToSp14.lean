/-
 QTo14ToSp14: To14, Nt14, Sp14, joined.
-/
import Derived.Test.YtjnokjgbeploaaaGreatQWf14ToTb14
import Derived.Test.YtjnokjgbeploaaaGreatQSr13
import Derived.Test.YtjnokjgbeploaaaGreatQPickA9ToPickB9
import Derived.Test.YtjnokjgbeploaaaGreatQCr13ToCb23

set_option maxRecDepth 100000
set_option maxHeartbeats 6400000
set_option linter.unusedVariables false
set_option linter.unusedSimpArgs false
namespace Go.Proofs.YtjnokjgbeploaaaGreat
def odA (x:Nat):Bool→List Nat→Bool
 | o,[]=>o
 | o,y :: l=>odA x (o != decide (y<x)) l
def odl:Bool→List Nat→Bool
 | o,[]=>o
 | o,x :: l=>odl (odA x o l) l
theorem zUE (x:Nat):∀(l:List Nat) (o:Bool),odA x o l=(o ^^ odA x false l)
 | [],o=>by simp [odA]
 | y :: l,o=>by
  show odA x (o != decide (y<x)) l=(o ^^ odA x (false != decide (y<x)) l)
  rw [zUE x l (o != _),zUE x l (false != _)];cases o <;> cases decide (y<x) <;> cases odA x false l <;> rfl
theorem zgF:∀(l:List Nat) (o:Bool),odl o l=(o ^^ odl false l)
 | [],o=>by simp [odl]
 | x :: l,o=>by
  show odl (odA x o l) l=(o ^^ odl (odA x false l) l)
  rw [zgF l (odA x o l),zgF l (odA x false l),zUE x l o];cases o <;> cases odA x false l <;> cases odl false l <;> rfl
theorem zGH (x c:Nat):∀(l:List Nat) (o:Bool),odA x o (ins c l)=odA x o (c :: l)
 | [],o=>rfl
 | y :: l,o=>by
  unfold ins
  by_cases q:c<y
  ·rw [if_pos q]
  ·rw [if_neg q]
   show odA x (o != decide (y<x)) (ins c l)=odA x ((o != decide (c<x)) != decide (y<x)) l
   rw [zGH x c l]
   show odA x ((o != decide (y<x)) != decide (c<x)) l=_
   congr 1
   cases o <;> cases decide (y<x) <;> cases decide (c<x) <;> rfl
def srtR:List Nat→List Nat
 | []=>[]
 | x :: l=>ins x (srtR l)
theorem zFH (x:Nat):∀(l:List Nat) (o:Bool),odA x o (srtR l)=odA x o l
 | [],o=>rfl
 | c :: l,o=>by
  show odA x o (ins c (srtR l))=_
  rw [zGH]
  show odA x (o != decide (c<x)) (srtR l)=odA x (o != decide (c<x)) l
  exact zFH x l _
theorem zLG (x:Nat):∀ {l:List Nat},(∀y∈l,x<y)→odA x false l=false
 | [],_=>rfl
 | y :: l,h=>by
  show odA x (false != decide (y<x)) l=false
  have:decide (y<x)=false:=decide_eq_false (by have:=h y (by simp);omega);rw [this];exact zLG x fun z hz=>h z (by simp [hz])
theorem Mv.insF (x:Nat):∀ {l:List Nat},l.Pairwise (· < ·)→x ∉ l→Mv (x :: l) (Proofs.YtjnokjgbeploaaaGreat.ins x l) (odA x false l)
 | [],_,_=>Mv.refl _
 | y :: l,h,hx=>by
  have h':=List.pairwise_cons.1 h;unfold Proofs.YtjnokjgbeploaaaGreat.ins
  by_cases q:x<y
  ·rw [if_pos q,zLG x fun z hz=>by
    rcases List.mem_cons.1 hz with rfl | hz
    ·exact q
    ·have:=h'.1 z hz;omega]
   exact Mv.refl _
  ·have hne:x≠y:=fun e=>hx (by simp [e])
   rw [if_neg q];have e:odA x false (y :: l)=(true ^^ odA x false l):=by
    show odA x (false != decide (y<x)) l=_
    rw [zUE,decide_eq_true (show y<x by omega)]
    rfl
   rw [e];exact ((Mv.two x y).app l).trans ((Mv.insF x h'.2 fun q=>hx (by simp [q])).cons y)
theorem zwF:∀ {l:List Nat},l.Nodup→Mv l (srtR l) (odl false l)∧(srtR l).Pairwise (· < ·)∧(srtR l).length=l.length∧∀c,c∈srtR l↔c∈l
 | [],_=>⟨Mv.refl _,by simp [srtR],rfl,fun c=>by simp [srtR]⟩
 | x :: l,h=>by
  have h':=List.nodup_cons.1 h;obtain ⟨h1,h2,h3,h4⟩:=zwF h'.2;have hx:x ∉ srtR l:=fun q=>h'.1 ((h4 x).1 q)
  refine ⟨?_,zSG h2 hx,by show (ins x (srtR l)).length=_;rw [zZE,h3];rfl,fun c=>by show c∈ins x (srtR l)↔_;rw [ins_mem,h4 c];simp⟩;have e:odl false (x :: l)=(odl false l ^^ odA x false (srtR l)):=by
   show odl (odA x false l) l=_
   rw [zgF,zFH];cases odA x false l <;> cases odl false l <;> rfl
  rw [e];exact (h1.cons x).trans (Mv.insF x h2 hx)
theorem order14 {l:List Nat} {m:Nat} (h:l.Nodup) (hl:l.length=m) (hm:∀x∈l,x<m):Mv l (List.range m) (odl false l):=by
 obtain ⟨h1,h2,h3,h4⟩:=zwF h;have e:srtR l=List.range m:=by
  refine List.ext_getElem (by rw [h3,hl,List.length_range]) fun i a b=>?_
  have hi:i<m:=by rw [h3,hl] at a;exact a
  have:=zrG h2 (n:=m) (fun x hx=>hm x ((h4 x).1 hx)) (by rw [h3,hl]) hi;rw [List.getElem_range]
  simpa [List.getD_eq_getElem?_getD,List.getElem?_eq_getElem a] using this
 rw [←e];exact h1
theorem zyG (s:Bool):sgb s*sgb s=1:=by cases s <;> rfl
theorem zdC {l:List Nat} {m:Nat} (h:l.Nodup) (hl:l.length=m) (hm:∀x∈l,x<m) (M:Nat→Nat→Int):det m (fun a b=>M a (l.getD b 0))=sgb (odl false l)*det m M:=by
 have e:=order14 h hl hm M [] [];simp only [List.nil_append,List.append_nil] at e;unfold dl at e;rw [hl,List.length_range] at e;rw [e]
 congr 1
 exact zEA fun a b _ hb=>by simp [hb]
theorem zgD {l:List Nat} (h:l.Nodup) {i j:Nat} (hi:i<l.length) (hj:j<l.length) (e:l.getD i 0=l.getD j 0):i=j:=by
 have h':=List.pairwise_iff_getElem.1 h;rcases Nat.lt_trichotomy i j with q | q | q
 ·exact absurd (by simpa [hi,hj] using e) (h' i j hi hj q)
 ·exact q
 ·exact absurd (by simpa [hi,hj] using e.symm) (h' j i hj hi q)
theorem zNF (d:Int):∀(t s:Nat) (Y:Nat→Nat→Int),(∀a k,s≤a→a<s+t→k<s+t→Y a k=d*dlz a k)→det (s+t) Y=d ^ t*det s Y
 | 0,s,Y,_=>by simp
 | t+1,s,Y,h=>by
  have e:det (s+(t+1)) Y=d*det (s+t) Y:=by
   show det (s+t+1) Y=_
   rw [←zZB (s+t) Y,←(zYA (s+t+1)).mul (A:=Y) (i:=s+t) (by omega) d (dlz (s+t))];refine zEA fun a k ha hk=>?_
   unfold stR
   by_cases q:a=s+t
   ·rw [if_pos q];show Y a k=d*dlz (s+t) k;rw [h a k (by omega) (by omega) (by omega),q]
   ·rw [if_neg q]
  rw [e,zNF d t s Y fun a k h1 h2 h3=>h a k h1 (by omega) (by omega),Int.pow_succ]
  grind
theorem zPF {m:Nat} {X:Nat→Nat→Int} {d:Int} {S:List Nat} (hS:S.Nodup) (hl:∀p∈S,p<m) (h:∀p k,p<m→k<m→p ∉ S→X p k=d*dlz p k) :
  ∃t,t+S.length=m∧det m X=d ^ t*det S.length fun a b=>X (S.getD a 0) (S.getD b 0):=by
 obtain ⟨R,hR⟩:∃R,(List.range m).filter (fun x=>decide (x ∉ S))=R:=⟨_,rfl⟩
 have mR:∀x,x∈R↔x<m∧x ∉ S:=fun x=>by rw [←hR];simp
 have nR:R.Nodup:=by rw [←hR];exact List.Pairwise.filter _ List.nodup_range
 have nL:(S ++ R).Nodup:=List.nodup_append.2 ⟨hS,nR,fun a ha b hb e=>((mR b).1 hb).2 (e ▸ ha)⟩;have pL:(S ++ R).Perm (List.range m):=(List.perm_ext_iff_of_nodup nL List.nodup_range).2 fun a=>by
  rw [List.mem_append,mR,List.mem_range]
  constructor
  ·rintro (q | q)
   ·exact hl a q
   ·exact q.1
  ·intro q
   by_cases e:a∈S
   ·exact .inl e
   ·exact .inr ⟨q,e⟩
 have lL:(S ++ R).length=m:=by rw [pL.length_eq,List.length_range]
 have bL:∀x∈S ++ R,x<m:=fun x hx=>by simpa using pL.mem_iff.1 hx
 have lt:S.length+R.length=m:=by rw [←lL,List.length_append]
 refine ⟨R.length,by omega,?_⟩;have e1:=zdC nL lL bL X;have e2:=zdC nL lL bL (fun a b=>X ((S ++ R).getD b 0) ((S ++ R).getD a 0));have e3:det m (fun a b=>X ((S ++ R).getD a 0) b)=sgb (odl false (S ++ R))*det m X:=by
  have:=zdC nL lL bL (fun a b=>X b a);rw [zcA m X] at this;rw [←this,←zcA]
 have e4:det m (fun a b=>X ((S ++ R).getD a 0) ((S ++ R).getD b 0))=det m X:=by
  rw [zdC nL lL bL (fun a b=>X ((S ++ R).getD a 0) b),e3,←Int.mul_assoc,zyG,Int.one_mul]
 rw [←e4];have hd:=zNF d R.length S.length (fun a b=>X ((S ++ R).getD a 0) ((S ++ R).getD b 0)) fun a k h1 h2 h3=>by
  have ea:(S ++ R).getD a 0=R.getD (a-S.length) 0:=by simp [List.getElem?_append_right h1]
  have hin:(S ++ R).getD a 0∈R:=by
   rw [ea,List.getD_eq_getElem?_getD,List.getElem?_eq_getElem (show a-S.length<R.length by omega)];exact List.getElem_mem _
  have hk:(S ++ R).getD k 0∈S ++ R:=by
   rw [List.getD_eq_getElem?_getD,List.getElem?_eq_getElem (show k<(S ++ R).length by omega)];exact List.getElem_mem _
  show X ((S ++ R).getD a 0) ((S ++ R).getD k 0)=_
  rw [h _ _ ((mR _).1 hin).1 (bL _ hk) ((mR _).1 hin).2];unfold dlz
  by_cases q:a=k
  ·subst q;rw [if_pos rfl,if_pos rfl]
  ·rw [if_neg q,if_neg fun e=>q (zgD nL (by omega) (by omega) e)]
 rw [lt] at hd;rw [hd]
 congr 1
 exact zEA fun a b ha hb=>by simp [List.getElem?_append_left ha,List.getElem?_append_left hb]
theorem minor14 {A:Nat→Nat→Int} {m n:Nat} {w:Nat→Nat} {rows cols:List Nat} (hr:rows.Nodup) (hm:∀p∈rows,p<m) (hc:cols.length=rows.length) (hn:∀c∈cols,c<n) (h1:∀a,a<rows.length→w (rows.getD a 0)=cols.getD a 0) (h2:∀p,p<m→p ∉ rows→w p=n+p) :
  dcl A m n w=det rows.length fun a b=>A (rows.getD a 0) (cols.getD b 0):=by
 obtain ⟨t,_,e⟩:=zPF (X:=fun p=>vcl A n (w p)) (d:=1) hr hm fun p k hp hk hx=>by
  show vcl A n (w p) k=_
  unfold vcl;rw [h2 p hp hx,if_neg (by omega),Nat.add_sub_cancel_left,Int.one_mul]
 unfold dcl;rw [e,Int.one_pow,Int.one_mul,←zcA];exact zEA fun a b ha hb=>by
  show vcl A n (w (rows.getD b 0)) (rows.getD a 0)=_
  unfold vcl;rw [h1 b hb,if_pos (hn _ (by
   rw [List.getD_eq_getElem?_getD,List.getElem?_eq_getElem (show b<cols.length by omega)];exact List.getElem_mem _))]
theorem zCH (d:Int):∀n,prn n (fun _=>d)=d ^ n
 | 0=>by simp [prn]
 | n+1=>by
  show d*prn n (fun _=>d)=_
  rw [zCH d n,Int.pow_succ,Int.mul_comm]
theorem Tbl.detOf {A:Nat→Nat→Int} {m n:Nat} {f g:Nat→Nat} {by_:Nat→Nat→Int} {d:Int} (h:Tbl A m n f g by_ d) {w:Nat→Nat} {ord opn fre slt:List Nat}
  (lo:ord.length=m) (no:ord.Nodup) (mo:∀x∈ord,x<m) (o1:opn.Nodup) (o2:∀p∈opn,p<m) (hin:∀p,p<m→p ∉ opn→f (ord.getD p 0)=w p)
  (hop:∀t,t<opn.length→ord.getD (opn.getD t 0) 0=fre.getD t 0∧slt.getD t 0<n∧g (slt.getD t 0)=w (opn.getD t 0)) :
  dcl A m n w*d ^ opn.length=sgb (odl false ord)*(det opn.length (fun a b=>by_ (fre.getD a 0) (slt.getD b 0))*d):=by
 have hod:∀p,p<m→ord.getD p 0<m:=fun p hp=>mo _ (by
  rw [List.getD_eq_getElem?_getD,List.getElem?_eq_getElem (show p<ord.length by omega)];exact List.getElem_mem _)
 obtain ⟨B,hB⟩:∃B,(fun r=>vcl A n (f r))=B:=⟨_,rfl⟩
 have dB:det m B=d:=by rw [←hB];exact h.de
 obtain ⟨T,hT⟩:∃T:Nat→Nat→Int,(fun p i=>det m (stR B i (vcl A n (w p))))=T:=⟨_,rfl⟩
 have T1:∀p i,p<m→i<m→p ∉ opn→T p i=d*dlz (ord.getD p 0) i:=fun p i hp hi hx=>by
  rw [←hT]
  show det m (stR B i (vcl A n (w p)))=_
  rw [←hin p hp hx,show vcl A n (f (ord.getD p 0))=B (ord.getD p 0) by rw [←hB]];unfold dlz
  by_cases q:ord.getD p 0=i
  ·rw [if_pos q,q,zdB,dB,Int.mul_one]
  ·rw [if_neg q,Int.mul_zero]
   exact (zYA m).same (hod p hp) hi q fun k _=>by rw [zQA,zKA _ q]
 have T2:∀t i,t<opn.length→i<m→T (opn.getD t 0) i=by_ i (slt.getD t 0):=fun t i ht hi=>by
  rw [←hT]
  show det m (stR B i (vcl A n (w (opn.getD t 0))))=_
  rw [h.be i _ hi (hop t ht).2.1,zFD,hB,(hop t ht).2.2]
 have e1:det m (fun p k=>d*vcl A n (w p) k)=det m T*d:=by
  rw [←dB,←zbH];refine zEA fun p k hp hk=>?_
  unfold muz;rw [dB,←dB,←hT,←zbG B (vcl A n (w p)) hk]
 rw [zsD m (fun _=>d),zCH] at e1;have e2:=zdC no lo mo T;obtain ⟨t,ht,e3⟩:=zPF (X:=fun p k=>T p (ord.getD k 0)) (d:=d) o1 o2 fun p k hp hk hx=>by
  show T p (ord.getD k 0)=_
  rw [T1 p _ hp (hod k hk) hx];unfold dlz
  by_cases q:p=k
  ·subst q;rw [if_pos rfl,if_pos rfl]
  ·rw [if_neg q,if_neg fun e=>q (zgD no (by omega) (by omega) e)]
 have e4:det opn.length (fun a b=>T (opn.getD a 0) (ord.getD (opn.getD b 0) 0))=det opn.length (fun a b=>by_ (fre.getD a 0) (slt.getD b 0)):=by
  rw [←zcA];exact zEA fun a b ha hb=>by
   have hm:=hod _ (o2 _ (show opn.getD a 0∈opn by
    rw [List.getD_eq_getElem?_getD,List.getElem?_eq_getElem ha];exact List.getElem_mem _))
   show T (opn.getD b 0) (ord.getD (opn.getD a 0) 0)=_
   rw [T2 b _ hb hm,(hop a ha).1]
 have e5:det m T=sgb (odl false ord)*(d ^ t*det opn.length (fun a b=>by_ (fre.getD a 0) (slt.getD b 0))):=by
  rw [←e4];have:=e3;rw [e2] at this;rw [←this,←Int.mul_assoc,zyG,Int.one_mul]
 rw [e5,show d ^ m=d ^ t*d ^ opn.length by rw [←ht,Int.pow_add]] at e1;have hnz:d ^ t≠0:=Int.pow_ne_zero h.nz;refine Int.eq_of_mul_eq_mul_left hnz ?_;have e6:dcl A m n w=det m (fun p=>vcl A n (w p)):=rfl;rw [e6];rw [show d ^ t*(det m (fun p=>vcl A n (w p))*d ^ opn.length)=d ^ t*d ^ opn.length*det m fun p=>vcl A n (w p) by grind];rw [show (det m fun p=>vcl A n (w p))=det m fun a b=>vcl A n (w a) b from rfl,e1]
 grind
theorem Tbl.rank0 {A:Nat→Nat→Int} {m n:Nat} {f g:Nat→Nat} {by_:Nat→Nat→Int} {d:Int} (h:Tbl A m n f g by_ d) {P:List Nat} (hP:∀i,i<m→f i<n→i∈P) (hz:∀i j,i<m→j<n→n≤f i→g j<n→by_ i j=0)
  {rows cols:Nat→Nat} {s:Nat} (hr:∀a,a<s→rows a<m) (hc:∀a,a<s→cols a<n) (hs:P.length<s):det s (fun a b=>A (rows a) (cols b))=0:=by
 obtain ⟨L,hL⟩:∃L:Nat→Nat→Int,(fun a=>vcl A n (f (P.getD a 0)))=L:=⟨_,rfl⟩
 have one:∀i,i<m→f i<n→Sp m P.length L (vcl A n (f i)):=fun i hi hf=>by
  obtain ⟨a,ha,e⟩:=List.getElem_of_mem (hP i hi hf);exact Sp.one ha fun j _=>by
   rw [←hL]
   show _=vcl A n (f (P.getD a 0)) j
   rw [List.getD_eq_getElem?_getD,List.getElem?_eq_getElem ha,Option.getD_some,e]
 have all:∀c,c<n→Sp m P.length L (vcl A n c):=fun c hc=>by
  rcases h.cov c (by omega) with ⟨i,hi,e⟩ | ⟨j,hj,e⟩
  ·rw [←e];exact one i hi (by omega)
  ·refine Sp.div h.nz (Sp.congr (u:=fun k=>su m fun i=>by_ i j*vcl A n (f i) k) ?_ fun k hk=>by rw [←e];exact h.comb hj hk)
   rw [show (fun k=>su m fun i=>by_ i j*vcl A n (f i) k)=fun k=>su m fun i=>(fun _:Nat=>(1:Int)) i*(fun i k=>by_ i j*vcl A n (f i) k) i k by funext k;exact zJA fun i _=>by show _=1*_;rw [Int.one_mul]];refine Sp.sum _ fun i hi=>?_
   by_cases q:f i<n
   ·exact Sp.mul _ (one i hi q)
   ·exact Sp.zero fun k _=>by rw [hz i j hi hj (by omega) (by omega),Int.zero_mul]
 have:=Sp.det0 (n:=m) (X:=fun a=>vcl A n (cols a)) (fun a ha=>all _ (hc a ha)) hs (M:=rows) hr;rw [←zcA,←this];exact zEA fun a b ha hb=>by
  show A (rows b) (cols a)=vcl A n (cols a) (rows b)
  unfold vcl;rw [if_pos (hc a ha)]
theorem dcl_abs {A:Nat→Nat→Int} {m n X:Nat} {f:Nat→Nat} (hm:m≤64) (hX:1≤X) (h:∀i j,(A i j).natAbs≤X):(dcl A m n f).natAbs≤(64*X) ^ m:=zjF hm fun i j _ _=>by
 unfold vcl
 split
 ·exact h _ _
 ·unfold dlz;split <;> simp <;> omega
open Go.RowKit
def FpH (w:World) (k gk:Nat) (s:Value) (wx:World):Prop:=∃i:Nat,s=.int .i64 (i:Int)∧i≤k∧gk=k-i∧Cel wx w.heap.size 3 (wf k fun t=>if t<i then (t:Int) else 0)∧Below w.heap.size w wx
theorem zsB {w:World} {k:Nat} (hk:k≤4096):Calls Tryz.prog 71 #[.int .i64 (k:Int)] w fun e w'=>e=.returned (.slice (some ⟨w.heap.size,0,none⟩) k k)∧Cel w' w.heap.size 3 (wf k fun t=>(t:Int))∧Below w.heap.size w w':=by
 go_enter Tryz.func71,Tryz.ntmps71;go_wp2_with (at_make;refine zRB _ rfl _ _ rfl _ _ k k rfl rfl rfl rfl (Nat.le_refl _) (by omega) ?_)
 intro w1 hrow hb1 hsz1;have H0:Hid (FpH w k k (.int .i64 0) w1):=⟨0,rfl,Nat.zero_le _,rfl,by rw [zbA (G:=fun _=>0) fun t _=>if_neg (Nat.not_lt_zero _)];exact hrow.out,hb1.out⟩
 clear hrow hb1 hsz1;go_wp2_with fail
 go_loopg [9] k (fun gk s9 wx=>FpH w k gk s9 wx)
 case atStart=>exact H0.out
 case round =>
  clear H0;obtain ⟨i,rfl,hik,hg,hc,hb⟩:=hrel;have C:=hid hc;have G:=hid hb;have HG:=hid hg;clear hc hb hg
  by_cases hlt:i<k
  ·have hlt':(i:Int)<(k:Int):=by omega
   have hw:=zNA (i:=i) (by omega);have e0:=C.out.nf hlt;have e1:=C.out.fz i;have HN1:Hid (FpH w k (k-(i+1)) (.int .i64 ((i+1:Nat):Int)) (wr.setCell ⟨w.heap.size,i,none⟩ (.int .i64 (i:Int)))) :=
    ⟨i+1,rfl,by omega,rfl,by
     have:=C.out.nfset hlt (i:Int);rw [zbA (G:=fun t=>if t<i+1 then (t:Int) else 0) fun t ht=>?_] at this
     ·exact this
     ·show (if t=i then (i:Int) else if t<i then (t:Int) else 0)=if t<i+1 then (t:Int) else 0
      by_cases q:t=i
      ·rw [if_pos q,if_pos (by omega),q]
      ·rw [if_neg q]
       by_cases q2:t<i
       ·rw [if_pos q2,if_pos (by omega)]
       ·rw [if_neg q2,if_neg (by omega)],bset G.out (Nat.le_refl _)⟩
   have HMM:Hid (k-(i+1)<gk):=by unfold Hid;rw [HG.out];omega
   clear C G HG;go_wp2_with fail;go_roundg (k-(i+1))
   case rel=>exact HN1.out
   case measure=>exact HMM.out
  ·have hlt':¬(i:Int)<(k:Int):=by omega
   obtain rfl:i=k:=by omega
   have CF:Hid (Cel wr w.heap.size 3 (wf i fun t=>(t:Int))):=by
    unfold Hid;rw [zbA (G:=fun t=>if t<i then (t:Int) else 0) fun t ht=>(if_pos ht).symm];exact C.out
   clear C HG;go_wp2;go_ret;exact ⟨rfl,CF.out,G.out⟩
def IoH (w:World) (l:List Nat) (m gk:Nat) (s3 s10:Value) (wx:World):Prop:=∃(i:Nat) (o:Bool),s3=.bool o∧s10=.int .i64 (i:Int)∧i≤m∧gk=m-i∧odl o (l.drop i)=odl false l∧wx=w
def IiH (w:World) (l:List Nat) (m i x:Nat) (gk:Nat) (s3 s20:Value) (wx:World):Prop:=∃(j:Nat) (o:Bool),s3=.bool o∧s20=.int .i64 (j:Int)∧i+1+j≤m∧gk=m-(i+1+j)∧odl (odA x o (l.drop (i+1+j))) (l.drop (i+1))=odl false l∧wx=w
theorem zqD {l:List Nat} {i:Nat} (h:i<l.length):l.drop i=l.getD i 0 :: l.drop (i+1):=by
 rw [List.drop_eq_getElem_cons h];simp [h]
theorem isOdd_any {w:World} {g m:Nat} {F:Nat→Int} {l:List Nat} (hc:Cel w g 3 (wf m F)) (hl:l.length=m) (hF:∀t,t<m→F t=(l.getD t 0:Nat)) (hm:m≤4096) :
  Calls Tryz.prog 84 #[.slice (some ⟨g,0,none⟩) m m] w fun e w'=>e=.returned (.bool (odl false l))∧w'=w:=by
 have CC:Hid (∀t,t<m→w.cell? ⟨g,t,none⟩=some (.int .i64 (l.getD t 0:Nat))):=fun t ht=>by rw [hc.nf ht,hF t ht]
 have HL:=hid hl;have H0:Hid (IoH w l m m (.bool false) (.int .i64 0) w):=⟨0,false,rfl,rfl,Nat.zero_le _,rfl,rfl,rfl⟩
 clear hc hl hF;go_enter Tryz.func84,Tryz.ntmps84;go_wp2_with fail
 go_loopg [3,10] m (fun gk s3 s10 wx=>IoH w l m gk s3 s10 wx)
 case atStart=>exact H0.out
 case round =>
  clear H0;obtain ⟨i,o,rfl,rfl,him,hg,ho,hwx⟩:=hrel;rw [hwx];clear hwx wr;have HG:=hid hg;have HO:=hid ho;clear hg ho
  by_cases hlt:i<m
  ·have hlt':(i:Int)<(m:Int):=by omega
   have hw:=zNA (i:=i) (by omega);have e0:=CC.out i hlt;have HMM:Hid (m-(i+1)<gk):=by unfold Hid;rw [HG.out];omega
   have HX:=zqD (l:=l) (i:=i) (by rw [HL.out];exact hlt);obtain ⟨x,hx⟩:∃x,l.getD i 0=x:=⟨_,rfl⟩
   rw [hx] at HX e0;have H1:Hid (IiH w l m i x (m-(i+1)) (.bool o) (.int .i64 0) w):=⟨0,o,rfl,rfl,by omega,rfl,by
    have:=HO.out;rw [HX] at this;exact this,rfl⟩
   have hlo:¬(m:Int)<(i:Int)+1:=by omega
   clear HG HO HX hx
   by_cases hcap:m=i+1
   ·have hcap2:i+1=m:=hcap.symm
    have hcap':(i:Int)+1=(m:Int):=by omega
    have hn1:m-(i+1)=0:=by omega
    rw [hn1] at H1;clear hcap hn1;go_wp2_with fail
    go_loopg [3,20] 0 (fun gk2 s3 s20 wx=>IiH w l m i x gk2 s3 s20 wx)
    case atStart=>exact H1.out
    case round =>
     clear H1;obtain ⟨j,o2,rfl,rfl,hjm,hg,ho,hwx⟩:=hrel;rw [hwx];clear hwx wr;obtain rfl:j=0:=by omega
     have HN1:Hid (IoH w l m (m-m) (.bool o2) (.int .i64 (m:Int)) w):=⟨m,o2,rfl,rfl,Nat.le_refl _,rfl,by
      rw [List.drop_eq_nil_of_le (by rw [HL.out];omega)] at ho;rw [List.drop_eq_nil_of_le (by rw [HL.out];omega)];exact ho,rfl⟩
     have HM3:=HMM;rw [hcap2] at HM3;clear hg ho;go_wp2_with fail;go_roundg (m-m)
     case rel=>exact HN1.out
     case measure=>exact HM3.out
   ·have hcap':¬(m:Int)=(i:Int)+1:=by omega
    have hne:¬m=i+1:=hcap;go_wp2_with fail
    go_loopg [3,20] (m-(i+1)) (fun gk2 s3 s20 wx=>IiH w l m i x gk2 s3 s20 wx)
    case atStart=>exact H1.out
    case round =>
     clear H1;obtain ⟨j,o2,rfl,rfl,hjm,hg,ho,hwx⟩:=hrel;rw [hwx];clear hwx wr;have HG:=hid hg;have HO:=hid ho;clear hg ho
     by_cases hlt2:i+1+j<m
     ·have hlt2':(j:Int)<((m-(i+1):Nat):Int):=by omega
      have hwj:=zNA (i:=j) (by omega);have e2:=CC.out (i+1+j) hlt2;have HX:=zqD (l:=l) (i:=i+1+j) (by rw [HL.out];exact hlt2);obtain ⟨y,hy⟩:∃y,l.getD (i+1+j) 0=y:=⟨_,rfl⟩
      rw [hy] at HX e2;have HN1:Hid (IiH w l m i x (m-(i+1+(j+1))) (.bool (!(o2 == decide (y<x)))) (.int .i64 ((j+1:Nat):Int)) w):=⟨j+1,_,rfl,rfl,by omega,rfl,by
       have:=HO.out;rw [HX] at this;exact this,rfl⟩
      have HM2:Hid (m-(i+1+(j+1))<gk):=by unfold Hid;rw [HG.out];omega
      clear HG HO HX hy;go_wp2_with fail;go_roundg (m-(i+1+(j+1)))
      case rel=>exact HN1.out
      case measure=>exact HM2.out
     ·have hlt2':¬(j:Int)<((m-(i+1):Nat):Int):=by omega
      have HN1:Hid (IoH w l m (m-(i+1)) (.bool o2) (.int .i64 ((i+1:Nat):Int)) w):=⟨i+1,o2,rfl,rfl,by omega,rfl,by
       have:=HO.out;rw [List.drop_eq_nil_of_le (i:=i+1+j) (by rw [HL.out];omega)] at this;exact this,rfl⟩
      clear HG HO;go_wp2_with fail;go_roundg (m-(i+1))
      case rel=>exact HN1.out
      case measure=>exact HMM.out
  ·have hlt':¬(i:Int)<(m:Int):=by omega
   have hoe:o=odl false l:=by
    have:=HO.out;rw [List.drop_eq_nil_of_le (by rw [HL.out];omega)] at this;exact this
   rw [hoe];clear HG HO hoe;go_wp2;go_ret;exact ⟨rfl,rfl⟩
abbrev nf (l:List Nat):Nat→Int:=fun t=>(l.getD t 0:Nat)
def StpH (w:World) (l:List Nat) (n k gk:Nat) (s5 s6:Value) (wx:World):Prop :=
 ∃u:Nat,s6=.int .i64 ((u:Int)-1)∧s5=.int .i64 ((n:Int)-1-((k:Int)-(u:Int)))∧u≤k∧gk=u∧(∀j,u≤j→j<k→n≤l.getD j 0+(k-j))∧wx=w
def sqF (l:List Nat) (i v:Nat):Nat→Int:=fun t=>if t<i then (l.getD t 0:Nat) else if t<v then ((l.getD i 0+1+(t-i):Nat):Int) else (l.getD t 0:Nat)
def StwH (w:World) (g:Nat) (l:List Nat) (i k gk:Nat) (s6 s7:Value) (wx:World):Prop :=
 ∃v:Nat,s6=.int .i64 (v:Int)∧s7=.int .i64 ((l.getD i 0+1+(v-i):Nat):Int)∧i≤v∧v≤k∧gk=k-v∧Cel wx g 3 (wf k (sqF l i v))∧zLA (· = g) w wx
theorem sqF_zero (l:List Nat) (i:Nat):∀t,sqF l i i t=nf l t:=fun t=>by
 unfold sqF nf
 by_cases q:t<i
 ·rw [if_pos q]
 ·rw [if_neg q,if_neg q]
theorem sqF_put {l:List Nat} {i v:Nat} (h:i≤v) (t:Nat):upF (sqF l i v) v ((l.getD i 0+1+(v-i):Nat):Int) t=sqF l i (v+1) t:=by
 unfold upF sqF
 by_cases q:t=v
 ·subst q;rw [if_pos rfl,if_neg (by omega),if_pos (by omega)]
 ·rw [if_neg q]
  by_cases a:t<i
  ·rw [if_pos a,if_pos a]
  ·rw [if_neg a,if_neg a]
   by_cases b:t<v
   ·rw [if_pos b,if_pos (by omega)]
   ·rw [if_neg b,if_neg (by omega)]
theorem sqF_end {l:List Nat} {i k t:Nat} (hi:i≤k) (hl:l.length=k) (ht:t<k):sqF l i k t=nf (l.take i ++ seqN (l.getD i 0+1) (k-i)) t:=by
 unfold sqF
 show _=(((l.take i ++ seqN (l.getD i 0+1) (k-i)).getD t 0:Nat):Int)
 have el:(l.take i).length=i:=by simp;omega
 obtain ⟨S,hS⟩:∃S,seqN (l.getD i 0+1) (k-i)=S:=⟨_,rfl⟩
 rw [hS]
 by_cases q:t<i
 ·rw [if_pos q]
  have:(l.take i ++ S).getD t 0=l.getD t 0:=by
   simp only [List.getD_eq_getElem?_getD];rw [List.getElem?_append_left (by omega),List.getElem?_take,if_pos q]
  rw [this]
 ·rw [if_neg q,if_pos ht]
  have:(l.take i ++ S).getD t 0=S.getD (t-i) 0:=by
   simp only [List.getD_eq_getElem?_getD];rw [List.getElem?_append_right (by omega),el]
  rw [this,←hS,zeF (k-i) (l.getD i 0+1) (t-i) (by omega)]
def zmF (w:World) (g n k:Nat) (l:List Nat) (e:Ending) (w':World):Prop :=
 (nxt n l=none∧e=.returned (.bool false)∧w'=w)∨∃l',nxt n l=some l'∧e=.returned (.bool true)∧Cel w' g 3 (wf k (nf l'))∧zLA (· = g) w w'
theorem step_any {w:World} {g k n:Nat} {l:List Nat} (hc:Cel w g 3 (wf k (nf l))) (hl:l.length=k) (hk:k≤64) (hn:n≤64) (hlt:∀t,t<k→l.getD t 0<n) :
  Calls Tryz.prog 72 #[.slice (some ⟨g,0,none⟩) k k,.int .i64 (n:Int)] w (zmF w g n k l):=by
 have CC:=hid hc;have HL:=hid hl;have HLT:=hid hlt;have H0:Hid (StpH w l n k k (.int .i64 ((k:Int)-1)) (.int .i64 ((k:Int)-1)) w→True):=fun _=>trivial
 have H1:Hid (StpH w l n k k (.int .i64 ((n:Int)-1)) (.int .i64 ((k:Int)-1)) w):=⟨k,rfl,by congr 1;omega,Nat.le_refl _,rfl,fun j h1 h2=>by omega,rfl⟩
 have hw1:IntKind.i64.wrap ((n:Int)-1)=(n:Int)-1:=by rw [zaA] <;> omega
 have hw2:IntKind.i64.wrap ((k:Int)-1)=(k:Int)-1:=by rw [zaA] <;> omega
 clear hc hl hlt H0;go_enter Tryz.func72,Tryz.ntmps72;go_wp2_with fail;clear hw1 hw2
 go_loopg [5,6] k (fun gk s5 s6 wx=>StpH w l n k gk s5 s6 wx)
 case atStart=>exact H1.out
 case round =>
  clear H1;obtain ⟨u,rfl,rfl,huk,hg,hh,hwx⟩:=hrel;rw [hwx];clear hwx wr;have HG:=hid hg;have HH:=hid hh;clear hg hh
  by_cases hu:u=0
  ·have hu':¬(0:Int)≤(u:Int)-1:=by omega
   have hu2:(decide ((0:Int)≤(u:Int)-1))=false:=decide_eq_false hu';have FIN:Hid (zmF w g n k l (.returned (.bool false)) w):=.inl ⟨zVE fun i hi=>by
    have:=HH.out i (by omega) (by rw [←HL.out];exact hi);rw [HL.out];exact this,rfl,rfl⟩
   clear HG HH hu CC HL HLT;go_wp2;go_ret;exact FIN.out
  ·obtain ⟨i,rfl⟩:∃i,u=i+1:=⟨u-1,by omega⟩
   have ei:((i+1:Nat):Int)-1=(i:Int):=by omega
   have el:(n:Int)-1-((k:Int)-((i+1:Nat):Int))=(n:Int)+(i:Int)-(k:Int):=by omega
   rw [ei,el];have hik:i<k:=by omega
   have hik':(i:Int)<(k:Int):=by omega
   have c0:=CC.out.nf hik;obtain ⟨x,hx⟩:∃x,l.getD i 0=x:=⟨_,rfl⟩
   have c0':w.cell? ⟨g,i,none⟩=some (.int .i64 (x:Int)):=by rw [c0];show some (Value.int .i64 ((l.getD i 0:Nat):Int))=_;rw [hx]
   have hxn:x<n:=by rw [←hx];exact HLT.out i hik
   have HX:=hid hx;clear c0 hx hu ei el
   by_cases hless:(x:Int)<(n:Int)+(i:Int)-(k:Int)
   ·have hwx:=zNA (i:=x) (by omega)
    have HNX:Hid (nxt n l=some (l.take i ++ seqN (x+1) (k-i))):=by
     unfold Hid;have:=nxt_at (n:=n) (i:=i) (l:=l) (by rw [HL.out];exact hik) (by rw [HL.out,HX.out];omega) (fun j h1 h2=>by
      rw [HL.out] at h2 ⊢;exact HH.out j (by omega) h2)
     rw [HL.out,HX.out] at this;exact this
    have H2:Hid (StwH w g l i k (k-i) (.int .i64 (i:Int)) (.int .i64 ((x+1:Nat):Int)) w):=⟨i,rfl,by rw [HX.out,Nat.sub_self,Nat.add_zero],Nat.le_refl _,by omega,rfl,by rw [zbA fun t _=>sqF_zero l i t];exact CC.out,zLA.refl _ _⟩
    clear HG HH CC;go_wp2_with fail
    go_loopg [6,7] (k-i) (fun gk s6 s7 wx=>StwH w g l i k gk s6 s7 wx)
    case atStart=>exact H2.out
    case round =>
     clear H2 c0';obtain ⟨v,rfl,rfl,hiv,hvk,hg,hcv,htv⟩:=hrel;rw [HX.out];have CV:=hid hcv;have TV:=hid htv;have HG:=hid hg;clear hg hcv htv
     by_cases hlv:v<k
     ·have hlv':(v:Int)<(k:Int):=by omega
      have hwv:=zNA (i:=v) (by omega);have e0:=CV.out.nf hlv;have e1:=CV.out.fz v;have HN1:Hid (StwH w g l i k (k-(v+1)) (.int .i64 ((v+1:Nat):Int)) (.int .i64 ((x+1+(v-i)+1:Nat):Int)) (wr.setCell ⟨g,v,none⟩ (.int .i64 ((x+1+(v-i):Nat):Int)))):=⟨v+1,rfl,by rw [HX.out];congr 2;omega,by omega,by omega,rfl,by
       have:=CV.out.nfset hlv ((l.getD i 0+1+(v-i):Nat):Int);rw [zbA fun t _=>sqF_put hiv t,HX.out] at this;exact this,TV.out.setCell (.inr rfl) _ _⟩
      have HMM:Hid (k-(v+1)<gk):=by unfold Hid;rw [HG.out];omega
      obtain ⟨y,hy⟩:∃y,x+1+(v-i)=y:=⟨_,rfl⟩
      have hwy:=zNA (i:=y) (by omega);rw [hy] at HN1 ⊢;clear CV TV HG hy;go_wp2_with fail;go_roundg (k-(v+1))
      case rel=>exact HN1.out
      case measure=>exact HMM.out
     ·have hlv':¬(v:Int)<(k:Int):=by omega
      obtain rfl:v=k:=by omega
      have FIN:Hid (zmF w g n v l (.returned (.bool true)) wr):=.inr ⟨_,HNX.out,rfl,by
       have:=CV.out;rw [zbA fun t ht=>sqF_end (by omega) HL.out ht,HX.out] at this;exact this,TV.out⟩
      obtain ⟨y,hy⟩:∃y,x+1+(v-i)=y:=⟨_,rfl⟩
      rw [hy];clear CV TV HG HNX hy;go_wp2;go_ret;exact FIN.out
   ·have hwi:IntKind.i64.wrap ((i:Int)-1)=(i:Int)-1:=by rw [zaA] <;> omega
    have hwl:IntKind.i64.wrap ((n:Int)+(i:Int)-(k:Int)-1)=(n:Int)+(i:Int)-(k:Int)-1:=by rw [zaA] <;> omega
    have HN1:Hid (StpH w l n k i (.int .i64 ((n:Int)+(i:Int)-(k:Int)-1)) (.int .i64 ((i:Int)-1)) w):=⟨i,rfl,by congr 1;omega,by omega,rfl,fun j h1 h2=>by
     by_cases q:j=i
     ·subst q;rw [HX.out];omega
     ·exact HH.out j (by omega) h2,rfl⟩
    have HMM:Hid (i<gk):=by unfold Hid;rw [HG.out];omega
    clear HG HH CC;go_wp2_with fail;go_roundg i
    case rel=>exact HN1.out
    case measure=>exact HMM.out
end Go.Proofs.YtjnokjgbeploaaaGreat
