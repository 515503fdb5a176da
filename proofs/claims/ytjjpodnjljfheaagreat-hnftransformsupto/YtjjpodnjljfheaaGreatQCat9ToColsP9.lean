/-
 QCat9ToColsP9: Cat9, Each9, DotsA9, ColsP9, joined.
-/
import Derived.Test.YtjjpodnjljfheaaGreatQFil9ToRowsOf9
import Derived.Lib.AppendZeros
import Derived.Laws.AppendOwnNone

set_option maxRecDepth 100000
set_option maxHeartbeats 6400000
set_option linter.unusedVariables false
set_option linter.unusedSimpArgs false
namespace Go.Proofs.YtjjpodnjljfheaaGreat
open Go.RowKit
theorem zfE {w w':World} {base:Nat} {e:TypeId} {size:Nat} {v:Value} {n:Nat} {xs:List Value} (h:w.ownsRow base e size v n xs) (hk:∀b,v.ownBlock=some b→b<w.heap.size→w'.heap[b]?=w.heap[b]?):w'.ownsRow base e size v n xs:=by
 obtain ⟨q1,q2 | ⟨g,cap,cur,q2,q3,q4,q5⟩⟩:=h
 ·exact ⟨q1,.inl q2⟩
 ·exact ⟨q1,.inr ⟨g,cap,cur,q2,q3,(hk g (by rw [q2];rfl) (Array.getElem?_eq_some_iff.1 q4).1).trans q4,q5⟩⟩
theorem zKH {w:World} {B:Nat} {v:Value} {ps:List (Value×Value)} (h:w.ownsRow B 47 2 v ps.length (flat ps)) (hl:ps.length≤1048576):Prs B w v ps:=by
 have h1':=h;obtain ⟨q1,⟨q2,q3⟩ | ⟨g,cap,cur,q2,q3,q4,q5,q6⟩⟩:=h
 ·rw [q2]
  have:ps=[]:=List.eq_nil_of_length_eq_zero q3;subst this;exact Prs.nil _ _
 ·refine ⟨_,cap,q2,q5,hl,(fun q=>by cases q),.inr ⟨g,0,rfl,q3,(Array.getElem?_eq_some_iff.1 q4).1,fun j p hp=>?_⟩⟩
  have ea:∀j,(⟨g,0,none⟩:Addr).add j=⟨g,j,none⟩:=fun j=>by unfold Addr.add;split <;> simp_all
  have c0:=World.ownsRow.cells h1' (g:=g) (by rw [q2];rfl) _ _ (zLC hp).1;have c1:=World.ownsRow.cells h1' (g:=g) (by rw [q2];rfl) _ _ (zLC hp).2;rw [ea] at c0 c1;rw [Nat.zero_add];exact ⟨c0,c1⟩
theorem isI_one {ps:List (Value×Value)} (h:∀p∈ps,IsI p):∀u∈flat ps,u.oneCell'=true:=by
 induction ps with
 | nil=>intro u hu;simp [flat] at hu
 | cons p r ih =>
  intro u hu;obtain ⟨n,a,l,c,e⟩:=h p (by simp);simp only [flat,List.mem_cons] at hu;rw [e] at hu;rcases hu with rfl | rfl | hu
  ·rfl
  ·rfl
  ·exact ih (fun q hq=>h q (by simp [hq])) u hu
def OwnP (B:Nat) (w:World) (v:Value) (ps:List (Value×Value)):Prop:=w.ownsRow B 47 2 v ps.length (flat ps)
theorem wpList_append_pairs (w:World) {ops:Array Oper} {rest:List Oper} {o:Oper} {a:Act} {Q:Exit→Act→World→Prop}
  (hgd:o.guard=none) (s x:Operand) (hop:o.op=.call { callee:=.builtin .append,args:=#[s,x],argTypes:=#[22,22] })
  (B:Nat) (v u:Value) (ps qs:List (Value×Value)) (hs:a.eval s=v) (hB:OwnP B w v ps) (hx:a.eval x=u) (B':Nat) (hu:Prs B' w u qs) (hi:∀p∈qs,IsI p) (hlen:ps.length+qs.length≤1048576) (hBs:B≤w.heap.size)
  (hK:∀v' w',OwnP B w' v' (ps ++ qs)→Hid (w.grownBy w' v.ownBlock)→wpList Tryz.prog ops Q rest (a.put o.dst v') w') :
  wpList Tryz.prog ops Q (o :: rest) a w:=by
 obtain ⟨i,hii,hz,hsz,hby⟩:=info_parts Tryz.infoZ9;obtain ⟨au,cu,rfl,h2,h3,hn,h4⟩:=hu;rcases au with _ | ad
 ·have e:qs=[]:=by
   rcases h4 with h4 | ⟨b,off,q,_⟩
   ·exact h4
   ·cases q
  subst e;have:=hn rfl;subst this;refine wpList_append_own_none hgd s x 22 hop B 47 i 2 Tryz.underlying22 hii v ps.length (flat ps) hs hB hx ?_;have:=hK v w (by simpa using hB) ⟨rfl,rfl,rfl,Nat.le_refl _,fun _ _ _=>rfl⟩;exact this
 ·refine wpList_plain hgd fun K hK'=>?_
  have hnews:∀j y,(flat qs)[j]?=some y→w.cell? (ad.add j)=some y:=fun j y hj=>by
   have hjl:=(List.getElem?_eq_some_iff.1 hj).1;rw [zGD] at hjl;rcases h4 with rfl | ⟨b,off,q,_,_,hc⟩
   ·simp at hjl
   ·obtain rfl:ad=⟨b,off,none⟩:=by simpa using q
    have ea:∀j,(⟨b,off,none⟩:Addr).add j=⟨b,off+j,none⟩:=fun j=>by unfold Addr.add;split <;> simp_all
    rw [ea];have hp:qs[j / 2]?=some (qs[j / 2]'(by omega)):=List.getElem?_eq_getElem (by omega);have hf:=zLC hp;have hq:=hc _ _ hp;rcases Nat.mod_two_eq_zero_or_one j with m | m
    ·have e:j / 2*2=j:=by omega
     rw [e] at hf hq;rw [hq.1,←hf.1,hj]
    ·have e:j / 2*2+1=j:=by omega
     rw [Nat.add_assoc,e] at hq;rw [e] at hf;rw [hq.2,←hf.2,hj]
  obtain ⟨v',w',hr,k1,k2,-,-⟩:=run_append_own_at (P:=Tryz.prog) w B 22 o.type 47 i (.agg #[.bool false,.slice none 0 0]) 2 32 Tryz.underlying22 hii hz hsz hby rfl (by omega) v ps.length (flat ps) hB ad qs.length cu (flat qs) (zGD qs) hnews (isI_one hi) (by unfold maxLen;omega) (by omega) hBs;unfold Oper.wp execOp;simp only [hop,resolve,invoke,builtin,Sem.run_bind,Sem.run_pure,Result.andThen_ok,List.map_toArray,List.map_cons,List.map_nil,hs,hx,hr];refine hK' _ _ (hK v' w' ?_ k2);unfold OwnP;rw [zMC,List.length_append];exact k1
def Grew (w:World) (e:Ending) (w':World):Prop:=∃v,e=.returned v∧w'.ownsRow w.heap.size 47 2 v 0 []∧Below w.heap.size w w'
theorem grow_any {w:World} {N:Nat} (hN:N≤1048576):Calls Tryz.prog 81 #[.slice none 0 0,.int .i64 (N:Int)] w (Grew w):=by
 have w0:IntKind.i64.wrap (N:Int)=(N:Int):=by rw [zTA] <;> omega
 have w1:¬((N:Int)<0):=by omega
 by_cases h0:N=0
 ·subst h0
  have FIN:Hid (Grew w (.returned (.slice none 0 0)) w):=⟨_,rfl,World.ownsRow_nil _ _ _ _,Below.refl _ _⟩
  go_enter Tryz.func81,Tryz.ntmps81;go_wp2;go_ret;exact FIN.out
 ·obtain ⟨i,hii,hz,hsz,hby⟩:=info_parts Tryz.infoZ9
  have hrz:=fun wx:World=>Lib.run_append_nil_zeros (P:=Tryz.prog) wx 22 3 22 47 i (.agg #[.bool false,.slice none 0 0]) .i64 .i64 Tryz.underlying22 Tryz.underlying3 hii hz N (by omega) (by omega) (by omega) (by rw [hby];omega)
  have w2:(0:Int)<(N:Int):=by omega
  have hge:=grownCap_ge w N 0 47;have hle:=grownCap_le_maxLen w N 0 47 (by unfold maxLen;omega);have FIN:Hid (Grew w (.returned (.slice (some ⟨w.heap.size,0,none⟩) 0 (grownCap w N 0 47))) (w.drew.alloc (.cells (Builtin.zeroCells (Value.agg #[.bool false,.slice none 0 0]).cells N ++ Builtin.zeroCells (Value.agg #[.bool false,.slice none 0 0]).cells (grownCap w N 0 47-N)) 47))):=by
   refine ⟨_,rfl,World.ownsRow_made (base:=w.heap.size) (size:=2) w.drew _ _ (Nat.le_refl _) hle ?_,((Below.refl _ _).drew).alloc (Nat.le_refl _) _⟩;rw [Array.size_append,size_zeroCells,size_zeroCells];have:(Value.agg #[Value.bool false,Value.slice none 0 0]).cells.size=2:=rfl;rw [this];omega
  go_enter Tryz.func81,Tryz.ntmps81;go_wp2_with (at_builtin;refine Lib.wpList_append_run _ rfl _ _ _ _ rfl _ _ rfl rfl _ _ (hrz _) ?_)
  go_wp2;go_ret;exact FIN.out
def zmI (m:Nat) (pss:List (List (Value×Value))):Prop:=∀ps∈pss,ps.length=m∧∀p∈ps,IsI p
theorem take_flat {α:Type} {m:Nat} {pss:List (List α)} (h:∀ps∈pss,ps.length=m) (i:Nat) (hi:i≤pss.length):(pss.take i).flatten.length=i*m:=by
 induction i with
 | zero=>simp
 | succ i ih =>
  rw [List.take_succ_eq_append_getElem (by omega),List.flatten_append,List.length_append,ih (by omega),List.flatten_cons,List.flatten_nil,List.append_nil,h _ (List.getElem_mem _),Nat.add_mul,Nat.one_mul]
theorem take_flat_succ {α:Type} {pss:List (List α)} {i:Nat} {ps:List α} (h:pss[i]?=some ps):(pss.take (i+1)).flatten=(pss.take i).flatten ++ ps:=by
 obtain ⟨hi,e⟩:=List.getElem?_eq_some_iff.1 h;rw [List.take_succ_eq_append_getElem hi,List.flatten_append,e]
 simp
def CatA (w:World) (n m:Nat) (gk:Nat) (s3 s11:Value) (wx:World):Prop:=∃i:Nat,s3=.int .i64 ((i*m:Nat):Int)∧s11=.int .i64 (i:Int)∧i≤n∧gk=n-i∧wx=w
def CatB (w:World) (n:Nat) (pss:List (List (Value×Value))) (gk:Nat) (s6 s27:Value) (wx:World):Prop:=∃i:Nat,s27=.int .i64 (i:Int)∧i≤n∧gk=n-i∧OwnP w.heap.size wx s6 (pss.take i).flatten∧Below w.heap.size w wx
def zMJ (w:World) (ps:List (Value×Value)) (e:Ending) (w':World):Prop:=∃v,e=.returned v∧Prs w.heap.size w' v ps∧Below w.heap.size w w'
theorem grown_below {B:Nat} {w0 w w':World} {v:Value} {n:Nat} {xs:List Value} (hb:Below w0.heap.size w0 w) (h:w.ownsRow w0.heap.size 47 2 v n xs) (hg:w.grownBy w' v.ownBlock):Below w0.heap.size w0 w':=by
 refine hb.trans ⟨hg.os,hg.tape,hg.output,hg.size,fun b hb'=>hg.block b (Nat.lt_of_lt_of_le hb' hb.size) (fun e=>?_)⟩;have:=(World.ownsRow.lt h b e.symm).1;omega
theorem zqD {w:World} {B m:Nat} {v:Value} {pss:List (List (Value×Value))} (hv:Prr B w v pss) (hm:zmI m pss) (hl:pss.length*m≤1048576) (hm1:m≤1048576) :
  Calls Tryz.prog 54 #[v] w (zMJ w pss.flatten):=by
 have V0:=hid hv;have HM:=hid hm;obtain ⟨a0,c0,rfl,hc0,hn0,hf0⟩:=hv.form;have HT:=hid (fun i (hi:i≤pss.length)=>take_flat (fun ps hp=>(hm ps hp).1) i hi);have HFL:Hid (pss.flatten=(pss.take pss.length).flatten):=by unfold Hid;rw [List.take_length]
 obtain ⟨FT,hFT⟩:∃FT,pss.flatten=FT:=⟨_,rfl⟩
 rw [hFT] at HFL ⊢;obtain ⟨n,hn⟩:∃n,pss.length=n:=⟨_,rfl⟩
 rw [hn] at V0 hc0 hn0 hl HFL HT ⊢;have HN:=hid hn;have F0:=hid hf0;clear hv hm hf0 hn hFT;have H0:Hid (CatA w n m n (.int .i64 0) (.int .i64 0) w):=⟨0,by simp,rfl,Nat.zero_le _,by omega,rfl⟩
 go_enter Tryz.func54,Tryz.ntmps54;go_wp2_with fail
 go_loopg [3,11] n (fun gk s3 s11 wx=>CatA w n m gk s3 s11 wx)
 case atStart=>exact H0.out
 case round =>
  clear H0;obtain ⟨i,rfl,rfl,hin,hg,hwx⟩:=hrel;have hwx':=hwx.symm;subst hwx';clear hwx;have HG:=hid hg;clear hg;have him:i*m≤n*m:=Nat.mul_le_mul_right m hin
  by_cases hlt:i<n
  ·have hlt':(i:Int)<(n:Int):=by omega
   obtain ⟨b1,o1,rfl⟩:=F0.out (fun e=>by have:=HN.out;rw [e] at this;simp at this;omega);obtain ⟨u,k0,pu⟩:=V0.out.at (i:=i) (List.getElem?_eq_getElem (by rw [HN.out];exact hlt));obtain ⟨au,cu,hu,-,-,-,-⟩:=pu.form;rw [(HM.out _ (List.getElem_mem (l:=pss) (n:=i) (by rw [HN.out];exact hlt))).1] at hu;subst hu;have hw:=zbA (i:=i) (by omega);have e2:(i+1)*m=i*m+m:=by rw [Nat.add_mul,Nat.one_mul]
   have e3:(i+1)*m≤n*m:=Nat.mul_le_mul_right m hlt;have HN1:Hid (∀lo:Nat,lo=i*m→CatA w n m (n-(i+1)) (.int .i64 ((lo:Int)+(m:Int))) (.int .i64 ((i+1:Nat):Int)) w):=fun lo hlo=>⟨i+1,by rw [e2,hlo];congr 1,rfl,by omega,rfl,rfl⟩
   have HMM:Hid (n-(i+1)<gk):=by unfold Hid;rw [HG.out];omega
   obtain ⟨lo,hlo⟩:∃lo,i*m=lo:=⟨_,rfl⟩
   have HR:=hid (HN1.out lo hlo.symm);have hs:IntKind.i64.wrap ((lo:Int)+(m:Int))=(lo:Int)+(m:Int):=by rw [zTA] <;> omega
   have hs':¬((lo:Int)+(m:Int)<0):=by omega
   rw [hlo];clear HN1 pu HG e2 e3 hlo him;go_wp2_with fail;go_roundg (n-(i+1))
   case rel=>exact HR.out
   case measure=>exact HMM.out
  ·have hlt':¬(i:Int)<(n:Int):=by omega
   obtain rfl:i=n:=by omega
   have HS:=hid (grow_any (w:=w) (N:=i*m) hl);have HNN:=hid hl;clear him hl;obtain ⟨N,hNN⟩:∃N,i*m=N:=⟨_,rfl⟩
   rw [hNN] at HS ⊢;clear HG hNN;go_wp2_with fail;refine HS.out.mono ?_;rintro e w1 ⟨v,rfl,ho,b⟩;have H1:Hid (CatB w i pss i v (.int .i64 0) w1):=⟨0,rfl,Nat.zero_le _,by omega,by simpa [OwnP,flat] using ho,b⟩
   clear HS ho b;go_wp2_with fail
   go_loopg [6,27] i (fun gk s6 s27 wx=>CatB w i pss gk s6 s27 wx)
   case atStart=>exact H1.out
   case round =>
    clear H1;obtain ⟨j,rfl,hjn,hg,ho,hG⟩:=hrel;have OW:=hid ho;have G:=hid hG;have HG:=hid hg;clear ho hG hg
    by_cases hlt2:j<i
    ·have hlt2':(j:Int)<(i:Int):=by omega
     obtain ⟨b1,o1,rfl⟩:=F0.out (fun e=>by have:=HN.out;rw [e] at this;simp at this;omega);obtain ⟨u,k0,pu⟩:=(V0.out.now G.out).at (i:=j) (List.getElem?_eq_getElem (by rw [HN.out];exact hlt2));have hpj:pss[j]?=some (pss[j]'(by rw [HN.out];exact hlt2)):=List.getElem?_eq_getElem (by rw [HN.out];exact hlt2);have HM1:=hid (HM.out _ (List.getElem_mem (l:=pss) (n:=j) (by rw [HN.out];exact hlt2)));have HTS:=hid (take_flat_succ hpj);obtain ⟨ps,hps⟩:∃ps,pss[j]'(by rw [HN.out];exact hlt2)=ps:=⟨_,rfl⟩
     rw [hps] at pu HM1 HTS;have HLN:Hid ((pss.take j).flatten.length+ps.length≤1048576):=by
      unfold Hid;have:=HT.out (j+1) (by omega);rw [HTS.out,List.length_append] at this;have h2:(j+1)*m≤i*m:=Nat.mul_le_mul_right m hlt2;have h3:=HNN.out;omega
     have PU:=hid pu;obtain ⟨au,cu,rfl,-,-,-,-⟩:=pu.form;have hw:=zbA (i:=j) (by omega);clear hpj hps pu;go_wp2_with (at_builtin;refine wpList_append_pairs _ rfl (.tmp 31) (.tmp 32) rfl w.heap.size _ _ (pss.take j).flatten ps rfl OW.out rfl B PU.out HM1.out.2 HLN.out G.out.size ?_)
     intro v2 w2 ho2 hg2;have HN1:Hid (CatB w i pss (i-(j+1)) v2 (.int .i64 ((j+1:Nat):Int)) w2):=⟨j+1,rfl,by omega,rfl,by rw [HTS.out];exact ho2,grown_below (B:=0) G.out OW.out hg2.out⟩
     have HMM:Hid (i-(j+1)<gk):=by unfold Hid;rw [HG.out];omega
     clear OW G HG ho2 hg2 HTS HLN PU HM1 k0;go_wp2_with fail;go_roundg (i-(j+1))
     case rel=>exact HN1.out
     case measure=>exact HMM.out
    ·have hlt2':¬(j:Int)<(i:Int):=by omega
     obtain rfl:j=i:=by omega
     rw [←HFL.out] at OW;have FIN:Hid (∀v6,OwnP w.heap.size wr v6 FT→zMJ w FT (.returned v6) wr):=fun v6 h=>⟨v6,rfl,zKH h (by have h1:=HT.out j (Nat.le_refl _);rw [←HFL.out] at h1;have:=HNN.out;omega),G.out⟩
     have FIN2:=hid (FIN.out _ OW.out);clear FIN OW G HG;go_wp2;go_ret;exact FIN2.out
theorem zJG {f:Func} {s:Nat} (hr:f.results=#[ResultVar.cell s 24]) {W:World} {b:Nat} {x0 x1 x2:Value} (h:Cel W b 24 [x0,x1,x2]) (tmps:Array Value) (ht:tmps[s]?=some (.pointer (some ⟨b,0,none⟩))) :
  (results f tmps).run Tryz.prog W=.ok (.agg #[x0,x1,x2]) W:=by
 simp [results,hr,go_sem,ht,h.at (i:=0) rfl,h.at (i:=1) rfl,h.at (i:=2) rfl]
theorem zWC {f:Func} {s1 s3:Nat} (hr:f.results=#[ResultVar.cell s1 24,ResultVar.tmp s3]) {W:World} {b:Nat} {x0 x1 x2 e:Value} (h:Cel W b 24 [x0,x1,x2]) (tmps:Array Value) (ht:tmps[s1]?=some (.pointer (some ⟨b,0,none⟩))) (he:tmps[s3]?=some e) :
  (results f tmps).run Tryz.prog W=.ok (.tuple #[.agg #[x0,x1,x2],e]) W:=by
 simp [results,hr,go_sem,ht,he,h.at (i:=0) rfl,h.at (i:=1) rfl,h.at (i:=2) rfl]
abbrev put3 (w:World) (b:Nat) (y0 y1 y2:Value):World:=((w.setCell ⟨b,0,none⟩ y0).setCell ⟨b,1,none⟩ y1).setCell ⟨b,2,none⟩ y2
theorem Cel.put3 {w:World} {b:Nat} {T:TypeId} {x0 x1 x2:Value} (h:Cel w b T [x0,x1,x2]) (y0 y1 y2:Value):Cel (put3 w b y0 y1 y2) b T [y0,y1,y2]:=((h.set 0 y0).set 1 y1).set 2 y2
theorem zVA {B b:Nat} {w0 w:World} (h:Below B w0 w) (hb:B≤b) (y0 y1 y2:Value):Below B w0 (Go.Proofs.YtjjpodnjljfheaaGreat.put3 w b y0 y1 y2):=bset (bset (bset h hb) hb) hb
theorem Prs.put3 {B b:Nat} {w:World} {v:Value} {ps:List (Value×Value)} (h:Prs B w v ps) (hb:b<B) (y0 y1 y2:Value):Prs B (Go.Proofs.YtjjpodnjljfheaaGreat.put3 w b y0 y1 y2) v ps:=((h.off hb).off hb).off hb
def NoWs (L:List Value):Prop:=∀u∈L,NoW u
theorem noWs_mat (r c:Int) (a:Option Addr) (l n:Nat):NoWs [.int .i64 r,.int .i64 c,.slice a l n]:=by
 intro u hu x e;simp at hu;rcases hu with rfl | rfl | rfl <;> simp at e
theorem Cel.wk3 {w:World} {b:Nat} {T:TypeId} {r c:Int} {a:Option Addr} {l n:Nat} (h:Cel w b T [.int .i64 r,.int .i64 c,.slice a l n]) (y0 y1 y2:Value):Wk w (Go.Proofs.YtjjpodnjljfheaaGreat.put3 w b y0 y1 y2):=by
 have q:=noWs_mat r c a l n;exact ((h.wk (i:=0) rfl (q _ (by simp)) y0).trans ((h.set 0 y0).wk (i:=1) rfl (q _ (by simp)) y1)).trans (((h.set 0 y0).set 1 y1).wk (i:=2) rfl (q _ (by simp)) y2)
abbrev mbox:Obj:=.cells #[.int .i64 0,.int .i64 0,.slice none 0 0] 24
def zZI (w:World) (r c:Nat) (ps:List (Value×Value)) (e:Ending) (w':World):Prop:=∃at_,e=.returned (matv r c at_)∧Prs w.heap.size w' at_ ps∧Below w.heap.size w w'
theorem zZB {w W0:World} (hW:w.alloc mbox=W0):Cel W0 w.heap.size 24 [.int .i64 0,.int .i64 0,.slice none 0 0]:=by rw [←hW];exact Cel.new w _ _
theorem ofRows_any {w:World} {B m C R:Nat} {v:Value} {pss:List (List (Value×Value))} (hv:Prr B w v pss) (hm:zmI m pss) (hl:pss.length*m≤1048576) (hm1:m≤1048576) (hR:pss.length=R) :
  Calls Tryz.prog 79 #[v,.int .i64 (C:Int)] w (zZI w R C pss.flatten):=by
 obtain ⟨W0,hW⟩:∃W0,w.alloc mbox=W0:=⟨_,rfl⟩
 obtain ⟨b0,sz0⟩:=alo1 w mbox;rw [hW] at b0 sz0;have P4:=hid (zZB hW);have HC:=hid (zqD (hv.now b0) hm hl hm1);obtain ⟨a0,c0,rfl,hc0,hn0,hf0⟩:=hv.form;rw [hR] at HC hc0 hn0 ⊢;generalize pss.flatten=FT at *;have G0:=hid b0;have EW:=hid hW;have SZ:=hid sz0;clear b0 hW sz0 hv hm hf0 hR hl;go_enter Tryz.func79,Tryz.ntmps79;go_wp2_with fail;rw [EW.out];refine HC.out.mono ?_;rintro e w1 ⟨u,rfl,p1,b⟩;obtain ⟨au,cu,rfl,-,-,-,-⟩:=p1.form;have P41:=hid (P4.out.step b);have G1:=hid (below_step G0.out b);have HP:=hid p1;have r0:=P41.out.at (i:=0) rfl;have r1:=P41.out.at (i:=1) rfl;have r2:=P41.out.at (i:=2) rfl;have f0:=P41.out.fz 0;have f1:=P41.out.fz 1;have f2:=P41.out.fz 2;have HB:Hid (w.heap.size<W0.heap.size):=by unfold Hid;rw [SZ.out];omega
 have FIN:Hid (zZI w R C FT (.returned (.agg #[.int .i64 (R:Int),.int .i64 (C:Int),.slice au FT.length cu])) (put3 w1 w.heap.size (.int .i64 (R:Int)) (.int .i64 (C:Int)) (.slice au FT.length cu))):=⟨_,rfl,(HP.out.put3 HB.out _ _ _).mono (Nat.le_of_lt HB.out),zVA G1.out (Nat.le_refl _) _ _ _⟩
 have PF:=hid (P41.out.put3 (.int .i64 (R:Int)) (.int .i64 (C:Int)) (.slice au FT.length cu));clear HC P4 G0 EW p1 b SZ HP G1 P41;go_wp2;exact bodyPost_ret (zJG Tryz.results79 PF.out _ (by rfl)) rfl FIN.out
def zfH (w:World) (g n:Nat) (F:Nat→Int) (k gk:Nat) (s:Value) (wx:World):Prop :=
 ∃i:Nat,s=.int .i64 (i:Int)∧i≤n∧gk=n-i∧Fil wx g n i F k∧Below w.heap.size w wx
def zeI (w:World) (zs:List Int) (k:Nat) (e:Ending) (w':World):Prop:=∃u ps,e=.returned u∧Prs w.heap.size w' u ps∧Zcs w' ps zs k∧Below w.heap.size w w'
def Ziss (w:World) (pss:List (List (Value×Value))) (zss:List (List Int)) (k:Nat):Prop:=pss.length=zss.length∧∀(j:Nat) (ps:List (Value×Value)),pss[j]?=some ps→Zis w ps (zss.getD j []) k
theorem step_append_pair (w:World) {ops:Array Oper} {o:Oper} {a:Act} {K:Act→World→Prop} {Q:Exit→Act→World→Prop} {E:Prop}
  (hgd:o.guard=none) (s x:Operand) (hop:o.op=.call { callee:=.builtin .append,args:=#[s,x],argTypes:=#[22,22] })
  (B:Nat) (v:Value) (ps:List (Value×Value)) (hs:a.eval s=v) (hB:OwnP B w v ps) (g:Nat) (x0 x1:Value) (hx:a.eval x=.slice (some ⟨g,0,none⟩) 1 1) (hc0:w.cell? ⟨g,0,none⟩=some x0) (hc1:w.cell? ⟨g,1,none⟩=some x1) (hi:IsI (x0,x1)) (hlen:ps.length≤1048576) (hBs:B≤w.heap.size)
  (hK:∀g' l' cap' w',l'=ps.length+1→Hid (OwnP B w' (.slice (some ⟨g',0,none⟩) l' cap') (ps ++ [(x0,x1)]))→Hid (w.grownBy w' v.ownBlock)→Hid (v.ownBlock=some g'∨g'=w.heap.size)→K (a.put o.dst (.slice (some ⟨g',0,none⟩) l' cap')) w') :
  if Region.wanted o (yielded ops a.tmps)=true then Oper.wp Tryz.prog o a w K Q else E:=by
 obtain ⟨i,hii,hz,hsz,hby⟩:=info_parts Tryz.infoZ9;have ea:∀j,(⟨g,0,none⟩:Addr).add j=⟨g,j,none⟩:=fun j=>by unfold Addr.add;split <;> simp_all
 refine step_append_lies w hgd s x 22 hop B 47 i (.agg #[.bool false,.slice none 0 0]) 2 32 Tryz.underlying22 hii hz hsz hby rfl (by omega) v ps.length (flat ps) hs hB ⟨g,0,none⟩ 1 1 [x0,x1] hx rfl ?_ ?_ (by omega) (by unfold maxLen;omega) (by omega) hBs w.heap.size rfl ?_
 ·intro j u' hj
  match j,hj with
  | 0,hj=>simp at hj;subst hj;rw [ea];exact hc0
  | 1,hj=>simp at hj;subst hj;rw [ea];exact hc1
 ·obtain ⟨n,b,l,c,e⟩:=hi
  simp only [Prod.mk.injEq] at e;obtain ⟨rfl,rfl⟩:=e;intro u' hu';simp at hu';rcases hu' with rfl | rfl <;> rfl
 ·intro g' cap' w' k1 k2 k3 k4
  refine hK g' _ cap' w' rfl ?_ k2 k3;unfold Hid OwnP;rw [zMC,List.length_append];exact k1
def clen (i j jj:Nat):Nat:=if jj<j then i+1 else i
def colL {α:Type} (c:Nat) (ps:List α) (z:α) (n j:Nat):List α:=(List.range n).map fun t=>ps.getD (t*c+j) z
structure Kp (N g:Nat) (w wx:World):Prop where
 os:wx.os=w.os
 tape:wx.tape=w.tape
 output:wx.output=w.output
 size:w.heap.size≤wx.heap.size
 block:∀b,b<N→b≠g→wx.heap[b]?=w.heap[b]?
theorem Kp.refl (N g:Nat) (w:World):Kp N g w w:=⟨rfl,rfl,rfl,Nat.le_refl _,fun _ _ _=>rfl⟩
theorem Kp.step {g:Nat} {w wx wy:World} (h:Kp w.heap.size g w wx) (hb:Below wx.heap.size wx wy):Kp w.heap.size g w wy :=
 ⟨hb.os.trans h.os,hb.tape.trans h.tape,hb.output.trans h.output,Nat.le_trans h.size hb.size,fun b hlt hne=>(hb.block b (Nat.lt_of_lt_of_le hlt h.size)).trans (h.block b hlt hne)⟩
theorem Kp.below {g:Nat} {w0 w wx:World} (h:Kp w.heap.size g w wx) (hb:Below w0.heap.size w0 w) (hg:w0.heap.size≤g):Below w0.heap.size w0 wx :=
 ⟨h.os.trans hb.os,h.tape.trans hb.tape,h.output.trans hb.output,Nat.le_trans hb.size h.size,fun b hlt=>(h.block b (Nat.lt_of_lt_of_le hlt hb.size) (by omega)).trans (hb.block b hlt)⟩
theorem Kp.cell {g b i:Nat} {w wx:World} {v:Value} (h:Kp w.heap.size g w wx) (hb:b≠g) (hc:w.cell? ⟨b,i,none⟩=some v):wx.cell? ⟨b,i,none⟩=some v :=
 (World.cell?_of_block (h.block b (World.block_lt_of_cell? w _ hc) hb)).trans hc
structure ztC (w wx:World) (g c i j:Nat) (ps:List (Value×Value)) (vs:List Value):Prop where
 row:ztF wx g vs
 len:vs.length=c
 own:∀(jj:Nat) (u:Value),vs[jj]?=some u→OwnP w.heap.size wx u (colL c ps zGB (clen i j jj) jj)
 apart:∀(jj kk:Nat) (u u':Value) (b:Nat),vs[jj]?=some u→vs[kk]?=some u'→jj≠kk→u.ownBlock=some b→u'.ownBlock≠some b
 off:∀(jj:Nat) (u:Value),vs[jj]?=some u→u.ownBlock≠some g
 kp:Kp w.heap.size g w wx
theorem OwnP.keep {B:Nat} {w w':World} {v:Value} {ps:List (Value×Value)} (h:OwnP B w v ps) (hk:∀b,v.ownBlock=some b→b<w.heap.size→w'.heap[b]?=w.heap[b]?):OwnP B w' v ps:=zfE h hk
theorem ztC.step {w wx wy:World} {g c i j:Nat} {ps:List (Value×Value)} {vs:List Value} (h:ztC w wx g c i j ps vs) (hb:Below wx.heap.size wx wy):ztC w wy g c i j ps vs :=
 ⟨h.row.step hb,h.len,fun jj u hu=>(h.own jj u hu).keep (fun b _ hlt=>hb.block b hlt),h.apart,h.off,h.kp.step hb⟩
theorem colL_succ {α:Type} {c:Nat} {ps:List α} {z:α} {n j:Nat}:colL c ps z (n+1) j=colL c ps z n j ++ [ps.getD (n*c+j) z]:=by simp [colL,List.range_succ]
theorem zoB {α:Type} {c:Nat} {ps:List α} {z:α} {n j:Nat}:(colL c ps z n j).length=n:=by simp [colL]
theorem ztC.next {w wx wy:World} {g c i j l' g' cap':Nat} {ps:List (Value×Value)} {vs:List Value} {u:Value} (h:ztC w wx g c i j ps vs) (hj:j<c) (hu:vs[j]?=some u)
  (ho:OwnP w.heap.size wy (.slice (some ⟨g',0,none⟩) l' cap') (colL c ps zGB i j ++ [ps.getD (i*c+j) zGB])) (hg:wx.grownBy wy u.ownBlock) (hw:u.ownBlock=some g'∨g'=wx.heap.size) :
  ztC w (wy.setCell ⟨g,j,none⟩ (.slice (some ⟨g',0,none⟩) l' cap')) g c i (j+1) ps (vs.set j (.slice (some ⟨g',0,none⟩) l' cap')):=by
 have hgb:g<wx.heap.size:=h.row.blk;have hgg:g'≠g:=by
  rcases hw with q | q
  ·intro e
   subst e;exact h.off j u hu q
  ·omega
 have hset:∀b,b≠g→(wy.setCell ⟨g,j,none⟩ (.slice (some ⟨g',0,none⟩) l' cap')).heap[b]?=wy.heap[b]?:=fun b hb=>Below.heap_setCell wy _ _ b (fun e=>hb (by simpa using e))
 have hrow:ztF wy g vs:=(hg.block g hgb (fun e=>h.off j u hu e.symm)).trans h.row;refine ⟨hrow.set j _,by simpa using h.len,fun jj x hx=>?_,fun jj kk x y b hx hy hne hb=>?_,fun jj x hx=>?_,?_⟩
 ·by_cases q:jj=j
  ·subst q
   rw [List.getElem?_set_self (by rw [h.len];exact hj),Option.some.injEq] at hx;subst hx;rw [show clen i (jj+1) jj=i+1 by simp [clen],colL_succ];exact ho.keep (fun b hb _=>hset b (fun e=>hgg (by simp [Value.ownBlock] at hb;omega)))
  ·rw [List.getElem?_set_ne (by omega)] at hx
   have e:clen i (j+1) jj=clen i j jj:=by unfold clen;split <;> split <;> omega
   rw [e];refine (h.own jj x hx).keep (fun b hb hlt=>?_);rw [hset b (fun e=>h.off jj x hx (by rw [hb,e]))];exact hg.block b hlt (fun e=>h.apart jj j x u b hx hu q hb e.symm)
 ·have blt:∀ {n:Nat} {z:Value},vs[n]?=some z→z.ownBlock=some b→b<wx.heap.size:=fun hz hb=>(World.ownsRow.lt (h.own _ _ hz) b hb).2
  by_cases q:jj=j
  ·subst q
   rw [List.getElem?_set_self (by rw [h.len];exact hj),Option.some.injEq] at hx;rw [List.getElem?_set_ne (by omega)] at hy;subst hx;simp only [Value.ownBlock,Option.some.injEq] at hb;subst hb;intro e;rcases hw with q | q
   ·exact h.apart jj kk u y g' hu hy hne q e
   ·have:=blt hy e
    omega
  ·rw [List.getElem?_set_ne (by omega)] at hx
   by_cases q2:kk=j
   ·subst q2
    rw [List.getElem?_set_self (by rw [h.len];exact hj),Option.some.injEq] at hy;subst hy;simp only [Value.ownBlock,ne_eq,Option.some.injEq];intro e;subst e;rcases hw with q3 | q3
    ·exact h.apart jj kk x u g' hx hu q hb q3
    ·have:=blt hx hb
     omega
   ·rw [List.getElem?_set_ne (by omega)] at hy
    exact h.apart jj kk x y b hx hy hne hb
 ·by_cases q:jj=j
  ·subst q
   rw [List.getElem?_set_self (by rw [h.len];exact hj),Option.some.injEq] at hx;subst hx;simp only [Value.ownBlock,ne_eq,Option.some.injEq];exact hgg
  ·rw [List.getElem?_set_ne (by omega)] at hx
   exact h.off jj x hx
 ·have e:∀_:Nat,(wy.setCell ⟨g,j,none⟩ (.slice (some ⟨g',0,none⟩) l' cap')).heap.size=wy.heap.size:=fun _=>by simp
  refine ⟨hg.os.trans h.kp.os,hg.tape.trans h.kp.tape,hg.output.trans h.kp.output,by rw [e 0];exact Nat.le_trans h.kp.size hg.size,fun b hlt hne=>?_⟩;rw [hset b hne,hg.block b (Nat.lt_of_lt_of_le hlt h.kp.size) (fun e=>?_)]
  ·exact h.kp.block b hlt hne
  ·have:=(World.ownsRow.lt (h.own j u hu) b e.symm).1
   omega
theorem ztC.row_end {w wx:World} {g c i:Nat} {ps:List (Value×Value)} {vs:List Value} (h:ztC w wx g c i c ps vs):ztC w wx g c (i+1) 0 ps vs:=by
 refine ⟨h.row,h.len,fun jj u hu=>?_,h.apart,h.off,h.kp⟩;have hj:jj<c:=by rw [←h.len];exact (List.getElem?_eq_some_iff.1 hu).1
 have e:clen (i+1) 0 jj=clen i c jj:=by simp [clen,hj]
 rw [e];exact h.own jj u hu
theorem ztC.start {w wx:World} {g c:Nat} (ps:List (Value×Value)) (h:ztF wx g (List.replicate c (.slice none 0 0))) (hb:Kp w.heap.size g w wx):ztC w wx g c 0 0 ps (List.replicate c (.slice none 0 0)):=by
 have key:∀(jj:Nat) (u:Value),(List.replicate c (Value.slice none 0 0))[jj]?=some u→u=.slice none 0 0:=fun jj u hu=>List.eq_of_mem_replicate (List.mem_of_getElem? hu)
 refine ⟨h,by simp,fun jj u hu=>?_,fun jj kk u u' b hu _ _ hb=>?_,fun jj u hu=>?_,hb⟩
 ·rw [key jj u hu]
  simpa [clen,colL,OwnP,flat] using World.ownsRow_nil wx w.heap.size 47 2
 ·rw [key jj u hu] at hb;cases hb
 ·rw [key jj u hu];simp [Value.ownBlock]
def colsL {α:Type} (r c:Nat) (ps:List α) (z:α):List (List α):=(List.range c).map (colL c ps z r)
theorem ztC.done {w wx:World} {g c r:Nat} {ps:List (Value×Value)} {vs:List Value} (h:ztC w wx g c r 0 ps vs) (hc:c≤64) (hr:r≤64):Prr w.heap.size wx (.slice (some ⟨g,0,none⟩) c c) (colsL r c ps zGB):=by
 refine ⟨some ⟨g,0,none⟩,c,by simp [colsL],by simp [colsL],by simp [colsL];omega,.inr ⟨g,0,rfl,h.row.blk,fun j qs hq=>?_⟩⟩;have hj:j<c:=by simpa [colsL] using (List.getElem?_eq_some_iff.1 hq).1
 have hv:vs[j]?=some (vs[j]'(by rw [h.len];exact hj)):=List.getElem?_eq_getElem (by rw [h.len];exact hj);refine ⟨_,by rw [Nat.zero_add];exact h.row.at hv,?_⟩;have e:qs=colL c ps zGB r j:=by
  simp [colsL,hj] at hq;exact hq.symm
 rw [e];have:=h.own j _ hv;rw [show clen r 0 j=r by simp [clen]] at this;exact zKH this (by rw [zoB];omega)
end Go.Proofs.YtjjpodnjljfheaaGreat
