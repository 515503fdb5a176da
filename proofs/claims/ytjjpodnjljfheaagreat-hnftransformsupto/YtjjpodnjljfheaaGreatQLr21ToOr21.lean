/-
 QLr21ToOr21: Lr21, Se21, Or21, joined.
-/
import Derived.Test.YtjjpodnjljfheaaGreatQRe21
import Derived.Test.YtjjpodnjljfheaaGreatQIp18ToOr18
import Derived.Test.YtjjpodnjljfheaaGreatQLe21

set_option maxRecDepth 100000
set_option maxHeartbeats 6400000
set_option linter.unusedVariables false
set_option linter.unusedSimpArgs false
namespace Go.Proofs.YtjjpodnjljfheaaGreat
open Go.RowKit Go.Shelf
attribute [local go_sem] Oper.semAt_some
def zcI (R:zKA) (B:Nat) (w:World) (bs:Nat) (sv:Value) (m n r:Nat) (ρ γ:Nat→Nat) (A:Nat→Nat→Int) (kw K T bp:Nat) (s:Nat) (W:World):Prop :=
 ∃X b,zOA R B W bs sv m n r ρ γ X kw∧Lw18 m n K r ρ γ X A T (r-s) b∧(r-s<r→r≤b)∧b≤r+1∧s≤r∧Cel W bp 88 [.pointer (some ⟨bs,0,none⟩)]∧Touch R.S w W
theorem zcI.own {R:zKA} {B bs m n r kw K T bp N:Nat} {sv:Value} {ρ γ:Nat→Nat} {A:Nat→Nat→Int} {w:World} (hN:w.heap.size≤N):OwnFrom N (zcI R B w bs sv m n r ρ γ A kw K T bp):=fun s W W' row hs hg hr=>by
 obtain ⟨X,b,h1,h2,h3,h4,h5,h6,h7⟩:=hs;have hk:=zXD hg (fun r e=>(hr r e).2);exact ⟨X,b,h1.kc21 hk,h2,h3,h4,h5,hk.cel h6,h7.grown18 hg fun k e=>Nat.le_trans hN (hr k e).1⟩
def zrI (R:zKA) (B:Nat) (W:World) (bs:Nat) (sv:Value) (m n r:Nat) (ρ γ:Nat→Nat) (A:Nat→Nat→Int) (kw K T bp bq a:Nat) (s:Value) (wr:World):Prop :=
 ∃(t:Nat) (X:Nat→Nat→Int),s=.int .i64 (t:Int)∧t≤r-(a+1)∧zOA R B wr bs sv m n r ρ γ X kw∧Lw18 m n K r ρ γ X A T a (a+1+t)∧Cel wr bp 88 [.pointer (some ⟨bs,0,none⟩)]∧Cel wr bq 105 [.int .i64 (ρ a:Int),.int .i64 (γ a:Int)]∧Touch R.S W wr
def zrJ (R:zKA) (B:Nat) (w:World) (bs:Nat) (sv:Value) (m n r:Nat) (ρ γ:Nat→Nat) (A:Nat→Nat→Int) (kw K T:Nat) (e:Ending) (w':World):Prop :=
 ∃X,e=.returned (.tuple #[])∧zOA R B w' bs sv m n r ρ γ X kw∧Hb18 m n K r ρ γ X A∧Touch R.S w w'
theorem zFI {R:zKA} {B bs m n r kw K T:Nat} {w:World} {sv:Value} {ρ γ:Nat→Nat} {X A:Nat→Nat→Int} (h:zOA R B w bs sv m n r ρ γ X kw) (hL:Lo18 n K r ρ γ X A T) (hTb:Tb18 m n A T) (hKm:K≤m) (hm:m≤64) (hn:n≤128) (hT:((bd18 T 128:Nat):Int)<pw kw) (hk1:1≤kw) (hK:kw≤68719476736) :
  Calls Tryz.prog 77 #[.pointer (some ⟨bs,0,none⟩)] w (zrJ R B w bs sv m n r ρ γ A kw K T):=by
 refine (callsIn_wide (n:=5)).1 ?_;have hr64:r≤64:=by have:=hL.ec.rows21;omega
 obtain ⟨sa,sc,rfl⟩:=h.sform;obtain ⟨W0,hW⟩:∃W0,w.alloc (.cells #[.pointer (some ⟨bs,0,none⟩)] 88)=W0:=⟨_,rfl⟩
 obtain ⟨b0,sz0⟩:=alo1 w (.cells #[.pointer (some ⟨bs,0,none⟩)] 88);rw [hW] at b0 sz0;have PB:Hid (Cel W0 w.heap.size 88 [.pointer (some ⟨bs,0,none⟩)]):=by unfold Hid;rw [←hW];exact Cel.new w _ _
 obtain ⟨W1,hW1⟩:∃W1,W0.alloc (.cells #[.slice sa r sc] 64)=W1:=⟨_,rfl⟩
 obtain ⟨b1,sz1⟩:=alo1 W0 (.cells #[.slice sa r sc] 64);rw [hW1] at b1 sz1;have PC:Hid (Cel W1 (w.heap.size+1) 64 [.slice sa r sc]):=by
  unfold Hid;rw [←hW1];have:=Cel.new W0 64 [.slice sa r sc];rw [sz0] at this;exact this
 have WK:=hid (h.now (below_step b0 b1));replace PB:=hid (PB.out.step b1);have HLO:=hid hL;have x2:=(h.now b0).s2;have pb0:=(show Cel W0 w.heap.size 88 [.pointer (some ⟨bs,0,none⟩)] by rw [←hW];exact Cel.new w _ _).at (i:=0) rfl;rw [←hW] at x2 pb0;have HBN:=hid (back18_new 4 sa r sc W0);have GG:=hid (below_step b0 b1);have EW:=hid hW;have EW1:=hid hW1;have SZ0:=hid sz0;have SZ1:=hid sz1;have HT:=hid hT;have HTB:=hid hTb;have HKM:=hid hKm;have Hk1:=hid hk1;have HK:=hid hK;have HGL:Hid (∀b,R.S b→b<w.heap.size):=fun b hb=>by obtain ⟨L,hL⟩:=h.cel hb;exact hL.blk
 have HROW:Hid (∀W Y,zOA R B W bs (.slice sa r sc) m n r ρ γ Y kw→∀b (o:Obj),W.heap[b]?=some o→o.isCells=false→¬R.S b):=by
  intro W Y hwk b o e ho q;obtain ⟨L,p1⟩:=hwk.cel q;have a2:=show W.heap[b]?=_ from p1;rw [a2,Option.some.injEq] at e;subst e;cases ho
 clear h hL hTb hKm hT hk1 hK b0 sz0 hW b1 sz1 hW1;refine callsIn_of_wp_marks Tryz.func77 rfl trivial ?_ rfl;simp only [Tryz.ntmps77,List.size_toArray,List.length_cons,List.length_nil,Nat.reduceAdd,Nat.reduceSub,Array.replicate_succ,Array.replicate_zero,List.push_toArray,List.append_toArray,List.nil_append,List.cons_append];gi_wp2_with fail;rw [EW.out];clear EW;refine ⟨trivial,HBN.out.mono ?_⟩;rintro e w1 ⟨rfl,rfl⟩;rw [EW1.out,SZ0.out];clear EW1 HBN x2 pb0;gi_wp2_with fail;have hsz0:=SZ0.out;have hsz1:=SZ1.out;refine rangeB18 (σ:=Nat) (α:=Nat) (by decide) rfl (enters_of Tryz.func119 (by kernel_rfl) rfl) (zNI ρ γ) (fun _=>rfl)
  (zcI R B w bs (.slice sa r sc) m n r ρ γ A kw K T w.heap.size) (zcI.own (by omega)) (fun s x W=>x=r-1-s∧s<r) (fun s x _ W W' row hs _ _=>hs) (fun s x=>s+1)
  (fun s=>KpL R.S W1.heap.size) (fun h h'=>h.trans h') (fun s W l o o' _ h1 h2=>KpL.put h1 h2) (fun s=>s=0) (fun s=>s=r) ?ini ?it (fun s W o=>⟨by simp,fun b o' _ _ e _=>(Below.heap_alloc _ _ _ (Array.getElem?_eq_some_iff.1 e).1).trans e⟩) (fun x=>.cells #[.int .i64 (ρ x:Int),.int .i64 (γ x:Int)] 105) (fun x bq=>{ tmps:=#[.pointer (some ⟨bs,0,none⟩),.pointer (some ⟨w.heap.size,0,none⟩),.int .i64 (x:Int),.pointer (some ⟨bq,0,none⟩),undef,undef,.pointer (some ⟨bs,0,none⟩),.pointer (some ⟨bs,0,none⟩),.pointer (some ⟨bs,2,none⟩),.slice sa r sc,.func (.func 119) #[] #[.pointer (some ⟨w.heap.size+1,0,none⟩)],.int .i64 (x:Int),.agg #[.int .i64 (ρ x:Int),.int .i64 (γ x:Int)],undef,undef,undef,undef,undef,undef,undef,undef,undef,undef,undef,undef,undef,undef,undef,undef,undef,undef],defers:=[] }) ?assign ?body ?done
 case ini =>
  rintro s rfl;exact ⟨X,r+1,WK.out,by have:=HLO.out.start (m:=m);simpa using this,fun q=>by omega,Nat.le_refl _,Nat.zero_le _,PB.out,Touch.ofBelow GG.out⟩
 case it =>
  intro l J' W hW hJ hJb hJ0 hY;have wk:=WK.out.now hW;refine (back18_in (S:=R.S) (B:=W1.heap.size) (ρ:=ρ) (γ:=γ) (by decide) J' ((PC.out.step hW).at (i:=0) rfl) (by omega) (fun q=>by have:=HGL.out _ q;omega) hr64 ?_ (hJ0 0 rfl) (fun s X h1 h2=>hY s _ X h1 ⟨rfl,h2⟩)).mono fun e Y h=>⟨h.1,r,rfl,h.2⟩
  rcases wk.sp with ⟨e,h⟩ | ⟨h0,Bp,cap,t,e,e0,e1,e2,e3,e4⟩
  ·exact .inl ⟨e,h⟩
  ·refine .inr ⟨Bp,cap,e,e0,?_,fun q=>?_,fun i hi=>⟨e4.at (zcC hi t).1,e4.at (zcC hi t).2⟩⟩
   ·rcases WK.out.sp with ⟨e',_⟩ | ⟨_,Bp',cap',t',e',_,_,_,_,e4'⟩
    ·omega
    ·rw [e'] at e
     simp only [Value.slice.injEq,Option.some.injEq,Addr.mk.injEq,and_true,true_and] at e;obtain ⟨rfl,-⟩:=e;exact e4'.blk
   ·obtain ⟨L,p1⟩:=wk.cel q
    have a1:=show W.heap[Bp]?=_ from e4;have a2:=show W.heap[Bp]?=_ from p1;have:=a1.symm.trans a2;simp at this
 case assign =>
  intro l x W K hK;have HKK:=hid hK;clear hK;gi_wp2;exact HKK.out
 case body =>
  rintro l s x bq W ⟨X,b,t1,t2,t3,t3b,t4,t5,t6⟩ ⟨hx,hs⟩ hob hbq;subst hx;obtain ⟨a,ha⟩:∃a,r-1-s=a:=⟨_,rfl⟩
  have har:a<r:=by omega
  rw [ha] at hob ⊢;have hlw:Lw18 m n K r ρ γ X A T a (a+1):=by
   rw [show r-s=a+1 by omega] at t2 t3;exact t2.next t3 har HTB.out HKM.out
  have H0:Hid (zrI R B W bs (.slice sa r sc) m n r ρ γ A kw K T w.heap.size bq a (.int .i64 ((0:Nat):Int)) W):=⟨0,X,rfl,Nat.zero_le _,t1,hlw,t5,hob,Touch.refl _ _⟩
  have FIN:Hid (∀Y,zrI R B W bs (.slice sa r sc) m n r ρ γ A kw K T w.heap.size bq a (.int .i64 ((r-(a+1):Nat):Int)) Y→KeepsFrom W1.heap.size W Y∧zcI R B w bs (.slice sa r sc) m n r ρ γ A kw K T w.heap.size (s+1) Y∧KpL R.S W1.heap.size W Y):=by
   rintro Y ⟨t,X',q1,q2,q3,q4,q5,-,q6⟩;have ht:t=r-(a+1):=by simp at q1;omega
   subst ht;refine ⟨⟨q6.size,fun j o hj e ho=>(q6.block j (Array.getElem?_eq_some_iff.1 e).1 (HROW.out W X t1 j o e ho)).trans e⟩,⟨X',r,q3,by rw [show a+1+(r-(a+1))=r by omega] at q4;rw [show r-(s+1)=a by omega];exact q4,fun _=>Nat.le_refl _,by omega,by omega,q5,t6.trans q6⟩,⟨q6.size,fun b o _ hb e _=>(q6.block b (Array.getElem?_eq_some_iff.1 e).1 hb).trans e⟩⟩
  have hwa:IntKind.i64.wrap ((a:Int)+1)=((a+1:Nat):Int):=by rw [zTA] <;> omega
  obtain ⟨Bp,hsa⟩:∃Bp,sa=some ⟨Bp,0,none⟩:=by
   rcases t1.sp with ⟨e,_⟩ | ⟨h0,Bp,cap,t,e,_⟩
   ·omega
   ·simp only [Value.slice.injEq,true_and] at e
    exact ⟨Bp,e.1⟩
  have hsc:r≤sc:=by
   rcases t1.sp with ⟨e,_⟩ | ⟨h0,Bp,cap,t,e,e0,_⟩
   ·omega
   ·simp only [Value.slice.injEq,true_and] at e
    omega
  subst hsa;have z1:=t5.at (i:=0) rfl;have z2:=t1.s2;have hsl1:(a:Int)+1≤(r:Int):=by omega
  have hsl0:(0:Int)≤(a:Int)+1:=by omega
  have htn:((a:Int)+1).toNat=a+1:=by omega
  clear t1 t2 t3 t3b t5 t6 hlw hob
  by_cases hce:sc=a+1
  ·have hra:r=a+1:=by omega
   have FF:=hid (FIN.out W (by rw [show r-(a+1)=0 by omega];exact H0.out));clear FIN H0;have hr1:r-(a+1)=0:=by omega
   gi_wp2_with fail
   gi_loopw [21] (fun s21 wr=>s21=.int .i64 0∧wr=W) (fun _ _=>0)
   case atStart=>exact ⟨rfl,rfl⟩
   case round =>
    obtain ⟨rfl,hwr⟩:=hrel;rw [hwr];clear hwr;have ff:=FF.out;rw [hsz1,hsz0,hce,hra] at ff;clear FF;have FF:=hid ff;clear ff z1 z2;gi_wp2;exact FF.out
  ·gi_wp2_with fail
   gi_loopw [21] (fun s21 wr=>zrI R B W bs (.slice (some ⟨Bp,0,none⟩) r sc) m n r ρ γ A kw K T w.heap.size bq a s21 wr) (fun s21 _=>(((r-(a+1):Nat):Int)-(intOf s21)).toNat)
   case atStart=>exact H0.out
   case round =>
    clear H0 z1 z2;obtain ⟨t,X,rfl,htl,wk,lw,pb,pq,tw⟩:=hrel;have WK2:=hid wk;have LW:=hid lw;have PB2:=hid pb;have PQ2:=hid pq;have TW2:=hid tw;clear wk lw pb pq tw
    by_cases hlt:t<r-(a+1)
    ·have hlt':(t:Int)<((r-(a+1):Nat):Int):=by omega
     have hwt:=zbA (i:=t) (by omega);obtain ⟨b,hbe⟩:∃b,a+1+t=b:=⟨_,rfl⟩
     have hbr:b<r:=by omega
     obtain ⟨e0,e1⟩:wr.cell? ⟨Bp,(a+1)*2+t*2,none⟩=some (.int .i64 (ρ b:Int))∧wr.cell? ⟨Bp,(a+1)*2+t*2+1,none⟩=some (.int .i64 (γ b:Int)):=by
      rw [show (a+1)*2+t*2=b*2 by omega];rcases WK2.out.sp with ⟨e,_⟩ | ⟨h0,Bp',cap,t',e,_,_,_,_,e4⟩
      ·omega
      ·simp only [Value.slice.injEq,Option.some.injEq,Addr.mk.injEq,and_true,true_and] at e
       obtain ⟨rfl,-⟩:=e;exact ⟨e4.at (zcC hbr t').1,e4.at (zcC hbr t').2⟩
     obtain ⟨V,hV⟩:∃V,wr.alloc (.cells #[.int .i64 (ρ b:Int),.int .i64 (γ b:Int)] 105)=V:=⟨_,rfl⟩
     obtain ⟨bv,szv⟩:=alo1 wr (.cells #[.int .i64 (ρ b:Int),.int .i64 (γ b:Int)] 105);rw [hV] at bv szv;have dV:Cel V wr.heap.size 105 [.int .i64 (ρ b:Int),.int .i64 (γ b:Int)]:=by rw [←hV];exact Cel.new wr _ _
     have v0:=dV.at (i:=0) rfl;have v1:=dV.at (i:=1) rfl;have y0:=(PB2.out.step bv).at (i:=0) rfl;have u0:=(PQ2.out.step bv).at (i:=0) rfl;rw [hbe] at LW;have HRE:=hid (reduce21 (WK2.out.now bv) LW.out HTB.out (show a<b by omega) hbr HKM.out hm hn HT.out Hk1.out HK.out);have FN:Hid (∀e Y,znI R B V bs (.slice (some ⟨Bp,0,none⟩) r sc) m n r ρ γ A kw K T a (b+1) e Y→zrI R B W bs (.slice (some ⟨Bp,0,none⟩) r sc) m n r ρ γ A kw K T w.heap.size bq a (.int .i64 ((t+1:Nat):Int)) Y):=by
      rintro e Y ⟨X',-,h1,h2,h3⟩;have ty:Ty 47 V Y:=h3.tyS18 (fun b q=>(WK2.out.now bv).cel q);exact ⟨t+1,X',rfl,by omega,h1,by rw [show a+1+(t+1)=b+1 by omega];exact h2,(PB2.out.step bv).ty13 ty (by decide),(PQ2.out.step bv).ty13 ty (by decide),(TW2.out.trans (.ofBelow bv)).trans h3⟩
     have EV:=hid hV;rw [←hV] at v0 v1 y0 u0;clear LW PB2 PQ2 TW2 bv szv hV dV hbe WK2;gi_wp2_with fail;rw [EV.out];refine ⟨trivial,(CallsIn.inRound _ (callsIn_wide.2 HRE.out)).mono ?_⟩;intro e Y hY;have HN1:=hid (FN.out e Y hY);obtain ⟨X',rfl,-⟩:=hY;clear HRE FN EV e0 e1 v0 v1 y0 u0;gi_wp2_with fail;go_roundw
     case rel=>exact HN1.out
     case measure=>simp [intOf];omega
    ·have hlt':¬(t:Int)<((r-(a+1):Nat):Int):=by omega
     obtain rfl:t=r-(a+1):=by omega
     have FF:=hid (FIN.out wr ⟨_,X,rfl,htl,WK2.out,LW.out,PB2.out,PQ2.out,TW2.out⟩);clear WK2 LW PB2 PQ2 TW2 FIN;have ff:=FF.out;rw [hsz1,hsz0] at ff;clear FF;have FF:=hid ff;clear ff;gi_wp2;exact FF.out
 case done =>
  rintro Dd s W hDs hl ⟨X',b,t1,t2,t3,t3b,t4,t5,t6⟩ hD;subst hl;rw [Nat.sub_self] at t2 t3;have kg:=zXD (grownBy_putObj' W Dd (.deferred none)) (fun r e=>by cases e;exact ⟨_,hD,rfl⟩);have HZ:Hid (zrJ R B w bs (.slice sa s sc) m n s ρ γ A kw K T (.returned (.tuple #[])) (W.putObj Dd (.deferred none))):=⟨X',rfl,t1.kc21 kg,t2.end_ t3,t6.grown18 (grownBy_putObj' W Dd (.deferred none)) (fun k e=>by cases e;omega)⟩
  have HKD:=hid hD;clear t1 t2 t3 t3b t4 t5 t6 kg hD;gi_wp2;refine ⟨by simp,.inl ⟨_,_,rfl,run_takeDeferred HKD.out,?_⟩⟩;exact ⟨_,by simp [results,Tryz.results77,go_sem],HZ.out⟩
end Go.Proofs.YtjjpodnjljfheaaGreat
namespace Go.Proofs.YtjjpodnjljfheaaGreat
open Go.RowKit
theorem zOA.sc {R:zKA} {B bs m n r kw:Nat} {w:World} {sv:Value} {ρ γ:Nat→Nat} {X:Nat→Nat→Int} (h:zOA R B w bs sv m n r ρ γ X kw):∃x y,Cel w bs 66 [x,y,sv]:=by
 obtain ⟨gs,Z,kz,h1,h2⟩:=h;exact ⟨_,_,h1.s⟩
def PoD21 (R:zKA) (B:Nat) (w:World) (bs:Nat) (sv:Value) (m n r:Nat) (ρ γ:Nat→Nat) (A:Nat→Nat→Int) (kw i c p T:Nat) (e:Ending) (w':World):Prop :=
 ∃X,e=.returned (.tuple #[])∧zOA R B w' bs sv m n r ρ γ X kw∧Lv18 n i r ρ γ X A c p T∧0<X i c∧Touch R.S w w'
theorem makePositive21 {R:zKA} {B bs m n r kw i c p T:Nat} {w:World} {sv:Value} {ρ γ:Nat→Nat} {X A:Nat→Nat→Int} (h:zOA R B w bs sv m n r ρ γ X kw) (hL:Lv18 n i r ρ γ X A c p T) (hi:i<m) (hc:c<n) (h0:X i c≠0) (hm:m≤64) (hn:n≤128) :
  Calls Tryz.prog 75 #[.pointer (some ⟨bs,0,none⟩),.int .i64 (i:Int),.int .i64 (c:Int)] w (PoD21 R B w bs sv m n r ρ γ A kw i c p T):=by
 by_cases q:0<X i c
 ·exact (positive21 h hi hc q hm).mono fun e w' ⟨h1,h2⟩=>⟨X,h1,h.now h2,hL,q,Touch.ofBelow h2⟩
 ·exact (negate21 h hi hc q hm).mono fun e w' ⟨h1,h2,h3⟩=>⟨_,h1,h2,hL.neg,by rw [zDD];omega,h3⟩
def zTJ (R:zKA) (B:Nat) (w:World) (bs:Nat) (m n:Nat) (A:Nat→Nat→Int) (kw K:Nat) (e:Ending) (w':World):Prop :=
 ∃sv r ρ γ X,e=.returned (.tuple #[])∧zOA R B w' bs sv m n r ρ γ X kw∧Hb18 m n K r ρ γ X A∧Below B w w'
theorem settle21 {R:zKA} {B bs m n r kw i T:Nat} {w:World} {sv:Value} {ρ γ:Nat→Nat} {X A:Nat→Nat→Int} (h:zOA R B w bs sv m n r ρ γ X kw) (hH:Hb18 m n i r ρ γ X A) (hTb:Tb18 m n A T) (hi:i<m) (hbs:B≤bs) (hB:B≤w.heap.size) (hm:m≤64) (hn:n≤128) (hT:((bd18 T 128:Nat):Int)<pw kw) (hk1:1≤kw) (hK:kw≤68719476736) :
  Calls Tryz.prog 49 #[.pointer (some ⟨bs,0,none⟩),.int .i64 (i:Int)] w (zTJ R B w bs m n A kw (i+1)):=by
 have HLV:=hid (leave21 h (hH.open_ hTb hi) hi hm hn hT hk1 hK);have H0:=hid h;have HTB:=hid hTb;have HI:=hid hi;have HBS:=hid hbs;have HB:=hid hB;have HT:=hid hT;have Hk1:=hid hk1;have HK:=hid hK;have hr64:r≤64:=by have:=hH.ec.rows21;omega
 have HR:=hid hr64;clear h hH hTb hi hbs hB hT hk1 hK hr64;go_enter Tryz.func49,Tryz.ntmps49;go_wp2_with fail;refine HLV.out.mono ?_;rintro e w1 ⟨c,p,X1,h1,h2,h3,he⟩;have WK:=hid h1;have LV:=hid h2;have BB:=hid (H0.out.below h3 HB.out);rcases he with ⟨rfl,hc⟩ | ⟨rfl,hc,hx,hs⟩
 ·subst hc
  have HLO:=hid (zFI h1 (h2.none21 HR.out) HTB.out (by have:=HI.out;omega) hm hn HT.out Hk1.out HK.out);have FIN:Hid (∀Y X',zOA R B Y bs sv m c r ρ γ X' kw→Hb18 m c (i+1) r ρ γ X' A→Touch R.S w1 Y→zTJ R B w bs m c A kw (i+1) (.returned (.tuple #[])) Y):=fun Y X' q1 q2 q3=>⟨sv,r,ρ,γ,X',rfl,q1,q2,zaA BB.out (h1.below q3 (Nat.le_trans HB.out h3.size))⟩
  clear HLV h1 h2 h3 H0;go_wp2_with fail;refine HLO.out.mono ?_;rintro e Y ⟨X',rfl,q1,q2,q3⟩;have FF:=hid (FIN.out Y X' q1 q2 q3);clear HLO FIN q1 q2 q3;go_wp2;go_end0;exact FF.out
 ·have HMP:=hid (makePositive21 h1 h2 HI.out hc hx hm hn)
  have HS:=hid hs;have HC:=hid hc;have hsz1:=h3.size;clear HLV h1 h2 h3 H0 hx hs;go_wp2_with fail;refine HMP.out.mono ?_;rintro e w2 ⟨X2,rfl,h1,h2,h0,h3⟩;have hB2:B≤w2.heap.size:=by have:=HB.out;have:=h3.size;omega
  have B2:=hid (zaA BB.out (WK.out.below h3 (by have:=HB.out;omega)));have HLO0:=hid (h2.found21 HC.out h0 HS.out HR.out);have hr65:r<64:=by have:=HLO0.out.ec.rows21;have:=HI.out;omega
  obtain ⟨V,hV⟩:∃V,w2.alloc (.cells #[.int .i64 (i:Int),.int .i64 (c:Int)] 105)=V:=⟨_,rfl⟩
  obtain ⟨bv,szv⟩:=alo1 w2 (.cells #[.int .i64 (i:Int),.int .i64 (c:Int)] 105);rw [hV] at bv szv;have dV:Cel V w2.heap.size 105 [.int .i64 (i:Int),.int .i64 (c:Int)]:=by rw [←hV];exact Cel.new w2 _ _
  have WV:=hid (h1.now bv);have hown:sv.ownBlock≠some w2.heap.size:=fun q=>by
   rcases h1.sp with ⟨_,e⟩ | ⟨_,Bp,cap,t,e,_,_,_,_,e4⟩
   ·rw [e] at q;cases q
   ·rw [e] at q
    simp [Value.ownBlock] at q;have:=e4.blk;omega
  have HIN:=hid (insert18 WV.out.sp dV hown h2.pr hr65 (by omega));obtain ⟨sa,sc,hsv⟩:=h1.sform;have s2:=h1.s2;have HBV:Hid (Below B w V):=zaA B2.out ⟨bv.os,bv.tape,bv.output,bv.size,fun b hb=>bv.block b (by omega)⟩;have EV:=hid hV;have HOWN:Hid (∀b,sv.ownBlock=some b→B≤b):=fun b q=>by
   rcases h1.sp with ⟨_,e⟩ | ⟨_,Bp,cap,t,e,_,e1,_⟩
   ·rw [e] at q;cases q
   ·rw [e] at q
    simp [Value.ownBlock] at q;omega
  have hszv:B≤V.heap.size:=by omega
  have HSZV:=hid hszv;rw [hsv] at s2 HIN WV HOWN;clear HMP h1 h2 h0 h3 hown bv szv dV hV WK LV BB hsz1 B2 hsv hszv hB2;go_wp2_with fail;rw [EV.out];refine HIN.out.mono ?_;rintro e w3 ⟨sv',rfl,q1,q2⟩;have WK3:=hid (WV.out.steps q2 q1);obtain ⟨sx,sy,cs⟩:=WV.out.sc;have c3:Cel w3 bs 66 [sx,sy,.slice sa r sc]:=cs.ty13 (q2.tyS18 fun b q=>by
   rcases WV.out.sp with ⟨_,e⟩ | ⟨_,Bp,cap,t,e,_,_,_,_,e4⟩
   ·rw [e] at q;cases q
   ·rw [e] at q
    simp [Value.ownBlock] at q;subst q;exact ⟨_,e4⟩) (by decide)
  have z2:=c3.at (i:=2) rfl;have f2:=c3.fz 2;obtain ⟨W4,hW4⟩:∃W4,w3.setCell ⟨bs,2,none⟩ sv'=W4:=⟨_,rfl⟩
  have B4:Hid (Below B w W4):=by
   unfold Hid;rw [←hW4];exact bset (zaA HBV.out ⟨q2.os,q2.tape,q2.output,q2.size,fun b hb=>q2.block b (by have:=HSZV.out;omega) fun e=>by have:=HOWN.out b e;omega⟩) HBS.out
  have hsz4:B≤W4.heap.size:=by rw [←hW4];simp;have:=q2.size;have:=HSZV.out;omega
  rw [hW4] at WK3;have HLO:=hid (zFI WK3.out HLO0.out HTB.out (by have:=HI.out;omega) hm hn HT.out Hk1.out HK.out);have FIN:Hid (∀Y X',zOA R B Y bs sv' m n (r+1) (insF p i ρ) (insF p c γ) X' kw→Hb18 m n (i+1) (r+1) (insF p i ρ) (insF p c γ) X' A→Touch R.S W4 Y→zTJ R B w bs m n A kw (i+1) (.returned (.tuple #[])) Y):=fun Y X' q1 q2 q3=>⟨sv',_,_,_,X',rfl,q1,q2,zaA B4.out (WK3.out.below q3 hsz4)⟩
  have EW4:=hid hW4;obtain ⟨sa',sc',hsv'⟩:=WK3.out.sform;subst hsv';clear HIN q1 q2 c3 cs hW4 hsz4 WV EV HBV HOWN;go_wp2_with fail;rw [EW4.out];refine HLO.out.mono ?_;rintro e Y ⟨X',rfl,q1,q2,q3⟩;have FF:=hid (FIN.out Y X' q1 q2 q3);clear HLO FIN q1 q2 q3;go_wp2;go_end0;exact FF.out
def zoI (R:zKA) (B:Nat) (w:World) (bs:Nat) (sv:Value) (m n r:Nat) (ρ γ:Nat→Nat) (X:Nat→Nat→Int) (kw k gk:Nat) (s:Value) (wx:World):Prop :=
 ∃l:Nat,s=.int .i64 (l:Int)∧l≤r∧gk=r-l∧zOA R B wx bs sv m n r (orL ρ k l) γ X kw∧Below B w wx∧B≤wx.heap.size
def zZJ (R:zKA) (B:Nat) (w:World) (bs:Nat) (sv:Value) (m n r:Nat) (γ:Nat→Nat) (A:Nat→Nat→Int) (kw gk:Nat) (s:Value) (wx:World):Prop :=
 ∃(k:Nat) (ρ:Nat→Nat) (X:Nat→Nat→Int),s=.int .i64 (k:Int)∧k≤r∧gk=r-k∧zOA R B wx bs sv m n r ρ γ X kw∧Hb18 m n m r ρ γ X A∧(∀a,a<k→ρ a=a)∧Below B w wx∧B≤wx.heap.size
def zqJ (R:zKA) (B:Nat) (w:World) (bs:Nat) (sv:Value) (m n r:Nat) (γ:Nat→Nat) (A:Nat→Nat→Int) (kw:Nat) (e:Ending) (w':World):Prop :=
 ∃X,e=.returned (.tuple #[])∧zOA R B w' bs sv m n r id γ X kw∧Hb18 m n m r id γ X A∧Below B w w'
theorem order21 {R:zKA} {B bs m n r kw:Nat} {w:World} {sv:Value} {ρ γ:Nat→Nat} {X A:Nat→Nat→Int} (h:zOA R B w bs sv m n r ρ γ X kw) (hH:Hb18 m n m r ρ γ X A) (hB:B≤w.heap.size) (hm:m≤64) (hn:n≤128) :
  Calls Tryz.prog 50 #[.pointer (some ⟨bs,0,none⟩)] w (zqJ R B w bs sv m n r γ A kw):=by
 obtain ⟨sa,sc,rfl⟩:=h.sform;have hr64:r≤64:=by have:=hH.ec.rows21;omega
 have s2:=h.s2;have H0:Hid (zZJ R B w bs (.slice sa r sc) m n r γ A kw r (.int .i64 ((0:Nat):Int)) w):=⟨0,ρ,X,rfl,Nat.zero_le _,rfl,h,hH,fun a ha=>by omega,Below.refl _ _,hB⟩
 clear h hH hB;go_enter Tryz.func50,Tryz.ntmps50;go_wp2_with fail;clear s2
 go_loopg [11] r (fun gk s11 wx=>zZJ R B w bs (.slice sa r sc) m n r γ A kw gk s11 wx)
 case atStart=>exact H0.out
 case round =>
  clear H0 ρ X;obtain ⟨k,ρ,X,rfl,hkr,hgk,hwk,hhb,hid0,hbel,hsz⟩:=hrel;have WK:=hid hwk;have HB:=hid hhb;have HID:=hid hid0;have BL:=hid hbel;have SZ:=hid hsz;have HG:=hid hgk;clear hwk hhb hid0 hbel hsz hgk
  by_cases hlt:k<r
  ·have hlt':(k:Int)<(r:Int):=by omega
   have hrk:=HB.out.ec.rl k hlt;have hkm:k<m:=by
    refine Classical.byContradiction fun q=>?_
    have q1:=HID.out (ρ k) (by omega);have q2:=HB.out.ec.inj (ρ k) k (by omega) hlt q1;omega
   obtain ⟨Bp,rfl,hrsc⟩:∃Bp,sa=some ⟨Bp,0,none⟩∧r≤sc:=by
    rcases WK.out.sp with ⟨e,_⟩ | ⟨h0,Bp,cap,t,e,e0,_⟩
    ·omega
    ·simp only [Value.slice.injEq,true_and] at e
     exact ⟨Bp,e.1,by omega⟩
   have CELS:Hid (∀(wx:World) (ρ':Nat→Nat) (X':Nat→Nat→Int),zOA R B wx bs (.slice (some ⟨Bp,0,none⟩) r sc) m n r ρ' γ X' kw→B≤Bp∧Bp<wx.heap.size∧∀a,a<r→wx.cell? ⟨Bp,a*2,none⟩=some (.int .i64 (ρ' a:Int))∧wx.cell? ⟨Bp,a*2+1,none⟩=some (.int .i64 (γ a:Int))∧wx.frozen? ⟨Bp,a*2,none⟩=false):=fun wx ρ' X' hw=>by
    rcases hw.sp with ⟨e,_⟩ | ⟨h0,Bp',cap,t,e,e0,e1,e2,e3,e4⟩
    ·omega
    simp only [Value.slice.injEq,Option.some.injEq,Addr.mk.injEq,and_true,true_and] at e;obtain ⟨rfl,rfl⟩:=e;exact ⟨e1,e4.blk,fun a ha=>⟨e4.at (zcC ha t).1,e4.at (zcC ha t).2,e4.fz _⟩⟩
   have HMM:Hid (r-(k+1)<gk):=by unfold Hid;rw [HG.out];omega
   have hwk1:=zbA (i:=k) (by omega);have s2:=WK.out.s2;have c0:=((CELS.out wr ρ X WK.out).2.2 k hlt).1;have HEX:=hid (exch21 WK.out hrk hkm hm SZ.out);have HKM:=hid (show ρ k<m∧k<m∧k<r from ⟨hrk,hkm,hlt⟩);obtain ⟨fr,hfr⟩:∃fr,ρ k=fr:=⟨_,rfl⟩
   rw [hfr] at c0 HEX;have EFR:=hid hfr;clear HG hrk hkm hfr;go_wp2_with fail;refine HEX.out.mono ?_;rintro e w2 ⟨rfl,h1,h2⟩;have WK2:=hid h1;have BL2:=hid (zaA BL.out h2);have SZ2:Hid (B≤w2.heap.size):=Nat.le_trans SZ.out h2.size;have s3:=h1.s2;have H1:Hid (zoI R B w bs (.slice (some ⟨Bp,0,none⟩) r sc) m n r ρ γ (swpX X fr k) kw k r (.int .i64 ((0:Nat):Int)) w2):=⟨0,rfl,Nat.zero_le _,rfl,h1.rows fun a _=>by unfold orL;rw [if_neg (by omega)],BL2.out,SZ2.out⟩
   clear HEX h1 h2 WK BL SZ c0 s2 WK2;go_wp2_with fail;clear s3
   go_loopg [31] r (fun gk s31 wx=>zoI R B w bs (.slice (some ⟨Bp,0,none⟩) r sc) m n r ρ γ (swpX X fr k) kw k gk s31 wx)
   case atStart=>exact H1.out
   case round =>
    clear H1;obtain ⟨l,rfl,hlr,hgk,hwk,hbel,hsz⟩:=hrel;have WK:=hid hwk;have BL:=hid hbel;have SZ:=hid hsz;have HG2:=hid hgk;clear hwk hbel hsz hgk
    by_cases hll:l<r
    ·have hll':(l:Int)<(r:Int):=by omega
     obtain ⟨e1,e2,hc⟩:=CELS.out wr _ _ WK.out;obtain ⟨d0,d1,-⟩:=hc l hll;have el:orL ρ k l l=ρ l:=if_neg (by omega);rw [el] at d0;obtain ⟨V,hV⟩:∃V,wr.alloc (.cells #[.int .i64 (ρ l:Int),.int .i64 (γ l:Int)] 105)=V:=⟨_,rfl⟩
     obtain ⟨bv,szv⟩:=alo1 wr (.cells #[.int .i64 (ρ l:Int),.int .i64 (γ l:Int)] 105);rw [hV] at bv szv;have dV:Cel V wr.heap.size 105 [.int .i64 (ρ l:Int),.int .i64 (γ l:Int)]:=by rw [←hV];exact Cel.new wr _ _
     have v0:=dV.at (i:=0) rfl;have WKV:=hid (WK.out.now bv);have BLV:Hid (Below B w V):=zaA BL.out ⟨bv.os,bv.tape,bv.output,bv.size,fun b hb=>bv.block b (by have:=SZ.out;omega)⟩;have SZV:Hid (B≤V.heap.size):=by unfold Hid;have:=SZ.out;omega
     have HM2:Hid (r-(l+1)<gk):=by unfold Hid;rw [HG2.out];omega
     have hwl:=zbA (i:=l) (by omega);have z2:=WKV.out.s2;obtain ⟨-,-,hcV⟩:=CELS.out V _ _ WKV.out;obtain ⟨y0,-,y2⟩:=hcV l hll;rw [el] at y0;have EV:=hid hV;rw [←hV] at v0 z2 y0 y2;have HBP:=hid e1;clear HG2 bv szv dV hV WK BL SZ hc hcV e1 e2 el
     by_cases hq:ρ l=k
     ·have hq':((ρ l:Nat):Int)=(k:Int):=by omega
      have HN1:Hid (zoI R B w bs (.slice (some ⟨Bp,0,none⟩) r sc) m n r ρ γ (swpX X fr k) kw k (r-(l+1)) (.int .i64 ((l+1:Nat):Int)) (V.setCell ⟨Bp,l*2,none⟩ (.int .i64 (fr:Int)))):=by
       refine ⟨l+1,rfl,by omega,rfl,(WKV.out.put hll).rows fun a ha=>?_,bset BLV.out HBP.out,by have:=SZV.out;simpa using this⟩;unfold updF orL
       by_cases q:a=l
       ·subst q;rw [if_pos rfl,if_pos ⟨by omega,hq⟩,EFR.out]
       ·rw [if_neg q]
        by_cases q2:a<l∧ρ a=k
        ·rw [if_pos q2,if_pos ⟨by omega,q2.2⟩]
        ·rw [if_neg q2,if_neg (by omega)]
      rw [hq] at d0 v0 y0 y2 z2 EV;clear hq hq' WKV BLV SZV;go_wp2_with fail;rw [EV.out];go_roundg (r-(l+1))
      case rel=>exact HN1.out
      case measure=>exact HM2.out
     ·have hq':¬((ρ l:Nat):Int)=(k:Int):=by omega
      have HN1:Hid (zoI R B w bs (.slice (some ⟨Bp,0,none⟩) r sc) m n r ρ γ (swpX X fr k) kw k (r-(l+1)) (.int .i64 ((l+1:Nat):Int)) V):=by
       refine ⟨l+1,rfl,by omega,rfl,WKV.out.rows fun a ha=>?_,BLV.out,SZV.out⟩;unfold orL
       by_cases q:a=l
       ·subst q;rw [if_neg (by omega),if_neg (fun h=>hq h.2)]
       ·by_cases q2:a<l∧ρ a=k
        ·rw [if_pos q2,if_pos ⟨by omega,q2.2⟩]
        ·rw [if_neg q2,if_neg (by omega)]
      have hq2:¬ρ l=k:=hq;clear WKV BLV SZV y0 y2 z2;go_wp2_with fail;rw [EV.out];go_roundg (r-(l+1))
      case rel=>exact HN1.out
      case measure=>exact HM2.out
    ·have hll':¬(l:Int)<(r:Int):=by omega
     obtain rfl:l=r:=by omega
     obtain ⟨e1,e2,hc⟩:=CELS.out wr _ _ WK.out;obtain ⟨d0,-,d2⟩:=hc k HKM.out.2.2;have z2:=WK.out.s2;have HN1:Hid (zZJ R B w bs (.slice (some ⟨Bp,0,none⟩) l sc) m n l γ A kw (l-(k+1)) (.int .i64 ((k+1:Nat):Int)) (wr.setCell ⟨Bp,k*2,none⟩ (.int .i64 (k:Int)))):=by
      obtain ⟨q1,q2⟩:=HB.out.swap HKM.out.2.2 HKM.out.2.1 HID.out;rw [EFR.out] at q1;refine ⟨k+1,ordR ρ k,_,rfl,by have:=HKM.out;omega,rfl,(WK.out.put HKM.out.2.2).rows fun a ha=>?_,q1,q2,bset BL.out e1,by have:=SZ.out;simpa using this⟩;unfold updF orL ordR
      by_cases q:a=k
      ·rw [if_pos q,if_pos q]
      ·rw [if_neg q,if_neg q]
       by_cases q2:ρ a=k
       ·rw [if_pos ⟨ha,q2⟩,if_pos q2]
       ·rw [if_neg (fun h=>q2 h.2),if_neg q2]
     obtain ⟨dv,hdv⟩:∃dv,orL ρ k l k=dv:=⟨_,rfl⟩
     rw [hdv] at d0;clear WK BL SZ HG2 e1 e2 hc hdv;go_wp2_with fail;go_roundg (l-(k+1))
     case rel=>exact HN1.out
     case measure=>exact HMM.out
  ·have hlt':¬(k:Int)<(r:Int):=by omega
   obtain rfl:k=r:=by omega
   have FF:Hid (zqJ R B w bs (.slice sa k sc) m n k γ A kw (.returned (.tuple #[])) wr):=⟨X,rfl,WK.out.rows fun a ha=>HID.out a ha,HB.out.fin HID.out,BL.out⟩
   clear WK HB HID BL SZ HG;go_wp2;go_end0;exact FF.out
def zVJ (R:zKA) (B:Nat) (w:World) (bs:Nat) (m n:Nat) (A:Nat→Nat→Int) (kw gk:Nat) (s:Value) (wx:World):Prop :=
 ∃(i:Nat) (sv:Value) (r:Nat) (ρ γ:Nat→Nat) (X:Nat→Nat→Int),s=.int .i64 (i:Int)∧i≤m∧gk=m-i∧zOA R B wx bs sv m n r ρ γ X kw∧Hb18 m n i r ρ γ X A∧Below B w wx∧B≤wx.heap.size
def zpJ (R:zKA) (B:Nat) (w:World) (bs:Nat) (m n:Nat) (A:Nat→Nat→Int) (kw:Nat) (e:Ending) (w':World):Prop :=
 ∃sv r γ X,e=.returned (.tuple #[])∧zOA R B w' bs sv m n r id γ X kw∧Hb18 m n m r id γ X A∧Below B w w'
theorem zaE {R:zKA} {B bs m n kw T:Nat} {w:World} {ρ γ:Nat→Nat} {A:Nat→Nat→Int} (h:zOA R B w bs (.slice none 0 0) m n 0 ρ γ A kw) (hTb:Tb18 m n A T) (hbs:B≤bs) (hB:B≤w.heap.size) (hm:m≤64) (hn:n≤128) (hT:((bd18 T 128:Nat):Int)<pw kw) (hk1:1≤kw) (hK:kw≤68719476736) :
  Calls Tryz.prog 23 #[.pointer (some ⟨bs,0,none⟩),.int .i64 (m:Int)] w (zpJ R B w bs m n A kw):=by
 have H0:Hid (zVJ R B w bs m n A kw m (.int .i64 ((0:Nat):Int)) w):=⟨0,_,0,ρ,γ,A,rfl,Nat.zero_le _,rfl,h,Hb18.first m n ρ γ A,Below.refl _ _,hB⟩
 have HTB:=hid hTb;have HBS:=hid hbs;have HT:=hid hT;have Hk1:=hid hk1;have HK:=hid hK;clear h hTb hbs hB hT hk1 hK;go_enter Tryz.func23,Tryz.ntmps23;go_wp2_with fail
 go_loopg [6] m (fun gk s6 wx=>zVJ R B w bs m n A kw gk s6 wx)
 case atStart=>exact H0.out
 case round =>
  clear H0;obtain ⟨i,sv,r,ρ,γ,X,rfl,him,hgk,hwk,hhb,hbel,hsz⟩:=hrel
  by_cases hlt:i<m
  ·have hlt':(i:Int)<(m:Int):=by omega
   have hwi:=zbA (i:=i) (by omega);have HSE:=hid (settle21 hwk hhb HTB.out hlt HBS.out hsz hm hn HT.out Hk1.out HK.out);have BL:=hid hbel;have SZ:=hid hsz;have HMM:Hid (m-(i+1)<gk):=by unfold Hid;omega
   clear hwk hhb hbel hsz hgk;go_wp2_with fail;refine HSE.out.mono ?_;rintro e w2 ⟨sv',r',ρ',γ',X',rfl,h1,h2,h3⟩;have HN1:Hid (zVJ R B w bs m n A kw (m-(i+1)) (.int .i64 ((i+1:Nat):Int)) w2):=⟨i+1,sv',r',ρ',γ',X',rfl,by omega,rfl,h1,h2,zaA BL.out h3,Nat.le_trans SZ.out h3.size⟩
   clear HSE h1 h2 h3 BL SZ;go_wp2_with fail;go_roundg (m-(i+1))
   case rel=>exact HN1.out
   case measure=>exact HMM.out
  ·have hlt':¬(i:Int)<(m:Int):=by omega
   obtain rfl:i=m:=by omega
   have HOR:=hid (order21 hwk hhb hsz hm hn);have BL:=hid hbel;clear hwk hhb hbel hsz hgk;go_wp2_with fail;refine HOR.out.mono ?_;rintro e w2 ⟨X',rfl,h1,h2,h3⟩;have FF:Hid (zpJ R B w bs i n A kw (.returned (.tuple #[])) w2):=⟨sv,r,γ,X',rfl,h1,h2,zaA BL.out h3⟩
   clear HOR h1 h2 h3 BL;go_wp2;go_end0;exact FF.out
end Go.Proofs.YtjjpodnjljfheaaGreat
