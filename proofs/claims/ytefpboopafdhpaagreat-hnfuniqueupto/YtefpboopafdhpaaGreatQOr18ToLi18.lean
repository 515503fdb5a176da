/-
 QOr18ToLi18: Or18, Li18, joined.
-/
import Derived.Test.YtefpboopafdhpaaGreatQLr18ToSe18
import Derived.Test.YtefpboopafdhpaaGreatQEachM11ToRows11
import Derived.Test.YtefpboopafdhpaaGreatQTouchToTo18

set_option maxRecDepth 100000
set_option maxHeartbeats 6400000
set_option linter.unusedVariables false
set_option linter.unusedSimpArgs false
namespace Go.Proofs.YtefpboopafdhpaaGreat
open Go.RowKit
def updF (f:Nat→Nat) (l v:Nat):Nat→Nat:=fun a=>if a=l then v else f a
theorem sc18_set {r l v:Nat} {ρ γ:Nat→Nat} (hl:l<r) (t:List Value):(sc18 r ρ γ ++ t).set (l*2) (.int .i64 (v:Int))=sc18 r (updF ρ l v) γ ++ t:=by
 induction r generalizing t with
 | zero=>omega
 | succ r ih =>
  rw [sc18_succ,sc18_succ,List.append_assoc,List.append_assoc]
  by_cases q:l<r
  ·rw [ih q]
   unfold updF;rw [if_neg (by omega)]
  ·obtain rfl:l=r:=by omega
   rw [List.set_append_right _ _ (by rw [zcA];omega),zcA,Nat.sub_self];have e:sc18 l (updF ρ l v) γ=sc18 l ρ γ:=zsC fun a ha=>⟨by unfold updF;rw [if_neg (by omega)],rfl⟩
   rw [e];simp [updF]
theorem Wk18.put {B bs Bl Bh Ba m n r kw Bp cap l v:Nat} {w:World} {lv:Value} {ρ γ gs:Nat→Nat} {X:Nat→Nat→Int} (h:Wk18 B w bs Bl Bh Ba lv (.slice (some ⟨Bp,0,none⟩) r cap) m n r ρ γ gs X kw) (hl:l<r) :
  Wk18 B (w.setCell ⟨Bp,l*2,none⟩ (.int .i64 (v:Int))) bs Bl Bh Ba lv (.slice (some ⟨Bp,0,none⟩) r cap) m n r (updF ρ l v) γ gs X kw:=by
 rcases h.2.2.2.2.1 with ⟨e,_⟩ | ⟨h0,Bp',cap',t,e,e0,e1,e2,e3,e4⟩
 ·omega
 simp only [Value.slice.injEq,Option.some.injEq,Addr.mk.injEq,and_true,true_and] at e;obtain ⟨rfl,rfl⟩:=e;have ty:Ty 113 w (w.setCell ⟨Bp,l*2,none⟩ (.int .i64 (v:Int))):=Ty.set e4;have c:=e4.set (l*2) (.int .i64 (v:Int));rw [sc18_set hl] at c;exact ⟨h.1.ty13 ty (by decide),h.2.1.ty13 ty (by decide),h.2.2.1.ty13 ty (by decide),h.2.2.2.1.ty13 ty (by decide),.inr ⟨h0,Bp,cap,t,rfl,e0,e1,e2,e3,c⟩,h.2.2.2.2.2.ty ty (by decide) (by decide) (by decide)⟩
theorem Wk18.rows {B bs Bl Bh Ba m n r kw:Nat} {w:World} {lv sv:Value} {ρ ρ' γ gs:Nat→Nat} {X:Nat→Nat→Int} (h:Wk18 B w bs Bl Bh Ba lv sv m n r ρ γ gs X kw) (e:∀a,a<r→ρ a=ρ' a):Wk18 B w bs Bl Bh Ba lv sv m n r ρ' γ gs X kw:=by
 refine ⟨h.1,h.2.1,h.2.2.1,h.2.2.2.1,?_,h.2.2.2.2.2⟩;rcases h.2.2.2.2.1 with q | ⟨h0,Bp,cap,t,e',e0,e1,e2,e3,e4⟩
 ·exact .inl q
 ·rw [zsC fun a ha=>⟨e a ha,rfl⟩] at e4
  exact .inr ⟨h0,Bp,cap,t,e',e0,e1,e2,e3,e4⟩
def ExO18 (B:Nat) (w:World) (bs Bl Bh Ba:Nat) (lv sv:Value) (m n r:Nat) (ρ γ:Nat→Nat) (X:Nat→Nat→Int) (kw:Nat) (e:Ending) (w':World):Prop :=
 ∃gs,e=.returned (.tuple #[])∧Wk18 B w' bs Bl Bh Ba lv sv m n r ρ γ gs X kw∧Below B w w'
theorem exch18 {B bs Bl Bh Ba m n r kw i j:Nat} {w:World} {lv sv:Value} {ρ γ gs:Nat→Nat} {X:Nat→Nat→Int} (h:Wk18 B w bs Bl Bh Ba lv sv m n r ρ γ gs X kw) (hi:i<m) (hj:j<m) (hm:m≤64) (hB:B≤w.heap.size) :
  Calls Tryz.prog 85 #[.pointer (some ⟨bs,0,none⟩),.int .i64 (i:Int),.int .i64 (j:Int)] w (ExO18 B w bs Bl Bh Ba lv sv m n r ρ γ (swpX X i j) kw):=by
 by_cases q:i=j
 ·subst q
  refine (exch_same18 (w:=w) (bs:=bs) (i:=i) (by omega)).mono fun e w' ⟨h1,h2⟩=>?_
  subst h2;refine ⟨gs,h1,h.congr fun t c _ _=>?_,Below.refl _ _⟩;unfold swpX
  by_cases q:t=i
  ·rw [if_pos q,q]
  ·rw [if_neg q,if_neg q]
 ·obtain ⟨Lb,cap,rfl⟩:=h.form (by omega)
  have hl:=h.2.2.2.2.2.line.1;exact (exchange18 h hi hj q hm).mono fun e w' ⟨h1,h2,h3⟩=>⟨_,h1,h2,⟨h3.os,h3.tape,h3.output,h3.size,fun b hb=>h3.block b (by omega) (by show ¬b=Lb;omega)⟩⟩
def orL (ρ:Nat→Nat) (k j:Nat):Nat→Nat:=fun l=>if l<j∧ρ l=k then ρ k else ρ l
def zYH (B:Nat) (w:World) (bs Bl Bh Ba:Nat) (lv sv:Value) (m n r:Nat) (ρ γ gs:Nat→Nat) (X:Nat→Nat→Int) (kw k gk:Nat) (s:Value) (wx:World):Prop :=
 ∃l:Nat,s=.int .i64 (l:Int)∧l≤r∧gk=r-l∧Wk18 B wx bs Bl Bh Ba lv sv m n r (orL ρ k l) γ gs X kw∧Below B w wx∧B≤wx.heap.size
def zII (B:Nat) (w:World) (bs Bl Bh Ba:Nat) (lv sv:Value) (m n r:Nat) (γ:Nat→Nat) (A:Nat→Nat→Int) (kw gk:Nat) (s:Value) (wx:World):Prop :=
 ∃(k:Nat) (ρ gs:Nat→Nat) (X:Nat→Nat→Int),s=.int .i64 (k:Int)∧k≤r∧gk=r-k∧Wk18 B wx bs Bl Bh Ba lv sv m n r ρ γ gs X kw∧Hb18 m n m r ρ γ X A∧(∀a,a<k→ρ a=a)∧Below B w wx∧B≤wx.heap.size
def zeI (B:Nat) (w:World) (bs Bl Bh Ba:Nat) (lv sv:Value) (m n r:Nat) (γ:Nat→Nat) (A:Nat→Nat→Int) (kw:Nat) (e:Ending) (w':World):Prop :=
 ∃gs X,e=.returned (.tuple #[])∧Wk18 B w' bs Bl Bh Ba lv sv m n r id γ gs X kw∧Hb18 m n m r id γ X A∧Below B w w'
theorem order18 {B bs Bl Bh Ba m n r kw:Nat} {w:World} {lv sv:Value} {ρ γ gs:Nat→Nat} {X A:Nat→Nat→Int} (h:Wk18 B w bs Bl Bh Ba lv sv m n r ρ γ gs X kw) (hH:Hb18 m n m r ρ γ X A) (hB:B≤w.heap.size) (hm:m≤64) (hn:n≤64) :
  Calls Tryz.prog 61 #[.pointer (some ⟨bs,0,none⟩)] w (zeI B w bs Bl Bh Ba lv sv m n r γ A kw):=by
 obtain ⟨sa,sc,rfl⟩:=h.sform;have hr64:r≤64:=by have:=hH.ec.few;omega
 have s2:=h.1.at (i:=2) rfl;have H0:Hid (zII B w bs Bl Bh Ba lv (.slice sa r sc) m n r γ A kw r (.int .i64 ((0:Nat):Int)) w):=⟨0,ρ,gs,X,rfl,Nat.zero_le _,rfl,h,hH,fun a ha=>by omega,Below.refl _ _,hB⟩
 clear h hH hB;go_enter Tryz.func61,Tryz.ntmps61;go_wp2_with fail;clear s2
 go_loopg [11] r (fun gk s11 wx=>zII B w bs Bl Bh Ba lv (.slice sa r sc) m n r γ A kw gk s11 wx)
 case atStart=>exact H0.out
 case round =>
  clear H0 ρ gs X;obtain ⟨k,ρ,gs,X,rfl,hkr,hgk,hwk,hhb,hid0,hbel,hsz⟩:=hrel;have WK:=hid hwk;have HB:=hid hhb;have HID:=hid hid0;have BL:=hid hbel;have SZ:=hid hsz;have HG:=hid hgk;clear hwk hhb hid0 hbel hsz hgk
  by_cases hlt:k<r
  ·have hlt':(k:Int)<(r:Int):=by omega
   have hrk:=HB.out.ec.rl k hlt;have hkm:k<m:=by
    refine Classical.byContradiction fun q=>?_
    have q1:=HID.out (ρ k) (by omega);have q2:=HB.out.ec.inj (ρ k) k (by omega) hlt q1;omega
   obtain ⟨Bp,rfl,hrsc⟩:∃Bp,sa=some ⟨Bp,0,none⟩∧r≤sc:=by
    rcases WK.out.2.2.2.2.1 with ⟨e,_⟩ | ⟨h0,Bp,cap,t,e,e0,_⟩
    ·omega
    ·simp only [Value.slice.injEq,true_and] at e
     exact ⟨Bp,e.1,by omega⟩
   have CELS:Hid (∀(wx:World) (ρ' gs':Nat→Nat) (X':Nat→Nat→Int),Wk18 B wx bs Bl Bh Ba lv (.slice (some ⟨Bp,0,none⟩) r sc) m n r ρ' γ gs' X' kw→B≤Bp∧Bp<wx.heap.size∧∀a,a<r→wx.cell? ⟨Bp,a*2,none⟩=some (.int .i64 (ρ' a:Int))∧wx.cell? ⟨Bp,a*2+1,none⟩=some (.int .i64 (γ a:Int))∧wx.frozen? ⟨Bp,a*2,none⟩=false):=fun wx ρ' gs' X' hw=>by
    rcases hw.2.2.2.2.1 with ⟨e,_⟩ | ⟨h0,Bp',cap,t,e,e0,e1,e2,e3,e4⟩
    ·omega
    simp only [Value.slice.injEq,Option.some.injEq,Addr.mk.injEq,and_true,true_and] at e;obtain ⟨rfl,rfl⟩:=e;exact ⟨e1,e4.blk,fun a ha=>⟨e4.at (ztB ha t).1,e4.at (ztB ha t).2,e4.fz _⟩⟩
   have HMM:Hid (r-(k+1)<gk):=by unfold Hid;rw [HG.out];omega
   have hwk1:=zYA (i:=k) (by omega);have s2:=WK.out.1.at (i:=2) rfl;have c0:=((CELS.out wr ρ gs X WK.out).2.2 k hlt).1;have HEX:=hid (exch18 WK.out hrk hkm hm SZ.out);have HKM:=hid (show ρ k<m∧k<m∧k<r from ⟨hrk,hkm,hlt⟩);obtain ⟨fr,hfr⟩:∃fr,ρ k=fr:=⟨_,rfl⟩
   rw [hfr] at c0 HEX;have EFR:=hid hfr;clear HG hrk hkm hfr;go_wp2_with fail;refine HEX.out.mono ?_;rintro e w2 ⟨gs2,rfl,h1,h2⟩;have WK2:=hid h1;have BL2:=hid (zXA BL.out h2);have SZ2:Hid (B≤w2.heap.size):=Nat.le_trans SZ.out h2.size;have s3:=h1.1.at (i:=2) rfl;have H1:Hid (zYH B w bs Bl Bh Ba lv (.slice (some ⟨Bp,0,none⟩) r sc) m n r ρ γ gs2 (swpX X fr k) kw k r (.int .i64 ((0:Nat):Int)) w2):=⟨0,rfl,Nat.zero_le _,rfl,h1.rows fun a _=>by unfold orL;rw [if_neg (by omega)],BL2.out,SZ2.out⟩
   clear HEX h1 h2 WK BL SZ c0 s2 WK2;go_wp2_with fail;clear s3
   go_loopg [31] r (fun gk s31 wx=>zYH B w bs Bl Bh Ba lv (.slice (some ⟨Bp,0,none⟩) r sc) m n r ρ γ gs2 (swpX X fr k) kw k gk s31 wx)
   case atStart=>exact H1.out
   case round =>
    clear H1;obtain ⟨l,rfl,hlr,hgk,hwk,hbel,hsz⟩:=hrel;have WK:=hid hwk;have BL:=hid hbel;have SZ:=hid hsz;have HG2:=hid hgk;clear hwk hbel hsz hgk
    by_cases hll:l<r
    ·have hll':(l:Int)<(r:Int):=by omega
     obtain ⟨e1,e2,hc⟩:=CELS.out wr _ _ _ WK.out;obtain ⟨d0,d1,-⟩:=hc l hll;have el:orL ρ k l l=ρ l:=if_neg (by omega);rw [el] at d0;obtain ⟨V,hV⟩:∃V,wr.alloc (.cells #[.int .i64 (ρ l:Int),.int .i64 (γ l:Int)] 113)=V:=⟨_,rfl⟩
     obtain ⟨bv,szv⟩:=alo1 wr (.cells #[.int .i64 (ρ l:Int),.int .i64 (γ l:Int)] 113);rw [hV] at bv szv;have dV:Cel V wr.heap.size 113 [.int .i64 (ρ l:Int),.int .i64 (γ l:Int)]:=by rw [←hV];exact Cel.new wr _ _
     have v0:=dV.at (i:=0) rfl;have WKV:=hid (WK.out.now bv);have BLV:Hid (Below B w V):=zXA BL.out ⟨bv.os,bv.tape,bv.output,bv.size,fun b hb=>bv.block b (by have:=SZ.out;omega)⟩;have SZV:Hid (B≤V.heap.size):=by unfold Hid;have:=SZ.out;omega
     have HM2:Hid (r-(l+1)<gk):=by unfold Hid;rw [HG2.out];omega
     have hwl:=zYA (i:=l) (by omega);have z2:=WKV.out.1.at (i:=2) rfl;obtain ⟨-,-,hcV⟩:=CELS.out V _ _ _ WKV.out;obtain ⟨y0,-,y2⟩:=hcV l hll;rw [el] at y0;have EV:=hid hV;rw [←hV] at v0 z2 y0 y2;have HBP:=hid e1;clear HG2 bv szv dV hV WK BL SZ hc hcV e1 e2 el
     by_cases hq:ρ l=k
     ·have hq':((ρ l:Nat):Int)=(k:Int):=by omega
      have HN1:Hid (zYH B w bs Bl Bh Ba lv (.slice (some ⟨Bp,0,none⟩) r sc) m n r ρ γ gs2 (swpX X fr k) kw k (r-(l+1)) (.int .i64 ((l+1:Nat):Int)) (V.setCell ⟨Bp,l*2,none⟩ (.int .i64 (fr:Int)))):=by
       refine ⟨l+1,rfl,by omega,rfl,(WKV.out.put hll).rows fun a ha=>?_,bset BLV.out HBP.out,by have:=SZV.out;simpa using this⟩;unfold updF orL
       by_cases q:a=l
       ·subst q;rw [if_pos rfl,if_pos ⟨by omega,hq⟩,EFR.out]
       ·rw [if_neg q]
        by_cases q2:a<l∧ρ a=k
        ·rw [if_pos q2,if_pos ⟨by omega,q2.2⟩]
        ·rw [if_neg q2,if_neg (by omega)]
      rw [hq] at d0 v0 y0 y2 z2 EV;clear hq hq' WKV BLV SZV;go_wp2_with fail;rw [EV.out];go_roundg (r-(l+1))
      case rel=>exact HN1.out
      case measure=>exact HM2.out
     ·have hq':¬((ρ l:Nat):Int)=(k:Int):=by omega
      have HN1:Hid (zYH B w bs Bl Bh Ba lv (.slice (some ⟨Bp,0,none⟩) r sc) m n r ρ γ gs2 (swpX X fr k) kw k (r-(l+1)) (.int .i64 ((l+1:Nat):Int)) V):=by
       refine ⟨l+1,rfl,by omega,rfl,WKV.out.rows fun a ha=>?_,BLV.out,SZV.out⟩;unfold orL
       by_cases q:a=l
       ·subst q;rw [if_neg (by omega),if_neg (fun h=>hq h.2)]
       ·by_cases q2:a<l∧ρ a=k
        ·rw [if_pos q2,if_pos ⟨by omega,q2.2⟩]
        ·rw [if_neg q2,if_neg (by omega)]
      have hq2:¬ρ l=k:=hq;clear WKV BLV SZV y0 y2 z2;go_wp2_with fail;rw [EV.out];go_roundg (r-(l+1))
      case rel=>exact HN1.out
      case measure=>exact HM2.out
    ·have hll':¬(l:Int)<(r:Int):=by omega
     obtain rfl:l=r:=by omega
     obtain ⟨e1,e2,hc⟩:=CELS.out wr _ _ _ WK.out;obtain ⟨d0,-,d2⟩:=hc k HKM.out.2.2;have z2:=WK.out.1.at (i:=2) rfl;have HN1:Hid (zII B w bs Bl Bh Ba lv (.slice (some ⟨Bp,0,none⟩) l sc) m n l γ A kw (l-(k+1)) (.int .i64 ((k+1:Nat):Int)) (wr.setCell ⟨Bp,k*2,none⟩ (.int .i64 (k:Int)))):=by
      obtain ⟨q1,q2⟩:=HB.out.swap HKM.out.2.2 HKM.out.2.1 HID.out;rw [EFR.out] at q1;refine ⟨k+1,ordR ρ k,gs2,_,rfl,by have:=HKM.out;omega,rfl,(WK.out.put HKM.out.2.2).rows fun a ha=>?_,q1,q2,bset BL.out e1,by have:=SZ.out;simpa using this⟩;unfold updF orL ordR
      by_cases q:a=k
      ·rw [if_pos q,if_pos q]
      ·rw [if_neg q,if_neg q]
       by_cases q2:ρ a=k
       ·rw [if_pos ⟨ha,q2⟩,if_pos q2]
       ·rw [if_neg (fun h=>q2 h.2),if_neg q2]
     obtain ⟨dv,hdv⟩:∃dv,orL ρ k l k=dv:=⟨_,rfl⟩
     rw [hdv] at d0;clear WK BL SZ HG2 e1 e2 hc hdv;go_wp2_with fail;go_roundg (l-(k+1))
     case rel=>exact HN1.out
     case measure=>exact HMM.out
  ·have hlt':¬(k:Int)<(r:Int):=by omega
   obtain rfl:k=r:=by omega
   have FF:Hid (zeI B w bs Bl Bh Ba lv (.slice sa k sc) m n k γ A kw (.returned (.tuple #[])) wr):=⟨gs,X,rfl,WK.out.rows fun a ha=>HID.out a ha,HB.out.fin HID.out,BL.out⟩
   clear WK HB HID BL SZ HG;go_wp2;go_end0;exact FF.out
def zGI (B:Nat) (w:World) (bs Bl Bh Ba:Nat) (lv:Value) (m n:Nat) (gs:Nat→Nat) (A:Nat→Nat→Int) (kw gk:Nat) (s:Value) (wx:World):Prop :=
 ∃(i:Nat) (sv:Value) (r:Nat) (ρ γ:Nat→Nat) (X:Nat→Nat→Int),s=.int .i64 (i:Int)∧i≤m∧gk=m-i∧Wk18 B wx bs Bl Bh Ba lv sv m n r ρ γ gs X kw∧Hb18 m n i r ρ γ X A∧Below B w wx∧B≤wx.heap.size
def zdI (B:Nat) (w:World) (bs Bl Bh Ba:Nat) (lv:Value) (m n:Nat) (A:Nat→Nat→Int) (kw:Nat) (e:Ending) (w':World):Prop :=
 ∃sv r γ gs X,e=.returned (.tuple #[])∧Wk18 B w' bs Bl Bh Ba lv sv m n r id γ gs X kw∧Hb18 m n m r id γ X A∧Below B w w'
theorem settleAll18 {B bs Bl Bh Ba m n kw T:Nat} {w:World} {lv:Value} {ρ γ gs:Nat→Nat} {A:Nat→Nat→Int} (h:Wk18 B w bs Bl Bh Ba lv (.slice none 0 0) m n 0 ρ γ gs A kw) (hTb:Tb18 m n A T) (hbs:B≤bs) (hB:B≤w.heap.size) (hm:m≤64) (hn:n≤64) (hT:((bd18 T 128:Nat):Int)<pw kw) (hk1:1≤kw) (hK:kw≤68719476736) :
  Calls Tryz.prog 31 #[.pointer (some ⟨bs,0,none⟩),.int .i64 (m:Int)] w (zdI B w bs Bl Bh Ba lv m n A kw):=by
 have H0:Hid (zGI B w bs Bl Bh Ba lv m n gs A kw m (.int .i64 ((0:Nat):Int)) w):=⟨0,_,0,ρ,γ,A,rfl,Nat.zero_le _,rfl,h,Hb18.first m n ρ γ A,Below.refl _ _,hB⟩
 have HTB:=hid hTb;have HBS:=hid hbs;have HT:=hid hT;have Hk1:=hid hk1;have HK:=hid hK;clear h hTb hbs hB hT hk1 hK;go_enter Tryz.func31,Tryz.ntmps31;go_wp2_with fail
 go_loopg [6] m (fun gk s6 wx=>zGI B w bs Bl Bh Ba lv m n gs A kw gk s6 wx)
 case atStart=>exact H0.out
 case round =>
  clear H0;obtain ⟨i,sv,r,ρ,γ,X,rfl,him,hgk,hwk,hhb,hbel,hsz⟩:=hrel
  by_cases hlt:i<m
  ·have hlt':(i:Int)<(m:Int):=by omega
   have hwi:=zYA (i:=i) (by omega);have HSE:=hid (settle18 hwk hhb HTB.out hlt HBS.out hsz hm hn HT.out Hk1.out HK.out);have BL:=hid hbel;have SZ:=hid hsz;have HMM:Hid (m-(i+1)<gk):=by unfold Hid;omega
   clear hwk hhb hbel hsz hgk;go_wp2_with fail;refine HSE.out.mono ?_;rintro e w2 ⟨sv',r',ρ',γ',X',rfl,h1,h2,h3⟩;have HN1:Hid (zGI B w bs Bl Bh Ba lv m n gs A kw (m-(i+1)) (.int .i64 ((i+1:Nat):Int)) w2):=⟨i+1,sv',r',ρ',γ',X',rfl,by omega,rfl,h1,h2,zXA BL.out h3,Nat.le_trans SZ.out h3.size⟩
   clear HSE h1 h2 h3 BL SZ;go_wp2_with fail;go_roundg (m-(i+1))
   case rel=>exact HN1.out
   case measure=>exact HMM.out
  ·have hlt':¬(i:Int)<(m:Int):=by omega
   obtain rfl:i=m:=by omega
   have HOR:=hid (order18 hwk hhb hsz hm hn);have BL:=hid hbel;clear hwk hhb hbel hsz hgk;go_wp2_with fail;refine HOR.out.mono ?_;rintro e w2 ⟨gs',X',rfl,h1,h2,h3⟩;have FF:Hid (zdI B w bs Bl Bh Ba lv i n A kw (.returned (.tuple #[])) w2):=⟨sv,r,γ,gs',X',rfl,h1,h2,zXA BL.out h3⟩
   clear HOR h1 h2 h3 BL;go_wp2;go_end0;exact FF.out
open Go.RowKit Go.Shelf
attribute [local go_sem] Oper.semAt_some
theorem wpList_append_sht18 (w:World) {ops:Array Oper} {rest:List Oper} {o:Oper} {a:Act} {Q:Exit→Act→World→Prop}
  (hgd:o.guard=none) (s x:Operand) (hop:o.op=.call { callee:=.builtin .append,args:=#[s,x],argTypes:=#[51,51] })
  (B c k:Nat) (v:Value) (gs:List Nat) (m:List (List Int)) (hs:a.eval s=v) (hB:ShtM B w v c gs m k) (q gx:Nat) (hx:a.eval x=.slice (some ⟨q,0,none⟩) 1 1) (hc0:w.cell? ⟨q,0,none⟩=some (.slice (some ⟨gx,0,none⟩) c c))
  (ps:List (Value×Value)) (zs:List Int) (hA:Arr w gx ps) (hz:Zms w ps zs k) (hzl:zs.length=c) (hgx:B≤gx) (hnew:∀g∈gs,g≠gx) (hlen:m.length<64) (hBs:B≤w.heap.size)
  (hK:∀g' l' cap' w',Hid (ShtM B w' (.slice (some ⟨g',0,none⟩) l' cap') c (gs ++ [gx]) (m ++ [zs]) k)→Hid (w.grownBy w' v.ownBlock)→Hid (∀b,v.ownBlock=some b→B≤b∧∃L,w.heap[b]?=some (.cells L 22 (0,0)))→wpList Tryz.prog ops Q rest (a.put o.dst (.slice (some ⟨g',0,none⟩) l' cap')) w') :
  wpList Tryz.prog ops Q (o :: rest) a w:=by
 obtain ⟨i,hii,hzz,hsz,hby⟩:=info_parts Tryz.infoL9;obtain ⟨h1,h2,h3,h4,h5,h6⟩:=hB;have ea:∀j,(⟨q,0,none⟩:Addr).add j=⟨q,j,none⟩:=fun j=>by unfold Addr.add;split <;> simp_all
 refine wpList_append_lies w hgd s x 51 hop B 22 i (.slice none 0 0) 1 24 Tryz.underlying51 hii hzz hsz hby rfl (by omega) v gs.length (gs.map (rowv c)) hs h1 ⟨q,0,none⟩ 1 1 [rowv c gx] hx rfl ?_ ?_ (by omega) (by unfold maxLen;omega) (by omega) hBs w.heap.size rfl ?_
 ·intro j u' hj
  match j,hj with
  | 0,hj=>simp at hj;subst hj;rw [ea];exact hc0
 ·intro u' hu'
  simp at hu';subst hu'
  rfl
 ·intro g' cap' w' k1 k2 k3 k4
  have ht:=Ty.grown h1 k2;have hown:∀b,v.ownBlock=some b→B≤b∧∃L,w.heap[b]?=some (.cells L 22 (0,0)):=fun b hb=>by
   obtain ⟨_,⟨r2,_⟩ | ⟨g2,cap,cur,r2,r3,r4,r5⟩⟩:=h1
   ·rw [r2] at hb;cases hb
   ·rw [r2] at hb
    simp only [Value.ownBlock,Option.some.injEq] at hb;subst hb;exact ⟨r3,cur,r4⟩
  refine hK g' _ cap' w' ⟨by rw [List.length_append,List.map_append];exact k1,?_,by simp [h3],?_,?_,fun j g hg=>?_⟩ k2 hown
  ·intro s t g hs ht
   have hs1:=(List.getElem?_eq_some_iff.1 hs).1;have ht1:=(List.getElem?_eq_some_iff.1 ht).1;simp at hs1 ht1
   by_cases p1:s<gs.length
   ·rw [List.getElem?_append_left p1] at hs
    by_cases p2:t<gs.length
    ·rw [List.getElem?_append_left p2] at ht
     exact h2 s t g hs ht
    ·rw [List.getElem?_append_right (by omega)] at ht
     have:t-gs.length=0:=by omega
     rw [this] at ht;simp at ht;exact absurd ht.symm (hnew g (List.mem_of_getElem? hs))
   ·by_cases p2:t<gs.length
    ·rw [List.getElem?_append_left p2] at ht
     rw [List.getElem?_append_right (by omega)] at hs;have:s-gs.length=0:=by omega
     rw [this] at hs;simp at hs;exact absurd hs.symm (hnew g (List.mem_of_getElem? ht))
    ·omega
  ·intro g hg
   rcases List.mem_append.1 hg with r | r
   ·exact h4 g r
   ·simp at r;subst r;exact hgx
  ·intro r hr
   rcases List.mem_append.1 hr with q' | q'
   ·exact h5 r q'
   ·simp at q';subst q';exact hzl
  ·have carry:∀g ps',Arr w g ps'→Arr w' g ps':=fun g ps' hA'=>⟨ht.2 g _ _ _ hA'.1 (by decide),hA'.2⟩
   by_cases p:j<gs.length
   ·rw [List.getElem?_append_left p] at hg
    obtain ⟨ps',r1,r2⟩:=h6 j g hg;have e:zeB (m ++ [zs]) j=zeB m j:=by simp [zeB,List.getElem?_append_left (show j<m.length by omega)]
    rw [e];exact ⟨ps',carry _ _ r1,r2.ty ht (by decide)⟩
   ·have hj:j=gs.length:=by have:=(List.getElem?_eq_some_iff.1 hg).1;simp at this;omega
    subst hj;simp at hg;subst hg;have e:zeB (m ++ [zs]) gs.length=zs:=by simp [zeB,h3]
    rw [e];exact ⟨ps,carry _ _ hA,hz.ty ht (by decide)⟩
def zQH (w:World) (Bw c k:Nat) (m:List (List Int)) (s:Nat×List Nat) (W:World):Prop :=
 ∃a n q,Cel W Bw 51 [.slice a n q]∧ShtM s.1 W (.slice a n q) c s.2 (m.take s.2.length) k∧s.2.length≤m.length∧Below w.heap.size w W∧w.heap.size≤s.1∧(s.2=[]→Value.slice a n q=.slice none 0 0)
theorem zQH.own {w:World} {Bw c k B:Nat} {m:List (List Int)} (hB:w.heap.size≤B):OwnFrom B (zQH w Bw c k m):=fun s W W' row hs hg hr=>by
 obtain ⟨a,n,q,h1,h3,h4,h5,h6,h7⟩:=hs;have hk:=zfC hg (fun r e=>(hr r e).2);exact ⟨a,n,q,hk.cel h1,h3.kc hk,h4,h5.grown hg h5.size (fun k e=>Nat.le_trans hB (hr k e).1),h6,h7⟩
def lm18 (m:List (List Int)):Nat→Nat→Int:=fun i j=>(zeB m i).getD j 0
theorem ShtM.sh18 {B c k:Nat} {w:World} {lv:Value} {gs:List Nat} {m:List (List Int)} (h:ShtM B w lv c gs m k) (hnil:m.length=0→lv=.slice none 0 0):Sh17 B w lv m.length c (fun i=>gs.getD i 0) (lm18 m) k:=by
 obtain ⟨h1,h2,h3,h4,h5,h6⟩:=h;have hat:∀i,i<m.length→gs[i]?=some (gs.getD i 0):=fun i hi=>by rw [List.getD_eq_getElem?_getD,List.getElem?_eq_getElem (by omega)];simp
 refine ⟨?_,fun i j hi hj e=>?_,fun i hi=>⟨h4 _ (List.mem_of_getElem? (hat i hi)),?_⟩⟩
 ·rcases h1.2 with ⟨e,e0⟩ | ⟨g,cap,cur,e,e0,e1,e2,e3,e4,e5⟩
  ·exact .inl ⟨by omega,e⟩
  ·by_cases q:m.length=0
   ·exact .inl ⟨q,hnil q⟩
   ·refine .inr ⟨by omega,g,cap,cur.toList.drop m.length,by rw [e,h3],by omega,e0,?_⟩
    have e6:gv17 m.length c (fun i=>gs.getD i 0)=gs.map (rowv c):=by
     apply List.ext_getElem?
     intro t
     by_cases q:t<m.length
     ·simp only [gv17,List.getElem?_map,List.getElem?_range q,hat t q,Option.map_some]
     ·rw [List.getElem?_eq_none (by simp [gv17];omega),List.getElem?_eq_none (by simp;omega)]
    have e7:gs.map (rowv c) ++ cur.toList.drop m.length=cur.toList:=by
     rw [←e5,h3,Nat.mul_one,List.take_append_drop]
    rw [e6,e7]
    show w.heap[g]?=some (.cells cur.toList.toArray _ _)
    simpa using e1
 ·exact h2 i j _ (hat i hi) (by rw [hat j hj];exact congrArg some e.symm)
 ·obtain ⟨ps,p1,p2⟩:=h6 i _ (hat i hi)
  refine ⟨ps,p1,?_⟩;have e:(List.range c).map (lm18 m i)=zeB m i:=by
   have hl:(zeB m i).length=c:=h5.at hi
   apply List.ext_getElem?
   intro t
   by_cases q:t<c
   ·rw [List.getElem?_map,List.getElem?_range q]
    show some ((zeB m i).getD t 0)=_
    rw [List.getD_eq_getElem?_getD,List.getElem?_eq_getElem (by omega)];simp
   ·rw [List.getElem?_eq_none (by simp;omega),List.getElem?_eq_none (by omega)]
  rw [e];exact p2
def zPH (w:World) (c:Nat) (m:List (List Int)) (k:Nat) (e:Ending) (w':World):Prop:=∃lv gs,e=.returned lv∧Sh17 w.heap.size w' lv m.length c gs (lm18 m) k∧Below w.heap.size w w'
theorem zSF {w:World} {v:Value} {r c:Nat} {zs:List Int} {k:Nat} (h:Mx w v r c zs k):Calls Tryz.prog 16 #[v] w (zPH w c (rowsL r c zs) k):=by
 have M0:=hid h;refine (callsIn_wide (n:=5)).1 ?_;obtain ⟨aa,ca,rfl,hr,hc⟩:=h.form;have HZL:Hid (zs.length=r*c):=by obtain ⟨_,_,_,_,_,h,_⟩:=h;exact h
 obtain ⟨la,hla⟩:∃la,r*c=la:=⟨_,rfl⟩
 rw [hla] at M0 ⊢;obtain ⟨W0,hW⟩:∃W0,(w.alloc (matO r c (.slice aa la ca))).alloc (.cells #[.slice none 0 0] 51)=W0:=⟨_,rfl⟩
 obtain ⟨b0,sz0⟩:=zSA w (matO r c (.slice aa la ca)) (.cells #[.slice none 0 0] 51);rw [hW] at b0 sz0;have pa:Cel W0 w.heap.size 24 (matc r c (.slice aa la ca)):=by
  rw [←hW];exact (Cel.new w 24 (matc r c (.slice aa la ca))).step ((Below.refl _ _).alloc (Nat.le_refl _) _)
 have PW:Hid (Cel W0 (w.heap.size+1) 51 [.slice none 0 0]):=by
  unfold Hid;rw [←hW];have:=Cel.new (w.alloc (matO r c (.slice aa la ca))) 51 [.slice none 0 0]
  simpa using this
 have HLI:=hid (lines_yes (M0.out.now b0));have x0:=pa.at (i:=0) rfl;have x1:=pa.at (i:=1) rfl;have x2:=pa.at (i:=2) rfl;rw [←hW] at x0 x1 x2;have G0:=hid b0;have EW:=hid hW;have SZ:=hid sz0;clear h hla b0 sz0 hW pa M0;refine callsIn_of_wp_marks Tryz.func16 rfl trivial ?_ rfl;simp only [Tryz.ntmps16,List.size_toArray,List.length_cons,List.length_nil,Nat.reduceAdd,Nat.reduceSub,Array.replicate_succ,Array.replicate_zero,List.push_toArray,List.append_toArray,List.nil_append,List.cons_append];gi_wp2_with fail;rw [EW.out];clear EW;refine ⟨trivial,(callsIn_wide.2 HLI.out).mono ?_⟩;rintro e w1 ⟨Bs,ga,ps,rfl,q1,q2,q3,q4,q5,b⟩;have HQ3:=hid q3;have HQ5:=hid q5;have HB1:=hid b;have HQ1:=hid q1;have G1:=hid (below_step G0.out b);replace PW:=hid (PW.out.step b);have hs1:=b.size;have hsz:=SZ.out;clear q1 q3 q5 b x0 x1 x2 HLI G0;gi_wp2_with fail;have hml:(rowsL r c zs).length=r:=zZB;refine rangeW (σ:=Nat×List Nat) (α:=Nat×Nat) (by decide) rfl (enters_of Tryz.func49 (by kernel_rfl) rfl) (encL c) (fun _=>rfl)
  (zQH w (w.heap.size+1) c k (rowsL r c zs)) (zQH.own (by omega)) (AtL k (rowsL r c zs)) (fun s x=>AtL.own s x) (fun s x=>(s.1,s.2 ++ [x.2]))
  (fun s=>KpL (· = w.heap.size+1) s.1) (fun h h'=>h.trans h') (fun s W l o o' _ h1 h2=>KpL.put h1 h2) (fun s=>s.2=[]∧w.heap.size≤s.1) (fun s=>s.2.length=r) ?ini ?it (fun x=>{ tmps:=#[matv r c (.slice aa la ca),.pointer (some ⟨w.heap.size,0,none⟩),.slice none 0 0,.pointer (some ⟨w.heap.size+1,0,none⟩),undef,.slice (some ⟨x.2,0,none⟩) c c,.agg #[.int .i64 (r:Int),.int .i64 (c:Int),.slice aa la ca],.func (.func 49) #[] #[.pointer (some ⟨Bs,0,none⟩)],.int .i64 (x.1:Int),.slice (some ⟨x.2,0,none⟩) c c,undef,undef,undef,undef,undef],defers:=[] }) ?assign ?body ?done
 case ini =>
  rintro ⟨B,gs⟩ ⟨rfl,hB⟩;exact ⟨_,_,_,PW.out,ShtM.nil _ _ _ _,Nat.zero_le _,G1.out,hB,fun _=>rfl⟩
 case it =>
  intro l J' W hW hJ hJb hJ0 hY;have c1:Cel W Bs 24 (matc r c (.slice (some ⟨ga,0,none⟩) (r*c) (r*c))):=HQ1.out.step hW;have ar:=HQ3.out.step hW;have zr:=HQ5.out.now hW;have hrc:r*c≤64*64:=Nat.mul_le_mul hr hc;have pr:Prs (w.heap.size+1+1+0) W (.slice (some ⟨ga,0,none⟩) (r*c) (r*c)) ps:=by
   have:=ar.prs (B:=w.heap.size+1+1+0) (by omega) (by omega) (cap:=r*c) (by omega);rw [q4] at this;exact this
  refine (lines1_in (by decide) J' c1 pr q4 zr.zis hr hc hJb (fun B hB=>hJ0 _ ⟨rfl,Nat.le_trans (Nat.le_trans G1.out.size hW.size) hB⟩) (fun s A h=>by
   obtain ⟨_,_,_,_,h3,_⟩:=hJ s A h;exact h3.lt) (by have:=hW.size;omega) (fun b off x hs e=>?_) (fun b hs=>Nat.le_of_eq hs) (fun s x X h1 h2 _=>hY s x X h1 h2)).mono (fun e Y h=>h)
  have hs':b=w.heap.size+1:=hs;subst hs';have d:=PW.out.step hW
  match off,e with
  | 0,e=>rw [d.at (i:=0) rfl] at e;simp at e
  | off+1,e=>simp [World.cell?,show W.heap[w.heap.size+1]?=_ from d] at e
 case assign =>
  intro l x W K hK;have HKK:=hid hK;clear hK;gi_wp2;exact HKK.out
 case body =>
  rintro l ⟨B,gs⟩ ⟨t,gx⟩ W ⟨a,n,q,h1,h3,h4,h5,h6,-⟩ ⟨k1,k2,k3,k4,k5,ps',k6,k7⟩;dsimp only at k1 k2 k3 k4 k5 k6 k7 h3 h4 h6 ⊢;obtain ⟨V,hV⟩:∃V,W.alloc (.cells #[.slice (some ⟨gx,0,none⟩) c c] 22)=V:=⟨_,rfl⟩
  obtain ⟨bv,szv⟩:=alo1 W (.cells #[.slice (some ⟨gx,0,none⟩) c c] 22);rw [hV] at bv szv;have cv:V.cell? ⟨W.heap.size,0,none⟩=some (.slice (some ⟨gx,0,none⟩) c c):=by rw [←hV];exact (Cel.new W 22 [.slice (some ⟨gx,0,none⟩) c c]).at (i:=0) rfl
  have CV:=hid cv;have kv:=kc_below bv;have X1:=hid (h1.step bv);have S3:=hid (h3.kc kv);have B5:=hid (below_step h5 bv);have A6:=hid (k6.step bv);have Z7:=hid (k7.now bv);have BV:=hid bv;have HB6:=hid h6;have hzl:(zeB (rowsL r c zs) gs.length).length=c:=(rows_wide HZL.out).at k2;have y1:=h1.at (i:=0) rfl;have EV:=hid hV;have HK4:Hid (B≤V.heap.size):=Nat.le_trans k4 bv.size;have HTL:Hid ((List.take gs.length (rowsL r c zs)).length<64):=by unfold Hid;rw [List.length_take];omega
  have HTS:Hid (List.take gs.length (rowsL r c zs) ++ [zeB (rowsL r c zs) gs.length]=List.take (gs ++ [gx]).length (rowsL r c zs)):=by
   unfold Hid;rw [List.length_append,List.length_singleton,List.take_succ_eq_append_getElem k2];simp [zeB,k2]
  have HK5:=hid k5;refine wpIn_block (region_roundL (hno_of11 (by kernel_rfl)) (by rintro ⟨a,w,h⟩;cases h.1) ?_);clear h1 h3 h5 h6 k5 k6 k7 kv bv szv hV cv;dsimp only;go_wp2_with (at_builtin;rw [EV.out];refine wpList_append_sht18 V rfl (.tmp 10) (.tmp 12) rfl B c k _ gs _ rfl S3.out W.heap.size gx rfl CV.out ps' _ A6.out Z7.out hzl k3 HK5.out HTL.out HK4.out ?_)
  intro g' l' cap' w3 hS hg hown;have kcv:∀(b:Nat) (T:TypeId) (L:List Value),Cel V b T L→T≠22→Cel w3 b T L:=fun b T L d hT=>by
   refine (hg.out.block b d.blk (fun e=>?_)).trans d;obtain ⟨_,L',q'⟩:=hown.out b e.symm;have:=q'.symm.trans (show V.heap[b]?=_ from d);simp at this;exact hT this.2.symm
  have Y1:=hid (kcv _ _ _ X1.out (by decide));have y0:=Y1.out.at (i:=0) rfl;have f0:=Y1.out.fz 0;obtain ⟨U,hU⟩:∃U,w3.setCell ⟨w.heap.size+1,0,none⟩ (.slice (some ⟨g',0,none⟩) l' cap')=U:=⟨_,rfl⟩
  have FJ:Hid (zQH w (w.heap.size+1) c k (rowsL r c zs) (B,gs ++ [gx]) U):=by
   unfold Hid;rw [←hU];refine ⟨_,_,_,Y1.out.set 0 _,?_,by rw [List.length_append];simp;omega,bset ?_ (by omega),HB6.out,fun q=>by simp at q⟩
   ·have:=hS.out.off (i:=0) (u:=.slice (some ⟨g',0,none⟩) l' cap') Y1.out (by decide) (by decide) (by decide)
    rw [HTS.out] at this;exact this
   ·exact B5.out.trans ⟨hg.out.os,hg.out.tape,hg.out.output,hg.out.size,fun b hb=>hg.out.block b (Nat.lt_of_lt_of_le hb B5.out.size) (fun e=>by have:=(hown.out b e.symm).1;have:=HB6.out;omega)⟩
  have FK:Hid (KeepsFrom w1.heap.size W U):=by
   unfold Hid;rw [←hU];refine ⟨by simp;exact Nat.le_trans BV.out.size hg.out.size,fun j o hj e ho=>?_⟩;have e1:=(BV.out.block j (Array.getElem?_eq_some_iff.1 e).1).trans e;have e2:=(hg.out.block j (Array.getElem?_eq_some_iff.1 e1).1 (fun q'=>by
    obtain ⟨_,L',q''⟩:=hown.out j q'.symm;rw [e1,Option.some.injEq] at q'';subst q'';cases ho)).trans e1
   refine (Below.heap_setCell w3 _ _ j (fun q'=>?_)).trans e2;have q'':j=w.heap.size+1:=by simpa using q'
   subst q'';have:=e2.symm.trans (show w3.heap[_]?=_ from Y1.out);rw [Option.some.injEq] at this;subst this;cases ho
  have FP:Hid (KpL (· = w.heap.size+1) B W U):=by
   unfold Hid;rw [←hU];refine ⟨by simp;exact Nat.le_trans BV.out.size hg.out.size,fun j o hj hne e ho=>?_⟩;have e1:=(BV.out.block j (Array.getElem?_eq_some_iff.1 e).1).trans e;have e2:=(hg.out.block j (Array.getElem?_eq_some_iff.1 e1).1 (fun q'=>by have:=(hown.out j q'.symm).1;omega)).trans e1;exact (Below.heap_setCell w3 _ _ j (fun q'=>hne (by simpa using q'))).trans e2
  have EU:=hid hU;clear hU hS hg hown kcv X1 S3 B5 A6 Z7 BV CV HTS HTL HK4 HK5 EV y1;go_wp2;rw [EU.out];exact ⟨trivial,FK.out,FJ.out,FP.out⟩
 case done =>
  rintro D ⟨B,gs⟩ W hDs hl ⟨a,n,q,h1,h3,h4,h5,h6,h7⟩ hD;dsimp only at hl h3 h6;have x0:=h1.at (i:=0) rfl;have kg:=zfC (grownBy_putObj' W D (.deferred none)) (fun r e=>by cases e;exact ⟨_,hD,rfl⟩);have BB:=h5.trans (belowK_b (w:=w) (Nat.le_refl _) _ D _ (.deferred none) (by have:=G1.out.size;omega) hD rfl rfl);have HZ:Hid (zPH w c (rowsL r c zs) k (.returned (.slice a n q)) (W.putObj D (.deferred none))):=by
   have s3:=h3.kc kg;rw [hl,List.take_of_length_le (by omega)] at s3;obtain ⟨z1,z2,z3,z4,z5,z6⟩:=s3;exact ⟨_,_,rfl,ShtM.sh18 ⟨owns_mono11 z1 h6,z2,z3,fun g hg=>Nat.le_trans h6 (z4 g hg),z5,z6⟩ (fun q=>h7 (List.eq_nil_of_length_eq_zero (by omega))),BB⟩
  have HK:=hid hD;clear h1 h3 h4 h5 kg BB hD;gi_wp2;refine ⟨by simp,.inl ⟨_,_,rfl,run_takeDeferred HK.out,?_⟩⟩;exact ⟨_,by simp [results,Tryz.results16,go_sem],HZ.out⟩
end Go.Proofs.YtefpboopafdhpaaGreat
