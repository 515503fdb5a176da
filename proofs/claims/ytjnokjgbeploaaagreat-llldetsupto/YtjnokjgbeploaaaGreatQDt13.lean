import Derived.Test.YtjnokjgbeploaaaGreatQDe13
import Derived.Test.YtjnokjgbeploaaaGreatQChkN9ToLeastA9
set_option maxRecDepth 100000
set_option maxHeartbeats 6400000
set_option linter.unusedVariables false
set_option linter.unusedSimpArgs false
namespace Go.Proofs.YtjnokjgbeploaaaGreat
open Go.RowKit
theorem Stz.le {A:Nat→Nat→Int} {n i:Nat} {rs cs:List Nat} {odd:Bool} (h:Stz A n i rs cs odd):rs.length≤i:=by
 have:rs.length≤(List.range i).length:=List.Nodup.length_le_of_subset (h.up.imp fun hab=>Nat.ne_of_lt hab) fun r hr=>by simpa using h.lt r hr
 simpa using this
theorem zdH {w:World} {v:Value} {n:Nat} {zs:List Int} {k:Nat} (h:Mx w v n n zs k):Calls Tryz.prog 24 #[v] w fun e w'=>e=.returned (.int .i64 0)∧Below w.heap.size w w':=by
 have M0:=h;obtain ⟨aa,ca,rfl,hr,hc⟩:=h.form;obtain ⟨la,hla⟩:∃la,n*n=la:=⟨_,rfl⟩
 rw [hla] at M0 ⊢;obtain ⟨W0,hW⟩:∃W0,w.alloc (matO n n (.slice aa la ca))=W0:=⟨_,rfl⟩
 obtain ⟨b0,sz0⟩:=alo1 w (matO n n (.slice aa la ca));rw [hW] at b0 sz0;have P0:Hid (Cel W0 w.heap.size 24 (matc n n (.slice aa la ca))):=by unfold Hid;rw [←hW];exact Cel.new w _ _
 have HC:=hid (zIB (M0.now b0));have G:=hid b0;have EW:=hid hW;clear h M0 b0 sz0 hW hla;go_enter Tryz.func24,Tryz.ntmps24;go_wp2_with fail;rw [EW.out];refine HC.out.mono ?_;rintro e w1 ⟨rfl,b⟩;have G1:=hid (zBA G.out b);have x0:=(P0.out.step b).at (i:=0) rfl;have x1:=(P0.out.step b).at (i:=1) rfl;clear HC b;go_wp2;go_ret;exact ⟨rfl,G1.out⟩
theorem det_sq {w:World} {v:Value} {n:Nat} {zs:List Int} {k:Nat} (h:Mx w v n n zs k) (hk:k≤4000000000):Calls Tryz.prog 83 #[v] w (zAE 0 w (det n (en n zs)) (64*k+7)):=by
 have M0:=h;obtain ⟨aa,ca,rfl,hn,-⟩:=h.form;obtain ⟨la,hla⟩:∃la,n*n=la:=⟨_,rfl⟩
 rw [hla] at M0 ⊢;obtain ⟨W0,hW⟩:∃W0,(w.alloc (matO n n (.slice aa la ca))).alloc zbox=W0:=⟨_,rfl⟩
 obtain ⟨b0,sz0⟩:=zjA w (matO n n (.slice aa la ca)) zbox;rw [hW] at b0 sz0;have PR:Hid (Duo W0 (w.heap.size+1) (.bool false) (.slice none 0 0)):=by
  unfold Hid;rw [←hW];have:=Duo.new (w.alloc (matO n n (.slice aa la ca))) (.bool false) (.slice none 0 0)
  simpa using this
 have PM:Hid (Cel W0 w.heap.size 24 (matc n n (.slice aa la ca))):=by
  unfold Hid;rw [←hW];exact (Cel.new w 24 (matc n n (.slice aa la ca))).step ((Below.refl _ _).alloc (Nat.le_refl _) _)
 have M1:=hid (M0.now b0);have HC:=hid (zdH M1.out);have G:=hid b0;have EW:=hid hW;have SZ:=hid sz0;have HKK:=hid hk;clear h M0 b0 sz0 hW hk hla;go_enter Tryz.func83,Tryz.ntmps83;go_wp2_with fail;rw [EW.out];clear EW;refine HC.out.mono ?_;rintro e w1 ⟨rfl,b⟩;replace PR:=hid (PR.out.step b);replace PM:=hid (PM.out.step b);have M1x:=hid (M1.out.now b);have G1:=hid (zBA G.out b);have lz1:=b.size;have x0:=PM.out.at (i:=0) rfl;have x1:=PM.out.at (i:=1) rfl;have x2:=PM.out.at (i:=2) rfl;clear HC b M1 G;go_upto_region 4 with fail
 have KB:Hid (∀w',Below w1.heap.size w1 w'→w'.cell? ⟨w.heap.size,0,none⟩=some (.int .i64 (n:Int))∧w'.cell? ⟨w.heap.size,1,none⟩=some (.int .i64 (n:Int))∧w'.cell? ⟨w.heap.size,2,none⟩=some (.slice aa la ca)):=fun w' h=>⟨cnow h x0,cnow h x1,cnow h x2⟩
 refine zDA (fun w'=>w'.cell? ⟨w.heap.size,0,none⟩=some (.int .i64 (n:Int))∧w'.cell? ⟨w.heap.size,1,none⟩=some (.int .i64 (n:Int))∧w'.cell? ⟨w.heap.size,2,none⟩=some (.slice aa la ca)) 5 (by kernel_rfl) ?_;obtain ⟨D1,hD⟩:∃D1,w1.drew=D1:=⟨_,rfl⟩
 have GB:Hid (Below w1.heap.size w1 D1):=by unfold Hid;rw [←hD];exact (Below.refl _ _).drew
 rw [hD];clear hD;have D1Z:=GB.out.size;refine zAA (i:=0) (oi:=⟨some 11,.load 24 (.tmp 1),24, "bareiss.go:17",#[],none⟩) (v:=(matv n n (.slice aa la ca))) rfl (by kernel_rfl) (fun _ _ _ h=>h) (Or.inl ⟨by rfl,?_⟩) (KB.out _ GB.out) ?_
 ·intro w hSw;(try dsimp only at hSw);go_simp
 simp only [Act.put,sIb,sC0,sC1];refine zAA (i:=2) (oi:=⟨some 13,.fieldAddr 24 (.tmp 1) 0,0, "bareiss.go:17",#[],none⟩) (v:=(.pointer (some ⟨w.heap.size,0,none⟩))) rfl (by kernel_rfl) (fun _ _ _ h=>h) (Or.inl ⟨by rfl,?_⟩) (KB.out _ GB.out) ?_
 ·intro w hSw;(try dsimp only at hSw);go_simp
 simp only [Act.put,sIb,sC0,sC1];refine zAA (i:=3) (oi:=⟨some 14,.load 3 (.tmp 13),3, "bareiss.go:17",#[⟨2,.data⟩],none⟩) (v:=(.int .i64 (n:Int))) rfl (by kernel_rfl) (fun _ _ _ h=>h) (Or.inl ⟨by rfl,?_⟩) (KB.out _ GB.out) ?_
 ·intro w hSw;(try dsimp only at hSw);go_simp
 simp only [Act.put,sIb,sC0,sC1];refine zCA (i:=1) (o:=⟨some 12,.call { callee:=.value (.func 98),args:=#[.tmp 11],argTypes:=#[24] },76, "bareiss.go:17",#[⟨0,.data⟩],none⟩) (by kernel_rfl) rfl (fun K hK=>?_);go_simp;go_at_call 98;refine (stairsOf_any (M1x.out.now GB.out) HKK.out).mono ?_;rintro e w2 ⟨Bs,B,rs,cs,odd,ks,rfl,hs1,hz1,hb1,hb2,b⟩;have lz2:=(show Below _ _ _ from b).size;replace GB:=hid (zBA GB.out b);have HS1:=hid hs1;have HZ1:=hid hz1;clear hs1 hz1 hb1 hb2;clear b;refine hK.out _ _ (fun _=>KB.out _ GB.out) ?_;clear hK;refine zCA (i:=4) (o:=⟨some 15,.call { callee:=.value (.func 28),args:=#[.tmp 12,.tmp 14],argTypes:=#[76,3] },39, "bareiss.go:17",#[⟨1,.data⟩,⟨3,.data⟩,⟨1,.chain⟩],none⟩) (by kernel_rfl) rfl (fun K hK=>?_);go_simp;go_at_call 28;refine (ziD (kk:=n) HS1.out HZ1.out (by omega) hn (Nat.le_trans HZ1.out.le hn) (by omega)).mono ?_;rintro e w3 ⟨r0,rfl,m1,b⟩;have lz3:=(show Below _ _ _ from b).size;replace GB:=hid (zBA GB.out b);obtain ⟨nr,xr,ar,cr,rfl⟩:=m1.parts;have M1:=hid m1;clear m1;clear b;refine hK.out _ _ (fun _=>KB.out _ GB.out) ?_;clear hK;refine zCA (i:=5) (o:=⟨none,.store 39 (.tmp 2) (.tmp 15),0, "bareiss.go:17",#[⟨4,.data⟩,⟨4,.chain⟩,⟨0,.phase⟩,⟨1,.phase⟩,⟨2,.phase⟩,⟨3,.phase⟩,⟨4,.phase⟩],none⟩) (by kernel_rfl) rfl (fun K hK=>?_);replace PR:=hid (PR.out.step GB.out);have e0:=PR.out.c0;have e1:=PR.out.c1;have e2:=PR.out.fz 0;have e3:=PR.out.fz 1;go_simp;clear e0 e1 e2 e3;obtain ⟨V4,hW⟩:∃V4,((w3.setCell ⟨w.heap.size+1,0,none⟩ (.bool nr)).setCell ⟨w.heap.size+1,1,none⟩ (.slice ar xr.length cr))=V4:=⟨_,rfl⟩
 have FIN:Hid (zAE 0 w (det n (en n zs)) (64*k+7) (.returned (.tuple #[.agg #[.bool nr,.slice ar xr.length cr],.int .i64 0])) V4∧Duo V4 (w.heap.size+1) (.bool nr) (.slice ar xr.length cr)):=by
  unfold Hid;rw [←hW];have hd:=HZ1.out.lead (Nat.le_refl n);have g:=zSD M1.out (zBA G1.out GB.out) (show w.heap.size≤w.heap.size+1 by omega) (show w.heap.size+1<_ by have:=SZ.out;have:=lz1;have:=D1Z;omega);rw [show zYE (en n zs) rs cs odd n=det n (en n zs) from hd.symm] at g;obtain ⟨_,e,g1,g2⟩:=g;simp only [Ending.returned.injEq] at e;subst e;exact ⟨⟨_,rfl,g1,g2⟩,PR.out.set _ _⟩
 rw [hW];clear hW;refine hK.out _ _ (fun h=>absurd h (by decide)) ?_;clear hK
 try simp only [Act.put]
 refine zCA (i:=6) (o:=⟨some 3,.assign (.const (.int .i64 0)),26, "bareiss.go:17",#[⟨5,.chain⟩,⟨0,.phase⟩,⟨1,.phase⟩,⟨2,.phase⟩,⟨3,.phase⟩,⟨4,.phase⟩,⟨5,.phase⟩],none⟩) (by kernel_rfl) rfl (fun K hK=>?_);go_simp;refine hK.out _ _ (fun h=>absurd h (by decide)) ?_;clear hK
 try simp only [Act.put]
 refine zFA (by kernel_rfl) ?_ _;clear HS1 HZ1 M1 GB KB;go_wp2_with fail;exact bodyPost_ret (zoE Tryz.results83 FIN.out.2 _ (by rfl) (by rfl)) rfl FIN.out.1
end Go.Proofs.YtjnokjgbeploaaaGreat
