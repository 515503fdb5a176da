import Derived.Test.YtjnokjgbeploaaaGreatQUnit9ToBw8
import Derived.Test.YtjnokjgbeploaaaGreatQTailXToWk9
set_option maxRecDepth 100000
set_option maxHeartbeats 6400000
set_option linter.unusedVariables false
set_option linter.unusedSimpArgs false
namespace Go.Proofs.YtjnokjgbeploaaaGreat
open Go.RowKit
def zlB (r c:Nat) (zs:List Int):List Int:=(colsL r c zs 0).flatten
theorem turnL9_length {r c:Nat} {zs:List Int}:(zlB r c zs).length=c*r:=by
 have h:∀L:List (List Int),(∀x∈L,x.length=r)→L.flatten.length=L.length*r:=by
  intro L
  induction L with
  | nil=>simp
  | cons a t ih =>
   intro hL;rw [List.flatten_cons,List.length_append,ih (fun x hx=>hL x (by simp [hx])),hL a (by simp),List.length_cons,Nat.add_mul,Nat.one_mul,Nat.add_comm]
 unfold zlB;rw [h _ zeE];simp [colsL]
theorem Zis.append {w:World} {ps qs:List (Value×Value)} {zs ys:List Int} {k:Nat} (h:Zis w ps zs k) (h':Zis w qs ys k):Zis w (ps ++ qs) (zs ++ ys) k:=by
 refine ⟨by simp [h.1,h'.1],fun j p z hp hz=>?_⟩
 by_cases q:j<ps.length
 ·rw [List.getElem?_append_left q] at hp
  rw [List.getElem?_append_left (by rw [←h.1];exact q)] at hz;exact h.2 j p z hp hz
 ·rw [List.getElem?_append_right (by omega)] at hp
  rw [List.getElem?_append_right (by rw [←h.1];omega),←h.1] at hz;exact h'.2 _ p z hp hz
theorem Ziss.flat {w:World} {k:Nat}:∀ {pss:List (List (Value×Value))} {zss:List (List Int)},Ziss w pss zss k→Zis w pss.flatten zss.flatten k
 | [],[],_=>⟨rfl,fun j p z hp=>by simp at hp⟩
 | [],z :: zss,h=>by have:=h.1;simp at this
 | p :: pss,[],h=>by have:=h.1;simp at this
 | p :: pss,z :: zss,h=>by
  have h1:=h.2 0 p rfl;have h2:Ziss w pss zss k:=⟨by have:=h.1;simpa using this,fun j ps hp=>by simpa using h.2 (j+1) ps (by simpa using hp)⟩
  simpa using Zis.append h1 (Ziss.flat h2)
theorem zis_turn {w:World} {ps:List (Value×Value)} {zs:List Int} {k r c:Nat} (h:Zis w ps zs k) (hl:zs.length=r*c):Zis w (colsL r c ps zqA).flatten (zlB r c zs) k:=Ziss.flat (znE h hl)
abbrev zSC:Value:=.func (.func 37) #[] #[]
theorem eachLeast_any {w:World} {B k:Nat} {v:Value} {ps:List (Value×Value)} {zs:List Int} (hv:Prs B w v ps) (hz:Zis w ps zs k) :
  Calls Tryz.prog 36 #[v,zSC] w (zcB w zs k):=by
 have V0:=hid (zME hv hz);have HMP:Hid (zs=(List.range zs.length).map fun j=>zs.getD j 0):=by
  unfold Hid
  apply List.ext_getElem
  ·simp
  ·intro j h1 h2
   simp [h1]
 obtain ⟨a0,c0,rfl,hc0,hn0,hf0⟩:=V0.out.form9;obtain ⟨n,hn⟩:∃n,zs.length=n:=⟨_,rfl⟩
 rw [hn] at V0 hc0 hn0 HMP ⊢;have HN:=hid hn;have F0:=hid hf0;clear hv hz hf0 hn;go_enter Tryz.func36,Tryz.ntmps36;go_wp2_with (at_make;refine zUA _ rfl _ _ rfl _ _ n n rfl rfl rfl rfl (Nat.le_refl _) (by omega) ?_)
 intro w1 hrow hb1 hsz1;have H0:Hid (zKD w w.heap.size n (fun j=>zs.getD j 0) k n (.int .i64 0) w1):=⟨0,rfl,Nat.zero_le _,by omega,Fil.start hrow _ _,hb1⟩
 clear hrow hb1 hsz1;go_wp2_with fail
 go_loopg [13] n (fun gk s13 wx=>zKD w w.heap.size n (fun j=>zs.getD j 0) k gk s13 wx)
 case atStart=>exact H0.out
 case round =>
  clear H0;obtain ⟨i,rfl,hin,hg,hfil,hG⟩:=hrel;have FI:=hid hfil;have G:=hid hG;have HG:=hid hg;clear hfil hG hg
  by_cases hlt:i<n
  ·have hlt':(i:Int)<(n:Int):=by omega
   obtain ⟨b1,o1,rfl⟩:=F0.out (fun e=>by have:=HN.out;rw [e] at this;simp at this;omega);obtain ⟨nf,xf,adf,qf,k0,k1,zf⟩:=(V0.out.now G.out).at9 (i:=i) (by rw [HN.out];exact hlt);rw [zRC] at zf;obtain ⟨V1,hV⟩:∃V1,wr.alloc (duo (.bool nf) (.slice adf xf.length qf))=V1:=⟨_,rfl⟩
   obtain ⟨b,sz1⟩:=alo1 wr (duo (.bool nf) (.slice adf xf.length qf));rw [hV] at b sz1;have PN:Hid (Duo V1 wr.heap.size (.bool nf) (.slice adf xf.length qf)):=by unfold Hid;rw [←hV];exact Duo.new wr _ _
   have HS:=hid (zQC (zf.now b));have FI0:=hid (FI.out.step b);have G0:=hid (zBA G.out b);have n0:=PN.out.c0;have n1:=PN.out.c1;rw [←hV] at n0 n1;have EV:=hid hV;have hw:=zNA (i:=i) (by omega);clear zf b sz1 hV PN FI G;go_wp2_with fail;rw [EV.out];refine HS.out.mono ?_;rintro e w1 ⟨r,rfl,m1,b⟩;have FI1:=hid (FI0.out.step b);have G1:=hid (zBA G0.out b);have M1:=hid m1.zc;obtain ⟨nr,xr,ar,cr,rfl⟩:=m1.parts;obtain ⟨m0,am,lm,cm,e0,e1,e2,e3⟩:=FI1.out.cells hlt;have HN1:Hid (zKD w w.heap.size n (fun j=>zs.getD j 0) k (n-(i+1)) (.int .i64 ((i+1:Nat):Int)) ((w1.setCell ⟨w.heap.size,i*2,none⟩ (.bool nr)).setCell ⟨w.heap.size,i*2+1,none⟩ (.slice ar xr.length cr))) :=
    ⟨i+1,rfl,by omega,rfl,FI1.out.put hlt M1.out,bset (bset G1.out (Nat.le_refl _)) (Nat.le_refl _)⟩
   have HMM:Hid (n-(i+1)<gk):=by unfold Hid;rw [HG.out];omega
   clear HS FI0 G0 HG FI1 G1 M1 m1 b k0 k1 n0 n1 EV;go_wp2_with fail;go_roundg (n-(i+1))
   case rel=>exact HN1.out
   case measure=>exact HMM.out
  ·have hlt':¬(i:Int)<(n:Int):=by omega
   obtain rfl:i=n:=by omega
   obtain ⟨ps,p1,p2⟩:=FI.out.done (B:=w.heap.size) (Nat.le_refl _) hn0;rw [←HMP.out] at p2;have FIN:Hid (zcB w zs k (.returned (.slice (some ⟨w.heap.size,0,none⟩) i i)) wr):=⟨_,ps,rfl,p1,p2,G.out⟩
   clear FI G HG p1 p2;go_wp2;go_ret;exact FIN.out
theorem zoA {w W0:World} {o1:List Value} (hW:(w.alloc (.cells o1.toArray 24)).alloc mbox=W0) :
  Cel W0 w.heap.size 24 o1∧Cel W0 (w.heap.size+1) 24 [.int .i64 0,.int .i64 0,.slice none 0 0]:=by
 refine ⟨?_,?_⟩
 ·rw [←hW]
  exact (Cel.new w 24 o1).step ((Below.refl _ _).alloc (Nat.le_refl _) _)
 ·rw [←hW]
  have:=Cel.new (w.alloc (.cells o1.toArray 24)) 24 [.int .i64 0,.int .i64 0,.slice none 0 0]
  simpa using this
theorem least9_any {w:World} {v:Value} {r c:Nat} {zs:List Int} {k:Nat} (h:Mx w v r c zs k):Calls Tryz.prog 20 #[v] w (zhG w r c zs k):=by
 obtain ⟨at_,ps,rfl,p1,p2,p3,hr,hc⟩:=h;obtain ⟨W0,hW⟩:∃W0,(w.alloc (matO r c at_)).alloc mbox=W0:=⟨_,rfl⟩
 obtain ⟨b0,sz0⟩:=zjA w (matO r c at_) mbox;rw [hW] at b0 sz0;obtain ⟨pa,pr⟩:=zoA (o1:=matc r c at_) hW;have PR:=hid pr;have HS:Hid (∀w',Below W0.heap.size W0 w'→Calls Tryz.prog 36 #[at_,zSC] w' (zcB w' zs k)):=fun w' hb=>eachLeast_any ((p1.now b0).now hb) ((p2.now b0).now hb)
 have HL:=hid p3;obtain ⟨aa,ca,rfl,-,-,-,-⟩:=p1.form;generalize ps.length=la at *;have k0:=pa.at (i:=0) rfl;have k1:=pa.at (i:=1) rfl;have k2:=pa.at (i:=2) rfl;have G:=hid b0;have EW:=hid hW;have SZ:=hid sz0;clear p1 p2 p3 b0 sz0 hW pa pr;go_enter Tryz.func20,Tryz.ntmps20;go_wp2_with fail;rw [EW.out];clear EW;have KB:Hid (∀w',Below W0.heap.size W0 w'→w'.cell? ⟨w.heap.size,0,none⟩=some (.int .i64 (r:Int))∧w'.cell? ⟨w.heap.size,1,none⟩=some (.int .i64 (c:Int))∧w'.cell? ⟨w.heap.size,2,none⟩=some (.slice aa la ca)):=fun w' h=>⟨cnow h k0,cnow h k1,cnow h k2⟩
 refine zDA (fun w'=>w'.cell? ⟨w.heap.size,0,none⟩=some (.int .i64 (r:Int))∧w'.cell? ⟨w.heap.size,1,none⟩=some (.int .i64 (c:Int))∧w'.cell? ⟨w.heap.size,2,none⟩=some (.slice aa la ca)) 8 (by kernel_rfl) ?_;obtain ⟨D1,hD⟩:∃D1,W0.drew=D1:=⟨_,rfl⟩
 have GB:Hid (Below W0.heap.size W0 D1):=by unfold Hid;rw [←hD];exact (Below.refl _ _).drew
 rw [hD];clear hD;refine zAA (i:=0) (oi:=⟨some 3,.fieldAddr 24 (.tmp 1) 0,0, "mat.go:102",#[],none⟩) (v:=(.pointer (some ⟨w.heap.size,0,none⟩))) rfl (by kernel_rfl) (fun _ _ _ h=>h) (Or.inl ⟨by rfl,?_⟩) (KB.out _ GB.out) ?_
 ·intro w hSw;(try dsimp only at hSw);go_simp
 simp only [Act.put,sIb,sC0,sC1];refine zAA (i:=1) (oi:=⟨some 4,.load 3 (.tmp 3),3, "mat.go:102",#[⟨0,.data⟩],none⟩) (v:=(.int .i64 (r:Int))) rfl (by kernel_rfl) (fun _ _ _ h=>h) (Or.inl ⟨by rfl,?_⟩) (KB.out _ GB.out) ?_
 ·intro w hSw;(try dsimp only at hSw);go_simp
 simp only [Act.put,sIb,sC0,sC1];refine zAA (i:=2) (oi:=⟨some 5,.fieldAddr 24 (.tmp 1) 1,0, "mat.go:102",#[],none⟩) (v:=(.pointer (some ⟨w.heap.size,1,none⟩))) rfl (by kernel_rfl) (fun _ _ _ h=>h) (Or.inl ⟨by rfl,?_⟩) (KB.out _ GB.out) ?_
 ·intro w hSw;(try dsimp only at hSw);go_simp
 simp only [Act.put,sIb,sC0,sC1];refine zAA (i:=3) (oi:=⟨some 6,.load 3 (.tmp 5),3, "mat.go:102",#[⟨2,.data⟩],none⟩) (v:=(.int .i64 (c:Int))) rfl (by kernel_rfl) (fun _ _ _ h=>h) (Or.inl ⟨by rfl,?_⟩) (KB.out _ GB.out) ?_
 ·intro w hSw;(try dsimp only at hSw);go_simp
 simp only [Act.put,sIb,sC0,sC1];refine zAA (i:=4) (oi:=⟨some 7,.fieldAddr 24 (.tmp 1) 2,0, "mat.go:102",#[],none⟩) (v:=(.pointer (some ⟨w.heap.size,2,none⟩))) rfl (by kernel_rfl) (fun _ _ _ h=>h) (Or.inl ⟨by rfl,?_⟩) (KB.out _ GB.out) ?_
 ·intro w hSw;(try dsimp only at hSw);go_simp
 simp only [Act.put,sIb,sC0,sC1];refine zAA (i:=5) (oi:=⟨some 8,.load 22 (.tmp 7),22, "mat.go:102",#[⟨4,.data⟩],none⟩) (v:=(.slice aa la ca)) rfl (by kernel_rfl) (fun _ _ _ h=>h) (Or.inl ⟨by rfl,?_⟩) (KB.out _ GB.out) ?_
 ·intro w hSw;(try dsimp only at hSw);go_simp
 simp only [Act.put,sIb,sC0,sC1];refine zCA (i:=6) (o:=⟨some 9,.call { callee:=.value (.func 36),args:=#[.tmp 8,.func 37],argTypes:=#[22,66] },22, "mat.go:102",#[⟨5,.data⟩],none⟩) (by kernel_rfl) rfl (fun K hK=>?_);go_simp;go_at_call 36;refine (HS.out _ GB.out).mono ?_;rintro e w2 ⟨u,qs,rfl,q1,q2,b⟩;have lz2:=(show Below _ _ _ from b).size;replace GB:=hid (zBA GB.out b);have PR9:=hid (PR.out.step GB.out);have G9:=hid (zBA G.out GB.out);have Q1:=hid q1;have Q2:=hid q2;obtain ⟨ar,cr,rfl,-,-,-,-⟩:=q1.form;clear q1 q2;clear b;refine hK.out _ _ (fun _=>KB.out _ GB.out) ?_;clear hK;refine zAA (i:=7) (oi:=⟨some 10,.build 24 #[(0,.tmp 4),(1,.tmp 6),(2,.tmp 9)],24, "mat.go:102",#[⟨1,.data⟩,⟨3,.data⟩,⟨6,.data⟩],none⟩) (v:=(.agg #[.int .i64 (r:Int),.int .i64 (c:Int),.slice ar qs.length cr])) rfl (by kernel_rfl) (fun _ _ _ h=>h) (Or.inl ⟨by rfl,?_⟩) (KB.out _ GB.out) ?_
 ·intro w hSw;(try dsimp only at hSw);go_simp
 simp only [Act.put,sIb,sC0,sC1];refine zCA (i:=8) (o:=⟨none,.store 24 (.tmp 2) (.tmp 10),0, "mat.go:102",#[⟨7,.data⟩,⟨6,.chain⟩,⟨0,.phase⟩,⟨1,.phase⟩,⟨2,.phase⟩,⟨3,.phase⟩,⟨4,.phase⟩,⟨5,.phase⟩,⟨6,.phase⟩,⟨7,.phase⟩],none⟩) (by kernel_rfl) rfl (fun K hK=>?_);have e0:=PR9.out.at (i:=0) rfl;have e1:=PR9.out.at (i:=1) rfl;have e2:=PR9.out.at (i:=2) rfl;have e3:=PR9.out.fz 0;have e4:=PR9.out.fz 1;have e5:=PR9.out.fz 2;go_simp;clear e0 e1 e2 e3 e4 e5;obtain ⟨V3,hW⟩:∃V3,(((w2.setCell ⟨w.heap.size+1,0,none⟩ (.int .i64 (r:Int))).setCell ⟨w.heap.size+1,1,none⟩ (.int .i64 (c:Int))).setCell ⟨w.heap.size+1,2,none⟩ (.slice ar qs.length cr))=V3:=⟨_,rfl⟩
 have PF:Hid (Cel V3 (w.heap.size+1) 24 [(.int .i64 (r:Int)),(.int .i64 (c:Int)),(.slice ar qs.length cr)]):=by unfold Hid;rw [←hW];exact PR9.out.put3 _ _ _
 have FIN:Hid (zhG w r c zs k (.returned (.agg #[.int .i64 (r:Int),.int .i64 (c:Int),.slice ar qs.length cr])) V3):=by
  unfold Hid;rw [←hW];have hmc:Mc w2 (matv r c (.slice ar qs.length cr)) r c zs k:=⟨_,qs,rfl,Q1.out.mono (Nat.zero_le _),Q2.out,HL.out,hr,hc⟩
  exact ⟨_,rfl,hmc.wk PR9.out _ _ _,zSA G9.out (by omega) _ _ _⟩
 rw [hW];clear hW;refine hK.out _ _ (fun h=>absurd h (by decide)) ?_;clear hK
 try simp only [Act.put]
 refine zFA (by kernel_rfl) ?_ _;clear GB KB;go_wp2;exact bodyPost_ret (zhF Tryz.results20 PF.out _ (by rfl)) rfl FIN.out
theorem turned9_any {w:World} {v:Value} {r c:Nat} {zs:List Int} {k:Nat} (h:Mx w v r c zs k):Calls Tryz.prog 21 #[v] w fun e w'=>∃v',e=.returned v'∧Mx w' v' c r (zlB r c zs) k∧Below w.heap.size w w':=by
 obtain ⟨at_,ps,rfl,p1,p2,p3,hr,hc⟩:=h;obtain ⟨W0,hW⟩:∃W0,(w.alloc (matO r c at_)).alloc mbox=W0:=⟨_,rfl⟩
 obtain ⟨b0,sz0⟩:=zjA w (matO r c at_) mbox;rw [hW] at b0 sz0;obtain ⟨pa,pr⟩:=zoA (o1:=matc r c at_) hW;have PR:=hid pr;have HS:Hid (∀w',Below W0.heap.size W0 w'→Calls Tryz.prog 39 #[matv r c at_] w' (zAI w' w'.heap.size (colsL r c ps zqA))):=fun w' hb=>zgC ((p1.now b0).now hb) (by rw [p2.1,p3]) p2.isI hr hc
 have HOF:Hid (∀w' u,Prr 0 w' u (colsL r c ps zqA)→Calls Tryz.prog 38 #[u,.int .i64 (r:Int)] w' (zqH w' c r (colsL r c ps zqA).flatten)):=fun w' u hu=>by
  have hrc:r*c≤64*64:=Nat.mul_le_mul hr hc;have hcr:c*r≤64*64:=by rw [Nat.mul_comm];exact hrc
  refine zoC (m:=r) hu ?_ (by simp [colsL];omega) (by omega) (by simp [colsL]);intro qs hqs;simp only [colsL,List.mem_map,List.mem_range] at hqs;obtain ⟨j,hj,rfl⟩:=hqs;refine ⟨zHB,fun p hp=>?_⟩;simp only [colL,List.mem_map,List.mem_range] at hp;obtain ⟨t,ht,rfl⟩:=hp;exact p2.isI _ (zJG (by rw [p2.1,p3]) ht hj).2
 have ZT:Hid (∀w',Below w.heap.size w w'→Zis w' (colsL r c ps zqA).flatten (zlB r c zs) k):=fun w' hb=>zis_turn (p2.now hb) p3
 obtain ⟨aa,ca,rfl,-,-,-,-⟩:=p1.form;generalize ps.length=la at *;generalize colsL r c ps zqA=CL at *;generalize CL.flatten=FT at *;have k0:=pa.at (i:=0) rfl;have k1:=pa.at (i:=1) rfl;have k2:=pa.at (i:=2) rfl;have G:=hid b0;have EW:=hid hW;have SZ:=hid sz0;clear p1 p2 p3 b0 sz0 hW pa pr;go_enter Tryz.func21,Tryz.ntmps21;go_wp2_with fail;rw [EW.out];clear EW;have KB:Hid (∀w',Below W0.heap.size W0 w'→w'.cell? ⟨w.heap.size,0,none⟩=some (.int .i64 (r:Int))∧w'.cell? ⟨w.heap.size,1,none⟩=some (.int .i64 (c:Int))∧w'.cell? ⟨w.heap.size,2,none⟩=some (.slice aa la ca)):=fun w' h=>⟨cnow h k0,cnow h k1,cnow h k2⟩
 refine zDA (fun w'=>w'.cell? ⟨w.heap.size,0,none⟩=some (.int .i64 (r:Int))∧w'.cell? ⟨w.heap.size,1,none⟩=some (.int .i64 (c:Int))∧w'.cell? ⟨w.heap.size,2,none⟩=some (.slice aa la ca)) 5 (by kernel_rfl) ?_;obtain ⟨D1,hD⟩:∃D1,W0.drew=D1:=⟨_,rfl⟩
 have GB:Hid (Below W0.heap.size W0 D1):=by unfold Hid;rw [←hD];exact (Below.refl _ _).drew
 rw [hD];clear hD;refine zAA (i:=0) (oi:=⟨some 3,.load 24 (.tmp 1),24, "ring.go:149",#[],none⟩) (v:=(.agg #[.int .i64 (r:Int),.int .i64 (c:Int),.slice aa la ca])) rfl (by kernel_rfl) (fun _ _ _ h=>h) (Or.inl ⟨by rfl,?_⟩) (KB.out _ GB.out) ?_
 ·intro w hSw;(try dsimp only at hSw);go_simp
 simp only [Act.put,sIb,sC0,sC1];refine zAA (i:=2) (oi:=⟨some 5,.fieldAddr 24 (.tmp 1) 0,0, "ring.go:149",#[],none⟩) (v:=(.pointer (some ⟨w.heap.size,0,none⟩))) rfl (by kernel_rfl) (fun _ _ _ h=>h) (Or.inl ⟨by rfl,?_⟩) (KB.out _ GB.out) ?_
 ·intro w hSw;(try dsimp only at hSw);go_simp
 simp only [Act.put,sIb,sC0,sC1];refine zAA (i:=3) (oi:=⟨some 6,.load 3 (.tmp 5),3, "ring.go:149",#[⟨2,.data⟩],none⟩) (v:=(.int .i64 (r:Int))) rfl (by kernel_rfl) (fun _ _ _ h=>h) (Or.inl ⟨by rfl,?_⟩) (KB.out _ GB.out) ?_
 ·intro w hSw;(try dsimp only at hSw);go_simp
 simp only [Act.put,sIb,sC0,sC1];refine zCA (i:=1) (o:=⟨some 4,.call { callee:=.value (.func 39),args:=#[.tmp 3],argTypes:=#[24] },48, "ring.go:149",#[⟨0,.data⟩],none⟩) (by kernel_rfl) rfl (fun K hK=>?_);go_simp;go_at_call 39;refine (HS.out _ GB.out).mono ?_;rintro e w2 ⟨u,rfl,q1,b⟩;have lz2:=(show Below _ _ _ from b).size;replace GB:=hid (zBA GB.out b);have HO:=hid (HOF.out _ _ (q1.mono (Nat.zero_le _)));obtain ⟨ar,cr,rfl,-,-,-⟩:=q1.form;clear q1;clear b;refine hK.out _ _ (fun _=>KB.out _ GB.out) ?_;clear hK;refine zCA (i:=4) (o:=⟨some 7,.call { callee:=.value (.func 38),args:=#[.tmp 4,.tmp 6],argTypes:=#[48,3] },24, "ring.go:149",#[⟨1,.data⟩,⟨3,.data⟩,⟨1,.chain⟩],none⟩) (by kernel_rfl) rfl (fun K hK=>?_);go_simp;go_at_call 38;refine (HO.out).mono ?_;rintro e w3 ⟨at4,rfl,q4,b⟩;have lz3:=(show Below _ _ _ from b).size;replace GB:=hid (zBA GB.out b);have PR9:=hid (PR.out.step GB.out);have G9:=hid (zBA G.out GB.out);have Q4:=hid q4;obtain ⟨a4,c4,rfl,-,-,-,-⟩:=q4.form;clear q4;clear b;refine hK.out _ _ (fun _=>KB.out _ GB.out) ?_;clear hK;refine zCA (i:=5) (o:=⟨none,.store 24 (.tmp 2) (.tmp 7),0, "ring.go:149",#[⟨4,.data⟩,⟨4,.chain⟩,⟨0,.phase⟩,⟨1,.phase⟩,⟨2,.phase⟩,⟨3,.phase⟩,⟨4,.phase⟩],none⟩) (by kernel_rfl) rfl (fun K hK=>?_);have e0:=PR9.out.at (i:=0) rfl;have e1:=PR9.out.at (i:=1) rfl;have e2:=PR9.out.at (i:=2) rfl;have e3:=PR9.out.fz 0;have e4:=PR9.out.fz 1;have e5:=PR9.out.fz 2;go_simp;clear e0 e1 e2 e3 e4 e5;obtain ⟨V4,hW⟩:∃V4,(((w3.setCell ⟨w.heap.size+1,0,none⟩ (.int .i64 (c:Int))).setCell ⟨w.heap.size+1,1,none⟩ (.int .i64 (r:Int))).setCell ⟨w.heap.size+1,2,none⟩ (.slice a4 FT.length c4))=V4:=⟨_,rfl⟩
 have PF:Hid (Cel V4 (w.heap.size+1) 24 [(.int .i64 (c:Int)),(.int .i64 (r:Int)),(.slice a4 FT.length c4)]):=by unfold Hid;rw [←hW];exact PR9.out.put3 _ _ _
 have FIN:Hid (∃v',Ending.returned (.agg #[.int .i64 (c:Int),.int .i64 (r:Int),.slice a4 FT.length c4])=.returned v'∧Mx V4 v' c r (zlB r c zs) k∧Below w.heap.size w V4):=by
  unfold Hid;rw [←hW];have hmc:Mx w3 (matv c r (.slice a4 FT.length c4)) c r (zlB r c zs) k:=⟨_,FT,rfl,Q4.out.mono (Nat.zero_le _),ZT.out _ G9.out,turnL9_length,hc,hr⟩
  exact ⟨_,rfl,hmc.wk PR9.out _ _ _,zSA G9.out (by omega) _ _ _⟩
 rw [hW];clear hW;refine hK.out _ _ (fun h=>absurd h (by decide)) ?_;clear hK
 try simp only [Act.put]
 refine zFA (by kernel_rfl) ?_ _;clear GB KB;go_wp2;exact bodyPost_ret (zhF Tryz.results21 PF.out _ (by rfl)) rfl FIN.out
theorem ztF {w:World} {v:Value} {r c:Nat} {zs:List Int} {k:Nat} (h:Mx w v r c zs k):Calls Tryz.prog 9 #[v] w (zUB w c r (zlB r c zs) k):=by
 have M0:=hid h;obtain ⟨aa,ca,rfl,hr,hc⟩:=h.form;obtain ⟨la,hla⟩:∃la,r*c=la:=⟨_,rfl⟩
 rw [hla] at M0 ⊢;obtain ⟨W0,hW⟩:∃W0,(w.alloc (matO r c (.slice aa la ca))).alloc mbox=W0:=⟨_,rfl⟩
 obtain ⟨b0,sz0⟩:=zjA w (matO r c (.slice aa la ca)) mbox;rw [hW] at b0 sz0;obtain ⟨pa,pr⟩:=zoA (o1:=matc r c (.slice aa la ca)) hW;have HCK:=hid (zIB (M0.out.now b0));have x0:=pa.at (i:=0) rfl;have x1:=pa.at (i:=1) rfl;have x2:=pa.at (i:=2) rfl;rw [←hW] at x0 x1 x2;have PA:=hid pa;have PR:=hid pr;have G0:=hid b0;have EW:=hid hW;replace M0:=hid (M0.out.now b0);clear h hla b0 sz0 hW pa pr;go_enter Tryz.func9,Tryz.ntmps9;go_wp2_with fail;rw [EW.out];refine HCK.out.mono ?_;rintro e w1 ⟨rfl,b⟩;have HT:=hid (turned9_any (M0.out.now b));have PR1:=hid (PR.out.step b);have G1:=hid (zBA G0.out b);have z0:=(PA.out.step b).at (i:=0) rfl;have z1:=(PA.out.step b).at (i:=1) rfl;have z2:=(PA.out.step b).at (i:=2) rfl;clear HCK b x0 x1 x2 EW PA PR G0 M0;go_wp2_with fail;refine HT.out.mono ?_;rintro e w2 ⟨v2,rfl,hm2,b⟩;have HLE:=hid (least9_any hm2);obtain ⟨a2,q2,rfl,-,-⟩:=hm2.form;have PR2:=hid (PR1.out.step b);have G2:=hid (zBA G1.out b);generalize zlB r c zs=TZ at *;generalize hcr:c*r=lc at *;clear HT hm2 b z0 z1 z2 PR1 G1;go_wp2_with fail;refine HLE.out.mono ?_;rintro e w3 ⟨v3,rfl,hm3,b⟩;obtain ⟨a3,q3,rfl,-,-⟩:=hm3.mx.form;rw [hcr] at hm3 ⊢;have PR3:=hid (PR2.out.step b);have G3:=hid (zBA G2.out b);have FIN:Hid (zUB w c r TZ k (.returned (.tuple #[.agg #[.int .i64 (c:Int),.int .i64 (r:Int),.slice a3 lc q3],.int .i64 0])) (put3 w3 (w.heap.size+1) (.int .i64 (c:Int)) (.int .i64 (r:Int)) (.slice a3 lc q3))) :=
  ⟨_,rfl,hm3.wk PR3.out _ _ _,zSA G3.out (by omega) _ _ _⟩
 have PF:=hid (PR3.out.put3 (.int .i64 (c:Int)) (.int .i64 (r:Int)) (.slice a3 lc q3));have r0:=PR3.out.at (i:=0) rfl;have r1:=PR3.out.at (i:=1) rfl;have r2:=PR3.out.at (i:=2) rfl;have f0:=PR3.out.fz 0;have f1:=PR3.out.fz 1;have f2:=PR3.out.fz 2;clear HLE hm3 b PR2 G2 hcr;go_wp2;exact bodyPost_ret (zIC Tryz.results9 PF.out _ (by rfl) (by rfl)) rfl FIN.out
end Go.Proofs.YtjnokjgbeploaaaGreat
