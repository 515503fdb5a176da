import Derived.Test.YtfeofdpnhhiclaaGreatQPu19ToBk19
set_option maxRecDepth 100000
set_option maxHeartbeats 6400000
set_option linter.unusedVariables false
set_option linter.unusedSimpArgs false
namespace Go.Proofs.YtfeofdpnhhiclaaGreat
open Go.RowKit Go.Shelf
attribute [local go_sem] Oper.semAt_some
theorem zRB {L : Nat → Nat → Int} {c : Nat} {F G : Nat → Int} : znB (znB L c F) c G = znB L c G := by
 funext i j
 unfold znB
 by_cases h : i = c
 ·rw [if_pos h,if_pos h]
 ·rw [if_neg h,if_neg h,if_neg h]
theorem zoA {n i c : Nat} {D : Int} {L : Nat → Nat → Int} {P : (Nat → Int) → Prop} {F1 F : Nat → Int} (h : Lw19 n i c D (D * D) L P) (hic : i < c) (hc : c < n) (h1 : F1 c = L i c % D ∧ ∀ t,t ≠ c → F1 t = L i t) (h2 : 0 ≤ F1 c ∧ F1 c < D) (hp : 0 < L c c)
  (hF : ∀ t,t < n → F t = ziA c (fdv (F1 c) (L c c)) (L c) F1 t) : Lw19 n i (c + 1) D (D * D) (znB L i F) P := by
 have d := zPF h2.1 h2.2 hp;have e := Int.mul_ediv_add_emod (L i c) D;have e1 : L i c + D * (-(L i c / D)) = F1 c := by rw [h1.1,Int.mul_neg];omega
 refine h.step (q := -(L i c / D)) (s := fdv (F1 c) (L c c)) hic hc (fun k hk => zgA _ hk) (fun t ht => ?_) (by rw [e1];exact d.2.2.1) (by rw [e1];exact d.2.2.2) ⟨d.1,d.2.1⟩ (Int.le_refl _);rw [zxA,hF t ht];unfold ziA
 by_cases q : t < c
 ·rw [if_pos q,if_pos q,h1.2 t (by omega)]
 ·rw [if_neg q,if_neg q]
  by_cases q2 : t = c
  ·subst q2;rw [if_pos rfl,e1]
  ·rw [if_neg q2,h1.2 t q2]
theorem lower19 {B bt n k kw ld cd : Nat} {w : World} {nd : Bool} {ad : Option Addr} {lv : Value} {D : Int} {gs : Nat → Nat} {L : Nat → Nat → Int} {P : (Nat → Int) → Prop}
  (hT : Tg19 B w bt nd ad ld cd lv n D gs L k kw) (hS : Rs19 n D L P) (h0 : 0 < D) (hM : D + 64 * (D * D) < pw kw) (hn : n ≤ 64) (hk1 : 1 ≤ k) (hkK : k ≤ kw) (hK : kw ≤ 17179869184) :
  Calls Tryz.prog 52 #[.pointer (some ⟨bt,0,none⟩)] w (zLI B w bt nd ad ld cd lv n D gs k kw P) := by
 refine (callsIn_wide (n := 5)).1 ?_;obtain ⟨la,lc,hlv⟩ : ∃ la lc,lv = .slice la n lc := by
  rcases hT.2.2.1 with ⟨e,h⟩ | ⟨h0,Lb,cap,r,e,_⟩
  ·exact ⟨none,0,by rw [e];exact h⟩
  ·exact ⟨_,cap,e⟩
 subst hlv;obtain ⟨W0,hW⟩ : ∃ W0,w.alloc (.cells #[.pointer (some ⟨bt,0,none⟩)] 80) = W0 := ⟨_,rfl⟩
 obtain ⟨b0,sz0⟩ := alo1 w (.cells #[.pointer (some ⟨bt,0,none⟩)] 80);rw [hW] at b0 sz0;have PB : Hid (Cel W0 w.heap.size 80 [.pointer (some ⟨bt,0,none⟩)]) := by unfold Hid;rw [← hW];exact Cel.new w _ _
 obtain ⟨W1,hW1⟩ : ∃ W1,W0.alloc (.cells #[.slice la n lc] 90) = W1 := ⟨_,rfl⟩
 obtain ⟨b1,sz1⟩ := alo1 W0 (.cells #[.slice la n lc] 90);rw [hW1] at b1 sz1;have PC : Hid (Cel W1 (w.heap.size + 1) 90 [.slice la n lc]) := by
  unfold Hid;rw [← hW1];have := Cel.new W0 90 [.slice la n lc];rw [sz0] at this;exact this
 have TG := hid (hT.now (below_step b0 b1));replace PB := hid (PB.out.step b1);have HSP := hid hS;have x2 := (hT.now b0).1.at (i := 2) rfl;have pb0 := (show Cel W0 w.heap.size 80 [.pointer (some ⟨bt,0,none⟩)] by rw [← hW];exact Cel.new w _ _).at (i := 0) rfl;rw [← hW] at x2 pb0;have HBN := hid (back19_new 4 la n lc W0);have GG := hid (below_step b0 b1);have EW := hid hW;have EW1 := hid hW1;have SZ0 := hid sz0;have SZ1 := hid sz1;have HM := hid hM;have Hk1 := hid hk1;have HkK := hid hkK;have HK := hid hK;have HD0 := hid h0;have HGL : Hid (∀ i,i < n → gs i < w.heap.size) := fun i hi => (hT.2.2.2.2 i hi).2.blk
 have HBTL : Hid (bt < w.heap.size) := hT.1.blk;clear hT hS h0 hM hk1 hkK hK b0 sz0 hW b1 sz1 hW1;refine callsIn_of_wp_marks Tryz.func52 rfl trivial ?_ rfl;simp only [Tryz.ntmps52,List.size_toArray,List.length_cons,List.length_nil,Nat.reduceAdd,Nat.reduceSub,Array.replicate_succ,Array.replicate_zero,List.push_toArray,List.append_toArray,List.nil_append,List.cons_append];gi_wp2_with fail;rw [EW.out];clear EW;refine ⟨trivial,HBN.out.mono ?_⟩;rintro e w1 ⟨rfl,rfl⟩;rw [EW1.out,SZ0.out];clear EW1 HBN x2 pb0;gi_wp2_with fail;have hsz0 := SZ0.out;have hsz1 := SZ1.out;refine zoF (σ := Nat) (α := Nat) (by decide) rfl (enters_of Tryz.func103 (by kernel_rfl) rfl) (zhG gs n) (fun _ => rfl)
  (zvG B w bt nd ad ld cd (.slice la n lc) n D gs k kw P w.heap.size) (zvG.own (by omega)) (fun s x W => x = n - 1 - s ∧ s < n) (fun s x _ W W' row hs _ _ => hs) (fun s x => s + 1)
  (fun s => KpL (ls19 gs n) W1.heap.size) (fun h h' => h.trans h') (fun s W l o o' _ h1 h2 => KpL.put h1 h2) (fun s => s = 0) (fun s => s = n) ?ini ?it (fun x => { tmps := #[.pointer (some ⟨bt,0,none⟩),.pointer (some ⟨w.heap.size,0,none⟩),.int .i64 (x : Int),.slice (some ⟨gs x,0,none⟩) n n,undef,undef,undef,undef,.pointer (some ⟨bt,0,none⟩),.pointer (some ⟨bt,0,none⟩),.pointer (some ⟨bt,2,none⟩),.slice la n lc,.func (.func 103) #[] #[.pointer (some ⟨w.heap.size + 1,0,none⟩)],.int .i64 (x : Int),.slice (some ⟨gs x,0,none⟩) n n,undef,undef,undef,undef,undef,undef,undef,undef,undef,undef,undef,undef,undef,undef,undef,undef,undef,undef,undef,undef,undef,undef,undef,undef,undef,undef,undef,undef,undef,undef,undef,undef,undef,undef,undef,undef,undef,undef,undef,undef,undef,undef,undef,undef],defers := [] }) ?assign ?body ?done
 case ini =>
  rintro s rfl;exact ⟨L,TG.out,by have := Lw19.first (M := D * D) HSP.out n;simpa using this,Nat.zero_le _,PB.out,zOA.ofBelow GG.out⟩
 case it =>
  intro l J' W hW hJ hJb hJ0 hY;refine (back19_in (S := ls19 gs n) (B := W1.heap.size) (gs := gs) (by decide) J' ((PC.out.step hW).at (i := 0) rfl) (by omega) (fun ⟨i,hi,q⟩ => by have := HGL.out i hi;omega) hn ?_ (hJ0 0 rfl) (fun s X h1 h2 => hY s _ X h1 ⟨rfl,h2⟩)).mono fun e Y h => ⟨h.1,n,rfl,h.2⟩
  have tg := TG.out.now hW;rcases tg.2.2.1 with ⟨e,h⟩ | ⟨h0,Lb,cap,r,e,e0,e1,e2⟩
  ·exact .inl ⟨e,h⟩
  ·refine .inr ⟨Lb,cap,e,e0,?_,fun ⟨i,hi,q⟩ => ?_,fun i hi => e2.at (zfE hi)⟩
   ·rcases TG.out.2.2.1 with ⟨e',_⟩ | ⟨_,Lb',cap',r',e',_,_,e2'⟩
    ·omega
    ·rw [e'] at e
     simp only [Value.slice.injEq,Option.some.injEq,Addr.mk.injEq,and_true,true_and] at e;obtain ⟨rfl,-⟩ := e;exact e2'.blk
   ·obtain ⟨ps,p1,-⟩ := (tg.2.2.2.2 i hi).2
    have a1 := show W.heap[Lb]? = _ from e2;have a2 := show W.heap[gs i]? = _ from p1.1;rw [← q] at a2;have := a1.symm.trans a2;simp at this
 case assign =>
  intro l x W K hK;have HKK := hid hK;clear hK;gi_wp2;exact HKK.out
 case body =>
  rintro l s x W ⟨L,t1,t2,t3,t4,t5⟩ ⟨hx,hs⟩;subst hx;obtain ⟨i,hi⟩ : ∃ i,n - 1 - s = i := ⟨_,rfl⟩
  have hin : i < n := by omega
  rw [hi];have TG1 := hid t1;have hlw : Lw19 n i (i + 1) D (D * D) L P := by
   rw [show n - s = i + 1 by omega] at t2;exact t2.next (fun _ => Nat.le_refl _) (Int.mul_nonneg (by have := HD0.out;omega) (by have := HD0.out;omega))
  have H0 : Hid (zZC B W bt nd ad ld cd (.slice la n lc) n i D gs k kw P w.heap.size (.int .i64 ((i + 1 : Nat) : Int)) W) := ⟨i + 1,L,rfl,by omega,by omega,t1,hlw,t4,zOA.refl _ _⟩
  have TW := hid t5;have HW1 : Hid (W1.heap.size ≤ W.heap.size ∨ True) := .inr trivial;have FIN : Hid (∀ s4 Y,s4 = .int .i64 (n : Int) → zZC B W bt nd ad ld cd (.slice la n lc) n i D gs k kw P w.heap.size s4 Y → KeepsFrom W1.heap.size W Y ∧ zvG B w bt nd ad ld cd (.slice la n lc) n D gs k kw P w.heap.size (s + 1) Y ∧ KpL (ls19 gs n) W1.heap.size W Y) := by
   rintro s4 Y hs4 ⟨c,L',hs4',q1,q2,q3,q4,q5,q6⟩;rw [hs4] at hs4';have hcn : c = n := by simp at hs4';omega
   subst hcn;refine ⟨⟨q6.size,fun j o hj e ho => ?_⟩,⟨L',q3,by rw [show c - (s + 1) = i by omega];exact q4,by omega,q5,t5.trans q6⟩,⟨q6.size,fun b o _ hb e _ => (q6.block b (Array.getElem?_eq_some_iff.1 e).1 hb).trans e⟩⟩;refine (q6.block j (Array.getElem?_eq_some_iff.1 e).1 (fun ⟨t,ht,q⟩ => ?_)).trans e;obtain ⟨ps,p1,-⟩ := (t1.2.2.2.2 t ht).2;have a2 := show W.heap[gs t]? = _ from p1.1;rw [← q] at a2;rw [a2,Option.some.injEq] at e;subst e;cases ho
  have hwi : IntKind.i64.wrap ((i : Int) + 1) = ((i + 1 : Nat) : Int) := by rw [zqA] <;> omega
  have HWI := hid hwi;clear t1 t2 t3 t4 t5 hlw TG1;gi_wp2_with fail
  gi_loopw [4] (fun s4 wr => zZC B W bt nd ad ld cd (.slice la n lc) n i D gs k kw P w.heap.size s4 wr)
   (fun s4 _ => ((n : Int) - (intOf s4)).toNat)
  case atStart => exact H0.out
  case round =>
   clear H0;obtain ⟨c,L,rfl,hic,hcn,tg,lw,pb,tw⟩ := hrel;have TG := hid tg;have LW := hid lw;have PB := hid pb;have TW2 := hid tw;clear tg lw pb tw
   by_cases hlt : c < n
   ·have hlt' : (c : Int) < (n : Int) := by omega
    have hwc := zjA (i := c) (by omega);have z0 := PB.out.at (i := 0) rfl;have hLi := (TG.out.2.2.2.2 i hin).2;obtain ⟨nx,ax,lx,cx,x0,x1,-,-,zx⟩ := hLi.at hlt;have ZX := hid zx;have RWI := hid hLi;clear zx hLi;gi_wp2_with fail;have KB : Hid (∀ w',Below wr.heap.size wr w' → w'.cell? ⟨w.heap.size,0,none⟩ = some (.pointer (some ⟨bt,0,none⟩)) ∧ w'.cell? ⟨gs i,c * 2,none⟩ = some (.bool nx) ∧ w'.cell? ⟨gs i,c * 2 + 1,none⟩ = some (.slice ax lx cx)) := fun w' h => ⟨cnow h z0,cnow h x0,cnow h x1⟩
    refine zKD (by kernel_rfl) (zmC (by kernel_rfl)) (by first | (rintro ⟨a,w,h⟩;cases h.1) | (rintro ⟨a,w,h⟩;exact h)) (wpAny_of_tail (S := fun w' => w'.cell? ⟨w.heap.size,0,none⟩ = some (.pointer (some ⟨bt,0,none⟩)) ∧ w'.cell? ⟨gs i,c * 2,none⟩ = some (.bool nx) ∧ w'.cell? ⟨gs i,c * 2 + 1,none⟩ = some (.slice ax lx cx)) (n := 9) _ _ _ _ ?_);obtain ⟨D1,hD⟩ : ∃ D1,wr.drew = D1 := ⟨_,rfl⟩
    have GB : Hid (Below wr.heap.size wr D1) := by unfold Hid;rw [← hD];exact (Below.refl _ _).drew
    rw [hD];clear hD;refine zEA [(0,(.slice (some ⟨gs i,0,none⟩) n n)),(1,(.int .i64 (c : Int))),(2,(.pointer (some ⟨bt,0,none⟩))),(3,(.slice (some ⟨gs i,0,none⟩) n n)),(4,(.int .i64 (c : Int))),(5,(.pointer (some ⟨gs i,c * 2,none⟩))),(6,(.agg #[.bool nx,.slice ax lx cx]))] 7 ?_ (KB.out _ GB.out) ?_
    ·simp only [zPA,gA9,g09,g19,Act.put,sI9,s09,s19]
     (repeat' (first | exact trivial | refine And.intro (Or.inl ⟨by rfl,?_⟩) ?_)) <;> (intro w hSw;(try dsimp only at hSw);go_simp)
    simp only [actV,gA9,g09,g19,Act.put,sI9,s09,s19];refine zAA (i := 7) (o := ⟨some 30,.call { callee := .value (.func 76),args := #[.tmp 25,.tmp 29],argTypes := #[80,27] },27, "triangle.go:78",#[⟨2,.data⟩,⟨6,.data⟩],none⟩) (by kernel_rfl) rfl (fun K hK => ?_);go_simp;go_at_call 76;refine (zgC (TG.out.1.step GB.out) (TG.out.2.1.now GB.out) (ZX.out.now GB.out).zi HD0.out (by have := HkK.out;have := HK.out;omega) (by have := HK.out;omega)).mono ?_;rintro e w2 ⟨rq,rfl,mq,b⟩;have lz2 := (show Below _ _ _ from b).size;replace GB := hid (below_step GB.out b);have MQ := hid (mq.more HkK.out);obtain ⟨nq,xq,aq,cq,rfl⟩ := mq.parts;have RW1 := hid (RWI.out.now GB.out);have TG1 := hid (TG.out.now GB.out);clear mq;clear b;refine hK.out _ _ (fun _ => KB.out _ GB.out) ?_;clear hK;refine zEA [(8,(.pointer (some ⟨gs i,c * 2,none⟩)))] 1 ?_ (KB.out _ GB.out) ?_
    ·simp only [zPA,gA9,g09,g19,Act.put,sI9,s09,s19]
     (repeat' (first | exact trivial | refine And.intro (Or.inl ⟨by rfl,?_⟩) ?_)) <;> (intro w hSw;(try dsimp only at hSw);go_simp)
    simp only [actV,gA9,g09,g19,Act.put,sI9,s09,s19];refine zAA (i := 9) (o := ⟨none,.store 27 (.tmp 31) (.tmp 30),0, "triangle.go:78",#[⟨8,.data⟩,⟨7,.data⟩,⟨7,.chain⟩,⟨0,.phase⟩,⟨1,.phase⟩,⟨2,.phase⟩,⟨3,.phase⟩,⟨4,.phase⟩,⟨5,.phase⟩,⟨6,.phase⟩,⟨7,.phase⟩],none⟩) (by kernel_rfl) rfl (fun K hK => ?_);obtain ⟨_,_,_,_,e0,e1,e2,e3,-⟩ := RW1.out.at hlt;go_simp;clear e0 e1 e2 e3;obtain ⟨V3,hW⟩ : ∃ V3,((w2.setCell ⟨gs i,c * 2,none⟩ (.bool nq)).setCell ⟨gs i,c * 2 + 1,none⟩ (.slice aq xq.length cq)) = V3 := ⟨_,rfl⟩
    obtain ⟨hp1,ty1⟩ := RW1.out.put hlt MQ.out;have tt : zOA (· = gs i) w2 ((w2.setCell ⟨gs i,c * 2,none⟩ (.bool nq)).setCell ⟨gs i,c * 2 + 1,none⟩ (.slice aq xq.length cq)) := zUB (zOA.refl _ _) _ _;have tg2 := TG1.out.line19 hin tt (fun j hj hji q => hji (TG1.out.2.2.2.1 j i hj hin q)) ty1 hp1;have TG2 := hid tg2;have RW2 := hid hp1;have PB2 := hid ((PB.out.step GB.out).ty13 ty1 (by decide));have TW3 := hid ((TW2.out.trans (.ofBelow GB.out)).trans (tt.mono19 (S' := ls19 gs n) fun b q => ⟨i,hin,q⟩));rw [hW] at TG2 RW2 PB2 TW3;clear hp1 ty1 tt tg2 MQ RW1 TG1;rw [hW];clear hW;refine hK.out _ _ (fun h => absurd h (by decide)) ?_;clear hK
    try simp only [Act.put]
    refine zCA (by kernel_rfl) ?_ _;clear GB KB x0 x1 z0 ZX RWI TG PB TW2;obtain ⟨W8,hW8⟩ : ∃ W8,V3 = W8 := ⟨_,rfl⟩
    rw [hW8] at TG2 RW2 PB2 TW3 ⊢;clear hW8;obtain ⟨F1,hF1⟩ : ∃ F1 : Nat → Int,(fun j => if j = c then L i c % D else L i j) = F1 := ⟨_,rfl⟩
    rw [hF1] at TG2 RW2;have HF1 : Hid (F1 c = L i c % D ∧ ∀ t,t ≠ c → F1 t = L i t) := ⟨by rw [← hF1];simp,fun t ht => by rw [← hF1];simp [ht]⟩
    clear hF1;obtain ⟨Lb,lc',hlv⟩ := TG2.out.form hlt;simp only [Value.slice.injEq,true_and] at hlv;obtain ⟨rfl,rfl⟩ := hlv;have z0 := PB2.out.at (i := 0) rfl;have z2 := TG2.out.1.at (i := 2) rfl;have zl := TG2.out.2.2.lineS hlt;have hLc := (TG2.out.2.2.2.2 c hlt).2;rw [zgA _ (show c ≠ i by omega)] at hLc;obtain ⟨np,ap,lp,cp,p0,p1,-,-,zp⟩ := hLc.at hlt;obtain ⟨nx,ax,lx,cx,x0,x1,-,-,zx⟩ := RW2.out.at hlt;have HPV : Hid (0 < L c c ∧ L c c ≤ D) := ⟨LW.out.tri.piv c hlt,LW.out.pd c hlt⟩
    have HFC : Hid (0 ≤ F1 c ∧ F1 c < D) := by unfold Hid;rw [HF1.out.1];exact ⟨Int.emod_nonneg _ (by have := HD0.out;omega),Int.emod_lt_of_pos _ HD0.out⟩
    have ZP := hid zp;have ZX := hid zx;have HPN : Hid (L c c ≠ 0) := by unfold Hid;have := HPV.out;omega
    have HDV := hid (zPF HFC.out.1 HFC.out.2 HPV.out.1);have HDK := hid TG2.out.2.1.zi.lt;have HFK : Hid (((fdv (F1 c) (L c c)).natAbs : Int) < pw k) := by unfold Hid;have := HDV.out;have := HDK.out;omega
    clear zp zx hLc;gi_wp2_with fail;have KB : Hid (∀ w',Below W8.heap.size W8 w' → w'.cell? ⟨gs i,c * 2,none⟩ = some (.bool nx) ∧ w'.cell? ⟨gs i,c * 2 + 1,none⟩ = some (.slice ax lx cx) ∧ w'.cell? ⟨w.heap.size,0,none⟩ = some (.pointer (some ⟨bt,0,none⟩)) ∧ w'.cell? ⟨bt,2,none⟩ = some (.slice (some ⟨Lb,0,none⟩) n lc) ∧ w'.cell? ⟨Lb,c,none⟩ = some (.slice (some ⟨gs c,0,none⟩) n n) ∧ w'.cell? ⟨gs c,c * 2,none⟩ = some (.bool np) ∧ w'.cell? ⟨gs c,c * 2 + 1,none⟩ = some (.slice ap lp cp)) := fun w' h => ⟨cnow h x0,cnow h x1,cnow h z0,cnow h z2,cnow h zl,cnow h p0,cnow h p1⟩
    refine zKD (by kernel_rfl) (zmC (by kernel_rfl)) (by first | (rintro ⟨a,w,h⟩;cases h.1) | (rintro ⟨a,w,h⟩;exact h)) (wpAny_of_tail (S := fun w' => w'.cell? ⟨gs i,c * 2,none⟩ = some (.bool nx) ∧ w'.cell? ⟨gs i,c * 2 + 1,none⟩ = some (.slice ax lx cx) ∧ w'.cell? ⟨w.heap.size,0,none⟩ = some (.pointer (some ⟨bt,0,none⟩)) ∧ w'.cell? ⟨bt,2,none⟩ = some (.slice (some ⟨Lb,0,none⟩) n lc) ∧ w'.cell? ⟨Lb,c,none⟩ = some (.slice (some ⟨gs c,0,none⟩) n n) ∧ w'.cell? ⟨gs c,c * 2,none⟩ = some (.bool np) ∧ w'.cell? ⟨gs c,c * 2 + 1,none⟩ = some (.slice ap lp cp)) (n := 23) _ _ _ _ ?_);obtain ⟨D41,hD⟩ : ∃ D41,W8.drew = D41 := ⟨_,rfl⟩
    have GB : Hid (Below W8.heap.size W8 D41) := by unfold Hid;rw [← hD];exact (Below.refl _ _).drew
    rw [hD];clear hD;have HB : Hid (BX19 W8 D41 []) := BX19.nil GB.out;refine zEA [(0,(.slice (some ⟨gs i,0,none⟩) n n)),(1,(.int .i64 (c : Int))),(2,(.pointer (some ⟨gs i,c * 2,none⟩))),(3,(.agg #[.bool nx,.slice ax lx cx])),(4,(.pointer (some ⟨bt,0,none⟩))),(5,(.pointer (some ⟨bt,0,none⟩))),(6,(.pointer (some ⟨bt,2,none⟩))),(7,(.slice (some ⟨Lb,0,none⟩) n lc)),(8,(.int .i64 (c : Int))),(9,(.pointer (some ⟨Lb,c,none⟩))),(10,(.slice (some ⟨gs c,0,none⟩) n n)),(11,(.int .i64 (c : Int))),(12,(.pointer (some ⟨gs c,c * 2,none⟩))),(13,(.agg #[.bool np,.slice ap lp cp]))] 14 ?_ (KB.out _ GB.out) ?_
    ·simp only [zPA,gA9,g09,g19,Act.put,sI9,s09,s19]
     (repeat' (first | exact trivial | refine And.intro (Or.inl ⟨by rfl,?_⟩) ?_)) <;> (intro w hSw;(try dsimp only at hSw);go_simp)
    simp only [actV,gA9,g09,g19,Act.put,sI9,s09,s19];refine zvA (i := 14) (j := 19) (l := 20) (oi := ⟨some 47,.call { callee := .value (.func 79),args := #[.tmp 36,.tmp 46],argTypes := #[27,27] },114, "triangle.go:80",#[⟨3,.data⟩,⟨13,.data⟩],none⟩) (oj := ⟨some 5,.alloc 27,0, "triangle.go:80",#[],none⟩) (ol := ⟨some 6,.alloc 27,0, "triangle.go:80",#[],none⟩) (by kernel_rfl) rfl rfl rfl (fun K hK => ?_) (fun K hK => ?_) (fun K hK => ?_)
    ·skip
     go_simp;go_at_call 79;refine (zmD (ZX.out.now GB.out).zi (ZP.out.now GB.out).zi HPN.out (by have := HK.out;omega) (by have := HK.out;omega)).mono ?_;rintro e w42 ⟨rq,rr,rfl,mq,mr,b⟩;have lz42 := (show Below _ _ _ from b).size;replace GB := hid (below_step GB.out b);have Mq := hid ((mq.mono (Nat.zero_le _)).fit HFK.out);obtain ⟨nq,xq,aq,cq,rfl⟩ := Mq.out.parts;have Mr := hid (mr.mono (Nat.zero_le _));obtain ⟨nr,xr,ar,cr,rfl⟩ := Mr.out.parts;clear mq mr;replace HB := hid (HB.out.step b);clear b;refine hK.out _ _ (fun _ => KB.out _ GB.out) ?_;clear hK;refine zEA [(15,(.tuple #[(.agg #[.bool nq,.slice aq xq.length cq]),(.agg #[.bool nr,.slice ar xr.length cr]),(.int .i64 0)])),(16,(.agg #[.bool nq,.slice aq xq.length cq])),(17,(.agg #[.bool nr,.slice ar xr.length cr])),(18,(.int .i64 0))] 4 ?_ (KB.out _ GB.out) ?_
     ·simp only [zPA,gA9,g09,g19,Act.put,sI9,s09,s19]
      (repeat' (first | exact trivial | refine And.intro (Or.inl ⟨by rfl,?_⟩) ?_)) <;> (intro w hSw;(try dsimp only at hSw);go_simp)
     simp only [actV,gA9,g09,g19,Act.put,sI9,s09,s19];refine zMA (i := 19) (j := 20) (oi := ⟨some 5,.alloc 27,0, "triangle.go:80",#[],none⟩) (oj := ⟨some 6,.alloc 27,0, "triangle.go:80",#[],none⟩) (by kernel_rfl) rfl rfl (fun K hK => ?_) (fun K hK => ?_)
     ·skip
      go_simp;obtain ⟨V43,hW⟩ : ∃ V43,w42.alloc zbox = V43 := ⟨_,rfl⟩
      obtain ⟨b,sz43⟩ := alo1 w42 zbox;rw [hW] at b sz43;replace GB := hid (below_step GB.out b);replace Mq := hid (Mq.out.now b);replace Mr := hid (Mr.out.now b);replace HB : Hid (BX19 W8 V43 [w42.heap.size]) := by unfold Hid;rw [← hW];exact HB.out.new
      clear sz43;rw [hW];clear hW b;refine hK.out _ _ (fun _ => KB.out _ GB.out) ?_;clear hK
      try simp only [Act.put]
      refine zAA (i := 20) (o := ⟨some 6,.alloc 27,0, "triangle.go:80",#[],none⟩) (by kernel_rfl) rfl (fun K hK => ?_);go_simp;obtain ⟨V44,hW⟩ : ∃ V44,V43.alloc zbox = V44 := ⟨_,rfl⟩
      obtain ⟨b,sz44⟩ := alo1 V43 zbox;rw [hW] at b sz44;replace GB := hid (below_step GB.out b);replace Mq := hid (Mq.out.now b);replace Mr := hid (Mr.out.now b);replace HB : Hid (BX19 W8 V44 [V43.heap.size,w42.heap.size]) := by unfold Hid;rw [← hW];exact HB.out.new
      clear sz44;rw [hW];clear hW b;refine hK.out _ _ (fun _ => KB.out _ GB.out) ?_;clear hK
      try simp only [Act.put]
      refine zAA (i := 21) (o := ⟨none,.store 27 (.tmp 5) (.tmp 48),0, "triangle.go:80",#[⟨19,.data⟩,⟨16,.data⟩,⟨14,.chain⟩,⟨0,.phase⟩,⟨1,.phase⟩,⟨2,.phase⟩,⟨3,.phase⟩,⟨4,.phase⟩,⟨5,.phase⟩,⟨6,.phase⟩,⟨7,.phase⟩,⟨8,.phase⟩,⟨9,.phase⟩,⟨10,.phase⟩,⟨11,.phase⟩,⟨12,.phase⟩,⟨13,.phase⟩,⟨14,.phase⟩,⟨15,.phase⟩,⟨16,.phase⟩,⟨17,.textOnly .lateStores⟩,⟨18,.textOnly .lateStores⟩,⟨19,.phase⟩,⟨20,.phase⟩],none⟩) (by kernel_rfl) rfl (fun K hK => ?_);obtain ⟨⟨Sr,Dr⟩,⟨Sq,Dq⟩,Nrq⟩ := HB.out.two;have e0 := Dq.c0;have e1 := Dq.c1;have e2 := Dq.fz 0;have e3 := Dq.fz 1;go_simp;clear e0 e1 e2 e3;obtain ⟨V45,hW⟩ : ∃ V45,((V44.setCell ⟨w42.heap.size,0,none⟩ (.bool nq)).setCell ⟨w42.heap.size,1,none⟩ (.slice aq xq.length cq)) = V45 := ⟨_,rfl⟩
      replace Mq := hid (Mq.out.ty (Dq.ty13 (.bool nq) (.slice aq xq.length cq)) (by decide));replace Mr := hid (Mr.out.ty (Dq.ty13 (.bool nq) (.slice aq xq.length cq)) (by decide));replace Dr := Dr.box (Ne.symm Nrq) (.bool nq) (.slice aq xq.length cq);replace Dq := Dq.set (.bool nq) (.slice aq xq.length cq);replace GB := hid (bset (u := .slice aq xq.length cq) (j := 1) (bset (u := .bool nq) (j := 0) GB.out Sq) Sq);rw [hW] at Mq Mr Dq Dr GB;rw [hW];clear hW;refine hK.out _ _ (fun _ => KB.out _ GB.out) ?_;clear hK
      try simp only [Act.put]
      refine zAA (i := 22) (o := ⟨none,.store 27 (.tmp 6) (.tmp 49),0, "triangle.go:80",#[⟨20,.data⟩,⟨17,.data⟩,⟨21,.chain⟩,⟨0,.phase⟩,⟨1,.phase⟩,⟨2,.phase⟩,⟨3,.phase⟩,⟨4,.phase⟩,⟨5,.phase⟩,⟨6,.phase⟩,⟨7,.phase⟩,⟨8,.phase⟩,⟨9,.phase⟩,⟨10,.phase⟩,⟨11,.phase⟩,⟨12,.phase⟩,⟨13,.phase⟩,⟨14,.phase⟩,⟨15,.phase⟩,⟨16,.phase⟩,⟨17,.phase⟩,⟨18,.textOnly .lateStores⟩,⟨19,.phase⟩,⟨20,.phase⟩,⟨21,.phase⟩],none⟩) (by kernel_rfl) rfl (fun K hK => ?_);have e0 := Dr.c0;have e1 := Dr.c1;have e2 := Dr.fz 0;have e3 := Dr.fz 1;go_simp;clear e0 e1 e2 e3;obtain ⟨V46,hW⟩ : ∃ V46,((V45.setCell ⟨V43.heap.size,0,none⟩ (.bool nr)).setCell ⟨V43.heap.size,1,none⟩ (.slice ar xr.length cr)) = V46 := ⟨_,rfl⟩
      replace Mq := hid (Mq.out.ty (Dr.ty13 (.bool nr) (.slice ar xr.length cr)) (by decide));replace Mr := hid (Mr.out.ty (Dr.ty13 (.bool nr) (.slice ar xr.length cr)) (by decide));replace Dq := Dq.box Nrq (.bool nr) (.slice ar xr.length cr);replace Dr := Dr.set (.bool nr) (.slice ar xr.length cr);replace GB := hid (bset (u := .slice ar xr.length cr) (j := 1) (bset (u := .bool nr) (j := 0) GB.out Sr) Sr);rw [hW] at Mq Mr Dq Dr GB;rw [hW];clear hW;refine hK.out _ _ (fun _ => KB.out _ GB.out) ?_;clear hK
      try simp only [Act.put]
      refine zAA (i := 23) (o := ⟨some 7,.assign (.tmp 50),29, "triangle.go:80",#[⟨18,.data⟩,⟨22,.chain⟩,⟨0,.phase⟩,⟨1,.phase⟩,⟨2,.phase⟩,⟨3,.phase⟩,⟨4,.phase⟩,⟨5,.phase⟩,⟨6,.phase⟩,⟨7,.phase⟩,⟨8,.phase⟩,⟨9,.phase⟩,⟨10,.phase⟩,⟨11,.phase⟩,⟨12,.phase⟩,⟨13,.phase⟩,⟨14,.phase⟩,⟨15,.phase⟩,⟨16,.phase⟩,⟨17,.phase⟩,⟨18,.phase⟩,⟨19,.phase⟩,⟨20,.phase⟩,⟨21,.phase⟩,⟨22,.phase⟩],none⟩) (by kernel_rfl) rfl (fun K hK => ?_);go_simp;refine hK.out _ _ (fun h => absurd h (by decide)) ?_;clear hK
      try simp only [Act.put]
      refine zCA (by kernel_rfl) ?_ _;obtain ⟨W9,hW9⟩ : ∃ W9,V46 = W9 := ⟨_,rfl⟩
      obtain ⟨bq,hbq⟩ : ∃ bq,w42.heap.size = bq := ⟨_,rfl⟩
      rw [hW9] at Dq Mq GB ⊢;rw [hbq] at Dq ⊢;have TG9 := hid (TG2.out.now GB.out);have RW9 := hid (RW2.out.now GB.out);have PB9 := hid (PB2.out.step GB.out);have TW9 := hid (TW3.out.trans (.ofBelow GB.out));have MQ9 := Mq;have DQ9 := hid Dq;clear hW9 hbq GB KB HB Mq Mr Dq Dr Sq Sr;have HSG := hid (zmA MQ9.out.zi);have q0 := DQ9.out.c0;have q1 := DQ9.out.c1;gi_wp2_with fail;refine ⟨trivial,(CallsIn.inRound _ (callsIn_wide.2 HSG.out)).mono ?_⟩;rintro e w10 ⟨rfl,b⟩;have TG10 := hid (TG9.out.now b);have RW10 := hid (RW9.out.now b);have PB10 := hid (PB9.out.step b);have TW10 := hid (TW9.out.trans (.ofBelow b));have MQ10 := hid (MQ9.out.now b);have DQ10 := hid (DQ9.out.step b);clear TG9 RW9 PB9 TW9 MQ9 DQ9 HSG b q0 q1 TG2 RW2 PB2 TW3 x0 x1 z0 z2 zl p0 p1 ZX ZP
      by_cases hz : fdv (F1 c) (L c c) = 0
      ·have HN1 : Hid (zZC B W bt nd ad ld cd (.slice (some ⟨Lb,0,none⟩) n lc) n i D gs k kw P w.heap.size (.int .i64 ((c + 1 : Nat) : Int)) w10) := ⟨c + 1,_,rfl,by omega,by omega,TG10.out,zoA LW.out hic hlt HF1.out HFC.out HPV.out.1 (F := F1) (fun t ht => by unfold ziA;rw [hz];split <;> omega),PB10.out,TW10.out⟩
       have hs0 : cmpI (fdv (F1 c) (L c c)) 0 = 0 := by rw [hz];rfl
       rw [hs0];clear TG10 RW10 PB10 TW10 MQ10 DQ10 hz hs0;gi_wp2_with fail;go_roundw
       case rel => exact HN1.out
       case measure => simp [intOf];omega
      ·have hs0 : (cmpI (fdv (F1 c) (L c c)) 0 != 0) = true := by
        unfold cmpI
        split <;> (try split) <;> first | rfl | omega
       obtain ⟨sg,hsg⟩ : ∃ sg,cmpI (fdv (F1 c) (L c c)) 0 = sg := ⟨_,rfl⟩
       rw [hsg] at hs0 ⊢;have hs1 : ¬ sg = 0 := by intro q;rw [q] at hs0;simp at hs0
       have LW2 := zoA LW.out hic hlt HF1.out HFC.out HPV.out.1 (F := ziA c (fdv (F1 c) (L c c)) (L c) F1) (fun t ht => rfl);have hft : ∀ j,j < n → ((ziA c (fdv (F1 c) (L c c)) (znB L i F1 c) F1 j).natAbs : Int) < pw kw := fun j hj => by
        rw [zgA _ (show c ≠ i by omega)];have hm := LW2.mid j hj hin;rw [zxA] at hm;have hdd : 0 < D * D := Int.mul_pos HD0.out HD0.out;have : ((c + 1 : Nat) : Int) * (D * D) ≤ 64 * (D * D) := Int.mul_le_mul_of_nonneg_right (by omega) (by omega);have := HM.out;omega
       have HLS := hid (zhD TG10.out hlt RW10.out (fun q => absurd (TG10.out.2.2.2.1 i c hin hlt q) (by omega)) MQ10.out hft hn (by have := HkK.out;have := HK.out;omega));rw [zgA _ (show c ≠ i by omega)] at HLS;have g0 := DQ10.out.c0;have g1 := DQ10.out.c1;have y0 := PB10.out.at (i := 0) rfl;have FN : Hid (∀ e Y,zoE w10 (gs i) n (ziA c (fdv (F1 c) (L c c)) (L c) F1) kw e Y → zZC B W bt nd ad ld cd (.slice (some ⟨Lb,0,none⟩) n lc) n i D gs k kw P w.heap.size (.int .i64 ((c + 1 : Nat) : Int)) Y) := by
        rintro e Y ⟨-,h1,h2⟩;have ty := zwA RW10.out h2;have tg := TG10.out.line19 hin h2 (fun j hj hji q => hji (TG10.out.2.2.2.1 j i hj hin q)) ty h1;rw [zRB] at tg;exact ⟨c + 1,_,rfl,by omega,by omega,tg,LW2,PB10.out.ty13 ty (by decide),TW10.out.trans (h2.mono19 fun b q => ⟨i,hin,q⟩)⟩
       clear hz hsg LW2 hft TG10 RW10 PB10 TW10 MQ10 DQ10;gi_wp2_with fail;refine ⟨trivial,(CallsIn.inRound _ (callsIn_wide.2 HLS.out)).mono ?_⟩;intro e Y hY;have HN1 := hid (FN.out e Y hY);obtain ⟨rfl,-⟩ := hY;clear HLS FN g0 g1 y0;gi_wp2_with fail;go_roundw
       case rel => exact HN1.out
       case measure => simp [intOf];omega
     ·skip
      go_simp;obtain ⟨V47,hW⟩ : ∃ V47,w42.alloc zbox = V47 := ⟨_,rfl⟩
      obtain ⟨b,sz47⟩ := alo1 w42 zbox;rw [hW] at b sz47;replace GB := hid (below_step GB.out b);replace Mq := hid (Mq.out.now b);replace Mr := hid (Mr.out.now b);replace HB : Hid (BX19 W8 V47 [w42.heap.size]) := by unfold Hid;rw [← hW];exact HB.out.new
      clear sz47;rw [hW];clear hW b;refine hK.out _ _ (fun _ => KB.out _ GB.out) ?_;clear hK
      try simp only [Act.put]
      refine zAA (i := 19) (o := ⟨some 5,.alloc 27,0, "triangle.go:80",#[],none⟩) (by kernel_rfl) rfl (fun K hK => ?_);go_simp;obtain ⟨V48,hW⟩ : ∃ V48,V47.alloc zbox = V48 := ⟨_,rfl⟩
      obtain ⟨b,sz48⟩ := alo1 V47 zbox;rw [hW] at b sz48;replace GB := hid (below_step GB.out b);replace Mq := hid (Mq.out.now b);replace Mr := hid (Mr.out.now b);replace HB : Hid (BX19 W8 V48 [V47.heap.size,w42.heap.size]) := by unfold Hid;rw [← hW];exact HB.out.new
      clear sz48;rw [hW];clear hW b;refine hK.out _ _ (fun _ => KB.out _ GB.out) ?_;clear hK
      try simp only [Act.put]
      refine zAA (i := 21) (o := ⟨none,.store 27 (.tmp 5) (.tmp 48),0, "triangle.go:80",#[⟨19,.data⟩,⟨16,.data⟩,⟨14,.chain⟩,⟨0,.phase⟩,⟨1,.phase⟩,⟨2,.phase⟩,⟨3,.phase⟩,⟨4,.phase⟩,⟨5,.phase⟩,⟨6,.phase⟩,⟨7,.phase⟩,⟨8,.phase⟩,⟨9,.phase⟩,⟨10,.phase⟩,⟨11,.phase⟩,⟨12,.phase⟩,⟨13,.phase⟩,⟨14,.phase⟩,⟨15,.phase⟩,⟨16,.phase⟩,⟨17,.textOnly .lateStores⟩,⟨18,.textOnly .lateStores⟩,⟨19,.phase⟩,⟨20,.phase⟩],none⟩) (by kernel_rfl) rfl (fun K hK => ?_);obtain ⟨⟨Sq,Dq⟩,⟨Sr,Dr⟩,Nqr⟩ := HB.out.two;have e0 := Dq.c0;have e1 := Dq.c1;have e2 := Dq.fz 0;have e3 := Dq.fz 1;go_simp;clear e0 e1 e2 e3;obtain ⟨V49,hW⟩ : ∃ V49,((V48.setCell ⟨V47.heap.size,0,none⟩ (.bool nq)).setCell ⟨V47.heap.size,1,none⟩ (.slice aq xq.length cq)) = V49 := ⟨_,rfl⟩
      replace Mq := hid (Mq.out.ty (Dq.ty13 (.bool nq) (.slice aq xq.length cq)) (by decide));replace Mr := hid (Mr.out.ty (Dq.ty13 (.bool nq) (.slice aq xq.length cq)) (by decide));replace Dr := Dr.box Nqr (.bool nq) (.slice aq xq.length cq);replace Dq := Dq.set (.bool nq) (.slice aq xq.length cq);replace GB := hid (bset (u := .slice aq xq.length cq) (j := 1) (bset (u := .bool nq) (j := 0) GB.out Sq) Sq);rw [hW] at Mq Mr Dq Dr GB;rw [hW];clear hW;refine hK.out _ _ (fun _ => KB.out _ GB.out) ?_;clear hK
      try simp only [Act.put]
      refine zAA (i := 22) (o := ⟨none,.store 27 (.tmp 6) (.tmp 49),0, "triangle.go:80",#[⟨20,.data⟩,⟨17,.data⟩,⟨21,.chain⟩,⟨0,.phase⟩,⟨1,.phase⟩,⟨2,.phase⟩,⟨3,.phase⟩,⟨4,.phase⟩,⟨5,.phase⟩,⟨6,.phase⟩,⟨7,.phase⟩,⟨8,.phase⟩,⟨9,.phase⟩,⟨10,.phase⟩,⟨11,.phase⟩,⟨12,.phase⟩,⟨13,.phase⟩,⟨14,.phase⟩,⟨15,.phase⟩,⟨16,.phase⟩,⟨17,.phase⟩,⟨18,.textOnly .lateStores⟩,⟨19,.phase⟩,⟨20,.phase⟩,⟨21,.phase⟩],none⟩) (by kernel_rfl) rfl (fun K hK => ?_);have e0 := Dr.c0;have e1 := Dr.c1;have e2 := Dr.fz 0;have e3 := Dr.fz 1;go_simp;clear e0 e1 e2 e3;obtain ⟨V50,hW⟩ : ∃ V50,((V49.setCell ⟨w42.heap.size,0,none⟩ (.bool nr)).setCell ⟨w42.heap.size,1,none⟩ (.slice ar xr.length cr)) = V50 := ⟨_,rfl⟩
      replace Mq := hid (Mq.out.ty (Dr.ty13 (.bool nr) (.slice ar xr.length cr)) (by decide));replace Mr := hid (Mr.out.ty (Dr.ty13 (.bool nr) (.slice ar xr.length cr)) (by decide));replace Dq := Dq.box (Ne.symm Nqr) (.bool nr) (.slice ar xr.length cr);replace Dr := Dr.set (.bool nr) (.slice ar xr.length cr);replace GB := hid (bset (u := .slice ar xr.length cr) (j := 1) (bset (u := .bool nr) (j := 0) GB.out Sr) Sr);rw [hW] at Mq Mr Dq Dr GB;rw [hW];clear hW;refine hK.out _ _ (fun _ => KB.out _ GB.out) ?_;clear hK
      try simp only [Act.put]
      refine zAA (i := 23) (o := ⟨some 7,.assign (.tmp 50),29, "triangle.go:80",#[⟨18,.data⟩,⟨22,.chain⟩,⟨0,.phase⟩,⟨1,.phase⟩,⟨2,.phase⟩,⟨3,.phase⟩,⟨4,.phase⟩,⟨5,.phase⟩,⟨6,.phase⟩,⟨7,.phase⟩,⟨8,.phase⟩,⟨9,.phase⟩,⟨10,.phase⟩,⟨11,.phase⟩,⟨12,.phase⟩,⟨13,.phase⟩,⟨14,.phase⟩,⟨15,.phase⟩,⟨16,.phase⟩,⟨17,.phase⟩,⟨18,.phase⟩,⟨19,.phase⟩,⟨20,.phase⟩,⟨21,.phase⟩,⟨22,.phase⟩],none⟩) (by kernel_rfl) rfl (fun K hK => ?_);go_simp;refine hK.out _ _ (fun h => absurd h (by decide)) ?_;clear hK
      try simp only [Act.put]
      refine zCA (by kernel_rfl) ?_ _;obtain ⟨W9,hW9⟩ : ∃ W9,V50 = W9 := ⟨_,rfl⟩
      obtain ⟨bq,hbq⟩ : ∃ bq,V47.heap.size = bq := ⟨_,rfl⟩
      rw [hW9] at Dq Mq GB ⊢;rw [hbq] at Dq ⊢;have TG9 := hid (TG2.out.now GB.out);have RW9 := hid (RW2.out.now GB.out);have PB9 := hid (PB2.out.step GB.out);have TW9 := hid (TW3.out.trans (.ofBelow GB.out));have MQ9 := Mq;have DQ9 := hid Dq;clear hW9 hbq GB KB HB Mq Mr Dq Dr Sq Sr;have HSG := hid (zmA MQ9.out.zi);have q0 := DQ9.out.c0;have q1 := DQ9.out.c1;gi_wp2_with fail;refine ⟨trivial,(CallsIn.inRound _ (callsIn_wide.2 HSG.out)).mono ?_⟩;rintro e w10 ⟨rfl,b⟩;have TG10 := hid (TG9.out.now b);have RW10 := hid (RW9.out.now b);have PB10 := hid (PB9.out.step b);have TW10 := hid (TW9.out.trans (.ofBelow b));have MQ10 := hid (MQ9.out.now b);have DQ10 := hid (DQ9.out.step b);clear TG9 RW9 PB9 TW9 MQ9 DQ9 HSG b q0 q1 TG2 RW2 PB2 TW3 x0 x1 z0 z2 zl p0 p1 ZX ZP
      by_cases hz : fdv (F1 c) (L c c) = 0
      ·have HN1 : Hid (zZC B W bt nd ad ld cd (.slice (some ⟨Lb,0,none⟩) n lc) n i D gs k kw P w.heap.size (.int .i64 ((c + 1 : Nat) : Int)) w10) := ⟨c + 1,_,rfl,by omega,by omega,TG10.out,zoA LW.out hic hlt HF1.out HFC.out HPV.out.1 (F := F1) (fun t ht => by unfold ziA;rw [hz];split <;> omega),PB10.out,TW10.out⟩
       have hs0 : cmpI (fdv (F1 c) (L c c)) 0 = 0 := by rw [hz];rfl
       rw [hs0];clear TG10 RW10 PB10 TW10 MQ10 DQ10 hz hs0;gi_wp2_with fail;go_roundw
       case rel => exact HN1.out
       case measure => simp [intOf];omega
      ·have hs0 : (cmpI (fdv (F1 c) (L c c)) 0 != 0) = true := by
        unfold cmpI
        split <;> (try split) <;> first | rfl | omega
       obtain ⟨sg,hsg⟩ : ∃ sg,cmpI (fdv (F1 c) (L c c)) 0 = sg := ⟨_,rfl⟩
       rw [hsg] at hs0 ⊢;have hs1 : ¬ sg = 0 := by intro q;rw [q] at hs0;simp at hs0
       have LW2 := zoA LW.out hic hlt HF1.out HFC.out HPV.out.1 (F := ziA c (fdv (F1 c) (L c c)) (L c) F1) (fun t ht => rfl);have hft : ∀ j,j < n → ((ziA c (fdv (F1 c) (L c c)) (znB L i F1 c) F1 j).natAbs : Int) < pw kw := fun j hj => by
        rw [zgA _ (show c ≠ i by omega)];have hm := LW2.mid j hj hin;rw [zxA] at hm;have hdd : 0 < D * D := Int.mul_pos HD0.out HD0.out;have : ((c + 1 : Nat) : Int) * (D * D) ≤ 64 * (D * D) := Int.mul_le_mul_of_nonneg_right (by omega) (by omega);have := HM.out;omega
       have HLS := hid (zhD TG10.out hlt RW10.out (fun q => absurd (TG10.out.2.2.2.1 i c hin hlt q) (by omega)) MQ10.out hft hn (by have := HkK.out;have := HK.out;omega));rw [zgA _ (show c ≠ i by omega)] at HLS;have g0 := DQ10.out.c0;have g1 := DQ10.out.c1;have y0 := PB10.out.at (i := 0) rfl;have FN : Hid (∀ e Y,zoE w10 (gs i) n (ziA c (fdv (F1 c) (L c c)) (L c) F1) kw e Y → zZC B W bt nd ad ld cd (.slice (some ⟨Lb,0,none⟩) n lc) n i D gs k kw P w.heap.size (.int .i64 ((c + 1 : Nat) : Int)) Y) := by
        rintro e Y ⟨-,h1,h2⟩;have ty := zwA RW10.out h2;have tg := TG10.out.line19 hin h2 (fun j hj hji q => hji (TG10.out.2.2.2.1 j i hj hin q)) ty h1;rw [zRB] at tg;exact ⟨c + 1,_,rfl,by omega,by omega,tg,LW2,PB10.out.ty13 ty (by decide),TW10.out.trans (h2.mono19 fun b q => ⟨i,hin,q⟩)⟩
       clear hz hsg LW2 hft TG10 RW10 PB10 TW10 MQ10 DQ10;gi_wp2_with fail;refine ⟨trivial,(CallsIn.inRound _ (callsIn_wide.2 HLS.out)).mono ?_⟩;intro e Y hY;have HN1 := hid (FN.out e Y hY);obtain ⟨rfl,-⟩ := hY;clear HLS FN g0 g1 y0;gi_wp2_with fail;go_roundw
       case rel => exact HN1.out
       case measure => simp [intOf];omega
    ·skip
     go_simp;obtain ⟨V51,hW⟩ : ∃ V51,D41.alloc zbox = V51 := ⟨_,rfl⟩
     obtain ⟨b,sz51⟩ := alo1 D41 zbox;rw [hW] at b sz51;replace GB := hid (below_step GB.out b);replace HB : Hid (BX19 W8 V51 [D41.heap.size]) := by unfold Hid;rw [← hW];exact HB.out.new
     clear sz51;rw [hW];clear hW b;refine hK.out _ _ (fun _ => KB.out _ GB.out) ?_;clear hK
     try simp only [Act.put]
     refine zMA (i := 14) (j := 20) (oi := ⟨some 47,.call { callee := .value (.func 79),args := #[.tmp 36,.tmp 46],argTypes := #[27,27] },114, "triangle.go:80",#[⟨3,.data⟩,⟨13,.data⟩],none⟩) (oj := ⟨some 6,.alloc 27,0, "triangle.go:80",#[],none⟩) (by kernel_rfl) rfl rfl (fun K hK => ?_) (fun K hK => ?_)
     ·skip
      go_simp;go_at_call 79;refine (zmD (ZX.out.now GB.out).zi (ZP.out.now GB.out).zi HPN.out (by have := HK.out;omega) (by have := HK.out;omega)).mono ?_;rintro e w52 ⟨rq,rr,rfl,mq,mr,b⟩;have lz52 := (show Below _ _ _ from b).size;replace GB := hid (below_step GB.out b);have Mq := hid ((mq.mono (Nat.zero_le _)).fit HFK.out);obtain ⟨nq,xq,aq,cq,rfl⟩ := Mq.out.parts;have Mr := hid (mr.mono (Nat.zero_le _));obtain ⟨nr,xr,ar,cr,rfl⟩ := Mr.out.parts;clear mq mr;replace HB := hid (HB.out.step b);clear b;refine hK.out _ _ (fun _ => KB.out _ GB.out) ?_;clear hK;refine zEA [(15,(.tuple #[(.agg #[.bool nq,.slice aq xq.length cq]),(.agg #[.bool nr,.slice ar xr.length cr]),(.int .i64 0)])),(16,(.agg #[.bool nq,.slice aq xq.length cq])),(17,(.agg #[.bool nr,.slice ar xr.length cr])),(18,(.int .i64 0))] 4 ?_ (KB.out _ GB.out) ?_
      ·simp only [zPA,gA9,g09,g19,Act.put,sI9,s09,s19]
       (repeat' (first | exact trivial | refine And.intro (Or.inl ⟨by rfl,?_⟩) ?_)) <;> (intro w hSw;(try dsimp only at hSw);go_simp)
      simp only [actV,gA9,g09,g19,Act.put,sI9,s09,s19];refine zAA (i := 20) (o := ⟨some 6,.alloc 27,0, "triangle.go:80",#[],none⟩) (by kernel_rfl) rfl (fun K hK => ?_);go_simp;obtain ⟨V53,hW⟩ : ∃ V53,w52.alloc zbox = V53 := ⟨_,rfl⟩
      obtain ⟨b,sz53⟩ := alo1 w52 zbox;rw [hW] at b sz53;replace GB := hid (below_step GB.out b);replace Mq := hid (Mq.out.now b);replace Mr := hid (Mr.out.now b);replace HB : Hid (BX19 W8 V53 [w52.heap.size,D41.heap.size]) := by unfold Hid;rw [← hW];exact HB.out.new
      clear sz53;rw [hW];clear hW b;refine hK.out _ _ (fun _ => KB.out _ GB.out) ?_;clear hK
      try simp only [Act.put]
      refine zAA (i := 21) (o := ⟨none,.store 27 (.tmp 5) (.tmp 48),0, "triangle.go:80",#[⟨19,.data⟩,⟨16,.data⟩,⟨14,.chain⟩,⟨0,.phase⟩,⟨1,.phase⟩,⟨2,.phase⟩,⟨3,.phase⟩,⟨4,.phase⟩,⟨5,.phase⟩,⟨6,.phase⟩,⟨7,.phase⟩,⟨8,.phase⟩,⟨9,.phase⟩,⟨10,.phase⟩,⟨11,.phase⟩,⟨12,.phase⟩,⟨13,.phase⟩,⟨14,.phase⟩,⟨15,.phase⟩,⟨16,.phase⟩,⟨17,.textOnly .lateStores⟩,⟨18,.textOnly .lateStores⟩,⟨19,.phase⟩,⟨20,.phase⟩],none⟩) (by kernel_rfl) rfl (fun K hK => ?_);obtain ⟨⟨Sr,Dr⟩,⟨Sq,Dq⟩,Nrq⟩ := HB.out.two;have e0 := Dq.c0;have e1 := Dq.c1;have e2 := Dq.fz 0;have e3 := Dq.fz 1;go_simp;clear e0 e1 e2 e3;obtain ⟨V54,hW⟩ : ∃ V54,((V53.setCell ⟨D41.heap.size,0,none⟩ (.bool nq)).setCell ⟨D41.heap.size,1,none⟩ (.slice aq xq.length cq)) = V54 := ⟨_,rfl⟩
      replace Mq := hid (Mq.out.ty (Dq.ty13 (.bool nq) (.slice aq xq.length cq)) (by decide));replace Mr := hid (Mr.out.ty (Dq.ty13 (.bool nq) (.slice aq xq.length cq)) (by decide));replace Dr := Dr.box (Ne.symm Nrq) (.bool nq) (.slice aq xq.length cq);replace Dq := Dq.set (.bool nq) (.slice aq xq.length cq);replace GB := hid (bset (u := .slice aq xq.length cq) (j := 1) (bset (u := .bool nq) (j := 0) GB.out Sq) Sq);rw [hW] at Mq Mr Dq Dr GB;rw [hW];clear hW;refine hK.out _ _ (fun _ => KB.out _ GB.out) ?_;clear hK
      try simp only [Act.put]
      refine zAA (i := 22) (o := ⟨none,.store 27 (.tmp 6) (.tmp 49),0, "triangle.go:80",#[⟨20,.data⟩,⟨17,.data⟩,⟨21,.chain⟩,⟨0,.phase⟩,⟨1,.phase⟩,⟨2,.phase⟩,⟨3,.phase⟩,⟨4,.phase⟩,⟨5,.phase⟩,⟨6,.phase⟩,⟨7,.phase⟩,⟨8,.phase⟩,⟨9,.phase⟩,⟨10,.phase⟩,⟨11,.phase⟩,⟨12,.phase⟩,⟨13,.phase⟩,⟨14,.phase⟩,⟨15,.phase⟩,⟨16,.phase⟩,⟨17,.phase⟩,⟨18,.textOnly .lateStores⟩,⟨19,.phase⟩,⟨20,.phase⟩,⟨21,.phase⟩],none⟩) (by kernel_rfl) rfl (fun K hK => ?_);have e0 := Dr.c0;have e1 := Dr.c1;have e2 := Dr.fz 0;have e3 := Dr.fz 1;go_simp;clear e0 e1 e2 e3;obtain ⟨V55,hW⟩ : ∃ V55,((V54.setCell ⟨w52.heap.size,0,none⟩ (.bool nr)).setCell ⟨w52.heap.size,1,none⟩ (.slice ar xr.length cr)) = V55 := ⟨_,rfl⟩
      replace Mq := hid (Mq.out.ty (Dr.ty13 (.bool nr) (.slice ar xr.length cr)) (by decide));replace Mr := hid (Mr.out.ty (Dr.ty13 (.bool nr) (.slice ar xr.length cr)) (by decide));replace Dq := Dq.box Nrq (.bool nr) (.slice ar xr.length cr);replace Dr := Dr.set (.bool nr) (.slice ar xr.length cr);replace GB := hid (bset (u := .slice ar xr.length cr) (j := 1) (bset (u := .bool nr) (j := 0) GB.out Sr) Sr);rw [hW] at Mq Mr Dq Dr GB;rw [hW];clear hW;refine hK.out _ _ (fun _ => KB.out _ GB.out) ?_;clear hK
      try simp only [Act.put]
      refine zAA (i := 23) (o := ⟨some 7,.assign (.tmp 50),29, "triangle.go:80",#[⟨18,.data⟩,⟨22,.chain⟩,⟨0,.phase⟩,⟨1,.phase⟩,⟨2,.phase⟩,⟨3,.phase⟩,⟨4,.phase⟩,⟨5,.phase⟩,⟨6,.phase⟩,⟨7,.phase⟩,⟨8,.phase⟩,⟨9,.phase⟩,⟨10,.phase⟩,⟨11,.phase⟩,⟨12,.phase⟩,⟨13,.phase⟩,⟨14,.phase⟩,⟨15,.phase⟩,⟨16,.phase⟩,⟨17,.phase⟩,⟨18,.phase⟩,⟨19,.phase⟩,⟨20,.phase⟩,⟨21,.phase⟩,⟨22,.phase⟩],none⟩) (by kernel_rfl) rfl (fun K hK => ?_);go_simp;refine hK.out _ _ (fun h => absurd h (by decide)) ?_;clear hK
      try simp only [Act.put]
      refine zCA (by kernel_rfl) ?_ _;obtain ⟨W9,hW9⟩ : ∃ W9,V55 = W9 := ⟨_,rfl⟩
      obtain ⟨bq,hbq⟩ : ∃ bq,D41.heap.size = bq := ⟨_,rfl⟩
      rw [hW9] at Dq Mq GB ⊢;rw [hbq] at Dq ⊢;have TG9 := hid (TG2.out.now GB.out);have RW9 := hid (RW2.out.now GB.out);have PB9 := hid (PB2.out.step GB.out);have TW9 := hid (TW3.out.trans (.ofBelow GB.out));have MQ9 := Mq;have DQ9 := hid Dq;clear hW9 hbq GB KB HB Mq Mr Dq Dr Sq Sr;have HSG := hid (zmA MQ9.out.zi);have q0 := DQ9.out.c0;have q1 := DQ9.out.c1;gi_wp2_with fail;refine ⟨trivial,(CallsIn.inRound _ (callsIn_wide.2 HSG.out)).mono ?_⟩;rintro e w10 ⟨rfl,b⟩;have TG10 := hid (TG9.out.now b);have RW10 := hid (RW9.out.now b);have PB10 := hid (PB9.out.step b);have TW10 := hid (TW9.out.trans (.ofBelow b));have MQ10 := hid (MQ9.out.now b);have DQ10 := hid (DQ9.out.step b);clear TG9 RW9 PB9 TW9 MQ9 DQ9 HSG b q0 q1 TG2 RW2 PB2 TW3 x0 x1 z0 z2 zl p0 p1 ZX ZP
      by_cases hz : fdv (F1 c) (L c c) = 0
      ·have HN1 : Hid (zZC B W bt nd ad ld cd (.slice (some ⟨Lb,0,none⟩) n lc) n i D gs k kw P w.heap.size (.int .i64 ((c + 1 : Nat) : Int)) w10) := ⟨c + 1,_,rfl,by omega,by omega,TG10.out,zoA LW.out hic hlt HF1.out HFC.out HPV.out.1 (F := F1) (fun t ht => by unfold ziA;rw [hz];split <;> omega),PB10.out,TW10.out⟩
       have hs0 : cmpI (fdv (F1 c) (L c c)) 0 = 0 := by rw [hz];rfl
       rw [hs0];clear TG10 RW10 PB10 TW10 MQ10 DQ10 hz hs0;gi_wp2_with fail;go_roundw
       case rel => exact HN1.out
       case measure => simp [intOf];omega
      ·have hs0 : (cmpI (fdv (F1 c) (L c c)) 0 != 0) = true := by
        unfold cmpI
        split <;> (try split) <;> first | rfl | omega
       obtain ⟨sg,hsg⟩ : ∃ sg,cmpI (fdv (F1 c) (L c c)) 0 = sg := ⟨_,rfl⟩
       rw [hsg] at hs0 ⊢;have hs1 : ¬ sg = 0 := by intro q;rw [q] at hs0;simp at hs0
       have LW2 := zoA LW.out hic hlt HF1.out HFC.out HPV.out.1 (F := ziA c (fdv (F1 c) (L c c)) (L c) F1) (fun t ht => rfl);have hft : ∀ j,j < n → ((ziA c (fdv (F1 c) (L c c)) (znB L i F1 c) F1 j).natAbs : Int) < pw kw := fun j hj => by
        rw [zgA _ (show c ≠ i by omega)];have hm := LW2.mid j hj hin;rw [zxA] at hm;have hdd : 0 < D * D := Int.mul_pos HD0.out HD0.out;have : ((c + 1 : Nat) : Int) * (D * D) ≤ 64 * (D * D) := Int.mul_le_mul_of_nonneg_right (by omega) (by omega);have := HM.out;omega
       have HLS := hid (zhD TG10.out hlt RW10.out (fun q => absurd (TG10.out.2.2.2.1 i c hin hlt q) (by omega)) MQ10.out hft hn (by have := HkK.out;have := HK.out;omega));rw [zgA _ (show c ≠ i by omega)] at HLS;have g0 := DQ10.out.c0;have g1 := DQ10.out.c1;have y0 := PB10.out.at (i := 0) rfl;have FN : Hid (∀ e Y,zoE w10 (gs i) n (ziA c (fdv (F1 c) (L c c)) (L c) F1) kw e Y → zZC B W bt nd ad ld cd (.slice (some ⟨Lb,0,none⟩) n lc) n i D gs k kw P w.heap.size (.int .i64 ((c + 1 : Nat) : Int)) Y) := by
        rintro e Y ⟨-,h1,h2⟩;have ty := zwA RW10.out h2;have tg := TG10.out.line19 hin h2 (fun j hj hji q => hji (TG10.out.2.2.2.1 j i hj hin q)) ty h1;rw [zRB] at tg;exact ⟨c + 1,_,rfl,by omega,by omega,tg,LW2,PB10.out.ty13 ty (by decide),TW10.out.trans (h2.mono19 fun b q => ⟨i,hin,q⟩)⟩
       clear hz hsg LW2 hft TG10 RW10 PB10 TW10 MQ10 DQ10;gi_wp2_with fail;refine ⟨trivial,(CallsIn.inRound _ (callsIn_wide.2 HLS.out)).mono ?_⟩;intro e Y hY;have HN1 := hid (FN.out e Y hY);obtain ⟨rfl,-⟩ := hY;clear HLS FN g0 g1 y0;gi_wp2_with fail;go_roundw
       case rel => exact HN1.out
       case measure => simp [intOf];omega
     ·skip
      go_simp;obtain ⟨V56,hW⟩ : ∃ V56,V51.alloc zbox = V56 := ⟨_,rfl⟩
      obtain ⟨b,sz56⟩ := alo1 V51 zbox;rw [hW] at b sz56;replace GB := hid (below_step GB.out b);replace HB : Hid (BX19 W8 V56 [V51.heap.size,D41.heap.size]) := by unfold Hid;rw [← hW];exact HB.out.new
      clear sz56;rw [hW];clear hW b;refine hK.out _ _ (fun _ => KB.out _ GB.out) ?_;clear hK
      try simp only [Act.put]
      refine zAA (i := 14) (o := ⟨some 47,.call { callee := .value (.func 79),args := #[.tmp 36,.tmp 46],argTypes := #[27,27] },114, "triangle.go:80",#[⟨3,.data⟩,⟨13,.data⟩],none⟩) (by kernel_rfl) rfl (fun K hK => ?_);go_simp;go_at_call 79;refine (zmD (ZX.out.now GB.out).zi (ZP.out.now GB.out).zi HPN.out (by have := HK.out;omega) (by have := HK.out;omega)).mono ?_;rintro e w57 ⟨rq,rr,rfl,mq,mr,b⟩;have lz57 := (show Below _ _ _ from b).size;replace GB := hid (below_step GB.out b);have Mq := hid ((mq.mono (Nat.zero_le _)).fit HFK.out);obtain ⟨nq,xq,aq,cq,rfl⟩ := Mq.out.parts;have Mr := hid (mr.mono (Nat.zero_le _));obtain ⟨nr,xr,ar,cr,rfl⟩ := Mr.out.parts;clear mq mr;replace HB := hid (HB.out.step b);clear b;refine hK.out _ _ (fun _ => KB.out _ GB.out) ?_;clear hK;refine zEA [(15,(.tuple #[(.agg #[.bool nq,.slice aq xq.length cq]),(.agg #[.bool nr,.slice ar xr.length cr]),(.int .i64 0)])),(16,(.agg #[.bool nq,.slice aq xq.length cq])),(17,(.agg #[.bool nr,.slice ar xr.length cr])),(18,(.int .i64 0))] 4 ?_ (KB.out _ GB.out) ?_
      ·simp only [zPA,gA9,g09,g19,Act.put,sI9,s09,s19]
       (repeat' (first | exact trivial | refine And.intro (Or.inl ⟨by rfl,?_⟩) ?_)) <;> (intro w hSw;(try dsimp only at hSw);go_simp)
      simp only [actV,gA9,g09,g19,Act.put,sI9,s09,s19];refine zAA (i := 21) (o := ⟨none,.store 27 (.tmp 5) (.tmp 48),0, "triangle.go:80",#[⟨19,.data⟩,⟨16,.data⟩,⟨14,.chain⟩,⟨0,.phase⟩,⟨1,.phase⟩,⟨2,.phase⟩,⟨3,.phase⟩,⟨4,.phase⟩,⟨5,.phase⟩,⟨6,.phase⟩,⟨7,.phase⟩,⟨8,.phase⟩,⟨9,.phase⟩,⟨10,.phase⟩,⟨11,.phase⟩,⟨12,.phase⟩,⟨13,.phase⟩,⟨14,.phase⟩,⟨15,.phase⟩,⟨16,.phase⟩,⟨17,.textOnly .lateStores⟩,⟨18,.textOnly .lateStores⟩,⟨19,.phase⟩,⟨20,.phase⟩],none⟩) (by kernel_rfl) rfl (fun K hK => ?_);obtain ⟨⟨Sr,Dr⟩,⟨Sq,Dq⟩,Nrq⟩ := HB.out.two;have e0 := Dq.c0;have e1 := Dq.c1;have e2 := Dq.fz 0;have e3 := Dq.fz 1;go_simp;clear e0 e1 e2 e3;obtain ⟨V58,hW⟩ : ∃ V58,((w57.setCell ⟨D41.heap.size,0,none⟩ (.bool nq)).setCell ⟨D41.heap.size,1,none⟩ (.slice aq xq.length cq)) = V58 := ⟨_,rfl⟩
      replace Mq := hid (Mq.out.ty (Dq.ty13 (.bool nq) (.slice aq xq.length cq)) (by decide));replace Mr := hid (Mr.out.ty (Dq.ty13 (.bool nq) (.slice aq xq.length cq)) (by decide));replace Dr := Dr.box (Ne.symm Nrq) (.bool nq) (.slice aq xq.length cq);replace Dq := Dq.set (.bool nq) (.slice aq xq.length cq);replace GB := hid (bset (u := .slice aq xq.length cq) (j := 1) (bset (u := .bool nq) (j := 0) GB.out Sq) Sq);rw [hW] at Mq Mr Dq Dr GB;rw [hW];clear hW;refine hK.out _ _ (fun _ => KB.out _ GB.out) ?_;clear hK
      try simp only [Act.put]
      refine zAA (i := 22) (o := ⟨none,.store 27 (.tmp 6) (.tmp 49),0, "triangle.go:80",#[⟨20,.data⟩,⟨17,.data⟩,⟨21,.chain⟩,⟨0,.phase⟩,⟨1,.phase⟩,⟨2,.phase⟩,⟨3,.phase⟩,⟨4,.phase⟩,⟨5,.phase⟩,⟨6,.phase⟩,⟨7,.phase⟩,⟨8,.phase⟩,⟨9,.phase⟩,⟨10,.phase⟩,⟨11,.phase⟩,⟨12,.phase⟩,⟨13,.phase⟩,⟨14,.phase⟩,⟨15,.phase⟩,⟨16,.phase⟩,⟨17,.phase⟩,⟨18,.textOnly .lateStores⟩,⟨19,.phase⟩,⟨20,.phase⟩,⟨21,.phase⟩],none⟩) (by kernel_rfl) rfl (fun K hK => ?_);have e0 := Dr.c0;have e1 := Dr.c1;have e2 := Dr.fz 0;have e3 := Dr.fz 1;go_simp;clear e0 e1 e2 e3;obtain ⟨V59,hW⟩ : ∃ V59,((V58.setCell ⟨V51.heap.size,0,none⟩ (.bool nr)).setCell ⟨V51.heap.size,1,none⟩ (.slice ar xr.length cr)) = V59 := ⟨_,rfl⟩
      replace Mq := hid (Mq.out.ty (Dr.ty13 (.bool nr) (.slice ar xr.length cr)) (by decide));replace Mr := hid (Mr.out.ty (Dr.ty13 (.bool nr) (.slice ar xr.length cr)) (by decide));replace Dq := Dq.box Nrq (.bool nr) (.slice ar xr.length cr);replace Dr := Dr.set (.bool nr) (.slice ar xr.length cr);replace GB := hid (bset (u := .slice ar xr.length cr) (j := 1) (bset (u := .bool nr) (j := 0) GB.out Sr) Sr);rw [hW] at Mq Mr Dq Dr GB;rw [hW];clear hW;refine hK.out _ _ (fun _ => KB.out _ GB.out) ?_;clear hK
      try simp only [Act.put]
      refine zAA (i := 23) (o := ⟨some 7,.assign (.tmp 50),29, "triangle.go:80",#[⟨18,.data⟩,⟨22,.chain⟩,⟨0,.phase⟩,⟨1,.phase⟩,⟨2,.phase⟩,⟨3,.phase⟩,⟨4,.phase⟩,⟨5,.phase⟩,⟨6,.phase⟩,⟨7,.phase⟩,⟨8,.phase⟩,⟨9,.phase⟩,⟨10,.phase⟩,⟨11,.phase⟩,⟨12,.phase⟩,⟨13,.phase⟩,⟨14,.phase⟩,⟨15,.phase⟩,⟨16,.phase⟩,⟨17,.phase⟩,⟨18,.phase⟩,⟨19,.phase⟩,⟨20,.phase⟩,⟨21,.phase⟩,⟨22,.phase⟩],none⟩) (by kernel_rfl) rfl (fun K hK => ?_);go_simp;refine hK.out _ _ (fun h => absurd h (by decide)) ?_;clear hK
      try simp only [Act.put]
      refine zCA (by kernel_rfl) ?_ _;obtain ⟨W9,hW9⟩ : ∃ W9,V59 = W9 := ⟨_,rfl⟩
      obtain ⟨bq,hbq⟩ : ∃ bq,D41.heap.size = bq := ⟨_,rfl⟩
      rw [hW9] at Dq Mq GB ⊢;rw [hbq] at Dq ⊢;have TG9 := hid (TG2.out.now GB.out);have RW9 := hid (RW2.out.now GB.out);have PB9 := hid (PB2.out.step GB.out);have TW9 := hid (TW3.out.trans (.ofBelow GB.out));have MQ9 := Mq;have DQ9 := hid Dq;clear hW9 hbq GB KB HB Mq Mr Dq Dr Sq Sr;have HSG := hid (zmA MQ9.out.zi);have q0 := DQ9.out.c0;have q1 := DQ9.out.c1;gi_wp2_with fail;refine ⟨trivial,(CallsIn.inRound _ (callsIn_wide.2 HSG.out)).mono ?_⟩;rintro e w10 ⟨rfl,b⟩;have TG10 := hid (TG9.out.now b);have RW10 := hid (RW9.out.now b);have PB10 := hid (PB9.out.step b);have TW10 := hid (TW9.out.trans (.ofBelow b));have MQ10 := hid (MQ9.out.now b);have DQ10 := hid (DQ9.out.step b);clear TG9 RW9 PB9 TW9 MQ9 DQ9 HSG b q0 q1 TG2 RW2 PB2 TW3 x0 x1 z0 z2 zl p0 p1 ZX ZP
      by_cases hz : fdv (F1 c) (L c c) = 0
      ·have HN1 : Hid (zZC B W bt nd ad ld cd (.slice (some ⟨Lb,0,none⟩) n lc) n i D gs k kw P w.heap.size (.int .i64 ((c + 1 : Nat) : Int)) w10) := ⟨c + 1,_,rfl,by omega,by omega,TG10.out,zoA LW.out hic hlt HF1.out HFC.out HPV.out.1 (F := F1) (fun t ht => by unfold ziA;rw [hz];split <;> omega),PB10.out,TW10.out⟩
       have hs0 : cmpI (fdv (F1 c) (L c c)) 0 = 0 := by rw [hz];rfl
       rw [hs0];clear TG10 RW10 PB10 TW10 MQ10 DQ10 hz hs0;gi_wp2_with fail;go_roundw
       case rel => exact HN1.out
       case measure => simp [intOf];omega
      ·have hs0 : (cmpI (fdv (F1 c) (L c c)) 0 != 0) = true := by
        unfold cmpI
        split <;> (try split) <;> first | rfl | omega
       obtain ⟨sg,hsg⟩ : ∃ sg,cmpI (fdv (F1 c) (L c c)) 0 = sg := ⟨_,rfl⟩
       rw [hsg] at hs0 ⊢;have hs1 : ¬ sg = 0 := by intro q;rw [q] at hs0;simp at hs0
       have LW2 := zoA LW.out hic hlt HF1.out HFC.out HPV.out.1 (F := ziA c (fdv (F1 c) (L c c)) (L c) F1) (fun t ht => rfl);have hft : ∀ j,j < n → ((ziA c (fdv (F1 c) (L c c)) (znB L i F1 c) F1 j).natAbs : Int) < pw kw := fun j hj => by
        rw [zgA _ (show c ≠ i by omega)];have hm := LW2.mid j hj hin;rw [zxA] at hm;have hdd : 0 < D * D := Int.mul_pos HD0.out HD0.out;have : ((c + 1 : Nat) : Int) * (D * D) ≤ 64 * (D * D) := Int.mul_le_mul_of_nonneg_right (by omega) (by omega);have := HM.out;omega
       have HLS := hid (zhD TG10.out hlt RW10.out (fun q => absurd (TG10.out.2.2.2.1 i c hin hlt q) (by omega)) MQ10.out hft hn (by have := HkK.out;have := HK.out;omega));rw [zgA _ (show c ≠ i by omega)] at HLS;have g0 := DQ10.out.c0;have g1 := DQ10.out.c1;have y0 := PB10.out.at (i := 0) rfl;have FN : Hid (∀ e Y,zoE w10 (gs i) n (ziA c (fdv (F1 c) (L c c)) (L c) F1) kw e Y → zZC B W bt nd ad ld cd (.slice (some ⟨Lb,0,none⟩) n lc) n i D gs k kw P w.heap.size (.int .i64 ((c + 1 : Nat) : Int)) Y) := by
        rintro e Y ⟨-,h1,h2⟩;have ty := zwA RW10.out h2;have tg := TG10.out.line19 hin h2 (fun j hj hji q => hji (TG10.out.2.2.2.1 j i hj hin q)) ty h1;rw [zRB] at tg;exact ⟨c + 1,_,rfl,by omega,by omega,tg,LW2,PB10.out.ty13 ty (by decide),TW10.out.trans (h2.mono19 fun b q => ⟨i,hin,q⟩)⟩
       clear hz hsg LW2 hft TG10 RW10 PB10 TW10 MQ10 DQ10;gi_wp2_with fail;refine ⟨trivial,(CallsIn.inRound _ (callsIn_wide.2 HLS.out)).mono ?_⟩;intro e Y hY;have HN1 := hid (FN.out e Y hY);obtain ⟨rfl,-⟩ := hY;clear HLS FN g0 g1 y0;gi_wp2_with fail;go_roundw
       case rel => exact HN1.out
       case measure => simp [intOf];omega
    ·skip
     go_simp;obtain ⟨V60,hW⟩ : ∃ V60,D41.alloc zbox = V60 := ⟨_,rfl⟩
     obtain ⟨b,sz60⟩ := alo1 D41 zbox;rw [hW] at b sz60;replace GB := hid (below_step GB.out b);replace HB : Hid (BX19 W8 V60 [D41.heap.size]) := by unfold Hid;rw [← hW];exact HB.out.new
     clear sz60;rw [hW];clear hW b;refine hK.out _ _ (fun _ => KB.out _ GB.out) ?_;clear hK
     try simp only [Act.put]
     refine zMA (i := 14) (j := 19) (oi := ⟨some 47,.call { callee := .value (.func 79),args := #[.tmp 36,.tmp 46],argTypes := #[27,27] },114, "triangle.go:80",#[⟨3,.data⟩,⟨13,.data⟩],none⟩) (oj := ⟨some 5,.alloc 27,0, "triangle.go:80",#[],none⟩) (by kernel_rfl) rfl rfl (fun K hK => ?_) (fun K hK => ?_)
     ·skip
      go_simp;go_at_call 79;refine (zmD (ZX.out.now GB.out).zi (ZP.out.now GB.out).zi HPN.out (by have := HK.out;omega) (by have := HK.out;omega)).mono ?_;rintro e w61 ⟨rq,rr,rfl,mq,mr,b⟩;have lz61 := (show Below _ _ _ from b).size;replace GB := hid (below_step GB.out b);have Mq := hid ((mq.mono (Nat.zero_le _)).fit HFK.out);obtain ⟨nq,xq,aq,cq,rfl⟩ := Mq.out.parts;have Mr := hid (mr.mono (Nat.zero_le _));obtain ⟨nr,xr,ar,cr,rfl⟩ := Mr.out.parts;clear mq mr;replace HB := hid (HB.out.step b);clear b;refine hK.out _ _ (fun _ => KB.out _ GB.out) ?_;clear hK;refine zEA [(15,(.tuple #[(.agg #[.bool nq,.slice aq xq.length cq]),(.agg #[.bool nr,.slice ar xr.length cr]),(.int .i64 0)])),(16,(.agg #[.bool nq,.slice aq xq.length cq])),(17,(.agg #[.bool nr,.slice ar xr.length cr])),(18,(.int .i64 0))] 4 ?_ (KB.out _ GB.out) ?_
      ·simp only [zPA,gA9,g09,g19,Act.put,sI9,s09,s19]
       (repeat' (first | exact trivial | refine And.intro (Or.inl ⟨by rfl,?_⟩) ?_)) <;> (intro w hSw;(try dsimp only at hSw);go_simp)
      simp only [actV,gA9,g09,g19,Act.put,sI9,s09,s19];refine zAA (i := 19) (o := ⟨some 5,.alloc 27,0, "triangle.go:80",#[],none⟩) (by kernel_rfl) rfl (fun K hK => ?_);go_simp;obtain ⟨V62,hW⟩ : ∃ V62,w61.alloc zbox = V62 := ⟨_,rfl⟩
      obtain ⟨b,sz62⟩ := alo1 w61 zbox;rw [hW] at b sz62;replace GB := hid (below_step GB.out b);replace Mq := hid (Mq.out.now b);replace Mr := hid (Mr.out.now b);replace HB : Hid (BX19 W8 V62 [w61.heap.size,D41.heap.size]) := by unfold Hid;rw [← hW];exact HB.out.new
      clear sz62;rw [hW];clear hW b;refine hK.out _ _ (fun _ => KB.out _ GB.out) ?_;clear hK
      try simp only [Act.put]
      refine zAA (i := 21) (o := ⟨none,.store 27 (.tmp 5) (.tmp 48),0, "triangle.go:80",#[⟨19,.data⟩,⟨16,.data⟩,⟨14,.chain⟩,⟨0,.phase⟩,⟨1,.phase⟩,⟨2,.phase⟩,⟨3,.phase⟩,⟨4,.phase⟩,⟨5,.phase⟩,⟨6,.phase⟩,⟨7,.phase⟩,⟨8,.phase⟩,⟨9,.phase⟩,⟨10,.phase⟩,⟨11,.phase⟩,⟨12,.phase⟩,⟨13,.phase⟩,⟨14,.phase⟩,⟨15,.phase⟩,⟨16,.phase⟩,⟨17,.textOnly .lateStores⟩,⟨18,.textOnly .lateStores⟩,⟨19,.phase⟩,⟨20,.phase⟩],none⟩) (by kernel_rfl) rfl (fun K hK => ?_);obtain ⟨⟨Sq,Dq⟩,⟨Sr,Dr⟩,Nqr⟩ := HB.out.two;have e0 := Dq.c0;have e1 := Dq.c1;have e2 := Dq.fz 0;have e3 := Dq.fz 1;go_simp;clear e0 e1 e2 e3;obtain ⟨V63,hW⟩ : ∃ V63,((V62.setCell ⟨w61.heap.size,0,none⟩ (.bool nq)).setCell ⟨w61.heap.size,1,none⟩ (.slice aq xq.length cq)) = V63 := ⟨_,rfl⟩
      replace Mq := hid (Mq.out.ty (Dq.ty13 (.bool nq) (.slice aq xq.length cq)) (by decide));replace Mr := hid (Mr.out.ty (Dq.ty13 (.bool nq) (.slice aq xq.length cq)) (by decide));replace Dr := Dr.box Nqr (.bool nq) (.slice aq xq.length cq);replace Dq := Dq.set (.bool nq) (.slice aq xq.length cq);replace GB := hid (bset (u := .slice aq xq.length cq) (j := 1) (bset (u := .bool nq) (j := 0) GB.out Sq) Sq);rw [hW] at Mq Mr Dq Dr GB;rw [hW];clear hW;refine hK.out _ _ (fun _ => KB.out _ GB.out) ?_;clear hK
      try simp only [Act.put]
      refine zAA (i := 22) (o := ⟨none,.store 27 (.tmp 6) (.tmp 49),0, "triangle.go:80",#[⟨20,.data⟩,⟨17,.data⟩,⟨21,.chain⟩,⟨0,.phase⟩,⟨1,.phase⟩,⟨2,.phase⟩,⟨3,.phase⟩,⟨4,.phase⟩,⟨5,.phase⟩,⟨6,.phase⟩,⟨7,.phase⟩,⟨8,.phase⟩,⟨9,.phase⟩,⟨10,.phase⟩,⟨11,.phase⟩,⟨12,.phase⟩,⟨13,.phase⟩,⟨14,.phase⟩,⟨15,.phase⟩,⟨16,.phase⟩,⟨17,.phase⟩,⟨18,.textOnly .lateStores⟩,⟨19,.phase⟩,⟨20,.phase⟩,⟨21,.phase⟩],none⟩) (by kernel_rfl) rfl (fun K hK => ?_);have e0 := Dr.c0;have e1 := Dr.c1;have e2 := Dr.fz 0;have e3 := Dr.fz 1;go_simp;clear e0 e1 e2 e3;obtain ⟨V64,hW⟩ : ∃ V64,((V63.setCell ⟨D41.heap.size,0,none⟩ (.bool nr)).setCell ⟨D41.heap.size,1,none⟩ (.slice ar xr.length cr)) = V64 := ⟨_,rfl⟩
      replace Mq := hid (Mq.out.ty (Dr.ty13 (.bool nr) (.slice ar xr.length cr)) (by decide));replace Mr := hid (Mr.out.ty (Dr.ty13 (.bool nr) (.slice ar xr.length cr)) (by decide));replace Dq := Dq.box (Ne.symm Nqr) (.bool nr) (.slice ar xr.length cr);replace Dr := Dr.set (.bool nr) (.slice ar xr.length cr);replace GB := hid (bset (u := .slice ar xr.length cr) (j := 1) (bset (u := .bool nr) (j := 0) GB.out Sr) Sr);rw [hW] at Mq Mr Dq Dr GB;rw [hW];clear hW;refine hK.out _ _ (fun _ => KB.out _ GB.out) ?_;clear hK
      try simp only [Act.put]
      refine zAA (i := 23) (o := ⟨some 7,.assign (.tmp 50),29, "triangle.go:80",#[⟨18,.data⟩,⟨22,.chain⟩,⟨0,.phase⟩,⟨1,.phase⟩,⟨2,.phase⟩,⟨3,.phase⟩,⟨4,.phase⟩,⟨5,.phase⟩,⟨6,.phase⟩,⟨7,.phase⟩,⟨8,.phase⟩,⟨9,.phase⟩,⟨10,.phase⟩,⟨11,.phase⟩,⟨12,.phase⟩,⟨13,.phase⟩,⟨14,.phase⟩,⟨15,.phase⟩,⟨16,.phase⟩,⟨17,.phase⟩,⟨18,.phase⟩,⟨19,.phase⟩,⟨20,.phase⟩,⟨21,.phase⟩,⟨22,.phase⟩],none⟩) (by kernel_rfl) rfl (fun K hK => ?_);go_simp;refine hK.out _ _ (fun h => absurd h (by decide)) ?_;clear hK
      try simp only [Act.put]
      refine zCA (by kernel_rfl) ?_ _;obtain ⟨W9,hW9⟩ : ∃ W9,V64 = W9 := ⟨_,rfl⟩
      obtain ⟨bq,hbq⟩ : ∃ bq,w61.heap.size = bq := ⟨_,rfl⟩
      rw [hW9] at Dq Mq GB ⊢;rw [hbq] at Dq ⊢;have TG9 := hid (TG2.out.now GB.out);have RW9 := hid (RW2.out.now GB.out);have PB9 := hid (PB2.out.step GB.out);have TW9 := hid (TW3.out.trans (.ofBelow GB.out));have MQ9 := Mq;have DQ9 := hid Dq;clear hW9 hbq GB KB HB Mq Mr Dq Dr Sq Sr;have HSG := hid (zmA MQ9.out.zi);have q0 := DQ9.out.c0;have q1 := DQ9.out.c1;gi_wp2_with fail;refine ⟨trivial,(CallsIn.inRound _ (callsIn_wide.2 HSG.out)).mono ?_⟩;rintro e w10 ⟨rfl,b⟩;have TG10 := hid (TG9.out.now b);have RW10 := hid (RW9.out.now b);have PB10 := hid (PB9.out.step b);have TW10 := hid (TW9.out.trans (.ofBelow b));have MQ10 := hid (MQ9.out.now b);have DQ10 := hid (DQ9.out.step b);clear TG9 RW9 PB9 TW9 MQ9 DQ9 HSG b q0 q1 TG2 RW2 PB2 TW3 x0 x1 z0 z2 zl p0 p1 ZX ZP
      by_cases hz : fdv (F1 c) (L c c) = 0
      ·have HN1 : Hid (zZC B W bt nd ad ld cd (.slice (some ⟨Lb,0,none⟩) n lc) n i D gs k kw P w.heap.size (.int .i64 ((c + 1 : Nat) : Int)) w10) := ⟨c + 1,_,rfl,by omega,by omega,TG10.out,zoA LW.out hic hlt HF1.out HFC.out HPV.out.1 (F := F1) (fun t ht => by unfold ziA;rw [hz];split <;> omega),PB10.out,TW10.out⟩
       have hs0 : cmpI (fdv (F1 c) (L c c)) 0 = 0 := by rw [hz];rfl
       rw [hs0];clear TG10 RW10 PB10 TW10 MQ10 DQ10 hz hs0;gi_wp2_with fail;go_roundw
       case rel => exact HN1.out
       case measure => simp [intOf];omega
      ·have hs0 : (cmpI (fdv (F1 c) (L c c)) 0 != 0) = true := by
        unfold cmpI
        split <;> (try split) <;> first | rfl | omega
       obtain ⟨sg,hsg⟩ : ∃ sg,cmpI (fdv (F1 c) (L c c)) 0 = sg := ⟨_,rfl⟩
       rw [hsg] at hs0 ⊢;have hs1 : ¬ sg = 0 := by intro q;rw [q] at hs0;simp at hs0
       have LW2 := zoA LW.out hic hlt HF1.out HFC.out HPV.out.1 (F := ziA c (fdv (F1 c) (L c c)) (L c) F1) (fun t ht => rfl);have hft : ∀ j,j < n → ((ziA c (fdv (F1 c) (L c c)) (znB L i F1 c) F1 j).natAbs : Int) < pw kw := fun j hj => by
        rw [zgA _ (show c ≠ i by omega)];have hm := LW2.mid j hj hin;rw [zxA] at hm;have hdd : 0 < D * D := Int.mul_pos HD0.out HD0.out;have : ((c + 1 : Nat) : Int) * (D * D) ≤ 64 * (D * D) := Int.mul_le_mul_of_nonneg_right (by omega) (by omega);have := HM.out;omega
       have HLS := hid (zhD TG10.out hlt RW10.out (fun q => absurd (TG10.out.2.2.2.1 i c hin hlt q) (by omega)) MQ10.out hft hn (by have := HkK.out;have := HK.out;omega));rw [zgA _ (show c ≠ i by omega)] at HLS;have g0 := DQ10.out.c0;have g1 := DQ10.out.c1;have y0 := PB10.out.at (i := 0) rfl;have FN : Hid (∀ e Y,zoE w10 (gs i) n (ziA c (fdv (F1 c) (L c c)) (L c) F1) kw e Y → zZC B W bt nd ad ld cd (.slice (some ⟨Lb,0,none⟩) n lc) n i D gs k kw P w.heap.size (.int .i64 ((c + 1 : Nat) : Int)) Y) := by
        rintro e Y ⟨-,h1,h2⟩;have ty := zwA RW10.out h2;have tg := TG10.out.line19 hin h2 (fun j hj hji q => hji (TG10.out.2.2.2.1 j i hj hin q)) ty h1;rw [zRB] at tg;exact ⟨c + 1,_,rfl,by omega,by omega,tg,LW2,PB10.out.ty13 ty (by decide),TW10.out.trans (h2.mono19 fun b q => ⟨i,hin,q⟩)⟩
       clear hz hsg LW2 hft TG10 RW10 PB10 TW10 MQ10 DQ10;gi_wp2_with fail;refine ⟨trivial,(CallsIn.inRound _ (callsIn_wide.2 HLS.out)).mono ?_⟩;intro e Y hY;have HN1 := hid (FN.out e Y hY);obtain ⟨rfl,-⟩ := hY;clear HLS FN g0 g1 y0;gi_wp2_with fail;go_roundw
       case rel => exact HN1.out
       case measure => simp [intOf];omega
     ·skip
      go_simp;obtain ⟨V65,hW⟩ : ∃ V65,V60.alloc zbox = V65 := ⟨_,rfl⟩
      obtain ⟨b,sz65⟩ := alo1 V60 zbox;rw [hW] at b sz65;replace GB := hid (below_step GB.out b);replace HB : Hid (BX19 W8 V65 [V60.heap.size,D41.heap.size]) := by unfold Hid;rw [← hW];exact HB.out.new
      clear sz65;rw [hW];clear hW b;refine hK.out _ _ (fun _ => KB.out _ GB.out) ?_;clear hK
      try simp only [Act.put]
      refine zAA (i := 14) (o := ⟨some 47,.call { callee := .value (.func 79),args := #[.tmp 36,.tmp 46],argTypes := #[27,27] },114, "triangle.go:80",#[⟨3,.data⟩,⟨13,.data⟩],none⟩) (by kernel_rfl) rfl (fun K hK => ?_);go_simp;go_at_call 79;refine (zmD (ZX.out.now GB.out).zi (ZP.out.now GB.out).zi HPN.out (by have := HK.out;omega) (by have := HK.out;omega)).mono ?_;rintro e w66 ⟨rq,rr,rfl,mq,mr,b⟩;have lz66 := (show Below _ _ _ from b).size;replace GB := hid (below_step GB.out b);have Mq := hid ((mq.mono (Nat.zero_le _)).fit HFK.out);obtain ⟨nq,xq,aq,cq,rfl⟩ := Mq.out.parts;have Mr := hid (mr.mono (Nat.zero_le _));obtain ⟨nr,xr,ar,cr,rfl⟩ := Mr.out.parts;clear mq mr;replace HB := hid (HB.out.step b);clear b;refine hK.out _ _ (fun _ => KB.out _ GB.out) ?_;clear hK;refine zEA [(15,(.tuple #[(.agg #[.bool nq,.slice aq xq.length cq]),(.agg #[.bool nr,.slice ar xr.length cr]),(.int .i64 0)])),(16,(.agg #[.bool nq,.slice aq xq.length cq])),(17,(.agg #[.bool nr,.slice ar xr.length cr])),(18,(.int .i64 0))] 4 ?_ (KB.out _ GB.out) ?_
      ·simp only [zPA,gA9,g09,g19,Act.put,sI9,s09,s19]
       (repeat' (first | exact trivial | refine And.intro (Or.inl ⟨by rfl,?_⟩) ?_)) <;> (intro w hSw;(try dsimp only at hSw);go_simp)
      simp only [actV,gA9,g09,g19,Act.put,sI9,s09,s19];refine zAA (i := 21) (o := ⟨none,.store 27 (.tmp 5) (.tmp 48),0, "triangle.go:80",#[⟨19,.data⟩,⟨16,.data⟩,⟨14,.chain⟩,⟨0,.phase⟩,⟨1,.phase⟩,⟨2,.phase⟩,⟨3,.phase⟩,⟨4,.phase⟩,⟨5,.phase⟩,⟨6,.phase⟩,⟨7,.phase⟩,⟨8,.phase⟩,⟨9,.phase⟩,⟨10,.phase⟩,⟨11,.phase⟩,⟨12,.phase⟩,⟨13,.phase⟩,⟨14,.phase⟩,⟨15,.phase⟩,⟨16,.phase⟩,⟨17,.textOnly .lateStores⟩,⟨18,.textOnly .lateStores⟩,⟨19,.phase⟩,⟨20,.phase⟩],none⟩) (by kernel_rfl) rfl (fun K hK => ?_);obtain ⟨⟨Sq,Dq⟩,⟨Sr,Dr⟩,Nqr⟩ := HB.out.two;have e0 := Dq.c0;have e1 := Dq.c1;have e2 := Dq.fz 0;have e3 := Dq.fz 1;go_simp;clear e0 e1 e2 e3;obtain ⟨V67,hW⟩ : ∃ V67,((w66.setCell ⟨V60.heap.size,0,none⟩ (.bool nq)).setCell ⟨V60.heap.size,1,none⟩ (.slice aq xq.length cq)) = V67 := ⟨_,rfl⟩
      replace Mq := hid (Mq.out.ty (Dq.ty13 (.bool nq) (.slice aq xq.length cq)) (by decide));replace Mr := hid (Mr.out.ty (Dq.ty13 (.bool nq) (.slice aq xq.length cq)) (by decide));replace Dr := Dr.box Nqr (.bool nq) (.slice aq xq.length cq);replace Dq := Dq.set (.bool nq) (.slice aq xq.length cq);replace GB := hid (bset (u := .slice aq xq.length cq) (j := 1) (bset (u := .bool nq) (j := 0) GB.out Sq) Sq);rw [hW] at Mq Mr Dq Dr GB;rw [hW];clear hW;refine hK.out _ _ (fun _ => KB.out _ GB.out) ?_;clear hK
      try simp only [Act.put]
      refine zAA (i := 22) (o := ⟨none,.store 27 (.tmp 6) (.tmp 49),0, "triangle.go:80",#[⟨20,.data⟩,⟨17,.data⟩,⟨21,.chain⟩,⟨0,.phase⟩,⟨1,.phase⟩,⟨2,.phase⟩,⟨3,.phase⟩,⟨4,.phase⟩,⟨5,.phase⟩,⟨6,.phase⟩,⟨7,.phase⟩,⟨8,.phase⟩,⟨9,.phase⟩,⟨10,.phase⟩,⟨11,.phase⟩,⟨12,.phase⟩,⟨13,.phase⟩,⟨14,.phase⟩,⟨15,.phase⟩,⟨16,.phase⟩,⟨17,.phase⟩,⟨18,.textOnly .lateStores⟩,⟨19,.phase⟩,⟨20,.phase⟩,⟨21,.phase⟩],none⟩) (by kernel_rfl) rfl (fun K hK => ?_);have e0 := Dr.c0;have e1 := Dr.c1;have e2 := Dr.fz 0;have e3 := Dr.fz 1;go_simp;clear e0 e1 e2 e3;obtain ⟨V68,hW⟩ : ∃ V68,((V67.setCell ⟨D41.heap.size,0,none⟩ (.bool nr)).setCell ⟨D41.heap.size,1,none⟩ (.slice ar xr.length cr)) = V68 := ⟨_,rfl⟩
      replace Mq := hid (Mq.out.ty (Dr.ty13 (.bool nr) (.slice ar xr.length cr)) (by decide));replace Mr := hid (Mr.out.ty (Dr.ty13 (.bool nr) (.slice ar xr.length cr)) (by decide));replace Dq := Dq.box (Ne.symm Nqr) (.bool nr) (.slice ar xr.length cr);replace Dr := Dr.set (.bool nr) (.slice ar xr.length cr);replace GB := hid (bset (u := .slice ar xr.length cr) (j := 1) (bset (u := .bool nr) (j := 0) GB.out Sr) Sr);rw [hW] at Mq Mr Dq Dr GB;rw [hW];clear hW;refine hK.out _ _ (fun _ => KB.out _ GB.out) ?_;clear hK
      try simp only [Act.put]
      refine zAA (i := 23) (o := ⟨some 7,.assign (.tmp 50),29, "triangle.go:80",#[⟨18,.data⟩,⟨22,.chain⟩,⟨0,.phase⟩,⟨1,.phase⟩,⟨2,.phase⟩,⟨3,.phase⟩,⟨4,.phase⟩,⟨5,.phase⟩,⟨6,.phase⟩,⟨7,.phase⟩,⟨8,.phase⟩,⟨9,.phase⟩,⟨10,.phase⟩,⟨11,.phase⟩,⟨12,.phase⟩,⟨13,.phase⟩,⟨14,.phase⟩,⟨15,.phase⟩,⟨16,.phase⟩,⟨17,.phase⟩,⟨18,.phase⟩,⟨19,.phase⟩,⟨20,.phase⟩,⟨21,.phase⟩,⟨22,.phase⟩],none⟩) (by kernel_rfl) rfl (fun K hK => ?_);go_simp;refine hK.out _ _ (fun h => absurd h (by decide)) ?_;clear hK
      try simp only [Act.put]
      refine zCA (by kernel_rfl) ?_ _;obtain ⟨W9,hW9⟩ : ∃ W9,V68 = W9 := ⟨_,rfl⟩
      obtain ⟨bq,hbq⟩ : ∃ bq,V60.heap.size = bq := ⟨_,rfl⟩
      rw [hW9] at Dq Mq GB ⊢;rw [hbq] at Dq ⊢;have TG9 := hid (TG2.out.now GB.out);have RW9 := hid (RW2.out.now GB.out);have PB9 := hid (PB2.out.step GB.out);have TW9 := hid (TW3.out.trans (.ofBelow GB.out));have MQ9 := Mq;have DQ9 := hid Dq;clear hW9 hbq GB KB HB Mq Mr Dq Dr Sq Sr;have HSG := hid (zmA MQ9.out.zi);have q0 := DQ9.out.c0;have q1 := DQ9.out.c1;gi_wp2_with fail;refine ⟨trivial,(CallsIn.inRound _ (callsIn_wide.2 HSG.out)).mono ?_⟩;rintro e w10 ⟨rfl,b⟩;have TG10 := hid (TG9.out.now b);have RW10 := hid (RW9.out.now b);have PB10 := hid (PB9.out.step b);have TW10 := hid (TW9.out.trans (.ofBelow b));have MQ10 := hid (MQ9.out.now b);have DQ10 := hid (DQ9.out.step b);clear TG9 RW9 PB9 TW9 MQ9 DQ9 HSG b q0 q1 TG2 RW2 PB2 TW3 x0 x1 z0 z2 zl p0 p1 ZX ZP
      by_cases hz : fdv (F1 c) (L c c) = 0
      ·have HN1 : Hid (zZC B W bt nd ad ld cd (.slice (some ⟨Lb,0,none⟩) n lc) n i D gs k kw P w.heap.size (.int .i64 ((c + 1 : Nat) : Int)) w10) := ⟨c + 1,_,rfl,by omega,by omega,TG10.out,zoA LW.out hic hlt HF1.out HFC.out HPV.out.1 (F := F1) (fun t ht => by unfold ziA;rw [hz];split <;> omega),PB10.out,TW10.out⟩
       have hs0 : cmpI (fdv (F1 c) (L c c)) 0 = 0 := by rw [hz];rfl
       rw [hs0];clear TG10 RW10 PB10 TW10 MQ10 DQ10 hz hs0;gi_wp2_with fail;go_roundw
       case rel => exact HN1.out
       case measure => simp [intOf];omega
      ·have hs0 : (cmpI (fdv (F1 c) (L c c)) 0 != 0) = true := by
        unfold cmpI
        split <;> (try split) <;> first | rfl | omega
       obtain ⟨sg,hsg⟩ : ∃ sg,cmpI (fdv (F1 c) (L c c)) 0 = sg := ⟨_,rfl⟩
       rw [hsg] at hs0 ⊢;have hs1 : ¬ sg = 0 := by intro q;rw [q] at hs0;simp at hs0
       have LW2 := zoA LW.out hic hlt HF1.out HFC.out HPV.out.1 (F := ziA c (fdv (F1 c) (L c c)) (L c) F1) (fun t ht => rfl);have hft : ∀ j,j < n → ((ziA c (fdv (F1 c) (L c c)) (znB L i F1 c) F1 j).natAbs : Int) < pw kw := fun j hj => by
        rw [zgA _ (show c ≠ i by omega)];have hm := LW2.mid j hj hin;rw [zxA] at hm;have hdd : 0 < D * D := Int.mul_pos HD0.out HD0.out;have : ((c + 1 : Nat) : Int) * (D * D) ≤ 64 * (D * D) := Int.mul_le_mul_of_nonneg_right (by omega) (by omega);have := HM.out;omega
       have HLS := hid (zhD TG10.out hlt RW10.out (fun q => absurd (TG10.out.2.2.2.1 i c hin hlt q) (by omega)) MQ10.out hft hn (by have := HkK.out;have := HK.out;omega));rw [zgA _ (show c ≠ i by omega)] at HLS;have g0 := DQ10.out.c0;have g1 := DQ10.out.c1;have y0 := PB10.out.at (i := 0) rfl;have FN : Hid (∀ e Y,zoE w10 (gs i) n (ziA c (fdv (F1 c) (L c c)) (L c) F1) kw e Y → zZC B W bt nd ad ld cd (.slice (some ⟨Lb,0,none⟩) n lc) n i D gs k kw P w.heap.size (.int .i64 ((c + 1 : Nat) : Int)) Y) := by
        rintro e Y ⟨-,h1,h2⟩;have ty := zwA RW10.out h2;have tg := TG10.out.line19 hin h2 (fun j hj hji q => hji (TG10.out.2.2.2.1 j i hj hin q)) ty h1;rw [zRB] at tg;exact ⟨c + 1,_,rfl,by omega,by omega,tg,LW2,PB10.out.ty13 ty (by decide),TW10.out.trans (h2.mono19 fun b q => ⟨i,hin,q⟩)⟩
       clear hz hsg LW2 hft TG10 RW10 PB10 TW10 MQ10 DQ10;gi_wp2_with fail;refine ⟨trivial,(CallsIn.inRound _ (callsIn_wide.2 HLS.out)).mono ?_⟩;intro e Y hY;have HN1 := hid (FN.out e Y hY);obtain ⟨rfl,-⟩ := hY;clear HLS FN g0 g1 y0;gi_wp2_with fail;go_roundw
       case rel => exact HN1.out
       case measure => simp [intOf];omega
   ·have hlt' : ¬ (c : Int) < (n : Int) := by omega
    obtain rfl : c = n := by omega
    have FF := hid (FIN.out _ wr rfl ⟨c,L,rfl,hic,hcn,TG.out,LW.out,PB.out,TW2.out⟩);clear TG LW PB TW2 FIN;have ff := FF.out;rw [hsz1,hsz0] at ff;clear FF;have FF := hid ff;clear ff;gi_wp2;exact FF.out
 case done =>
  rintro Dd s W hDs hl ⟨L',t1,t2,t3,t4,t5⟩ hD;subst hl;rw [Nat.sub_self] at t2;have kg := zPB (grownBy_putObj' W Dd (.deferred none)) (fun r e => by cases e;exact ⟨_,hD,rfl⟩);have HZ : Hid (zLI B w bt nd ad ld cd (.slice la s lc) s D gs k kw P (.returned (.tuple #[])) (W.putObj Dd (.deferred none))) := ⟨L',rfl,t1.kc19 kg,⟨t2.end fun _ => Nat.le_refl _,t2.lat⟩,t5.grown19 (grownBy_putObj' W Dd (.deferred none)) (fun k e => by cases e;omega)⟩
  have HKD := hid hD;clear t1 t2 t3 t4 t5 kg hD;gi_wp2;refine ⟨by simp,.inl ⟨_,_,rfl,run_takeDeferred HKD.out,?_⟩⟩;exact ⟨_,by simp [results,Tryz.results52,go_sem],HZ.out⟩
end Go.Proofs.YtfeofdpnhhiclaaGreat
