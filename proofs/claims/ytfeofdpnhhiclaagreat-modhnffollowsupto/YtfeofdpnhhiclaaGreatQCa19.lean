import Derived.Test.YtfeofdpnhhiclaaGreatQMx19
import Derived.Test.YtfeofdpnhhiclaaGreatQBo19
import Derived.Test.YtfeofdpnhhiclaaGreatQExt6
set_option maxRecDepth 100000
set_option maxHeartbeats 6400000
set_option linter.unusedVariables false
set_option linter.unusedSimpArgs false
namespace Go.Proofs.YtfeofdpnhhiclaaGreat
open Go.RowKit
def tb19 (gr : Nat) (gs : Nat → Nat) (n : Nat) (b : Nat) : Prop := b = gr ∨ ∃ i,i < n ∧ b = gs i
theorem zOA.mono19 {S S' : Nat → Prop} {w w' : World} (h : zOA S w w') (hS : ∀ b,S b → S' b) : zOA S' w w' := ⟨h.os,h.tape,h.output,h.size,fun b hb hn => h.block b hb fun q => hn (hS b q)⟩
def zNH (B : Nat) (w : World) (bt : Nat) (nd : Bool) (ad : Option Addr) (ld cd : Nat) (lv : Value) (n c : Nat) (D M : Int) (gs : Nat → Nat) (gr k kw : Nat) (P : (Nat → Int) → Prop) (e : Ending) (w' : World) : Prop :=
 ∃ L' R',e = .returned (.tuple #[]) ∧ Tg19 B w' bt nd ad ld cd lv n D gs L' k kw ∧ Rw17 w' gr n R' kw ∧ Pb19 n (c + 1) D M L' R' P ∧ zOA (tb19 gr gs n) w w'
theorem Pb19.fit {n c kw : Nat} {D M : Int} {L : Nat → Nat → Int} {R : Nat → Int} {P : (Nat → Int) → Prop} (h : Pb19 n c D M L R P) (hc : c ≤ 64) (hK : M + 64 * (D * D) < pw kw) : ∀ j,j < n → ((R j).natAbs : Int) < pw kw := fun j hj => by
 have a := h.bd j hj;have p : 0 < D * D := Int.mul_pos h.d0 h.d0;have : (c : Int) * (D * D) ≤ 64 * (D * D) := Int.mul_le_mul_of_nonneg_right (by omega) (by omega);omega
theorem Tg19.line19 {B bt ld cd n k kw c : Nat} {nd : Bool} {ad : Option Addr} {lv : Value} {D : Int} {gs : Nat → Nat} {L : Nat → Nat → Int} {F : Nat → Int} {S : Nat → Prop} {w w' : World} (h : Tg19 B w bt nd ad ld cd lv n D gs L k kw) (hc : c < n) (ht : zOA S w w') (hS : ∀ i,i < n → i ≠ c → ¬ S (gs i)) (hty : Ty 27 w w') (hr : Rw17 w' (gs c) n F kw) :
  Tg19 B w' bt nd ad ld cd lv n D gs (znB L c F) k kw := by
 obtain ⟨h1,h2,h3,h4,h5⟩ := h;refine ⟨h1.ty13 hty (by decide),h2.ty hty (by decide),?_,h4,fun i hi => ⟨(h5 i hi).1,?_⟩⟩
 ·rcases h3 with h3 | ⟨h0,Lb,cap,r,e,e0,e1,e2⟩
  ·exact .inl h3
  ·exact .inr ⟨h0,Lb,cap,r,e,e0,e1,e2.ty13 hty (by decide)⟩
 ·by_cases q : i = c
  ·subst q;rw [zxA];exact hr
  ·rw [zgA _ q];exact (h5 i hi).2.oth19 ht hty (hS i hi q)
theorem Tg19.off19 {B bt ld cd n k kw : Nat} {nd : Bool} {ad : Option Addr} {lv : Value} {D : Int} {gs : Nat → Nat} {L : Nat → Nat → Int} {S : Nat → Prop} {w w' : World} (h : Tg19 B w bt nd ad ld cd lv n D gs L k kw) (ht : zOA S w w') (hS : ∀ i,i < n → ¬ S (gs i)) (hty : Ty 27 w w') : Tg19 B w' bt nd ad ld cd lv n D gs L k kw := by
 obtain ⟨h1,h2,h3,h4,h5⟩ := h;refine ⟨h1.ty13 hty (by decide),h2.ty hty (by decide),?_,h4,fun i hi => ⟨(h5 i hi).1,(h5 i hi).2.oth19 ht hty (hS i hi)⟩⟩;rcases h3 with h3 | ⟨h0,Lb,cap,r,e,e0,e1,e2⟩
 ·exact .inl h3
 ·exact .inr ⟨h0,Lb,cap,r,e,e0,e1,e2.ty13 hty (by decide)⟩
abbrev zTA : Oper := { dst := some 48,op := Op.call { callee := Callee.value (Operand.func 101),args := #[Operand.tmp 43,Operand.tmp 47],argTypes := #[27,27] },type := 132,pos := "triangle.go:47",after := #[{ on := 0,ground := Ground.data },{ on := 4,ground := Ground.data }],guard := none }
abbrev zSA : Oper := { dst := some 9,op := Op.alloc 27,type := 0,pos := "triangle.go:47",after := #[],guard := none }
abbrev zRA : Oper := { dst := some 10,op := Op.alloc 27,type := 0,pos := "triangle.go:47",after := #[],guard := none }
abbrev zQA : Oper := { dst := some 11,op := Op.alloc 27,type := 0,pos := "triangle.go:47",after := #[],guard := none }
abbrev zJA : Oper := { dst := none,op := Op.store 27 (Operand.tmp 9) (Operand.tmp 49),type := 0,pos := "triangle.go:47",after := #[{ on := 10,ground := Ground.data },{ on := 7,ground := Ground.data },{ on := 5,ground := Ground.chain },{ on := 0,ground := Ground.phase },{ on := 1,ground := Ground.phase },{ on := 2,ground := Ground.phase },{ on := 3,ground := Ground.phase },{ on := 4,ground := Ground.phase },{ on := 5,ground := Ground.phase },{ on := 6,ground := Ground.phase },{ on := 7,ground := Ground.phase },{ on := 8,ground := Ground.textOnly Departure.lateStores },{ on := 9,ground := Ground.textOnly Departure.lateStores },{ on := 10,ground := Ground.phase },{ on := 11,ground := Ground.phase },{ on := 12,ground := Ground.phase }],guard := none }
abbrev zIA : Oper := { dst := none,op := Op.store 27 (Operand.tmp 10) (Operand.tmp 50),type := 0,pos := "triangle.go:47",after := #[{ on := 11,ground := Ground.data },{ on := 8,ground := Ground.data },{ on := 13,ground := Ground.chain },{ on := 0,ground := Ground.phase },{ on := 1,ground := Ground.phase },{ on := 2,ground := Ground.phase },{ on := 3,ground := Ground.phase },{ on := 4,ground := Ground.phase },{ on := 5,ground := Ground.phase },{ on := 6,ground := Ground.phase },{ on := 7,ground := Ground.phase },{ on := 8,ground := Ground.phase },{ on := 9,ground := Ground.textOnly Departure.lateStores },{ on := 10,ground := Ground.phase },{ on := 11,ground := Ground.phase },{ on := 12,ground := Ground.phase },{ on := 13,ground := Ground.phase }],guard := none }
abbrev zHA : Oper := { dst := none,op := Op.store 27 (Operand.tmp 11) (Operand.tmp 51),type := 0,pos := "triangle.go:47",after := #[{ on := 12,ground := Ground.data },{ on := 9,ground := Ground.data },{ on := 14,ground := Ground.chain },{ on := 0,ground := Ground.phase },{ on := 1,ground := Ground.phase },{ on := 2,ground := Ground.phase },{ on := 3,ground := Ground.phase },{ on := 4,ground := Ground.phase },{ on := 5,ground := Ground.phase },{ on := 6,ground := Ground.phase },{ on := 7,ground := Ground.phase },{ on := 8,ground := Ground.phase },{ on := 9,ground := Ground.phase },{ on := 10,ground := Ground.phase },{ on := 11,ground := Ground.phase },{ on := 12,ground := Ground.phase },{ on := 13,ground := Ground.phase },{ on := 14,ground := Ground.phase }],guard := none }
theorem cancel19 {B bt n k kw c gr ld cd la lc : Nat} {w : World} {nd : Bool} {ad : Option Addr} {D M : Int} {gs : Nat → Nat} {L : Nat → Nat → Int} {R : Nat → Int} {P : (Nat → Int) → Prop}
  (hT : Tg19 B w bt nd ad ld cd (.slice (some ⟨la,0,none⟩) n lc) n D gs L k kw) (hc : c < n) (hR : Rw17 w gr n R kw) (hne : ∀ i,i < n → gr ≠ gs i) (hP : Pb19 n c D M L R P) (hr0 : 0 < R c) (hr1 : R c < D) (hM : M + 64 * (D * D) < pw kw) (hn : n ≤ 64) (hk1 : 1 ≤ k) (hkK : k ≤ kw) (hK : kw ≤ 17179869184) :
  Calls Tryz.prog 77 #[.pointer (some ⟨bt,0,none⟩),.slice (some ⟨gr,0,none⟩) n n,.int .i64 (c : Int)] w (zNH B w bt nd ad ld cd (.slice (some ⟨la,0,none⟩) n lc) n c D M gs gr k kw P) := by
 have HP := hid hP;have hp0 := hP.pt.tri.piv c hc;have hp1 := (hP.pt.le c c hc hc).2;have hline := hT.2.2.lineS hc;obtain ⟨np,ap,lp,cp,p0,p1,-,-,zp⟩ := (hT.2.2.2.2 c hc).2.at hc;have hDk := hT.2.1.zi.lt;have zpk := zp.fit (l := k) (by omega);obtain ⟨V0,hV0⟩ : ∃ V0,w.alloc (duo (.bool np) (.slice ap lp cp)) = V0 := ⟨_,rfl⟩
 obtain ⟨b0,sz0⟩ := alo1 w (duo (.bool np) (.slice ap lp cp));rw [hV0] at b0 sz0;have dP : Duo V0 w.heap.size (.bool np) (.slice ap lp cp) := by rw [← hV0];exact Duo.new w _ _
 have x2 := hT.1.at (i := 2) rfl;have TG := hid (hT.now b0);have RW := hid (hR.now b0);have ZP := hid (zpk.now b0);obtain ⟨nr,ar,lr,cr,r0,r1,-,-,zr⟩ := RW.out.at hc;have ZR := hid (zr.fit (l := k) (by omega));have B0 := hid b0;have DP := hid dP;have HNE := hid hne;have HM := hid hM;have H64 := hid hn;have HC := hid hc;have Hk1 := hid hk1;have HkK := hid hkK;have HK := hid hK;have Hp0 : Hid (L c c ≠ 0) := by unfold Hid;omega
 have Hp := hid (show 0 < L c c ∧ L c c ≤ D from ⟨hp0,hp1⟩);have Hr := hid (show 0 < R c ∧ R c < D from ⟨hr0,hr1⟩);have HD0 := hid hP.d0;have EV0 := hid hV0;obtain ⟨bx,hbx⟩ : ∃ bx,w.heap.size = bx := ⟨_,rfl⟩
 rw [hbx] at DP;have EBX := hid hbx;have hcn : (c : Int) < (n : Int) := by omega
 have i0 := DP.out.c0;have i1 := DP.out.c1;clear hT hR hne hP hr0 hr1 hM hk1 hkK hK b0 sz0 hV0 dP hbx hp0 hp1 zp zpk zr hDk
 by_cases hdv : (R c).tmod (L c c) = 0
 ·have HX := hid hdv
  clear hdv;go_enter Tryz.func77,Tryz.ntmps77;go_wp2_with fail;rw [EV0.out,EBX.out];clear hline x2 p0 p1
  go_cut [7,8] from 9 (fun s7 s8 wx => MetX V0 wx s7 ((R c).tdiv (L c c)) k ∧ s8 = .int .i64 0)
  case first =>
   have KB : Hid (∀ w',Below V0.heap.size V0 w' → w'.cell? ⟨gr,c * 2,none⟩ = some (.bool nr) ∧ w'.cell? ⟨gr,c * 2 + 1,none⟩ = some (.slice ar lr cr) ∧ w'.cell? ⟨bx,0,none⟩ = some (.bool np) ∧ w'.cell? ⟨bx,1,none⟩ = some (.slice ap lp cp)) := fun w' h => ⟨cnow h r0,cnow h r1,cnow h i0,cnow h i1⟩
   refine zFA (fun w' => w'.cell? ⟨gr,c * 2,none⟩ = some (.bool nr) ∧ w'.cell? ⟨gr,c * 2 + 1,none⟩ = some (.slice ar lr cr) ∧ w'.cell? ⟨bx,0,none⟩ = some (.bool np) ∧ w'.cell? ⟨bx,1,none⟩ = some (.slice ap lp cp)) 11 (by kernel_rfl) ?_;obtain ⟨D1,hD⟩ : ∃ D1,V0.drew = D1 := ⟨_,rfl⟩
   have GB : Hid (Below V0.heap.size V0 D1) := by unfold Hid;rw [← hD];exact (Below.refl _ _).drew
   rw [hD];clear hD;have HB : Hid (BX19 V0 D1 []) := BX19.nil GB.out;refine zEA [(0,(.slice (some ⟨gr,0,none⟩) n n)),(1,(.int .i64 (c : Int))),(2,(.pointer (some ⟨gr,c * 2,none⟩))),(3,(.agg #[.bool nr,.slice ar lr cr])),(4,(.agg #[.bool np,.slice ap lp cp]))] 5 ?_ (KB.out _ GB.out) ?_
   ·simp only [zPA,gA9,g09,g19,Act.put,sI9,s09,s19]
    (repeat' (first | exact trivial | refine And.intro (Or.inl ⟨by rfl,?_⟩) ?_)) <;> (intro w hSw;(try dsimp only at hSw);go_simp)
   simp only [actV,gA9,g09,g19,Act.put,sI9,s09,s19];refine zMA (i := 5) (j := 9) (oi := ⟨some 32,.call { callee := .value (.func 96),args := #[.tmp 30,.tmp 31],argTypes := #[27,27] },44, "triangle.go:43",#[⟨3,.data⟩,⟨4,.data⟩],none⟩) (oj := ⟨some 7,.alloc 27,0, "triangle.go:43",#[],none⟩) (by kernel_rfl) rfl rfl (fun K hK => ?_) (fun K hK => ?_)
   ·skip
    go_simp;go_at_call 96;refine (zlB (ZR.out.now GB.out).zi (ZP.out.now GB.out).zi Hp0.out (by have := HkK.out;have := HK.out;omega) (by have := HkK.out;have := HK.out;omega) HX.out).mono ?_;rintro e w2 ⟨rq,rfl,mq,b⟩;have lz2 := (show Below _ _ _ from b).size;replace GB := hid (below_step GB.out b);have Mg := hid (mq.mono (Nat.zero_le _));obtain ⟨ng,xg,ag,cg,rfl⟩ := Mg.out.parts;clear mq;replace HB := hid (HB.out.step b);clear b;refine hK.out _ _ (fun _ => KB.out _ GB.out) ?_;clear hK;refine zEA [(6,(.tuple #[(.agg #[.bool ng,.slice ag xg.length cg]),(.int .i64 0)])),(7,(.agg #[.bool ng,.slice ag xg.length cg])),(8,(.int .i64 0))] 3 ?_ (KB.out _ GB.out) ?_
    ·simp only [zPA,gA9,g09,g19,Act.put,sI9,s09,s19]
     (repeat' (first | exact trivial | refine And.intro (Or.inl ⟨by rfl,?_⟩) ?_)) <;> (intro w hSw;(try dsimp only at hSw);go_simp)
    simp only [actV,gA9,g09,g19,Act.put,sI9,s09,s19];refine zAA (i := 9) (o := ⟨some 7,.alloc 27,0, "triangle.go:43",#[],none⟩) (by kernel_rfl) rfl (fun K hK => ?_);go_simp;obtain ⟨V3,hW⟩ : ∃ V3,w2.alloc zbox = V3 := ⟨_,rfl⟩
    obtain ⟨b,sz3⟩ := alo1 w2 zbox;rw [hW] at b sz3;replace GB := hid (below_step GB.out b);replace Mg := hid (Mg.out.now b);replace HB : Hid (BX19 V0 V3 [w2.heap.size]) := by unfold Hid;rw [← hW];exact HB.out.new
    clear sz3;rw [hW];clear hW b;refine hK.out _ _ (fun _ => KB.out _ GB.out) ?_;clear hK
    try simp only [Act.put]
    refine zAA (i := 10) (o := ⟨none,.store 27 (.tmp 7) (.tmp 33),0, "triangle.go:43",#[⟨9,.data⟩,⟨7,.data⟩,⟨5,.chain⟩,⟨0,.phase⟩,⟨1,.phase⟩,⟨2,.phase⟩,⟨3,.phase⟩,⟨4,.phase⟩,⟨5,.phase⟩,⟨6,.phase⟩,⟨7,.phase⟩,⟨8,.textOnly .lateStores⟩,⟨9,.phase⟩],none⟩) (by kernel_rfl) rfl (fun K hK => ?_);obtain ⟨Sg,Dg⟩ := HB.out.one;have e0 := Dg.c0;have e1 := Dg.c1;have e2 := Dg.fz 0;have e3 := Dg.fz 1;go_simp;clear e0 e1 e2 e3;obtain ⟨V4,hW⟩ : ∃ V4,((V3.setCell ⟨w2.heap.size,0,none⟩ (.bool ng)).setCell ⟨w2.heap.size,1,none⟩ (.slice ag xg.length cg)) = V4 := ⟨_,rfl⟩
    replace Mg := hid (Mg.out.ty (Dg.ty13 (.bool ng) (.slice ag xg.length cg)) (by decide));replace Dg := Dg.set (.bool ng) (.slice ag xg.length cg);replace GB := hid (bset (u := .slice ag xg.length cg) (j := 1) (bset (u := .bool ng) (j := 0) GB.out Sg) Sg);rw [hW] at Mg Dg GB;rw [hW];clear hW;refine hK.out _ _ (fun _ => KB.out _ GB.out) ?_;clear hK
    try simp only [Act.put]
    refine zAA (i := 11) (o := ⟨some 8,.assign (.tmp 34),29, "triangle.go:43",#[⟨8,.data⟩,⟨10,.chain⟩,⟨0,.phase⟩,⟨1,.phase⟩,⟨2,.phase⟩,⟨3,.phase⟩,⟨4,.phase⟩,⟨5,.phase⟩,⟨6,.phase⟩,⟨7,.phase⟩,⟨8,.phase⟩,⟨9,.phase⟩,⟨10,.phase⟩],none⟩) (by kernel_rfl) rfl (fun K hK => ?_);go_simp;refine hK.out _ _ (fun h => absurd h (by decide)) ?_;clear hK
    try simp only [Act.put]
    refine zCA (by kernel_rfl) ?_ _;have FN : Hid (MetX V0 V4 (.pointer (some ⟨w2.heap.size,0,none⟩)) ((R c).tdiv (L c c)) k ∧ Value.int .i64 0 = .int .i64 0) := ⟨⟨_,ng,xg,ag,cg,rfl,GB.out,Sg,Dg,Mg.out⟩,rfl⟩
    clear GB KB HB Mg Dg Sg;go_wp2_with fail;go_meet;exact ⟨FN.out.1,rfl⟩
   ·skip
    go_simp;obtain ⟨V5,hW⟩ : ∃ V5,D1.alloc zbox = V5 := ⟨_,rfl⟩
    obtain ⟨b,sz5⟩ := alo1 D1 zbox;rw [hW] at b sz5;replace GB := hid (below_step GB.out b);replace HB : Hid (BX19 V0 V5 [D1.heap.size]) := by unfold Hid;rw [← hW];exact HB.out.new
    clear sz5;rw [hW];clear hW b;refine hK.out _ _ (fun _ => KB.out _ GB.out) ?_;clear hK
    try simp only [Act.put]
    refine zAA (i := 5) (o := ⟨some 32,.call { callee := .value (.func 96),args := #[.tmp 30,.tmp 31],argTypes := #[27,27] },44, "triangle.go:43",#[⟨3,.data⟩,⟨4,.data⟩],none⟩) (by kernel_rfl) rfl (fun K hK => ?_);go_simp;go_at_call 96;refine (zlB (ZR.out.now GB.out).zi (ZP.out.now GB.out).zi Hp0.out (by have := HkK.out;have := HK.out;omega) (by have := HkK.out;have := HK.out;omega) HX.out).mono ?_;rintro e w6 ⟨rq,rfl,mq,b⟩;have lz6 := (show Below _ _ _ from b).size;replace GB := hid (below_step GB.out b);have Mg := hid (mq.mono (Nat.zero_le _));obtain ⟨ng,xg,ag,cg,rfl⟩ := Mg.out.parts;clear mq;replace HB := hid (HB.out.step b);clear b;refine hK.out _ _ (fun _ => KB.out _ GB.out) ?_;clear hK;refine zEA [(6,(.tuple #[(.agg #[.bool ng,.slice ag xg.length cg]),(.int .i64 0)])),(7,(.agg #[.bool ng,.slice ag xg.length cg])),(8,(.int .i64 0))] 3 ?_ (KB.out _ GB.out) ?_
    ·simp only [zPA,gA9,g09,g19,Act.put,sI9,s09,s19]
     (repeat' (first | exact trivial | refine And.intro (Or.inl ⟨by rfl,?_⟩) ?_)) <;> (intro w hSw;(try dsimp only at hSw);go_simp)
    simp only [actV,gA9,g09,g19,Act.put,sI9,s09,s19];refine zAA (i := 10) (o := ⟨none,.store 27 (.tmp 7) (.tmp 33),0, "triangle.go:43",#[⟨9,.data⟩,⟨7,.data⟩,⟨5,.chain⟩,⟨0,.phase⟩,⟨1,.phase⟩,⟨2,.phase⟩,⟨3,.phase⟩,⟨4,.phase⟩,⟨5,.phase⟩,⟨6,.phase⟩,⟨7,.phase⟩,⟨8,.textOnly .lateStores⟩,⟨9,.phase⟩],none⟩) (by kernel_rfl) rfl (fun K hK => ?_);obtain ⟨Sg,Dg⟩ := HB.out.one;have e0 := Dg.c0;have e1 := Dg.c1;have e2 := Dg.fz 0;have e3 := Dg.fz 1;go_simp;clear e0 e1 e2 e3;obtain ⟨V7,hW⟩ : ∃ V7,((w6.setCell ⟨D1.heap.size,0,none⟩ (.bool ng)).setCell ⟨D1.heap.size,1,none⟩ (.slice ag xg.length cg)) = V7 := ⟨_,rfl⟩
    replace Mg := hid (Mg.out.ty (Dg.ty13 (.bool ng) (.slice ag xg.length cg)) (by decide));replace Dg := Dg.set (.bool ng) (.slice ag xg.length cg);replace GB := hid (bset (u := .slice ag xg.length cg) (j := 1) (bset (u := .bool ng) (j := 0) GB.out Sg) Sg);rw [hW] at Mg Dg GB;rw [hW];clear hW;refine hK.out _ _ (fun _ => KB.out _ GB.out) ?_;clear hK
    try simp only [Act.put]
    refine zAA (i := 11) (o := ⟨some 8,.assign (.tmp 34),29, "triangle.go:43",#[⟨8,.data⟩,⟨10,.chain⟩,⟨0,.phase⟩,⟨1,.phase⟩,⟨2,.phase⟩,⟨3,.phase⟩,⟨4,.phase⟩,⟨5,.phase⟩,⟨6,.phase⟩,⟨7,.phase⟩,⟨8,.phase⟩,⟨9,.phase⟩,⟨10,.phase⟩],none⟩) (by kernel_rfl) rfl (fun K hK => ?_);go_simp;refine hK.out _ _ (fun h => absurd h (by decide)) ?_;clear hK
    try simp only [Act.put]
    refine zCA (by kernel_rfl) ?_ _;have FN : Hid (MetX V0 V7 (.pointer (some ⟨D1.heap.size,0,none⟩)) ((R c).tdiv (L c c)) k ∧ Value.int .i64 0 = .int .i64 0) := ⟨⟨_,ng,xg,ag,cg,rfl,GB.out,Sg,Dg,Mg.out⟩,rfl⟩
    clear GB KB HB Mg Dg Sg;go_wp2_with fail;go_meet;exact ⟨FN.out.1,rfl⟩
  case rest =>
  rename World => Wx
  obtain ⟨⟨bg,ng,xg,ag,cg,rfl,b,hbg,dg,zg⟩,rfl⟩ := hcut;have hsq : R c = (R c).tdiv (L c c) * L c c := by
   have := Int.mul_tdiv_add_tmod (R c) (L c c);rw [HX.out] at this;rw [Int.mul_comm];omega
  obtain ⟨PB,s0,s1⟩ := HP.out.less HC.out (by have := Hr.out;omega) Hr.out.2 hsq;have HFT := hid (PB.fit (by have := HC.out;have := H64.out;omega) HM.out);replace TG := hid (TG.out.now b);replace RW := hid (RW.out.now b);have HL := hid (zhD (l := k) TG.out HC.out RW.out (HNE.out c HC.out) zg HFT.out H64.out (by have := HkK.out;have := HK.out;omega));have g0 := dg.c0;have g1 := dg.c1;have BB := hid (below_step B0.out b);have FIN : Hid (∀ e Y,zoE Wx gr n (ziA c ((R c).tdiv (L c c)) (L c) R) kw e Y → zNH B w bt nd ad ld cd (.slice (some ⟨la,0,none⟩) n lc) n c D M gs gr k kw P (.returned (.tuple #[])) Y) := by
   rintro e Y ⟨-,h1,h2⟩;have ty := zwA RW.out h2;exact ⟨L,_,rfl,TG.out.off19 h2 (fun i hi q => HNE.out i hi q.symm) ty,h1,PB,(zOA.ofBelow BB.out).trans (h2.mono19 fun b q => .inl q)⟩
  clear b hbg dg zg hsq PB s0 s1 HFT r0 r1 i0 i1 TG RW ZP ZR DP B0 BB;go_wp2_with fail;refine HL.out.mono ?_;intro e Y hY;have FF := hid (FIN.out e Y hY);obtain ⟨rfl,-⟩ := hY;clear HL FIN;go_wp2;refine bodyPost_ret (results_none rfl _ _ _) rfl ?_;exact FF.out
 ·have HX := hid hdv
  clear hdv;go_enter Tryz.func77,Tryz.ntmps77;go_wp2_with fail;rw [EV0.out,EBX.out];clear hline x2 p0 p1
  go_cut [7,8] from 9 (fun s7 s8 wx => MetX V0 wx s7 0 k ∧ s8 = .int .i64 8)
  case first =>
   have KB : Hid (∀ w',Below V0.heap.size V0 w' → w'.cell? ⟨gr,c * 2,none⟩ = some (.bool nr) ∧ w'.cell? ⟨gr,c * 2 + 1,none⟩ = some (.slice ar lr cr) ∧ w'.cell? ⟨bx,0,none⟩ = some (.bool np) ∧ w'.cell? ⟨bx,1,none⟩ = some (.slice ap lp cp)) := fun w' h => ⟨cnow h r0,cnow h r1,cnow h i0,cnow h i1⟩
   refine zFA (fun w' => w'.cell? ⟨gr,c * 2,none⟩ = some (.bool nr) ∧ w'.cell? ⟨gr,c * 2 + 1,none⟩ = some (.slice ar lr cr) ∧ w'.cell? ⟨bx,0,none⟩ = some (.bool np) ∧ w'.cell? ⟨bx,1,none⟩ = some (.slice ap lp cp)) 11 (by kernel_rfl) ?_;obtain ⟨D41,hD⟩ : ∃ D41,V0.drew = D41 := ⟨_,rfl⟩
   have GB : Hid (Below V0.heap.size V0 D41) := by unfold Hid;rw [← hD];exact (Below.refl _ _).drew
   rw [hD];clear hD;have HB : Hid (BX19 V0 D41 []) := BX19.nil GB.out;refine zEA [(0,(.slice (some ⟨gr,0,none⟩) n n)),(1,(.int .i64 (c : Int))),(2,(.pointer (some ⟨gr,c * 2,none⟩))),(3,(.agg #[.bool nr,.slice ar lr cr])),(4,(.agg #[.bool np,.slice ap lp cp]))] 5 ?_ (KB.out _ GB.out) ?_
   ·simp only [zPA,gA9,g09,g19,Act.put,sI9,s09,s19]
    (repeat' (first | exact trivial | refine And.intro (Or.inl ⟨by rfl,?_⟩) ?_)) <;> (intro w hSw;(try dsimp only at hSw);go_simp)
   simp only [actV,gA9,g09,g19,Act.put,sI9,s09,s19];refine zMA (i := 5) (j := 9) (oi := ⟨some 32,.call { callee := .value (.func 96),args := #[.tmp 30,.tmp 31],argTypes := #[27,27] },44, "triangle.go:43",#[⟨3,.data⟩,⟨4,.data⟩],none⟩) (oj := ⟨some 7,.alloc 27,0, "triangle.go:43",#[],none⟩) (by kernel_rfl) rfl rfl (fun K hK => ?_) (fun K hK => ?_)
   ·skip
    go_simp;go_at_call 96;refine (zAG (ZR.out.now GB.out).zi (ZP.out.now GB.out).zi Hp0.out (by have := HkK.out;have := HK.out;omega) (by have := HkK.out;have := HK.out;omega) HX.out).mono ?_;rintro e w42 ⟨rq,rfl,mq,b⟩;have lz42 := (show Below _ _ _ from b).size;replace GB := hid (below_step GB.out b);have Mg := hid (mq.mono (Nat.zero_le _));obtain ⟨ng,xg,ag,cg,rfl⟩ := Mg.out.parts;clear mq;replace HB := hid (HB.out.step b);clear b;refine hK.out _ _ (fun _ => KB.out _ GB.out) ?_;clear hK;refine zEA [(6,(.tuple #[(.agg #[.bool ng,.slice ag xg.length cg]),(.int .i64 8)])),(7,(.agg #[.bool ng,.slice ag xg.length cg])),(8,(.int .i64 8))] 3 ?_ (KB.out _ GB.out) ?_
    ·simp only [zPA,gA9,g09,g19,Act.put,sI9,s09,s19]
     (repeat' (first | exact trivial | refine And.intro (Or.inl ⟨by rfl,?_⟩) ?_)) <;> (intro w hSw;(try dsimp only at hSw);go_simp)
    simp only [actV,gA9,g09,g19,Act.put,sI9,s09,s19];refine zAA (i := 9) (o := ⟨some 7,.alloc 27,0, "triangle.go:43",#[],none⟩) (by kernel_rfl) rfl (fun K hK => ?_);go_simp;obtain ⟨V43,hW⟩ : ∃ V43,w42.alloc zbox = V43 := ⟨_,rfl⟩
    obtain ⟨b,sz43⟩ := alo1 w42 zbox;rw [hW] at b sz43;replace GB := hid (below_step GB.out b);replace Mg := hid (Mg.out.now b);replace HB : Hid (BX19 V0 V43 [w42.heap.size]) := by unfold Hid;rw [← hW];exact HB.out.new
    clear sz43;rw [hW];clear hW b;refine hK.out _ _ (fun _ => KB.out _ GB.out) ?_;clear hK
    try simp only [Act.put]
    refine zAA (i := 10) (o := ⟨none,.store 27 (.tmp 7) (.tmp 33),0, "triangle.go:43",#[⟨9,.data⟩,⟨7,.data⟩,⟨5,.chain⟩,⟨0,.phase⟩,⟨1,.phase⟩,⟨2,.phase⟩,⟨3,.phase⟩,⟨4,.phase⟩,⟨5,.phase⟩,⟨6,.phase⟩,⟨7,.phase⟩,⟨8,.textOnly .lateStores⟩,⟨9,.phase⟩],none⟩) (by kernel_rfl) rfl (fun K hK => ?_);obtain ⟨Sg,Dg⟩ := HB.out.one;have e0 := Dg.c0;have e1 := Dg.c1;have e2 := Dg.fz 0;have e3 := Dg.fz 1;go_simp;clear e0 e1 e2 e3;obtain ⟨V44,hW⟩ : ∃ V44,((V43.setCell ⟨w42.heap.size,0,none⟩ (.bool ng)).setCell ⟨w42.heap.size,1,none⟩ (.slice ag xg.length cg)) = V44 := ⟨_,rfl⟩
    replace Mg := hid (Mg.out.ty (Dg.ty13 (.bool ng) (.slice ag xg.length cg)) (by decide));replace Dg := Dg.set (.bool ng) (.slice ag xg.length cg);replace GB := hid (bset (u := .slice ag xg.length cg) (j := 1) (bset (u := .bool ng) (j := 0) GB.out Sg) Sg);rw [hW] at Mg Dg GB;rw [hW];clear hW;refine hK.out _ _ (fun _ => KB.out _ GB.out) ?_;clear hK
    try simp only [Act.put]
    refine zAA (i := 11) (o := ⟨some 8,.assign (.tmp 34),29, "triangle.go:43",#[⟨8,.data⟩,⟨10,.chain⟩,⟨0,.phase⟩,⟨1,.phase⟩,⟨2,.phase⟩,⟨3,.phase⟩,⟨4,.phase⟩,⟨5,.phase⟩,⟨6,.phase⟩,⟨7,.phase⟩,⟨8,.phase⟩,⟨9,.phase⟩,⟨10,.phase⟩],none⟩) (by kernel_rfl) rfl (fun K hK => ?_);go_simp;refine hK.out _ _ (fun h => absurd h (by decide)) ?_;clear hK
    try simp only [Act.put]
    refine zCA (by kernel_rfl) ?_ _;have FN : Hid (MetX V0 V44 (.pointer (some ⟨w42.heap.size,0,none⟩)) 0 k ∧ Value.int .i64 8 = .int .i64 8) := ⟨⟨_,ng,xg,ag,cg,rfl,GB.out,Sg,Dg,Mg.out⟩,rfl⟩
    clear GB KB HB Mg Dg Sg;go_wp2_with fail;go_meet;exact ⟨FN.out.1,rfl⟩
   ·skip
    go_simp;obtain ⟨V45,hW⟩ : ∃ V45,D41.alloc zbox = V45 := ⟨_,rfl⟩
    obtain ⟨b,sz45⟩ := alo1 D41 zbox;rw [hW] at b sz45;replace GB := hid (below_step GB.out b);replace HB : Hid (BX19 V0 V45 [D41.heap.size]) := by unfold Hid;rw [← hW];exact HB.out.new
    clear sz45;rw [hW];clear hW b;refine hK.out _ _ (fun _ => KB.out _ GB.out) ?_;clear hK
    try simp only [Act.put]
    refine zAA (i := 5) (o := ⟨some 32,.call { callee := .value (.func 96),args := #[.tmp 30,.tmp 31],argTypes := #[27,27] },44, "triangle.go:43",#[⟨3,.data⟩,⟨4,.data⟩],none⟩) (by kernel_rfl) rfl (fun K hK => ?_);go_simp;go_at_call 96;refine (zAG (ZR.out.now GB.out).zi (ZP.out.now GB.out).zi Hp0.out (by have := HkK.out;have := HK.out;omega) (by have := HkK.out;have := HK.out;omega) HX.out).mono ?_;rintro e w46 ⟨rq,rfl,mq,b⟩;have lz46 := (show Below _ _ _ from b).size;replace GB := hid (below_step GB.out b);have Mg := hid (mq.mono (Nat.zero_le _));obtain ⟨ng,xg,ag,cg,rfl⟩ := Mg.out.parts;clear mq;replace HB := hid (HB.out.step b);clear b;refine hK.out _ _ (fun _ => KB.out _ GB.out) ?_;clear hK;refine zEA [(6,(.tuple #[(.agg #[.bool ng,.slice ag xg.length cg]),(.int .i64 8)])),(7,(.agg #[.bool ng,.slice ag xg.length cg])),(8,(.int .i64 8))] 3 ?_ (KB.out _ GB.out) ?_
    ·simp only [zPA,gA9,g09,g19,Act.put,sI9,s09,s19]
     (repeat' (first | exact trivial | refine And.intro (Or.inl ⟨by rfl,?_⟩) ?_)) <;> (intro w hSw;(try dsimp only at hSw);go_simp)
    simp only [actV,gA9,g09,g19,Act.put,sI9,s09,s19];refine zAA (i := 10) (o := ⟨none,.store 27 (.tmp 7) (.tmp 33),0, "triangle.go:43",#[⟨9,.data⟩,⟨7,.data⟩,⟨5,.chain⟩,⟨0,.phase⟩,⟨1,.phase⟩,⟨2,.phase⟩,⟨3,.phase⟩,⟨4,.phase⟩,⟨5,.phase⟩,⟨6,.phase⟩,⟨7,.phase⟩,⟨8,.textOnly .lateStores⟩,⟨9,.phase⟩],none⟩) (by kernel_rfl) rfl (fun K hK => ?_);obtain ⟨Sg,Dg⟩ := HB.out.one;have e0 := Dg.c0;have e1 := Dg.c1;have e2 := Dg.fz 0;have e3 := Dg.fz 1;go_simp;clear e0 e1 e2 e3;obtain ⟨V47,hW⟩ : ∃ V47,((w46.setCell ⟨D41.heap.size,0,none⟩ (.bool ng)).setCell ⟨D41.heap.size,1,none⟩ (.slice ag xg.length cg)) = V47 := ⟨_,rfl⟩
    replace Mg := hid (Mg.out.ty (Dg.ty13 (.bool ng) (.slice ag xg.length cg)) (by decide));replace Dg := Dg.set (.bool ng) (.slice ag xg.length cg);replace GB := hid (bset (u := .slice ag xg.length cg) (j := 1) (bset (u := .bool ng) (j := 0) GB.out Sg) Sg);rw [hW] at Mg Dg GB;rw [hW];clear hW;refine hK.out _ _ (fun _ => KB.out _ GB.out) ?_;clear hK
    try simp only [Act.put]
    refine zAA (i := 11) (o := ⟨some 8,.assign (.tmp 34),29, "triangle.go:43",#[⟨8,.data⟩,⟨10,.chain⟩,⟨0,.phase⟩,⟨1,.phase⟩,⟨2,.phase⟩,⟨3,.phase⟩,⟨4,.phase⟩,⟨5,.phase⟩,⟨6,.phase⟩,⟨7,.phase⟩,⟨8,.phase⟩,⟨9,.phase⟩,⟨10,.phase⟩],none⟩) (by kernel_rfl) rfl (fun K hK => ?_);go_simp;refine hK.out _ _ (fun h => absurd h (by decide)) ?_;clear hK
    try simp only [Act.put]
    refine zCA (by kernel_rfl) ?_ _;have FN : Hid (MetX V0 V47 (.pointer (some ⟨D41.heap.size,0,none⟩)) 0 k ∧ Value.int .i64 8 = .int .i64 8) := ⟨⟨_,ng,xg,ag,cg,rfl,GB.out,Sg,Dg,Mg.out⟩,rfl⟩
    clear GB KB HB Mg Dg Sg;go_wp2_with fail;go_meet;exact ⟨FN.out.1,rfl⟩
  case rest =>
  rename World => W1
  obtain ⟨⟨bg,ng,xg,ag,cg,rfl,b,hbg,dg,zg⟩,rfl⟩ := hcut;replace TG := hid (TG.out.now b);replace RW := hid (RW.out.now b);replace ZP := hid (ZP.out.now b);replace ZR := hid (ZR.out.now b);replace DP := hid (DP.out.step b);replace B0 := hid (below_step B0.out b);replace r0 := cnow b r0;replace r1 := cnow b r1;clear i0 i1 zg dg hbg;have i0 := DP.out.c0;have i1 := DP.out.c1;clear b;go_wp2_with fail
  go_cut [9,10,11] from 12 (fun s9 s10 s11 wx => ∃ g x y,ExtV (L c c) (R c) g x y ∧ zLB W1 wx s9 s10 s11 g x y k)
  case first =>
   have KB : Hid (∀ w',Below W1.heap.size W1 w' → w'.cell? ⟨gr,c * 2,none⟩ = some (.bool nr) ∧ w'.cell? ⟨gr,c * 2 + 1,none⟩ = some (.slice ar lr cr) ∧ w'.cell? ⟨bx,0,none⟩ = some (.bool np) ∧ w'.cell? ⟨bx,1,none⟩ = some (.slice ap lp cp)) := fun w' h => ⟨cnow h r0,cnow h r1,cnow h i0,cnow h i1⟩
   refine zFA (fun w' => w'.cell? ⟨gr,c * 2,none⟩ = some (.bool nr) ∧ w'.cell? ⟨gr,c * 2 + 1,none⟩ = some (.slice ar lr cr) ∧ w'.cell? ⟨bx,0,none⟩ = some (.bool np) ∧ w'.cell? ⟨bx,1,none⟩ = some (.slice ap lp cp)) 15 (by kernel_rfl) ?_;obtain ⟨D81,hD⟩ : ∃ D81,W1.drew = D81 := ⟨_,rfl⟩
   have GB : Hid (Below W1.heap.size W1 D81) := by unfold Hid;rw [← hD];exact (Below.refl _ _).drew
   rw [hD];clear hD;have HB : Hid (BX19 W1 D81 []) := BX19.nil GB.out;clear GB;refine zEA [(0,(.agg #[.bool np,.slice ap lp cp])),(1,(.slice (some ⟨gr,0,none⟩) n n)),(2,(.int .i64 (c : Int))),(3,(.pointer (some ⟨gr,c * 2,none⟩))),(4,(.agg #[.bool nr,.slice ar lr cr]))] 5 ?_ (KB.out _ HB.out.1) ?_
   ·simp only [zPA,gA9,g09,g19,Act.put,sI9,s09,s19]
    (repeat' (first | exact trivial | refine And.intro (Or.inl ⟨by rfl,?_⟩) ?_)) <;> (intro w hSw;(try dsimp only at hSw);go_simp)
   simp only [actV,gA9,g09,g19,Act.put,sI9,s09,s19];refine wpAnyT_four (i := 5) (j := 10) (l := 11) (m := 12) (oi := zTA) (oj := zSA) (ol := zRA) (om := zQA) (by kernel_rfl) rfl rfl rfl rfl (fun K hK => ?_) (fun K hK => ?_) (fun K hK => ?_) (fun K hK => ?_)
   ·skip
    dsimp only [zTA];go_simp;go_at_call 101;refine (zOC (ZP.out.now HB.out.1).zi (ZR.out.now HB.out.1).zi Hk1.out (by have := HkK.out;have := HK.out;omega)).mono ?_;rintro e w82 ⟨g,x,y,rg,rx,ry,hv,rfl,mg,mx,my,b⟩;obtain ⟨ng,xg,ag,cg,rfl⟩ := mg.parts;obtain ⟨nx,xx,ax,cx,rfl⟩ := mx.parts;obtain ⟨ny,xy,ay,cy,rfl⟩ := my.parts;have HZ : Hid (Z319 _ _ _ _ g x y k) := ⟨mg.mono (Nat.zero_le _),mx.mono (Nat.zero_le _),my.mono (Nat.zero_le _)⟩
    have HV := hid hv;replace HB := hid (HB.out.step b);clear mg mx my hv b;refine hK.out _ _ (fun _ => KB.out _ HB.out.1) ?_;clear hK;refine zEA [(6,(.tuple #[(.agg #[.bool ng,.slice ag xg.length cg]),(.agg #[.bool nx,.slice ax xx.length cx]),(.agg #[.bool ny,.slice ay xy.length cy])])),(7,(.agg #[.bool ng,.slice ag xg.length cg])),(8,(.agg #[.bool nx,.slice ax xx.length cx])),(9,(.agg #[.bool ny,.slice ay xy.length cy]))] 4 ?_ (KB.out _ HB.out.1) ?_
    ·simp only [zPA,gA9,g09,g19,Act.put,sI9,s09,s19]
     (repeat' (first | exact trivial | refine And.intro (Or.inl ⟨by rfl,?_⟩) ?_)) <;> (intro w hSw;(try dsimp only at hSw);go_simp)
    simp only [actV,gA9,g09,g19,Act.put,sI9,s09,s19];refine zvA (i := 10) (j := 11) (l := 12) (oi := zSA) (oj := zRA) (ol := zQA) (by kernel_rfl) rfl rfl rfl (fun K hK => ?_) (fun K hK => ?_) (fun K hK => ?_)
    ·skip
     dsimp only [zSA];go_simp;obtain ⟨V83,hW⟩ : ∃ V,w82.alloc zbox = V := ⟨_,rfl⟩
     replace HB := hid HB.out.new;replace HZ := hid HZ.out.al;rw [hW] at HB HZ ⊢;clear hW;refine hK.out _ _ (fun _ => KB.out _ HB.out.1) ?_;clear hK
     try simp only [Act.put]
     refine zMA (i := 11) (j := 12) (oi := zRA) (oj := zQA) (by kernel_rfl) rfl rfl (fun K hK => ?_) (fun K hK => ?_)
     ·skip
      dsimp only [zRA];go_simp;obtain ⟨V84,hW⟩ : ∃ V,V83.alloc zbox = V := ⟨_,rfl⟩
      replace HB := hid HB.out.new;replace HZ := hid HZ.out.al;rw [hW] at HB HZ ⊢;clear hW;refine hK.out _ _ (fun _ => KB.out _ HB.out.1) ?_;clear hK
      try simp only [Act.put]
      refine zAA (i := 12) (o := zQA) (by kernel_rfl) rfl (fun K hK => ?_);dsimp only [zQA];go_simp;obtain ⟨V85,hW⟩ : ∃ V,V84.alloc zbox = V := ⟨_,rfl⟩
      replace HB := hid HB.out.new;replace HZ := hid HZ.out.al;rw [hW] at HB HZ ⊢;clear hW;refine hK.out _ _ (fun _ => KB.out _ HB.out.1) ?_;clear hK
      try simp only [Act.put]
      refine zAA (i := 13) (o := zJA) (by kernel_rfl) rfl (fun K hK => ?_);dsimp only [zJA];have HT := hid (HB.out.s12.s23.s12.q3 HZ.out);clear HB HZ;obtain ⟨e0,e1,e2,e3⟩ := HT.out.2.2.2.1.1.four;go_simp;clear e0 e1 e2 e3;obtain ⟨V86,hW⟩ : ∃ V,(V85.setCell ⟨w82.heap.size,0,none⟩ (.bool ng)).setCell ⟨w82.heap.size,1,none⟩ (.slice ag xg.length cg) = V := ⟨_,rfl⟩
      replace HT := hid (HT.out.sp (.bool ng) (.slice ag xg.length cg));rw [hW] at HT ⊢;clear hW;refine hK.out _ _ (fun _ => KB.out _ HT.out.1) ?_;clear hK
      try simp only [Act.put]
      refine zAA (i := 14) (o := zIA) (by kernel_rfl) rfl (fun K hK => ?_);dsimp only [zIA];obtain ⟨e0,e1,e2,e3⟩ := HT.out.2.2.2.1.2.1.four;go_simp;clear e0 e1 e2 e3;obtain ⟨V87,hW⟩ : ∃ V,(V86.setCell ⟨V83.heap.size,0,none⟩ (.bool nx)).setCell ⟨V83.heap.size,1,none⟩ (.slice ax xx.length cx) = V := ⟨_,rfl⟩
      replace HT := hid (HT.out.sq (.bool nx) (.slice ax xx.length cx));rw [hW] at HT ⊢;clear hW;refine hK.out _ _ (fun _ => KB.out _ HT.out.1) ?_;clear hK
      try simp only [Act.put]
      refine zAA (i := 15) (o := zHA) (by kernel_rfl) rfl (fun K hK => ?_);dsimp only [zHA];obtain ⟨e0,e1,e2,e3⟩ := HT.out.2.2.2.1.2.2.four;go_simp;clear e0 e1 e2 e3;obtain ⟨V88,hW⟩ : ∃ V,(V87.setCell ⟨V84.heap.size,0,none⟩ (.bool ny)).setCell ⟨V84.heap.size,1,none⟩ (.slice ay xy.length cy) = V := ⟨_,rfl⟩
      replace HT := hid (HT.out.st (.bool ny) (.slice ay xy.length cy));rw [hW] at HT ⊢;clear hW;refine hK.out _ _ (fun h => absurd h (by decide)) ?_;clear hK
      try simp only [Act.put]
      refine zCA (by kernel_rfl) ?_ _;have FN : Hid (∃ g x y,ExtV (L c c) (R c) g x y ∧ zLB W1 V88 (.pointer (some ⟨w82.heap.size,0,none⟩)) (.pointer (some ⟨V83.heap.size,0,none⟩)) (.pointer (some ⟨V84.heap.size,0,none⟩)) g x y k) := ⟨g,x,y,HV.out,_,_,_,ng,nx,ny,xg,xx,xy,ag,ax,ay,cg,cx,cy,rfl,rfl,rfl,HT.out.2.2.2.1.1,HT.out.2.2.2.1.2.1,HT.out.2.2.2.1.2.2,HT.out.2.2.2.2.1,HT.out.2.2.2.2.2.1,HT.out.2.2.2.2.2.2,HT.out.1⟩
      clear KB HV HT;go_wp2_with fail;go_meet;exact FN.out
     ·skip
      dsimp only [zQA];go_simp;obtain ⟨V89,hW⟩ : ∃ V,V83.alloc zbox = V := ⟨_,rfl⟩
      replace HB := hid HB.out.new;replace HZ := hid HZ.out.al;rw [hW] at HB HZ ⊢;clear hW;refine hK.out _ _ (fun _ => KB.out _ HB.out.1) ?_;clear hK
      try simp only [Act.put]
      refine zAA (i := 11) (o := zRA) (by kernel_rfl) rfl (fun K hK => ?_);dsimp only [zRA];go_simp;obtain ⟨V90,hW⟩ : ∃ V,V89.alloc zbox = V := ⟨_,rfl⟩
      replace HB := hid HB.out.new;replace HZ := hid HZ.out.al;rw [hW] at HB HZ ⊢;clear hW;refine hK.out _ _ (fun _ => KB.out _ HB.out.1) ?_;clear hK
      try simp only [Act.put]
      refine zAA (i := 13) (o := zJA) (by kernel_rfl) rfl (fun K hK => ?_);dsimp only [zJA];have HT := hid (HB.out.s23.s12.q3 HZ.out);clear HB HZ;obtain ⟨e0,e1,e2,e3⟩ := HT.out.2.2.2.1.1.four;go_simp;clear e0 e1 e2 e3;obtain ⟨V91,hW⟩ : ∃ V,(V90.setCell ⟨w82.heap.size,0,none⟩ (.bool ng)).setCell ⟨w82.heap.size,1,none⟩ (.slice ag xg.length cg) = V := ⟨_,rfl⟩
      replace HT := hid (HT.out.sp (.bool ng) (.slice ag xg.length cg));rw [hW] at HT ⊢;clear hW;refine hK.out _ _ (fun _ => KB.out _ HT.out.1) ?_;clear hK
      try simp only [Act.put]
      refine zAA (i := 14) (o := zIA) (by kernel_rfl) rfl (fun K hK => ?_);dsimp only [zIA];obtain ⟨e0,e1,e2,e3⟩ := HT.out.2.2.2.1.2.1.four;go_simp;clear e0 e1 e2 e3;obtain ⟨V92,hW⟩ : ∃ V,(V91.setCell ⟨V89.heap.size,0,none⟩ (.bool nx)).setCell ⟨V89.heap.size,1,none⟩ (.slice ax xx.length cx) = V := ⟨_,rfl⟩
      replace HT := hid (HT.out.sq (.bool nx) (.slice ax xx.length cx));rw [hW] at HT ⊢;clear hW;refine hK.out _ _ (fun _ => KB.out _ HT.out.1) ?_;clear hK
      try simp only [Act.put]
      refine zAA (i := 15) (o := zHA) (by kernel_rfl) rfl (fun K hK => ?_);dsimp only [zHA];obtain ⟨e0,e1,e2,e3⟩ := HT.out.2.2.2.1.2.2.four;go_simp;clear e0 e1 e2 e3;obtain ⟨V93,hW⟩ : ∃ V,(V92.setCell ⟨V83.heap.size,0,none⟩ (.bool ny)).setCell ⟨V83.heap.size,1,none⟩ (.slice ay xy.length cy) = V := ⟨_,rfl⟩
      replace HT := hid (HT.out.st (.bool ny) (.slice ay xy.length cy));rw [hW] at HT ⊢;clear hW;refine hK.out _ _ (fun h => absurd h (by decide)) ?_;clear hK
      try simp only [Act.put]
      refine zCA (by kernel_rfl) ?_ _;have FN : Hid (∃ g x y,ExtV (L c c) (R c) g x y ∧ zLB W1 V93 (.pointer (some ⟨w82.heap.size,0,none⟩)) (.pointer (some ⟨V89.heap.size,0,none⟩)) (.pointer (some ⟨V83.heap.size,0,none⟩)) g x y k) := ⟨g,x,y,HV.out,_,_,_,ng,nx,ny,xg,xx,xy,ag,ax,ay,cg,cx,cy,rfl,rfl,rfl,HT.out.2.2.2.1.1,HT.out.2.2.2.1.2.1,HT.out.2.2.2.1.2.2,HT.out.2.2.2.2.1,HT.out.2.2.2.2.2.1,HT.out.2.2.2.2.2.2,HT.out.1⟩
      clear KB HV HT;go_wp2_with fail;go_meet;exact FN.out
    ·skip
     dsimp only [zRA];go_simp;obtain ⟨V94,hW⟩ : ∃ V,w82.alloc zbox = V := ⟨_,rfl⟩
     replace HB := hid HB.out.new;replace HZ := hid HZ.out.al;rw [hW] at HB HZ ⊢;clear hW;refine hK.out _ _ (fun _ => KB.out _ HB.out.1) ?_;clear hK
     try simp only [Act.put]
     refine zMA (i := 10) (j := 12) (oi := zSA) (oj := zQA) (by kernel_rfl) rfl rfl (fun K hK => ?_) (fun K hK => ?_)
     ·skip
      dsimp only [zSA];go_simp;obtain ⟨V95,hW⟩ : ∃ V,V94.alloc zbox = V := ⟨_,rfl⟩
      replace HB := hid HB.out.new;replace HZ := hid HZ.out.al;rw [hW] at HB HZ ⊢;clear hW;refine hK.out _ _ (fun _ => KB.out _ HB.out.1) ?_;clear hK
      try simp only [Act.put]
      refine zAA (i := 12) (o := zQA) (by kernel_rfl) rfl (fun K hK => ?_);dsimp only [zQA];go_simp;obtain ⟨V96,hW⟩ : ∃ V,V95.alloc zbox = V := ⟨_,rfl⟩
      replace HB := hid HB.out.new;replace HZ := hid HZ.out.al;rw [hW] at HB HZ ⊢;clear hW;refine hK.out _ _ (fun _ => KB.out _ HB.out.1) ?_;clear hK
      try simp only [Act.put]
      refine zAA (i := 13) (o := zJA) (by kernel_rfl) rfl (fun K hK => ?_);dsimp only [zJA];have HT := hid (HB.out.s12.s23.q3 HZ.out);clear HB HZ;obtain ⟨e0,e1,e2,e3⟩ := HT.out.2.2.2.1.1.four;go_simp;clear e0 e1 e2 e3;obtain ⟨V97,hW⟩ : ∃ V,(V96.setCell ⟨V94.heap.size,0,none⟩ (.bool ng)).setCell ⟨V94.heap.size,1,none⟩ (.slice ag xg.length cg) = V := ⟨_,rfl⟩
      replace HT := hid (HT.out.sp (.bool ng) (.slice ag xg.length cg));rw [hW] at HT ⊢;clear hW;refine hK.out _ _ (fun _ => KB.out _ HT.out.1) ?_;clear hK
      try simp only [Act.put]
      refine zAA (i := 14) (o := zIA) (by kernel_rfl) rfl (fun K hK => ?_);dsimp only [zIA];obtain ⟨e0,e1,e2,e3⟩ := HT.out.2.2.2.1.2.1.four;go_simp;clear e0 e1 e2 e3;obtain ⟨V98,hW⟩ : ∃ V,(V97.setCell ⟨w82.heap.size,0,none⟩ (.bool nx)).setCell ⟨w82.heap.size,1,none⟩ (.slice ax xx.length cx) = V := ⟨_,rfl⟩
      replace HT := hid (HT.out.sq (.bool nx) (.slice ax xx.length cx));rw [hW] at HT ⊢;clear hW;refine hK.out _ _ (fun _ => KB.out _ HT.out.1) ?_;clear hK
      try simp only [Act.put]
      refine zAA (i := 15) (o := zHA) (by kernel_rfl) rfl (fun K hK => ?_);dsimp only [zHA];obtain ⟨e0,e1,e2,e3⟩ := HT.out.2.2.2.1.2.2.four;go_simp;clear e0 e1 e2 e3;obtain ⟨V99,hW⟩ : ∃ V,(V98.setCell ⟨V95.heap.size,0,none⟩ (.bool ny)).setCell ⟨V95.heap.size,1,none⟩ (.slice ay xy.length cy) = V := ⟨_,rfl⟩
      replace HT := hid (HT.out.st (.bool ny) (.slice ay xy.length cy));rw [hW] at HT ⊢;clear hW;refine hK.out _ _ (fun h => absurd h (by decide)) ?_;clear hK
      try simp only [Act.put]
      refine zCA (by kernel_rfl) ?_ _;have FN : Hid (∃ g x y,ExtV (L c c) (R c) g x y ∧ zLB W1 V99 (.pointer (some ⟨V94.heap.size,0,none⟩)) (.pointer (some ⟨w82.heap.size,0,none⟩)) (.pointer (some ⟨V95.heap.size,0,none⟩)) g x y k) := ⟨g,x,y,HV.out,_,_,_,ng,nx,ny,xg,xx,xy,ag,ax,ay,cg,cx,cy,rfl,rfl,rfl,HT.out.2.2.2.1.1,HT.out.2.2.2.1.2.1,HT.out.2.2.2.1.2.2,HT.out.2.2.2.2.1,HT.out.2.2.2.2.2.1,HT.out.2.2.2.2.2.2,HT.out.1⟩
      clear KB HV HT;go_wp2_with fail;go_meet;exact FN.out
     ·skip
      dsimp only [zQA];go_simp;obtain ⟨V100,hW⟩ : ∃ V,V94.alloc zbox = V := ⟨_,rfl⟩
      replace HB := hid HB.out.new;replace HZ := hid HZ.out.al;rw [hW] at HB HZ ⊢;clear hW;refine hK.out _ _ (fun _ => KB.out _ HB.out.1) ?_;clear hK
      try simp only [Act.put]
      refine zAA (i := 10) (o := zSA) (by kernel_rfl) rfl (fun K hK => ?_);dsimp only [zSA];go_simp;obtain ⟨V101,hW⟩ : ∃ V,V100.alloc zbox = V := ⟨_,rfl⟩
      replace HB := hid HB.out.new;replace HZ := hid HZ.out.al;rw [hW] at HB HZ ⊢;clear hW;refine hK.out _ _ (fun _ => KB.out _ HB.out.1) ?_;clear hK
      try simp only [Act.put]
      refine zAA (i := 13) (o := zJA) (by kernel_rfl) rfl (fun K hK => ?_);dsimp only [zJA];have HT := hid (HB.out.s23.q3 HZ.out);clear HB HZ;obtain ⟨e0,e1,e2,e3⟩ := HT.out.2.2.2.1.1.four;go_simp;clear e0 e1 e2 e3;obtain ⟨V102,hW⟩ : ∃ V,(V101.setCell ⟨V100.heap.size,0,none⟩ (.bool ng)).setCell ⟨V100.heap.size,1,none⟩ (.slice ag xg.length cg) = V := ⟨_,rfl⟩
      replace HT := hid (HT.out.sp (.bool ng) (.slice ag xg.length cg));rw [hW] at HT ⊢;clear hW;refine hK.out _ _ (fun _ => KB.out _ HT.out.1) ?_;clear hK
      try simp only [Act.put]
      refine zAA (i := 14) (o := zIA) (by kernel_rfl) rfl (fun K hK => ?_);dsimp only [zIA];obtain ⟨e0,e1,e2,e3⟩ := HT.out.2.2.2.1.2.1.four;go_simp;clear e0 e1 e2 e3;obtain ⟨V103,hW⟩ : ∃ V,(V102.setCell ⟨w82.heap.size,0,none⟩ (.bool nx)).setCell ⟨w82.heap.size,1,none⟩ (.slice ax xx.length cx) = V := ⟨_,rfl⟩
      replace HT := hid (HT.out.sq (.bool nx) (.slice ax xx.length cx));rw [hW] at HT ⊢;clear hW;refine hK.out _ _ (fun _ => KB.out _ HT.out.1) ?_;clear hK
      try simp only [Act.put]
      refine zAA (i := 15) (o := zHA) (by kernel_rfl) rfl (fun K hK => ?_);dsimp only [zHA];obtain ⟨e0,e1,e2,e3⟩ := HT.out.2.2.2.1.2.2.four;go_simp;clear e0 e1 e2 e3;obtain ⟨V104,hW⟩ : ∃ V,(V103.setCell ⟨V94.heap.size,0,none⟩ (.bool ny)).setCell ⟨V94.heap.size,1,none⟩ (.slice ay xy.length cy) = V := ⟨_,rfl⟩
      replace HT := hid (HT.out.st (.bool ny) (.slice ay xy.length cy));rw [hW] at HT ⊢;clear hW;refine hK.out _ _ (fun h => absurd h (by decide)) ?_;clear hK
      try simp only [Act.put]
      refine zCA (by kernel_rfl) ?_ _;have FN : Hid (∃ g x y,ExtV (L c c) (R c) g x y ∧ zLB W1 V104 (.pointer (some ⟨V100.heap.size,0,none⟩)) (.pointer (some ⟨w82.heap.size,0,none⟩)) (.pointer (some ⟨V94.heap.size,0,none⟩)) g x y k) := ⟨g,x,y,HV.out,_,_,_,ng,nx,ny,xg,xx,xy,ag,ax,ay,cg,cx,cy,rfl,rfl,rfl,HT.out.2.2.2.1.1,HT.out.2.2.2.1.2.1,HT.out.2.2.2.1.2.2,HT.out.2.2.2.2.1,HT.out.2.2.2.2.2.1,HT.out.2.2.2.2.2.2,HT.out.1⟩
      clear KB HV HT;go_wp2_with fail;go_meet;exact FN.out
    ·skip
     dsimp only [zQA];go_simp;obtain ⟨V105,hW⟩ : ∃ V,w82.alloc zbox = V := ⟨_,rfl⟩
     replace HB := hid HB.out.new;replace HZ := hid HZ.out.al;rw [hW] at HB HZ ⊢;clear hW;refine hK.out _ _ (fun _ => KB.out _ HB.out.1) ?_;clear hK
     try simp only [Act.put]
     refine zMA (i := 10) (j := 11) (oi := zSA) (oj := zRA) (by kernel_rfl) rfl rfl (fun K hK => ?_) (fun K hK => ?_)
     ·skip
      dsimp only [zSA];go_simp;obtain ⟨V106,hW⟩ : ∃ V,V105.alloc zbox = V := ⟨_,rfl⟩
      replace HB := hid HB.out.new;replace HZ := hid HZ.out.al;rw [hW] at HB HZ ⊢;clear hW;refine hK.out _ _ (fun _ => KB.out _ HB.out.1) ?_;clear hK
      try simp only [Act.put]
      refine zAA (i := 11) (o := zRA) (by kernel_rfl) rfl (fun K hK => ?_);dsimp only [zRA];go_simp;obtain ⟨V107,hW⟩ : ∃ V,V106.alloc zbox = V := ⟨_,rfl⟩
      replace HB := hid HB.out.new;replace HZ := hid HZ.out.al;rw [hW] at HB HZ ⊢;clear hW;refine hK.out _ _ (fun _ => KB.out _ HB.out.1) ?_;clear hK
      try simp only [Act.put]
      refine zAA (i := 13) (o := zJA) (by kernel_rfl) rfl (fun K hK => ?_);dsimp only [zJA];have HT := hid (HB.out.s12.q3 HZ.out);clear HB HZ;obtain ⟨e0,e1,e2,e3⟩ := HT.out.2.2.2.1.1.four;go_simp;clear e0 e1 e2 e3;obtain ⟨V108,hW⟩ : ∃ V,(V107.setCell ⟨V105.heap.size,0,none⟩ (.bool ng)).setCell ⟨V105.heap.size,1,none⟩ (.slice ag xg.length cg) = V := ⟨_,rfl⟩
      replace HT := hid (HT.out.sp (.bool ng) (.slice ag xg.length cg));rw [hW] at HT ⊢;clear hW;refine hK.out _ _ (fun _ => KB.out _ HT.out.1) ?_;clear hK
      try simp only [Act.put]
      refine zAA (i := 14) (o := zIA) (by kernel_rfl) rfl (fun K hK => ?_);dsimp only [zIA];obtain ⟨e0,e1,e2,e3⟩ := HT.out.2.2.2.1.2.1.four;go_simp;clear e0 e1 e2 e3;obtain ⟨V109,hW⟩ : ∃ V,(V108.setCell ⟨V106.heap.size,0,none⟩ (.bool nx)).setCell ⟨V106.heap.size,1,none⟩ (.slice ax xx.length cx) = V := ⟨_,rfl⟩
      replace HT := hid (HT.out.sq (.bool nx) (.slice ax xx.length cx));rw [hW] at HT ⊢;clear hW;refine hK.out _ _ (fun _ => KB.out _ HT.out.1) ?_;clear hK
      try simp only [Act.put]
      refine zAA (i := 15) (o := zHA) (by kernel_rfl) rfl (fun K hK => ?_);dsimp only [zHA];obtain ⟨e0,e1,e2,e3⟩ := HT.out.2.2.2.1.2.2.four;go_simp;clear e0 e1 e2 e3;obtain ⟨V110,hW⟩ : ∃ V,(V109.setCell ⟨w82.heap.size,0,none⟩ (.bool ny)).setCell ⟨w82.heap.size,1,none⟩ (.slice ay xy.length cy) = V := ⟨_,rfl⟩
      replace HT := hid (HT.out.st (.bool ny) (.slice ay xy.length cy));rw [hW] at HT ⊢;clear hW;refine hK.out _ _ (fun h => absurd h (by decide)) ?_;clear hK
      try simp only [Act.put]
      refine zCA (by kernel_rfl) ?_ _;have FN : Hid (∃ g x y,ExtV (L c c) (R c) g x y ∧ zLB W1 V110 (.pointer (some ⟨V105.heap.size,0,none⟩)) (.pointer (some ⟨V106.heap.size,0,none⟩)) (.pointer (some ⟨w82.heap.size,0,none⟩)) g x y k) := ⟨g,x,y,HV.out,_,_,_,ng,nx,ny,xg,xx,xy,ag,ax,ay,cg,cx,cy,rfl,rfl,rfl,HT.out.2.2.2.1.1,HT.out.2.2.2.1.2.1,HT.out.2.2.2.1.2.2,HT.out.2.2.2.2.1,HT.out.2.2.2.2.2.1,HT.out.2.2.2.2.2.2,HT.out.1⟩
      clear KB HV HT;go_wp2_with fail;go_meet;exact FN.out
     ·skip
      dsimp only [zRA];go_simp;obtain ⟨V111,hW⟩ : ∃ V,V105.alloc zbox = V := ⟨_,rfl⟩
      replace HB := hid HB.out.new;replace HZ := hid HZ.out.al;rw [hW] at HB HZ ⊢;clear hW;refine hK.out _ _ (fun _ => KB.out _ HB.out.1) ?_;clear hK
      try simp only [Act.put]
      refine zAA (i := 10) (o := zSA) (by kernel_rfl) rfl (fun K hK => ?_);dsimp only [zSA];go_simp;obtain ⟨V112,hW⟩ : ∃ V,V111.alloc zbox = V := ⟨_,rfl⟩
      replace HB := hid HB.out.new;replace HZ := hid HZ.out.al;rw [hW] at HB HZ ⊢;clear hW;refine hK.out _ _ (fun _ => KB.out _ HB.out.1) ?_;clear hK
      try simp only [Act.put]
      refine zAA (i := 13) (o := zJA) (by kernel_rfl) rfl (fun K hK => ?_);dsimp only [zJA];have HT := hid (HB.out.q3 HZ.out);clear HB HZ;obtain ⟨e0,e1,e2,e3⟩ := HT.out.2.2.2.1.1.four;go_simp;clear e0 e1 e2 e3;obtain ⟨V113,hW⟩ : ∃ V,(V112.setCell ⟨V111.heap.size,0,none⟩ (.bool ng)).setCell ⟨V111.heap.size,1,none⟩ (.slice ag xg.length cg) = V := ⟨_,rfl⟩
      replace HT := hid (HT.out.sp (.bool ng) (.slice ag xg.length cg));rw [hW] at HT ⊢;clear hW;refine hK.out _ _ (fun _ => KB.out _ HT.out.1) ?_;clear hK
      try simp only [Act.put]
      refine zAA (i := 14) (o := zIA) (by kernel_rfl) rfl (fun K hK => ?_);dsimp only [zIA];obtain ⟨e0,e1,e2,e3⟩ := HT.out.2.2.2.1.2.1.four;go_simp;clear e0 e1 e2 e3;obtain ⟨V114,hW⟩ : ∃ V,(V113.setCell ⟨V105.heap.size,0,none⟩ (.bool nx)).setCell ⟨V105.heap.size,1,none⟩ (.slice ax xx.length cx) = V := ⟨_,rfl⟩
      replace HT := hid (HT.out.sq (.bool nx) (.slice ax xx.length cx));rw [hW] at HT ⊢;clear hW;refine hK.out _ _ (fun _ => KB.out _ HT.out.1) ?_;clear hK
      try simp only [Act.put]
      refine zAA (i := 15) (o := zHA) (by kernel_rfl) rfl (fun K hK => ?_);dsimp only [zHA];obtain ⟨e0,e1,e2,e3⟩ := HT.out.2.2.2.1.2.2.four;go_simp;clear e0 e1 e2 e3;obtain ⟨V115,hW⟩ : ∃ V,(V114.setCell ⟨w82.heap.size,0,none⟩ (.bool ny)).setCell ⟨w82.heap.size,1,none⟩ (.slice ay xy.length cy) = V := ⟨_,rfl⟩
      replace HT := hid (HT.out.st (.bool ny) (.slice ay xy.length cy));rw [hW] at HT ⊢;clear hW;refine hK.out _ _ (fun h => absurd h (by decide)) ?_;clear hK
      try simp only [Act.put]
      refine zCA (by kernel_rfl) ?_ _;have FN : Hid (∃ g x y,ExtV (L c c) (R c) g x y ∧ zLB W1 V115 (.pointer (some ⟨V111.heap.size,0,none⟩)) (.pointer (some ⟨V105.heap.size,0,none⟩)) (.pointer (some ⟨w82.heap.size,0,none⟩)) g x y k) := ⟨g,x,y,HV.out,_,_,_,ng,nx,ny,xg,xx,xy,ag,ax,ay,cg,cx,cy,rfl,rfl,rfl,HT.out.2.2.2.1.1,HT.out.2.2.2.1.2.1,HT.out.2.2.2.1.2.2,HT.out.2.2.2.2.1,HT.out.2.2.2.2.2.1,HT.out.2.2.2.2.2.2,HT.out.1⟩
      clear KB HV HT;go_wp2_with fail;go_meet;exact FN.out
   ·skip
    dsimp only [zSA];go_simp;obtain ⟨V116,hW⟩ : ∃ V,D81.alloc zbox = V := ⟨_,rfl⟩
    replace HB := hid HB.out.new;rw [hW] at HB ⊢;clear hW;refine hK.out _ _ (fun _ => KB.out _ HB.out.1) ?_;clear hK
    try simp only [Act.put]
    refine zvA (i := 5) (j := 11) (l := 12) (oi := zTA) (oj := zRA) (ol := zQA) (by kernel_rfl) rfl rfl rfl (fun K hK => ?_) (fun K hK => ?_) (fun K hK => ?_)
    ·skip
     dsimp only [zTA];go_simp;go_at_call 101;refine (zOC (ZP.out.now HB.out.1).zi (ZR.out.now HB.out.1).zi Hk1.out (by have := HkK.out;have := HK.out;omega)).mono ?_;rintro e w117 ⟨g,x,y,rg,rx,ry,hv,rfl,mg,mx,my,b⟩;obtain ⟨ng,xg,ag,cg,rfl⟩ := mg.parts;obtain ⟨nx,xx,ax,cx,rfl⟩ := mx.parts;obtain ⟨ny,xy,ay,cy,rfl⟩ := my.parts;have HZ : Hid (Z319 _ _ _ _ g x y k) := ⟨mg.mono (Nat.zero_le _),mx.mono (Nat.zero_le _),my.mono (Nat.zero_le _)⟩
     have HV := hid hv;replace HB := hid (HB.out.step b);clear mg mx my hv b;refine hK.out _ _ (fun _ => KB.out _ HB.out.1) ?_;clear hK;refine zEA [(6,(.tuple #[(.agg #[.bool ng,.slice ag xg.length cg]),(.agg #[.bool nx,.slice ax xx.length cx]),(.agg #[.bool ny,.slice ay xy.length cy])])),(7,(.agg #[.bool ng,.slice ag xg.length cg])),(8,(.agg #[.bool nx,.slice ax xx.length cx])),(9,(.agg #[.bool ny,.slice ay xy.length cy]))] 4 ?_ (KB.out _ HB.out.1) ?_
     ·simp only [zPA,gA9,g09,g19,Act.put,sI9,s09,s19]
      (repeat' (first | exact trivial | refine And.intro (Or.inl ⟨by rfl,?_⟩) ?_)) <;> (intro w hSw;(try dsimp only at hSw);go_simp)
     simp only [actV,gA9,g09,g19,Act.put,sI9,s09,s19];refine zMA (i := 11) (j := 12) (oi := zRA) (oj := zQA) (by kernel_rfl) rfl rfl (fun K hK => ?_) (fun K hK => ?_)
     ·skip
      dsimp only [zRA];go_simp;obtain ⟨V118,hW⟩ : ∃ V,w117.alloc zbox = V := ⟨_,rfl⟩
      replace HB := hid HB.out.new;replace HZ := hid HZ.out.al;rw [hW] at HB HZ ⊢;clear hW;refine hK.out _ _ (fun _ => KB.out _ HB.out.1) ?_;clear hK
      try simp only [Act.put]
      refine zAA (i := 12) (o := zQA) (by kernel_rfl) rfl (fun K hK => ?_);dsimp only [zQA];go_simp;obtain ⟨V119,hW⟩ : ∃ V,V118.alloc zbox = V := ⟨_,rfl⟩
      replace HB := hid HB.out.new;replace HZ := hid HZ.out.al;rw [hW] at HB HZ ⊢;clear hW;refine hK.out _ _ (fun _ => KB.out _ HB.out.1) ?_;clear hK
      try simp only [Act.put]
      refine zAA (i := 13) (o := zJA) (by kernel_rfl) rfl (fun K hK => ?_);dsimp only [zJA];have HT := hid (HB.out.s12.s23.s12.q3 HZ.out);clear HB HZ;obtain ⟨e0,e1,e2,e3⟩ := HT.out.2.2.2.1.1.four;go_simp;clear e0 e1 e2 e3;obtain ⟨V120,hW⟩ : ∃ V,(V119.setCell ⟨D81.heap.size,0,none⟩ (.bool ng)).setCell ⟨D81.heap.size,1,none⟩ (.slice ag xg.length cg) = V := ⟨_,rfl⟩
      replace HT := hid (HT.out.sp (.bool ng) (.slice ag xg.length cg));rw [hW] at HT ⊢;clear hW;refine hK.out _ _ (fun _ => KB.out _ HT.out.1) ?_;clear hK
      try simp only [Act.put]
      refine zAA (i := 14) (o := zIA) (by kernel_rfl) rfl (fun K hK => ?_);dsimp only [zIA];obtain ⟨e0,e1,e2,e3⟩ := HT.out.2.2.2.1.2.1.four;go_simp;clear e0 e1 e2 e3;obtain ⟨V121,hW⟩ : ∃ V,(V120.setCell ⟨w117.heap.size,0,none⟩ (.bool nx)).setCell ⟨w117.heap.size,1,none⟩ (.slice ax xx.length cx) = V := ⟨_,rfl⟩
      replace HT := hid (HT.out.sq (.bool nx) (.slice ax xx.length cx));rw [hW] at HT ⊢;clear hW;refine hK.out _ _ (fun _ => KB.out _ HT.out.1) ?_;clear hK
      try simp only [Act.put]
      refine zAA (i := 15) (o := zHA) (by kernel_rfl) rfl (fun K hK => ?_);dsimp only [zHA];obtain ⟨e0,e1,e2,e3⟩ := HT.out.2.2.2.1.2.2.four;go_simp;clear e0 e1 e2 e3;obtain ⟨V122,hW⟩ : ∃ V,(V121.setCell ⟨V118.heap.size,0,none⟩ (.bool ny)).setCell ⟨V118.heap.size,1,none⟩ (.slice ay xy.length cy) = V := ⟨_,rfl⟩
      replace HT := hid (HT.out.st (.bool ny) (.slice ay xy.length cy));rw [hW] at HT ⊢;clear hW;refine hK.out _ _ (fun h => absurd h (by decide)) ?_;clear hK
      try simp only [Act.put]
      refine zCA (by kernel_rfl) ?_ _;have FN : Hid (∃ g x y,ExtV (L c c) (R c) g x y ∧ zLB W1 V122 (.pointer (some ⟨D81.heap.size,0,none⟩)) (.pointer (some ⟨w117.heap.size,0,none⟩)) (.pointer (some ⟨V118.heap.size,0,none⟩)) g x y k) := ⟨g,x,y,HV.out,_,_,_,ng,nx,ny,xg,xx,xy,ag,ax,ay,cg,cx,cy,rfl,rfl,rfl,HT.out.2.2.2.1.1,HT.out.2.2.2.1.2.1,HT.out.2.2.2.1.2.2,HT.out.2.2.2.2.1,HT.out.2.2.2.2.2.1,HT.out.2.2.2.2.2.2,HT.out.1⟩
      clear KB HV HT;go_wp2_with fail;go_meet;exact FN.out
     ·skip
      dsimp only [zQA];go_simp;obtain ⟨V123,hW⟩ : ∃ V,w117.alloc zbox = V := ⟨_,rfl⟩
      replace HB := hid HB.out.new;replace HZ := hid HZ.out.al;rw [hW] at HB HZ ⊢;clear hW;refine hK.out _ _ (fun _ => KB.out _ HB.out.1) ?_;clear hK
      try simp only [Act.put]
      refine zAA (i := 11) (o := zRA) (by kernel_rfl) rfl (fun K hK => ?_);dsimp only [zRA];go_simp;obtain ⟨V124,hW⟩ : ∃ V,V123.alloc zbox = V := ⟨_,rfl⟩
      replace HB := hid HB.out.new;replace HZ := hid HZ.out.al;rw [hW] at HB HZ ⊢;clear hW;refine hK.out _ _ (fun _ => KB.out _ HB.out.1) ?_;clear hK
      try simp only [Act.put]
      refine zAA (i := 13) (o := zJA) (by kernel_rfl) rfl (fun K hK => ?_);dsimp only [zJA];have HT := hid (HB.out.s23.s12.q3 HZ.out);clear HB HZ;obtain ⟨e0,e1,e2,e3⟩ := HT.out.2.2.2.1.1.four;go_simp;clear e0 e1 e2 e3;obtain ⟨V125,hW⟩ : ∃ V,(V124.setCell ⟨D81.heap.size,0,none⟩ (.bool ng)).setCell ⟨D81.heap.size,1,none⟩ (.slice ag xg.length cg) = V := ⟨_,rfl⟩
      replace HT := hid (HT.out.sp (.bool ng) (.slice ag xg.length cg));rw [hW] at HT ⊢;clear hW;refine hK.out _ _ (fun _ => KB.out _ HT.out.1) ?_;clear hK
      try simp only [Act.put]
      refine zAA (i := 14) (o := zIA) (by kernel_rfl) rfl (fun K hK => ?_);dsimp only [zIA];obtain ⟨e0,e1,e2,e3⟩ := HT.out.2.2.2.1.2.1.four;go_simp;clear e0 e1 e2 e3;obtain ⟨V126,hW⟩ : ∃ V,(V125.setCell ⟨V123.heap.size,0,none⟩ (.bool nx)).setCell ⟨V123.heap.size,1,none⟩ (.slice ax xx.length cx) = V := ⟨_,rfl⟩
      replace HT := hid (HT.out.sq (.bool nx) (.slice ax xx.length cx));rw [hW] at HT ⊢;clear hW;refine hK.out _ _ (fun _ => KB.out _ HT.out.1) ?_;clear hK
      try simp only [Act.put]
      refine zAA (i := 15) (o := zHA) (by kernel_rfl) rfl (fun K hK => ?_);dsimp only [zHA];obtain ⟨e0,e1,e2,e3⟩ := HT.out.2.2.2.1.2.2.four;go_simp;clear e0 e1 e2 e3;obtain ⟨V127,hW⟩ : ∃ V,(V126.setCell ⟨w117.heap.size,0,none⟩ (.bool ny)).setCell ⟨w117.heap.size,1,none⟩ (.slice ay xy.length cy) = V := ⟨_,rfl⟩
      replace HT := hid (HT.out.st (.bool ny) (.slice ay xy.length cy));rw [hW] at HT ⊢;clear hW;refine hK.out _ _ (fun h => absurd h (by decide)) ?_;clear hK
      try simp only [Act.put]
      refine zCA (by kernel_rfl) ?_ _;have FN : Hid (∃ g x y,ExtV (L c c) (R c) g x y ∧ zLB W1 V127 (.pointer (some ⟨D81.heap.size,0,none⟩)) (.pointer (some ⟨V123.heap.size,0,none⟩)) (.pointer (some ⟨w117.heap.size,0,none⟩)) g x y k) := ⟨g,x,y,HV.out,_,_,_,ng,nx,ny,xg,xx,xy,ag,ax,ay,cg,cx,cy,rfl,rfl,rfl,HT.out.2.2.2.1.1,HT.out.2.2.2.1.2.1,HT.out.2.2.2.1.2.2,HT.out.2.2.2.2.1,HT.out.2.2.2.2.2.1,HT.out.2.2.2.2.2.2,HT.out.1⟩
      clear KB HV HT;go_wp2_with fail;go_meet;exact FN.out
    ·skip
     dsimp only [zRA];go_simp;obtain ⟨V128,hW⟩ : ∃ V,V116.alloc zbox = V := ⟨_,rfl⟩
     replace HB := hid HB.out.new;rw [hW] at HB ⊢;clear hW;refine hK.out _ _ (fun _ => KB.out _ HB.out.1) ?_;clear hK
     try simp only [Act.put]
     refine zMA (i := 5) (j := 12) (oi := zTA) (oj := zQA) (by kernel_rfl) rfl rfl (fun K hK => ?_) (fun K hK => ?_)
     ·skip
      dsimp only [zTA];go_simp;go_at_call 101;refine (zOC (ZP.out.now HB.out.1).zi (ZR.out.now HB.out.1).zi Hk1.out (by have := HkK.out;have := HK.out;omega)).mono ?_;rintro e w129 ⟨g,x,y,rg,rx,ry,hv,rfl,mg,mx,my,b⟩;obtain ⟨ng,xg,ag,cg,rfl⟩ := mg.parts;obtain ⟨nx,xx,ax,cx,rfl⟩ := mx.parts;obtain ⟨ny,xy,ay,cy,rfl⟩ := my.parts;have HZ : Hid (Z319 _ _ _ _ g x y k) := ⟨mg.mono (Nat.zero_le _),mx.mono (Nat.zero_le _),my.mono (Nat.zero_le _)⟩
      have HV := hid hv;replace HB := hid (HB.out.step b);clear mg mx my hv b;refine hK.out _ _ (fun _ => KB.out _ HB.out.1) ?_;clear hK;refine zEA [(6,(.tuple #[(.agg #[.bool ng,.slice ag xg.length cg]),(.agg #[.bool nx,.slice ax xx.length cx]),(.agg #[.bool ny,.slice ay xy.length cy])])),(7,(.agg #[.bool ng,.slice ag xg.length cg])),(8,(.agg #[.bool nx,.slice ax xx.length cx])),(9,(.agg #[.bool ny,.slice ay xy.length cy]))] 4 ?_ (KB.out _ HB.out.1) ?_
      ·simp only [zPA,gA9,g09,g19,Act.put,sI9,s09,s19]
       (repeat' (first | exact trivial | refine And.intro (Or.inl ⟨by rfl,?_⟩) ?_)) <;> (intro w hSw;(try dsimp only at hSw);go_simp)
      simp only [actV,gA9,g09,g19,Act.put,sI9,s09,s19];refine zAA (i := 12) (o := zQA) (by kernel_rfl) rfl (fun K hK => ?_);dsimp only [zQA];go_simp;obtain ⟨V130,hW⟩ : ∃ V,w129.alloc zbox = V := ⟨_,rfl⟩
      replace HB := hid HB.out.new;replace HZ := hid HZ.out.al;rw [hW] at HB HZ ⊢;clear hW;refine hK.out _ _ (fun _ => KB.out _ HB.out.1) ?_;clear hK
      try simp only [Act.put]
      refine zAA (i := 13) (o := zJA) (by kernel_rfl) rfl (fun K hK => ?_);dsimp only [zJA];have HT := hid (HB.out.s12.s23.s12.q3 HZ.out);clear HB HZ;obtain ⟨e0,e1,e2,e3⟩ := HT.out.2.2.2.1.1.four;go_simp;clear e0 e1 e2 e3;obtain ⟨V131,hW⟩ : ∃ V,(V130.setCell ⟨D81.heap.size,0,none⟩ (.bool ng)).setCell ⟨D81.heap.size,1,none⟩ (.slice ag xg.length cg) = V := ⟨_,rfl⟩
      replace HT := hid (HT.out.sp (.bool ng) (.slice ag xg.length cg));rw [hW] at HT ⊢;clear hW;refine hK.out _ _ (fun _ => KB.out _ HT.out.1) ?_;clear hK
      try simp only [Act.put]
      refine zAA (i := 14) (o := zIA) (by kernel_rfl) rfl (fun K hK => ?_);dsimp only [zIA];obtain ⟨e0,e1,e2,e3⟩ := HT.out.2.2.2.1.2.1.four;go_simp;clear e0 e1 e2 e3;obtain ⟨V132,hW⟩ : ∃ V,(V131.setCell ⟨V116.heap.size,0,none⟩ (.bool nx)).setCell ⟨V116.heap.size,1,none⟩ (.slice ax xx.length cx) = V := ⟨_,rfl⟩
      replace HT := hid (HT.out.sq (.bool nx) (.slice ax xx.length cx));rw [hW] at HT ⊢;clear hW;refine hK.out _ _ (fun _ => KB.out _ HT.out.1) ?_;clear hK
      try simp only [Act.put]
      refine zAA (i := 15) (o := zHA) (by kernel_rfl) rfl (fun K hK => ?_);dsimp only [zHA];obtain ⟨e0,e1,e2,e3⟩ := HT.out.2.2.2.1.2.2.four;go_simp;clear e0 e1 e2 e3;obtain ⟨V133,hW⟩ : ∃ V,(V132.setCell ⟨w129.heap.size,0,none⟩ (.bool ny)).setCell ⟨w129.heap.size,1,none⟩ (.slice ay xy.length cy) = V := ⟨_,rfl⟩
      replace HT := hid (HT.out.st (.bool ny) (.slice ay xy.length cy));rw [hW] at HT ⊢;clear hW;refine hK.out _ _ (fun h => absurd h (by decide)) ?_;clear hK
      try simp only [Act.put]
      refine zCA (by kernel_rfl) ?_ _;have FN : Hid (∃ g x y,ExtV (L c c) (R c) g x y ∧ zLB W1 V133 (.pointer (some ⟨D81.heap.size,0,none⟩)) (.pointer (some ⟨V116.heap.size,0,none⟩)) (.pointer (some ⟨w129.heap.size,0,none⟩)) g x y k) := ⟨g,x,y,HV.out,_,_,_,ng,nx,ny,xg,xx,xy,ag,ax,ay,cg,cx,cy,rfl,rfl,rfl,HT.out.2.2.2.1.1,HT.out.2.2.2.1.2.1,HT.out.2.2.2.1.2.2,HT.out.2.2.2.2.1,HT.out.2.2.2.2.2.1,HT.out.2.2.2.2.2.2,HT.out.1⟩
      clear KB HV HT;go_wp2_with fail;go_meet;exact FN.out
     ·skip
      dsimp only [zQA];go_simp;obtain ⟨V134,hW⟩ : ∃ V,V128.alloc zbox = V := ⟨_,rfl⟩
      replace HB := hid HB.out.new;rw [hW] at HB ⊢;clear hW;refine hK.out _ _ (fun _ => KB.out _ HB.out.1) ?_;clear hK
      try simp only [Act.put]
      refine zAA (i := 5) (o := zTA) (by kernel_rfl) rfl (fun K hK => ?_);dsimp only [zTA];go_simp;go_at_call 101;refine (zOC (ZP.out.now HB.out.1).zi (ZR.out.now HB.out.1).zi Hk1.out (by have := HkK.out;have := HK.out;omega)).mono ?_;rintro e w135 ⟨g,x,y,rg,rx,ry,hv,rfl,mg,mx,my,b⟩;obtain ⟨ng,xg,ag,cg,rfl⟩ := mg.parts;obtain ⟨nx,xx,ax,cx,rfl⟩ := mx.parts;obtain ⟨ny,xy,ay,cy,rfl⟩ := my.parts;have HZ : Hid (Z319 _ _ _ _ g x y k) := ⟨mg.mono (Nat.zero_le _),mx.mono (Nat.zero_le _),my.mono (Nat.zero_le _)⟩
      have HV := hid hv;replace HB := hid (HB.out.step b);clear mg mx my hv b;refine hK.out _ _ (fun _ => KB.out _ HB.out.1) ?_;clear hK;refine zEA [(6,(.tuple #[(.agg #[.bool ng,.slice ag xg.length cg]),(.agg #[.bool nx,.slice ax xx.length cx]),(.agg #[.bool ny,.slice ay xy.length cy])])),(7,(.agg #[.bool ng,.slice ag xg.length cg])),(8,(.agg #[.bool nx,.slice ax xx.length cx])),(9,(.agg #[.bool ny,.slice ay xy.length cy]))] 4 ?_ (KB.out _ HB.out.1) ?_
      ·simp only [zPA,gA9,g09,g19,Act.put,sI9,s09,s19]
       (repeat' (first | exact trivial | refine And.intro (Or.inl ⟨by rfl,?_⟩) ?_)) <;> (intro w hSw;(try dsimp only at hSw);go_simp)
      simp only [actV,gA9,g09,g19,Act.put,sI9,s09,s19];refine zAA (i := 13) (o := zJA) (by kernel_rfl) rfl (fun K hK => ?_);dsimp only [zJA];have HT := hid (HB.out.s12.s23.s12.q3 HZ.out);clear HB HZ;obtain ⟨e0,e1,e2,e3⟩ := HT.out.2.2.2.1.1.four;go_simp;clear e0 e1 e2 e3;obtain ⟨V136,hW⟩ : ∃ V,(w135.setCell ⟨D81.heap.size,0,none⟩ (.bool ng)).setCell ⟨D81.heap.size,1,none⟩ (.slice ag xg.length cg) = V := ⟨_,rfl⟩
      replace HT := hid (HT.out.sp (.bool ng) (.slice ag xg.length cg));rw [hW] at HT ⊢;clear hW;refine hK.out _ _ (fun _ => KB.out _ HT.out.1) ?_;clear hK
      try simp only [Act.put]
      refine zAA (i := 14) (o := zIA) (by kernel_rfl) rfl (fun K hK => ?_);dsimp only [zIA];obtain ⟨e0,e1,e2,e3⟩ := HT.out.2.2.2.1.2.1.four;go_simp;clear e0 e1 e2 e3;obtain ⟨V137,hW⟩ : ∃ V,(V136.setCell ⟨V116.heap.size,0,none⟩ (.bool nx)).setCell ⟨V116.heap.size,1,none⟩ (.slice ax xx.length cx) = V := ⟨_,rfl⟩
      replace HT := hid (HT.out.sq (.bool nx) (.slice ax xx.length cx));rw [hW] at HT ⊢;clear hW;refine hK.out _ _ (fun _ => KB.out _ HT.out.1) ?_;clear hK
      try simp only [Act.put]
      refine zAA (i := 15) (o := zHA) (by kernel_rfl) rfl (fun K hK => ?_);dsimp only [zHA];obtain ⟨e0,e1,e2,e3⟩ := HT.out.2.2.2.1.2.2.four;go_simp;clear e0 e1 e2 e3;obtain ⟨V138,hW⟩ : ∃ V,(V137.setCell ⟨V128.heap.size,0,none⟩ (.bool ny)).setCell ⟨V128.heap.size,1,none⟩ (.slice ay xy.length cy) = V := ⟨_,rfl⟩
      replace HT := hid (HT.out.st (.bool ny) (.slice ay xy.length cy));rw [hW] at HT ⊢;clear hW;refine hK.out _ _ (fun h => absurd h (by decide)) ?_;clear hK
      try simp only [Act.put]
      refine zCA (by kernel_rfl) ?_ _;have FN : Hid (∃ g x y,ExtV (L c c) (R c) g x y ∧ zLB W1 V138 (.pointer (some ⟨D81.heap.size,0,none⟩)) (.pointer (some ⟨V116.heap.size,0,none⟩)) (.pointer (some ⟨V128.heap.size,0,none⟩)) g x y k) := ⟨g,x,y,HV.out,_,_,_,ng,nx,ny,xg,xx,xy,ag,ax,ay,cg,cx,cy,rfl,rfl,rfl,HT.out.2.2.2.1.1,HT.out.2.2.2.1.2.1,HT.out.2.2.2.1.2.2,HT.out.2.2.2.2.1,HT.out.2.2.2.2.2.1,HT.out.2.2.2.2.2.2,HT.out.1⟩
      clear KB HV HT;go_wp2_with fail;go_meet;exact FN.out
    ·skip
     dsimp only [zQA];go_simp;obtain ⟨V139,hW⟩ : ∃ V,V116.alloc zbox = V := ⟨_,rfl⟩
     replace HB := hid HB.out.new;rw [hW] at HB ⊢;clear hW;refine hK.out _ _ (fun _ => KB.out _ HB.out.1) ?_;clear hK
     try simp only [Act.put]
     refine zMA (i := 5) (j := 11) (oi := zTA) (oj := zRA) (by kernel_rfl) rfl rfl (fun K hK => ?_) (fun K hK => ?_)
     ·skip
      dsimp only [zTA];go_simp;go_at_call 101;refine (zOC (ZP.out.now HB.out.1).zi (ZR.out.now HB.out.1).zi Hk1.out (by have := HkK.out;have := HK.out;omega)).mono ?_;rintro e w140 ⟨g,x,y,rg,rx,ry,hv,rfl,mg,mx,my,b⟩;obtain ⟨ng,xg,ag,cg,rfl⟩ := mg.parts;obtain ⟨nx,xx,ax,cx,rfl⟩ := mx.parts;obtain ⟨ny,xy,ay,cy,rfl⟩ := my.parts;have HZ : Hid (Z319 _ _ _ _ g x y k) := ⟨mg.mono (Nat.zero_le _),mx.mono (Nat.zero_le _),my.mono (Nat.zero_le _)⟩
      have HV := hid hv;replace HB := hid (HB.out.step b);clear mg mx my hv b;refine hK.out _ _ (fun _ => KB.out _ HB.out.1) ?_;clear hK;refine zEA [(6,(.tuple #[(.agg #[.bool ng,.slice ag xg.length cg]),(.agg #[.bool nx,.slice ax xx.length cx]),(.agg #[.bool ny,.slice ay xy.length cy])])),(7,(.agg #[.bool ng,.slice ag xg.length cg])),(8,(.agg #[.bool nx,.slice ax xx.length cx])),(9,(.agg #[.bool ny,.slice ay xy.length cy]))] 4 ?_ (KB.out _ HB.out.1) ?_
      ·simp only [zPA,gA9,g09,g19,Act.put,sI9,s09,s19]
       (repeat' (first | exact trivial | refine And.intro (Or.inl ⟨by rfl,?_⟩) ?_)) <;> (intro w hSw;(try dsimp only at hSw);go_simp)
      simp only [actV,gA9,g09,g19,Act.put,sI9,s09,s19];refine zAA (i := 11) (o := zRA) (by kernel_rfl) rfl (fun K hK => ?_);dsimp only [zRA];go_simp;obtain ⟨V141,hW⟩ : ∃ V,w140.alloc zbox = V := ⟨_,rfl⟩
      replace HB := hid HB.out.new;replace HZ := hid HZ.out.al;rw [hW] at HB HZ ⊢;clear hW;refine hK.out _ _ (fun _ => KB.out _ HB.out.1) ?_;clear hK
      try simp only [Act.put]
      refine zAA (i := 13) (o := zJA) (by kernel_rfl) rfl (fun K hK => ?_);dsimp only [zJA];have HT := hid (HB.out.s23.s12.q3 HZ.out);clear HB HZ;obtain ⟨e0,e1,e2,e3⟩ := HT.out.2.2.2.1.1.four;go_simp;clear e0 e1 e2 e3;obtain ⟨V142,hW⟩ : ∃ V,(V141.setCell ⟨D81.heap.size,0,none⟩ (.bool ng)).setCell ⟨D81.heap.size,1,none⟩ (.slice ag xg.length cg) = V := ⟨_,rfl⟩
      replace HT := hid (HT.out.sp (.bool ng) (.slice ag xg.length cg));rw [hW] at HT ⊢;clear hW;refine hK.out _ _ (fun _ => KB.out _ HT.out.1) ?_;clear hK
      try simp only [Act.put]
      refine zAA (i := 14) (o := zIA) (by kernel_rfl) rfl (fun K hK => ?_);dsimp only [zIA];obtain ⟨e0,e1,e2,e3⟩ := HT.out.2.2.2.1.2.1.four;go_simp;clear e0 e1 e2 e3;obtain ⟨V143,hW⟩ : ∃ V,(V142.setCell ⟨w140.heap.size,0,none⟩ (.bool nx)).setCell ⟨w140.heap.size,1,none⟩ (.slice ax xx.length cx) = V := ⟨_,rfl⟩
      replace HT := hid (HT.out.sq (.bool nx) (.slice ax xx.length cx));rw [hW] at HT ⊢;clear hW;refine hK.out _ _ (fun _ => KB.out _ HT.out.1) ?_;clear hK
      try simp only [Act.put]
      refine zAA (i := 15) (o := zHA) (by kernel_rfl) rfl (fun K hK => ?_);dsimp only [zHA];obtain ⟨e0,e1,e2,e3⟩ := HT.out.2.2.2.1.2.2.four;go_simp;clear e0 e1 e2 e3;obtain ⟨V144,hW⟩ : ∃ V,(V143.setCell ⟨V116.heap.size,0,none⟩ (.bool ny)).setCell ⟨V116.heap.size,1,none⟩ (.slice ay xy.length cy) = V := ⟨_,rfl⟩
      replace HT := hid (HT.out.st (.bool ny) (.slice ay xy.length cy));rw [hW] at HT ⊢;clear hW;refine hK.out _ _ (fun h => absurd h (by decide)) ?_;clear hK
      try simp only [Act.put]
      refine zCA (by kernel_rfl) ?_ _;have FN : Hid (∃ g x y,ExtV (L c c) (R c) g x y ∧ zLB W1 V144 (.pointer (some ⟨D81.heap.size,0,none⟩)) (.pointer (some ⟨w140.heap.size,0,none⟩)) (.pointer (some ⟨V116.heap.size,0,none⟩)) g x y k) := ⟨g,x,y,HV.out,_,_,_,ng,nx,ny,xg,xx,xy,ag,ax,ay,cg,cx,cy,rfl,rfl,rfl,HT.out.2.2.2.1.1,HT.out.2.2.2.1.2.1,HT.out.2.2.2.1.2.2,HT.out.2.2.2.2.1,HT.out.2.2.2.2.2.1,HT.out.2.2.2.2.2.2,HT.out.1⟩
      clear KB HV HT;go_wp2_with fail;go_meet;exact FN.out
     ·skip
      dsimp only [zRA];go_simp;obtain ⟨V145,hW⟩ : ∃ V,V139.alloc zbox = V := ⟨_,rfl⟩
      replace HB := hid HB.out.new;rw [hW] at HB ⊢;clear hW;refine hK.out _ _ (fun _ => KB.out _ HB.out.1) ?_;clear hK
      try simp only [Act.put]
      refine zAA (i := 5) (o := zTA) (by kernel_rfl) rfl (fun K hK => ?_);dsimp only [zTA];go_simp;go_at_call 101;refine (zOC (ZP.out.now HB.out.1).zi (ZR.out.now HB.out.1).zi Hk1.out (by have := HkK.out;have := HK.out;omega)).mono ?_;rintro e w146 ⟨g,x,y,rg,rx,ry,hv,rfl,mg,mx,my,b⟩;obtain ⟨ng,xg,ag,cg,rfl⟩ := mg.parts;obtain ⟨nx,xx,ax,cx,rfl⟩ := mx.parts;obtain ⟨ny,xy,ay,cy,rfl⟩ := my.parts;have HZ : Hid (Z319 _ _ _ _ g x y k) := ⟨mg.mono (Nat.zero_le _),mx.mono (Nat.zero_le _),my.mono (Nat.zero_le _)⟩
      have HV := hid hv;replace HB := hid (HB.out.step b);clear mg mx my hv b;refine hK.out _ _ (fun _ => KB.out _ HB.out.1) ?_;clear hK;refine zEA [(6,(.tuple #[(.agg #[.bool ng,.slice ag xg.length cg]),(.agg #[.bool nx,.slice ax xx.length cx]),(.agg #[.bool ny,.slice ay xy.length cy])])),(7,(.agg #[.bool ng,.slice ag xg.length cg])),(8,(.agg #[.bool nx,.slice ax xx.length cx])),(9,(.agg #[.bool ny,.slice ay xy.length cy]))] 4 ?_ (KB.out _ HB.out.1) ?_
      ·simp only [zPA,gA9,g09,g19,Act.put,sI9,s09,s19]
       (repeat' (first | exact trivial | refine And.intro (Or.inl ⟨by rfl,?_⟩) ?_)) <;> (intro w hSw;(try dsimp only at hSw);go_simp)
      simp only [actV,gA9,g09,g19,Act.put,sI9,s09,s19];refine zAA (i := 13) (o := zJA) (by kernel_rfl) rfl (fun K hK => ?_);dsimp only [zJA];have HT := hid (HB.out.s23.s12.q3 HZ.out);clear HB HZ;obtain ⟨e0,e1,e2,e3⟩ := HT.out.2.2.2.1.1.four;go_simp;clear e0 e1 e2 e3;obtain ⟨V147,hW⟩ : ∃ V,(w146.setCell ⟨D81.heap.size,0,none⟩ (.bool ng)).setCell ⟨D81.heap.size,1,none⟩ (.slice ag xg.length cg) = V := ⟨_,rfl⟩
      replace HT := hid (HT.out.sp (.bool ng) (.slice ag xg.length cg));rw [hW] at HT ⊢;clear hW;refine hK.out _ _ (fun _ => KB.out _ HT.out.1) ?_;clear hK
      try simp only [Act.put]
      refine zAA (i := 14) (o := zIA) (by kernel_rfl) rfl (fun K hK => ?_);dsimp only [zIA];obtain ⟨e0,e1,e2,e3⟩ := HT.out.2.2.2.1.2.1.four;go_simp;clear e0 e1 e2 e3;obtain ⟨V148,hW⟩ : ∃ V,(V147.setCell ⟨V139.heap.size,0,none⟩ (.bool nx)).setCell ⟨V139.heap.size,1,none⟩ (.slice ax xx.length cx) = V := ⟨_,rfl⟩
      replace HT := hid (HT.out.sq (.bool nx) (.slice ax xx.length cx));rw [hW] at HT ⊢;clear hW;refine hK.out _ _ (fun _ => KB.out _ HT.out.1) ?_;clear hK
      try simp only [Act.put]
      refine zAA (i := 15) (o := zHA) (by kernel_rfl) rfl (fun K hK => ?_);dsimp only [zHA];obtain ⟨e0,e1,e2,e3⟩ := HT.out.2.2.2.1.2.2.four;go_simp;clear e0 e1 e2 e3;obtain ⟨V149,hW⟩ : ∃ V,(V148.setCell ⟨V116.heap.size,0,none⟩ (.bool ny)).setCell ⟨V116.heap.size,1,none⟩ (.slice ay xy.length cy) = V := ⟨_,rfl⟩
      replace HT := hid (HT.out.st (.bool ny) (.slice ay xy.length cy));rw [hW] at HT ⊢;clear hW;refine hK.out _ _ (fun h => absurd h (by decide)) ?_;clear hK
      try simp only [Act.put]
      refine zCA (by kernel_rfl) ?_ _;have FN : Hid (∃ g x y,ExtV (L c c) (R c) g x y ∧ zLB W1 V149 (.pointer (some ⟨D81.heap.size,0,none⟩)) (.pointer (some ⟨V139.heap.size,0,none⟩)) (.pointer (some ⟨V116.heap.size,0,none⟩)) g x y k) := ⟨g,x,y,HV.out,_,_,_,ng,nx,ny,xg,xx,xy,ag,ax,ay,cg,cx,cy,rfl,rfl,rfl,HT.out.2.2.2.1.1,HT.out.2.2.2.1.2.1,HT.out.2.2.2.1.2.2,HT.out.2.2.2.2.1,HT.out.2.2.2.2.2.1,HT.out.2.2.2.2.2.2,HT.out.1⟩
      clear KB HV HT;go_wp2_with fail;go_meet;exact FN.out
   ·skip
    dsimp only [zRA];go_simp;obtain ⟨V150,hW⟩ : ∃ V,D81.alloc zbox = V := ⟨_,rfl⟩
    replace HB := hid HB.out.new;rw [hW] at HB ⊢;clear hW;refine hK.out _ _ (fun _ => KB.out _ HB.out.1) ?_;clear hK
    try simp only [Act.put]
    refine zvA (i := 5) (j := 10) (l := 12) (oi := zTA) (oj := zSA) (ol := zQA) (by kernel_rfl) rfl rfl rfl (fun K hK => ?_) (fun K hK => ?_) (fun K hK => ?_)
    ·skip
     dsimp only [zTA];go_simp;go_at_call 101;refine (zOC (ZP.out.now HB.out.1).zi (ZR.out.now HB.out.1).zi Hk1.out (by have := HkK.out;have := HK.out;omega)).mono ?_;rintro e w151 ⟨g,x,y,rg,rx,ry,hv,rfl,mg,mx,my,b⟩;obtain ⟨ng,xg,ag,cg,rfl⟩ := mg.parts;obtain ⟨nx,xx,ax,cx,rfl⟩ := mx.parts;obtain ⟨ny,xy,ay,cy,rfl⟩ := my.parts;have HZ : Hid (Z319 _ _ _ _ g x y k) := ⟨mg.mono (Nat.zero_le _),mx.mono (Nat.zero_le _),my.mono (Nat.zero_le _)⟩
     have HV := hid hv;replace HB := hid (HB.out.step b);clear mg mx my hv b;refine hK.out _ _ (fun _ => KB.out _ HB.out.1) ?_;clear hK;refine zEA [(6,(.tuple #[(.agg #[.bool ng,.slice ag xg.length cg]),(.agg #[.bool nx,.slice ax xx.length cx]),(.agg #[.bool ny,.slice ay xy.length cy])])),(7,(.agg #[.bool ng,.slice ag xg.length cg])),(8,(.agg #[.bool nx,.slice ax xx.length cx])),(9,(.agg #[.bool ny,.slice ay xy.length cy]))] 4 ?_ (KB.out _ HB.out.1) ?_
     ·simp only [zPA,gA9,g09,g19,Act.put,sI9,s09,s19]
      (repeat' (first | exact trivial | refine And.intro (Or.inl ⟨by rfl,?_⟩) ?_)) <;> (intro w hSw;(try dsimp only at hSw);go_simp)
     simp only [actV,gA9,g09,g19,Act.put,sI9,s09,s19];refine zMA (i := 10) (j := 12) (oi := zSA) (oj := zQA) (by kernel_rfl) rfl rfl (fun K hK => ?_) (fun K hK => ?_)
     ·skip
      dsimp only [zSA];go_simp;obtain ⟨V152,hW⟩ : ∃ V,w151.alloc zbox = V := ⟨_,rfl⟩
      replace HB := hid HB.out.new;replace HZ := hid HZ.out.al;rw [hW] at HB HZ ⊢;clear hW;refine hK.out _ _ (fun _ => KB.out _ HB.out.1) ?_;clear hK
      try simp only [Act.put]
      refine zAA (i := 12) (o := zQA) (by kernel_rfl) rfl (fun K hK => ?_);dsimp only [zQA];go_simp;obtain ⟨V153,hW⟩ : ∃ V,V152.alloc zbox = V := ⟨_,rfl⟩
      replace HB := hid HB.out.new;replace HZ := hid HZ.out.al;rw [hW] at HB HZ ⊢;clear hW;refine hK.out _ _ (fun _ => KB.out _ HB.out.1) ?_;clear hK
      try simp only [Act.put]
      refine zAA (i := 13) (o := zJA) (by kernel_rfl) rfl (fun K hK => ?_);dsimp only [zJA];have HT := hid (HB.out.s12.s23.q3 HZ.out);clear HB HZ;obtain ⟨e0,e1,e2,e3⟩ := HT.out.2.2.2.1.1.four;go_simp;clear e0 e1 e2 e3;obtain ⟨V154,hW⟩ : ∃ V,(V153.setCell ⟨w151.heap.size,0,none⟩ (.bool ng)).setCell ⟨w151.heap.size,1,none⟩ (.slice ag xg.length cg) = V := ⟨_,rfl⟩
      replace HT := hid (HT.out.sp (.bool ng) (.slice ag xg.length cg));rw [hW] at HT ⊢;clear hW;refine hK.out _ _ (fun _ => KB.out _ HT.out.1) ?_;clear hK
      try simp only [Act.put]
      refine zAA (i := 14) (o := zIA) (by kernel_rfl) rfl (fun K hK => ?_);dsimp only [zIA];obtain ⟨e0,e1,e2,e3⟩ := HT.out.2.2.2.1.2.1.four;go_simp;clear e0 e1 e2 e3;obtain ⟨V155,hW⟩ : ∃ V,(V154.setCell ⟨D81.heap.size,0,none⟩ (.bool nx)).setCell ⟨D81.heap.size,1,none⟩ (.slice ax xx.length cx) = V := ⟨_,rfl⟩
      replace HT := hid (HT.out.sq (.bool nx) (.slice ax xx.length cx));rw [hW] at HT ⊢;clear hW;refine hK.out _ _ (fun _ => KB.out _ HT.out.1) ?_;clear hK
      try simp only [Act.put]
      refine zAA (i := 15) (o := zHA) (by kernel_rfl) rfl (fun K hK => ?_);dsimp only [zHA];obtain ⟨e0,e1,e2,e3⟩ := HT.out.2.2.2.1.2.2.four;go_simp;clear e0 e1 e2 e3;obtain ⟨V156,hW⟩ : ∃ V,(V155.setCell ⟨V152.heap.size,0,none⟩ (.bool ny)).setCell ⟨V152.heap.size,1,none⟩ (.slice ay xy.length cy) = V := ⟨_,rfl⟩
      replace HT := hid (HT.out.st (.bool ny) (.slice ay xy.length cy));rw [hW] at HT ⊢;clear hW;refine hK.out _ _ (fun h => absurd h (by decide)) ?_;clear hK
      try simp only [Act.put]
      refine zCA (by kernel_rfl) ?_ _;have FN : Hid (∃ g x y,ExtV (L c c) (R c) g x y ∧ zLB W1 V156 (.pointer (some ⟨w151.heap.size,0,none⟩)) (.pointer (some ⟨D81.heap.size,0,none⟩)) (.pointer (some ⟨V152.heap.size,0,none⟩)) g x y k) := ⟨g,x,y,HV.out,_,_,_,ng,nx,ny,xg,xx,xy,ag,ax,ay,cg,cx,cy,rfl,rfl,rfl,HT.out.2.2.2.1.1,HT.out.2.2.2.1.2.1,HT.out.2.2.2.1.2.2,HT.out.2.2.2.2.1,HT.out.2.2.2.2.2.1,HT.out.2.2.2.2.2.2,HT.out.1⟩
      clear KB HV HT;go_wp2_with fail;go_meet;exact FN.out
     ·skip
      dsimp only [zQA];go_simp;obtain ⟨V157,hW⟩ : ∃ V,w151.alloc zbox = V := ⟨_,rfl⟩
      replace HB := hid HB.out.new;replace HZ := hid HZ.out.al;rw [hW] at HB HZ ⊢;clear hW;refine hK.out _ _ (fun _ => KB.out _ HB.out.1) ?_;clear hK
      try simp only [Act.put]
      refine zAA (i := 10) (o := zSA) (by kernel_rfl) rfl (fun K hK => ?_);dsimp only [zSA];go_simp;obtain ⟨V158,hW⟩ : ∃ V,V157.alloc zbox = V := ⟨_,rfl⟩
      replace HB := hid HB.out.new;replace HZ := hid HZ.out.al;rw [hW] at HB HZ ⊢;clear hW;refine hK.out _ _ (fun _ => KB.out _ HB.out.1) ?_;clear hK
      try simp only [Act.put]
      refine zAA (i := 13) (o := zJA) (by kernel_rfl) rfl (fun K hK => ?_);dsimp only [zJA];have HT := hid (HB.out.s23.q3 HZ.out);clear HB HZ;obtain ⟨e0,e1,e2,e3⟩ := HT.out.2.2.2.1.1.four;go_simp;clear e0 e1 e2 e3;obtain ⟨V159,hW⟩ : ∃ V,(V158.setCell ⟨V157.heap.size,0,none⟩ (.bool ng)).setCell ⟨V157.heap.size,1,none⟩ (.slice ag xg.length cg) = V := ⟨_,rfl⟩
      replace HT := hid (HT.out.sp (.bool ng) (.slice ag xg.length cg));rw [hW] at HT ⊢;clear hW;refine hK.out _ _ (fun _ => KB.out _ HT.out.1) ?_;clear hK
      try simp only [Act.put]
      refine zAA (i := 14) (o := zIA) (by kernel_rfl) rfl (fun K hK => ?_);dsimp only [zIA];obtain ⟨e0,e1,e2,e3⟩ := HT.out.2.2.2.1.2.1.four;go_simp;clear e0 e1 e2 e3;obtain ⟨V160,hW⟩ : ∃ V,(V159.setCell ⟨D81.heap.size,0,none⟩ (.bool nx)).setCell ⟨D81.heap.size,1,none⟩ (.slice ax xx.length cx) = V := ⟨_,rfl⟩
      replace HT := hid (HT.out.sq (.bool nx) (.slice ax xx.length cx));rw [hW] at HT ⊢;clear hW;refine hK.out _ _ (fun _ => KB.out _ HT.out.1) ?_;clear hK
      try simp only [Act.put]
      refine zAA (i := 15) (o := zHA) (by kernel_rfl) rfl (fun K hK => ?_);dsimp only [zHA];obtain ⟨e0,e1,e2,e3⟩ := HT.out.2.2.2.1.2.2.four;go_simp;clear e0 e1 e2 e3;obtain ⟨V161,hW⟩ : ∃ V,(V160.setCell ⟨w151.heap.size,0,none⟩ (.bool ny)).setCell ⟨w151.heap.size,1,none⟩ (.slice ay xy.length cy) = V := ⟨_,rfl⟩
      replace HT := hid (HT.out.st (.bool ny) (.slice ay xy.length cy));rw [hW] at HT ⊢;clear hW;refine hK.out _ _ (fun h => absurd h (by decide)) ?_;clear hK
      try simp only [Act.put]
      refine zCA (by kernel_rfl) ?_ _;have FN : Hid (∃ g x y,ExtV (L c c) (R c) g x y ∧ zLB W1 V161 (.pointer (some ⟨V157.heap.size,0,none⟩)) (.pointer (some ⟨D81.heap.size,0,none⟩)) (.pointer (some ⟨w151.heap.size,0,none⟩)) g x y k) := ⟨g,x,y,HV.out,_,_,_,ng,nx,ny,xg,xx,xy,ag,ax,ay,cg,cx,cy,rfl,rfl,rfl,HT.out.2.2.2.1.1,HT.out.2.2.2.1.2.1,HT.out.2.2.2.1.2.2,HT.out.2.2.2.2.1,HT.out.2.2.2.2.2.1,HT.out.2.2.2.2.2.2,HT.out.1⟩
      clear KB HV HT;go_wp2_with fail;go_meet;exact FN.out
    ·skip
     dsimp only [zSA];go_simp;obtain ⟨V162,hW⟩ : ∃ V,V150.alloc zbox = V := ⟨_,rfl⟩
     replace HB := hid HB.out.new;rw [hW] at HB ⊢;clear hW;refine hK.out _ _ (fun _ => KB.out _ HB.out.1) ?_;clear hK
     try simp only [Act.put]
     refine zMA (i := 5) (j := 12) (oi := zTA) (oj := zQA) (by kernel_rfl) rfl rfl (fun K hK => ?_) (fun K hK => ?_)
     ·skip
      dsimp only [zTA];go_simp;go_at_call 101;refine (zOC (ZP.out.now HB.out.1).zi (ZR.out.now HB.out.1).zi Hk1.out (by have := HkK.out;have := HK.out;omega)).mono ?_;rintro e w163 ⟨g,x,y,rg,rx,ry,hv,rfl,mg,mx,my,b⟩;obtain ⟨ng,xg,ag,cg,rfl⟩ := mg.parts;obtain ⟨nx,xx,ax,cx,rfl⟩ := mx.parts;obtain ⟨ny,xy,ay,cy,rfl⟩ := my.parts;have HZ : Hid (Z319 _ _ _ _ g x y k) := ⟨mg.mono (Nat.zero_le _),mx.mono (Nat.zero_le _),my.mono (Nat.zero_le _)⟩
      have HV := hid hv;replace HB := hid (HB.out.step b);clear mg mx my hv b;refine hK.out _ _ (fun _ => KB.out _ HB.out.1) ?_;clear hK;refine zEA [(6,(.tuple #[(.agg #[.bool ng,.slice ag xg.length cg]),(.agg #[.bool nx,.slice ax xx.length cx]),(.agg #[.bool ny,.slice ay xy.length cy])])),(7,(.agg #[.bool ng,.slice ag xg.length cg])),(8,(.agg #[.bool nx,.slice ax xx.length cx])),(9,(.agg #[.bool ny,.slice ay xy.length cy]))] 4 ?_ (KB.out _ HB.out.1) ?_
      ·simp only [zPA,gA9,g09,g19,Act.put,sI9,s09,s19]
       (repeat' (first | exact trivial | refine And.intro (Or.inl ⟨by rfl,?_⟩) ?_)) <;> (intro w hSw;(try dsimp only at hSw);go_simp)
      simp only [actV,gA9,g09,g19,Act.put,sI9,s09,s19];refine zAA (i := 12) (o := zQA) (by kernel_rfl) rfl (fun K hK => ?_);dsimp only [zQA];go_simp;obtain ⟨V164,hW⟩ : ∃ V,w163.alloc zbox = V := ⟨_,rfl⟩
      replace HB := hid HB.out.new;replace HZ := hid HZ.out.al;rw [hW] at HB HZ ⊢;clear hW;refine hK.out _ _ (fun _ => KB.out _ HB.out.1) ?_;clear hK
      try simp only [Act.put]
      refine zAA (i := 13) (o := zJA) (by kernel_rfl) rfl (fun K hK => ?_);dsimp only [zJA];have HT := hid (HB.out.s12.s23.q3 HZ.out);clear HB HZ;obtain ⟨e0,e1,e2,e3⟩ := HT.out.2.2.2.1.1.four;go_simp;clear e0 e1 e2 e3;obtain ⟨V165,hW⟩ : ∃ V,(V164.setCell ⟨V150.heap.size,0,none⟩ (.bool ng)).setCell ⟨V150.heap.size,1,none⟩ (.slice ag xg.length cg) = V := ⟨_,rfl⟩
      replace HT := hid (HT.out.sp (.bool ng) (.slice ag xg.length cg));rw [hW] at HT ⊢;clear hW;refine hK.out _ _ (fun _ => KB.out _ HT.out.1) ?_;clear hK
      try simp only [Act.put]
      refine zAA (i := 14) (o := zIA) (by kernel_rfl) rfl (fun K hK => ?_);dsimp only [zIA];obtain ⟨e0,e1,e2,e3⟩ := HT.out.2.2.2.1.2.1.four;go_simp;clear e0 e1 e2 e3;obtain ⟨V166,hW⟩ : ∃ V,(V165.setCell ⟨D81.heap.size,0,none⟩ (.bool nx)).setCell ⟨D81.heap.size,1,none⟩ (.slice ax xx.length cx) = V := ⟨_,rfl⟩
      replace HT := hid (HT.out.sq (.bool nx) (.slice ax xx.length cx));rw [hW] at HT ⊢;clear hW;refine hK.out _ _ (fun _ => KB.out _ HT.out.1) ?_;clear hK
      try simp only [Act.put]
      refine zAA (i := 15) (o := zHA) (by kernel_rfl) rfl (fun K hK => ?_);dsimp only [zHA];obtain ⟨e0,e1,e2,e3⟩ := HT.out.2.2.2.1.2.2.four;go_simp;clear e0 e1 e2 e3;obtain ⟨V167,hW⟩ : ∃ V,(V166.setCell ⟨w163.heap.size,0,none⟩ (.bool ny)).setCell ⟨w163.heap.size,1,none⟩ (.slice ay xy.length cy) = V := ⟨_,rfl⟩
      replace HT := hid (HT.out.st (.bool ny) (.slice ay xy.length cy));rw [hW] at HT ⊢;clear hW;refine hK.out _ _ (fun h => absurd h (by decide)) ?_;clear hK
      try simp only [Act.put]
      refine zCA (by kernel_rfl) ?_ _;have FN : Hid (∃ g x y,ExtV (L c c) (R c) g x y ∧ zLB W1 V167 (.pointer (some ⟨V150.heap.size,0,none⟩)) (.pointer (some ⟨D81.heap.size,0,none⟩)) (.pointer (some ⟨w163.heap.size,0,none⟩)) g x y k) := ⟨g,x,y,HV.out,_,_,_,ng,nx,ny,xg,xx,xy,ag,ax,ay,cg,cx,cy,rfl,rfl,rfl,HT.out.2.2.2.1.1,HT.out.2.2.2.1.2.1,HT.out.2.2.2.1.2.2,HT.out.2.2.2.2.1,HT.out.2.2.2.2.2.1,HT.out.2.2.2.2.2.2,HT.out.1⟩
      clear KB HV HT;go_wp2_with fail;go_meet;exact FN.out
     ·skip
      dsimp only [zQA];go_simp;obtain ⟨V168,hW⟩ : ∃ V,V162.alloc zbox = V := ⟨_,rfl⟩
      replace HB := hid HB.out.new;rw [hW] at HB ⊢;clear hW;refine hK.out _ _ (fun _ => KB.out _ HB.out.1) ?_;clear hK
      try simp only [Act.put]
      refine zAA (i := 5) (o := zTA) (by kernel_rfl) rfl (fun K hK => ?_);dsimp only [zTA];go_simp;go_at_call 101;refine (zOC (ZP.out.now HB.out.1).zi (ZR.out.now HB.out.1).zi Hk1.out (by have := HkK.out;have := HK.out;omega)).mono ?_;rintro e w169 ⟨g,x,y,rg,rx,ry,hv,rfl,mg,mx,my,b⟩;obtain ⟨ng,xg,ag,cg,rfl⟩ := mg.parts;obtain ⟨nx,xx,ax,cx,rfl⟩ := mx.parts;obtain ⟨ny,xy,ay,cy,rfl⟩ := my.parts;have HZ : Hid (Z319 _ _ _ _ g x y k) := ⟨mg.mono (Nat.zero_le _),mx.mono (Nat.zero_le _),my.mono (Nat.zero_le _)⟩
      have HV := hid hv;replace HB := hid (HB.out.step b);clear mg mx my hv b;refine hK.out _ _ (fun _ => KB.out _ HB.out.1) ?_;clear hK;refine zEA [(6,(.tuple #[(.agg #[.bool ng,.slice ag xg.length cg]),(.agg #[.bool nx,.slice ax xx.length cx]),(.agg #[.bool ny,.slice ay xy.length cy])])),(7,(.agg #[.bool ng,.slice ag xg.length cg])),(8,(.agg #[.bool nx,.slice ax xx.length cx])),(9,(.agg #[.bool ny,.slice ay xy.length cy]))] 4 ?_ (KB.out _ HB.out.1) ?_
      ·simp only [zPA,gA9,g09,g19,Act.put,sI9,s09,s19]
       (repeat' (first | exact trivial | refine And.intro (Or.inl ⟨by rfl,?_⟩) ?_)) <;> (intro w hSw;(try dsimp only at hSw);go_simp)
      simp only [actV,gA9,g09,g19,Act.put,sI9,s09,s19];refine zAA (i := 13) (o := zJA) (by kernel_rfl) rfl (fun K hK => ?_);dsimp only [zJA];have HT := hid (HB.out.s12.s23.q3 HZ.out);clear HB HZ;obtain ⟨e0,e1,e2,e3⟩ := HT.out.2.2.2.1.1.four;go_simp;clear e0 e1 e2 e3;obtain ⟨V170,hW⟩ : ∃ V,(w169.setCell ⟨V150.heap.size,0,none⟩ (.bool ng)).setCell ⟨V150.heap.size,1,none⟩ (.slice ag xg.length cg) = V := ⟨_,rfl⟩
      replace HT := hid (HT.out.sp (.bool ng) (.slice ag xg.length cg));rw [hW] at HT ⊢;clear hW;refine hK.out _ _ (fun _ => KB.out _ HT.out.1) ?_;clear hK
      try simp only [Act.put]
      refine zAA (i := 14) (o := zIA) (by kernel_rfl) rfl (fun K hK => ?_);dsimp only [zIA];obtain ⟨e0,e1,e2,e3⟩ := HT.out.2.2.2.1.2.1.four;go_simp;clear e0 e1 e2 e3;obtain ⟨V171,hW⟩ : ∃ V,(V170.setCell ⟨D81.heap.size,0,none⟩ (.bool nx)).setCell ⟨D81.heap.size,1,none⟩ (.slice ax xx.length cx) = V := ⟨_,rfl⟩
      replace HT := hid (HT.out.sq (.bool nx) (.slice ax xx.length cx));rw [hW] at HT ⊢;clear hW;refine hK.out _ _ (fun _ => KB.out _ HT.out.1) ?_;clear hK
      try simp only [Act.put]
      refine zAA (i := 15) (o := zHA) (by kernel_rfl) rfl (fun K hK => ?_);dsimp only [zHA];obtain ⟨e0,e1,e2,e3⟩ := HT.out.2.2.2.1.2.2.four;go_simp;clear e0 e1 e2 e3;obtain ⟨V172,hW⟩ : ∃ V,(V171.setCell ⟨V162.heap.size,0,none⟩ (.bool ny)).setCell ⟨V162.heap.size,1,none⟩ (.slice ay xy.length cy) = V := ⟨_,rfl⟩
      replace HT := hid (HT.out.st (.bool ny) (.slice ay xy.length cy));rw [hW] at HT ⊢;clear hW;refine hK.out _ _ (fun h => absurd h (by decide)) ?_;clear hK
      try simp only [Act.put]
      refine zCA (by kernel_rfl) ?_ _;have FN : Hid (∃ g x y,ExtV (L c c) (R c) g x y ∧ zLB W1 V172 (.pointer (some ⟨V150.heap.size,0,none⟩)) (.pointer (some ⟨D81.heap.size,0,none⟩)) (.pointer (some ⟨V162.heap.size,0,none⟩)) g x y k) := ⟨g,x,y,HV.out,_,_,_,ng,nx,ny,xg,xx,xy,ag,ax,ay,cg,cx,cy,rfl,rfl,rfl,HT.out.2.2.2.1.1,HT.out.2.2.2.1.2.1,HT.out.2.2.2.1.2.2,HT.out.2.2.2.2.1,HT.out.2.2.2.2.2.1,HT.out.2.2.2.2.2.2,HT.out.1⟩
      clear KB HV HT;go_wp2_with fail;go_meet;exact FN.out
    ·skip
     dsimp only [zQA];go_simp;obtain ⟨V173,hW⟩ : ∃ V,V150.alloc zbox = V := ⟨_,rfl⟩
     replace HB := hid HB.out.new;rw [hW] at HB ⊢;clear hW;refine hK.out _ _ (fun _ => KB.out _ HB.out.1) ?_;clear hK
     try simp only [Act.put]
     refine zMA (i := 5) (j := 10) (oi := zTA) (oj := zSA) (by kernel_rfl) rfl rfl (fun K hK => ?_) (fun K hK => ?_)
     ·skip
      dsimp only [zTA];go_simp;go_at_call 101;refine (zOC (ZP.out.now HB.out.1).zi (ZR.out.now HB.out.1).zi Hk1.out (by have := HkK.out;have := HK.out;omega)).mono ?_;rintro e w174 ⟨g,x,y,rg,rx,ry,hv,rfl,mg,mx,my,b⟩;obtain ⟨ng,xg,ag,cg,rfl⟩ := mg.parts;obtain ⟨nx,xx,ax,cx,rfl⟩ := mx.parts;obtain ⟨ny,xy,ay,cy,rfl⟩ := my.parts;have HZ : Hid (Z319 _ _ _ _ g x y k) := ⟨mg.mono (Nat.zero_le _),mx.mono (Nat.zero_le _),my.mono (Nat.zero_le _)⟩
      have HV := hid hv;replace HB := hid (HB.out.step b);clear mg mx my hv b;refine hK.out _ _ (fun _ => KB.out _ HB.out.1) ?_;clear hK;refine zEA [(6,(.tuple #[(.agg #[.bool ng,.slice ag xg.length cg]),(.agg #[.bool nx,.slice ax xx.length cx]),(.agg #[.bool ny,.slice ay xy.length cy])])),(7,(.agg #[.bool ng,.slice ag xg.length cg])),(8,(.agg #[.bool nx,.slice ax xx.length cx])),(9,(.agg #[.bool ny,.slice ay xy.length cy]))] 4 ?_ (KB.out _ HB.out.1) ?_
      ·simp only [zPA,gA9,g09,g19,Act.put,sI9,s09,s19]
       (repeat' (first | exact trivial | refine And.intro (Or.inl ⟨by rfl,?_⟩) ?_)) <;> (intro w hSw;(try dsimp only at hSw);go_simp)
      simp only [actV,gA9,g09,g19,Act.put,sI9,s09,s19];refine zAA (i := 10) (o := zSA) (by kernel_rfl) rfl (fun K hK => ?_);dsimp only [zSA];go_simp;obtain ⟨V175,hW⟩ : ∃ V,w174.alloc zbox = V := ⟨_,rfl⟩
      replace HB := hid HB.out.new;replace HZ := hid HZ.out.al;rw [hW] at HB HZ ⊢;clear hW;refine hK.out _ _ (fun _ => KB.out _ HB.out.1) ?_;clear hK
      try simp only [Act.put]
      refine zAA (i := 13) (o := zJA) (by kernel_rfl) rfl (fun K hK => ?_);dsimp only [zJA];have HT := hid (HB.out.s23.q3 HZ.out);clear HB HZ;obtain ⟨e0,e1,e2,e3⟩ := HT.out.2.2.2.1.1.four;go_simp;clear e0 e1 e2 e3;obtain ⟨V176,hW⟩ : ∃ V,(V175.setCell ⟨w174.heap.size,0,none⟩ (.bool ng)).setCell ⟨w174.heap.size,1,none⟩ (.slice ag xg.length cg) = V := ⟨_,rfl⟩
      replace HT := hid (HT.out.sp (.bool ng) (.slice ag xg.length cg));rw [hW] at HT ⊢;clear hW;refine hK.out _ _ (fun _ => KB.out _ HT.out.1) ?_;clear hK
      try simp only [Act.put]
      refine zAA (i := 14) (o := zIA) (by kernel_rfl) rfl (fun K hK => ?_);dsimp only [zIA];obtain ⟨e0,e1,e2,e3⟩ := HT.out.2.2.2.1.2.1.four;go_simp;clear e0 e1 e2 e3;obtain ⟨V177,hW⟩ : ∃ V,(V176.setCell ⟨D81.heap.size,0,none⟩ (.bool nx)).setCell ⟨D81.heap.size,1,none⟩ (.slice ax xx.length cx) = V := ⟨_,rfl⟩
      replace HT := hid (HT.out.sq (.bool nx) (.slice ax xx.length cx));rw [hW] at HT ⊢;clear hW;refine hK.out _ _ (fun _ => KB.out _ HT.out.1) ?_;clear hK
      try simp only [Act.put]
      refine zAA (i := 15) (o := zHA) (by kernel_rfl) rfl (fun K hK => ?_);dsimp only [zHA];obtain ⟨e0,e1,e2,e3⟩ := HT.out.2.2.2.1.2.2.four;go_simp;clear e0 e1 e2 e3;obtain ⟨V178,hW⟩ : ∃ V,(V177.setCell ⟨V150.heap.size,0,none⟩ (.bool ny)).setCell ⟨V150.heap.size,1,none⟩ (.slice ay xy.length cy) = V := ⟨_,rfl⟩
      replace HT := hid (HT.out.st (.bool ny) (.slice ay xy.length cy));rw [hW] at HT ⊢;clear hW;refine hK.out _ _ (fun h => absurd h (by decide)) ?_;clear hK
      try simp only [Act.put]
      refine zCA (by kernel_rfl) ?_ _;have FN : Hid (∃ g x y,ExtV (L c c) (R c) g x y ∧ zLB W1 V178 (.pointer (some ⟨w174.heap.size,0,none⟩)) (.pointer (some ⟨D81.heap.size,0,none⟩)) (.pointer (some ⟨V150.heap.size,0,none⟩)) g x y k) := ⟨g,x,y,HV.out,_,_,_,ng,nx,ny,xg,xx,xy,ag,ax,ay,cg,cx,cy,rfl,rfl,rfl,HT.out.2.2.2.1.1,HT.out.2.2.2.1.2.1,HT.out.2.2.2.1.2.2,HT.out.2.2.2.2.1,HT.out.2.2.2.2.2.1,HT.out.2.2.2.2.2.2,HT.out.1⟩
      clear KB HV HT;go_wp2_with fail;go_meet;exact FN.out
     ·skip
      dsimp only [zSA];go_simp;obtain ⟨V179,hW⟩ : ∃ V,V173.alloc zbox = V := ⟨_,rfl⟩
      replace HB := hid HB.out.new;rw [hW] at HB ⊢;clear hW;refine hK.out _ _ (fun _ => KB.out _ HB.out.1) ?_;clear hK
      try simp only [Act.put]
      refine zAA (i := 5) (o := zTA) (by kernel_rfl) rfl (fun K hK => ?_);dsimp only [zTA];go_simp;go_at_call 101;refine (zOC (ZP.out.now HB.out.1).zi (ZR.out.now HB.out.1).zi Hk1.out (by have := HkK.out;have := HK.out;omega)).mono ?_;rintro e w180 ⟨g,x,y,rg,rx,ry,hv,rfl,mg,mx,my,b⟩;obtain ⟨ng,xg,ag,cg,rfl⟩ := mg.parts;obtain ⟨nx,xx,ax,cx,rfl⟩ := mx.parts;obtain ⟨ny,xy,ay,cy,rfl⟩ := my.parts;have HZ : Hid (Z319 _ _ _ _ g x y k) := ⟨mg.mono (Nat.zero_le _),mx.mono (Nat.zero_le _),my.mono (Nat.zero_le _)⟩
      have HV := hid hv;replace HB := hid (HB.out.step b);clear mg mx my hv b;refine hK.out _ _ (fun _ => KB.out _ HB.out.1) ?_;clear hK;refine zEA [(6,(.tuple #[(.agg #[.bool ng,.slice ag xg.length cg]),(.agg #[.bool nx,.slice ax xx.length cx]),(.agg #[.bool ny,.slice ay xy.length cy])])),(7,(.agg #[.bool ng,.slice ag xg.length cg])),(8,(.agg #[.bool nx,.slice ax xx.length cx])),(9,(.agg #[.bool ny,.slice ay xy.length cy]))] 4 ?_ (KB.out _ HB.out.1) ?_
      ·simp only [zPA,gA9,g09,g19,Act.put,sI9,s09,s19]
       (repeat' (first | exact trivial | refine And.intro (Or.inl ⟨by rfl,?_⟩) ?_)) <;> (intro w hSw;(try dsimp only at hSw);go_simp)
      simp only [actV,gA9,g09,g19,Act.put,sI9,s09,s19];refine zAA (i := 13) (o := zJA) (by kernel_rfl) rfl (fun K hK => ?_);dsimp only [zJA];have HT := hid (HB.out.s23.q3 HZ.out);clear HB HZ;obtain ⟨e0,e1,e2,e3⟩ := HT.out.2.2.2.1.1.four;go_simp;clear e0 e1 e2 e3;obtain ⟨V181,hW⟩ : ∃ V,(w180.setCell ⟨V173.heap.size,0,none⟩ (.bool ng)).setCell ⟨V173.heap.size,1,none⟩ (.slice ag xg.length cg) = V := ⟨_,rfl⟩
      replace HT := hid (HT.out.sp (.bool ng) (.slice ag xg.length cg));rw [hW] at HT ⊢;clear hW;refine hK.out _ _ (fun _ => KB.out _ HT.out.1) ?_;clear hK
      try simp only [Act.put]
      refine zAA (i := 14) (o := zIA) (by kernel_rfl) rfl (fun K hK => ?_);dsimp only [zIA];obtain ⟨e0,e1,e2,e3⟩ := HT.out.2.2.2.1.2.1.four;go_simp;clear e0 e1 e2 e3;obtain ⟨V182,hW⟩ : ∃ V,(V181.setCell ⟨D81.heap.size,0,none⟩ (.bool nx)).setCell ⟨D81.heap.size,1,none⟩ (.slice ax xx.length cx) = V := ⟨_,rfl⟩
      replace HT := hid (HT.out.sq (.bool nx) (.slice ax xx.length cx));rw [hW] at HT ⊢;clear hW;refine hK.out _ _ (fun _ => KB.out _ HT.out.1) ?_;clear hK
      try simp only [Act.put]
      refine zAA (i := 15) (o := zHA) (by kernel_rfl) rfl (fun K hK => ?_);dsimp only [zHA];obtain ⟨e0,e1,e2,e3⟩ := HT.out.2.2.2.1.2.2.four;go_simp;clear e0 e1 e2 e3;obtain ⟨V183,hW⟩ : ∃ V,(V182.setCell ⟨V150.heap.size,0,none⟩ (.bool ny)).setCell ⟨V150.heap.size,1,none⟩ (.slice ay xy.length cy) = V := ⟨_,rfl⟩
      replace HT := hid (HT.out.st (.bool ny) (.slice ay xy.length cy));rw [hW] at HT ⊢;clear hW;refine hK.out _ _ (fun h => absurd h (by decide)) ?_;clear hK
      try simp only [Act.put]
      refine zCA (by kernel_rfl) ?_ _;have FN : Hid (∃ g x y,ExtV (L c c) (R c) g x y ∧ zLB W1 V183 (.pointer (some ⟨V173.heap.size,0,none⟩)) (.pointer (some ⟨D81.heap.size,0,none⟩)) (.pointer (some ⟨V150.heap.size,0,none⟩)) g x y k) := ⟨g,x,y,HV.out,_,_,_,ng,nx,ny,xg,xx,xy,ag,ax,ay,cg,cx,cy,rfl,rfl,rfl,HT.out.2.2.2.1.1,HT.out.2.2.2.1.2.1,HT.out.2.2.2.1.2.2,HT.out.2.2.2.2.1,HT.out.2.2.2.2.2.1,HT.out.2.2.2.2.2.2,HT.out.1⟩
      clear KB HV HT;go_wp2_with fail;go_meet;exact FN.out
   ·skip
    dsimp only [zQA];go_simp;obtain ⟨V184,hW⟩ : ∃ V,D81.alloc zbox = V := ⟨_,rfl⟩
    replace HB := hid HB.out.new;rw [hW] at HB ⊢;clear hW;refine hK.out _ _ (fun _ => KB.out _ HB.out.1) ?_;clear hK
    try simp only [Act.put]
    refine zvA (i := 5) (j := 10) (l := 11) (oi := zTA) (oj := zSA) (ol := zRA) (by kernel_rfl) rfl rfl rfl (fun K hK => ?_) (fun K hK => ?_) (fun K hK => ?_)
    ·skip
     dsimp only [zTA];go_simp;go_at_call 101;refine (zOC (ZP.out.now HB.out.1).zi (ZR.out.now HB.out.1).zi Hk1.out (by have := HkK.out;have := HK.out;omega)).mono ?_;rintro e w185 ⟨g,x,y,rg,rx,ry,hv,rfl,mg,mx,my,b⟩;obtain ⟨ng,xg,ag,cg,rfl⟩ := mg.parts;obtain ⟨nx,xx,ax,cx,rfl⟩ := mx.parts;obtain ⟨ny,xy,ay,cy,rfl⟩ := my.parts;have HZ : Hid (Z319 _ _ _ _ g x y k) := ⟨mg.mono (Nat.zero_le _),mx.mono (Nat.zero_le _),my.mono (Nat.zero_le _)⟩
     have HV := hid hv;replace HB := hid (HB.out.step b);clear mg mx my hv b;refine hK.out _ _ (fun _ => KB.out _ HB.out.1) ?_;clear hK;refine zEA [(6,(.tuple #[(.agg #[.bool ng,.slice ag xg.length cg]),(.agg #[.bool nx,.slice ax xx.length cx]),(.agg #[.bool ny,.slice ay xy.length cy])])),(7,(.agg #[.bool ng,.slice ag xg.length cg])),(8,(.agg #[.bool nx,.slice ax xx.length cx])),(9,(.agg #[.bool ny,.slice ay xy.length cy]))] 4 ?_ (KB.out _ HB.out.1) ?_
     ·simp only [zPA,gA9,g09,g19,Act.put,sI9,s09,s19]
      (repeat' (first | exact trivial | refine And.intro (Or.inl ⟨by rfl,?_⟩) ?_)) <;> (intro w hSw;(try dsimp only at hSw);go_simp)
     simp only [actV,gA9,g09,g19,Act.put,sI9,s09,s19];refine zMA (i := 10) (j := 11) (oi := zSA) (oj := zRA) (by kernel_rfl) rfl rfl (fun K hK => ?_) (fun K hK => ?_)
     ·skip
      dsimp only [zSA];go_simp;obtain ⟨V186,hW⟩ : ∃ V,w185.alloc zbox = V := ⟨_,rfl⟩
      replace HB := hid HB.out.new;replace HZ := hid HZ.out.al;rw [hW] at HB HZ ⊢;clear hW;refine hK.out _ _ (fun _ => KB.out _ HB.out.1) ?_;clear hK
      try simp only [Act.put]
      refine zAA (i := 11) (o := zRA) (by kernel_rfl) rfl (fun K hK => ?_);dsimp only [zRA];go_simp;obtain ⟨V187,hW⟩ : ∃ V,V186.alloc zbox = V := ⟨_,rfl⟩
      replace HB := hid HB.out.new;replace HZ := hid HZ.out.al;rw [hW] at HB HZ ⊢;clear hW;refine hK.out _ _ (fun _ => KB.out _ HB.out.1) ?_;clear hK
      try simp only [Act.put]
      refine zAA (i := 13) (o := zJA) (by kernel_rfl) rfl (fun K hK => ?_);dsimp only [zJA];have HT := hid (HB.out.s12.q3 HZ.out);clear HB HZ;obtain ⟨e0,e1,e2,e3⟩ := HT.out.2.2.2.1.1.four;go_simp;clear e0 e1 e2 e3;obtain ⟨V188,hW⟩ : ∃ V,(V187.setCell ⟨w185.heap.size,0,none⟩ (.bool ng)).setCell ⟨w185.heap.size,1,none⟩ (.slice ag xg.length cg) = V := ⟨_,rfl⟩
      replace HT := hid (HT.out.sp (.bool ng) (.slice ag xg.length cg));rw [hW] at HT ⊢;clear hW;refine hK.out _ _ (fun _ => KB.out _ HT.out.1) ?_;clear hK
      try simp only [Act.put]
      refine zAA (i := 14) (o := zIA) (by kernel_rfl) rfl (fun K hK => ?_);dsimp only [zIA];obtain ⟨e0,e1,e2,e3⟩ := HT.out.2.2.2.1.2.1.four;go_simp;clear e0 e1 e2 e3;obtain ⟨V189,hW⟩ : ∃ V,(V188.setCell ⟨V186.heap.size,0,none⟩ (.bool nx)).setCell ⟨V186.heap.size,1,none⟩ (.slice ax xx.length cx) = V := ⟨_,rfl⟩
      replace HT := hid (HT.out.sq (.bool nx) (.slice ax xx.length cx));rw [hW] at HT ⊢;clear hW;refine hK.out _ _ (fun _ => KB.out _ HT.out.1) ?_;clear hK
      try simp only [Act.put]
      refine zAA (i := 15) (o := zHA) (by kernel_rfl) rfl (fun K hK => ?_);dsimp only [zHA];obtain ⟨e0,e1,e2,e3⟩ := HT.out.2.2.2.1.2.2.four;go_simp;clear e0 e1 e2 e3;obtain ⟨V190,hW⟩ : ∃ V,(V189.setCell ⟨D81.heap.size,0,none⟩ (.bool ny)).setCell ⟨D81.heap.size,1,none⟩ (.slice ay xy.length cy) = V := ⟨_,rfl⟩
      replace HT := hid (HT.out.st (.bool ny) (.slice ay xy.length cy));rw [hW] at HT ⊢;clear hW;refine hK.out _ _ (fun h => absurd h (by decide)) ?_;clear hK
      try simp only [Act.put]
      refine zCA (by kernel_rfl) ?_ _;have FN : Hid (∃ g x y,ExtV (L c c) (R c) g x y ∧ zLB W1 V190 (.pointer (some ⟨w185.heap.size,0,none⟩)) (.pointer (some ⟨V186.heap.size,0,none⟩)) (.pointer (some ⟨D81.heap.size,0,none⟩)) g x y k) := ⟨g,x,y,HV.out,_,_,_,ng,nx,ny,xg,xx,xy,ag,ax,ay,cg,cx,cy,rfl,rfl,rfl,HT.out.2.2.2.1.1,HT.out.2.2.2.1.2.1,HT.out.2.2.2.1.2.2,HT.out.2.2.2.2.1,HT.out.2.2.2.2.2.1,HT.out.2.2.2.2.2.2,HT.out.1⟩
      clear KB HV HT;go_wp2_with fail;go_meet;exact FN.out
     ·skip
      dsimp only [zRA];go_simp;obtain ⟨V191,hW⟩ : ∃ V,w185.alloc zbox = V := ⟨_,rfl⟩
      replace HB := hid HB.out.new;replace HZ := hid HZ.out.al;rw [hW] at HB HZ ⊢;clear hW;refine hK.out _ _ (fun _ => KB.out _ HB.out.1) ?_;clear hK
      try simp only [Act.put]
      refine zAA (i := 10) (o := zSA) (by kernel_rfl) rfl (fun K hK => ?_);dsimp only [zSA];go_simp;obtain ⟨V192,hW⟩ : ∃ V,V191.alloc zbox = V := ⟨_,rfl⟩
      replace HB := hid HB.out.new;replace HZ := hid HZ.out.al;rw [hW] at HB HZ ⊢;clear hW;refine hK.out _ _ (fun _ => KB.out _ HB.out.1) ?_;clear hK
      try simp only [Act.put]
      refine zAA (i := 13) (o := zJA) (by kernel_rfl) rfl (fun K hK => ?_);dsimp only [zJA];have HT := hid (HB.out.q3 HZ.out);clear HB HZ;obtain ⟨e0,e1,e2,e3⟩ := HT.out.2.2.2.1.1.four;go_simp;clear e0 e1 e2 e3;obtain ⟨V193,hW⟩ : ∃ V,(V192.setCell ⟨V191.heap.size,0,none⟩ (.bool ng)).setCell ⟨V191.heap.size,1,none⟩ (.slice ag xg.length cg) = V := ⟨_,rfl⟩
      replace HT := hid (HT.out.sp (.bool ng) (.slice ag xg.length cg));rw [hW] at HT ⊢;clear hW;refine hK.out _ _ (fun _ => KB.out _ HT.out.1) ?_;clear hK
      try simp only [Act.put]
      refine zAA (i := 14) (o := zIA) (by kernel_rfl) rfl (fun K hK => ?_);dsimp only [zIA];obtain ⟨e0,e1,e2,e3⟩ := HT.out.2.2.2.1.2.1.four;go_simp;clear e0 e1 e2 e3;obtain ⟨V194,hW⟩ : ∃ V,(V193.setCell ⟨w185.heap.size,0,none⟩ (.bool nx)).setCell ⟨w185.heap.size,1,none⟩ (.slice ax xx.length cx) = V := ⟨_,rfl⟩
      replace HT := hid (HT.out.sq (.bool nx) (.slice ax xx.length cx));rw [hW] at HT ⊢;clear hW;refine hK.out _ _ (fun _ => KB.out _ HT.out.1) ?_;clear hK
      try simp only [Act.put]
      refine zAA (i := 15) (o := zHA) (by kernel_rfl) rfl (fun K hK => ?_);dsimp only [zHA];obtain ⟨e0,e1,e2,e3⟩ := HT.out.2.2.2.1.2.2.four;go_simp;clear e0 e1 e2 e3;obtain ⟨V195,hW⟩ : ∃ V,(V194.setCell ⟨D81.heap.size,0,none⟩ (.bool ny)).setCell ⟨D81.heap.size,1,none⟩ (.slice ay xy.length cy) = V := ⟨_,rfl⟩
      replace HT := hid (HT.out.st (.bool ny) (.slice ay xy.length cy));rw [hW] at HT ⊢;clear hW;refine hK.out _ _ (fun h => absurd h (by decide)) ?_;clear hK
      try simp only [Act.put]
      refine zCA (by kernel_rfl) ?_ _;have FN : Hid (∃ g x y,ExtV (L c c) (R c) g x y ∧ zLB W1 V195 (.pointer (some ⟨V191.heap.size,0,none⟩)) (.pointer (some ⟨w185.heap.size,0,none⟩)) (.pointer (some ⟨D81.heap.size,0,none⟩)) g x y k) := ⟨g,x,y,HV.out,_,_,_,ng,nx,ny,xg,xx,xy,ag,ax,ay,cg,cx,cy,rfl,rfl,rfl,HT.out.2.2.2.1.1,HT.out.2.2.2.1.2.1,HT.out.2.2.2.1.2.2,HT.out.2.2.2.2.1,HT.out.2.2.2.2.2.1,HT.out.2.2.2.2.2.2,HT.out.1⟩
      clear KB HV HT;go_wp2_with fail;go_meet;exact FN.out
    ·skip
     dsimp only [zSA];go_simp;obtain ⟨V196,hW⟩ : ∃ V,V184.alloc zbox = V := ⟨_,rfl⟩
     replace HB := hid HB.out.new;rw [hW] at HB ⊢;clear hW;refine hK.out _ _ (fun _ => KB.out _ HB.out.1) ?_;clear hK
     try simp only [Act.put]
     refine zMA (i := 5) (j := 11) (oi := zTA) (oj := zRA) (by kernel_rfl) rfl rfl (fun K hK => ?_) (fun K hK => ?_)
     ·skip
      dsimp only [zTA];go_simp;go_at_call 101;refine (zOC (ZP.out.now HB.out.1).zi (ZR.out.now HB.out.1).zi Hk1.out (by have := HkK.out;have := HK.out;omega)).mono ?_;rintro e w197 ⟨g,x,y,rg,rx,ry,hv,rfl,mg,mx,my,b⟩;obtain ⟨ng,xg,ag,cg,rfl⟩ := mg.parts;obtain ⟨nx,xx,ax,cx,rfl⟩ := mx.parts;obtain ⟨ny,xy,ay,cy,rfl⟩ := my.parts;have HZ : Hid (Z319 _ _ _ _ g x y k) := ⟨mg.mono (Nat.zero_le _),mx.mono (Nat.zero_le _),my.mono (Nat.zero_le _)⟩
      have HV := hid hv;replace HB := hid (HB.out.step b);clear mg mx my hv b;refine hK.out _ _ (fun _ => KB.out _ HB.out.1) ?_;clear hK;refine zEA [(6,(.tuple #[(.agg #[.bool ng,.slice ag xg.length cg]),(.agg #[.bool nx,.slice ax xx.length cx]),(.agg #[.bool ny,.slice ay xy.length cy])])),(7,(.agg #[.bool ng,.slice ag xg.length cg])),(8,(.agg #[.bool nx,.slice ax xx.length cx])),(9,(.agg #[.bool ny,.slice ay xy.length cy]))] 4 ?_ (KB.out _ HB.out.1) ?_
      ·simp only [zPA,gA9,g09,g19,Act.put,sI9,s09,s19]
       (repeat' (first | exact trivial | refine And.intro (Or.inl ⟨by rfl,?_⟩) ?_)) <;> (intro w hSw;(try dsimp only at hSw);go_simp)
      simp only [actV,gA9,g09,g19,Act.put,sI9,s09,s19];refine zAA (i := 11) (o := zRA) (by kernel_rfl) rfl (fun K hK => ?_);dsimp only [zRA];go_simp;obtain ⟨V198,hW⟩ : ∃ V,w197.alloc zbox = V := ⟨_,rfl⟩
      replace HB := hid HB.out.new;replace HZ := hid HZ.out.al;rw [hW] at HB HZ ⊢;clear hW;refine hK.out _ _ (fun _ => KB.out _ HB.out.1) ?_;clear hK
      try simp only [Act.put]
      refine zAA (i := 13) (o := zJA) (by kernel_rfl) rfl (fun K hK => ?_);dsimp only [zJA];have HT := hid (HB.out.s12.q3 HZ.out);clear HB HZ;obtain ⟨e0,e1,e2,e3⟩ := HT.out.2.2.2.1.1.four;go_simp;clear e0 e1 e2 e3;obtain ⟨V199,hW⟩ : ∃ V,(V198.setCell ⟨V184.heap.size,0,none⟩ (.bool ng)).setCell ⟨V184.heap.size,1,none⟩ (.slice ag xg.length cg) = V := ⟨_,rfl⟩
      replace HT := hid (HT.out.sp (.bool ng) (.slice ag xg.length cg));rw [hW] at HT ⊢;clear hW;refine hK.out _ _ (fun _ => KB.out _ HT.out.1) ?_;clear hK
      try simp only [Act.put]
      refine zAA (i := 14) (o := zIA) (by kernel_rfl) rfl (fun K hK => ?_);dsimp only [zIA];obtain ⟨e0,e1,e2,e3⟩ := HT.out.2.2.2.1.2.1.four;go_simp;clear e0 e1 e2 e3;obtain ⟨V200,hW⟩ : ∃ V,(V199.setCell ⟨w197.heap.size,0,none⟩ (.bool nx)).setCell ⟨w197.heap.size,1,none⟩ (.slice ax xx.length cx) = V := ⟨_,rfl⟩
      replace HT := hid (HT.out.sq (.bool nx) (.slice ax xx.length cx));rw [hW] at HT ⊢;clear hW;refine hK.out _ _ (fun _ => KB.out _ HT.out.1) ?_;clear hK
      try simp only [Act.put]
      refine zAA (i := 15) (o := zHA) (by kernel_rfl) rfl (fun K hK => ?_);dsimp only [zHA];obtain ⟨e0,e1,e2,e3⟩ := HT.out.2.2.2.1.2.2.four;go_simp;clear e0 e1 e2 e3;obtain ⟨V201,hW⟩ : ∃ V,(V200.setCell ⟨D81.heap.size,0,none⟩ (.bool ny)).setCell ⟨D81.heap.size,1,none⟩ (.slice ay xy.length cy) = V := ⟨_,rfl⟩
      replace HT := hid (HT.out.st (.bool ny) (.slice ay xy.length cy));rw [hW] at HT ⊢;clear hW;refine hK.out _ _ (fun h => absurd h (by decide)) ?_;clear hK
      try simp only [Act.put]
      refine zCA (by kernel_rfl) ?_ _;have FN : Hid (∃ g x y,ExtV (L c c) (R c) g x y ∧ zLB W1 V201 (.pointer (some ⟨V184.heap.size,0,none⟩)) (.pointer (some ⟨w197.heap.size,0,none⟩)) (.pointer (some ⟨D81.heap.size,0,none⟩)) g x y k) := ⟨g,x,y,HV.out,_,_,_,ng,nx,ny,xg,xx,xy,ag,ax,ay,cg,cx,cy,rfl,rfl,rfl,HT.out.2.2.2.1.1,HT.out.2.2.2.1.2.1,HT.out.2.2.2.1.2.2,HT.out.2.2.2.2.1,HT.out.2.2.2.2.2.1,HT.out.2.2.2.2.2.2,HT.out.1⟩
      clear KB HV HT;go_wp2_with fail;go_meet;exact FN.out
     ·skip
      dsimp only [zRA];go_simp;obtain ⟨V202,hW⟩ : ∃ V,V196.alloc zbox = V := ⟨_,rfl⟩
      replace HB := hid HB.out.new;rw [hW] at HB ⊢;clear hW;refine hK.out _ _ (fun _ => KB.out _ HB.out.1) ?_;clear hK
      try simp only [Act.put]
      refine zAA (i := 5) (o := zTA) (by kernel_rfl) rfl (fun K hK => ?_);dsimp only [zTA];go_simp;go_at_call 101;refine (zOC (ZP.out.now HB.out.1).zi (ZR.out.now HB.out.1).zi Hk1.out (by have := HkK.out;have := HK.out;omega)).mono ?_;rintro e w203 ⟨g,x,y,rg,rx,ry,hv,rfl,mg,mx,my,b⟩;obtain ⟨ng,xg,ag,cg,rfl⟩ := mg.parts;obtain ⟨nx,xx,ax,cx,rfl⟩ := mx.parts;obtain ⟨ny,xy,ay,cy,rfl⟩ := my.parts;have HZ : Hid (Z319 _ _ _ _ g x y k) := ⟨mg.mono (Nat.zero_le _),mx.mono (Nat.zero_le _),my.mono (Nat.zero_le _)⟩
      have HV := hid hv;replace HB := hid (HB.out.step b);clear mg mx my hv b;refine hK.out _ _ (fun _ => KB.out _ HB.out.1) ?_;clear hK;refine zEA [(6,(.tuple #[(.agg #[.bool ng,.slice ag xg.length cg]),(.agg #[.bool nx,.slice ax xx.length cx]),(.agg #[.bool ny,.slice ay xy.length cy])])),(7,(.agg #[.bool ng,.slice ag xg.length cg])),(8,(.agg #[.bool nx,.slice ax xx.length cx])),(9,(.agg #[.bool ny,.slice ay xy.length cy]))] 4 ?_ (KB.out _ HB.out.1) ?_
      ·simp only [zPA,gA9,g09,g19,Act.put,sI9,s09,s19]
       (repeat' (first | exact trivial | refine And.intro (Or.inl ⟨by rfl,?_⟩) ?_)) <;> (intro w hSw;(try dsimp only at hSw);go_simp)
      simp only [actV,gA9,g09,g19,Act.put,sI9,s09,s19];refine zAA (i := 13) (o := zJA) (by kernel_rfl) rfl (fun K hK => ?_);dsimp only [zJA];have HT := hid (HB.out.s12.q3 HZ.out);clear HB HZ;obtain ⟨e0,e1,e2,e3⟩ := HT.out.2.2.2.1.1.four;go_simp;clear e0 e1 e2 e3;obtain ⟨V204,hW⟩ : ∃ V,(w203.setCell ⟨V184.heap.size,0,none⟩ (.bool ng)).setCell ⟨V184.heap.size,1,none⟩ (.slice ag xg.length cg) = V := ⟨_,rfl⟩
      replace HT := hid (HT.out.sp (.bool ng) (.slice ag xg.length cg));rw [hW] at HT ⊢;clear hW;refine hK.out _ _ (fun _ => KB.out _ HT.out.1) ?_;clear hK
      try simp only [Act.put]
      refine zAA (i := 14) (o := zIA) (by kernel_rfl) rfl (fun K hK => ?_);dsimp only [zIA];obtain ⟨e0,e1,e2,e3⟩ := HT.out.2.2.2.1.2.1.four;go_simp;clear e0 e1 e2 e3;obtain ⟨V205,hW⟩ : ∃ V,(V204.setCell ⟨V196.heap.size,0,none⟩ (.bool nx)).setCell ⟨V196.heap.size,1,none⟩ (.slice ax xx.length cx) = V := ⟨_,rfl⟩
      replace HT := hid (HT.out.sq (.bool nx) (.slice ax xx.length cx));rw [hW] at HT ⊢;clear hW;refine hK.out _ _ (fun _ => KB.out _ HT.out.1) ?_;clear hK
      try simp only [Act.put]
      refine zAA (i := 15) (o := zHA) (by kernel_rfl) rfl (fun K hK => ?_);dsimp only [zHA];obtain ⟨e0,e1,e2,e3⟩ := HT.out.2.2.2.1.2.2.four;go_simp;clear e0 e1 e2 e3;obtain ⟨V206,hW⟩ : ∃ V,(V205.setCell ⟨D81.heap.size,0,none⟩ (.bool ny)).setCell ⟨D81.heap.size,1,none⟩ (.slice ay xy.length cy) = V := ⟨_,rfl⟩
      replace HT := hid (HT.out.st (.bool ny) (.slice ay xy.length cy));rw [hW] at HT ⊢;clear hW;refine hK.out _ _ (fun h => absurd h (by decide)) ?_;clear hK
      try simp only [Act.put]
      refine zCA (by kernel_rfl) ?_ _;have FN : Hid (∃ g x y,ExtV (L c c) (R c) g x y ∧ zLB W1 V206 (.pointer (some ⟨V184.heap.size,0,none⟩)) (.pointer (some ⟨V196.heap.size,0,none⟩)) (.pointer (some ⟨D81.heap.size,0,none⟩)) g x y k) := ⟨g,x,y,HV.out,_,_,_,ng,nx,ny,xg,xx,xy,ag,ax,ay,cg,cx,cy,rfl,rfl,rfl,HT.out.2.2.2.1.1,HT.out.2.2.2.1.2.1,HT.out.2.2.2.1.2.2,HT.out.2.2.2.2.1,HT.out.2.2.2.2.2.1,HT.out.2.2.2.2.2.2,HT.out.1⟩
      clear KB HV HT;go_wp2_with fail;go_meet;exact FN.out
    ·skip
     dsimp only [zRA];go_simp;obtain ⟨V207,hW⟩ : ∃ V,V184.alloc zbox = V := ⟨_,rfl⟩
     replace HB := hid HB.out.new;rw [hW] at HB ⊢;clear hW;refine hK.out _ _ (fun _ => KB.out _ HB.out.1) ?_;clear hK
     try simp only [Act.put]
     refine zMA (i := 5) (j := 10) (oi := zTA) (oj := zSA) (by kernel_rfl) rfl rfl (fun K hK => ?_) (fun K hK => ?_)
     ·skip
      dsimp only [zTA];go_simp;go_at_call 101;refine (zOC (ZP.out.now HB.out.1).zi (ZR.out.now HB.out.1).zi Hk1.out (by have := HkK.out;have := HK.out;omega)).mono ?_;rintro e w208 ⟨g,x,y,rg,rx,ry,hv,rfl,mg,mx,my,b⟩;obtain ⟨ng,xg,ag,cg,rfl⟩ := mg.parts;obtain ⟨nx,xx,ax,cx,rfl⟩ := mx.parts;obtain ⟨ny,xy,ay,cy,rfl⟩ := my.parts;have HZ : Hid (Z319 _ _ _ _ g x y k) := ⟨mg.mono (Nat.zero_le _),mx.mono (Nat.zero_le _),my.mono (Nat.zero_le _)⟩
      have HV := hid hv;replace HB := hid (HB.out.step b);clear mg mx my hv b;refine hK.out _ _ (fun _ => KB.out _ HB.out.1) ?_;clear hK;refine zEA [(6,(.tuple #[(.agg #[.bool ng,.slice ag xg.length cg]),(.agg #[.bool nx,.slice ax xx.length cx]),(.agg #[.bool ny,.slice ay xy.length cy])])),(7,(.agg #[.bool ng,.slice ag xg.length cg])),(8,(.agg #[.bool nx,.slice ax xx.length cx])),(9,(.agg #[.bool ny,.slice ay xy.length cy]))] 4 ?_ (KB.out _ HB.out.1) ?_
      ·simp only [zPA,gA9,g09,g19,Act.put,sI9,s09,s19]
       (repeat' (first | exact trivial | refine And.intro (Or.inl ⟨by rfl,?_⟩) ?_)) <;> (intro w hSw;(try dsimp only at hSw);go_simp)
      simp only [actV,gA9,g09,g19,Act.put,sI9,s09,s19];refine zAA (i := 10) (o := zSA) (by kernel_rfl) rfl (fun K hK => ?_);dsimp only [zSA];go_simp;obtain ⟨V209,hW⟩ : ∃ V,w208.alloc zbox = V := ⟨_,rfl⟩
      replace HB := hid HB.out.new;replace HZ := hid HZ.out.al;rw [hW] at HB HZ ⊢;clear hW;refine hK.out _ _ (fun _ => KB.out _ HB.out.1) ?_;clear hK
      try simp only [Act.put]
      refine zAA (i := 13) (o := zJA) (by kernel_rfl) rfl (fun K hK => ?_);dsimp only [zJA];have HT := hid (HB.out.q3 HZ.out);clear HB HZ;obtain ⟨e0,e1,e2,e3⟩ := HT.out.2.2.2.1.1.four;go_simp;clear e0 e1 e2 e3;obtain ⟨V210,hW⟩ : ∃ V,(V209.setCell ⟨w208.heap.size,0,none⟩ (.bool ng)).setCell ⟨w208.heap.size,1,none⟩ (.slice ag xg.length cg) = V := ⟨_,rfl⟩
      replace HT := hid (HT.out.sp (.bool ng) (.slice ag xg.length cg));rw [hW] at HT ⊢;clear hW;refine hK.out _ _ (fun _ => KB.out _ HT.out.1) ?_;clear hK
      try simp only [Act.put]
      refine zAA (i := 14) (o := zIA) (by kernel_rfl) rfl (fun K hK => ?_);dsimp only [zIA];obtain ⟨e0,e1,e2,e3⟩ := HT.out.2.2.2.1.2.1.four;go_simp;clear e0 e1 e2 e3;obtain ⟨V211,hW⟩ : ∃ V,(V210.setCell ⟨V184.heap.size,0,none⟩ (.bool nx)).setCell ⟨V184.heap.size,1,none⟩ (.slice ax xx.length cx) = V := ⟨_,rfl⟩
      replace HT := hid (HT.out.sq (.bool nx) (.slice ax xx.length cx));rw [hW] at HT ⊢;clear hW;refine hK.out _ _ (fun _ => KB.out _ HT.out.1) ?_;clear hK
      try simp only [Act.put]
      refine zAA (i := 15) (o := zHA) (by kernel_rfl) rfl (fun K hK => ?_);dsimp only [zHA];obtain ⟨e0,e1,e2,e3⟩ := HT.out.2.2.2.1.2.2.four;go_simp;clear e0 e1 e2 e3;obtain ⟨V212,hW⟩ : ∃ V,(V211.setCell ⟨D81.heap.size,0,none⟩ (.bool ny)).setCell ⟨D81.heap.size,1,none⟩ (.slice ay xy.length cy) = V := ⟨_,rfl⟩
      replace HT := hid (HT.out.st (.bool ny) (.slice ay xy.length cy));rw [hW] at HT ⊢;clear hW;refine hK.out _ _ (fun h => absurd h (by decide)) ?_;clear hK
      try simp only [Act.put]
      refine zCA (by kernel_rfl) ?_ _;have FN : Hid (∃ g x y,ExtV (L c c) (R c) g x y ∧ zLB W1 V212 (.pointer (some ⟨w208.heap.size,0,none⟩)) (.pointer (some ⟨V184.heap.size,0,none⟩)) (.pointer (some ⟨D81.heap.size,0,none⟩)) g x y k) := ⟨g,x,y,HV.out,_,_,_,ng,nx,ny,xg,xx,xy,ag,ax,ay,cg,cx,cy,rfl,rfl,rfl,HT.out.2.2.2.1.1,HT.out.2.2.2.1.2.1,HT.out.2.2.2.1.2.2,HT.out.2.2.2.2.1,HT.out.2.2.2.2.2.1,HT.out.2.2.2.2.2.2,HT.out.1⟩
      clear KB HV HT;go_wp2_with fail;go_meet;exact FN.out
     ·skip
      dsimp only [zSA];go_simp;obtain ⟨V213,hW⟩ : ∃ V,V207.alloc zbox = V := ⟨_,rfl⟩
      replace HB := hid HB.out.new;rw [hW] at HB ⊢;clear hW;refine hK.out _ _ (fun _ => KB.out _ HB.out.1) ?_;clear hK
      try simp only [Act.put]
      refine zAA (i := 5) (o := zTA) (by kernel_rfl) rfl (fun K hK => ?_);dsimp only [zTA];go_simp;go_at_call 101;refine (zOC (ZP.out.now HB.out.1).zi (ZR.out.now HB.out.1).zi Hk1.out (by have := HkK.out;have := HK.out;omega)).mono ?_;rintro e w214 ⟨g,x,y,rg,rx,ry,hv,rfl,mg,mx,my,b⟩;obtain ⟨ng,xg,ag,cg,rfl⟩ := mg.parts;obtain ⟨nx,xx,ax,cx,rfl⟩ := mx.parts;obtain ⟨ny,xy,ay,cy,rfl⟩ := my.parts;have HZ : Hid (Z319 _ _ _ _ g x y k) := ⟨mg.mono (Nat.zero_le _),mx.mono (Nat.zero_le _),my.mono (Nat.zero_le _)⟩
      have HV := hid hv;replace HB := hid (HB.out.step b);clear mg mx my hv b;refine hK.out _ _ (fun _ => KB.out _ HB.out.1) ?_;clear hK;refine zEA [(6,(.tuple #[(.agg #[.bool ng,.slice ag xg.length cg]),(.agg #[.bool nx,.slice ax xx.length cx]),(.agg #[.bool ny,.slice ay xy.length cy])])),(7,(.agg #[.bool ng,.slice ag xg.length cg])),(8,(.agg #[.bool nx,.slice ax xx.length cx])),(9,(.agg #[.bool ny,.slice ay xy.length cy]))] 4 ?_ (KB.out _ HB.out.1) ?_
      ·simp only [zPA,gA9,g09,g19,Act.put,sI9,s09,s19]
       (repeat' (first | exact trivial | refine And.intro (Or.inl ⟨by rfl,?_⟩) ?_)) <;> (intro w hSw;(try dsimp only at hSw);go_simp)
      simp only [actV,gA9,g09,g19,Act.put,sI9,s09,s19];refine zAA (i := 13) (o := zJA) (by kernel_rfl) rfl (fun K hK => ?_);dsimp only [zJA];have HT := hid (HB.out.q3 HZ.out);clear HB HZ;obtain ⟨e0,e1,e2,e3⟩ := HT.out.2.2.2.1.1.four;go_simp;clear e0 e1 e2 e3;obtain ⟨V215,hW⟩ : ∃ V,(w214.setCell ⟨V207.heap.size,0,none⟩ (.bool ng)).setCell ⟨V207.heap.size,1,none⟩ (.slice ag xg.length cg) = V := ⟨_,rfl⟩
      replace HT := hid (HT.out.sp (.bool ng) (.slice ag xg.length cg));rw [hW] at HT ⊢;clear hW;refine hK.out _ _ (fun _ => KB.out _ HT.out.1) ?_;clear hK
      try simp only [Act.put]
      refine zAA (i := 14) (o := zIA) (by kernel_rfl) rfl (fun K hK => ?_);dsimp only [zIA];obtain ⟨e0,e1,e2,e3⟩ := HT.out.2.2.2.1.2.1.four;go_simp;clear e0 e1 e2 e3;obtain ⟨V216,hW⟩ : ∃ V,(V215.setCell ⟨V184.heap.size,0,none⟩ (.bool nx)).setCell ⟨V184.heap.size,1,none⟩ (.slice ax xx.length cx) = V := ⟨_,rfl⟩
      replace HT := hid (HT.out.sq (.bool nx) (.slice ax xx.length cx));rw [hW] at HT ⊢;clear hW;refine hK.out _ _ (fun _ => KB.out _ HT.out.1) ?_;clear hK
      try simp only [Act.put]
      refine zAA (i := 15) (o := zHA) (by kernel_rfl) rfl (fun K hK => ?_);dsimp only [zHA];obtain ⟨e0,e1,e2,e3⟩ := HT.out.2.2.2.1.2.2.four;go_simp;clear e0 e1 e2 e3;obtain ⟨V217,hW⟩ : ∃ V,(V216.setCell ⟨D81.heap.size,0,none⟩ (.bool ny)).setCell ⟨D81.heap.size,1,none⟩ (.slice ay xy.length cy) = V := ⟨_,rfl⟩
      replace HT := hid (HT.out.st (.bool ny) (.slice ay xy.length cy));rw [hW] at HT ⊢;clear hW;refine hK.out _ _ (fun h => absurd h (by decide)) ?_;clear hK
      try simp only [Act.put]
      refine zCA (by kernel_rfl) ?_ _;have FN : Hid (∃ g x y,ExtV (L c c) (R c) g x y ∧ zLB W1 V217 (.pointer (some ⟨V207.heap.size,0,none⟩)) (.pointer (some ⟨V184.heap.size,0,none⟩)) (.pointer (some ⟨D81.heap.size,0,none⟩)) g x y k) := ⟨g,x,y,HV.out,_,_,_,ng,nx,ny,xg,xx,xy,ag,ax,ay,cg,cx,cy,rfl,rfl,rfl,HT.out.2.2.2.1.1,HT.out.2.2.2.1.2.1,HT.out.2.2.2.1.2.2,HT.out.2.2.2.2.1,HT.out.2.2.2.2.2.1,HT.out.2.2.2.2.2.2,HT.out.1⟩
      clear KB HV HT;go_wp2_with fail;go_meet;exact FN.out
  case rest =>
  rename World => W2
  obtain ⟨g,x,y,hv,bg',bx',by',ng,nx,ny,xg,xx,xy,ag,ax,ay,cg,cx,cy,rfl,rfl,rfl,dg,dx,dy,zg,zx,zy,b⟩ := hcut;have HG : Hid (0 < g ∧ g < D ∧ g ∣ L c c ∧ g ∣ R c) := by
   unfold Hid;have d1 : g ∣ L c c := by rw [hv.gcd];exact Int.gcd_dvd_left _ _
   have d2 : g ∣ R c := by rw [hv.gcd];exact Int.gcd_dvd_right _ _
   have g0 : 0 < g := by
    rw [hv.gcd];have := Int.gcd_pos_of_ne_zero_left (R c) Hp0.out;omega
   have gl := Int.le_of_dvd Hp.out.1 d1;refine ⟨g0,?_,d1,d2⟩;have gr := Int.le_of_dvd Hr.out.1 d2;have := Hr.out.2;omega
  have HV := hid hv;have DG := hid dg;have DXX := hid dx;have DYY := hid dy;have ZG := hid zg;have ZX := hid zx;have ZY := hid zy;replace TG := hid (TG.out.now b);replace RW := hid (RW.out.now b);replace ZP := hid (ZP.out.now b);replace ZR := hid (ZR.out.now b);replace DP := hid (DP.out.step b);replace B0 := hid (below_step B0.out b);replace r0 := cnow b r0;replace r1 := cnow b r1;clear i0 i1 hv dg dx dy zg zx zy b;have g0 := DG.out.c0;have g1 := DG.out.c1;have HTM : Hid ((R c).tmod g = 0 ∧ (L c c).tmod g = 0 ∧ g ≠ 0) := ⟨Int.tmod_eq_zero_of_dvd HG.out.2.2.2,Int.tmod_eq_zero_of_dvd HG.out.2.2.1,by have := HG.out.1;omega⟩
  go_wp2_with fail
  go_cut [12] from 13 (fun s12 wx => MetX W2 wx s12 ((R c).tdiv g) k)
  case first =>
   have KB : Hid (∀ w',Below W2.heap.size W2 w' → w'.cell? ⟨gr,c * 2,none⟩ = some (.bool nr) ∧ w'.cell? ⟨gr,c * 2 + 1,none⟩ = some (.slice ar lr cr) ∧ w'.cell? ⟨bg',0,none⟩ = some (.bool ng) ∧ w'.cell? ⟨bg',1,none⟩ = some (.slice ag xg.length cg)) := fun w' h => ⟨cnow h r0,cnow h r1,cnow h g0,cnow h g1⟩
   refine zFA (fun w' => w'.cell? ⟨gr,c * 2,none⟩ = some (.bool nr) ∧ w'.cell? ⟨gr,c * 2 + 1,none⟩ = some (.slice ar lr cr) ∧ w'.cell? ⟨bg',0,none⟩ = some (.bool ng) ∧ w'.cell? ⟨bg',1,none⟩ = some (.slice ag xg.length cg)) 11 (by kernel_rfl) ?_;obtain ⟨D301,hD⟩ : ∃ D301,W2.drew = D301 := ⟨_,rfl⟩
   have GB : Hid (Below W2.heap.size W2 D301) := by unfold Hid;rw [← hD];exact (Below.refl _ _).drew
   rw [hD];clear hD;have HB : Hid (BX19 W2 D301 []) := BX19.nil GB.out;refine zEA [(0,(.slice (some ⟨gr,0,none⟩) n n)),(1,(.int .i64 (c : Int))),(2,(.pointer (some ⟨gr,c * 2,none⟩))),(3,(.agg #[.bool nr,.slice ar lr cr])),(4,(.agg #[.bool ng,.slice ag xg.length cg]))] 5 ?_ (KB.out _ GB.out) ?_
   ·simp only [zPA,gA9,g09,g19,Act.put,sI9,s09,s19]
    (repeat' (first | exact trivial | refine And.intro (Or.inl ⟨by rfl,?_⟩) ?_)) <;> (intro w hSw;(try dsimp only at hSw);go_simp)
   simp only [actV,gA9,g09,g19,Act.put,sI9,s09,s19];refine zMA (i := 5) (j := 9) (oi := ⟨some 58,.call { callee := .value (.func 96),args := #[.tmp 56,.tmp 57],argTypes := #[27,27] },44, "triangle.go:49",#[⟨3,.data⟩,⟨4,.data⟩],none⟩) (oj := ⟨some 12,.alloc 27,0, "triangle.go:49",#[],none⟩) (by kernel_rfl) rfl rfl (fun K hK => ?_) (fun K hK => ?_)
   ·skip
    go_simp;go_at_call 96;refine (zlB (ZR.out.now GB.out).zi (ZG.out.now GB.out).zi HTM.out.2.2 (by have := HkK.out;have := HK.out;omega) (by have := HkK.out;have := HK.out;omega) HTM.out.1).mono ?_;rintro e w302 ⟨rq,rfl,mq,b⟩;have lz302 := (show Below _ _ _ from b).size;replace GB := hid (below_step GB.out b);have Mu := hid (mq.mono (Nat.zero_le _));obtain ⟨nu,xu,au,cu,rfl⟩ := Mu.out.parts;clear mq;replace HB := hid (HB.out.step b);clear b;refine hK.out _ _ (fun _ => KB.out _ GB.out) ?_;clear hK;refine zEA [(6,(.tuple #[(.agg #[.bool nu,.slice au xu.length cu]),(.int .i64 0)])),(7,(.agg #[.bool nu,.slice au xu.length cu])),(8,(.int .i64 0))] 3 ?_ (KB.out _ GB.out) ?_
    ·simp only [zPA,gA9,g09,g19,Act.put,sI9,s09,s19]
     (repeat' (first | exact trivial | refine And.intro (Or.inl ⟨by rfl,?_⟩) ?_)) <;> (intro w hSw;(try dsimp only at hSw);go_simp)
    simp only [actV,gA9,g09,g19,Act.put,sI9,s09,s19];refine zAA (i := 9) (o := ⟨some 12,.alloc 27,0, "triangle.go:49",#[],none⟩) (by kernel_rfl) rfl (fun K hK => ?_);go_simp;obtain ⟨V303,hW⟩ : ∃ V303,w302.alloc zbox = V303 := ⟨_,rfl⟩
    obtain ⟨b,sz303⟩ := alo1 w302 zbox;rw [hW] at b sz303;replace GB := hid (below_step GB.out b);replace Mu := hid (Mu.out.now b);replace HB : Hid (BX19 W2 V303 [w302.heap.size]) := by unfold Hid;rw [← hW];exact HB.out.new
    clear sz303;rw [hW];clear hW b;refine hK.out _ _ (fun _ => KB.out _ GB.out) ?_;clear hK
    try simp only [Act.put]
    refine zAA (i := 10) (o := ⟨none,.store 27 (.tmp 12) (.tmp 59),0, "triangle.go:49",#[⟨9,.data⟩,⟨7,.data⟩,⟨5,.chain⟩,⟨0,.phase⟩,⟨1,.phase⟩,⟨2,.phase⟩,⟨3,.phase⟩,⟨4,.phase⟩,⟨5,.phase⟩,⟨6,.phase⟩,⟨7,.phase⟩,⟨8,.textOnly .lateStores⟩,⟨9,.phase⟩],none⟩) (by kernel_rfl) rfl (fun K hK => ?_);obtain ⟨Su,Du⟩ := HB.out.one;have e0 := Du.c0;have e1 := Du.c1;have e2 := Du.fz 0;have e3 := Du.fz 1;go_simp;clear e0 e1 e2 e3;obtain ⟨V304,hW⟩ : ∃ V304,((V303.setCell ⟨w302.heap.size,0,none⟩ (.bool nu)).setCell ⟨w302.heap.size,1,none⟩ (.slice au xu.length cu)) = V304 := ⟨_,rfl⟩
    replace Mu := hid (Mu.out.ty (Du.ty13 (.bool nu) (.slice au xu.length cu)) (by decide));replace Du := Du.set (.bool nu) (.slice au xu.length cu);replace GB := hid (bset (u := .slice au xu.length cu) (j := 1) (bset (u := .bool nu) (j := 0) GB.out Su) Su);rw [hW] at Mu Du GB;rw [hW];clear hW;refine hK.out _ _ (fun _ => KB.out _ GB.out) ?_;clear hK
    try simp only [Act.put]
    refine zAA (i := 11) (o := ⟨some 13,.assign (.tmp 60),29, "triangle.go:49",#[⟨8,.data⟩,⟨10,.chain⟩,⟨0,.phase⟩,⟨1,.phase⟩,⟨2,.phase⟩,⟨3,.phase⟩,⟨4,.phase⟩,⟨5,.phase⟩,⟨6,.phase⟩,⟨7,.phase⟩,⟨8,.phase⟩,⟨9,.phase⟩,⟨10,.phase⟩],none⟩) (by kernel_rfl) rfl (fun K hK => ?_);go_simp;refine hK.out _ _ (fun h => absurd h (by decide)) ?_;clear hK
    try simp only [Act.put]
    refine zCA (by kernel_rfl) ?_ _;have FN : Hid (MetX W2 V304 (.pointer (some ⟨w302.heap.size,0,none⟩)) ((R c).tdiv g) k) := ⟨_,nu,xu,au,cu,rfl,GB.out,Su,Du,Mu.out⟩
    clear GB KB HB Mu Du Su;go_wp2_with fail;go_meet;exact FN.out
   ·skip
    go_simp;obtain ⟨V305,hW⟩ : ∃ V305,D301.alloc zbox = V305 := ⟨_,rfl⟩
    obtain ⟨b,sz305⟩ := alo1 D301 zbox;rw [hW] at b sz305;replace GB := hid (below_step GB.out b);replace HB : Hid (BX19 W2 V305 [D301.heap.size]) := by unfold Hid;rw [← hW];exact HB.out.new
    clear sz305;rw [hW];clear hW b;refine hK.out _ _ (fun _ => KB.out _ GB.out) ?_;clear hK
    try simp only [Act.put]
    refine zAA (i := 5) (o := ⟨some 58,.call { callee := .value (.func 96),args := #[.tmp 56,.tmp 57],argTypes := #[27,27] },44, "triangle.go:49",#[⟨3,.data⟩,⟨4,.data⟩],none⟩) (by kernel_rfl) rfl (fun K hK => ?_);go_simp;go_at_call 96;refine (zlB (ZR.out.now GB.out).zi (ZG.out.now GB.out).zi HTM.out.2.2 (by have := HkK.out;have := HK.out;omega) (by have := HkK.out;have := HK.out;omega) HTM.out.1).mono ?_;rintro e w306 ⟨rq,rfl,mq,b⟩;have lz306 := (show Below _ _ _ from b).size;replace GB := hid (below_step GB.out b);have Mu := hid (mq.mono (Nat.zero_le _));obtain ⟨nu,xu,au,cu,rfl⟩ := Mu.out.parts;clear mq;replace HB := hid (HB.out.step b);clear b;refine hK.out _ _ (fun _ => KB.out _ GB.out) ?_;clear hK;refine zEA [(6,(.tuple #[(.agg #[.bool nu,.slice au xu.length cu]),(.int .i64 0)])),(7,(.agg #[.bool nu,.slice au xu.length cu])),(8,(.int .i64 0))] 3 ?_ (KB.out _ GB.out) ?_
    ·simp only [zPA,gA9,g09,g19,Act.put,sI9,s09,s19]
     (repeat' (first | exact trivial | refine And.intro (Or.inl ⟨by rfl,?_⟩) ?_)) <;> (intro w hSw;(try dsimp only at hSw);go_simp)
    simp only [actV,gA9,g09,g19,Act.put,sI9,s09,s19];refine zAA (i := 10) (o := ⟨none,.store 27 (.tmp 12) (.tmp 59),0, "triangle.go:49",#[⟨9,.data⟩,⟨7,.data⟩,⟨5,.chain⟩,⟨0,.phase⟩,⟨1,.phase⟩,⟨2,.phase⟩,⟨3,.phase⟩,⟨4,.phase⟩,⟨5,.phase⟩,⟨6,.phase⟩,⟨7,.phase⟩,⟨8,.textOnly .lateStores⟩,⟨9,.phase⟩],none⟩) (by kernel_rfl) rfl (fun K hK => ?_);obtain ⟨Su,Du⟩ := HB.out.one;have e0 := Du.c0;have e1 := Du.c1;have e2 := Du.fz 0;have e3 := Du.fz 1;go_simp;clear e0 e1 e2 e3;obtain ⟨V307,hW⟩ : ∃ V307,((w306.setCell ⟨D301.heap.size,0,none⟩ (.bool nu)).setCell ⟨D301.heap.size,1,none⟩ (.slice au xu.length cu)) = V307 := ⟨_,rfl⟩
    replace Mu := hid (Mu.out.ty (Du.ty13 (.bool nu) (.slice au xu.length cu)) (by decide));replace Du := Du.set (.bool nu) (.slice au xu.length cu);replace GB := hid (bset (u := .slice au xu.length cu) (j := 1) (bset (u := .bool nu) (j := 0) GB.out Su) Su);rw [hW] at Mu Du GB;rw [hW];clear hW;refine hK.out _ _ (fun _ => KB.out _ GB.out) ?_;clear hK
    try simp only [Act.put]
    refine zAA (i := 11) (o := ⟨some 13,.assign (.tmp 60),29, "triangle.go:49",#[⟨8,.data⟩,⟨10,.chain⟩,⟨0,.phase⟩,⟨1,.phase⟩,⟨2,.phase⟩,⟨3,.phase⟩,⟨4,.phase⟩,⟨5,.phase⟩,⟨6,.phase⟩,⟨7,.phase⟩,⟨8,.phase⟩,⟨9,.phase⟩,⟨10,.phase⟩],none⟩) (by kernel_rfl) rfl (fun K hK => ?_);go_simp;refine hK.out _ _ (fun h => absurd h (by decide)) ?_;clear hK
    try simp only [Act.put]
    refine zCA (by kernel_rfl) ?_ _;have FN : Hid (MetX W2 V307 (.pointer (some ⟨D301.heap.size,0,none⟩)) ((R c).tdiv g) k) := ⟨_,nu,xu,au,cu,rfl,GB.out,Su,Du,Mu.out⟩
    clear GB KB HB Mu Du Su;go_wp2_with fail;go_meet;exact FN.out
  case rest =>
  rename World => W3
  obtain ⟨bu,nu,xu,au,cu,rfl,b,hbu,du,zu⟩ := hcut;have DU := hid du;have ZU := hid zu;replace TG := hid (TG.out.now b);replace RW := hid (RW.out.now b);replace ZP := hid (ZP.out.now b);replace ZG := hid (ZG.out.now b);replace ZX := hid (ZX.out.now b);replace ZY := hid (ZY.out.now b);replace DP := hid (DP.out.step b);replace DG := hid (DG.out.step b);replace DXX := hid (DXX.out.step b);replace DYY := hid (DYY.out.step b);replace B0 := hid (below_step B0.out b);clear r0 r1 g0 g1 du zu b hbu ZR;have i0 := DP.out.c0;have i1 := DP.out.c1;have g0 := DG.out.c0;have g1 := DG.out.c1;have HS := hid (zlB ZP.out.zi ZG.out.zi HTM.out.2.2 (by have := HkK.out;have := HK.out;omega) (by have := HkK.out;have := HK.out;omega) HTM.out.2.1);go_wp2_with fail;refine HS.out.mono ?_;rintro e w4 ⟨rq,rfl,mq,b⟩;obtain ⟨nv,xv,av,cv,rfl⟩ := mq.parts;obtain ⟨V5,hV⟩ : ∃ V5,w4.alloc (duo (.bool nv) (.slice av xv.length cv)) = V5 := ⟨_,rfl⟩
  obtain ⟨b5,sz5⟩ := alo1 w4 (duo (.bool nv) (.slice av xv.length cv));rw [hV] at b5 sz5;have bb := below_step b b5;have DV : Hid (Duo V5 w4.heap.size (.bool nv) (.slice av xv.length cv)) := by unfold Hid;rw [← hV];exact Duo.new w4 _ _
  have ZV := hid ((mq.mono (Nat.zero_le _)).now b5);replace TG := hid (TG.out.now bb);replace RW := hid (RW.out.now bb);replace ZX := hid (ZX.out.now bb);replace ZY := hid (ZY.out.now bb);replace ZU := hid (ZU.out.now bb);replace DU := hid (DU.out.step bb);replace DXX := hid (DXX.out.step bb);replace DYY := hid (DYY.out.step bb);replace B0 := hid (below_step B0.out bb);have EV := hid hV;obtain ⟨bv,hbv⟩ : ∃ bv,w4.heap.size = bv := ⟨_,rfl⟩
  rw [hbv] at DV;have EBV := hid hbv;clear HS mq b b5 bb sz5 hV hbv i0 i1 g0 g1 ZP ZG DP DG;go_wp2_with fail;rw [EV.out,EBV.out];clear EV EBV;have x0 := DXX.out.c0;have x1 := DXX.out.c1;have y0 := DYY.out.c0;have y1 := DYY.out.c1;have u0 := DU.out.c0;have u1 := DU.out.c1;have v0 := DV.out.c0;have v1 := DV.out.c1;have KB : Hid (∀ w',Below V5.heap.size V5 w' → w'.cell? ⟨bx',0,none⟩ = some (.bool nx) ∧ w'.cell? ⟨bx',1,none⟩ = some (.slice ax xx.length cx) ∧ w'.cell? ⟨by',0,none⟩ = some (.bool ny) ∧ w'.cell? ⟨by',1,none⟩ = some (.slice ay xy.length cy) ∧ w'.cell? ⟨bu,0,none⟩ = some (.bool nu) ∧ w'.cell? ⟨bu,1,none⟩ = some (.slice au xu.length cu) ∧ w'.cell? ⟨bv,0,none⟩ = some (.bool nv) ∧ w'.cell? ⟨bv,1,none⟩ = some (.slice av xv.length cv)) := fun w' h => ⟨cnow h x0,cnow h x1,cnow h y0,cnow h y1,cnow h u0,cnow h u1,cnow h v0,cnow h v1⟩
  refine zFA (fun w' => w'.cell? ⟨bx',0,none⟩ = some (.bool nx) ∧ w'.cell? ⟨bx',1,none⟩ = some (.slice ax xx.length cx) ∧ w'.cell? ⟨by',0,none⟩ = some (.bool ny) ∧ w'.cell? ⟨by',1,none⟩ = some (.slice ay xy.length cy) ∧ w'.cell? ⟨bu,0,none⟩ = some (.bool nu) ∧ w'.cell? ⟨bu,1,none⟩ = some (.slice au xu.length cu) ∧ w'.cell? ⟨bv,0,none⟩ = some (.bool nv) ∧ w'.cell? ⟨bv,1,none⟩ = some (.slice av xv.length cv)) 11 (by kernel_rfl) ?_;obtain ⟨D401,hD⟩ : ∃ D401,V5.drew = D401 := ⟨_,rfl⟩
  have GB : Hid (Below V5.heap.size V5 D401) := by unfold Hid;rw [← hD];exact (Below.refl _ _).drew
  rw [hD];clear hD;refine zEA [(0,(.pointer (some ⟨bt,0,none⟩))),(1,(.slice (some ⟨gr,0,none⟩) n n)),(2,(.int .i64 (c : Int))),(3,(.agg #[.bool nx,.slice ax xx.length cx])),(4,(.agg #[.bool ny,.slice ay xy.length cy])),(5,(.agg #[.bool nx,.slice ax xx.length cx,.bool ny,.slice ay xy.length cy])),(6,(.agg #[.bool nu,.slice au xu.length cu])),(8,(.agg #[.bool nv,.slice av xv.length cv]))] 8 ?_ (KB.out _ GB.out) ?_
  ·simp only [zPA,gA9,g09,g19,Act.put,sI9,s09,s19]
   (repeat' (first | exact trivial | refine And.intro (Or.inl ⟨by rfl,?_⟩) ?_)) <;> (intro w hSw;(try dsimp only at hSw);go_simp)
  simp only [actV,gA9,g09,g19,Act.put,sI9,s09,s19];refine zAA (i := 7) (o := ⟨some 74,.call { callee := .value (.func 10),args := #[.tmp 73],argTypes := #[27] },27, "triangle.go:51",#[⟨6,.data⟩],none⟩) (by kernel_rfl) rfl (fun K hK => ?_);go_simp;go_at_call 10;refine (zFI (ZU.out.now GB.out).zi).mono ?_;rintro e w402 ⟨rn,rfl,mn,b⟩;have lz402 := (show Below _ _ _ from b).size;replace GB := hid (below_step GB.out b);have MN := hid (mn.mono (Nat.zero_le _));obtain ⟨nw,xw,aw,cw,rfl⟩ := mn.parts;clear mn;clear b;refine hK.out _ _ (fun _ => KB.out _ GB.out) ?_;clear hK;refine zEA [(9,(.agg #[.bool nw,.slice aw xw.length cw,.bool nv,.slice av xv.length cv])),(10,(.agg #[.bool nx,.slice ax xx.length cx,.bool ny,.slice ay xy.length cy,.bool nw,.slice aw xw.length cw,.bool nv,.slice av xv.length cv]))] 2 ?_ (KB.out _ GB.out) ?_
  ·simp only [zPA,gA9,g09,g19,Act.put,sI9,s09,s19]
   (repeat' (first | exact trivial | refine And.intro (Or.inl ⟨by rfl,?_⟩) ?_)) <;> (intro w hSw;(try dsimp only at hSw);go_simp)
  simp only [actV,gA9,g09,g19,Act.put,sI9,s09,s19];refine zAA (i := 11) (o := ⟨some 78,.call { callee := .value (.func 102),args := #[.tmp 67,.tmp 68,.tmp 69,.tmp 77],argTypes := #[80,22,3,136] },0, "triangle.go:51",#[⟨0,.data⟩,⟨1,.data⟩,⟨2,.data⟩,⟨10,.data⟩,⟨7,.chain⟩],none⟩) (by kernel_rfl) rfl (fun K hK => ?_);go_simp;go_at_call 102;have hq1 := Int.mul_tdiv_add_tmod (R c) g;have hq2 := Int.mul_tdiv_add_tmod (L c c) g;rw [HTM.out.1] at hq1;rw [HTM.out.2.1] at hq2;have PB := HP.out.mix (x := x) (y := y) HC.out (by have := Hr.out;omega) Hr.out.2 HG.out.1 HG.out.2.1 HV.out.lin (show g * (R c).tdiv g = R c by omega) (show g * (L c c).tdiv g = L c c by omega);have HTG := hid (TG.out.now GB.out);have HRW := hid (RW.out.now GB.out);have FIN : Hid (∀ e Y,zsH w402 gr (gs c) n (zyC c (-(R c).tdiv g) ((L c c).tdiv g) D (L c) R) (ziC c x y D (L c) R) kw e Y → zNH B w bt nd ad ld cd (.slice (some ⟨la,0,none⟩) n lc) n c D M gs gr k kw P (.returned (.tuple #[])) Y) := by
   rintro e Y ⟨-,h1,h2,h3⟩;have ty : Ty 27 w402 Y := h3.tyS19 (fun b q => by
    rcases q with rfl | rfl
    ·exact HRW.out.cel19
    ·exact (HTG.out.2.2.2.2 c HC.out).2.cel19)
   refine ⟨_,_,rfl,HTG.out.line19 HC.out h3 (fun i hi hic q => ?_) ty h2,h1,PB,(zOA.ofBelow (below_step B0.out GB.out)).trans (h3.mono19 fun b q => q.elim .inl fun q => .inr ⟨c,HC.out,q⟩)⟩;rcases q with q | q
   ·exact HNE.out i hi q.symm
   ·exact hic (HTG.out.2.2.2.1 i c hi HC.out q)
  refine (mix19 (l := k) HTG.out HC.out HRW.out (HNE.out c HC.out) (ZX.out.now GB.out) (ZY.out.now GB.out) MN.out (ZV.out.now GB.out) HD0.out H64.out HkK.out (by have := HkK.out;have := HK.out;omega)).mono ?_;intro e Y hY;have FF := hid (FIN.out e Y hY);obtain ⟨rfl,-⟩ := hY;clear FIN HTG HRW PB hq1 hq2;refine hK.out _ _ (fun h => absurd h (by decide)) ?_;clear hK;refine zCA (by kernel_rfl) ?_ _;clear GB KB MN;go_wp2;go_end0;exact FF.out
end Go.Proofs.YtfeofdpnhhiclaaGreat
