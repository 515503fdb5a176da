import Derived.Test.YtdeomkkpainakaaGreatQWj18ToRk18
import Derived.Test.YtdeomkkpainakaaGreatQRe18
import Derived.Test.YtdeomkkpainakaaGreatQLm6ToRf11
set_option maxRecDepth 100000
set_option maxHeartbeats 6400000
set_option linter.unusedVariables false
set_option linter.unusedSimpArgs false
namespace Go.Proofs.YtdeomkkpainakaaGreat
open Go.RowKit
theorem zeB (w : World) {ops : Array Oper} {o : Oper} {a : Act} {K : Act → World → Prop} {Q : Exit → Act → World → Prop} {E : Prop}
  (hgd : o.guard = none) (l c : Operand) (hop : o.op = Op.makeSlice 22 l c)
  (L C : Int) (n m : Nat) (hl : a.eval l = .int .i64 L) (hc : a.eval c = .int .i64 C) (hL : L = (n : Int)) (hC : C = (m : Int)) (hnm : n ≤ m) (hm : m ≤ 2000000)
  (hK : ∀ w',Hid (Arr w' w.heap.size (List.replicate m zhE)) → Hid (Below w.heap.size w w') → Hid (w'.heap.size = w.heap.size + 1) → K (a.put o.dst (.slice (some ⟨w.heap.size,0,none⟩) n m)) w') :
  if Region.wanted o (yielded ops a.tmps) = true then Oper.wp Tryz.prog o a w K Q else E := by
 have hw : Region.wanted o (yielded ops a.tmps) = true := by simp [Region.wanted,hgd]
 rw [if_pos hw];obtain ⟨i,hi,hz,hs,hb⟩ := info_parts Tryz.infoZ9;have hrun := run_make (P := Tryz.prog) w 22 40 i (.agg #[.bool false,.slice none 0 0]) Tryz.underlying22 hi hz .i64 .i64 n m (by omega) (by omega) (by rw [hb];omega) (by omega);subst hL;subst hC;rw [hs,Int.toNat_natCast,Int.toNat_natCast,zsB] at hrun;unfold Oper.wp;simp [execOp,hop,hl,hc,hrun,Result.andThen];refine hK _ ⟨?_,fun p hp => ?_⟩ ((Below.refl _ _).alloc (Nat.le_refl _) _) ?_
 ·unfold Cel;exact heap_alloc_new w _
 ·rw [List.eq_of_mem_replicate hp];exact ⟨false,none,0,0,rfl⟩
 ·unfold Hid;simp
theorem Touch.below18 {S : Nat → Prop} {B : Nat} {w w' : World} (h : Touch S w w') (hS : ∀ b,S b → B ≤ b) (hB : B ≤ w.heap.size) : Below B w w' := ⟨h.os,h.tape,h.output,h.size,fun k hk => h.block k (by omega) fun q => by have := hS k q;omega⟩
def zMH (w : World) (m n r : Nat) (F : Nat → Nat → Int) (C : Nat → Int) (kw : Nat) (e : Ending) (w' : World) : Prop :=
 ∃ gR gC,e = .returned (.tuple #[.slice (some ⟨gR,0,none⟩) n n,.slice (some ⟨gC,0,none⟩) m m,.int .i64 0]) ∧ w.heap.size ≤ gR ∧ w.heap.size ≤ gC ∧ Rw17 w' gR n (F r) kw ∧ Rw17 w' gC m (fun a => if a < r then C a else 0) kw ∧ Below w.heap.size w w'
theorem reduce_fit18 {w : World} {v xv : Value} {m n k l r kw : Nat} {γ : Nat → Nat} {zs vs : List Int} (h : Mx w v m n zs k) (hE : Ec18 n m r id γ (en18 n zs)) (hR : Rd18 0 r id γ (en18 n zs)) (hx : Zl w xv vs l) (hxl : vs.length = n) (hkk : k ≤ kw) (hlk : l ≤ kw)
  (hFS : ∀ i,i ≤ r → ∀ j,j < n → ((zRB γ (en18 n zs) (fun j => vs.getD j 0) i j).natAbs : Int) < pw kw) (hCS : ∀ a,a < r → ((zhB γ (en18 n zs) (fun j => vs.getD j 0) a).natAbs : Int) < pw kw) (hK : kw ≤ 549755813888) :
  Calls Tryz.prog 9 #[v,xv] w (zMH w m n r (zRB γ (en18 n zs) fun j => vs.getD j 0) (zhB γ (en18 n zs) fun j => vs.getD j 0) kw) := by
 obtain ⟨X,hX⟩ : ∃ X,en18 n zs = X := ⟨_,rfl⟩
 obtain ⟨F,hF⟩ : ∃ F,zRB γ (en18 n zs) (fun j => vs.getD j 0) = F := ⟨_,rfl⟩
 obtain ⟨C,hC⟩ : ∃ C,zhB γ (en18 n zs) (fun j => vs.getD j 0) = C := ⟨_,rfl⟩
 have HF0 : Hid (∀ j,F 0 j = vs.getD j 0) := fun j => by rw [← hF];rfl
 have HFE : Hid (∀ i j,F (i + 1) j = F i j - C i * X i j) := fun i j => by rw [← hF,← hC,← hX];rfl
 have HCE : Hid (∀ i,C i = F i (γ i) / X i (γ i)) := fun i => by rw [← hF,← hC,← hX];rfl
 rw [hF] at hFS;rw [hC] at hCS;rw [hF,hC];have HFP := fun (w' : World) (b : Below w.heap.size w w') => zyB (h.now b) hE hR
 rw [hX] at hE hR HFP;have HE := hid hE;have HFS := hid hFS;have HCS := hid hCS;have HRM : Hid (r ≤ m) := by
  unfold Hid;rcases Nat.eq_zero_or_pos r with q | q
  ·omega
  ·have := hE.rl (r - 1) (by omega);simp only [id] at this;omega
 have HKK := hid (show k ≤ kw ∧ l ≤ kw ∧ kw ≤ 549755813888 from ⟨hkk,hlk,hK⟩);have X0 := hid hx;obtain ⟨ax,cx,rfl,-,-,-⟩ := hx.form9;obtain ⟨aa,ca,rfl,hm,hn⟩ := h.form;have HXL := hid hxl;rw [hxl] at X0 ⊢;obtain ⟨la,hla⟩ : ∃ la,m * n = la := ⟨_,rfl⟩
 rw [hla] at HFP ⊢;obtain ⟨W0,hW⟩ : ∃ W0,w.alloc (matO m n (.slice aa la ca)) = W0 := ⟨_,rfl⟩
 obtain ⟨b0,sz0⟩ := alo1 w (matO m n (.slice aa la ca));rw [hW] at b0 sz0;have pa : Cel W0 w.heap.size 24 (matc m n (.slice aa la ca)) := by rw [← hW];exact Cel.new w _ _
 have PA := hid pa;have HFF := hid (HFP W0 b0);replace X0 := hid (X0.out.now b0);have x0 := pa.at (i := 0) rfl;have x1 := pa.at (i := 1) rfl;have x2 := pa.at (i := 2) rfl;rw [← hW] at x0 x1 x2;have G := hid b0;have EW := hid hW;have SZ := hid sz0;obtain ⟨bx,hbx⟩ : ∃ bx,w.heap.size = bx := ⟨_,rfl⟩
 rw [hbx] at PA;have EBX := hid hbx;clear h hE hR hx hxl hkk hlk hFS hCS hK hX hF hC HFP b0 sz0 hW pa hla hbx;go_enter Tryz.func9,Tryz.ntmps9;go_wp2_with fail;rw [EW.out,EBX.out];clear EW x0 x1 x2;refine HFF.out.mono ?_;rintro e w1 ⟨lv,gs,cv,rfl,sh,iv,b⟩;replace PA := hid (PA.out.step b);replace X0 := hid (X0.out.now b);replace G := hid (below_step G.out b);obtain ⟨la',cap,rfl,hla'⟩ : ∃ la cap,lv = .slice la m cap ∧ (0 < m → ∃ Lb,la = some ⟨Lb,0,none⟩ ∧ m ≤ cap) := by
  rcases sh.1 with ⟨e0,e⟩ | ⟨h0,Lb,cap,q,e,e1,_⟩
  ·exact ⟨none,0,by rw [e,e0],fun q => by omega⟩
  ·exact ⟨_,cap,e,fun _ => ⟨Lb,rfl,e1⟩⟩
 obtain ⟨pa,pc,rfl,-,hpa⟩ := iv.form;rw [zKA] at hpa iv ⊢;have SH := hid sh;have IV := hid iv;have HLA := hid hla';have HPA := hid hpa;have HGL : Hid (∀ i,i < m → gs i < w1.heap.size) := fun i hi => (sh.2.2 i hi).2.blk
 have m0 := PA.out.at (i := 0) rfl;have HW1 : Hid (w.heap.size ≤ w1.heap.size) := G.out.size;clear HFF b sh iv hla' hpa;go_wp2_with fail;have KB : Hid (∀ w',Below w1.heap.size w1 w' → w'.cell? ⟨bx,0,none⟩ = some (.int .i64 (m : Int))) := fun w' h => cnow h m0
 refine zEA (fun w' => w'.cell? ⟨bx,0,none⟩ = some (.int .i64 (m : Int))) 6 (by kernel_rfl) ?_;obtain ⟨D1,hD⟩ : ∃ D1,w1.drew = D1 := ⟨_,rfl⟩
 have GB : Hid (Below w1.heap.size w1 D1) := by unfold Hid;rw [← hD];exact (Below.refl _ _).drew
 rw [hD];clear hD;have GZ : Hid (w1.heap.size ≤ D1.heap.size) := GB.out.size;refine zGA [(0,(.slice ax n cx)),(2,(.pointer (some ⟨bx,0,none⟩))),(3,(.int .i64 (m : Int)))] 3 ?_ (KB.out _ GB.out) ?_
 ·simp only [zQA,gA9,g09,g19,Act.put,sI9,s09,s19]
  (repeat' (first | exact trivial | refine And.intro (Or.inl ⟨by rfl,?_⟩) ?_)) <;> (intro w hSw;(try dsimp only at hSw);go_simp)
 simp only [actV,gA9,g09,g19,Act.put,sI9,s09,s19];refine zTA (i := 1) (j := 4) (oi := ⟨some 23,.call { callee := .value (.func 23),args := #[.tmp 22],argTypes := #[22] },22, "hnf.go:64",#[⟨0,.data⟩],none⟩) (oj := ⟨some 26,.makeSlice 22 (.tmp 25) (.tmp 25),22, "hnf.go:64",#[⟨3,.data⟩,⟨3,.data⟩],none⟩) (by kernel_rfl) rfl rfl (fun K hK => ?_) (fun K hK => ?_)
 ·skip
  go_simp;go_at_call 23;refine ((zSF (X0.out.now GB.out)).mono (fun _ _ q => zEC.rw18 q)).mono ?_;rintro e w2 ⟨gR,rfl,hgR,hR,b⟩;have lz2 := (show Below _ _ _ from b).size;replace GB := hid (below_step GB.out b);have RR := hid hR;have FR : Hid (w1.heap.size ≤ gR ∧ D1.heap.size ≤ gR ∧ gR < w2.heap.size) := hid ⟨by have := GZ.out;omega,hgR,hR.blk⟩;replace GZ : Hid (w1.heap.size ≤ w2.heap.size) := GB.out.size
  try replace CC := hid (CC.out.now b)
  clear hR hgR;clear b;refine hK.out _ _ (fun _ => KB.out _ GB.out) ?_;clear hK;refine zGA [(5,(.slice (some ⟨gR,0,none⟩) vs.length vs.length))] 1 ?_ (KB.out _ GB.out) ?_
  ·simp only [zQA,gA9,g09,g19,Act.put,sI9,s09,s19]
   (repeat' (first | exact trivial | refine And.intro (Or.inl ⟨by rfl,?_⟩) ?_)) <;> (intro w hSw;(try dsimp only at hSw);go_simp)
  simp only [actV,gA9,g09,g19,Act.put,sI9,s09,s19];refine zAA (i := 4) (o := ⟨some 26,.makeSlice 22 (.tmp 25) (.tmp 25),22, "hnf.go:64",#[⟨3,.data⟩,⟨3,.data⟩],none⟩) (by kernel_rfl) rfl (fun K hK => ?_);refine zeB w2 rfl (.tmp 25) (.tmp 25) rfl _ _ m m rfl rfl rfl rfl (Nat.le_refl _) (by omega) ?_;intro v3 hA hb hs;have FC : Hid (w1.heap.size ≤ w2.heap.size ∧ w2.heap.size + 1 = v3.heap.size) := hid ⟨GB.out.size,hs.out.symm⟩;replace GB := hid (below_step GB.out hb.out);replace GZ : Hid (w1.heap.size ≤ v3.heap.size) := GB.out.size;have CC : Hid (Rw17 v3 w2.heap.size m (fun _ => 0) kw) := Rw17.start hA.out kw
  try replace RR := hid (RR.out.now hb.out)
  clear hA hb hs;refine hK.out _ _ (fun _ => KB.out _ GB.out) ?_;clear hK
  try simp only [Act.put]
  refine zAA (i := 6) (o := ⟨some 5,.assign (.tmp 26),22, "hnf.go:64",#[⟨4,.data⟩,⟨5,.chain⟩,⟨0,.phase⟩,⟨1,.phase⟩,⟨2,.phase⟩,⟨3,.phase⟩,⟨4,.phase⟩,⟨5,.phase⟩],none⟩) (by kernel_rfl) rfl (fun K hK => ?_);go_simp;refine hK.out _ _ (fun h => absurd h (by decide)) ?_;clear hK
  try simp only [Act.put]
  refine zDA (by kernel_rfl) ?_ _
  try rw [HXL.out] at RR
  try rw [HXL.out]
  have RJ0 := hid (RR.out.more HKK.out.2.1);have SJ := hid (SH.out.now GB.out);have IJ := hid (IV.out.now GB.out);obtain ⟨gC,hgC⟩ : ∃ gC,w2.heap.size = gC := ⟨_,rfl⟩
  rw [hgC] at CC;have HN : Hid (w1.heap.size ≤ gR ∧ w1.heap.size ≤ gC ∧ gR ≠ gC) := hid (by have := FR.out;have := FC.out;omega);have HUS : Hid (w1.heap.size ≤ v3.heap.size) := GB.out.size;replace G := hid (below_step G.out GB.out);obtain ⟨U,hU⟩ : ∃ U,v3 = U := ⟨_,rfl⟩
  rw [hU] at RJ0 SJ IJ CC HUS G;rw [hU]
  try rw [hgC]
  have RJ : Hid (Rw17 U gR n (F 0) kw) := RJ0.out.congr fun j _ => (HF0.out j).symm
  have CJ : Hid (Rw17 U gC m (fun a => if a < 0 then C a else 0) kw) := CC.out.congr fun a _ => by rw [if_neg (by omega)]
  clear GB KB GZ RR RJ0 CC FR FC SH IV PA m0 X0 hU hgC;have J0 : Hid (zWG W0.heap.size U gR gC m n r γ (.slice la' m cap) (.slice pa r pc) gs X F C k kw r (.int .i64 0) U) := ⟨0,rfl,Nat.zero_le _,rfl,RJ.out,CJ.out,SJ.out,IJ.out,Touch.refl _ _,fun i hi => by have := HGL.out i hi;have := HN.out;omega,fun i hi => by have := HGL.out i hi;have := HN.out;omega,HN.out.2.2⟩
  clear RJ CJ SJ IJ;go_wp2_with fail
  go_loopg [29] r (fun gk s29 wx => zWG W0.heap.size U gR gC m n r γ (.slice la' m cap) (.slice pa r pc) gs X F C k kw gk s29 wx)
  case atStart => exact J0.out
  case round =>
   clear J0;obtain ⟨i,rfl,hir0,hgk,hj⟩ := hrel;have J := hid hj;have HG := hid hgk;clear hj hgk
   by_cases hir : i < r
   ·have hir' : (i : Int) < (r : Int) := by omega
    have him : i < m := by have := HRM.out;omega
    have him' : (i : Int) < (m : Int) := by omega
    obtain ⟨Lb,rfl,hmc⟩ := HLA.out (by omega);obtain ⟨gp,rfl⟩ := HPA.out (by omega);have k9 := J.out.iv.at (i := i) (by rw [zKA];exact hir);rw [show (zmA γ r).getD i 0 = γ i by simp [zmA,hir]] at k9;have hcn : γ i < n := HE.out.cl i hir;have hcp := HE.out.pos i hir;simp only [id] at hcp;have hcc := HCE.out i;obtain ⟨c,hce⟩ : ∃ c,γ i = c := ⟨_,rfl⟩
    rw [hce] at k9 hcn hcp hcc;have hcn' : (c : Int) < (n : Int) := by omega
    obtain ⟨nf,af,lf,cf,j0,j1,-,-,zf⟩ := J.out.rr.at hcn;obtain ⟨np,ap,lp,cp,p0,p1,-,-,zp⟩ := (J.out.sh.2.2 i him).2.at hcn;have k0 := J.out.sh.lineS him;have HFL : Hid (∀ w',Below wr.heap.size wr w' → Calls Tryz.prog 24 #[.agg #[.bool nf,.slice af lf cf],.agg #[.bool np,.slice ap lp cp]] w' (zxA 0 w' (C i) (fmd (F i c) (X i c)) (max kw 1 + 1) (max kw k + 1))) := fun w' b => by
     have q := zmF (zf.now b).zi (zp.now b).zi (by omega) (by have := HKK.out;omega) (by have := HKK.out;omega);rw [zCD hcp,← hcc] at q;exact q
    have HMM : Hid (r - (i + 1) < gk) := by unfold Hid;rw [HG.out];omega
    have hwi := zVA (i := i) (by omega);clear zf zp hcc hce HG;go_wp2_with fail;have KB : Hid (∀ w',Below wr.heap.size wr w' → w'.cell? ⟨gR,c * 2,none⟩ = some (.bool nf) ∧ w'.cell? ⟨gR,c * 2 + 1,none⟩ = some (.slice af lf cf) ∧ w'.cell? ⟨Lb,i,none⟩ = some (.slice (some ⟨gs i,0,none⟩) n n) ∧ w'.cell? ⟨gs i,c * 2,none⟩ = some (.bool np) ∧ w'.cell? ⟨gs i,c * 2 + 1,none⟩ = some (.slice ap lp cp)) := fun w' h => ⟨cnow h j0,cnow h j1,cnow h k0,cnow h p0,cnow h p1⟩
    refine zbD (fun w' => w'.cell? ⟨gR,c * 2,none⟩ = some (.bool nf) ∧ w'.cell? ⟨gR,c * 2 + 1,none⟩ = some (.slice af lf cf) ∧ w'.cell? ⟨Lb,i,none⟩ = some (.slice (some ⟨gs i,0,none⟩) n n) ∧ w'.cell? ⟨gs i,c * 2,none⟩ = some (.bool np) ∧ w'.cell? ⟨gs i,c * 2 + 1,none⟩ = some (.slice ap lp cp)) [19] (by kernel_rfl) ?_;obtain ⟨D61,hD⟩ : ∃ D61,wr.drew = D61 := ⟨_,rfl⟩
    have GB : Hid (Below wr.heap.size wr D61) := by unfold Hid;rw [← hD];exact (Below.refl _ _).drew
    rw [hD];clear hD;refine zJA (i := 0) (oi := ⟨some 35,.move (.tmp 5),22, "hnf.go:67",#[],none⟩) (v := (.slice (some ⟨gC,0,none⟩) m m)) rfl (by kernel_rfl) (fun _ _ _ h => h) (Or.inl ⟨by rfl,?_⟩)  ?_
    ·intro w hSw;(try dsimp only at hSw);go_simp
    simp only [Act.put,sIb,sC0,sC1];refine zJA (i := 1) (oi := ⟨some 36,.move (.tmp 9),3, "hnf.go:67",#[],none⟩) (v := (.int .i64 (i : Int))) rfl (by kernel_rfl) (fun _ _ _ h => h) (Or.inl ⟨by rfl,?_⟩)  ?_
    ·intro w hSw;(try dsimp only at hSw);go_simp
    simp only [Act.put,sIb,sC0,sC1];refine zJA (i := 2) (oi := ⟨some 37,.move (.tmp 4),22, "hnf.go:67",#[],none⟩) (v := (.slice (some ⟨gR,0,none⟩) n n)) rfl (by kernel_rfl) (fun _ _ _ h => h) (Or.inl ⟨by rfl,?_⟩)  ?_
    ·intro w hSw;(try dsimp only at hSw);go_simp
    simp only [Act.put,sIb,sC0,sC1];refine zJA (i := 3) (oi := ⟨some 38,.move (.tmp 10),3, "hnf.go:67",#[],none⟩) (v := (.int .i64 (c : Int))) rfl (by kernel_rfl) (fun _ _ _ h => h) (Or.inl ⟨by rfl,?_⟩)  ?_
    ·intro w hSw;(try dsimp only at hSw);go_simp
    simp only [Act.put,sIb,sC0,sC1];refine zJA (i := 4) (oi := ⟨some 39,.indexAddr 22 (.tmp 37) (.tmp 38),0, "hnf.go:67",#[⟨2,.data⟩,⟨3,.data⟩],none⟩) (v := (.pointer (some ⟨gR,c * 2,none⟩))) rfl (by kernel_rfl) (fun _ _ _ h => h) (Or.inl ⟨by rfl,?_⟩)  ?_
    ·intro w hSw;(try dsimp only at hSw);go_simp
    simp only [Act.put,sIb,sC0,sC1];refine zBB (i := 5) (oi := ⟨some 40,.load 40 (.tmp 39),40, "hnf.go:67",#[⟨4,.data⟩],none⟩) (v := (.agg #[.bool nf,.slice af lf cf])) rfl (by kernel_rfl) (fun _ _ _ h => h) (Or.inl ⟨by rfl,?_⟩) (KB.out _ GB.out) ?_
    ·intro w hSw;(try dsimp only at hSw);go_simp
    simp only [Act.put,sIb,sC0,sC1];refine zJA (i := 6) (oi := ⟨some 41,.move (.tmp 7),52, "hnf.go:67",#[],none⟩) (v := (.slice (some ⟨Lb,0,none⟩) m cap)) rfl (by kernel_rfl) (fun _ _ _ h => h) (Or.inl ⟨by rfl,?_⟩)  ?_
    ·intro w hSw;(try dsimp only at hSw);go_simp
    simp only [Act.put,sIb,sC0,sC1];refine zJA (i := 7) (oi := ⟨some 42,.move (.tmp 9),3, "hnf.go:67",#[],none⟩) (v := (.int .i64 (i : Int))) rfl (by kernel_rfl) (fun _ _ _ h => h) (Or.inl ⟨by rfl,?_⟩)  ?_
    ·intro w hSw;(try dsimp only at hSw);go_simp
    simp only [Act.put,sIb,sC0,sC1];refine zJA (i := 8) (oi := ⟨some 43,.indexAddr 52 (.tmp 41) (.tmp 42),0, "hnf.go:67",#[⟨6,.data⟩,⟨7,.data⟩],none⟩) (v := (.pointer (some ⟨Lb,i,none⟩))) rfl (by kernel_rfl) (fun _ _ _ h => h) (Or.inl ⟨by rfl,?_⟩)  ?_
    ·intro w hSw;(try dsimp only at hSw);go_simp
    simp only [Act.put,sIb,sC0,sC1];refine zBB (i := 9) (oi := ⟨some 44,.load 22 (.tmp 43),22, "hnf.go:67",#[⟨8,.data⟩],none⟩) (v := (.slice (some ⟨gs i,0,none⟩) n n)) rfl (by kernel_rfl) (fun _ _ _ h => h) (Or.inl ⟨by rfl,?_⟩) (KB.out _ GB.out) ?_
    ·intro w hSw;(try dsimp only at hSw);go_simp
    simp only [Act.put,sIb,sC0,sC1];refine zJA (i := 10) (oi := ⟨some 45,.move (.tmp 10),3, "hnf.go:67",#[],none⟩) (v := (.int .i64 (c : Int))) rfl (by kernel_rfl) (fun _ _ _ h => h) (Or.inl ⟨by rfl,?_⟩)  ?_
    ·intro w hSw;(try dsimp only at hSw);go_simp
    simp only [Act.put,sIb,sC0,sC1];refine zJA (i := 11) (oi := ⟨some 46,.indexAddr 22 (.tmp 44) (.tmp 45),0, "hnf.go:67",#[⟨9,.data⟩,⟨10,.data⟩],none⟩) (v := (.pointer (some ⟨gs i,c * 2,none⟩))) rfl (by kernel_rfl) (fun _ _ _ h => h) (Or.inl ⟨by rfl,?_⟩)  ?_
    ·intro w hSw;(try dsimp only at hSw);go_simp
    simp only [Act.put,sIb,sC0,sC1];refine zBB (i := 12) (oi := ⟨some 47,.load 40 (.tmp 46),40, "hnf.go:67",#[⟨11,.data⟩],none⟩) (v := (.agg #[.bool np,.slice ap lp cp])) rfl (by kernel_rfl) (fun _ _ _ h => h) (Or.inl ⟨by rfl,?_⟩) (KB.out _ GB.out) ?_
    ·intro w hSw;(try dsimp only at hSw);go_simp
    simp only [Act.put,sIb,sC0,sC1];refine zFC (i := 13) (o := ⟨some 48,.call { callee := .value (.func 24),args := #[.tmp 40,.tmp 47],argTypes := #[40,40] },60, "hnf.go:67",#[⟨5,.data⟩,⟨12,.data⟩],none⟩) (by kernel_rfl) rfl (fun K hK => ?_);go_simp;go_at_call 24;refine (HFL.out _ GB.out).mono ?_;rintro e w62 ⟨r1,r2,rfl,mq,mr,b⟩;have lz62 := (show Below _ _ _ from b).size;replace GB := hid (below_step GB.out b);have M2 := hid ((mq.mono (Nat.zero_le _)).fit (l := kw) (HCS.out i hir));obtain ⟨nq,xq,aq,cq,rfl⟩ := mq.parts;obtain ⟨nr,xr,ar,cr,rfl⟩ := mr.parts;have J2 := hid (J.out.now GB.out);clear mq mr;clear b;refine hK.out _ _ (fun _ _ => KB.out _ GB.out) ?_;clear hK;refine zJA (i := 14) (oi := ⟨some 34,.move (.tmp 48),60, "hnf.go:67",#[⟨13,.data⟩],none⟩) (v := (.tuple #[(.agg #[.bool nq,.slice aq xq.length cq]),(.agg #[.bool nr,.slice ar xr.length cr]),(.int .i64 0)])) rfl (by kernel_rfl) (fun _ _ _ h => h) (Or.inl ⟨by rfl,?_⟩)  ?_
    ·intro w hSw;(try dsimp only at hSw);go_simp
    simp only [Act.put,sIb,sC0,sC1];refine zJA (i := 15) (oi := ⟨some 49,.extract (.tmp 34) 0,40, "hnf.go:67",#[⟨14,.data⟩],none⟩) (v := (.agg #[.bool nq,.slice aq xq.length cq])) rfl (by kernel_rfl) (fun _ _ _ h => h) (Or.inl ⟨by rfl,?_⟩)  ?_
    ·intro w hSw;(try dsimp only at hSw);go_simp
    simp only [Act.put,sIb,sC0,sC1];refine zJA (i := 16) (oi := ⟨some 50,.extract (.tmp 34) 1,40, "hnf.go:67",#[⟨14,.data⟩,⟨19,.gcOnly .lateStores⟩],none⟩) (v := (.agg #[.bool nr,.slice ar xr.length cr])) rfl (by kernel_rfl) (fun _ _ _ h => h) (Or.inl ⟨by rfl,?_⟩)  ?_
    ·intro w hSw;(try dsimp only at hSw);go_simp
    simp only [Act.put,sIb,sC0,sC1];refine zJA (i := 17) (oi := ⟨some 51,.extract (.tmp 34) 2,27, "hnf.go:67",#[⟨14,.data⟩,⟨19,.gcOnly .lateStores⟩],none⟩) (v := (.int .i64 0)) rfl (by kernel_rfl) (fun _ _ _ h => h) (Or.inl ⟨by rfl,?_⟩)  ?_
    ·intro w hSw;(try dsimp only at hSw);go_simp
    simp only [Act.put,sIb,sC0,sC1];refine zJA (i := 18) (oi := ⟨some 52,.indexAddr 22 (.tmp 35) (.tmp 36),0, "hnf.go:67",#[⟨0,.data⟩,⟨1,.data⟩,⟨0,.phase⟩,⟨1,.phase⟩,⟨2,.phase⟩,⟨3,.phase⟩,⟨4,.phase⟩,⟨5,.phase⟩,⟨6,.phase⟩,⟨7,.phase⟩,⟨8,.phase⟩,⟨9,.phase⟩,⟨10,.phase⟩,⟨11,.phase⟩,⟨12,.phase⟩,⟨13,.phase⟩,⟨14,.phase⟩,⟨15,.phase⟩,⟨16,.textOnly .lateStores⟩,⟨17,.textOnly .lateStores⟩],none⟩) (v := (.pointer (some ⟨gC,i * 2,none⟩))) rfl (by kernel_rfl) (fun _ _ _ h => h) (Or.inl ⟨by rfl,?_⟩)  ?_
    ·intro w hSw;(try dsimp only at hSw);go_simp
    simp only [Act.put,sIb,sC0,sC1];refine zFC (i := 19) (o := ⟨none,.store 40 (.tmp 52) (.tmp 49),0, "hnf.go:67",#[⟨18,.data⟩,⟨15,.data⟩,⟨13,.chain⟩,⟨0,.phase⟩,⟨1,.phase⟩,⟨2,.phase⟩,⟨3,.phase⟩,⟨4,.phase⟩,⟨5,.phase⟩,⟨6,.phase⟩,⟨7,.phase⟩,⟨8,.phase⟩,⟨9,.phase⟩,⟨10,.phase⟩,⟨11,.phase⟩,⟨12,.phase⟩,⟨13,.phase⟩,⟨14,.phase⟩,⟨15,.phase⟩,⟨16,.textOnly .lateStores⟩,⟨17,.textOnly .lateStores⟩],none⟩) (by kernel_rfl) rfl (fun K hK => ?_);obtain ⟨_,_,_,_,e0,e1,e2,e3,-⟩ := J2.out.c.at him;go_simp;clear e0 e1 e2 e3;obtain ⟨V63,hW⟩ : ∃ V63,((w62.setCell ⟨gC,i * 2,none⟩ (.bool nq)).setCell ⟨gC,i * 2 + 1,none⟩ (.slice aq xq.length cq)) = V63 := ⟨_,rfl⟩
    have J3 : Hid (zPD W0.heap.size U gR gC m n r γ (.slice (some ⟨Lb,0,none⟩) m cap) (.slice (some ⟨gp,0,none⟩) r pc) gs X (F i) C k kw (i + 1) V63) := by
     unfold Hid;rw [← hW];exact J2.out.put him M2.out
    rw [hW];clear hW;refine hK.out _ _ (fun h => absurd h (by decide)) ?_;clear hK
    try simp only [Act.put]
    refine zcD (by kernel_rfl) ?_ _;clear GB KB M2 J2 J HFL j0 j1 k0 p0 p1 k9;have L0 := J3.out.sh.lineS him;obtain ⟨nc,ac,lc,cc,c0,c1,-,-,zc⟩ := J3.out.c.at him;rw [if_pos (Nat.lt_succ_self i)] at zc;have ZC := hid zc;clear zc;go_wp2_with fail;have KB : Hid (∀ w',Below V63.heap.size V63 w' → w'.cell? ⟨Lb,i,none⟩ = some (.slice (some ⟨gs i,0,none⟩) n n) ∧ w'.cell? ⟨gC,i * 2,none⟩ = some (.bool nc) ∧ w'.cell? ⟨gC,i * 2 + 1,none⟩ = some (.slice ac lc cc)) := fun w' h => ⟨cnow h L0,cnow h c0,cnow h c1⟩
    refine zEA (fun w' => w'.cell? ⟨Lb,i,none⟩ = some (.slice (some ⟨gs i,0,none⟩) n n) ∧ w'.cell? ⟨gC,i * 2,none⟩ = some (.bool nc) ∧ w'.cell? ⟨gC,i * 2 + 1,none⟩ = some (.slice ac lc cc)) 9 (by kernel_rfl) ?_;obtain ⟨D84,hD⟩ : ∃ D84,V63.drew = D84 := ⟨_,rfl⟩
    have GB : Hid (Below V63.heap.size V63 D84) := by unfold Hid;rw [← hD];exact (Below.refl _ _).drew
    rw [hD];clear hD;refine zGA [(0,(.slice (some ⟨gR,0,none⟩) n n)),(1,(.slice (some ⟨Lb,0,none⟩) m cap)),(2,(.int .i64 (i : Int))),(3,(.pointer (some ⟨Lb,i,none⟩))),(4,(.slice (some ⟨gs i,0,none⟩) n n)),(5,(.slice (some ⟨gC,0,none⟩) m m)),(6,(.int .i64 (i : Int))),(7,(.pointer (some ⟨gC,i * 2,none⟩))),(8,(.agg #[.bool nc,.slice ac lc cc]))] 9 ?_ (KB.out _ GB.out) ?_
    ·simp only [zQA,gA9,g09,g19,Act.put,sI9,s09,s19]
     (repeat' (first | exact trivial | refine And.intro (Or.inl ⟨by rfl,?_⟩) ?_)) <;> (intro w hSw;(try dsimp only at hSw);go_simp)
    simp only [actV,gA9,g09,g19,Act.put,sI9,s09,s19];refine zAA (i := 9) (o := ⟨some 62,.call { callee := .value (.func 25),args := #[.tmp 53,.tmp 57,.tmp 61],argTypes := #[22,22,40] },0, "hnf.go:68",#[⟨0,.data⟩,⟨4,.data⟩,⟨8,.data⟩],none⟩) (by kernel_rfl) rfl (fun K hK => ?_);go_simp;go_at_call 25;refine (ziD (J3.out.now GB.out).rr (((J3.out.now GB.out).sh.2.2 i him).2.more HKK.out.1) (J3.out.neR i him) (ZC.out.now GB.out) (fun j hj => by have := HFS.out (i + 1) (by omega) j hj;rw [HFE.out] at this;exact this) hn (by have := HKK.out;omega)).mono ?_;rintro e wz84 ⟨rfl,hr,ht⟩;have J4 : Hid (zWG W0.heap.size U gR gC m n r γ (.slice (some ⟨Lb,0,none⟩) m cap) (.slice (some ⟨gp,0,none⟩) r pc) gs X F C k kw (r - (i + 1)) (.int .i64 ((i + 1 : Nat) : Int)) wz84) := ⟨i + 1,rfl,by omega,rfl,(J3.out.now GB.out).off (hr.congr fun j _ => (HFE.out i j).symm) ht⟩
    clear hr ht;refine hK.out _ _ (fun h => absurd h (by decide)) ?_;clear hK;refine zDA (by kernel_rfl) ?_ _;clear GB KB J3 ZC L0 c0 c1;go_wp2_with fail;go_roundg (r - (i + 1))
    case rel => exact J4.out
    case measure => exact HMM.out
   ·have hir' : ¬ (i : Int) < (r : Int) := by omega
    obtain rfl : i = r := by omega
    have FIN : Hid (zMH w m n i F C kw (.returned (.tuple #[(.slice (some ⟨gR,0,none⟩) n n),(.slice (some ⟨gC,0,none⟩) m m),.int .i64 0])) wr) := ⟨gR,gC,rfl,by have := HN.out;have := HW1.out;omega,by have := HN.out;have := HW1.out;omega,J.out.rr,J.out.c,G.out.trans (J.out.t.below18 (fun b q => by have := HN.out;have := HW1.out;rcases q with rfl | rfl <;> omega) (by have := HUS.out;have := HW1.out;omega))⟩
    clear J HG G HE HFS HCS HLA HPA HGL;go_wp2;go_ret3;exact FIN.out
 ·skip
  refine zeB D1 rfl (.tmp 25) (.tmp 25) rfl _ _ m m rfl rfl rfl rfl (Nat.le_refl _) (by omega) ?_;intro v4 hA hb hs;have FC : Hid (w1.heap.size ≤ D1.heap.size ∧ D1.heap.size + 1 = v4.heap.size) := hid ⟨GB.out.size,hs.out.symm⟩;replace GB := hid (below_step GB.out hb.out);replace GZ : Hid (w1.heap.size ≤ v4.heap.size) := GB.out.size;have CC : Hid (Rw17 v4 D1.heap.size m (fun _ => 0) kw) := Rw17.start hA.out kw
  try replace RR := hid (RR.out.now hb.out)
  clear hA hb hs;refine hK.out _ _ (fun _ => KB.out _ GB.out) ?_;clear hK
  try simp only [Act.put]
  refine zAA (i := 1) (o := ⟨some 23,.call { callee := .value (.func 23),args := #[.tmp 22],argTypes := #[22] },22, "hnf.go:64",#[⟨0,.data⟩],none⟩) (by kernel_rfl) rfl (fun K hK => ?_);go_simp;go_at_call 23;refine ((zSF (X0.out.now GB.out)).mono (fun _ _ q => zEC.rw18 q)).mono ?_;rintro e w5 ⟨gR,rfl,hgR,hR,b⟩;have lz5 := (show Below _ _ _ from b).size;replace GB := hid (below_step GB.out b);have RR := hid hR;have FR : Hid (w1.heap.size ≤ gR ∧ v4.heap.size ≤ gR ∧ gR < w5.heap.size) := hid ⟨by have := GZ.out;omega,hgR,hR.blk⟩;replace GZ : Hid (w1.heap.size ≤ w5.heap.size) := GB.out.size
  try replace CC := hid (CC.out.now b)
  clear hR hgR;clear b;refine hK.out _ _ (fun _ => KB.out _ GB.out) ?_;clear hK;refine zGA [(5,(.slice (some ⟨gR,0,none⟩) vs.length vs.length))] 1 ?_ (KB.out _ GB.out) ?_
  ·simp only [zQA,gA9,g09,g19,Act.put,sI9,s09,s19]
   (repeat' (first | exact trivial | refine And.intro (Or.inl ⟨by rfl,?_⟩) ?_)) <;> (intro w hSw;(try dsimp only at hSw);go_simp)
  simp only [actV,gA9,g09,g19,Act.put,sI9,s09,s19];refine zAA (i := 6) (o := ⟨some 5,.assign (.tmp 26),22, "hnf.go:64",#[⟨4,.data⟩,⟨5,.chain⟩,⟨0,.phase⟩,⟨1,.phase⟩,⟨2,.phase⟩,⟨3,.phase⟩,⟨4,.phase⟩,⟨5,.phase⟩],none⟩) (by kernel_rfl) rfl (fun K hK => ?_);go_simp;refine hK.out _ _ (fun h => absurd h (by decide)) ?_;clear hK
  try simp only [Act.put]
  refine zDA (by kernel_rfl) ?_ _
  try rw [HXL.out] at RR
  try rw [HXL.out]
  have RJ0 := hid (RR.out.more HKK.out.2.1);have SJ := hid (SH.out.now GB.out);have IJ := hid (IV.out.now GB.out);obtain ⟨gC,hgC⟩ : ∃ gC,D1.heap.size = gC := ⟨_,rfl⟩
  rw [hgC] at CC;have HN : Hid (w1.heap.size ≤ gR ∧ w1.heap.size ≤ gC ∧ gR ≠ gC) := hid (by have := FR.out;have := FC.out;omega);have HUS : Hid (w1.heap.size ≤ w5.heap.size) := GB.out.size;replace G := hid (below_step G.out GB.out);obtain ⟨U,hU⟩ : ∃ U,w5 = U := ⟨_,rfl⟩
  rw [hU] at RJ0 SJ IJ CC HUS G;rw [hU]
  try rw [hgC]
  have RJ : Hid (Rw17 U gR n (F 0) kw) := RJ0.out.congr fun j _ => (HF0.out j).symm
  have CJ : Hid (Rw17 U gC m (fun a => if a < 0 then C a else 0) kw) := CC.out.congr fun a _ => by rw [if_neg (by omega)]
  clear GB KB GZ RR RJ0 CC FR FC SH IV PA m0 X0 hU hgC;have J0 : Hid (zWG W0.heap.size U gR gC m n r γ (.slice la' m cap) (.slice pa r pc) gs X F C k kw r (.int .i64 0) U) := ⟨0,rfl,Nat.zero_le _,rfl,RJ.out,CJ.out,SJ.out,IJ.out,Touch.refl _ _,fun i hi => by have := HGL.out i hi;have := HN.out;omega,fun i hi => by have := HGL.out i hi;have := HN.out;omega,HN.out.2.2⟩
  clear RJ CJ SJ IJ;go_wp2_with fail
  go_loopg [29] r (fun gk s29 wx => zWG W0.heap.size U gR gC m n r γ (.slice la' m cap) (.slice pa r pc) gs X F C k kw gk s29 wx)
  case atStart => exact J0.out
  case round =>
   clear J0;obtain ⟨i,rfl,hir0,hgk,hj⟩ := hrel;have J := hid hj;have HG := hid hgk;clear hj hgk
   by_cases hir : i < r
   ·have hir' : (i : Int) < (r : Int) := by omega
    have him : i < m := by have := HRM.out;omega
    have him' : (i : Int) < (m : Int) := by omega
    obtain ⟨Lb,rfl,hmc⟩ := HLA.out (by omega);obtain ⟨gp,rfl⟩ := HPA.out (by omega);have k9 := J.out.iv.at (i := i) (by rw [zKA];exact hir);rw [show (zmA γ r).getD i 0 = γ i by simp [zmA,hir]] at k9;have hcn : γ i < n := HE.out.cl i hir;have hcp := HE.out.pos i hir;simp only [id] at hcp;have hcc := HCE.out i;obtain ⟨c,hce⟩ : ∃ c,γ i = c := ⟨_,rfl⟩
    rw [hce] at k9 hcn hcp hcc;have hcn' : (c : Int) < (n : Int) := by omega
    obtain ⟨nf,af,lf,cf,j0,j1,-,-,zf⟩ := J.out.rr.at hcn;obtain ⟨np,ap,lp,cp,p0,p1,-,-,zp⟩ := (J.out.sh.2.2 i him).2.at hcn;have k0 := J.out.sh.lineS him;have HFL : Hid (∀ w',Below wr.heap.size wr w' → Calls Tryz.prog 24 #[.agg #[.bool nf,.slice af lf cf],.agg #[.bool np,.slice ap lp cp]] w' (zxA 0 w' (C i) (fmd (F i c) (X i c)) (max kw 1 + 1) (max kw k + 1))) := fun w' b => by
     have q := zmF (zf.now b).zi (zp.now b).zi (by omega) (by have := HKK.out;omega) (by have := HKK.out;omega);rw [zCD hcp,← hcc] at q;exact q
    have HMM : Hid (r - (i + 1) < gk) := by unfold Hid;rw [HG.out];omega
    have hwi := zVA (i := i) (by omega);clear zf zp hcc hce HG;go_wp2_with fail;have KB : Hid (∀ w',Below wr.heap.size wr w' → w'.cell? ⟨gR,c * 2,none⟩ = some (.bool nf) ∧ w'.cell? ⟨gR,c * 2 + 1,none⟩ = some (.slice af lf cf) ∧ w'.cell? ⟨Lb,i,none⟩ = some (.slice (some ⟨gs i,0,none⟩) n n) ∧ w'.cell? ⟨gs i,c * 2,none⟩ = some (.bool np) ∧ w'.cell? ⟨gs i,c * 2 + 1,none⟩ = some (.slice ap lp cp)) := fun w' h => ⟨cnow h j0,cnow h j1,cnow h k0,cnow h p0,cnow h p1⟩
    refine zbD (fun w' => w'.cell? ⟨gR,c * 2,none⟩ = some (.bool nf) ∧ w'.cell? ⟨gR,c * 2 + 1,none⟩ = some (.slice af lf cf) ∧ w'.cell? ⟨Lb,i,none⟩ = some (.slice (some ⟨gs i,0,none⟩) n n) ∧ w'.cell? ⟨gs i,c * 2,none⟩ = some (.bool np) ∧ w'.cell? ⟨gs i,c * 2 + 1,none⟩ = some (.slice ap lp cp)) [19] (by kernel_rfl) ?_;obtain ⟨D61,hD⟩ : ∃ D61,wr.drew = D61 := ⟨_,rfl⟩
    have GB : Hid (Below wr.heap.size wr D61) := by unfold Hid;rw [← hD];exact (Below.refl _ _).drew
    rw [hD];clear hD;refine zJA (i := 0) (oi := ⟨some 35,.move (.tmp 5),22, "hnf.go:67",#[],none⟩) (v := (.slice (some ⟨gC,0,none⟩) m m)) rfl (by kernel_rfl) (fun _ _ _ h => h) (Or.inl ⟨by rfl,?_⟩)  ?_
    ·intro w hSw;(try dsimp only at hSw);go_simp
    simp only [Act.put,sIb,sC0,sC1];refine zJA (i := 1) (oi := ⟨some 36,.move (.tmp 9),3, "hnf.go:67",#[],none⟩) (v := (.int .i64 (i : Int))) rfl (by kernel_rfl) (fun _ _ _ h => h) (Or.inl ⟨by rfl,?_⟩)  ?_
    ·intro w hSw;(try dsimp only at hSw);go_simp
    simp only [Act.put,sIb,sC0,sC1];refine zJA (i := 2) (oi := ⟨some 37,.move (.tmp 4),22, "hnf.go:67",#[],none⟩) (v := (.slice (some ⟨gR,0,none⟩) n n)) rfl (by kernel_rfl) (fun _ _ _ h => h) (Or.inl ⟨by rfl,?_⟩)  ?_
    ·intro w hSw;(try dsimp only at hSw);go_simp
    simp only [Act.put,sIb,sC0,sC1];refine zJA (i := 3) (oi := ⟨some 38,.move (.tmp 10),3, "hnf.go:67",#[],none⟩) (v := (.int .i64 (c : Int))) rfl (by kernel_rfl) (fun _ _ _ h => h) (Or.inl ⟨by rfl,?_⟩)  ?_
    ·intro w hSw;(try dsimp only at hSw);go_simp
    simp only [Act.put,sIb,sC0,sC1];refine zJA (i := 4) (oi := ⟨some 39,.indexAddr 22 (.tmp 37) (.tmp 38),0, "hnf.go:67",#[⟨2,.data⟩,⟨3,.data⟩],none⟩) (v := (.pointer (some ⟨gR,c * 2,none⟩))) rfl (by kernel_rfl) (fun _ _ _ h => h) (Or.inl ⟨by rfl,?_⟩)  ?_
    ·intro w hSw;(try dsimp only at hSw);go_simp
    simp only [Act.put,sIb,sC0,sC1];refine zBB (i := 5) (oi := ⟨some 40,.load 40 (.tmp 39),40, "hnf.go:67",#[⟨4,.data⟩],none⟩) (v := (.agg #[.bool nf,.slice af lf cf])) rfl (by kernel_rfl) (fun _ _ _ h => h) (Or.inl ⟨by rfl,?_⟩) (KB.out _ GB.out) ?_
    ·intro w hSw;(try dsimp only at hSw);go_simp
    simp only [Act.put,sIb,sC0,sC1];refine zJA (i := 6) (oi := ⟨some 41,.move (.tmp 7),52, "hnf.go:67",#[],none⟩) (v := (.slice (some ⟨Lb,0,none⟩) m cap)) rfl (by kernel_rfl) (fun _ _ _ h => h) (Or.inl ⟨by rfl,?_⟩)  ?_
    ·intro w hSw;(try dsimp only at hSw);go_simp
    simp only [Act.put,sIb,sC0,sC1];refine zJA (i := 7) (oi := ⟨some 42,.move (.tmp 9),3, "hnf.go:67",#[],none⟩) (v := (.int .i64 (i : Int))) rfl (by kernel_rfl) (fun _ _ _ h => h) (Or.inl ⟨by rfl,?_⟩)  ?_
    ·intro w hSw;(try dsimp only at hSw);go_simp
    simp only [Act.put,sIb,sC0,sC1];refine zJA (i := 8) (oi := ⟨some 43,.indexAddr 52 (.tmp 41) (.tmp 42),0, "hnf.go:67",#[⟨6,.data⟩,⟨7,.data⟩],none⟩) (v := (.pointer (some ⟨Lb,i,none⟩))) rfl (by kernel_rfl) (fun _ _ _ h => h) (Or.inl ⟨by rfl,?_⟩)  ?_
    ·intro w hSw;(try dsimp only at hSw);go_simp
    simp only [Act.put,sIb,sC0,sC1];refine zBB (i := 9) (oi := ⟨some 44,.load 22 (.tmp 43),22, "hnf.go:67",#[⟨8,.data⟩],none⟩) (v := (.slice (some ⟨gs i,0,none⟩) n n)) rfl (by kernel_rfl) (fun _ _ _ h => h) (Or.inl ⟨by rfl,?_⟩) (KB.out _ GB.out) ?_
    ·intro w hSw;(try dsimp only at hSw);go_simp
    simp only [Act.put,sIb,sC0,sC1];refine zJA (i := 10) (oi := ⟨some 45,.move (.tmp 10),3, "hnf.go:67",#[],none⟩) (v := (.int .i64 (c : Int))) rfl (by kernel_rfl) (fun _ _ _ h => h) (Or.inl ⟨by rfl,?_⟩)  ?_
    ·intro w hSw;(try dsimp only at hSw);go_simp
    simp only [Act.put,sIb,sC0,sC1];refine zJA (i := 11) (oi := ⟨some 46,.indexAddr 22 (.tmp 44) (.tmp 45),0, "hnf.go:67",#[⟨9,.data⟩,⟨10,.data⟩],none⟩) (v := (.pointer (some ⟨gs i,c * 2,none⟩))) rfl (by kernel_rfl) (fun _ _ _ h => h) (Or.inl ⟨by rfl,?_⟩)  ?_
    ·intro w hSw;(try dsimp only at hSw);go_simp
    simp only [Act.put,sIb,sC0,sC1];refine zBB (i := 12) (oi := ⟨some 47,.load 40 (.tmp 46),40, "hnf.go:67",#[⟨11,.data⟩],none⟩) (v := (.agg #[.bool np,.slice ap lp cp])) rfl (by kernel_rfl) (fun _ _ _ h => h) (Or.inl ⟨by rfl,?_⟩) (KB.out _ GB.out) ?_
    ·intro w hSw;(try dsimp only at hSw);go_simp
    simp only [Act.put,sIb,sC0,sC1];refine zFC (i := 13) (o := ⟨some 48,.call { callee := .value (.func 24),args := #[.tmp 40,.tmp 47],argTypes := #[40,40] },60, "hnf.go:67",#[⟨5,.data⟩,⟨12,.data⟩],none⟩) (by kernel_rfl) rfl (fun K hK => ?_);go_simp;go_at_call 24;refine (HFL.out _ GB.out).mono ?_;rintro e w62 ⟨r1,r2,rfl,mq,mr,b⟩;have lz62 := (show Below _ _ _ from b).size;replace GB := hid (below_step GB.out b);have M2 := hid ((mq.mono (Nat.zero_le _)).fit (l := kw) (HCS.out i hir));obtain ⟨nq,xq,aq,cq,rfl⟩ := mq.parts;obtain ⟨nr,xr,ar,cr,rfl⟩ := mr.parts;have J2 := hid (J.out.now GB.out);clear mq mr;clear b;refine hK.out _ _ (fun _ _ => KB.out _ GB.out) ?_;clear hK;refine zJA (i := 14) (oi := ⟨some 34,.move (.tmp 48),60, "hnf.go:67",#[⟨13,.data⟩],none⟩) (v := (.tuple #[(.agg #[.bool nq,.slice aq xq.length cq]),(.agg #[.bool nr,.slice ar xr.length cr]),(.int .i64 0)])) rfl (by kernel_rfl) (fun _ _ _ h => h) (Or.inl ⟨by rfl,?_⟩)  ?_
    ·intro w hSw;(try dsimp only at hSw);go_simp
    simp only [Act.put,sIb,sC0,sC1];refine zJA (i := 15) (oi := ⟨some 49,.extract (.tmp 34) 0,40, "hnf.go:67",#[⟨14,.data⟩],none⟩) (v := (.agg #[.bool nq,.slice aq xq.length cq])) rfl (by kernel_rfl) (fun _ _ _ h => h) (Or.inl ⟨by rfl,?_⟩)  ?_
    ·intro w hSw;(try dsimp only at hSw);go_simp
    simp only [Act.put,sIb,sC0,sC1];refine zJA (i := 16) (oi := ⟨some 50,.extract (.tmp 34) 1,40, "hnf.go:67",#[⟨14,.data⟩,⟨19,.gcOnly .lateStores⟩],none⟩) (v := (.agg #[.bool nr,.slice ar xr.length cr])) rfl (by kernel_rfl) (fun _ _ _ h => h) (Or.inl ⟨by rfl,?_⟩)  ?_
    ·intro w hSw;(try dsimp only at hSw);go_simp
    simp only [Act.put,sIb,sC0,sC1];refine zJA (i := 17) (oi := ⟨some 51,.extract (.tmp 34) 2,27, "hnf.go:67",#[⟨14,.data⟩,⟨19,.gcOnly .lateStores⟩],none⟩) (v := (.int .i64 0)) rfl (by kernel_rfl) (fun _ _ _ h => h) (Or.inl ⟨by rfl,?_⟩)  ?_
    ·intro w hSw;(try dsimp only at hSw);go_simp
    simp only [Act.put,sIb,sC0,sC1];refine zJA (i := 18) (oi := ⟨some 52,.indexAddr 22 (.tmp 35) (.tmp 36),0, "hnf.go:67",#[⟨0,.data⟩,⟨1,.data⟩,⟨0,.phase⟩,⟨1,.phase⟩,⟨2,.phase⟩,⟨3,.phase⟩,⟨4,.phase⟩,⟨5,.phase⟩,⟨6,.phase⟩,⟨7,.phase⟩,⟨8,.phase⟩,⟨9,.phase⟩,⟨10,.phase⟩,⟨11,.phase⟩,⟨12,.phase⟩,⟨13,.phase⟩,⟨14,.phase⟩,⟨15,.phase⟩,⟨16,.textOnly .lateStores⟩,⟨17,.textOnly .lateStores⟩],none⟩) (v := (.pointer (some ⟨gC,i * 2,none⟩))) rfl (by kernel_rfl) (fun _ _ _ h => h) (Or.inl ⟨by rfl,?_⟩)  ?_
    ·intro w hSw;(try dsimp only at hSw);go_simp
    simp only [Act.put,sIb,sC0,sC1];refine zFC (i := 19) (o := ⟨none,.store 40 (.tmp 52) (.tmp 49),0, "hnf.go:67",#[⟨18,.data⟩,⟨15,.data⟩,⟨13,.chain⟩,⟨0,.phase⟩,⟨1,.phase⟩,⟨2,.phase⟩,⟨3,.phase⟩,⟨4,.phase⟩,⟨5,.phase⟩,⟨6,.phase⟩,⟨7,.phase⟩,⟨8,.phase⟩,⟨9,.phase⟩,⟨10,.phase⟩,⟨11,.phase⟩,⟨12,.phase⟩,⟨13,.phase⟩,⟨14,.phase⟩,⟨15,.phase⟩,⟨16,.textOnly .lateStores⟩,⟨17,.textOnly .lateStores⟩],none⟩) (by kernel_rfl) rfl (fun K hK => ?_);obtain ⟨_,_,_,_,e0,e1,e2,e3,-⟩ := J2.out.c.at him;go_simp;clear e0 e1 e2 e3;obtain ⟨V63,hW⟩ : ∃ V63,((w62.setCell ⟨gC,i * 2,none⟩ (.bool nq)).setCell ⟨gC,i * 2 + 1,none⟩ (.slice aq xq.length cq)) = V63 := ⟨_,rfl⟩
    have J3 : Hid (zPD W0.heap.size U gR gC m n r γ (.slice (some ⟨Lb,0,none⟩) m cap) (.slice (some ⟨gp,0,none⟩) r pc) gs X (F i) C k kw (i + 1) V63) := by
     unfold Hid;rw [← hW];exact J2.out.put him M2.out
    rw [hW];clear hW;refine hK.out _ _ (fun h => absurd h (by decide)) ?_;clear hK
    try simp only [Act.put]
    refine zcD (by kernel_rfl) ?_ _;clear GB KB M2 J2 J HFL j0 j1 k0 p0 p1 k9;have L0 := J3.out.sh.lineS him;obtain ⟨nc,ac,lc,cc,c0,c1,-,-,zc⟩ := J3.out.c.at him;rw [if_pos (Nat.lt_succ_self i)] at zc;have ZC := hid zc;clear zc;go_wp2_with fail;have KB : Hid (∀ w',Below V63.heap.size V63 w' → w'.cell? ⟨Lb,i,none⟩ = some (.slice (some ⟨gs i,0,none⟩) n n) ∧ w'.cell? ⟨gC,i * 2,none⟩ = some (.bool nc) ∧ w'.cell? ⟨gC,i * 2 + 1,none⟩ = some (.slice ac lc cc)) := fun w' h => ⟨cnow h L0,cnow h c0,cnow h c1⟩
    refine zEA (fun w' => w'.cell? ⟨Lb,i,none⟩ = some (.slice (some ⟨gs i,0,none⟩) n n) ∧ w'.cell? ⟨gC,i * 2,none⟩ = some (.bool nc) ∧ w'.cell? ⟨gC,i * 2 + 1,none⟩ = some (.slice ac lc cc)) 9 (by kernel_rfl) ?_;obtain ⟨D84,hD⟩ : ∃ D84,V63.drew = D84 := ⟨_,rfl⟩
    have GB : Hid (Below V63.heap.size V63 D84) := by unfold Hid;rw [← hD];exact (Below.refl _ _).drew
    rw [hD];clear hD;refine zGA [(0,(.slice (some ⟨gR,0,none⟩) n n)),(1,(.slice (some ⟨Lb,0,none⟩) m cap)),(2,(.int .i64 (i : Int))),(3,(.pointer (some ⟨Lb,i,none⟩))),(4,(.slice (some ⟨gs i,0,none⟩) n n)),(5,(.slice (some ⟨gC,0,none⟩) m m)),(6,(.int .i64 (i : Int))),(7,(.pointer (some ⟨gC,i * 2,none⟩))),(8,(.agg #[.bool nc,.slice ac lc cc]))] 9 ?_ (KB.out _ GB.out) ?_
    ·simp only [zQA,gA9,g09,g19,Act.put,sI9,s09,s19]
     (repeat' (first | exact trivial | refine And.intro (Or.inl ⟨by rfl,?_⟩) ?_)) <;> (intro w hSw;(try dsimp only at hSw);go_simp)
    simp only [actV,gA9,g09,g19,Act.put,sI9,s09,s19];refine zAA (i := 9) (o := ⟨some 62,.call { callee := .value (.func 25),args := #[.tmp 53,.tmp 57,.tmp 61],argTypes := #[22,22,40] },0, "hnf.go:68",#[⟨0,.data⟩,⟨4,.data⟩,⟨8,.data⟩],none⟩) (by kernel_rfl) rfl (fun K hK => ?_);go_simp;go_at_call 25;refine (ziD (J3.out.now GB.out).rr (((J3.out.now GB.out).sh.2.2 i him).2.more HKK.out.1) (J3.out.neR i him) (ZC.out.now GB.out) (fun j hj => by have := HFS.out (i + 1) (by omega) j hj;rw [HFE.out] at this;exact this) hn (by have := HKK.out;omega)).mono ?_;rintro e wz84 ⟨rfl,hr,ht⟩;have J4 : Hid (zWG W0.heap.size U gR gC m n r γ (.slice (some ⟨Lb,0,none⟩) m cap) (.slice (some ⟨gp,0,none⟩) r pc) gs X F C k kw (r - (i + 1)) (.int .i64 ((i + 1 : Nat) : Int)) wz84) := ⟨i + 1,rfl,by omega,rfl,(J3.out.now GB.out).off (hr.congr fun j _ => (HFE.out i j).symm) ht⟩
    clear hr ht;refine hK.out _ _ (fun h => absurd h (by decide)) ?_;clear hK;refine zDA (by kernel_rfl) ?_ _;clear GB KB J3 ZC L0 c0 c1;go_wp2_with fail;go_roundg (r - (i + 1))
    case rel => exact J4.out
    case measure => exact HMM.out
   ·have hir' : ¬ (i : Int) < (r : Int) := by omega
    obtain rfl : i = r := by omega
    have FIN : Hid (zMH w m n i F C kw (.returned (.tuple #[(.slice (some ⟨gR,0,none⟩) n n),(.slice (some ⟨gC,0,none⟩) m m),.int .i64 0])) wr) := ⟨gR,gC,rfl,by have := HN.out;have := HW1.out;omega,by have := HN.out;have := HW1.out;omega,J.out.rr,J.out.c,G.out.trans (J.out.t.below18 (fun b q => by have := HN.out;have := HW1.out;rcases q with rfl | rfl <;> omega) (by have := HUS.out;have := HW1.out;omega))⟩
    clear J HG G HE HFS HCS HLA HPA HGL;go_wp2;go_ret3;exact FIN.out
end Go.Proofs.YtdeomkkpainakaaGreat
