/-
 QFo21ToWa21: Fo21, Wa21, joined.
-/
import Derived.Test.YtbcgggadelnaaaaGreatQLr21ToOr21
import Derived.Test.YtbcgggadelnaaaaGreatQMat11ToHw18
import Derived.Test.YtbcgggadelnaaaaGreatQSm18ToLw21

set_option maxRecDepth 100000
set_option maxHeartbeats 6400000
set_option linter.unusedVariables false
set_option linter.unusedSimpArgs false
namespace Go.Proofs.YtbcgggadelnaaaaGreat
open Go.RowKit
attribute [local go_sem] zQC
def zfG (n Bl Bh b0 : Nat) (v0 : Value) (S : Nat → Prop) : zKA := ⟨false,n,Bl,Bh,0,fun _ => b0,fun _ => v0,S⟩
theorem zgG {t : Nat} (h : t < 1) : t = 0 := by omega
theorem start1_21 {B m n kw bs Bl Bh b0 : Nat} {V : World} {v0 : Value} {g0 : Nat → Nat} {A : Nat → Nat → Int} (hs : Cel V bs 75 [.slice (some ⟨Bl,0,none⟩) 1 1,.slice (some ⟨Bh,0,none⟩) 1 1,.slice none 0 0]) (hl : Cel V Bl 61 [v0]) (hh : Cel V Bh 70 [hf1 b0,hf2 b0,hf3 b0,hf4 b0]) (ha : Cel V b0 61 [v0]) (s0 : Sh17 B V v0 m n g0 A kw) (hn : n ≤ 64) (hk1 : 1 ≤ kw) :
  zOA (zfG n Bl Bh b0 v0 fun b => ∃ t i,t < 1 ∧ i < m ∧ b = g0 i) B V bs (.slice none 0 0) m n 0 id id A kw := by
 refine ⟨fun _ => g0,fun _ => A,fun _ => kw,⟨hs,hl,hh,fun t ht => ha,(fun h => by cases h),.inl ⟨rfl,rfl⟩,fun t ht => ?_,fun t u i j ht hu htu hi hj => ?_,fun b => Iff.rfl,fun t u b l c l' c' ht hu el eu => ?_⟩,⟨hn,hk1,fun t ht h2 => rfl,fun i c hi hc => rfl,fun _ => rfl,(fun h => by cases h),(fun h => by cases h),(fun h => by cases h)⟩⟩
 ·obtain rfl := zgG ht
  exact s0
 ·have h1 := zgG ht
  have h2 := zgG hu;omega
 ·have h1 := zgG ht
  have h2 := zgG hu;omega
theorem end1_21 {B bs m n r kw Bl Bh b0 : Nat} {w : World} {v0 sv : Value} {S : Nat → Prop} {ρ γ : Nat → Nat} {X : Nat → Nat → Int} (h : zOA (zfG n Bl Bh b0 v0 S) B w bs sv m n r ρ γ X kw) : ∃ g0,Sh17 B w v0 m n g0 X kw := by
 obtain ⟨gs,Z,kz,h1,h2⟩ := h;have q0 := h1.sh 0 (show 0 < 1 by omega);rw [h2.k0 0 (show 0 < 1 by omega) (by decide)] at q0;exact ⟨gs 0,q0.congr fun i j hi hj => (h2.x0 i j hi hj).symm⟩
theorem formed21 {B m n kw T : Nat} {w : World} {lv : Value} {gs : Nat → Nat} {A : Nat → Nat → Int} (h : Sh17 B w lv m n gs A kw) (hTb : Tb18 m n A T) (hB : B ≤ w.heap.size) (hm : m ≤ 64) (hn : n ≤ 64) (hT : ((bd18 T 128 : Nat) : Int) < pw kw) (hk1 : 1 ≤ kw) (hK : kw ≤ 68719476736) :
  Calls Tryz.prog 42 #[lv] w (zaI B w lv m n A kw) := by
 obtain ⟨la,lc,rfl⟩ : ∃ la lc,lv = .slice la m lc := by
  rcases h.1 with ⟨e,h⟩ | ⟨h0,Lb,cap,r,e,_⟩
  ·exact ⟨none,0,by rw [e];exact h⟩
  ·exact ⟨_,cap,e⟩
 obtain ⟨W0,hW⟩ : ∃ W0,w.alloc (.cells #[.slice la m lc] 61) = W0 := ⟨_,rfl⟩
 obtain ⟨b0,sz0⟩ := alo1 w (.cells #[.slice la m lc] 61);rw [hW] at b0 sz0;have d0 : Cel W0 w.heap.size 61 [.slice la m lc] := by rw [← hW];exact Cel.new w _ _
 have HAL := hid (zsE (w := W0) (a := la) (l := m) (c := lc));have SH := hid (h.now b0);have D0 := hid d0;have B0 := hid b0;have SZ0 := hid sz0;have EW := hid hW;have HTB := hid hTb;have HBW := hid hB;have HT := hid hT;have Hk1 := hid hk1;have HK := hid hK;clear h hTb hB hT hk1 hK b0 d0 sz0 hW;go_enter Tryz.func42,Tryz.ntmps42;go_wp2_with fail;rw [EW.out];refine HAL.out.mono ?_;rintro e w1 ⟨rfl,dA,b1⟩;obtain ⟨V2,hV2⟩ : ∃ V2,w1.alloc (.cells #[hf1 W0.heap.size,hf2 W0.heap.size,hf3 W0.heap.size,hf4 W0.heap.size] 70) = V2 := ⟨_,rfl⟩
 obtain ⟨b2,sz2⟩ := alo1 w1 (.cells #[hf1 W0.heap.size,hf2 W0.heap.size,hf3 W0.heap.size,hf4 W0.heap.size] 70);rw [hV2] at b2 sz2;have dH : Cel V2 w1.heap.size 70 [hf1 W0.heap.size,hf2 W0.heap.size,hf3 W0.heap.size,hf4 W0.heap.size] := by rw [← hV2];exact Cel.new w1 _ _
 obtain ⟨V3,hV3⟩ : ∃ V3,V2.alloc (.cells #[.slice (some ⟨w.heap.size,0,none⟩) 1 1,.slice (some ⟨w1.heap.size,0,none⟩) 1 1,.slice none 0 0] 75) = V3 := ⟨_,rfl⟩
 obtain ⟨b3,sz3⟩ := alo1 V2 (.cells #[.slice (some ⟨w.heap.size,0,none⟩) 1 1,.slice (some ⟨w1.heap.size,0,none⟩) 1 1,.slice none 0 0] 75);rw [hV3] at b3 sz3;have dS : Cel V3 V2.heap.size 75 [.slice (some ⟨w.heap.size,0,none⟩) 1 1,.slice (some ⟨w1.heap.size,0,none⟩) 1 1,.slice none 0 0] := by rw [← hV3];exact Cel.new V2 _ _
 have bb := below_step b1 (below_step b2 b3);have wk := start1_21 dS (D0.out.step bb) (dH.step b3) (dA.step (below_step b2 b3)) (SH.out.now bb) hn Hk1.out;have hs1 := b1.size;have hs2 := SZ0.out;have hs0 := HBW.out;have HSA := hid (zfD wk HTB.out (by omega) (by omega) hm (by omega) HT.out Hk1.out HK.out);have HBB : Hid (Below B w V3) := by
  unfold Hid;have q := below_step B0.out bb;exact ⟨q.os,q.tape,q.output,q.size,fun b hb => q.block b (by omega)⟩
 have EV2 := hid hV2;have EV3 := hid hV3;have ESZ : Hid (w1.heap.size + 1 = V2.heap.size) := sz2.symm;obtain ⟨bs,hbs⟩ : ∃ bs,V2.heap.size = bs := ⟨_,rfl⟩
 rw [hbs] at HSA ESZ;clear HAL dA b1 b2 sz2 b3 sz3 dH dS bb wk hV2 hV3 hs1 hs2 hs0 D0 SH B0 SZ0 EW hbs;go_wp2_with fail;rw [EV2.out,EV3.out,ESZ.out];refine HSA.out.mono ?_;rintro e w4 ⟨sv,r,γ,X,rfl,h1,h2,h3⟩;obtain ⟨gs',hsh⟩ := end1_21 h1;obtain ⟨sa,sc,rfl⟩ := h1.sform;have s2 := h1.s2;have FF : Hid (zaI B w (.slice la m lc) m n A kw (.returned (.int .i64 (r : Int))) w4) := ⟨r,γ,gs',X,rfl,hsh,h2,zaA HBB.out h3⟩
 clear HSA h1 h2 h3 hsh EV2 EV3 HBB ESZ;go_wp2;go_ret;exact FF.out
theorem form21 {w : World} {v : Value} {m n k kw kt T : Nat} {zs : List Int} (h : Mx w v m n zs k) (hTb : Tb18 m n (en18 n zs) T) (hkk : k ≤ kw) (hT : ((bd18 T 128 : Nat) : Int) < pw kw) (hk1 : 1 ≤ kw) (hK : kw ≤ 68719476736) (hkt : ((T : Nat) : Int) < pw kt) :
  Calls Tryz.prog 15 #[v] w (zZI w m n (en18 n zs) kt) := by
 obtain ⟨aa,ca,rfl,hm,hn⟩ := h.form;have hzl : zs.length = m * n := by obtain ⟨_,_,_,_,_,h,_⟩ := h;exact h
 obtain ⟨la,hla⟩ : ∃ la,m * n = la := ⟨_,rfl⟩
 have HLA := hid hla;rw [hla] at h ⊢;dsimp only [matv] at h ⊢;obtain ⟨W0,hW⟩ : ∃ W0,(w.alloc (.cells #[.int .i64 (m : Int),.int .i64 (n : Int),.slice aa la ca] 24)).alloc mbox = W0 := ⟨_,rfl⟩
 obtain ⟨b0,sz0⟩ := zZA w (.cells #[.int .i64 (m : Int),.int .i64 (n : Int),.slice aa la ca] 24) mbox;rw [hW] at b0 sz0;have dA : Cel W0 w.heap.size 24 [.int .i64 (m : Int),.int .i64 (n : Int),.slice aa la ca] := by rw [← hW];exact (Cel.new w _ _).step ((Below.refl _ _).alloc (Nat.le_refl _) _)
 have dR : Cel W0 (w.heap.size + 1) 24 [.int .i64 0,.int .i64 0,.slice none 0 0] := by
  rw [← hW];have := Cel.new (w.alloc (.cells #[.int .i64 (m : Int),.int .i64 (n : Int),.slice aa la ca] 24)) 24 [.int .i64 0,.int .i64 0,.slice none 0 0]
  simpa using this
 have MX := hid (h.now b0);have HCK := hid (zvB MX.out);have DA := hid dA;have DR := hid dR;have B0 := hid b0;have SZ0 := hid sz0;have EW := hid hW;have HZL := hid hzl;have HTB := hid hTb;have HKK := hid hkk;have HT := hid hT;have Hk1 := hid hk1;have HK := hid hK;have HKT := hid hkt;have x0 := dA.at (i := 0) rfl;have x1 := dA.at (i := 1) rfl;have x2 := dA.at (i := 2) rfl;rw [← hW] at x0 x1 x2;clear h hTb hkk hT hk1 hK hkt b0 sz0 hW dA dR hzl hla;go_enter Tryz.func15,Tryz.ntmps15;go_upto_region 1 with fail
 rw [EW.out] at x0 x1 x2;rw [EW.out];go_wp2_with fail;refine HCK.out.mono ?_;rintro e w1 ⟨rfl,b1⟩;have DA1 := hid (DA.out.step b1);have DR1 := hid (DR.out.step b1);have B1 := hid (below_step B0.out b1);have HLI := hid (znD (MX.out.now b1));clear HCK x0 x1 x2 EW DA DR MX;have x0 := DA1.out.at (i := 0) rfl;have x1 := DA1.out.at (i := 1) rfl;have x2 := DA1.out.at (i := 2) rfl;have hs1 := b1.size;have hsz0 := SZ0.out;clear b1;go_wp2_with fail;refine HLI.out.mono ?_;rintro e w2 ⟨lv,gs,rfl,q1,q2⟩;have hml : (rowsL m n zs).length = m := zFB;rw [hml] at q1;have SH2 := hid ((q1.congr (fun i j hi hj => zhF HZL.out hi hj)).more18 HKK.out);have DA2 := hid (DA1.out.step q2);have DR2 := hid (DR1.out.step q2);have B2 := hid (below_step B1.out q2);have HFD := hid (formed21 SH2.out HTB.out q2.size hm hn HT.out Hk1.out HK.out);have HS2 := hid q2.size;obtain ⟨lla,llc,rfl⟩ : ∃ la lc,lv = .slice la m lc := by
  rcases q1.1 with ⟨e,h⟩ | ⟨h0,Lb,cap,r,e,_⟩
  ·exact ⟨none,0,by rw [e];exact h⟩
  ·exact ⟨_,cap,e⟩
 clear HLI q1 q2 DA1 DR1 B1 x0 x1 x2 hml;go_wp2_with fail;refine HFD.out.mono ?_;rintro e w3 ⟨r,γ,gs',X,rfl,h1,h2,h3⟩;have DA3 : Cel w3 w.heap.size 24 [.int .i64 (m : Int),.int .i64 (n : Int),.slice aa la ca] := (h3.block _ (by omega)).trans DA2.out;have DR3 := hid (show Cel w3 (w.heap.size + 1) 24 [.int .i64 0,.int .i64 0,.slice none 0 0] from (h3.block _ (by omega)).trans DR2.out);have B3 : Hid (Below w.heap.size w w3) := zaA B2.out ⟨h3.os,h3.tape,h3.output,h3.size,fun b hb => h3.block b (by omega)⟩;have x1 := DA3.at (i := 1) rfl;have HMA := hid (zQD h1 hm hn);have HHB := hid h2;have hs3 := h3.size;clear HFD h1 h2 h3 DA2 DR2 B2 DA3 SH2;go_wp2_with fail;refine HMA.out.mono ?_;rintro e w4 ⟨v4,rfl,q3,q4⟩;have q5 := q3.fit18 (l := kt) (fun z hz => by
  have hz' := hz;unfold zG18 at hz';simp only [List.mem_map,List.mem_range] at hz';obtain ⟨t,ht,rfl⟩ := hz';have hn0 : 0 < n := Nat.pos_of_ne_zero fun e => by subst e;simp at ht
  have := HHB.out.size HTB.out (Nat.le_refl _) (t / n) (t % n) (Nat.div_lt_of_lt_mul (by rw [Nat.mul_comm];exact ht)) (Nat.mod_lt _ hn0);have := HKT.out;omega)
 obtain ⟨a4,c4,rfl,-,-⟩ := q3.mx.form;rw [HLA.out] at q5;dsimp only [matv] at q5 ⊢;have pr := DR3.out.step q4;have y0 := pr.at (i := 0) rfl;have y1 := pr.at (i := 1) rfl;have y2 := pr.at (i := 2) rfl;have f0 := pr.fz 0;have f1 := pr.fz 1;have f2 := pr.fz 2;have FF : Hid (zZI w m n (en18 n zs) kt (.returned (.tuple #[.agg #[.int .i64 (m : Int),.int .i64 (n : Int),.slice a4 la c4],.int .i64 0])) (put3 w4 (w.heap.size + 1) (.int .i64 (m : Int)) (.int .i64 (n : Int)) (.slice a4 la c4)) ∧ Cel (put3 w4 (w.heap.size + 1) (.int .i64 (m : Int)) (.int .i64 (n : Int)) (.slice a4 la c4)) (w.heap.size + 1) 24 [.int .i64 (m : Int),.int .i64 (n : Int),.slice a4 la c4]) :=
  ⟨⟨_,r,γ,X,rfl,q5.wk pr _ _ _,HHB.out,bset (bset (bset (below_step B3.out q4) (by omega)) (by omega)) (by omega)⟩,pr.put3 _ _ _⟩
 rw [HLA.out];clear HMA q3 q4 q5 pr DR3 B3 HHB x1;go_wp2_with fail;refine bodyPost_ret (zmD Tryz.results15 FF.out.2 _ (by rfl) (by rfl)) rfl ?_;exact FF.out.1
end Go.Proofs.YtbcgggadelnaaaaGreat
namespace Go.Proofs.YtbcgggadelnaaaaGreat
open Go.RowKit
theorem wakes21 (w : World) : Calls Tryz.prog 6 #[] w (zzH w) := by
 have HTW := hid (ttwo w);go_enter Tryz.func6,Tryz.ntmps6;go_wp2_with fail;refine HTW.out.mono ?_;rintro e w1 ⟨a,c,rfl,hm,b1⟩;obtain ⟨T,hTb,hTk⟩ := tb_of18 (m := 2) (n := 2) (zs := [2,4,6,8]) (k := 1) (by omega) rfl (by intro z hz;simp at hz;rcases hz with rfl | rfl | rfl | rfl <;> decide) (by omega);have HFM := hid (form21 (kw := 128 * (129 + 1) + 129) (kt := 129) hm hTb (by omega) (znF hTk 128) (by omega) (by omega) hTk);have B1 := hid b1;clear HTW hm b1 hTb hTk;go_wp2_with fail;refine HFM.out.mono ?_;rintro e w2 ⟨v,r,γ,X,rfl,hq,hb,b2⟩;have ez : zG18 2 2 X = [2,0,0,4] := hb.same two_form18 (fun v => Iff.rfl);rw [ez] at hq;obtain ⟨a2,c2,rfl,-,-⟩ := hq.mx.form;dsimp only [matv] at hq ⊢;obtain ⟨V,hV⟩ : ∃ V,w2.alloc (.cells #[.int .i64 (2 : Nat),.int .i64 (2 : Nat),.slice a2 (2 * 2) c2] 24) = V := ⟨_,rfl⟩
 obtain ⟨bv,szv⟩ := alo1 w2 (.cells #[.int .i64 (2 : Nat),.int .i64 (2 : Nat),.slice a2 (2 * 2) c2] 24);rw [hV] at bv szv;have dV : Cel V w2.heap.size 24 [.int .i64 (2 : Nat),.int .i64 (2 : Nat),.slice a2 (2 * 2) c2] := by rw [← hV];exact Cel.new w2 _ _
 have HQ := hid (hq.now bv);have BV := hid (below_step B1.out (below_step b2 bv));have x0 : V.cell? ⟨w2.heap.size,0,none⟩ = some (.int .i64 2) := dV.at (i := 0) rfl;have x1 : V.cell? ⟨w2.heap.size,1,none⟩ = some (.int .i64 2) := dV.at (i := 1) rfl;have x2 : V.cell? ⟨w2.heap.size,2,none⟩ = some (.slice a2 4 c2) := dV.at (i := 2) rfl;have EV := hid hV;obtain ⟨bk,hbk⟩ : ∃ bk,w2.heap.size = bk := ⟨_,rfl⟩
 rw [hbk] at x0 x1 x2;have EBK := hid hbk;clear HFM hq hb b2 bv szv hV dV ez B1 hbk;go_wp2_with fail;rw [show w2.alloc (.cells #[.int .i64 2,.int .i64 2,.slice a2 4 c2] 24) = V from EV.out,EBK.out];have KB : Hid (∀ w',Below V.heap.size V w' → w'.cell? ⟨bk,0,none⟩ = some (.int .i64 2) ∧ w'.cell? ⟨bk,1,none⟩ = some (.int .i64 2) ∧ w'.cell? ⟨bk,2,none⟩ = some (.slice a2 4 c2)) := fun w' h => ⟨cnow h x0,cnow h x1,cnow h x2⟩
 refine zEA (fun w' => w'.cell? ⟨bk,0,none⟩ = some (.int .i64 2) ∧ w'.cell? ⟨bk,1,none⟩ = some (.int .i64 2) ∧ w'.cell? ⟨bk,2,none⟩ = some (.slice a2 4 c2)) 12 (by kernel_rfl) ?_;obtain ⟨D1,hD⟩ : ∃ D1,V.drew = D1 := ⟨_,rfl⟩
 have GB : Hid (Below V.heap.size V D1) := by unfold Hid;rw [← hD];exact (Below.refl _ _).drew
 rw [hD];clear hD;refine zFA [(0,(.int .i64 0)),(1,(.bool true)),(2,(.bool true)),(3,(.agg #[.int .i64 2,.int .i64 2,.slice a2 4 c2])),(5,(.agg #[.bool false,.slice none 0 0])),(6,(.agg #[.bool false,.slice none 0 0]))] 6 ?_ (KB.out _ GB.out) ?_
 ·simp only [zNA,gA9,g09,g19,Act.put,sI9,s09,s19]
  (repeat' (first | exact trivial | refine And.intro (Or.inl ⟨by rfl,?_⟩) ?_)) <;> (intro w hSw;(try dsimp only at hSw);go_simp)
 simp only [actV,gA9,g09,g19,Act.put,sI9,s09,s19];refine zAA (i := 4) (o := ⟨some 12,.call { callee := .value (.func 24),args := #[.const (.int .u64 2)],argTypes := #[58] },51, "top18.go:40",#[⟨2,.chain⟩,⟨2,.guard⟩],some (2,true)⟩) (by kernel_rfl) rfl (fun K hK => ?_);go_simp;go_at_call 24;refine (zfF (n := 2) (by decide) (by decide) _).mono ?_;rintro e w2 ⟨p2,q2,rfl,hz2,b⟩;have lz2 := (show Below _ _ _ from b).size;replace GB := hid (below_step GB.out b);have Z2 := hid (zbE hz2 (by decide) (by decide));clear hz2;clear b;refine hK.out _ _ (fun _ => KB.out _ GB.out) ?_;clear hK;refine zAA (i := 7) (o := ⟨some 15,.call { callee := .value (.func 24),args := #[.const (.int .u64 4)],argTypes := #[58] },51, "top18.go:40",#[⟨4,.chain⟩,⟨2,.guard⟩],some (2,true)⟩) (by kernel_rfl) rfl (fun K hK => ?_);go_simp;go_at_call 24;refine (zfF (n := 4) (by decide) (by decide) _).mono ?_;rintro e w3 ⟨p4,q4,rfl,hz4,b⟩;have lz3 := (show Below _ _ _ from b).size;replace GB := hid (below_step GB.out b);replace Z2 := hid (Z2.out.now b);have Z4 := hid (zbE hz4 (by decide) (by decide));clear hz4;clear b;refine hK.out _ _ (fun _ => KB.out _ GB.out) ?_;clear hK;refine zAA (i := 8) (o := ⟨some 16,.buildSlice 22 4 #[(0,.tmp 12),(1,.tmp 13),(2,.tmp 14),(3,.tmp 15)],22, "top18.go:40",#[⟨4,.data⟩,⟨5,.data⟩,⟨6,.data⟩,⟨7,.data⟩,⟨2,.guard⟩],some (2,true)⟩) (by kernel_rfl) rfl (fun K hK => ?_);go_simp;obtain ⟨V4,hW⟩ : ∃ V,w3.alloc (.cells #[.bool false,.slice p2 1 q2,.bool false,.slice none 0 0,.bool false,.slice none 0 0,.bool false,.slice p4 1 q4] 51) = V := ⟨_,rfl⟩
 obtain ⟨b,sz4⟩ := alo1 w3 (.cells #[.bool false,.slice p2 1 q2,.bool false,.slice none 0 0,.bool false,.slice none 0 0,.bool false,.slice p4 1 q4] 51);rw [hW] at b sz4;replace GB := hid (below_step GB.out b);have dL : Cel V4 w3.heap.size 51 [.bool false,.slice p2 1 q2,.bool false,.slice none 0 0,.bool false,.slice none 0 0,.bool false,.slice p4 1 q4] := by rw [← hW];exact Cel.new w3 _ _
 have ML := hid (mc_four18 dL (Z2.out.now b) (zxE V4 1).zc (zxE V4 1).zc (Z4.out.now b));rw [hW];clear hW b dL Z2 Z4 sz4;refine hK.out _ _ (fun _ => KB.out _ GB.out) ?_;clear hK
 try simp only [Act.put]
 refine zFA [(9,(.agg #[.int .i64 2,.int .i64 2,.slice (some ⟨w3.heap.size,0,none⟩) 4 4]))] 1 ?_ (KB.out _ GB.out) ?_
 ·simp only [zNA,gA9,g09,g19,Act.put,sI9,s09,s19]
  (repeat' (first | exact trivial | refine And.intro (Or.inl ⟨by rfl,?_⟩) ?_)) <;> (intro w hSw;(try dsimp only at hSw);go_simp)
 simp only [actV,gA9,g09,g19,Act.put,sI9,s09,s19];refine zAA (i := 10) (o := ⟨some 18,.call { callee := .value (.func 12),args := #[.tmp 11,.tmp 17],argTypes := #[24,24] },4, "top18.go:40",#[⟨3,.data⟩,⟨9,.data⟩,⟨7,.chain⟩,⟨2,.guard⟩],some (2,true)⟩) (by kernel_rfl) rfl (fun K hK => ?_);go_simp;go_at_call 12;refine (zyF (HQ.out.now GB.out) ML.out rfl).mono ?_;rintro e w5 ⟨rfl,b⟩;have lz5 := (show Below _ _ _ from b).size;replace GB := hid (below_step GB.out b);have FF := hid (below_step BV.out GB.out);clear b;refine hK.out _ _ (fun _ => KB.out _ GB.out) ?_;clear hK;refine zFA [(11,(.bool true))] 1 ?_ (KB.out _ GB.out) ?_
 ·simp only [zNA,gA9,g09,g19,Act.put,sI9,s09,s19]
  (repeat' (first | exact trivial | refine And.intro (Or.inl ⟨by rfl,?_⟩) ?_)) <;> (intro w hSw;(try dsimp only at hSw);go_simp)
 simp only [actV,gA9,g09,g19,Act.put,sI9,s09,s19];refine zAA (i := 12) (o := ⟨some 0,.assign (.tmp 19),4, "top18.go:40",#[⟨11,.data⟩,⟨10,.chain⟩,⟨0,.phase⟩,⟨1,.phase⟩,⟨2,.phase⟩,⟨3,.phase⟩,⟨4,.phase⟩,⟨5,.phase⟩,⟨6,.phase⟩,⟨7,.phase⟩,⟨8,.phase⟩,⟨9,.phase⟩,⟨10,.phase⟩,⟨11,.phase⟩],none⟩) (by kernel_rfl) rfl (fun K hK => ?_);go_simp;refine hK.out _ _ (fun h => absurd h (by decide)) ?_;clear hK
 try simp only [Act.put]
 refine zDA (by kernel_rfl) ?_ _;clear GB KB HQ ML BV x0 x1 x2;go_wp2;go_ret;exact ⟨rfl,FF.out⟩
end Go.Proofs.YtbcgggadelnaaaaGreat
