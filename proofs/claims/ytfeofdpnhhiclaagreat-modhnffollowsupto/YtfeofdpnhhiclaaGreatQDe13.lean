import Derived.Test.YtfeofdpnhhiclaaGreatQSo13ToZf14
import Derived.Test.YtfeofdpnhhiclaaGreatQBm19ToPickA9
set_option maxRecDepth 100000
set_option maxHeartbeats 6400000
set_option linter.unusedVariables false
set_option linter.unusedSimpArgs false
namespace Go.Proofs.YtfeofdpnhhiclaaGreat
open Go.RowKit
theorem Stz.one {A : Nat → Nat → Int} {n i : Nat} {rs cs : List Nat} {odd : Bool} (h : Stz A n i rs cs odd) (h0 : rs.length = 0) : detS A rs cs odd = 1 := by
 rw [h.core,h0];rfl
theorem zgF {w W : World} {b B : Nat} {x y : Value} {z : Int} {k : Nat} (h : Zm B W (.agg #[x,y]) z k) (hW : Below w.heap.size w W) (hb : w.heap.size ≤ b) (hB : b < B) : zAB w z k (.returned (.agg #[x,y])) ((W.setCell ⟨b,0,none⟩ x).setCell ⟨b,1,none⟩ y) := zwF h hW hb hB
theorem sdet_any {A : Nat → Nat → Int} {B Bs n i kw : Nat} {rs cs ks : List Nat} {odd : Bool} {w : World} (hS : Srs A B w Bs n rs cs odd ks kw) (hZ : Stz A n i rs cs odd) (h1 : 1 ≤ kw) (hn : n ≤ 64) (hr : rs.length ≤ 64) :
  Calls Tryz.prog 63 #[.pointer (some ⟨Bs,0,none⟩)] w (zAB w (detS A rs cs odd) kw) := by
 obtain ⟨W0,hW⟩ : ∃ W0,w.alloc zbox = W0 := ⟨_,rfl⟩
 obtain ⟨b0,sz0⟩ := alo1 w zbox;rw [hW] at b0 sz0;have PR : Hid (Duo W0 w.heap.size (.bool false) (.slice none 0 0)) := by unfold Hid;rw [← hW];exact Duo.new w _ _
 have hS0 := hS;obtain ⟨rv,cv,lv,s1,s2,s3,s4,s5⟩ := hS0.now b0;obtain ⟨ra,rcap,rfl,hrc,-⟩ := s2.form;obtain ⟨ca,ccap,rfl,hcc,hca⟩ := s3.form;obtain ⟨la,lcap,rfl,hlc,hla⟩ := s4.form;have x0 := s1.at (i := 0) rfl;have x1 := s1.at (i := 1) rfl;have x2 := s1.at (i := 2) rfl;have x4 := s1.at (i := 3) rfl;have hlen := hZ.len;rw [zSB] at hlc hla x2;obtain ⟨Kn,hK⟩ : ∃ Kn,rs.length = Kn := ⟨_,rfl⟩
 rw [hlen] at hcc hca x1;rw [hK] at x0 x1 x2 hrc hcc hlc hca hla hr;have G0 := hid b0;have EW := hid hW;have SZ := hid sz0
 by_cases h0 : Kn = 0
 ·have HOF := hid (of_z (n := 1) (by decide) (by decide) W0)
  have HD : Hid (detS A rs cs odd = 1) := hZ.one (by omega);have H1 := hid h1;subst h0;rw [← hW] at x0;clear s1 s2 s3 s4 s5 hS hS0 hZ x1 x2 x4 hca hla hW b0 sz0 hlen hK h1;go_enter Tryz.func63,Tryz.ntmps63;go_wp2_with fail;rw [EW.out];clear EW x0;refine HOF.out.mono ?_;rintro e w1 ⟨r0,rfl,m0,b⟩;obtain ⟨nr,xr,ar,cr,rfl⟩ := m0.parts;have PR1 := hid (PR.out.step b);have r0 := PR1.out.c0;have r1 := PR1.out.c1;have f0 := PR1.out.fz 0;have f1 := PR1.out.fz 1;have FIN : Hid (zAB w (detS A rs cs odd) kw (.returned (.agg #[.bool nr,.slice ar xr.length cr])) ((w1.setCell ⟨w.heap.size,0,none⟩ (.bool nr)).setCell ⟨w.heap.size,1,none⟩ (.slice ar xr.length cr))) := by
   unfold Hid;rw [HD.out];exact zgF (m0.more H1.out) (below_step G0.out b) (Nat.le_refl _) (by have := SZ.out;omega)
  clear m0 b HOF;go_wp2_with fail;exact bodyPost_ret (zfB Tryz.results63 (PR1.out.set _ _) _ (by rfl)) rfl FIN.out
 ·obtain ⟨last,rfl⟩ : ∃ last,Kn = last + 1 := ⟨Kn - 1,by omega⟩
  obtain ⟨gc,rfl⟩ := hca (by omega);obtain ⟨Lb,rfl,-⟩ := hla (by omega);obtain ⟨cc,hcc2⟩ : ∃ cc,cs.getD last 0 = cc := ⟨_,rfl⟩
  have c0 := s3.at (i := last) (by omega);rw [hcc2] at c0;have hcn : cc < n := by rw [← hcc2];exact hZ.cl _ (by simp [show last < cs.length by omega])
  have hcn' : (cc : Int) < (n : Int) := by omega
  have hks : ks.length = last + 1 := by rw [s4.2.2.1,zSB,hK]
  obtain ⟨gk0,hgk0⟩ : ∃ gk0,ks[last]? = some gk0 := ⟨ks[last]'(by omega),List.getElem?_eq_getElem _⟩
  have x3 := s4.line hgk0;obtain ⟨np,ap,lp,cp,p0,p1,zp⟩ := s4.at hgk0 hcn;rw [zWH (by omega),zyB hcn] at zp;have EP : Hid (mi A (gd rs) (gd cs) last (gd rs last) cc = dd A (gd rs) (gd cs) (last + 1)) := by unfold Hid;rw [← hcc2];exact zYF A (gd rs) (gd cs) last
  have HD : Hid (detS A rs cs odd = sgb odd * dd A (gd rs) (gd cs) (last + 1)) := by unfold Hid detS;rw [hK]
  have ZP := hid zp;have hne : ¬ ((last + 1 : Nat) : Int) = 0 := by omega
  have hw1 : IntKind.i64.wrap (((last + 1 : Nat) : Int) - 1) = (last : Int) := by rw [zqA] <;> omega
  have hll : (last : Int) < ((last + 1 : Nat) : Int) := by omega
  have y0 := x0;rw [← hW] at y0;have hLn : ((last + 1 : Nat) : Int) = (last : Int) + 1 := by omega
  have EL := hid hLn;clear s1 s2 s3 s4 s5 hS hS0 hZ hla hca hW b0 sz0 hlen hK zp hcc2 hgk0 hks h0 hLn;generalize hKn : last + 1 = Kn at *;have HKN := hid hKn;clear hKn;go_enter Tryz.func63,Tryz.ntmps63;go_upto_region 4 with fail
  rw [EW.out];clear EW y0;have KB : Hid (∀ w',Below W0.heap.size W0 w' → w'.cell? ⟨Bs,2,none⟩ = some (.slice (some ⟨Lb,0,none⟩) Kn lcap) ∧ w'.cell? ⟨Lb,last,none⟩ = some (.slice (some ⟨gk0,0,none⟩) n n) ∧ w'.cell? ⟨Bs,1,none⟩ = some (.slice (some ⟨gc,0,none⟩) Kn ccap) ∧ w'.cell? ⟨gc,last,none⟩ = some (.int .i64 (cc : Int)) ∧ w'.cell? ⟨gk0,cc * 2,none⟩ = some (.bool np) ∧ w'.cell? ⟨gk0,cc * 2 + 1,none⟩ = some (.slice ap lp cp)) := fun w' h => ⟨cnow h x2,cnow h x3,cnow h x1,cnow h c0,cnow h p0,cnow h p1⟩
  refine zFA (fun w' => w'.cell? ⟨Bs,2,none⟩ = some (.slice (some ⟨Lb,0,none⟩) Kn lcap) ∧ w'.cell? ⟨Lb,last,none⟩ = some (.slice (some ⟨gk0,0,none⟩) n n) ∧ w'.cell? ⟨Bs,1,none⟩ = some (.slice (some ⟨gc,0,none⟩) Kn ccap) ∧ w'.cell? ⟨gc,last,none⟩ = some (.int .i64 (cc : Int)) ∧ w'.cell? ⟨gk0,cc * 2,none⟩ = some (.bool np) ∧ w'.cell? ⟨gk0,cc * 2 + 1,none⟩ = some (.slice ap lp cp)) 17 (by kernel_rfl) ?_;obtain ⟨D1,hD⟩ : ∃ D1,W0.drew = D1 := ⟨_,rfl⟩
  have GB : Hid (Below W0.heap.size W0 D1) := by unfold Hid;rw [← hD];exact (Below.refl _ _).drew
  rw [hD];clear hD;have GZ : Hid (W0.heap.size ≤ D1.heap.size) := GB.out.size;refine zBA (i := 0) (oi := ⟨some 18,.move (.tmp 0),88, "stairs.go:66",#[],none⟩) (v := (.pointer (some ⟨Bs,0,none⟩))) rfl (by kernel_rfl) (fun _ _ _ h => h) (Or.inl ⟨by rfl,?_⟩) (KB.out _ GB.out) ?_
  ·intro w hSw;(try dsimp only at hSw);go_simp
  simp only [Act.put,sIb,sC0,sC1];refine zBA (i := 1) (oi := ⟨some 19,.nilCheck (.tmp 18),0, "stairs.go:66",#[⟨0,.data⟩],none⟩) (v := (.pointer (some ⟨Bs,0,none⟩))) rfl (by kernel_rfl) (fun _ _ _ h => h) (Or.inl ⟨by rfl,?_⟩) (KB.out _ GB.out) ?_
  ·intro w hSw;(try dsimp only at hSw);go_simp
  simp only [Act.put,sIb,sC0,sC1];refine zBA (i := 2) (oi := ⟨some 20,.fieldAddr 92 (.tmp 19) 2,0, "stairs.go:66",#[⟨1,.data⟩],none⟩) (v := (.pointer (some ⟨Bs,2,none⟩))) rfl (by kernel_rfl) (fun _ _ _ h => h) (Or.inl ⟨by rfl,?_⟩) (KB.out _ GB.out) ?_
  ·intro w hSw;(try dsimp only at hSw);go_simp
  simp only [Act.put,sIb,sC0,sC1];refine zBA (i := 3) (oi := ⟨some 21,.load 90 (.tmp 20),90, "stairs.go:66",#[⟨2,.data⟩],none⟩) (v := (.slice (some ⟨Lb,0,none⟩) Kn lcap)) rfl (by kernel_rfl) (fun _ _ _ h => h) (Or.inl ⟨by rfl,?_⟩) (KB.out _ GB.out) ?_
  ·intro w hSw;(try dsimp only at hSw);go_simp
  simp only [Act.put,sIb,sC0,sC1];refine zBA (i := 4) (oi := ⟨some 22,.move (.tmp 3),3, "stairs.go:66",#[],none⟩) (v := (.int .i64 (last : Int))) rfl (by kernel_rfl) (fun _ _ _ h => h) (Or.inl ⟨by rfl,?_⟩) (KB.out _ GB.out) ?_
  ·intro w hSw;(try dsimp only at hSw);go_simp
  simp only [Act.put,sIb,sC0,sC1];refine zBA (i := 5) (oi := ⟨some 23,.indexAddr 90 (.tmp 21) (.tmp 22),0, "stairs.go:66",#[⟨3,.data⟩,⟨4,.data⟩],none⟩) (v := (.pointer (some ⟨Lb,last,none⟩))) rfl (by kernel_rfl) (fun _ _ _ h => h) (Or.inl ⟨by rfl,?_⟩) (KB.out _ GB.out) ?_
  ·intro w hSw;(try dsimp only at hSw);go_simp
  simp only [Act.put,sIb,sC0,sC1];refine zBA (i := 6) (oi := ⟨some 24,.load 22 (.tmp 23),22, "stairs.go:66",#[⟨5,.data⟩],none⟩) (v := (.slice (some ⟨gk0,0,none⟩) n n)) rfl (by kernel_rfl) (fun _ _ _ h => h) (Or.inl ⟨by rfl,?_⟩) (KB.out _ GB.out) ?_
  ·intro w hSw;(try dsimp only at hSw);go_simp
  simp only [Act.put,sIb,sC0,sC1];refine zBA (i := 7) (oi := ⟨some 25,.move (.tmp 0),88, "stairs.go:66",#[],none⟩) (v := (.pointer (some ⟨Bs,0,none⟩))) rfl (by kernel_rfl) (fun _ _ _ h => h) (Or.inl ⟨by rfl,?_⟩) (KB.out _ GB.out) ?_
  ·intro w hSw;(try dsimp only at hSw);go_simp
  simp only [Act.put,sIb,sC0,sC1];refine zBA (i := 8) (oi := ⟨some 26,.nilCheck (.tmp 25),0, "stairs.go:66",#[⟨7,.data⟩],none⟩) (v := (.pointer (some ⟨Bs,0,none⟩))) rfl (by kernel_rfl) (fun _ _ _ h => h) (Or.inl ⟨by rfl,?_⟩) (KB.out _ GB.out) ?_
  ·intro w hSw;(try dsimp only at hSw);go_simp
  simp only [Act.put,sIb,sC0,sC1];refine zBA (i := 9) (oi := ⟨some 27,.fieldAddr 92 (.tmp 26) 1,0, "stairs.go:66",#[⟨8,.data⟩],none⟩) (v := (.pointer (some ⟨Bs,1,none⟩))) rfl (by kernel_rfl) (fun _ _ _ h => h) (Or.inl ⟨by rfl,?_⟩) (KB.out _ GB.out) ?_
  ·intro w hSw;(try dsimp only at hSw);go_simp
  simp only [Act.put,sIb,sC0,sC1];refine zBA (i := 10) (oi := ⟨some 28,.load 67 (.tmp 27),67, "stairs.go:66",#[⟨9,.data⟩],none⟩) (v := (.slice (some ⟨gc,0,none⟩) Kn ccap)) rfl (by kernel_rfl) (fun _ _ _ h => h) (Or.inl ⟨by rfl,?_⟩) (KB.out _ GB.out) ?_
  ·intro w hSw;(try dsimp only at hSw);go_simp
  simp only [Act.put,sIb,sC0,sC1];refine zBA (i := 11) (oi := ⟨some 29,.move (.tmp 3),3, "stairs.go:66",#[],none⟩) (v := (.int .i64 (last : Int))) rfl (by kernel_rfl) (fun _ _ _ h => h) (Or.inl ⟨by rfl,?_⟩) (KB.out _ GB.out) ?_
  ·intro w hSw;(try dsimp only at hSw);go_simp
  simp only [Act.put,sIb,sC0,sC1];refine zBA (i := 12) (oi := ⟨some 30,.indexAddr 67 (.tmp 28) (.tmp 29),0, "stairs.go:66",#[⟨10,.data⟩,⟨11,.data⟩],none⟩) (v := (.pointer (some ⟨gc,last,none⟩))) rfl (by kernel_rfl) (fun _ _ _ h => h) (Or.inl ⟨by rfl,?_⟩) (KB.out _ GB.out) ?_
  ·intro w hSw;(try dsimp only at hSw);go_simp
  simp only [Act.put,sIb,sC0,sC1];refine zBA (i := 13) (oi := ⟨some 31,.load 3 (.tmp 30),3, "stairs.go:66",#[⟨12,.data⟩],none⟩) (v := (.int .i64 (cc : Int))) rfl (by kernel_rfl) (fun _ _ _ h => h) (Or.inl ⟨by rfl,?_⟩) (KB.out _ GB.out) ?_
  ·intro w hSw;(try dsimp only at hSw);go_simp
  simp only [Act.put,sIb,sC0,sC1];refine zBA (i := 14) (oi := ⟨some 32,.indexAddr 22 (.tmp 24) (.tmp 31),0, "stairs.go:66",#[⟨6,.data⟩,⟨13,.data⟩],none⟩) (v := (.pointer (some ⟨gk0,cc * 2,none⟩))) rfl (by kernel_rfl) (fun _ _ _ h => h) (Or.inl ⟨by rfl,?_⟩) (KB.out _ GB.out) ?_
  ·intro w hSw;(try dsimp only at hSw);go_simp
  simp only [Act.put,sIb,sC0,sC1];refine zBA (i := 15) (oi := ⟨some 33,.load 27 (.tmp 32),27, "stairs.go:66",#[⟨14,.data⟩],none⟩) (v := (.agg #[.bool np,.slice ap lp cp])) rfl (by kernel_rfl) (fun _ _ _ h => h) (Or.inl ⟨by rfl,?_⟩) (KB.out _ GB.out) ?_
  ·intro w hSw;(try dsimp only at hSw);go_simp
  simp only [Act.put,sIb,sC0,sC1];refine zAA (i := 16) (o := ⟨some 4,.alloc 27,0, "stairs.go:66",#[],none⟩) (by kernel_rfl) rfl (fun K hK => ?_);go_simp;obtain ⟨V2,hW⟩ : ∃ V2,D1.alloc zbox = V2 := ⟨_,rfl⟩
  obtain ⟨b,sz2⟩ := alo1 D1 zbox;rw [hW] at b sz2;replace GB := hid (below_step GB.out b);have DP : Hid (Duo V2 D1.heap.size (.bool false) (.slice none 0 0)) := by unfold Hid;rw [← hW];exact Duo.new D1 _ _
  clear sz2;rw [hW];clear hW b;refine hK.out _ _ (fun _ => KB.out _ GB.out) ?_;clear hK
  try simp only [Act.put]
  refine zAA (i := 17) (o := ⟨none,.store 27 (.tmp 4) (.tmp 33),0, "stairs.go:66",#[⟨16,.data⟩,⟨15,.data⟩,⟨0,.phase⟩,⟨1,.phase⟩,⟨2,.phase⟩,⟨3,.phase⟩,⟨4,.phase⟩,⟨5,.phase⟩,⟨6,.phase⟩,⟨7,.phase⟩,⟨8,.phase⟩,⟨9,.phase⟩,⟨10,.phase⟩,⟨11,.phase⟩,⟨12,.phase⟩,⟨13,.phase⟩,⟨14,.phase⟩,⟨15,.phase⟩,⟨16,.phase⟩],none⟩) (by kernel_rfl) rfl (fun K hK => ?_);have e0 := DP.out.c0;have e1 := DP.out.c1;have e2 := DP.out.fz 0;have e3 := DP.out.fz 1;have SP : Hid (W0.heap.size ≤ D1.heap.size) := GZ.out;go_simp;clear e0 e1 e2 e3;obtain ⟨V3,hW⟩ : ∃ V3,((V2.setCell ⟨D1.heap.size,0,none⟩ (.bool np)).setCell ⟨D1.heap.size,1,none⟩ (.slice ap lp cp)) = V3 := ⟨_,rfl⟩
  replace GB : Hid (Below W0.heap.size W0 V3) := by unfold Hid;rw [← hW];exact bset (bset GB.out SP.out) SP.out
  have QP : Hid (Duo V3 D1.heap.size (.bool np) (.slice ap lp cp)) := by unfold Hid;rw [← hW];exact DP.out.set _ _
  clear DP;rw [hW];clear hW;refine hK.out _ _ (fun h => absurd h (by decide)) ?_;clear hK
  try simp only [Act.put]
  refine zCA (by kernel_rfl) ?_ _;obtain ⟨V,hVV⟩ : ∃ V,V = V3 := ⟨_,rfl⟩
  rw [← hVV] at GB QP ⊢;clear hVV;have PR1 := hid (PR.out.step GB.out);have ZP1 := hid (ZP.out.now GB.out);have G1 := hid (below_step G0.out GB.out);have q4 := cnow GB.out x4;have q0 := QP.out.c0;have q1 := QP.out.c1;have SZ1 : Hid (w.heap.size < V.heap.size) := by unfold Hid;have := SZ.out;have := GB.out.size;omega
  clear GB KB QP GZ SP x0 x1 x2 x3 x4 c0 p0 p1 ZP;cases odd with
  | true =>
   have HN := hid (zFI ZP1.out.zi);go_wp2_with fail;refine HN.out.mono ?_;rintro e w1 ⟨r0,rfl,m0,b⟩;obtain ⟨nr,xr,ar,cr,rfl⟩ := m0.parts;have PR2 := hid (PR1.out.step b);have r0 := PR2.out.c0;have r1 := PR2.out.c1;have f0 := PR2.out.fz 0;have f1 := PR2.out.fz 1;have FIN : Hid (zAB w (detS A rs cs true) kw (.returned (.agg #[.bool nr,.slice ar xr.length cr])) ((w1.setCell ⟨w.heap.size,0,none⟩ (.bool nr)).setCell ⟨w.heap.size,1,none⟩ (.slice ar xr.length cr))) := by
    unfold Hid;rw [HD.out,← EP.out];have e : sgb true * mi A (gd rs) (gd cs) last (gd rs last) cc = - mi A (gd rs) (gd cs) last (gd rs last) cc := by simp [sgb]
    rw [e];exact zgF m0 (below_step G1.out b) (Nat.le_refl _) SZ1.out
   clear m0 b HN;go_wp2_with fail;exact bodyPost_ret (zfB Tryz.results63 (PR2.out.set _ _) _ (by rfl)) rfl FIN.out
  | false =>
   have HN := hid (ziD ZP1.out.zi);go_wp2_with fail;refine HN.out.mono ?_;rintro e w1 ⟨r0,rfl,m0,b⟩;obtain ⟨nr,xr,ar,cr,rfl⟩ := m0.parts;have PR2 := hid (PR1.out.step b);have r0 := PR2.out.c0;have r1 := PR2.out.c1;have f0 := PR2.out.fz 0;have f1 := PR2.out.fz 1;have FIN : Hid (zAB w (detS A rs cs false) kw (.returned (.agg #[.bool nr,.slice ar xr.length cr])) ((w1.setCell ⟨w.heap.size,0,none⟩ (.bool nr)).setCell ⟨w.heap.size,1,none⟩ (.slice ar xr.length cr))) := by
    unfold Hid;rw [HD.out,← EP.out];have e : sgb false * mi A (gd rs) (gd cs) last (gd rs last) cc = mi A (gd rs) (gd cs) last (gd rs last) cc := by simp [sgb]
    rw [e];exact zgF m0 (below_step G1.out b) (Nat.le_refl _) SZ1.out
   clear m0 b HN;go_wp2_with fail;exact bodyPost_ret (zfB Tryz.results63 (PR2.out.set _ _) _ (by rfl)) rfl FIN.out
end Go.Proofs.YtfeofdpnhhiclaaGreat
