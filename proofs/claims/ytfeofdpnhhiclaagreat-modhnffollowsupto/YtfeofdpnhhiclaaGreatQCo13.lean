import Derived.Test.YtfeofdpnhhiclaaGreatQDt13ToSl13
set_option maxRecDepth 100000
set_option maxHeartbeats 6400000
set_option linter.unusedVariables false
set_option linter.unusedSimpArgs false
namespace Go.Proofs.YtfeofdpnhhiclaaGreat
open Go.RowKit
def zPI (w : World) (r c : Nat) (zs : List Int) (kw : Nat) (e : Ending) (w' : World) : Prop :=
 ∃ rs cs odd rv cv n a l cc,e = .returned (.tuple #[rv,cv,.agg #[.bool n,.slice a l cc],.int .i64 0]) ∧ Stz (en c zs) c r rs cs odd ∧ Ivs w.heap.size w' rv rs ∧ Ivs w.heap.size w' cv (srt cs) ∧ Zm w.heap.size w' (.agg #[.bool n,.slice a l cc]) (detS (en c zs) rs cs odd) kw ∧ (∀ b,rv.ownBlock = some b → cv.ownBlock ≠ some b) ∧ Below w.heap.size w w'
theorem zCG {w : World} {v : Value} {r c : Nat} {zs : List Int} {k : Nat} (h : Mx w v r c zs k) (hk : k ≤ 4000000000) : Calls Tryz.prog 37 #[v] w (zPI w r c zs (64 * k + 7)) := by
 have M0 := h;obtain ⟨aa,qa,rfl,hr64,hc64⟩ := h.form;obtain ⟨la,hla⟩ : ∃ la,r * c = la := ⟨_,rfl⟩
 rw [hla] at M0 ⊢;obtain ⟨W0,hW⟩ : ∃ W0,(w.alloc (matO r c (.slice aa la qa))).alloc zbox = W0 := ⟨_,rfl⟩
 obtain ⟨b0,sz0⟩ := zcA w (matO r c (.slice aa la qa)) zbox;rw [hW] at b0 sz0;have PR : Hid (Duo W0 (w.heap.size + 1) (.bool false) (.slice none 0 0)) := by
  unfold Hid;rw [← hW];have := Duo.new (w.alloc (matO r c (.slice aa la qa))) (.bool false) (.slice none 0 0)
  simpa using this
 have PM : Hid (Cel W0 w.heap.size 24 (matc r c (.slice aa la qa))) := by
  unfold Hid;rw [← hW];exact (Cel.new w 24 (matc r c (.slice aa la qa))).step ((Below.refl _ _).alloc (Nat.le_refl _) _)
 have M1 := hid (M0.now b0);have HC := hid (zqC M1.out);have G := hid b0;have EW := hid hW;have SZ := hid sz0;have HKK := hid hk;clear h M0 b0 sz0 hW hk hla;go_enter Tryz.func37,Tryz.ntmps37;go_wp2_with fail;rw [EW.out];clear EW;refine HC.out.mono ?_;rintro e w1 ⟨rfl,b⟩;replace PR := hid (PR.out.step b);replace PM := hid (PM.out.step b);replace M1 := hid (M1.out.now b);have G1 := hid (below_step G.out b);have HST := hid (stairsOf_any M1.out HKK.out);have lz1 := b.size;have x0 := PM.out.at (i := 0) rfl;have x1 := PM.out.at (i := 1) rfl;have x2 := PM.out.at (i := 2) rfl;clear HC b M1 G;go_wp2_with fail;clear x0 x1 x2;refine HST.out.mono ?_;rintro e w2 ⟨Bs,B,rs,cs,odd,ks,rfl,hs1,hz1,hb1,hb2,b⟩;have HS1 := hid hs1;have HZ1 := hid hz1;obtain ⟨rv,cv,lv,s1,s2,s3,s4,s5⟩ := hs1;obtain ⟨ra,rcap,rfl,-,-⟩ := s2.form;obtain ⟨ca,ccap,rfl,-,-⟩ := s3.form;have x0 := s1.at (i := 0) rfl;have x1 := s1.at (i := 1) rfl;have HR64 : Hid (rs.length ≤ 64) := Nat.le_trans hz1.le hr64;have HL64 : Hid (cs.length ≤ 64) := by unfold Hid;rw [hz1.len];exact HR64.out
 have HSS := hid hz1.srt;obtain ⟨rl,hrl⟩ : ∃ rl,rs.length = rl := ⟨_,rfl⟩
 obtain ⟨cl,hcl⟩ : ∃ cl,cs.length = cl := ⟨_,rfl⟩
 have HSL : Hid ((srt cs).length = cl) := by unfold Hid;rw [hz1.srt.2.1,hcl]
 rw [hrl] at x0 s2;rw [hcl] at x1 s3;have HI2 := hid s2;have HI3 := hid s3;have HBB : Hid (w.heap.size ≤ B) := by unfold Hid;have := G1.out.size;omega
 replace PR := hid (PR.out.step b);replace G1 := hid (below_step G1.out b);have hsz := SZ.out;have lz2 := b.size;clear s1 s2 s3 s4 s5 hz1 hb1 hb2 b HST PM hrl hcl;go_upto_region 5 with fail
 have KB : Hid (∀ w',Below w2.heap.size w2 w' → w'.cell? ⟨Bs,0,none⟩ = some (.slice ra rl rcap) ∧ w'.cell? ⟨Bs,1,none⟩ = some (.slice ca cl ccap)) := fun w' h => ⟨cnow h x0,cnow h x1⟩
 refine zFA (fun w' => w'.cell? ⟨Bs,0,none⟩ = some (.slice ra rl rcap) ∧ w'.cell? ⟨Bs,1,none⟩ = some (.slice ca cl ccap)) 12 (by kernel_rfl) ?_;obtain ⟨D41,hD⟩ : ∃ D41,w2.drew = D41 := ⟨_,rfl⟩
 have GB : Hid (Below w2.heap.size w2 D41) := by unfold Hid;rw [← hD];exact (Below.refl _ _).drew
 rw [hD];clear hD;have D5Z := GB.out.size;refine zBA (i := 0) (oi := ⟨some 16,.move (.tmp 7),88, "bareiss.go:44",#[],none⟩) (v := (.pointer (some ⟨Bs,0,none⟩))) rfl (by kernel_rfl) (fun _ _ _ h => h) (Or.inl ⟨by rfl,?_⟩) (KB.out _ GB.out) ?_
 ·intro w hSw;(try dsimp only at hSw);go_simp
 simp only [Act.put,sIb,sC0,sC1];refine zBA (i := 1) (oi := ⟨some 17,.nilCheck (.tmp 16),0, "bareiss.go:44",#[⟨0,.data⟩],none⟩) (v := (.pointer (some ⟨Bs,0,none⟩))) rfl (by kernel_rfl) (fun _ _ _ h => h) (Or.inl ⟨by rfl,?_⟩) (KB.out _ GB.out) ?_
 ·intro w hSw;(try dsimp only at hSw);go_simp
 simp only [Act.put,sIb,sC0,sC1];refine zBA (i := 2) (oi := ⟨some 18,.fieldAddr 92 (.tmp 17) 0,0, "bareiss.go:44",#[⟨1,.data⟩],none⟩) (v := (.pointer (some ⟨Bs,0,none⟩))) rfl (by kernel_rfl) (fun _ _ _ h => h) (Or.inl ⟨by rfl,?_⟩) (KB.out _ GB.out) ?_
 ·intro w hSw;(try dsimp only at hSw);go_simp
 simp only [Act.put,sIb,sC0,sC1];refine zBA (i := 3) (oi := ⟨some 19,.load 67 (.tmp 18),67, "bareiss.go:44",#[⟨2,.data⟩],none⟩) (v := (.slice ra rl rcap)) rfl (by kernel_rfl) (fun _ _ _ h => h) (Or.inl ⟨by rfl,?_⟩) (KB.out _ GB.out) ?_
 ·intro w hSw;(try dsimp only at hSw);go_simp
 simp only [Act.put,sIb,sC0,sC1];refine zBA (i := 4) (oi := ⟨some 20,.move (.tmp 7),88, "bareiss.go:44",#[],none⟩) (v := (.pointer (some ⟨Bs,0,none⟩))) rfl (by kernel_rfl) (fun _ _ _ h => h) (Or.inl ⟨by rfl,?_⟩) (KB.out _ GB.out) ?_
 ·intro w hSw;(try dsimp only at hSw);go_simp
 simp only [Act.put,sIb,sC0,sC1];refine zBA (i := 5) (oi := ⟨some 21,.nilCheck (.tmp 20),0, "bareiss.go:44",#[⟨4,.data⟩],none⟩) (v := (.pointer (some ⟨Bs,0,none⟩))) rfl (by kernel_rfl) (fun _ _ _ h => h) (Or.inl ⟨by rfl,?_⟩) (KB.out _ GB.out) ?_
 ·intro w hSw;(try dsimp only at hSw);go_simp
 simp only [Act.put,sIb,sC0,sC1];refine zBA (i := 6) (oi := ⟨some 22,.fieldAddr 92 (.tmp 21) 1,0, "bareiss.go:44",#[⟨5,.data⟩],none⟩) (v := (.pointer (some ⟨Bs,1,none⟩))) rfl (by kernel_rfl) (fun _ _ _ h => h) (Or.inl ⟨by rfl,?_⟩) (KB.out _ GB.out) ?_
 ·intro w hSw;(try dsimp only at hSw);go_simp
 simp only [Act.put,sIb,sC0,sC1];refine zBA (i := 7) (oi := ⟨some 23,.load 67 (.tmp 22),67, "bareiss.go:44",#[⟨6,.data⟩],none⟩) (v := (.slice ca cl ccap)) rfl (by kernel_rfl) (fun _ _ _ h => h) (Or.inl ⟨by rfl,?_⟩) (KB.out _ GB.out) ?_
 ·intro w hSw;(try dsimp only at hSw);go_simp
 simp only [Act.put,sIb,sC0,sC1];refine zBA (i := 10) (oi := ⟨some 26,.move (.tmp 7),88, "bareiss.go:44",#[],none⟩) (v := (.pointer (some ⟨Bs,0,none⟩))) rfl (by kernel_rfl) (fun _ _ _ h => h) (Or.inl ⟨by rfl,?_⟩) (KB.out _ GB.out) ?_
 ·intro w hSw;(try dsimp only at hSw);go_simp
 simp only [Act.put,sIb,sC0,sC1];refine zAA (i := 8) (o := ⟨some 24,.call { callee := .value (.func 62),args := #[.tmp 23],argTypes := #[67] },95, "bareiss.go:44",#[⟨7,.data⟩],none⟩) (by kernel_rfl) rfl (fun K hK => ?_);go_simp;go_at_call 62;refine values13.mono ?_;rintro e w42 ⟨rfl,hw8⟩;have b : Below D41.heap.size D41 w42 := by rw [hw8];exact (Below.refl _ _).alloc (Nat.le_refl _) _
 have CB : Hid (w42.cell? ⟨D41.heap.size,0,none⟩ = some (.slice ca cl ccap)) := by unfold Hid;rw [hw8];exact (Cel.new D41 67 [(.slice ca cl ccap)]).at (i := 0) rfl
 replace GB := hid (below_step GB.out b);have lz8 := b.size;clear hw8 b;refine hK.out _ _ (fun _ => KB.out _ GB.out) ?_;clear hK;refine zAA (i := 9) (o := ⟨some 25,.call { callee := .value (.func 61),args := #[.tmp 24],argTypes := #[95] },67, "bareiss.go:44",#[⟨8,.data⟩,⟨8,.chain⟩],none⟩) (by kernel_rfl) rfl (fun K hK => ?_);go_simp;go_at_call 61;refine (sorted13 (HI3.out.now GB.out) CB.out HL64.out HSS.out).mono ?_;rintro e w43 ⟨sv,rfl,hsv,b⟩;have lz43 := (show Below _ _ _ from b).size;replace GB := hid (below_step GB.out b);have SV := hid hsv;obtain ⟨sa,scap,hsvf,-,-⟩ := hsv.form;rw [HSL.out] at hsvf;subst hsvf;clear hsv CB;clear b;refine hK.out _ _ (fun _ => KB.out _ GB.out) ?_;clear hK;refine zAA (i := 11) (o := ⟨some 27,.call { callee := .value (.func 63),args := #[.tmp 26],argTypes := #[88] },27, "bareiss.go:44",#[⟨10,.data⟩,⟨9,.chain⟩],none⟩) (by kernel_rfl) rfl (fun K hK => ?_);go_simp;go_at_call 63;refine (sdet_any (HS1.out.now GB.out) HZ1.out (by omega) hc64 HR64.out).mono ?_;rintro e w44 ⟨r0,rfl,m1,b⟩;have lz44 := (show Below _ _ _ from b).size;replace GB := hid (below_step GB.out b);replace SV := hid (SV.out.now b);obtain ⟨nr,xr,ar,cr,rfl⟩ := m1.parts;have M1 := hid m1;clear m1;clear b;refine hK.out _ _ (fun _ => KB.out _ GB.out) ?_;clear hK;refine zAA (i := 12) (o := ⟨some 2,.assign (.tmp 19),67, "bareiss.go:44",#[⟨3,.data⟩,⟨11,.chain⟩,⟨0,.phase⟩,⟨1,.phase⟩,⟨2,.phase⟩,⟨3,.phase⟩,⟨4,.textOnly .lateStores⟩,⟨5,.textOnly .lateStores⟩,⟨6,.textOnly .lateStores⟩,⟨7,.textOnly .lateStores⟩,⟨8,.textOnly .lateStoresUnsure⟩,⟨9,.textOnly .lateStoresUnsure⟩,⟨10,.textOnly .lateStores⟩,⟨11,.textOnly .lateStoresUnsure⟩],none⟩) (by kernel_rfl) rfl (fun K hK => ?_);go_simp;refine hK.out _ _ (fun h => absurd h (by decide)) ?_;clear hK
 try simp only [Act.put]
 refine zAA (i := 13) (o := ⟨some 3,.assign (.tmp 25),67, "bareiss.go:44",#[⟨9,.data⟩,⟨12,.chain⟩,⟨0,.phase⟩,⟨1,.phase⟩,⟨2,.phase⟩,⟨3,.phase⟩,⟨4,.phase⟩,⟨5,.phase⟩,⟨6,.phase⟩,⟨7,.phase⟩,⟨8,.phase⟩,⟨9,.phase⟩,⟨10,.textOnly .lateStores⟩,⟨11,.textOnly .lateStoresUnsure⟩,⟨12,.phase⟩],none⟩) (by kernel_rfl) rfl (fun K hK => ?_);go_simp;refine hK.out _ _ (fun h => absurd h (by decide)) ?_;clear hK
 try simp only [Act.put]
 refine zAA (i := 14) (o := ⟨none,.store 27 (.tmp 4) (.tmp 27),0, "bareiss.go:44",#[⟨11,.data⟩,⟨13,.chain⟩,⟨0,.phase⟩,⟨1,.phase⟩,⟨2,.phase⟩,⟨3,.phase⟩,⟨4,.phase⟩,⟨5,.phase⟩,⟨6,.phase⟩,⟨7,.phase⟩,⟨8,.phase⟩,⟨9,.phase⟩,⟨10,.phase⟩,⟨11,.phase⟩,⟨12,.phase⟩,⟨13,.phase⟩],none⟩) (by kernel_rfl) rfl (fun K hK => ?_);replace PR := hid (PR.out.step GB.out);have e0 := PR.out.c0;have e1 := PR.out.c1;have e2 := PR.out.fz 0;have e3 := PR.out.fz 1;go_simp;clear e0 e1 e2 e3;obtain ⟨V45,hW⟩ : ∃ V45,((w44.setCell ⟨w.heap.size + 1,0,none⟩ (.bool nr)).setCell ⟨w.heap.size + 1,1,none⟩ (.slice ar xr.length cr)) = V45 := ⟨_,rfl⟩
 have FIN : Hid (zPI w r c zs (64 * k + 7) (.returned (.tuple #[(.slice ra rl rcap),.slice sa cl scap,.agg #[.bool nr,.slice ar xr.length cr],.int .i64 0])) V45 ∧ Duo V45 (w.heap.size + 1) (.bool nr) (.slice ar xr.length cr)) := by
  unfold Hid;rw [← hW];have ty := PR.out.ty13 (.bool nr) (.slice ar xr.length cr);have g := zgF M1.out (below_step G1.out GB.out) (show w.heap.size ≤ w.heap.size + 1 by omega) (show w.heap.size + 1 < _ by omega);obtain ⟨_,e,g1,g2⟩ := g;simp only [Ending.returned.injEq] at e;subst e;have i1 : Ivs w.heap.size _ (.slice ra rl rcap) rs := zTC ((HI2.out.now GB.out).ty ty (by decide)) HBB.out;have i2 : Ivs w.heap.size _ (.slice sa cl scap) (srt cs) := zTC (SV.out.ty ty (by decide)) (by omega);refine ⟨⟨rs,cs,odd,_,_,_,_,_,_,rfl,HZ1.out,i1,i2,g1,fun b hb1 hb2 => ?_,g2⟩,PR.out.set _ _⟩;have l1 := (Array.getElem?_eq_some_iff.1 (HI2.out.blk hb1).2.choose_spec).1;have l2 := (SV.out.blk hb2).1;omega
 rw [hW];clear hW;refine hK.out _ _ (fun h => absurd h (by decide)) ?_;clear hK
 try simp only [Act.put]
 refine zAA (i := 15) (o := ⟨some 5,.assign (.const (.int .i64 0)),29, "bareiss.go:44",#[⟨14,.chain⟩,⟨0,.phase⟩,⟨1,.phase⟩,⟨2,.phase⟩,⟨3,.phase⟩,⟨4,.phase⟩,⟨5,.phase⟩,⟨6,.phase⟩,⟨7,.phase⟩,⟨8,.phase⟩,⟨9,.phase⟩,⟨10,.phase⟩,⟨11,.phase⟩,⟨12,.phase⟩,⟨13,.phase⟩,⟨14,.phase⟩],none⟩) (by kernel_rfl) rfl (fun K hK => ?_);go_simp;refine hK.out _ _ (fun h => absurd h (by decide)) ?_;clear hK
 try simp only [Act.put]
 refine zCA (by kernel_rfl) ?_ _;clear HS1 HZ1 M1 GB KB SV HI2 HI3;have z0 := FIN.out.2.c0;have z1 := FIN.out.2.c1;go_wp2_with fail;exact bodyPost_ret (by simp [results,Tryz.results37,go_sem,z0,z1]) rfl FIN.out.1
def Num1 (w : World) (x : Int) (e : Ending) (w' : World) : Prop := e = .returned (.tuple #[.int .i64 x,.int .i64 0]) ∧ Below w.heap.size w w'
theorem rank_yes {w : World} {v : Value} {r c : Nat} {zs : List Int} {k : Nat} (h : Mx w v r c zs k) (hk : k ≤ 4000000000) : Calls Tryz.prog 17 #[v] w fun e w' => ∃ rs cs odd,Stz (en c zs) c r rs cs odd ∧ Num1 w (rs.length : Int) e w' := by
 have M0 := h;obtain ⟨aa,qa,rfl,hr64,hc64⟩ := h.form;obtain ⟨la,hla⟩ : ∃ la,r * c = la := ⟨_,rfl⟩
 rw [hla] at M0 ⊢;obtain ⟨W0,hW⟩ : ∃ W0,w.alloc (matO r c (.slice aa la qa)) = W0 := ⟨_,rfl⟩
 obtain ⟨b0,sz0⟩ := alo1 w (matO r c (.slice aa la qa));rw [hW] at b0 sz0;have HC := hid (zCG (M0.now b0) hk);have G := hid b0;have EW := hid hW;clear h M0 b0 sz0 hW hk hla;go_enter Tryz.func17,Tryz.ntmps17;go_wp2_with fail;rw [EW.out];clear EW;refine HC.out.mono ?_;rintro e w1 ⟨rs,cs,odd,rv,cv,n,a,l,cc,rfl,hz,i1,i2,m,-,b⟩;obtain ⟨ra,rcap,rfl,-,-⟩ := i1.form;obtain ⟨ca,ccap,rfl,-,-⟩ := i2.form;have FIN : Hid (∃ rs' cs' odd',Stz (en c zs) c r rs' cs' odd' ∧ Num1 w (rs'.length : Int) (.returned (.tuple #[.int .i64 (rs.length : Int),.int .i64 0])) (w1.alloc (.cells #[.bool n,.slice a l cc] 27))) := ⟨rs,cs,odd,hz,rfl,below_step (below_step G.out b) ((Below.refl _ _).alloc (Nat.le_refl _) _)⟩
 clear hz i1 i2 m b HC;generalize rs.length = rl at *;generalize (srt cs).length = cl at *;go_wp2;go_ret2;exact FIN.out
end Go.Proofs.YtfeofdpnhhiclaaGreat
