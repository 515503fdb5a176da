/-
 QCo13ToVo19: Co13, Vo19, joined.
-/
import Derived.Test.YtfeofdpnhhiclaaGreatQDt13ToSl13
import Derived.Test.YtfeofdpnhhiclaaGreatQPi19ToDg19

set_option maxRecDepth 100000
set_option maxHeartbeats 6400000
set_option linter.unusedVariables false
set_option linter.unusedSimpArgs false
namespace Go.Proofs.YtfeofdpnhhiclaaGreat
open Go.RowKit
def zpH (w : World) (r c : Nat) (zs : List Int) (kw : Nat) (e : Ending) (w' : World) : Prop :=
 ∃ rs cs odd rv cv n a l cc,e = .returned (.tuple #[rv,cv,.agg #[.bool n,.slice a l cc],.int .i64 0]) ∧ Stz (en c zs) c r rs cs odd ∧ Ivs w.heap.size w' rv rs ∧ Ivs w.heap.size w' cv (srt cs) ∧ Zm w.heap.size w' (.agg #[.bool n,.slice a l cc]) (detS (en c zs) rs cs odd) kw ∧ (∀ b,rv.ownBlock = some b → cv.ownBlock ≠ some b) ∧ Below w.heap.size w w'
theorem core_yes {w : World} {v : Value} {r c : Nat} {zs : List Int} {k : Nat} (h : Mx w v r c zs k) (hk : k ≤ 4000000000) : Calls Tryz.prog 37 #[v] w (zpH w r c zs (64 * k + 7)) := by
 have M0 := h;obtain ⟨aa,qa,rfl,hr64,hc64⟩ := h.form;obtain ⟨la,hla⟩ : ∃ la,r * c = la := ⟨_,rfl⟩
 rw [hla] at M0 ⊢;obtain ⟨W0,hW⟩ : ∃ W0,(w.alloc (matO r c (.slice aa la qa))).alloc zbox = W0 := ⟨_,rfl⟩
 obtain ⟨b0,sz0⟩ := ziA w (matO r c (.slice aa la qa)) zbox;rw [hW] at b0 sz0;have PR : Hid (Duo W0 (w.heap.size + 1) (.bool false) (.slice none 0 0)) := by
  unfold Hid;rw [← hW];have := Duo.new (w.alloc (matO r c (.slice aa la qa))) (.bool false) (.slice none 0 0)
  simpa using this
 have PM : Hid (Cel W0 w.heap.size 24 (matc r c (.slice aa la qa))) := by
  unfold Hid;rw [← hW];exact (Cel.new w 24 (matc r c (.slice aa la qa))).step ((Below.refl _ _).alloc (Nat.le_refl _) _)
 have M1 := hid (M0.now b0);have HC := hid (zJB M1.out);have G := hid b0;have EW := hid hW;have SZ := hid sz0;have HKK := hid hk;clear h M0 b0 sz0 hW hk hla;go_enter Tryz.func37,Tryz.ntmps37;go_wp2_with fail;rw [EW.out];clear EW;refine HC.out.mono ?_;rintro e w1 ⟨rfl,b⟩;replace PR := hid (PR.out.step b);replace PM := hid (PM.out.step b);replace M1 := hid (M1.out.now b);have G1 := hid (below_step G.out b);have HST := hid (stairsOf_any M1.out HKK.out);have lz1 := b.size;have x0 := PM.out.at (i := 0) rfl;have x1 := PM.out.at (i := 1) rfl;have x2 := PM.out.at (i := 2) rfl;clear HC b M1 G;go_wp2_with fail;clear x0 x1 x2;refine HST.out.mono ?_;rintro e w2 ⟨Bs,B,rs,cs,odd,ks,rfl,hs1,hz1,hb1,hb2,b⟩;have HS1 := hid hs1;have HZ1 := hid hz1;obtain ⟨rv,cv,lv,s1,s2,s3,s4,s5⟩ := hs1;obtain ⟨ra,rcap,rfl,-,-⟩ := s2.form;obtain ⟨ca,ccap,rfl,-,-⟩ := s3.form;have x0 := s1.at (i := 0) rfl;have x1 := s1.at (i := 1) rfl;have HR64 : Hid (rs.length ≤ 64) := Nat.le_trans hz1.le hr64;have HL64 : Hid (cs.length ≤ 64) := by unfold Hid;rw [hz1.len];exact HR64.out
 have HSS := hid hz1.srt;obtain ⟨rl,hrl⟩ : ∃ rl,rs.length = rl := ⟨_,rfl⟩
 obtain ⟨cl,hcl⟩ : ∃ cl,cs.length = cl := ⟨_,rfl⟩
 have HSL : Hid ((srt cs).length = cl) := by unfold Hid;rw [hz1.srt.2.1,hcl]
 rw [hrl] at x0 s2;rw [hcl] at x1 s3;have HI2 := hid s2;have HI3 := hid s3;have HBB : Hid (w.heap.size ≤ B) := by unfold Hid;have := G1.out.size;omega
 replace PR := hid (PR.out.step b);replace G1 := hid (below_step G1.out b);have hsz := SZ.out;have lz2 := b.size;clear s1 s2 s3 s4 s5 hz1 hb1 hb2 b HST PM hrl hcl;go_upto_region 5 with fail
 have KB : Hid (∀ w',Below w2.heap.size w2 w' → w'.cell? ⟨Bs,0,none⟩ = some (.slice ra rl rcap) ∧ w'.cell? ⟨Bs,1,none⟩ = some (.slice ca cl ccap)) := fun w' h => ⟨cnow h x0,cnow h x1⟩
 refine zFA (fun w' => w'.cell? ⟨Bs,0,none⟩ = some (.slice ra rl rcap) ∧ w'.cell? ⟨Bs,1,none⟩ = some (.slice ca cl ccap)) 12 (by kernel_rfl) ?_;obtain ⟨D41,hD⟩ : ∃ D41,w2.drew = D41 := ⟨_,rfl⟩
 have GB : Hid (Below w2.heap.size w2 D41) := by unfold Hid;rw [← hD];exact (Below.refl _ _).drew
 rw [hD];clear hD;have D5Z := GB.out.size;refine zBA (i := 0) (oi := ⟨some 16,.move (.tmp 7),88, "bareiss.go:44",#[],none⟩) (v := (.pointer (some ⟨Bs,0,none⟩))) rfl (by kernel_rfl) (fun _ _ _ h => h) (Or.inl ⟨by rfl,?_⟩) (KB.out _ GB.out) ?_
 ·intro w hSw;(try dsimp only at hSw);go_simp
 simp only [Act.put,sIb,sC0,sC1];refine zBA (i := 1) (oi := ⟨some 17,.nilCheck (.tmp 16),0, "bareiss.go:44",#[⟨0,.data⟩],none⟩) (v := (.pointer (some ⟨Bs,0,none⟩))) rfl (by kernel_rfl) (fun _ _ _ h => h) (Or.inl ⟨by rfl,?_⟩) (KB.out _ GB.out) ?_
 ·intro w hSw;(try dsimp only at hSw);go_simp
 simp only [Act.put,sIb,sC0,sC1];refine zBA (i := 2) (oi := ⟨some 18,.fieldAddr 92 (.tmp 17) 0,0, "bareiss.go:44",#[⟨1,.data⟩],none⟩) (v := (.pointer (some ⟨Bs,0,none⟩))) rfl (by kernel_rfl) (fun _ _ _ h => h) (Or.inl ⟨by rfl,?_⟩) (KB.out _ GB.out) ?_
 ·intro w hSw;(try dsimp only at hSw);go_simp
 simp only [Act.put,sIb,sC0,sC1];refine zBA (i := 3) (oi := ⟨some 19,.load 67 (.tmp 18),67, "bareiss.go:44",#[⟨2,.data⟩],none⟩) (v := (.slice ra rl rcap)) rfl (by kernel_rfl) (fun _ _ _ h => h) (Or.inl ⟨by rfl,?_⟩) (KB.out _ GB.out) ?_
 ·intro w hSw;(try dsimp only at hSw);go_simp
 simp only [Act.put,sIb,sC0,sC1];refine zBA (i := 4) (oi := ⟨some 20,.move (.tmp 7),88, "bareiss.go:44",#[],none⟩) (v := (.pointer (some ⟨Bs,0,none⟩))) rfl (by kernel_rfl) (fun _ _ _ h => h) (Or.inl ⟨by rfl,?_⟩) (KB.out _ GB.out) ?_
 ·intro w hSw;(try dsimp only at hSw);go_simp
 simp only [Act.put,sIb,sC0,sC1];refine zBA (i := 5) (oi := ⟨some 21,.nilCheck (.tmp 20),0, "bareiss.go:44",#[⟨4,.data⟩],none⟩) (v := (.pointer (some ⟨Bs,0,none⟩))) rfl (by kernel_rfl) (fun _ _ _ h => h) (Or.inl ⟨by rfl,?_⟩) (KB.out _ GB.out) ?_
 ·intro w hSw;(try dsimp only at hSw);go_simp
 simp only [Act.put,sIb,sC0,sC1];refine zBA (i := 6) (oi := ⟨some 22,.fieldAddr 92 (.tmp 21) 1,0, "bareiss.go:44",#[⟨5,.data⟩],none⟩) (v := (.pointer (some ⟨Bs,1,none⟩))) rfl (by kernel_rfl) (fun _ _ _ h => h) (Or.inl ⟨by rfl,?_⟩) (KB.out _ GB.out) ?_
 ·intro w hSw;(try dsimp only at hSw);go_simp
 simp only [Act.put,sIb,sC0,sC1];refine zBA (i := 7) (oi := ⟨some 23,.load 67 (.tmp 22),67, "bareiss.go:44",#[⟨6,.data⟩],none⟩) (v := (.slice ca cl ccap)) rfl (by kernel_rfl) (fun _ _ _ h => h) (Or.inl ⟨by rfl,?_⟩) (KB.out _ GB.out) ?_
 ·intro w hSw;(try dsimp only at hSw);go_simp
 simp only [Act.put,sIb,sC0,sC1];refine zBA (i := 10) (oi := ⟨some 26,.move (.tmp 7),88, "bareiss.go:44",#[],none⟩) (v := (.pointer (some ⟨Bs,0,none⟩))) rfl (by kernel_rfl) (fun _ _ _ h => h) (Or.inl ⟨by rfl,?_⟩) (KB.out _ GB.out) ?_
 ·intro w hSw;(try dsimp only at hSw);go_simp
 simp only [Act.put,sIb,sC0,sC1];refine zAA (i := 8) (o := ⟨some 24,.call { callee := .value (.func 62),args := #[.tmp 23],argTypes := #[67] },95, "bareiss.go:44",#[⟨7,.data⟩],none⟩) (by kernel_rfl) rfl (fun K hK => ?_);go_simp;go_at_call 62;refine values13.mono ?_;rintro e w42 ⟨rfl,hw8⟩;have b : Below D41.heap.size D41 w42 := by rw [hw8];exact (Below.refl _ _).alloc (Nat.le_refl _) _
 have CB : Hid (w42.cell? ⟨D41.heap.size,0,none⟩ = some (.slice ca cl ccap)) := by unfold Hid;rw [hw8];exact (Cel.new D41 67 [(.slice ca cl ccap)]).at (i := 0) rfl
 replace GB := hid (below_step GB.out b);have lz8 := b.size;clear hw8 b;refine hK.out _ _ (fun _ => KB.out _ GB.out) ?_;clear hK;refine zAA (i := 9) (o := ⟨some 25,.call { callee := .value (.func 61),args := #[.tmp 24],argTypes := #[95] },67, "bareiss.go:44",#[⟨8,.data⟩,⟨8,.chain⟩],none⟩) (by kernel_rfl) rfl (fun K hK => ?_);go_simp;go_at_call 61;refine (sorted13 (HI3.out.now GB.out) CB.out HL64.out HSS.out).mono ?_;rintro e w43 ⟨sv,rfl,hsv,b⟩;have lz43 := (show Below _ _ _ from b).size;replace GB := hid (below_step GB.out b);have SV := hid hsv;obtain ⟨sa,scap,hsvf,-,-⟩ := hsv.form;rw [HSL.out] at hsvf;subst hsvf;clear hsv CB;clear b;refine hK.out _ _ (fun _ => KB.out _ GB.out) ?_;clear hK;refine zAA (i := 11) (o := ⟨some 27,.call { callee := .value (.func 63),args := #[.tmp 26],argTypes := #[88] },27, "bareiss.go:44",#[⟨10,.data⟩,⟨9,.chain⟩],none⟩) (by kernel_rfl) rfl (fun K hK => ?_);go_simp;go_at_call 63;refine (sdet_any (HS1.out.now GB.out) HZ1.out (by omega) hc64 HR64.out).mono ?_;rintro e w44 ⟨r0,rfl,m1,b⟩;have lz44 := (show Below _ _ _ from b).size;replace GB := hid (below_step GB.out b);replace SV := hid (SV.out.now b);obtain ⟨nr,xr,ar,cr,rfl⟩ := m1.parts;have M1 := hid m1;clear m1;clear b;refine hK.out _ _ (fun _ => KB.out _ GB.out) ?_;clear hK;refine zAA (i := 12) (o := ⟨some 2,.assign (.tmp 19),67, "bareiss.go:44",#[⟨3,.data⟩,⟨11,.chain⟩,⟨0,.phase⟩,⟨1,.phase⟩,⟨2,.phase⟩,⟨3,.phase⟩,⟨4,.textOnly .lateStores⟩,⟨5,.textOnly .lateStores⟩,⟨6,.textOnly .lateStores⟩,⟨7,.textOnly .lateStores⟩,⟨8,.textOnly .lateStoresUnsure⟩,⟨9,.textOnly .lateStoresUnsure⟩,⟨10,.textOnly .lateStores⟩,⟨11,.textOnly .lateStoresUnsure⟩],none⟩) (by kernel_rfl) rfl (fun K hK => ?_);go_simp;refine hK.out _ _ (fun h => absurd h (by decide)) ?_;clear hK
 try simp only [Act.put]
 refine zAA (i := 13) (o := ⟨some 3,.assign (.tmp 25),67, "bareiss.go:44",#[⟨9,.data⟩,⟨12,.chain⟩,⟨0,.phase⟩,⟨1,.phase⟩,⟨2,.phase⟩,⟨3,.phase⟩,⟨4,.phase⟩,⟨5,.phase⟩,⟨6,.phase⟩,⟨7,.phase⟩,⟨8,.phase⟩,⟨9,.phase⟩,⟨10,.textOnly .lateStores⟩,⟨11,.textOnly .lateStoresUnsure⟩,⟨12,.phase⟩],none⟩) (by kernel_rfl) rfl (fun K hK => ?_);go_simp;refine hK.out _ _ (fun h => absurd h (by decide)) ?_;clear hK
 try simp only [Act.put]
 refine zAA (i := 14) (o := ⟨none,.store 27 (.tmp 4) (.tmp 27),0, "bareiss.go:44",#[⟨11,.data⟩,⟨13,.chain⟩,⟨0,.phase⟩,⟨1,.phase⟩,⟨2,.phase⟩,⟨3,.phase⟩,⟨4,.phase⟩,⟨5,.phase⟩,⟨6,.phase⟩,⟨7,.phase⟩,⟨8,.phase⟩,⟨9,.phase⟩,⟨10,.phase⟩,⟨11,.phase⟩,⟨12,.phase⟩,⟨13,.phase⟩],none⟩) (by kernel_rfl) rfl (fun K hK => ?_);replace PR := hid (PR.out.step GB.out);have e0 := PR.out.c0;have e1 := PR.out.c1;have e2 := PR.out.fz 0;have e3 := PR.out.fz 1;go_simp;clear e0 e1 e2 e3;obtain ⟨V45,hW⟩ : ∃ V45,((w44.setCell ⟨w.heap.size + 1,0,none⟩ (.bool nr)).setCell ⟨w.heap.size + 1,1,none⟩ (.slice ar xr.length cr)) = V45 := ⟨_,rfl⟩
 have FIN : Hid (zpH w r c zs (64 * k + 7) (.returned (.tuple #[(.slice ra rl rcap),.slice sa cl scap,.agg #[.bool nr,.slice ar xr.length cr],.int .i64 0])) V45 ∧ Duo V45 (w.heap.size + 1) (.bool nr) (.slice ar xr.length cr)) := by
  unfold Hid;rw [← hW];have ty := PR.out.ty13 (.bool nr) (.slice ar xr.length cr);have g := zUF M1.out (below_step G1.out GB.out) (show w.heap.size ≤ w.heap.size + 1 by omega) (show w.heap.size + 1 < _ by omega);obtain ⟨_,e,g1,g2⟩ := g;simp only [Ending.returned.injEq] at e;subst e;have i1 : Ivs w.heap.size _ (.slice ra rl rcap) rs := zUC ((HI2.out.now GB.out).ty ty (by decide)) HBB.out;have i2 : Ivs w.heap.size _ (.slice sa cl scap) (srt cs) := zUC (SV.out.ty ty (by decide)) (by omega);refine ⟨⟨rs,cs,odd,_,_,_,_,_,_,rfl,HZ1.out,i1,i2,g1,fun b hb1 hb2 => ?_,g2⟩,PR.out.set _ _⟩;have l1 := (Array.getElem?_eq_some_iff.1 (HI2.out.blk hb1).2.choose_spec).1;have l2 := (SV.out.blk hb2).1;omega
 rw [hW];clear hW;refine hK.out _ _ (fun h => absurd h (by decide)) ?_;clear hK
 try simp only [Act.put]
 refine zAA (i := 15) (o := ⟨some 5,.assign (.const (.int .i64 0)),29, "bareiss.go:44",#[⟨14,.chain⟩,⟨0,.phase⟩,⟨1,.phase⟩,⟨2,.phase⟩,⟨3,.phase⟩,⟨4,.phase⟩,⟨5,.phase⟩,⟨6,.phase⟩,⟨7,.phase⟩,⟨8,.phase⟩,⟨9,.phase⟩,⟨10,.phase⟩,⟨11,.phase⟩,⟨12,.phase⟩,⟨13,.phase⟩,⟨14,.phase⟩],none⟩) (by kernel_rfl) rfl (fun K hK => ?_);go_simp;refine hK.out _ _ (fun h => absurd h (by decide)) ?_;clear hK
 try simp only [Act.put]
 refine zCA (by kernel_rfl) ?_ _;clear HS1 HZ1 M1 GB KB SV HI2 HI3;have z0 := FIN.out.2.c0;have z1 := FIN.out.2.c1;go_wp2_with fail;exact bodyPost_ret (by simp [results,Tryz.results37,go_sem,z0,z1]) rfl FIN.out.1
theorem cback19 {f : Func} {s t : Nat} (hr : f.results = #[ResultVar.cell s 71,ResultVar.tmp t]) {W : World} {b : Nat} {x0 x1 x2 x3 x4 x5 x6 y : Value} (h : Cel W b 71 [x0,x1,x2,x3,x4,x5,x6]) (tmps : Array Value) (ht : tmps[s]? = some (.pointer (some ⟨b,0,none⟩))) (hy : tmps[t]? = some y) :
  (results f tmps).run Tryz.prog W = .ok (.tuple #[.agg #[x0,x1,x2,x3,x4,x5,x6],y]) W := by
 simp [results,hr,go_sem,ht,hy,h.at (i := 0) rfl,h.at (i := 1) rfl,h.at (i := 2) rfl,h.at (i := 3) rfl,h.at (i := 4) rfl,h.at (i := 5) rfl,h.at (i := 6) rfl]
abbrev put7 (w : World) (b : Nat) (y0 y1 y2 y3 y4 y5 y6 : Value) : World := ((((((w.setCell ⟨b,0,none⟩ y0).setCell ⟨b,1,none⟩ y1).setCell ⟨b,2,none⟩ y2).setCell ⟨b,3,none⟩ y3).setCell ⟨b,4,none⟩ y4).setCell ⟨b,5,none⟩ y5).setCell ⟨b,6,none⟩ y6
def zqH (w : World) (r c la ca : Nat) (aa : Option Addr) (zs : List Int) (kw : Nat) (e : Ending) (w' : World) : Prop :=
 ∃ rs cs odd ra rl rcap ga gl gcap n a l cc,e = .returned (.tuple #[.agg #[.int .i64 (r : Int),.int .i64 (c : Int),.slice aa la ca,.slice ra rl rcap,.slice ga gl gcap,.bool n,.slice a l cc],.int .i64 0]) ∧ Stz (en c zs) c r rs cs odd ∧ In9 w' (.slice ra rl rcap) (natv rs) ∧ In9 w' (.slice ga gl gcap) (natv (srt cs)) ∧ Zm 0 w' (.agg #[.bool n,.slice a l cc]) (detS (en c zs) rs cs odd) kw ∧ Below w.heap.size w w'
theorem zDF {B : Nat} {w : World} {v : Value} {l : List Nat} (h : Ivs B w v l) (hl : l.length ≤ 1048576) : In9 w v (natv l) := by
 have h' := h;obtain ⟨q1,⟨q2,q3⟩ | ⟨g,cap,cur,q2,q3,q4,q5,q6,q7,q8⟩⟩ := h
 ·have : l = [] := List.length_eq_zero_iff.1 q3
  subst this;exact ⟨none,0,by rw [q2];rfl,by simp,by simp,.inl (by simp)⟩
 ·refine ⟨some ⟨g,0,none⟩,cap,by rw [q2];simp,by simpa using q5,by simpa using hl,.inr ⟨g,0,rfl,(Array.getElem?_eq_some_iff.1 q4).1,fun j hj => ?_⟩⟩
  rw [q2] at h';have hj' : j < l.length := by simpa using hj
  have := h'.at (i := j) hj';rw [Nat.zero_add,this];simp [hj']
theorem coreOf19 {w : World} {r c la ca k : Nat} {aa : Option Addr} {zs : List Int} (hm : Mx w (matv r c (.slice aa la ca)) r c zs k) (hk : k ≤ 4000000000) : Calls Tryz.prog 38 #[matv r c (.slice aa la ca)] w (zqH w r c la ca aa zs (64 * k + 7)) := by
 obtain ⟨_,_,-,hr64,hc64⟩ := hm.form;obtain ⟨W0,hW⟩ : ∃ W0,(w.alloc (matO r c (.slice aa la ca))).alloc (.cells #[.int .i64 0,.int .i64 0,.slice none 0 0,.slice none 0 0,.slice none 0 0,.bool false,.slice none 0 0] 71) = W0 := ⟨_,rfl⟩
 obtain ⟨b0,sz0⟩ := ziA w (matO r c (.slice aa la ca)) (.cells #[.int .i64 0,.int .i64 0,.slice none 0 0,.slice none 0 0,.slice none 0 0,.bool false,.slice none 0 0] 71);rw [hW] at b0 sz0;have pa : Cel W0 w.heap.size 24 (matc r c (.slice aa la ca)) := by
  rw [← hW];exact (Cel.new w 24 (matc r c (.slice aa la ca))).step ((Below.refl _ _).alloc (Nat.le_refl _) _)
 have PR : Hid (Cel W0 (w.heap.size + 1) 71 [.int .i64 0,.int .i64 0,.slice none 0 0,.slice none 0 0,.slice none 0 0,.bool false,.slice none 0 0]) := by
  unfold Hid;rw [← hW];have := Cel.new (w.alloc (matO r c (.slice aa la ca))) 71 [.int .i64 0,.int .i64 0,.slice none 0 0,.slice none 0 0,.slice none 0 0,.bool false,.slice none 0 0]
  simpa using this
 have HC := hid (core_yes (hm.now b0) hk);have x0 := pa.at (i := 0) rfl;have x1 := pa.at (i := 1) rfl;have x2 := pa.at (i := 2) rfl;rw [← hW] at x0 x1 x2;have PA := hid pa;have G0 := hid b0;have EW := hid hW;have SZ := hid sz0;have HR64 := hid hr64;clear hm hk b0 sz0 hW pa;go_enter Tryz.func38,Tryz.ntmps38;go_wp2_with fail;rw [EW.out];clear EW x0 x1 x2;refine HC.out.mono ?_;rintro e w1 ⟨rs,cs,odd,rv,cv,n,a,l,cc,rfl,hst,hi1,hi2,hz,-,b⟩;obtain ⟨ra,rcap,rfl,-,-⟩ := hi1.form;obtain ⟨ga,gcap,rfl,-,-⟩ := hi2.form;obtain ⟨V2,hV⟩ : ∃ V2,w1.alloc (duo (.bool n) (.slice a l cc)) = V2 := ⟨_,rfl⟩
 obtain ⟨b2,sz2⟩ := alo1 w1 (duo (.bool n) (.slice a l cc));rw [hV] at b2 sz2;have D2 : Duo V2 w1.heap.size (.bool n) (.slice a l cc) := by rw [← hV];exact Duo.new w1 _ _
 have bb := below_step b b2;have PA2 := PA.out.step bb;have PR2 := PR.out.step bb;have x0 := PA2.at (i := 0) rfl;have x1 := PA2.at (i := 1) rfl;have x2 := PA2.at (i := 2) rfl;have d0 := D2.c0;have d1 := D2.c1;have q0 := PR2.at (i := 0) rfl;have q1 := PR2.at (i := 1) rfl;have q2 := PR2.at (i := 2) rfl;have q3 := PR2.at (i := 3) rfl;have q4 := PR2.at (i := 4) rfl;have q5 := PR2.at (i := 5) rfl;have q6 := PR2.at (i := 6) rfl;have f0 := PR2.fz 0;have f1 := PR2.fz 1;have f2 := PR2.fz 2;have f3 := PR2.fz 3;have f4 := PR2.fz 4;have f5 := PR2.fz 5;have f6 := PR2.fz 6;have hsz := SZ.out;obtain ⟨rl,hrl⟩ : ∃ rl,rs.length = rl := ⟨_,rfl⟩
 obtain ⟨gl,hgl⟩ : ∃ gl,(srt cs).length = gl := ⟨_,rfl⟩
 have hst2 : (srt cs).length ≤ 64 := by rw [hst.srt.2.1,hst.len];exact Nat.le_trans hst.le HR64.out
 have hst1 : rs.length ≤ 64 := Nat.le_trans hst.le HR64.out;rw [hrl] at hi1 ⊢;rw [hgl] at hi2 ⊢;have FIN : Hid (zqH w r c la ca aa zs (64 * k + 7) (.returned (.tuple #[.agg #[.int .i64 (r : Int),.int .i64 (c : Int),.slice aa la ca,.slice ra rl rcap,.slice ga gl gcap,.bool n,.slice a l cc],.int .i64 0])) (put7 V2 (w.heap.size + 1) (.int .i64 (r : Int)) (.int .i64 (c : Int)) (.slice aa la ca) (.slice ra rl rcap) (.slice ga gl gcap) (.bool n) (.slice a l cc))) := by
  have s0 := PR2.set 0 (.int .i64 (r : Int));have s1 := s0.set 1 (.int .i64 (c : Int));have s2 := s1.set 2 (.slice aa la ca);have s3 := s2.set 3 (.slice ra rl rcap);have s4 := s3.set 4 (.slice ga gl gcap);have s5 := s4.set 5 (.bool n);have ty : Ty 71 V2 (put7 V2 (w.heap.size + 1) (.int .i64 (r : Int)) (.int .i64 (c : Int)) (.slice aa la ca) (.slice ra rl rcap) (.slice ga gl gcap) (.bool n) (.slice a l cc)) := ((((((Ty.set PR2).trans (Ty.set s0)).trans (Ty.set s1)).trans (Ty.set s2)).trans (Ty.set s3)).trans (Ty.set s4)).trans (Ty.set s5);have bw := below_step G0.out bb;exact ⟨rs,cs,odd,ra,rl,rcap,ga,gl,gcap,n,a,l,cc,rfl,hst,zDF ((hi1.now b2).keep fun b L _ e => ty.2 b _ _ _ e (by decide)) (by omega),zDF ((hi2.now b2).keep fun b L _ e => ty.2 b _ _ _ e (by decide)) (by omega),((hz.mono (Nat.zero_le _)).now b2).ty ty (by decide),bset (bset (bset (bset (bset (bset (bset bw (by omega)) (by omega)) (by omega)) (by omega)) (by omega)) (by omega)) (by omega)⟩
 have PF : Hid (Cel (put7 V2 (w.heap.size + 1) (.int .i64 (r : Int)) (.int .i64 (c : Int)) (.slice aa la ca) (.slice ra rl rcap) (.slice ga gl gcap) (.bool n) (.slice a l cc)) (w.heap.size + 1) 71 [.int .i64 (r : Int),.int .i64 (c : Int),.slice aa la ca,.slice ra rl rcap,.slice ga gl gcap,.bool n,.slice a l cc]) := ((((((PR2.set 0 _).set 1 _).set 2 _).set 3 _).set 4 _).set 5 _).set 6 _;have EV := hid hV;rw [← hV] at x0 x1 x2 d0 d1 q0 q1 q2 q3 q4 q5 q6 f0 f1 f2 f3 f4 f5 f6;clear HC hst hi1 hi2 hz b b2 sz2 hV D2 bb PA2 PR2 PA PR G0 hsz hst1 hst2 hrl hgl;go_wp2;rw [EV.out];exact bodyPost_ret (cback19 Tryz.results38 PF.out _ (by rfl) (by rfl)) rfl FIN.out
def zlH (w : World) (r c : Nat) (zs : List Int) (k : Nat) (e : Ending) (w' : World) : Prop :=
 ∃ rs cs odd n a l cc H,e = .returned (.tuple #[.agg #[.bool n,.slice a l cc],.int .i64 0]) ∧ Stz (en c zs) c r rs cs odd ∧ Hb19 (srt cs).length H (Md19 r (srt cs).length (en (srt cs).length (zTC r c zs (List.range r) (srt cs))) ((detS (en c zs) rs cs odd).natAbs : Int)) ∧ Zm 0 w' (.agg #[.bool n,.slice a l cc]) (zCE H (srt cs).length) (64 * (2 * (64 * k + 7) + 1) + 1) ∧ Below w.heap.size w w'
theorem zCG {D : Int} {a : Nat} (h0 : 0 ≤ D) (h : D < pw a) : pw a + 64 * (D * D) < pw (2 * a + 1) := by
 have e : pw (2 * a + 1) = 18446744073709551616 * (pw a * pw a) := by
  rw [pw13,pw13,← Int.natCast_mul,← Nat.pow_add];have : (18446744073709551616 : Int) = ((2 ^ 64 : Nat) : Int) := by decide
  rw [this,← Int.natCast_mul,← Nat.pow_add]
  congr 2
  omega
 rw [e];have p1 : 1 ≤ pw a := by omega
 have m1 : D * D ≤ pw a * pw a := Int.mul_le_mul (by omega) (by omega) h0 (by omega);have m2 : pw a * 1 ≤ pw a * pw a := Int.mul_le_mul_of_nonneg_left p1 (by omega);have m3 : 1 * 1 ≤ pw a * pw a := Int.mul_le_mul p1 p1 (by omega) (by omega);generalize pw a * pw a = q at *;omega
theorem ztD {F G : Nat → Nat → Int} : ∀ {n : Nat},(∀ i,i < n → F i i = G i i) → zCE F n = zCE G n
 | 0,_ => rfl
 | n + 1,h => by
  show zCE F n * F n n = zCE G n * G n n
  rw [ztD fun i hi => h i (by omega),h n (by omega)]
theorem pick_mem19 {r c : Nat} {zs : List Int} {is js : List Nat} (hi : ∀ i ∈ is,i < r) (hj : ∀ j ∈ js,j < c) (hl : zs.length = r * c) : ∀ x ∈ zTC r c zs is js,x ∈ zs := fun x hx => by
 unfold zTC pickR at hx;simp only [List.mem_flatten,List.mem_map] at hx;obtain ⟨l,⟨i,h1,rfl⟩,h2⟩ := hx;simp only [List.mem_map] at h2;obtain ⟨j,h3,rfl⟩ := h2;have a1 := hi i h1;have a2 := hj j h3;have e : ent9 (rowsL r c zs) i j = zs.getD (i * c + j) 0 := by
  unfold ent9;have e1 : (rowsL r c zs).getD i [] = (zs.drop (i * c)).take c := by simp [rowsL,a1]
  rw [e1,List.getD_eq_getElem?_getD,List.getD_eq_getElem?_getD,List.getElem?_take,if_pos a2,List.getElem?_drop]
 have hlt : i * c + j < zs.length := by rw [hl];exact zpE a1 a2
 rw [e];simp [hlt]
theorem volume19 {w : World} {v : Value} {r c k : Nat} {zs : List Int} (hm : Mx w v r c zs k) (hk : k ≤ 100000000) : Calls Tryz.prog 18 #[v] w (zlH w r c zs k) := by
 have M0 := hid hm;have HZA : Hid (∀ z ∈ zs,(z.natAbs : Int) < pw k) := by obtain ⟨_,_,_,_,h,_⟩ := hm;exact h.lt
 have HZL : Hid (zs.length = r * c) := by obtain ⟨_,_,_,_,_,h,_⟩ := hm;exact h
 obtain ⟨aa,ca,rfl,hr64,hc64⟩ := hm.form;obtain ⟨la,hla⟩ : ∃ la,r * c = la := ⟨_,rfl⟩
 rw [hla] at M0 ⊢;obtain ⟨W0,hW⟩ : ∃ W0,(w.alloc (matO r c (.slice aa la ca))).alloc zbox = W0 := ⟨_,rfl⟩
 obtain ⟨b0,sz0⟩ := ziA w (matO r c (.slice aa la ca)) zbox;rw [hW] at b0 sz0;have pa : Cel W0 w.heap.size 24 (matc r c (.slice aa la ca)) := by
  rw [← hW];exact (Cel.new w 24 (matc r c (.slice aa la ca))).step ((Below.refl _ _).alloc (Nat.le_refl _) _)
 have pR : Duo W0 (w.heap.size + 1) (.bool false) (.slice none 0 0) := by rw [← hW];exact zGA (by simp)
 replace M0 := hid (M0.out.now b0);have HC := hid (coreOf19 M0.out (by omega));have x0 := pa.at (i := 0) rfl;have x1 := pa.at (i := 1) rfl;have x2 := pa.at (i := 2) rfl;rw [← hW] at x0 x1 x2;have PR := hid pR;have G0 := hid b0;have EW := hid hW;have SZ := hid sz0;have HK := hid hk;clear hm hk b0 sz0 hW pa pR hla;go_enter Tryz.func18,Tryz.ntmps18;go_wp2_with fail;rw [EW.out];clear EW x0 x1 x2;refine HC.out.mono ?_;rintro e w1 ⟨rs,cs,odd,ra,rl,rcap,ga,gl,gcap,n,a,l,cc,rfl,hst,hi1,hi2,hz,b⟩;obtain ⟨V2,hV⟩ : ∃ V2,w1.alloc (.cells #[.int .i64 (r : Int),.int .i64 (c : Int),.slice aa la ca,.slice ra rl rcap,.slice ga gl gcap,.bool n,.slice a l cc] 71) = V2 := ⟨_,rfl⟩
 obtain ⟨b2,sz2⟩ := alo1 w1 (.cells #[.int .i64 (r : Int),.int .i64 (c : Int),.slice aa la ca,.slice ra rl rcap,.slice ga gl gcap,.bool n,.slice a l cc] 71);rw [hV] at b2 sz2;have D2 : Cel V2 w1.heap.size 71 [.int .i64 (r : Int),.int .i64 (c : Int),.slice aa la ca,.slice ra rl rcap,.slice ga gl gcap,.bool n,.slice a l cc] := by rw [← hV];exact Cel.new w1 _ _
 have bb := below_step b b2;have PR2 := hid (PR.out.step bb);have G2 := hid (below_step G0.out bb);have hdz : detS (en c zs) rs cs odd ≠ 0 := by
  unfold detS;have h1 := hst.nz rs.length (Nat.le_refl _);exact Int.mul_ne_zero (by cases odd <;> simp [sgb]) h1
 have hdl := hz.zi.lt;have hkw : pw (64 * k + 7) + 64 * (((detS (en c zs) rs cs odd).natAbs : Int) * ((detS (en c zs) rs cs odd).natAbs : Int)) < pw (2 * (64 * k + 7) + 1) := zCG (by omega) hdl;have hjl : ∀ j ∈ srt cs,j < c := fun j hj => hst.cl j ((hst.srt.2.2 j).1 hj)
 have hjs : (srt cs).length ≤ 64 := by rw [hst.srt.2.1,hst.len];exact Nat.le_trans hst.le hr64
 have hple : pw k ≤ pw (64 * k + 7) := by rw [pw13,pw13];exact Int.ofNat_le.2 (Nat.pow_le_pow_right (by omega) (by omega))
 have HB := hid (basis19 (rl := rl) (rcap := rcap) (ra := ra) (M0.out.now bb) (hi2.now b2) hjl hjs ((hz.now b2).zi) hdz (Int.le_of_lt hdl) (fun x hx => by
  have := HZA.out x (pick_mem19 (fun i hi => by simpa using hi) hjl HZL.out x hx);omega) hkw (by omega) (by omega) (by omega) (by have := HK.out;omega))
 have y0 := D2.at (i := 0) rfl;have y1 := D2.at (i := 1) rfl;have y2 := D2.at (i := 2) rfl;have y3 := D2.at (i := 3) rfl;have y4 := D2.at (i := 4) rfl;have y5 := D2.at (i := 5) rfl;have y6 := D2.at (i := 6) rfl;rw [← hV] at y0 y1 y2 y3 y4 y5 y6;have HST := hid hst;have HJS := hid hjs;have EV := hid hV;clear HC hst hi1 hi2 hz b b2 sz2 hV D2 bb hdz hdl hkw hjl hjs hple M0 PR G0;go_wp2_with fail;rw [EV.out];clear EV y0 y1 y2 y3 y4 y5 y6;refine HB.out.mono ?_;rintro e w3 ⟨vm,H,rfl,mm,hh,b⟩;have HD := hid (diag19 mm.mx (by have := HK.out;omega));obtain ⟨jl,hjll⟩ : ∃ jl,(srt cs).length = jl := ⟨_,rfl⟩
 rw [hjll] at mm HD hh;obtain ⟨am,cm,rfl,-,-⟩ := mm.mx.form;have HH := hid hh;have PR3 := hid (PR2.out.step b);have G3 := hid (below_step G2.out b);have EJL := hid hjll;clear HB mm hh b PR2 G2 hjll;go_wp2_with fail;refine HD.out.mono ?_;rintro e w4 ⟨rv,rfl,mv,b⟩;obtain ⟨nv,xv,av,cv,rfl⟩ := mv.parts;have R4 := hid (PR3.out.step b);have r0 := R4.out.c0;have r1 := R4.out.c1;have r2 := R4.out.fz 0;have r3 := R4.out.fz 1;have hsz := SZ.out;have FF : Hid (zlH w r c zs k (.returned (.tuple #[.agg #[.bool nv,.slice av xv.length cv],.int .i64 0])) ((w4.setCell ⟨w.heap.size + 1,0,none⟩ (.bool nv)).setCell ⟨w.heap.size + 1,1,none⟩ (.slice av xv.length cv))) := by
  refine ⟨rs,cs,odd,nv,av,xv.length,cv,H,rfl,HST.out,by rw [EJL.out];exact HH.out,?_,bset (bset (below_step G3.out b) (by omega)) (by omega)⟩;have h := mv.ty (R4.out.ty13 (.bool nv) (.slice av xv.length cv)) (by decide);rw [ztD (G := H) fun i hi => zkH hi hi] at h;rw [EJL.out];refine h.more ?_;have : jl ≤ 64 := by rw [← EJL.out];exact HJS.out
  have := Nat.mul_le_mul_right (2 * (64 * k + 7) + 1) this;omega
 clear HD mv b PR3 G3 hsz HH;go_wp2;exact bodyPost_ret (zoE Tryz.results18 (R4.out.set _ _) _ (by rfl) (by rfl)) rfl FF.out
end Go.Proofs.YtfeofdpnhhiclaaGreat
