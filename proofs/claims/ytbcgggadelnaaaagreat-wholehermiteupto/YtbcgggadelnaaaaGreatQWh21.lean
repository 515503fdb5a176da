import Derived.Test.YtbcgggadelnaaaaGreatQFu21
import Derived.Test.YtbcgggadelnaaaaGreatQHe21
import Derived.Test.YtbcgggadelnaaaaGreatQFo21ToWa21
import Derived.Test.YtbcgggadelnaaaaGreatQFreshToCpy16
import Derived.Test.YtbcgggadelnaaaaGreatQProd9ToMul9
import Derived.Test.YtbcgggadelnaaaaGreatQChkN9ToLn11
import Derived.Test.YtbcgggadelnaaaaGreatQSm18ToLw21
set_option maxRecDepth 100000
set_option maxHeartbeats 6400000
set_option linter.unusedVariables false
set_option linter.unusedSimpArgs false
namespace Go.Proofs.YtbcgggadelnaaaaGreat
open Go.RowKit
theorem fullNo21 {w : World} {r c : Int} {a : Option Addr} {l cap : Nat} (h : ¬ Snd r c l) : Calls Tryz.prog 7 #[.agg #[.int .i64 r,.int .i64 c,.slice a l cap]] w fun e w' => e = .returned (.tuple #[.agg #[.int .i64 0,.int .i64 0,.slice none 0 0,.int .i64 0,.int .i64 0,.slice none 0 0,.int .i64 0,.int .i64 0,.slice none 0 0],.int .i64 1]) ∧ Below w.heap.size w w' := by
 obtain ⟨W0,hW⟩ : ∃ W0,(w.alloc (.cells #[.int .i64 r,.int .i64 c,.slice a l cap] 24)).alloc (.cells #[.int .i64 0,.int .i64 0,.slice none 0 0,.int .i64 0,.int .i64 0,.slice none 0 0,.int .i64 0,.int .i64 0,.slice none 0 0] 27) = W0 := ⟨_,rfl⟩
 obtain ⟨b0,sz0⟩ := zZA w (.cells #[.int .i64 r,.int .i64 c,.slice a l cap] 24) (.cells #[.int .i64 0,.int .i64 0,.slice none 0 0,.int .i64 0,.int .i64 0,.slice none 0 0,.int .i64 0,.int .i64 0,.slice none 0 0] 27);rw [hW] at b0 sz0;have dA : Cel W0 w.heap.size 24 [.int .i64 r,.int .i64 c,.slice a l cap] := by rw [← hW];exact (Cel.new w _ _).step ((Below.refl _ _).alloc (Nat.le_refl _) _)
 have dR : Cel W0 (w.heap.size + 1) 27 [.int .i64 0,.int .i64 0,.slice none 0 0,.int .i64 0,.int .i64 0,.slice none 0 0,.int .i64 0,.int .i64 0,.slice none 0 0] := by
  rw [← hW];have := Cel.new (w.alloc (.cells #[.int .i64 r,.int .i64 c,.slice a l cap] 24)) 27 [.int .i64 0,.int .i64 0,.slice none 0 0,.int .i64 0,.int .i64 0,.slice none 0 0,.int .i64 0,.int .i64 0,.slice none 0 0]
  simpa using this
 have HCK := hid (check_no (w := W0) (a := a) (cap := cap) h);have x0 := dA.at (i := 0) rfl;have x1 := dA.at (i := 1) rfl;have x2 := dA.at (i := 2) rfl;rw [← hW] at x0 x1 x2;have DR := hid dR;have G0 := hid b0;have EW := hid hW;clear b0 sz0 hW dA dR h;go_enter Tryz.func7,Tryz.ntmps7;go_wp2_with fail;rw [EW.out];refine HCK.out.mono ?_;rintro e w1 ⟨rfl,b⟩;have dR := DR.out.step b;have G1 := hid (below_step G0.out b);have r0 := dR.at (i := 0) rfl;have f0 := dR.fz 0;have r1 := dR.at (i := 1) rfl;have f1 := dR.fz 1;have r2 := dR.at (i := 2) rfl;have f2 := dR.fz 2;have r3 := dR.at (i := 3) rfl;have f3 := dR.fz 3;have r4 := dR.at (i := 4) rfl;have f4 := dR.fz 4;have r5 := dR.at (i := 5) rfl;have f5 := dR.fz 5;have r6 := dR.at (i := 6) rfl;have f6 := dR.fz 6;have r7 := dR.at (i := 7) rfl;have f7 := dR.fz 7;have r8 := dR.at (i := 8) rfl;have f8 := dR.fz 8;have FIN : Hid (Below w.heap.size w (put9 w1 (w.heap.size + 1) (.int .i64 0) (.int .i64 0) (.slice none 0 0) (.int .i64 0) (.int .i64 0) (.slice none 0 0) (.int .i64 0) (.int .i64 0) (.slice none 0 0))) := bset (bset (bset (bset (bset (bset (bset (bset (bset G1.out (by omega)) (by omega)) (by omega)) (by omega)) (by omega)) (by omega)) (by omega)) (by omega)) (by omega);have PF := hid (put9_21 dR (.int .i64 0) (.int .i64 0) (.slice none 0 0) (.int .i64 0) (.int .i64 0) (.slice none 0 0) (.int .i64 0) (.int .i64 0) (.slice none 0 0));clear HCK b x0 x1 x2 EW DR G0 G1 dR;go_wp2;exact bodyPost_ret (zMG Tryz.results7 PF.out _ (by rfl) (by rfl)) rfl ⟨rfl,FIN.out⟩
theorem fullA21 {w : World} {v : Value} {m n k : Nat} {zs : List Int} (h : Mx w v m n zs k) (hk1 : 1 ≤ k) (hk : k ≤ 1048576) : Calls Tryz.prog 7 #[v] w (zKI w m n (zFD n zs) (64 * k + 65)) := by
 obtain ⟨_,_,-,hm,hn⟩ := h.form;have hzl : zs.length = m * n := by obtain ⟨_,_,_,_,_,h,_⟩ := h;exact h
 have hlt := h.lt;have hp1 : (1 : Int) < pw k := by
  obtain ⟨d,rfl⟩ : ∃ d,k = d + 1 := ⟨k - 1,by omega⟩
  rw [zwA];have hp := zuA d;have : 1 * pw 1 ≤ pw d * pw 1 := Int.mul_le_mul_of_nonneg_right (by omega) (by decide);have : (1 : Int) < pw 1 := by decide
  omega
 have hTb : Tb18 m (n + m) (zFD n zs) (64 * (64 * (pw k - 1).toNat) ^ 64) := tb21 hm (by omega) fun i c hi hc => by
  unfold zFD
  split
  ·have hl := zsC hi (show c < n by assumption)
   have e : en18 n zs i c = zs[i * n + c]'(by omega) := by unfold en18;simp [show i * n + c < zs.length by omega]
   have := hlt _ (List.getElem_mem (l := zs) (n := i * n + c) (by omega));rw [e];omega
  ·unfold dlz
   split <;> simp <;> omega
 have hkt := zuH (Y := (pw k - 1).toNat) (k := k) (by omega);exact full21 (kw := 128 * (64 * k + 65 + 1) + (64 * k + 65)) h hTb (by omega) (znF hkt 128) (by omega) (by omega) hkt
theorem zCF : ∀ (m : Nat) (f : Nat → Int),sumN m f = su m f
 | 0,f => rfl
 | m + 1,f => by rw [zdD,zCF m f];rfl
theorem zhD {r m c : Nat} {xs ys : List Int} (hx : xs.length = r * m) {F : Nat → Nat → Int} (hF : ∀ i j,i < r → j < c → su m (fun k => en18 m xs i k * en18 c ys k j) = F i j) : zzC r m c xs ys = zG18 r c F := by
 have hl : (zzC r m c xs ys).length = r * c := zID;rw [← zVG hl];refine ztC fun i j hi hj => ?_
 rw [← hF i j hi hj];unfold en18;rw [prod_at hx hi hj,zCF]
theorem zzE (n : Nat) : zIB n n = zG18 n n dlz := by
 rw [← zVG (zdA n n)];refine ztC fun i j hi hj => ?_
 unfold en18;rw [zYG hi hj];unfold dlz
 by_cases q : i = j
 ·rw [if_pos q,if_pos q.symm]
 ·rw [if_neg q,if_neg (Ne.symm q)]
def zSH (W wx : World) (s4 s5 : Value) (m n : Nat) (X : Nat → Nat → Int) (K : Nat) : Prop :=
 ∃ b5 au lu cu,s4 = .int .i64 0 ∧ s5 = .pointer (some ⟨b5,0,none⟩) ∧ Cel wx b5 24 [.int .i64 (m : Int),.int .i64 (n : Int),.slice au lu cu] ∧ Mc wx (.agg #[.int .i64 (m : Int),.int .i64 (n : Int),.slice au lu cu]) m n (zG18 m n X) K ∧ Below W.heap.size W wx
theorem mc_len21 {w : World} {a : Option Addr} {l c m n k : Nat} {x y : Int} {zs : List Int} (h : Mc w (.agg #[.int .i64 x,.int .i64 y,.slice a l c]) m n zs k) : l = m * n := by
 obtain ⟨at_,ps,e,p1,p2,p3,_⟩ := h;obtain ⟨a',c',e',_⟩ := p1.form;subst e';simp [matv] at e;rw [e.2.2.2.1,p2.1,p3]
theorem raw_l21 {w : World} {v : Value} {r c : Int} {l : Nat} {zs : List Int} (h : Raw w v r c l zs) : l ≤ 1048576 ∧ ∃ a cap,v = .agg #[.int .i64 r,.int .i64 c,.slice a l cap] := by
 obtain ⟨a,cap,ps,h1,h2,h3,h4,h5⟩ := h;exact ⟨h5,a,cap,h1⟩
theorem wholeHermite_size {w : World} {va : Value} {ra ca : Int} {la k : Nat} {xs : List Int} (hk : k = 1048576) (ha : Raw w va ra ca la xs) : Calls Tryz.prog 3 #[va] w (zzH w) := by
 obtain ⟨hla,aa,capa,rfl⟩ := raw_l21 ha;obtain ⟨W0,hW⟩ : ∃ W0,w.alloc (.cells #[.int .i64 ra,.int .i64 ca,.slice aa la capa] 24) = W0 := ⟨_,rfl⟩
 obtain ⟨b0,sz0⟩ := alo1 w (.cells #[.int .i64 ra,.int .i64 ca,.slice aa la capa] 24);rw [hW] at b0 sz0;have dA : Cel W0 w.heap.size 24 [.int .i64 ra,.int .i64 ca,.slice aa la capa] := by rw [← hW];exact Cel.new w _ _
 have RA := hid (ha.now b0);have HK : Hid (1 ≤ k ∧ k ≤ 1048576) := hid (by omega);have DA := hid dA;have B0 := hid b0;have EW := hid hW;have HWK := hid (wakes21 W0);obtain ⟨bx,hbx⟩ : ∃ bx,w.heap.size = bx := ⟨_,rfl⟩
 rw [hbx] at DA;have EBX := hid hbx;clear ha b0 sz0 hW dA hbx;go_enter Tryz.func3,Tryz.ntmps3;go_wp2_with fail;rw [EW.out,EBX.out];refine HWK.out.mono ?_;rintro e w1 ⟨rfl,b1⟩;replace RA := hid (RA.out.now b1);replace DA := hid (DA.out.step b1);replace B0 := hid (below_step B0.out b1);have HCP := hid (zVC RA.out);have x0 := DA.out.at (i := 0) rfl;have x1 := DA.out.at (i := 1) rfl;have x2 := DA.out.at (i := 2) rfl;clear HWK b1 EW EBX;go_wp2_with fail;refine HCP.out.mono ?_;rintro e w2 ⟨a3,cap3,rfl,hr2,b2⟩;replace RA := hid (RA.out.now b2);replace DA := hid (DA.out.step b2);replace B0 := hid (below_step B0.out b2);have R2 := hid hr2;have HLA := hid hla;clear HCP b2 x0 x1 x2 hr2 hla
 by_cases hsn : Snd ra ca la
 ·obtain ⟨m,n,rfl,rfl⟩ := snd13 hsn
  obtain ⟨mx2,hlm⟩ := R2.out.mx13 hsn;rw [← hk] at mx2;have HSN := hid hsn;have HZL : Hid (xs.length = m * n) := by unfold Hid;obtain ⟨_,_,_,_,_,h,_⟩ := mx2;exact h
  obtain ⟨_,_,-,hm64,hn64⟩ := mx2.form;have HFU := hid (fullA21 mx2 HK.out.1 HK.out.2);obtain ⟨t,het⟩ : ∃ t,64 * k + 65 = t := ⟨_,rfl⟩
  rw [het] at HFU;have HT : Hid (t ≤ 200000000) := hid (by have := HK.out;omega);clear mx2 hsn het hlm R2;go_wp2_with fail;refine HFU.out.mono ?_;rintro e w5 ⟨aH,lH,cH,aU,lU,cU,aW,lW,cW,r5,γ5,X,V,rfl,mh,mu,mw,hb5,iv5,b5⟩;obtain ⟨V5,hV5⟩ : ∃ V5,w5.alloc (.cells #[.int .i64 (m : Int),.int .i64 (n : Int),.slice aH lH cH,.int .i64 (m : Int),.int .i64 (m : Int),.slice aU lU cU,.int .i64 (m : Int),.int .i64 (m : Int),.slice aW lW cW] 27) = V5 := ⟨_,rfl⟩
  obtain ⟨bv5,sz5⟩ := alo1 w5 (.cells #[.int .i64 (m : Int),.int .i64 (n : Int),.slice aH lH cH,.int .i64 (m : Int),.int .i64 (m : Int),.slice aU lU cU,.int .i64 (m : Int),.int .i64 (m : Int),.slice aW lW cW] 27);rw [hV5] at bv5 sz5;have d5 : Cel V5 w5.heap.size 27 [.int .i64 (m : Int),.int .i64 (n : Int),.slice aH lH cH,.int .i64 (m : Int),.int .i64 (m : Int),.slice aU lU cU,.int .i64 (m : Int),.int .i64 (m : Int),.slice aW lW cW] := by rw [← hV5];exact Cel.new w5 _ _
  have bb := below_step b5 bv5;replace B0 := hid (below_step B0.out bb);replace RA := hid (RA.out.now bb);replace DA := hid (DA.out.step bb);have MH := hid (mh.now bv5);have MU := hid (mu.now bv5);have MW := hid (mw.now bv5);have D5 := hid d5;have HB5 := hid hb5;have IV5 := hid iv5;have HSO := hid (zBC (w := V5) (r := (m : Int)) (c := (n : Int)) (a := aa) (l := la) (cap := capa) HLA.out);rw [decide_eq_true HSN.out] at HSO;have hlH : lH = m * n := mc_len21 mh;have hmn : m * n ≤ 64 * 64 := Nat.mul_le_mul hm64 hn64;have HLH := hid hlH;have HSH : Hid (∀ w',Calls Tryz.prog 9 #[(.agg #[.int .i64 (m : Int),.int .i64 (n : Int),.slice aH lH cH])] w' fun e w'' => e = .returned (.bool true) ∧ Below w'.heap.size w' w'') := fun w' => by
   have q := zBC (w := w') (r := (m : Int)) (c := (n : Int)) (a := aH) (l := lH) (cap := cH) (by omega);rw [decide_eq_true ⟨by omega,by omega,by omega,by omega,by rw [hlH];simp⟩] at q;exact q
  have x0 := DA.out.at (i := 0) rfl;have x1 := DA.out.at (i := 1) rfl;have x2 := DA.out.at (i := 2) rfl;have EV := hid hV5;obtain ⟨b3,hb3⟩ : ∃ b3,w5.heap.size = b3 := ⟨_,rfl⟩
  rw [hb3] at D5;have EB3 := hid hb3;rw [← hV5] at x0 x1 x2;clear HFU mh mu mw hb5 iv5 b5 bv5 sz5 hV5 d5 bb hb3 hlH hmn;go_wp2_with fail;rw [EV.out,EB3.out];clear EV EB3 x0 x1 x2;refine HSO.out.mono ?_;rintro e w6 ⟨rfl,b6⟩;replace B0 := hid (below_step B0.out b6);replace RA := hid (RA.out.now b6);replace DA := hid (DA.out.step b6);replace MH := hid (MH.out.now b6);replace MU := hid (MU.out.now b6);replace MW := hid (MW.out.now b6);replace D5 := hid (D5.out.step b6);have y0 := D5.out.at (i := 0) rfl;have y1 := D5.out.at (i := 1) rfl;have y2 := D5.out.at (i := 2) rfl;have HS6 := hid (HSH.out w6);clear HSO b6;go_wp2_with fail;refine HS6.out.mono ?_;rintro e w7 ⟨rfl,b7⟩;replace B0 := hid (below_step B0.out b7);replace RA := hid (RA.out.now b7);replace DA := hid (DA.out.step b7);replace MH := hid (MH.out.now b7);replace MU := hid (MU.out.now b7);replace MW := hid (MW.out.now b7);replace D5 := hid (D5.out.step b7);clear HS6 HSH b7 y0 y1 y2;have x0 := DA.out.at (i := 0) rfl;have x1 := DA.out.at (i := 1) rfl;have x2 := DA.out.at (i := 2) rfl;have y0 := D5.out.at (i := 0) rfl;have y1 := D5.out.at (i := 1) rfl;have y3 := D5.out.at (i := 3) rfl;have y4 := D5.out.at (i := 4) rfl;have y5 := D5.out.at (i := 5) rfl;have HPU : Hid (zzC m m n (zG18 m m fun i k => X i (n + k)) xs = zG18 m n X) := zhD (zsA m m _) fun i j hi hj => by
   rw [zJA (g := fun k => X i (n + k) * zFD n xs k j) fun k hk => by rw [zuB (F := fun i k => X i (n + k)) hi hk,zaE hj]];exact (HB5.out.made21 (fun i k _ _ => zXC) hi hj).symm
  have HUW : Hid (zzC m m m (zG18 m m fun i k => X i (n + k)) (zG18 m m fun i k => V k i) = zG18 m m dlz) := zhD (zsA m m _) fun i j hi hj => by
   rw [zJA (g := fun k => X i (n + k) * V j k) fun k hk => by rw [zuB (F := fun i k => X i (n + k)) hi hk,zuB (F := fun i k => V k i) hk hj]];exact IV5.out i j hi hj
  have HWU : Hid (zzC m m m (zG18 m m fun i k => V k i) (zG18 m m fun i k => X i (n + k)) = zG18 m m dlz) := zhD (zsA m m _) fun i j hi hj => by
   rw [zJA (g := fun k => V k i * X k (n + j)) fun k hk => by rw [zuB (F := fun i k => V k i) hi hk,zuB (F := fun i k => X i (n + k)) hk hj]];exact IV5.out.back hi hj
  obtain ⟨q5,-,hec,hrd,hzr⟩ := HB5.out.ec.front21 HB5.out.rd (show n ≤ n + m by omega);have HEC := hid hec;have HRD := hid hrd;have HZR := hid hzr;obtain ⟨lm,hlm2⟩ : ∃ lm,m * m = lm := ⟨_,rfl⟩
  have ELM := hid hlm2;clear hec hrd hzr hlm2;go_upto_region 8 with fail
  go_cut [4,5] from 12 (fun s4 s5 wx => zSH w7 wx s4 s5 m n X (t + k + m))
  case first =>
   have KB : Hid (∀ w',Below w7.heap.size w7 w' → w'.cell? ⟨b3,3,none⟩ = some (.int .i64 (m : Int)) ∧ w'.cell? ⟨b3,4,none⟩ = some (.int .i64 (m : Int)) ∧ w'.cell? ⟨b3,5,none⟩ = some (.slice aU lU cU) ∧ w'.cell? ⟨bx,0,none⟩ = some (.int .i64 (m : Int)) ∧ w'.cell? ⟨bx,1,none⟩ = some (.int .i64 (n : Int)) ∧ w'.cell? ⟨bx,2,none⟩ = some (.slice aa la capa)) := fun w' h => ⟨cnow h y3,cnow h y4,cnow h y5,cnow h x0,cnow h x1,cnow h x2⟩
   refine zEA (fun w' => w'.cell? ⟨b3,3,none⟩ = some (.int .i64 (m : Int)) ∧ w'.cell? ⟨b3,4,none⟩ = some (.int .i64 (m : Int)) ∧ w'.cell? ⟨b3,5,none⟩ = some (.slice aU lU cU) ∧ w'.cell? ⟨bx,0,none⟩ = some (.int .i64 (m : Int)) ∧ w'.cell? ⟨bx,1,none⟩ = some (.int .i64 (n : Int)) ∧ w'.cell? ⟨bx,2,none⟩ = some (.slice aa la capa)) 10 (by kernel_rfl) ?_;obtain ⟨D101,hD⟩ : ∃ D101,w7.drew = D101 := ⟨_,rfl⟩
   have GB : Hid (Below w7.heap.size w7 D101) := by unfold Hid;rw [← hD];exact (Below.refl _ _).drew
   rw [hD];clear hD;refine zFA [(0,(.pointer (some ⟨b3,3,none⟩))),(1,(.agg #[.int .i64 (m : Int),.int .i64 (m : Int),.slice aU lU cU])),(2,(.agg #[.int .i64 (m : Int),.int .i64 (n : Int),.slice aa la capa]))] 3 ?_ (KB.out _ GB.out) ?_
   ·simp only [zNA,gA9,g09,g19,Act.put,sI9,s09,s19]
    (repeat' (first | exact trivial | refine And.intro (Or.inl ⟨by rfl,?_⟩) ?_)) <;> (intro w hSw;(try dsimp only at hSw);go_simp)
   simp only [actV,gA9,g09,g19,Act.put,sI9,s09,s19];refine zTA (i := 3) (j := 8) (oi := ⟨some 69,.call { callee := .value (.func 8),args := #[.tmp 68],argTypes := #[24] },24, "top18.go:55",#[⟨2,.data⟩],none⟩) (oj := ⟨some 5,.alloc 24,0, "top18.go:55",#[],none⟩) (by kernel_rfl) rfl rfl (fun K hK => ?_) (fun K hK => ?_)
   ·skip
    go_simp;go_at_call 8;refine (zVC (RA.out.now GB.out)).mono ?_;rintro e w102 ⟨a8,cap8,rfl,hr8,b⟩;have lz102 := (show Below _ _ _ from b).size;replace GB := hid (below_step GB.out b);obtain ⟨mx8,-⟩ := hr8.mx13 HSN.out;rw [← hk] at mx8;have M8 := hid mx8
    try replace DU := hid (DU.out.step b)
    clear mx8 hr8;clear b;refine hK.out _ _ (fun _ => KB.out _ GB.out) ?_;clear hK;refine zTA (i := 4) (j := 8) (oi := ⟨some 70,.call { callee := .value (.func 10),args := #[.tmp 67,.tmp 69],argTypes := #[24,24] },33, "top18.go:55",#[⟨1,.data⟩,⟨3,.data⟩,⟨3,.chain⟩],none⟩) (oj := ⟨some 5,.alloc 24,0, "top18.go:55",#[],none⟩) (by kernel_rfl) rfl rfl (fun K hK => ?_) (fun K hK => ?_)
    ·skip
     go_simp;go_at_call 10;refine (zkD (MU.out.now GB.out).mx M8.out (by have := HK.out;have := HT.out;omega)).mono ?_;rintro e w103 ⟨vu,rfl,qa,b⟩;have lz103 := (show Below _ _ _ from b).size;replace GB := hid (below_step GB.out b);obtain ⟨au,cu,rfl,-,-⟩ := qa.mx.form;rw [HPU.out] at qa;dsimp only [matv] at qa ⊢;obtain ⟨lu,hlu⟩ : ∃ lu,m * n = lu := ⟨_,rfl⟩
     rw [hlu] at qa ⊢;have UA := hid qa
     try replace DU := hid (DU.out.step b)
     clear qa hlu M8;clear b;refine hK.out _ _ (fun _ => KB.out _ GB.out) ?_;clear hK;refine zFA [(5,(.tuple #[(.agg #[.int .i64 (m : Int),.int .i64 (n : Int),.slice au lu cu]),(.int .i64 0)])),(6,(.agg #[.int .i64 (m : Int),.int .i64 (n : Int),.slice au lu cu])),(7,(.int .i64 0))] 3 ?_ (KB.out _ GB.out) ?_
     ·simp only [zNA,gA9,g09,g19,Act.put,sI9,s09,s19]
      (repeat' (first | exact trivial | refine And.intro (Or.inl ⟨by rfl,?_⟩) ?_)) <;> (intro w hSw;(try dsimp only at hSw);go_simp)
     simp only [actV,gA9,g09,g19,Act.put,sI9,s09,s19];refine zAA (i := 8) (o := ⟨some 5,.alloc 24,0, "top18.go:55",#[],none⟩) (by kernel_rfl) rfl (fun K hK => ?_);go_simp;obtain ⟨V104,hW⟩ : ∃ V,w103.alloc mbox = V := ⟨_,rfl⟩
     obtain ⟨b,sz104⟩ := alo1 w103 mbox;rw [hW] at b sz104;have BU : Hid (w7.heap.size ≤ w103.heap.size) := GB.out.size;replace GB := hid (below_step GB.out b)
     try replace UA := hid (UA.out.now b)
     try replace M8 := hid (M8.out.now b)
     have DU := hid (zvA hW);rw [hW];clear hW b sz104;refine hK.out _ _ (fun _ => KB.out _ GB.out) ?_;clear hK
     try simp only [Act.put]
     refine zAA (i := 9) (o := ⟨none,.store 24 (.tmp 5) (.tmp 71),0, "top18.go:55",#[⟨8,.data⟩,⟨6,.data⟩,⟨4,.chain⟩,⟨0,.phase⟩,⟨1,.phase⟩,⟨2,.phase⟩,⟨3,.phase⟩,⟨4,.phase⟩,⟨5,.phase⟩,⟨6,.phase⟩,⟨7,.textOnly .lateStores⟩,⟨8,.phase⟩],none⟩) (by kernel_rfl) rfl (fun K hK => ?_);have dU := DU.out;have r0 := dU.at (i := 0) rfl;have r1 := dU.at (i := 1) rfl;have r2 := dU.at (i := 2) rfl;have f0 := dU.fz 0;have f1 := dU.fz 1;have f2 := dU.fz 2;go_simp;clear r0 r1 r2 f0 f1 f2;obtain ⟨V105,hW⟩ : ∃ V,(((V104.setCell ⟨w103.heap.size,0,none⟩ (.int .i64 (m : Int))).setCell ⟨w103.heap.size,1,none⟩ (.int .i64 (n : Int))).setCell ⟨w103.heap.size,2,none⟩ (.slice au lu cu)) = V := ⟨_,rfl⟩
     have FN : Hid (zSH w7 V105 (.int .i64 0) (.pointer (some ⟨w103.heap.size,0,none⟩)) m n X (t + k + m)) := by
      unfold Hid;rw [← hW];exact ⟨_,au,lu,cu,rfl,rfl,dU.put3 _ _ _,UA.out.wk dU _ _ _,zMA GB.out BU.out _ _ _⟩
     replace GB : Hid (Below w7.heap.size w7 V105) := by unfold Hid;rw [← hW];exact zMA GB.out BU.out _ _ _
     rw [hW];clear hW dU;refine hK.out _ _ (fun _ => KB.out _ GB.out) ?_;clear hK
     try simp only [Act.put]
     refine zAA (i := 10) (o := ⟨some 4,.assign (.tmp 72),28, "top18.go:55",#[⟨7,.data⟩,⟨9,.chain⟩,⟨0,.phase⟩,⟨1,.phase⟩,⟨2,.phase⟩,⟨3,.phase⟩,⟨4,.phase⟩,⟨5,.phase⟩,⟨6,.phase⟩,⟨7,.phase⟩,⟨8,.phase⟩,⟨9,.phase⟩],none⟩) (by kernel_rfl) rfl (fun K hK => ?_);go_simp;refine hK.out _ _ (fun h => absurd h (by decide)) ?_;clear hK
     try simp only [Act.put]
     refine zDA (by kernel_rfl) ?_ _;clear GB KB UA DU BU;go_wp2_with fail;go_meet;exact FN.out
    ·skip
     go_simp;obtain ⟨V106,hW⟩ : ∃ V,w102.alloc mbox = V := ⟨_,rfl⟩
     obtain ⟨b,sz106⟩ := alo1 w102 mbox;rw [hW] at b sz106;have BU : Hid (w7.heap.size ≤ w102.heap.size) := GB.out.size;replace GB := hid (below_step GB.out b)
     try replace UA := hid (UA.out.now b)
     try replace M8 := hid (M8.out.now b)
     have DU := hid (zvA hW);rw [hW];clear hW b sz106;refine hK.out _ _ (fun _ => KB.out _ GB.out) ?_;clear hK
     try simp only [Act.put]
     refine zAA (i := 4) (o := ⟨some 70,.call { callee := .value (.func 10),args := #[.tmp 67,.tmp 69],argTypes := #[24,24] },33, "top18.go:55",#[⟨1,.data⟩,⟨3,.data⟩,⟨3,.chain⟩],none⟩) (by kernel_rfl) rfl (fun K hK => ?_);go_simp;go_at_call 10;refine (zkD (MU.out.now GB.out).mx M8.out (by have := HK.out;have := HT.out;omega)).mono ?_;rintro e w107 ⟨vu,rfl,qa,b⟩;have lz107 := (show Below _ _ _ from b).size;replace GB := hid (below_step GB.out b);obtain ⟨au,cu,rfl,-,-⟩ := qa.mx.form;rw [HPU.out] at qa;dsimp only [matv] at qa ⊢;obtain ⟨lu,hlu⟩ : ∃ lu,m * n = lu := ⟨_,rfl⟩
     rw [hlu] at qa ⊢;have UA := hid qa
     try replace DU := hid (DU.out.step b)
     clear qa hlu M8;clear b;refine hK.out _ _ (fun _ => KB.out _ GB.out) ?_;clear hK;refine zFA [(5,(.tuple #[(.agg #[.int .i64 (m : Int),.int .i64 (n : Int),.slice au lu cu]),(.int .i64 0)])),(6,(.agg #[.int .i64 (m : Int),.int .i64 (n : Int),.slice au lu cu])),(7,(.int .i64 0))] 3 ?_ (KB.out _ GB.out) ?_
     ·simp only [zNA,gA9,g09,g19,Act.put,sI9,s09,s19]
      (repeat' (first | exact trivial | refine And.intro (Or.inl ⟨by rfl,?_⟩) ?_)) <;> (intro w hSw;(try dsimp only at hSw);go_simp)
     simp only [actV,gA9,g09,g19,Act.put,sI9,s09,s19];refine zAA (i := 9) (o := ⟨none,.store 24 (.tmp 5) (.tmp 71),0, "top18.go:55",#[⟨8,.data⟩,⟨6,.data⟩,⟨4,.chain⟩,⟨0,.phase⟩,⟨1,.phase⟩,⟨2,.phase⟩,⟨3,.phase⟩,⟨4,.phase⟩,⟨5,.phase⟩,⟨6,.phase⟩,⟨7,.textOnly .lateStores⟩,⟨8,.phase⟩],none⟩) (by kernel_rfl) rfl (fun K hK => ?_);have dU := DU.out;have r0 := dU.at (i := 0) rfl;have r1 := dU.at (i := 1) rfl;have r2 := dU.at (i := 2) rfl;have f0 := dU.fz 0;have f1 := dU.fz 1;have f2 := dU.fz 2;go_simp;clear r0 r1 r2 f0 f1 f2;obtain ⟨V108,hW⟩ : ∃ V,(((w107.setCell ⟨w102.heap.size,0,none⟩ (.int .i64 (m : Int))).setCell ⟨w102.heap.size,1,none⟩ (.int .i64 (n : Int))).setCell ⟨w102.heap.size,2,none⟩ (.slice au lu cu)) = V := ⟨_,rfl⟩
     have FN : Hid (zSH w7 V108 (.int .i64 0) (.pointer (some ⟨w102.heap.size,0,none⟩)) m n X (t + k + m)) := by
      unfold Hid;rw [← hW];exact ⟨_,au,lu,cu,rfl,rfl,dU.put3 _ _ _,UA.out.wk dU _ _ _,zMA GB.out BU.out _ _ _⟩
     replace GB : Hid (Below w7.heap.size w7 V108) := by unfold Hid;rw [← hW];exact zMA GB.out BU.out _ _ _
     rw [hW];clear hW dU;refine hK.out _ _ (fun _ => KB.out _ GB.out) ?_;clear hK
     try simp only [Act.put]
     refine zAA (i := 10) (o := ⟨some 4,.assign (.tmp 72),28, "top18.go:55",#[⟨7,.data⟩,⟨9,.chain⟩,⟨0,.phase⟩,⟨1,.phase⟩,⟨2,.phase⟩,⟨3,.phase⟩,⟨4,.phase⟩,⟨5,.phase⟩,⟨6,.phase⟩,⟨7,.phase⟩,⟨8,.phase⟩,⟨9,.phase⟩],none⟩) (by kernel_rfl) rfl (fun K hK => ?_);go_simp;refine hK.out _ _ (fun h => absurd h (by decide)) ?_;clear hK
     try simp only [Act.put]
     refine zDA (by kernel_rfl) ?_ _;clear GB KB UA DU BU;go_wp2_with fail;go_meet;exact FN.out
   ·skip
    go_simp;obtain ⟨V109,hW⟩ : ∃ V,D101.alloc mbox = V := ⟨_,rfl⟩
    obtain ⟨b,sz109⟩ := alo1 D101 mbox;rw [hW] at b sz109;have BU : Hid (w7.heap.size ≤ D101.heap.size) := GB.out.size;replace GB := hid (below_step GB.out b)
    try replace UA := hid (UA.out.now b)
    try replace M8 := hid (M8.out.now b)
    have DU := hid (zvA hW);rw [hW];clear hW b sz109;refine hK.out _ _ (fun _ => KB.out _ GB.out) ?_;clear hK
    try simp only [Act.put]
    refine zAA (i := 3) (o := ⟨some 69,.call { callee := .value (.func 8),args := #[.tmp 68],argTypes := #[24] },24, "top18.go:55",#[⟨2,.data⟩],none⟩) (by kernel_rfl) rfl (fun K hK => ?_);go_simp;go_at_call 8;refine (zVC (RA.out.now GB.out)).mono ?_;rintro e w110 ⟨a8,cap8,rfl,hr8,b⟩;have lz110 := (show Below _ _ _ from b).size;replace GB := hid (below_step GB.out b);obtain ⟨mx8,-⟩ := hr8.mx13 HSN.out;rw [← hk] at mx8;have M8 := hid mx8
    try replace DU := hid (DU.out.step b)
    clear mx8 hr8;clear b;refine hK.out _ _ (fun _ => KB.out _ GB.out) ?_;clear hK;refine zAA (i := 4) (o := ⟨some 70,.call { callee := .value (.func 10),args := #[.tmp 67,.tmp 69],argTypes := #[24,24] },33, "top18.go:55",#[⟨1,.data⟩,⟨3,.data⟩,⟨3,.chain⟩],none⟩) (by kernel_rfl) rfl (fun K hK => ?_);go_simp;go_at_call 10;refine (zkD (MU.out.now GB.out).mx M8.out (by have := HK.out;have := HT.out;omega)).mono ?_;rintro e w111 ⟨vu,rfl,qa,b⟩;have lz111 := (show Below _ _ _ from b).size;replace GB := hid (below_step GB.out b);obtain ⟨au,cu,rfl,-,-⟩ := qa.mx.form;rw [HPU.out] at qa;dsimp only [matv] at qa ⊢;obtain ⟨lu,hlu⟩ : ∃ lu,m * n = lu := ⟨_,rfl⟩
    rw [hlu] at qa ⊢;have UA := hid qa
    try replace DU := hid (DU.out.step b)
    clear qa hlu M8;clear b;refine hK.out _ _ (fun _ => KB.out _ GB.out) ?_;clear hK;refine zFA [(5,(.tuple #[(.agg #[.int .i64 (m : Int),.int .i64 (n : Int),.slice au lu cu]),(.int .i64 0)])),(6,(.agg #[.int .i64 (m : Int),.int .i64 (n : Int),.slice au lu cu])),(7,(.int .i64 0))] 3 ?_ (KB.out _ GB.out) ?_
    ·simp only [zNA,gA9,g09,g19,Act.put,sI9,s09,s19]
     (repeat' (first | exact trivial | refine And.intro (Or.inl ⟨by rfl,?_⟩) ?_)) <;> (intro w hSw;(try dsimp only at hSw);go_simp)
    simp only [actV,gA9,g09,g19,Act.put,sI9,s09,s19];refine zAA (i := 9) (o := ⟨none,.store 24 (.tmp 5) (.tmp 71),0, "top18.go:55",#[⟨8,.data⟩,⟨6,.data⟩,⟨4,.chain⟩,⟨0,.phase⟩,⟨1,.phase⟩,⟨2,.phase⟩,⟨3,.phase⟩,⟨4,.phase⟩,⟨5,.phase⟩,⟨6,.phase⟩,⟨7,.textOnly .lateStores⟩,⟨8,.phase⟩],none⟩) (by kernel_rfl) rfl (fun K hK => ?_);have dU := DU.out;have r0 := dU.at (i := 0) rfl;have r1 := dU.at (i := 1) rfl;have r2 := dU.at (i := 2) rfl;have f0 := dU.fz 0;have f1 := dU.fz 1;have f2 := dU.fz 2;go_simp;clear r0 r1 r2 f0 f1 f2;obtain ⟨V112,hW⟩ : ∃ V,(((w111.setCell ⟨D101.heap.size,0,none⟩ (.int .i64 (m : Int))).setCell ⟨D101.heap.size,1,none⟩ (.int .i64 (n : Int))).setCell ⟨D101.heap.size,2,none⟩ (.slice au lu cu)) = V := ⟨_,rfl⟩
    have FN : Hid (zSH w7 V112 (.int .i64 0) (.pointer (some ⟨D101.heap.size,0,none⟩)) m n X (t + k + m)) := by
     unfold Hid;rw [← hW];exact ⟨_,au,lu,cu,rfl,rfl,dU.put3 _ _ _,UA.out.wk dU _ _ _,zMA GB.out BU.out _ _ _⟩
    replace GB : Hid (Below w7.heap.size w7 V112) := by unfold Hid;rw [← hW];exact zMA GB.out BU.out _ _ _
    rw [hW];clear hW dU;refine hK.out _ _ (fun _ => KB.out _ GB.out) ?_;clear hK
    try simp only [Act.put]
    refine zAA (i := 10) (o := ⟨some 4,.assign (.tmp 72),28, "top18.go:55",#[⟨7,.data⟩,⟨9,.chain⟩,⟨0,.phase⟩,⟨1,.phase⟩,⟨2,.phase⟩,⟨3,.phase⟩,⟨4,.phase⟩,⟨5,.phase⟩,⟨6,.phase⟩,⟨7,.phase⟩,⟨8,.phase⟩,⟨9,.phase⟩],none⟩) (by kernel_rfl) rfl (fun K hK => ?_);go_simp;refine hK.out _ _ (fun h => absurd h (by decide)) ?_;clear hK
    try simp only [Act.put]
    refine zDA (by kernel_rfl) ?_ _;clear GB KB UA DU BU;go_wp2_with fail;go_meet;exact FN.out
  case rest =>
  rename World => w8
  obtain ⟨b5,au,lu,cu,rfl,rfl,d8,ua,hb8⟩ := hcut;replace B0 := hid (below_step B0.out hb8);replace DA := hid (DA.out.step hb8);replace MH := hid (MH.out.now hb8);replace MU := hid (MU.out.now hb8);replace MW := hid (MW.out.now hb8);replace D5 := hid (D5.out.step hb8);have D8 := hid d8;have UA := hid ua;clear hb8 d8 ua x0 x1 x2 y0 y1 y3 y4 y5 RA HPU;have y3 := D5.out.at (i := 3) rfl;have y4 := D5.out.at (i := 4) rfl;have y5 := D5.out.at (i := 5) rfl;have y6 := D5.out.at (i := 6) rfl;have y7 := D5.out.at (i := 7) rfl;have y8 := D5.out.at (i := 8) rfl;have HMU := hid (zkD MU.out.mx MW.out.mx (by have := HK.out;have := HT.out;omega));go_wp2_with fail;refine HMU.out.mono ?_;rintro e w9 ⟨vu,rfl,qa,hb⟩;obtain ⟨a9,c9,rfl,-,-⟩ := qa.mx.form;rw [HUW.out] at qa;dsimp only [matv] at qa ⊢;rw [ELM.out] at qa ⊢;obtain ⟨V9,hV⟩ : ∃ V,w9.alloc (.cells #[.int .i64 (m : Int),.int .i64 (m : Int),.slice a9 lm c9] 24) = V := ⟨_,rfl⟩
  obtain ⟨bv,sv⟩ := alo1 w9 (.cells #[.int .i64 (m : Int),.int .i64 (m : Int),.slice a9 lm c9] 24);rw [hV] at bv sv;have dv : Cel V9 w9.heap.size 24 [.int .i64 (m : Int),.int .i64 (m : Int),.slice a9 lm c9] := by rw [← hV];exact Cel.new w9 _ _
  have bb := below_step hb bv;replace B0 := hid (below_step B0.out bb);replace DA := hid (DA.out.step bb);replace MH := hid (MH.out.now bb);replace MU := hid (MU.out.now bb);replace MW := hid (MW.out.now bb);replace D5 := hid (D5.out.step bb);replace D8 := hid (D8.out.step bb);replace UA := hid (UA.out.now bb);have UW := hid (qa.now bv);have D9 := hid dv;have EV := hid hV;obtain ⟨b6,hbo⟩ : ∃ b,w9.heap.size = b := ⟨_,rfl⟩
  rw [hbo] at D9;have EBO := hid hbo;clear HMU qa hb bv sv dv bb hV hbo y3 y4 y5 y6 y7 y8;have y3 := D5.out.at (i := 3) rfl;have y4 := D5.out.at (i := 4) rfl;have y5 := D5.out.at (i := 5) rfl;have y6 := D5.out.at (i := 6) rfl;have y7 := D5.out.at (i := 7) rfl;have y8 := D5.out.at (i := 8) rfl;go_upto_region 10 with fail
  rw [EV.out,EBO.out];clear EV EBO;have HMU := hid (zkD MW.out.mx MU.out.mx (by have := HK.out;have := HT.out;omega));go_wp2_with fail;refine HMU.out.mono ?_;rintro e w10 ⟨vu,rfl,qa,hb⟩;obtain ⟨a10,c10,rfl,-,-⟩ := qa.mx.form;rw [HWU.out] at qa;dsimp only [matv] at qa ⊢;rw [ELM.out] at qa ⊢;obtain ⟨V10,hV⟩ : ∃ V,w10.alloc (.cells #[.int .i64 (m : Int),.int .i64 (m : Int),.slice a10 lm c10] 24) = V := ⟨_,rfl⟩
  obtain ⟨bv,sv⟩ := alo1 w10 (.cells #[.int .i64 (m : Int),.int .i64 (m : Int),.slice a10 lm c10] 24);rw [hV] at bv sv;have dv : Cel V10 w10.heap.size 24 [.int .i64 (m : Int),.int .i64 (m : Int),.slice a10 lm c10] := by rw [← hV];exact Cel.new w10 _ _
  have bb := below_step hb bv;replace B0 := hid (below_step B0.out bb);replace DA := hid (DA.out.step bb);replace MH := hid (MH.out.now bb);replace D5 := hid (D5.out.step bb);replace D8 := hid (D8.out.step bb);replace UA := hid (UA.out.now bb);replace D9 := hid (D9.out.step bb);replace UW := hid (UW.out.now bb);have WU := hid (qa.now bv);have D10 := hid dv;have EV := hid hV;obtain ⟨b8,hbo⟩ : ∃ b,w10.heap.size = b := ⟨_,rfl⟩
  rw [hbo] at D10;have EBO := hid hbo;clear HMU qa hb bv sv dv bb hV hbo y3 y4 y5 y6 y7 y8;have HHE := hid (hermite21 MH.out HEC.out HRD.out HZR.out);clear MU MW;have y0 := D5.out.at (i := 0) rfl;have y1 := D5.out.at (i := 1) rfl;have y2 := D5.out.at (i := 2) rfl;go_upto_region 11 with fail
  rw [EV.out,EBO.out];clear EV EBO;go_wp2_with fail;refine HHE.out.mono ?_;rintro e w11 ⟨rfl,hb⟩;replace B0 := hid (below_step B0.out hb);replace DA := hid (DA.out.step hb);replace MH := hid (MH.out.now hb);replace D5 := hid (D5.out.step hb);replace D8 := hid (D8.out.step hb);replace UA := hid (UA.out.now hb);replace D9 := hid (D9.out.step hb);replace UW := hid (UW.out.now hb);replace D10 := hid (D10.out.step hb);replace WU := hid (WU.out.now hb);clear HHE hb y0 y1 y2;have x0 := DA.out.at (i := 0) rfl;have y0 := D5.out.at (i := 0) rfl;have y1 := D5.out.at (i := 1) rfl;have y2 := D5.out.at (i := 2) rfl;have u0 := D8.out.at (i := 0) rfl;have u1 := D8.out.at (i := 1) rfl;have u2 := D8.out.at (i := 2) rfl;have p0 := D9.out.at (i := 0) rfl;have p1 := D9.out.at (i := 1) rfl;have p2 := D9.out.at (i := 2) rfl;have q0 := D10.out.at (i := 0) rfl;have q1 := D10.out.at (i := 1) rfl;have q2 := D10.out.at (i := 2) rfl;go_wp2_with fail;have KB : Hid (∀ w',Below w11.heap.size w11 w' → w'.cell? ⟨bx,0,none⟩ = some (.int .i64 (m : Int)) ∧ w'.cell? ⟨b3,0,none⟩ = some (.int .i64 (m : Int)) ∧ w'.cell? ⟨b3,1,none⟩ = some (.int .i64 (n : Int)) ∧ w'.cell? ⟨b3,2,none⟩ = some (.slice aH lH cH) ∧ w'.cell? ⟨b5,0,none⟩ = some (.int .i64 (m : Int)) ∧ w'.cell? ⟨b5,1,none⟩ = some (.int .i64 (n : Int)) ∧ w'.cell? ⟨b5,2,none⟩ = some (.slice au lu cu) ∧ w'.cell? ⟨b6,0,none⟩ = some (.int .i64 (m : Int)) ∧ w'.cell? ⟨b6,1,none⟩ = some (.int .i64 (m : Int)) ∧ w'.cell? ⟨b6,2,none⟩ = some (.slice a9 lm c9) ∧ w'.cell? ⟨b8,0,none⟩ = some (.int .i64 (m : Int)) ∧ w'.cell? ⟨b8,1,none⟩ = some (.int .i64 (m : Int)) ∧ w'.cell? ⟨b8,2,none⟩ = some (.slice a10 lm c10)) := fun w' h => ⟨cnow h x0,cnow h y0,cnow h y1,cnow h y2,cnow h u0,cnow h u1,cnow h u2,cnow h p0,cnow h p1,cnow h p2,cnow h q0,cnow h q1,cnow h q2⟩
  refine zEA (fun w' => w'.cell? ⟨bx,0,none⟩ = some (.int .i64 (m : Int)) ∧ w'.cell? ⟨b3,0,none⟩ = some (.int .i64 (m : Int)) ∧ w'.cell? ⟨b3,1,none⟩ = some (.int .i64 (n : Int)) ∧ w'.cell? ⟨b3,2,none⟩ = some (.slice aH lH cH) ∧ w'.cell? ⟨b5,0,none⟩ = some (.int .i64 (m : Int)) ∧ w'.cell? ⟨b5,1,none⟩ = some (.int .i64 (n : Int)) ∧ w'.cell? ⟨b5,2,none⟩ = some (.slice au lu cu) ∧ w'.cell? ⟨b6,0,none⟩ = some (.int .i64 (m : Int)) ∧ w'.cell? ⟨b6,1,none⟩ = some (.int .i64 (m : Int)) ∧ w'.cell? ⟨b6,2,none⟩ = some (.slice a9 lm c9) ∧ w'.cell? ⟨b8,0,none⟩ = some (.int .i64 (m : Int)) ∧ w'.cell? ⟨b8,1,none⟩ = some (.int .i64 (m : Int)) ∧ w'.cell? ⟨b8,2,none⟩ = some (.slice a10 lm c10)) 33 (by kernel_rfl) ?_;obtain ⟨D71,hD⟩ : ∃ D71,w11.drew = D71 := ⟨_,rfl⟩
  have GB : Hid (Below w11.heap.size w11 D71) := by unfold Hid;rw [← hD];exact (Below.refl _ _).drew
  rw [hD];clear hD;refine zFA [(0,(.int .i64 0)),(1,(.bool true)),(2,(.bool true)),(3,(.int .i64 0)),(4,(.bool true)),(5,(.bool true)),(6,(.bool true)),(7,(.int .i64 0)),(8,(.bool true)),(9,(.bool true)),(10,(.bool true)),(11,(.bool true)),(12,(.bool true)),(13,(.bool true)),(14,(.agg #[.int .i64 (m : Int),.int .i64 (n : Int),.slice au lu cu])),(15,(.pointer (some ⟨b3,0,none⟩))),(16,(.agg #[.int .i64 (m : Int),.int .i64 (n : Int),.slice aH lH cH]))] 17 ?_ (KB.out _ GB.out) ?_
  ·simp only [zNA,gA9,g09,g19,Act.put,sI9,s09,s19]
   (repeat' (first | exact trivial | refine And.intro (Or.inl ⟨by rfl,?_⟩) ?_)) <;> (intro w hSw;(try dsimp only at hSw);go_simp)
  simp only [actV,gA9,g09,g19,Act.put,sI9,s09,s19];refine zAA (i := 17) (o := ⟨some 112,.call { callee := .value (.func 12),args := #[.tmp 109,.tmp 111],argTypes := #[24,24] },4, "top18.go:59",#[⟨14,.data⟩,⟨16,.data⟩,⟨13,.chain⟩,⟨13,.guard⟩],some (13,true)⟩) (by kernel_rfl) rfl (fun K hK => ?_);go_simp;go_at_call 12;refine (zyF (UA.out.now GB.out) (MH.out.now GB.out) rfl).mono ?_;rintro e w72 ⟨rfl,b⟩;have lz72 := (show Below _ _ _ from b).size;replace GB := hid (below_step GB.out b);clear b;refine hK.out _ _ (fun _ => KB.out _ GB.out) ?_;clear hK;refine zFA [(18,(.bool true)),(19,(.bool true)),(20,(.agg #[.int .i64 (m : Int),.int .i64 (m : Int),.slice a9 lm c9])),(21,(.pointer (some ⟨bx,0,none⟩))),(22,(.int .i64 (m : Int)))] 5 ?_ (KB.out _ GB.out) ?_
  ·simp only [zNA,gA9,g09,g19,Act.put,sI9,s09,s19]
   (repeat' (first | exact trivial | refine And.intro (Or.inl ⟨by rfl,?_⟩) ?_)) <;> (intro w hSw;(try dsimp only at hSw);go_simp)
  simp only [actV,gA9,g09,g19,Act.put,sI9,s09,s19];refine zAA (i := 23) (o := ⟨some 118,.call { callee := .value (.func 13),args := #[.tmp 117],argTypes := #[3] },24, "top18.go:59",#[⟨22,.data⟩,⟨19,.chain⟩,⟨19,.guard⟩],some (19,true)⟩) (by kernel_rfl) rfl (fun K hK => ?_);go_simp;go_at_call 13;refine (zcH hm64).mono ?_;rintro e w73 ⟨vi,rfl,qi,b⟩;have lz73 := (show Below _ _ _ from b).size;replace GB := hid (below_step GB.out b);obtain ⟨ai,ci,rfl,-,-⟩ := qi.mx.form;have MI := hid qi;dsimp only [matv] at MI ⊢;rw [ELM.out] at MI ⊢;clear qi;clear b;refine hK.out _ _ (fun _ => KB.out _ GB.out) ?_;clear hK;refine zAA (i := 24) (o := ⟨some 119,.call { callee := .value (.func 12),args := #[.tmp 115,.tmp 118],argTypes := #[24,24] },4, "top18.go:59",#[⟨20,.data⟩,⟨23,.data⟩,⟨23,.chain⟩,⟨19,.guard⟩],some (19,true)⟩) (by kernel_rfl) rfl (fun K hK => ?_);go_simp;go_at_call 12;refine (zyF (UW.out.now GB.out) MI.out (zzE m).symm).mono ?_;rintro e w74 ⟨rfl,b⟩;have lz74 := (show Below _ _ _ from b).size;replace GB := hid (below_step GB.out b);clear b;refine hK.out _ _ (fun _ => KB.out _ GB.out) ?_;clear hK;refine zFA [(25,(.bool true)),(26,(.bool true)),(27,(.agg #[.int .i64 (m : Int),.int .i64 (m : Int),.slice a10 lm c10])),(28,(.pointer (some ⟨bx,0,none⟩))),(29,(.int .i64 (m : Int)))] 5 ?_ (KB.out _ GB.out) ?_
  ·simp only [zNA,gA9,g09,g19,Act.put,sI9,s09,s19]
   (repeat' (first | exact trivial | refine And.intro (Or.inl ⟨by rfl,?_⟩) ?_)) <;> (intro w hSw;(try dsimp only at hSw);go_simp)
  simp only [actV,gA9,g09,g19,Act.put,sI9,s09,s19];refine zAA (i := 30) (o := ⟨some 125,.call { callee := .value (.func 13),args := #[.tmp 124],argTypes := #[3] },24, "top18.go:59",#[⟨29,.data⟩,⟨26,.chain⟩,⟨26,.guard⟩],some (26,true)⟩) (by kernel_rfl) rfl (fun K hK => ?_);go_simp;go_at_call 13;refine (zcH hm64).mono ?_;rintro e w75 ⟨vi,rfl,qi,b⟩;have lz75 := (show Below _ _ _ from b).size;replace GB := hid (below_step GB.out b);obtain ⟨aj,cj,rfl,-,-⟩ := qi.mx.form;clear MI;have MI := hid qi;dsimp only [matv] at MI ⊢;rw [ELM.out] at MI ⊢;clear qi;clear b;refine hK.out _ _ (fun _ => KB.out _ GB.out) ?_;clear hK;refine zAA (i := 31) (o := ⟨some 126,.call { callee := .value (.func 12),args := #[.tmp 122,.tmp 125],argTypes := #[24,24] },4, "top18.go:59",#[⟨27,.data⟩,⟨30,.data⟩,⟨30,.chain⟩,⟨26,.guard⟩],some (26,true)⟩) (by kernel_rfl) rfl (fun K hK => ?_);go_simp;go_at_call 12;refine (zyF (WU.out.now GB.out) MI.out (zzE m).symm).mono ?_;rintro e w76 ⟨rfl,b⟩;have lz76 := (show Below _ _ _ from b).size;replace GB := hid (below_step GB.out b);clear b;refine hK.out _ _ (fun _ => KB.out _ GB.out) ?_;clear hK;refine zFA [(32,(.bool true))] 1 ?_ (KB.out _ GB.out) ?_
  ·simp only [zNA,gA9,g09,g19,Act.put,sI9,s09,s19]
   (repeat' (first | exact trivial | refine And.intro (Or.inl ⟨by rfl,?_⟩) ?_)) <;> (intro w hSw;(try dsimp only at hSw);go_simp)
  simp only [actV,gA9,g09,g19,Act.put,sI9,s09,s19];refine zAA (i := 33) (o := ⟨some 2,.assign (.tmp 127),4, "top18.go:59",#[⟨32,.data⟩,⟨31,.chain⟩,⟨0,.phase⟩,⟨1,.phase⟩,⟨2,.phase⟩,⟨3,.phase⟩,⟨4,.phase⟩,⟨5,.phase⟩,⟨6,.phase⟩,⟨7,.phase⟩,⟨8,.phase⟩,⟨9,.phase⟩,⟨10,.phase⟩,⟨11,.phase⟩,⟨12,.phase⟩,⟨13,.phase⟩,⟨14,.phase⟩,⟨15,.phase⟩,⟨16,.phase⟩,⟨17,.phase⟩,⟨18,.phase⟩,⟨19,.phase⟩,⟨20,.phase⟩,⟨21,.phase⟩,⟨22,.phase⟩,⟨23,.phase⟩,⟨24,.phase⟩,⟨25,.phase⟩,⟨26,.phase⟩,⟨27,.phase⟩,⟨28,.phase⟩,⟨29,.phase⟩,⟨30,.phase⟩,⟨31,.phase⟩,⟨32,.phase⟩],none⟩) (by kernel_rfl) rfl (fun K hK => ?_);go_simp;refine hK.out _ _ (fun h => absurd h (by decide)) ?_;clear hK
  try simp only [Act.put]
  refine zDA (by kernel_rfl) ?_ _;have FF := hid (below_step B0.out GB.out);clear GB KB MH UA UW WU MI D5 D8 D9 D10 DA B0;go_wp2;go_ret;exact ⟨rfl,FF.out⟩
 ·have HFN := hid (fullNo21 (w := w2) (a := a3) (cap := cap3) hsn)
  have HSN := hid hsn;clear hsn;go_wp2_with fail;refine HFN.out.mono ?_;rintro e w3 ⟨rfl,b3⟩;obtain ⟨V3,hV3⟩ : ∃ V3,w3.alloc (.cells #[.int .i64 0,.int .i64 0,.slice none 0 0,.int .i64 0,.int .i64 0,.slice none 0 0,.int .i64 0,.int .i64 0,.slice none 0 0] 27) = V3 := ⟨_,rfl⟩
  obtain ⟨bv3,sz3⟩ := alo1 w3 (.cells #[.int .i64 0,.int .i64 0,.slice none 0 0,.int .i64 0,.int .i64 0,.slice none 0 0,.int .i64 0,.int .i64 0,.slice none 0 0] 27);rw [hV3] at bv3 sz3;have bb := below_step b3 bv3;replace DA := hid (DA.out.step bb);replace B0 := hid (below_step B0.out bb);have HSO := hid (zBC (w := V3) (r := ra) (c := ca) (a := aa) (l := la) (cap := capa) HLA.out);rw [decide_eq_false HSN.out] at HSO;have x0 := DA.out.at (i := 0) rfl;have x1 := DA.out.at (i := 1) rfl;have x2 := DA.out.at (i := 2) rfl;have EV := hid hV3;rw [← hV3] at x0 x1 x2;clear HFN b3 bv3 sz3 hV3 bb RA R2;go_wp2_with fail;rw [EV.out];refine HSO.out.mono ?_;rintro e w4 ⟨rfl,b4⟩;have FF := hid (below_step B0.out b4);clear HSO b4 x0 x1 x2 EV B0 DA;go_wp2;go_ret;exact ⟨rfl,FF.out⟩
theorem wholeHermite_any {w : World} {va : Value} {ra ca : Int} {la : Nat} {xs : List Int} (ha : Raw w va ra ca la xs) : Calls Tryz.prog 3 #[va] w (zzH w) := wholeHermite_size rfl ha
end Go.Proofs.YtbcgggadelnaaaaGreat
