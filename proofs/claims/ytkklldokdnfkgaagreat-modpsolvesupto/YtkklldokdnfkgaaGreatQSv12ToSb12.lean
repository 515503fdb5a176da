/-
 QSv12ToSb12: Sv12, Sb12, joined.
-/
import Derived.Test.YtkklldokdnfkgaaGreatQCa12ToWq12
import Derived.Test.YtkklldokdnfkgaaGreatQSx12
import Derived.Test.YtkklldokdnfkgaaGreatQCf12ToRf12
import Derived.Test.YtkklldokdnfkgaaGreatQRm12ToTailL

set_option maxRecDepth 100000
set_option maxHeartbeats 6400000
set_option linter.unusedVariables false
set_option linter.unusedSimpArgs false
namespace Go.Proofs.YtkklldokdnfkgaaGreat
open Go.RowKit
theorem solve12_fit {w : World} {r c : Int} {a ab : Option Addr} {l cap lb capb p : Nat} {s : Bool} {E : Int} (hc : zGI w r c a l cap s) (hE : zDD s ((lb : Int) == c) p = E) (hE0 : (E != 0) = true) : Calls Tryz.prog 10 #[mrV r c a l cap,.slice ab lb capb,.int .u64 (p : Int)] w fun e w' => e = .returned (.tuple #[.slice none 0 0,.int .i64 E]) ∧ Below w.heap.size w w' := by
 obtain ⟨W0,hW⟩ : ∃ W0,w.alloc (mrO r c a l cap) = W0 := ⟨_,rfl⟩
 have b0 : Below w.heap.size w W0 := by rw [← hW];exact (zVA _ _).1
 have P1 : Hid (Cel W0 w.heap.size 24 (mrC r c a l cap)) := by unfold Hid;rw [← hW];exact Cel.new w _ _
 have x0 := P1.out.at (i := 0) rfl;have x1 := P1.out.at (i := 1) rfl;have x2 := P1.out.at (i := 2) rfl;rw [← hW] at x0 x1 x2;have HF := hid (zIE (s := s) (f := ((lb : Int) == c)) (p := p) (hc.now b0));rw [hE] at HF;have G0 := hid b0;have EW := hid hW;clear b0 hW hc hE;go_enter Tryz.func10,Tryz.ntmps10;go_wp2_with fail;rw [EW.out];refine HF.out.mono ?_;rintro e w1 ⟨rfl,b1⟩;have G1 := hid (below_step G0.out b1);clear HF b1 x0 x1 x2 EW G0;go_wp2;go_ret2;exact ⟨rfl,G1.out⟩
def zEH (w : World) (p r c : Nat) (zs bs : List Int) (e : Ending) (w' : World) : Prop :=
 ((∃ j,j < c ∧ (slE p r c zs bs).getD j 0 ≠ 0) ∧ e = .returned (.tuple #[.slice none 0 0,.int .i64 6]) ∧ Below w.heap.size w w') ∨
 ((∀ j,j < c → (slE p r c zs bs).getD j 0 = 0) ∧ ∃ u ps,e = .returned (.tuple #[u,.int .i64 0]) ∧ PrsT w' u ps ∧ Zms w' ps (slX p r c zs bs) 1 ∧ Below w.heap.size w w')
def SvH (W : World) (g n : Nat) (X : Nat → List Int) (ext : List Value) (gk : Nat) (s : Value) (wx : World) : Prop :=
 ∃ i : Nat,s = .int .i64 (i : Int) ∧ i ≤ n ∧ gk = n - i ∧ Row wx g (ws (X i) ++ ext) ∧ Below W.heap.size W wx
def mnS (p c : Nat) (R : List Int) : Nat → List Int
 | 0 => R
 | i + 1 => (mnS p c R i).set (c + i) (((p : Int) - R.getD (c + i) 0) % (p : Int))
theorem zgC (p c : Nat) (R : List Int) : ∀ i,(mnS p c R i).length = R.length
 | 0 => rfl
 | i + 1 => by show (List.set _ _ _).length = _;rw [List.length_set,zgC]
theorem zcH {p c : Nat} {R : List Int} {j : Nat} (hj : j < R.length) : ∀ i,(mnS p c R i).getD j 0 = if c ≤ j ∧ j < c + i then ((p : Int) - R.getD j 0) % (p : Int) else R.getD j 0
 | 0 => by rw [if_neg (by omega)];rfl
 | i + 1 => by
  show (List.set _ _ _).getD j 0 = _
  rw [List.getD_eq_getElem?_getD,List.getElem?_set]
  by_cases q : c + i = j
  ·rw [if_pos q,if_pos (by rw [zgC,q];exact hj),if_pos (by omega),q]
   rfl
  ·rw [if_neg q,← List.getD_eq_getElem?_getD,zcH hj i]
   by_cases q2 : c ≤ j ∧ j < c + i
   ·rw [if_pos q2,if_pos (by omega)]
   ·rw [if_neg q2,if_neg (by omega)]
theorem mnS_drop {p r c : Nat} {R : List Int} (h : R.length = c + r) : (mnS p c R r).drop c = (R.drop c).map fun x => ((p : Int) - x) % (p : Int) := by
 apply List.ext_getElem
 ·simp [zgC]
 ·intro j h1 h2
  have hj : c + j < R.length := by simp [zgC] at h1;omega
  have e := zcH (p := p) (c := c) hj r;rw [if_pos (by omega)] at e;rw [List.getElem_drop,List.getElem_map,List.getElem_drop];have hj2 : c + j < (mnS p c R r).length := by rw [zgC];exact hj
  rw [List.getD_eq_getElem?_getD,List.getElem?_eq_getElem hj2,List.getD_eq_getElem?_getD,List.getElem?_eq_getElem hj] at e;exact e
theorem solve12 {w : World} {va vb : Value} {p r c K K0 : Nat} {zs bs : List Int} (hp : gdB p = true) (h : Mx w va r c zs K0) (hb : Zl w vb bs K) (hbl : bs.length = c) (hK0 : K0 ≤ 1099511627775) (hK : K ≤ 1099511627775) :
  Calls Tryz.prog 10 #[va,vb,.int .u64 (p : Int)] w (zEH w p r c zs bs) := by
 obtain ⟨hpr,hp2⟩ := zXC hp;have hp1 := hpr.1
 haveI : NeZero p := ⟨by omega⟩
 have hm0 := h;obtain ⟨a,cap,rfl,hr,hc⟩ := h.form;have hl : zs.length = r * c := by obtain ⟨_,_,_,_,_,q,_⟩ := hm0;exact q
 obtain ⟨ab,cb,rfl,hcb,-,-⟩ := hb.form9;have OKS := hid (zUE (p := p) (c := c) (r := r) hp1 hl);have hpv : wkR p r c zs ≤ (wkS p r c zs).pv.length := zNC _ _;have HRK : Hid (wkR p r c zs ≤ r) := Nat.le_trans hpv OKS.out.piv;have HPV := hid (zrC hpr hl).2.1;have HER : Hid (Res p (slE p r c zs bs)) := zzF hpr r c zs bs;have HEN : Hid ((slE p r c zs bs).length = c + r) := zAG hpr hl hbl;have HXR : Hid (Res p (slX p r c zs bs)) := zxF hpr r c zs bs;have HXL : Hid ((slX p r c zs bs).length = r) := zRH hpr hl hbl;have HXD : Hid ((mnS p c (slE p r c zs bs) r).drop c = slX p r c zs bs) := mnS_drop HEN.out;have HSL : Hid (∀ i,i ≤ r → (slR p (wkS p r c zs) (slB p r bs) i).length = c + r) := fun i hi => zvE (zBG hbl) OKS.out.wid OKS.out.len i hi
 have HSR : Hid (∀ i,Res p (slR p (wkS p r c zs) (slB p r bs) i)) := fun i => zyF (by omega) (zTH (by omega) bs) i
 have HSS : Hid (∀ i,slR p (wkS p r c zs) (slB p r bs) (i + 1) = tkL p ((slR p (wkS p r c zs) (slB p r bs) i).getD ((wkS p r c zs).pv.getD i 0) 0) (slR p (wkS p r c zs) (slB p r bs) i) (rowE (wkS p r c zs).m i)) := fun i => rfl
 have HS0 : Hid (slR p (wkS p r c zs) (slB p r bs) 0 = resL p bs ++ List.replicate r 0) := rfl;have HSE : Hid (slR p (wkS p r c zs) (slB p r bs) (wkR p r c zs) = slE p r c zs bs) := rfl;have HSV : Hid (∀ e w',(((∃ j,j < c ∧ (slE p r c zs bs).getD j 0 ≠ 0) ∧ e = .returned (.tuple #[.slice none 0 0,.int .i64 6]) ∧ Below w.heap.size w w') ∨ ((∀ j,j < c → (slE p r c zs bs).getD j 0 = 0) ∧ ∃ u ps,e = .returned (.tuple #[u,.int .i64 0]) ∧ PrsT w' u ps ∧ Zms w' ps (slX p r c zs bs) 1 ∧ Below w.heap.size w w')) → zEH w p r c zs bs e w') := fun e w' q => q
 obtain ⟨n,hn⟩ : ∃ n,r * c = n := ⟨_,rfl⟩
 rw [hn] at hm0 ⊢;rw [hbl] at hcb hb ⊢;obtain ⟨W0,hW⟩ : ∃ W0,w.alloc (mrO (r : Int) (c : Int) a n cap) = W0 := ⟨_,rfl⟩
 obtain ⟨b0,sz0⟩ := zVA w (mrO (r : Int) (c : Int) a n cap);rw [hW] at b0 sz0;have P1 : Hid (Cel W0 w.heap.size 24 (mrC (r : Int) (c : Int) a n cap)) := by unfold Hid;rw [← hW];exact Cel.new w _ _
 have x0 := P1.out.at (i := 0) rfl;have x1 := P1.out.at (i := 1) rfl;have x2 := P1.out.at (i := 2) rfl;rw [← hW] at x0 x1 x2;have HF := hid (zIE (s := true) (f := true) (p := p) (hm0.now b0).chk);rw [zOD hp] at HF;have HWO : Hid (∀ w',Below W0.heap.size W0 w' → Calls Tryz.prog 20 #[matv r c (.slice a n cap),.int .u64 (p : Int)] w' (zRE w' p r c zs)) := fun w' q => workedp12 hp ((hm0.now b0).now q) hK0
 have HWU : Hid (∀ w' e x,zRE w' p r c zs e x → ∃ lv gs pa pcap,e = .returned (.tuple #[shv p (c + r) lv,.slice pa (wkR p r c zs) pcap]) ∧ Lns w'.heap.size x lv (c + r) gs (wkS p r c zs).m ∧ (∀ i,i < wkR p r c zs → ∃ L,pa = some ⟨L,0,none⟩ ∧ x.cell? ⟨L,i,none⟩ = some (.int .i64 ((wkS p r c zs).pv.getD i 0 : Nat))) ∧ Below w'.heap.size w' x) := fun _ _ _ q => q
 have VB := hid (hb.now b0);have G0 := hid b0;have EW := hid hW;obtain ⟨S,hS⟩ : ∃ S,wkS p r c zs = S := ⟨_,rfl⟩
 obtain ⟨rk,hrk⟩ : ∃ rk,wkR p r c zs = rk := ⟨_,rfl⟩
 obtain ⟨X,hX⟩ : ∃ X : Nat → List Int,∀ i,slR p (wkS p r c zs) (slB p r bs) i = X i := ⟨_,fun _ => rfl⟩
 obtain ⟨R,hR⟩ : ∃ R,slE p r c zs bs = R := ⟨_,rfl⟩
 obtain ⟨SX,hSX⟩ : ∃ SX,slX p r c zs bs = SX := ⟨_,rfl⟩
 simp only [hX] at HSL HSR HSS HS0 HSE;rw [hrk] at HSE HRK HPV HWU;rw [hS] at HSS HWU OKS HPV;rw [hR] at HSE HER HEN HXD HSV;rw [hSX] at HXR HXL HXD HSV;obtain ⟨N,hN⟩ : ∃ N,c + r = N := ⟨_,rfl⟩
 have HNN := hid hN;rw [hN] at HWU OKS HSL HEN;have HBL := hid hbl;have HKK := hid hK;have q0 : ((c : Int) == (c : Int)) = true := by simp
 have q1 : ((0 : Int) != 0) = false := rfl;clear b0 sz0 hW h hm0 hK hK0 hl hn hpr hp hb hbl hS hrk hX hR hSX hN hpv;refine Calls.mono ?_ (fun e w' q => HSV.out e w' q);clear HSV;go_enter Tryz.func10,Tryz.ntmps10;go_wp2_with fail;rw [EW.out];refine HF.out.mono ?_;rintro e w1 ⟨rfl,b1⟩;replace P1 := hid (P1.out.step b1);have HW1 := hid (HWO.out _ b1);have G1 := hid (below_step G0.out b1);replace VB := hid (VB.out.now b1);clear HF b1 x0 x1 x2 EW G0 HWO q0;have x0 := P1.out.at (i := 0) rfl;have x1 := P1.out.at (i := 1) rfl;have x2 := P1.out.at (i := 2) rfl;go_wp2_with fail;refine HW1.out.mono ?_;intro e w2 hwk;obtain ⟨lv,gs,pa,pcap,rfl,hln,hpc,b2⟩ := HWU.out _ _ _ hwk;clear hwk HW1 HWU x0 x1 x2 q1;obtain ⟨la,lcap,rfl,-,-⟩ := hln.form;rw [OKS.out.len] at hln ⊢;obtain ⟨V,hV⟩ : ∃ V,w2.alloc (shO p N (.slice la r lcap)) = V := ⟨_,rfl⟩
 obtain ⟨bV,szV⟩ := zVA w2 (shO p N (.slice la r lcap));rw [hV] at bV szV;have b12 := below_step b2 bV;have PB : Hid (Cel V w2.heap.size 54 (shc p N (.slice la r lcap))) := by unfold Hid;rw [← hV];exact Cel.new w2 _ _
 replace P1 := hid (P1.out.step b12);replace VB := hid (VB.out.now b12);have G2 := hid (below_step G1.out b12);have LN := hid (hln.now bV);have PVC : Hid (∀ wx,Below V.heap.size V wx → ∀ i,i < rk → ∃ L,pa = some ⟨L,0,none⟩ ∧ wx.cell? ⟨L,i,none⟩ = some (.int .i64 (S.pv.getD i 0 : Nat))) := fun wx hb i hi => by
  obtain ⟨L,e,h1⟩ := hpc i hi;exact ⟨L,e,cnow hb (cnow bV h1)⟩
 obtain ⟨sb,hsb⟩ : ∃ sb,w2.heap.size = sb := ⟨_,rfl⟩
 have EV := hid hV;have x0 := P1.out.at (i := 0) rfl;have y0 := PB.out.at (i := 0) rfl;have y1 := PB.out.at (i := 1) rfl;have y2 := PB.out.at (i := 2) rfl;clear hln hpc b2 bV szV b12 hV G1;go_wp2_with fail;rw [EV.out];rw [hsb] at PB y0 y1 y2;clear EV hsb;have KB : Hid (∀ w',Below V.heap.size V w' → w'.cell? ⟨sb,0,none⟩ = some (.int .u64 (p : Int)) ∧ w'.cell? ⟨sb,1,none⟩ = some (.int .i64 (N : Int)) ∧ w'.cell? ⟨sb,2,none⟩ = some (.slice la r lcap) ∧ w'.cell? ⟨w.heap.size,0,none⟩ = some (.int .i64 (r : Int))) := fun w' h => ⟨cnow h y0,cnow h y1,cnow h y2,cnow h x0⟩
 refine zDA (fun w' => w'.cell? ⟨sb,0,none⟩ = some (.int .u64 (p : Int)) ∧ w'.cell? ⟨sb,1,none⟩ = some (.int .i64 (N : Int)) ∧ w'.cell? ⟨sb,2,none⟩ = some (.slice la r lcap) ∧ w'.cell? ⟨w.heap.size,0,none⟩ = some (.int .i64 (r : Int))) 5 (by kernel_rfl) ?_;obtain ⟨D1,hD⟩ : ∃ D1,V.drew = D1 := ⟨_,rfl⟩
 have GB : Hid (Below V.heap.size V D1) := by unfold Hid;rw [← hD];exact (Below.refl _ _).drew
 rw [hD];clear hD;have GBs := GB;refine ziA [(0,(shv p N (.slice la r lcap))),(1,(.slice ab c cb)),(3,(.pointer (some ⟨w.heap.size,0,none⟩))),(4,(.int .i64 (r : Int)))] 4 ?_ (KB.out _ GB.out) ?_
 ·simp only [zpB,gA9,g09,g19,Act.put,sI9,s09,s19]
  (repeat' (first | exact trivial | refine And.intro (Or.inl ⟨by rfl,?_⟩) ?_)) <;> (intro w hSw;(try dsimp only at hSw);go_simp)
 simp only [actV,gA9,g09,g19,Act.put,sI9,s09,s19];refine zCA (i := 2) (o := ⟨some 36,.call { callee := .value (.func 26),args := #[.tmp 34,.tmp 35],argTypes := #[54,22] },42, "modp.go:79",#[⟨0,.data⟩,⟨1,.data⟩],none⟩) (by kernel_rfl) rfl (fun K hK => ?_);go_simp;go_at_call 26;refine ((zdE hp1 hp2 (VB.out.now GB.out) HKK.out HBL.out)).mono ?_;rintro e w2 ⟨g0,rfl,hge,hrow,b⟩;have lz2 := (show Below _ _ _ from b).size;replace GB := hid (below_step GB.out b);have ROW := hid hrow;have HGE : Hid (V.heap.size ≤ g0) := Nat.le_trans GBs.out.size hge;clear hrow hge;clear b;refine hK.out _ _ (fun _ => KB.out _ GB.out) ?_;clear hK;refine zCA (i := 5) (o := ⟨some 39,.call { callee := .builtin .append,args := #[.tmp 36,.tmp 38],argTypes := #[42,3] },42, "modp.go:79",#[⟨2,.data⟩,⟨4,.data⟩,⟨2,.chain⟩],none⟩) (by kernel_rfl) rfl (fun K hK => ?_);have hVs : V.heap.size ≤ w2.heap.size := GB.out.size;obtain ⟨g',cap',ext,w6,hrun,hcap,hrow,hg',hb6⟩ := zeros12 (B := V.heap.size) (n := c) (r := r) ROW.out ((ztB p bs).trans HBL.out) (by omega) (by omega) HGE.out hVs 42;rw [← HS0.out] at hrow;have ROW2 := hid hrow;have GE2 := hid hg';have GB2 : Hid (Below V.heap.size V w6) := GB.out.trans hb6;have HCP := hid hcap;rw [HNN.out] at hcap hrun;have HRUN := hid hrun;clear hrow hg' hb6 hVs hcap hrun ROW HGE GB;refine Lib.wp_append_run _ _ _ _ _ rfl _ _ rfl rfl _ _ HRUN.out ?_;refine hK.out _ _ (fun h => absurd h (by decide)) ?_;clear hK
 try simp only [Act.put]
 refine zCA (i := 6) (o := ⟨some 11,.assign (.tmp 39),42, "modp.go:79",#[⟨5,.data⟩,⟨5,.chain⟩,⟨0,.phase⟩,⟨1,.phase⟩,⟨2,.phase⟩,⟨3,.phase⟩,⟨4,.phase⟩,⟨5,.phase⟩],none⟩) (by kernel_rfl) rfl (fun K hK => ?_);go_simp;refine hK.out _ _ (fun h => absurd h (by decide)) ?_;clear hK
 try simp only [Act.put]
 refine zFA (by kernel_rfl) ?_ _;clear KB y0 y1 y2;have P1V := P1;have PBV := PB;have LNV := LN;clear P1 PB LN;have H0 : Hid (SvH V g' rk X ext rk (.int .i64 0) w6) := ⟨0,rfl,Nat.zero_le _,rfl,ROW2.out,GB2.out⟩
 clear ROW2 HRUN VB GBs;go_wp2_with fail
 go_loopg [42] rk (fun gk s42 wx => SvH V g' rk X ext gk s42 wx)
 case atStart => exact H0.out
 case round =>
  clear H0;obtain ⟨i,rfl,hin,hg,hrow,hbx⟩ := hrel;have ROW := hid hrow;have GX := hid hbx;have HG := hid hg;clear hrow hbx hg
  by_cases hlt : i < rk
  ·have hlt' : (i : Int) < (rk : Int) := by omega
   obtain ⟨L,rfl,k0⟩ := PVC.out wr GX.out i hlt;have hir : i < r := by have := HRK.out;omega
   obtain ⟨c1,hc1⟩ : ∃ c1,S.pv.getD i 0 = c1 := ⟨_,rfl⟩
   have hcl : c1 < c := by rw [← hc1];exact HPV.out i hlt
   rw [hc1] at k0;have hcN : c1 < N := by have := HNN.out;omega
   have hcN' : (c1 : Int) < (N : Int) := by omega
   have hir' : (i : Int) < (r : Int) := by omega
   obtain ⟨LA,rfl⟩ : ∃ LA,la = some ⟨LA,0,none⟩ := by
    obtain ⟨a',cap',e,-,h3⟩ := LNV.out.form;obtain ⟨LA,h4,-⟩ := h3 (by rw [OKS.out.len];omega);simp only [Value.slice.injEq] at e;exact ⟨LA,by rw [e.1,h4]⟩
   have LNr := hid (LNV.out.now GX.out);obtain ⟨gi,qi1,qi2,qi3,qi4⟩ := LNV.out.blk (i := i) (by rw [OKS.out.len];exact hir);have hgne : gi ≠ g' := by have h1 := qi3.lt;have h2 := GE2.out;omega
   have li := (LNr.out.line qi1).1;have ROWI := hid (qi3.stay GX.out);obtain ⟨t,ht⟩ : ∃ t,(X i).getD c1 0 = t := ⟨_,rfl⟩
   have hxl : (X i).length = N := HSL.out i (by omega);have rt1 : IsR p t := by rw [← ht];exact (HSR.out i).getD (by omega) c1
   have xc := ROW.out.at12 (i := c1) (by rw [hxl];exact hcN);have ex2 : (X i)[c1]'(by rw [hxl];exact hcN) = t := by rw [← ht];simp [show c1 < (X i).length by rw [hxl];exact hcN]
   rw [ex2] at xc;have ESC : Hid (X (i + 1) = tkL p t (X i) (rowE S.m i)) := by
    unfold Hid;rw [HSS.out i,hc1,ht]
   have s0 := cnow GX.out (PBV.out.at (i := 0) rfl);have s1 := cnow GX.out (PBV.out.at (i := 1) rfl);have s2 := cnow GX.out (PBV.out.at (i := 2) rfl);have hwi := zkA (i := i) (by omega);have HMM : Hid (rk - (i + 1) < gk) := by unfold Hid;rw [HG.out];omega
   have HXL2 := hid hxl;clear ht ex2 qi1 qi2 hc1 hxl HG LNr qi3;go_wp2_with fail;have KB : Hid (∀ w',Below wr.heap.size wr w' → w'.cell? ⟨sb,0,none⟩ = some (.int .u64 (p : Int)) ∧ w'.cell? ⟨sb,1,none⟩ = some (.int .i64 (N : Int)) ∧ w'.cell? ⟨sb,2,none⟩ = some (.slice (some ⟨LA,0,none⟩) r lcap) ∧ w'.cell? ⟨LA,i,none⟩ = some (rowv N gi) ∧ w'.cell? ⟨g',c1,none⟩ = some (.int .u64 t)) := fun w' h => ⟨cnow h s0,cnow h s1,cnow h s2,cnow h li,cnow h xc⟩
   refine zDA (fun w' => w'.cell? ⟨sb,0,none⟩ = some (.int .u64 (p : Int)) ∧ w'.cell? ⟨sb,1,none⟩ = some (.int .i64 (N : Int)) ∧ w'.cell? ⟨sb,2,none⟩ = some (.slice (some ⟨LA,0,none⟩) r lcap) ∧ w'.cell? ⟨LA,i,none⟩ = some (rowv N gi) ∧ w'.cell? ⟨g',c1,none⟩ = some (.int .u64 t)) 11 (by kernel_rfl) ?_;obtain ⟨D23,hD⟩ : ∃ D23,wr.drew = D23 := ⟨_,rfl⟩
   have GB : Hid (Below wr.heap.size wr D23) := by unfold Hid;rw [← hD];exact (Below.refl _ _).drew
   rw [hD];clear hD;refine ziA [(0,(shv p N (.slice (some ⟨LA,0,none⟩) r lcap))),(1,(.slice (some ⟨g',0,none⟩) N cap')),(2,(.slice (some ⟨g',0,none⟩) N cap')),(3,(.int .i64 (c1 : Int))),(4,(.pointer (some ⟨g',c1,none⟩))),(5,(.int .u64 t)),(6,(.pointer (some ⟨sb,2,none⟩))),(7,(.slice (some ⟨LA,0,none⟩) r lcap)),(8,(.int .i64 (i : Int))),(9,(.pointer (some ⟨LA,i,none⟩))),(10,(rowv N gi))] 11 ?_ (KB.out _ GB.out) ?_
   ·simp only [zpB,gA9,g09,g19,Act.put,sI9,s09,s19]
    (repeat' (first | exact trivial | refine And.intro (Or.inl ⟨by rfl,?_⟩) ?_)) <;> (intro w hSw;(try dsimp only at hSw);go_simp)
   simp only [actV,gA9,g09,g19,Act.put,sI9,s09,s19];refine zCA (i := 11) (o := ⟨some 58,.call { callee := .value (.func 27),args := #[.tmp 47,.tmp 48,.tmp 52,.tmp 57],argTypes := #[54,42,25,42] },0, "modp.go:81",#[⟨0,.data⟩,⟨1,.data⟩,⟨5,.data⟩,⟨10,.data⟩],none⟩) (by kernel_rfl) rfl (fun K hK => ?_);go_simp;go_at_call 27;have CT : Calls Tryz.prog 27 #[(shv p N (.slice (some ⟨LA,0,none⟩) r lcap)),(.slice (some ⟨g',0,none⟩) N cap'),.int .u64 t,rowv N gi] D23 (fun e w' => e = .returned (.tuple #[]) ∧ SvH V g' rk X ext (rk - (i + 1)) (.int .i64 ((i + 1 : Nat) : Int)) w') := by
    by_cases ht0 : t = 0
    ·subst ht0
     refine zeC.mono fun e w' h => ⟨h.1,i + 1,rfl,by omega,rfl,?_,below_step (below_step GX.out GB.out) h.2⟩
     rw [ESC.out,show tkL p 0 (X i) (rowE S.m i) = X i by unfold tkL;rw [if_pos rfl]];exact (ROW.out.stay GB.out).stay h.2
    ·refine (zfC (r := ext) (r2 := []) hp1 hp2 rt1 ht0 (HSR.out i) (OKS.out.res.at i) HXL2.out qi4 (by have := HNN.out;omega) (by have := HCP.out;have := HNN.out;omega) (Nat.le_refl _) (ROW.out.stay GB.out) (Row.nil12.2 (ROWI.out.stay GB.out)) hgne).mono ?_
     rintro e w' ⟨rfl,hrow,hT⟩;refine ⟨rfl,i + 1,rfl,by omega,rfl,?_,touch_below (below_step GX.out GB.out) hT GE2.out (below_step GX.out GB.out).size⟩;rw [ESC.out];exact hrow
   refine CT.mono ?_;rintro e w7 ⟨rfl,hN⟩;have HN1 := hid hN;clear CT hN ROW GX GB KB ROWI ESC s0 s1 s2 li xc rt1 qi4 hgne;refine hK.out _ _ (fun h => absurd h (by decide)) ?_;clear hK
   try simp only [Act.put]
   refine zFA (by kernel_rfl) ?_ _;go_wp2_with fail;go_roundg (rk - (i + 1))
   case rel => exact HN1.out
   case measure => exact HMM.out
  ·have hlt' : ¬ (i : Int) < (rk : Int) := by omega
   obtain rfl : i = rk := by omega
   rw [HSE.out] at ROW;have hcap' := HCP.out;rw [HNN.out] at hcap';have hcN : c ≤ N := by have := HNN.out;omega
   have hslc := sliceW_low g' N cap' c hcN hcap';obtain ⟨a2,cap2,htop,hc2,ha2⟩ := sliceW_top g' N cap' c hcN hcap';have hNc : N - c = r := by have := HNN.out;omega
   rw [hNc] at htop hc2 ha2;have HA2 := hid ha2;have x1 := (P1V.out.step GX.out).at (i := 1) rfl;have HCN := hid (containsNz12 (n := c) (cap := cap') ROW.out (by rw [HEN.out];exact hcN) (by omega));have GW := hid (below_step G2.out GX.out);clear HG ha2 hlt' hlt hin
   as_aux_lemma =>
   go_wp2_with fail;refine HCN.out.mono ?_;rintro e w8 ⟨bq,rfl,hb0,hb1,rfl⟩;cases bq with
   | true =>
    have FIN := hid (hb1 rfl);clear hb0 hb1 HCN;go_wp2;go_ret2;exact .inl ⟨FIN.out,rfl,GW.out⟩
   | false =>
    have FIN := hid (hb0 rfl);have H2 : Hid (SvH V g' r (mnS p c R) ext r (.int .i64 0) w8) := ⟨0,rfl,Nat.zero_le _,rfl,ROW.out,GX.out⟩
    clear hb0 hb1 HCN ROW GX;go_wp2_with fail
    go_loopg [71] r (fun gk s71 wx => SvH V g' r (mnS p c R) ext gk s71 wx)
    case atStart => exact H2.out
    case round =>
     clear H2;obtain ⟨i,rfl,hin,hg,hrow,hbx⟩ := hrel;have ROW := hid hrow;have GX := hid hbx;have HG := hid hg;clear hrow hbx hg
     by_cases hlt : i < r
     ·have hlt' : (i : Int) < (r : Int) := by omega
      obtain rfl : a2 = some ⟨g',c,none⟩ := HA2.out (by omega);have hwi := zkA (i := i) (by omega);obtain ⟨x,hx⟩ : ∃ x,R.getD (c + i) 0 = x := ⟨_,rfl⟩
      have rx : IsR p x := by rw [← hx];exact HER.out.getD (by omega) _
      have hRl : c + i < R.length := by rw [HEN.out];have := HNN.out;omega
      have hcl : c + i < (mnS p c R i).length := by rw [zgC];exact hRl
      have xc := ROW.out.at12 hcl;have ex : (mnS p c R i)[c + i]'hcl = x := by
       have e := zcH (p := p) (c := c) hRl i;rw [if_neg (by omega),hx,List.getD_eq_getElem?_getD,List.getElem?_eq_getElem hcl] at e;exact e
      rw [ex] at xc;have s0 := cnow GX.out (PBV.out.at (i := 0) rfl);have s1 := cnow GX.out (PBV.out.at (i := 1) rfl);have s2 := cnow GX.out (PBV.out.at (i := 2) rfl);have HMI := hid (zdH (w := wr) (c := N) (a := la) (l := r) (k := lcap) hp1 hp2 rx);obtain ⟨y,hy⟩ : ∃ y,((p : Int) - x) % (p : Int) = y := ⟨_,rfl⟩
      rw [hy] at HMI;have HST : Hid (mnS p c R (i + 1) = (mnS p c R i).set (c + i) y) := by
       unfold Hid;rw [← hy,← hx]
       rfl
      have HMM : Hid (r - (i + 1) < gk) := by unfold Hid;rw [HG.out];omega
      have HCL := hid hcl;clear hx hRl hcl ex hy HG;go_wp2_with fail;refine HMI.out.mono ?_;rintro e w9 ⟨rfl,b⟩;have ROW9 := hid (ROW.out.stay b);have f1 := ROW9.out.frozen (c + i);have x9 := cnow b xc;have HN1 : Hid (SvH V g' r (mnS p c R) ext (r - (i + 1)) (.int .i64 ((i + 1 : Nat) : Int)) (w9.setCell ⟨g',c + i,none⟩ (.int .u64 y))) :=
       ⟨i + 1,rfl,by omega,rfl,by rw [HST.out];exact ROW9.out.put12 HCL.out _,bset (below_step GX.out b) GE2.out⟩
      clear HMI ROW ROW9 b s0 s1 s2 xc GX;go_wp2_with fail;go_roundg (r - (i + 1))
      case rel => exact HN1.out
      case measure => exact HMM.out
     ·have hlt' : ¬ (i : Int) < (r : Int) := by omega
      obtain rfl : i = r := by omega
      have hle : (mnS p c R i).length = N := by rw [zgC,HEN.out]
      have RWX : Hid (Rw wr (.slice a2 i cap2) SX) := by
       refine ⟨a2,cap2,by rw [HXL.out],by rw [HXL.out];exact hc2,fun h0 => ?_⟩;rw [HXL.out] at h0;refine ⟨g',c,HA2.out h0,ROW.out.lt,fun j hj => ?_⟩;have hj2 : j < i := by have := HXL.out;omega
       have hjN : c + j < (mnS p c R i).length := by rw [hle];have := HNN.out;omega
       have q := ROW.out.at12 hjN;have e : (mnS p c R i)[c + j]'hjN = SX[j] := by
        have h3 : (mnS p c R i)[c + j]? = SX[j]? := by rw [← HXD.out,List.getElem?_drop]
        rw [List.getElem?_eq_getElem hjN,List.getElem?_eq_getElem hj] at h3;exact Option.some.inj h3
       rw [e] at q;exact q
      have HIN := hid (ziE RWX.out HXR.out hp2 (by rw [HXL.out];omega));have GF := hid (below_step G2.out GX.out);clear RWX ROW HG hle;go_wp2_with fail;refine HIN.out.mono ?_;rintro e w9 ⟨u,ps,rfl,h1,h2,b⟩;have FI2 : Hid ((∀ j,j < c → R.getD j 0 = 0) ∧ ∃ u' ps,Ending.returned (.tuple #[u,.int .i64 0]) = .returned (.tuple #[u',.int .i64 0]) ∧ PrsT w9 u' ps ∧ Zms w9 ps SX 1 ∧ Below w.heap.size w w9) := ⟨FIN.out,u,ps,rfl,h1,h2,below_step GF.out b⟩
      clear HIN h1 h2 b FIN GF;go_wp2;go_ret2;exact .inr FI2.out
theorem zdF {w : World} {p : Nat} : Calls Tryz.prog 6 #[.int .u64 (p : Int)] w fun e w' => e = .returned (.bool (gdB p)) ∧ w' = w := by
 by_cases h : p < 2 ∨ 2147483648 ≤ p
 ·have e : gdB p = false := by
   unfold gdB;rcases h with h | h
   ·rw [zIC (fun q => by have := q.1;omega)];simp
   ·simp;omega
  rw [e];exact lawPrime_no h
 ·have e : gdB p = prB p := by unfold gdB;simp [show p < 2147483648 by omega]
  rw [e];exact lawPrime_any (by omega) (by omega)
theorem zXG {w : World} {r c : Int} {a : Option Addr} {l cap : Nat} {s : Bool} (hl : l ≤ 1048576) (hs : s = true ↔ Snd r c l) : Calls Tryz.prog 5 #[mrV r c a l cap] w fun e w' => e = .returned (.bool s) ∧ Below w.heap.size w w' := by
 refine (sound12 hl).mono ?_;rintro e w' ⟨b,rfl,hb,bb⟩;have : b = s := by
  rcases Bool.eq_false_or_eq_true s with q | q
  ·rw [q,hb];exact hs.1 q
  ·rw [q]
   rcases Bool.eq_false_or_eq_true b with q2 | q2
   ·have := hs.2 (hb.1 q2);rw [q] at this;cases this
   ·exact q2
 subst this;exact ⟨rfl,bb⟩
end Go.Proofs.YtkklldokdnfkgaaGreat
