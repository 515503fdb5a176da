import Derived.Test.YtbcgggadelnaaaaGreatQSm18ToLw21
import Derived.Test.YtbcgggadelnaaaaGreatQSt18ToIo18
import Derived.Test.YtbcgggadelnaaaaGreatQMat11ToHw18
set_option maxRecDepth 100000
set_option maxHeartbeats 6400000
set_option linter.unusedVariables false
set_option linter.unusedSimpArgs false
namespace Go.Proofs.YtbcgggadelnaaaaGreat
open Go.RowKit
theorem row0_21 {w : World} {m i c : Nat} {a : Option Addr} (hi : i < m) (hm : m ≤ 64) (ha : a = none → c = 0) :
  Calls Tryz.prog 35 #[.agg #[.int .i64 (m : Int),.int .i64 0,.slice a 0 c],.int .i64 (i : Int)] w fun e w' => (∃ v,e = .returned v) ∧ Below w.heap.size w w' := by
 obtain ⟨W0,hW⟩ : ∃ W0,w.alloc (.cells #[.int .i64 (m : Int),.int .i64 0,.slice a 0 c] 24) = W0 := ⟨_,rfl⟩
 obtain ⟨b0,sz0⟩ := alo1 w (.cells #[.int .i64 (m : Int),.int .i64 0,.slice a 0 c] 24);rw [hW] at b0 sz0;have dA : Cel W0 w.heap.size 24 [.int .i64 (m : Int),.int .i64 0,.slice a 0 c] := by rw [← hW];exact Cel.new w _ _
 have x1 := dA.at (i := 1) rfl;have x2 := dA.at (i := 2) rfl;have hwi := zWA (i := i) (by omega);have FF := hid b0;have EW := hid hW;obtain ⟨bx,hbx⟩ : ∃ bx,w.heap.size = bx := ⟨_,rfl⟩
 rw [hbx] at x1 x2;have EBX := hid hbx;clear b0 sz0 hW dA hbx;cases a with
 | none =>
  obtain rfl := ha rfl;go_enter Tryz.func35,Tryz.ntmps35;go_upto_region 1 with fail
  rw [EW.out,EBX.out];clear EW EBX;go_wp2;go_ret;exact ⟨⟨_,rfl⟩,FF.out⟩
 | some p =>
  clear ha
  by_cases hc : c = 0
  ·subst hc
   go_enter Tryz.func35,Tryz.ntmps35;go_upto_region 1 with fail
   rw [EW.out,EBX.out];clear EW EBX;go_wp2;go_ret;exact ⟨⟨_,rfl⟩,FF.out⟩
  ·go_enter Tryz.func35,Tryz.ntmps35
   go_upto_region 1 with fail
   rw [EW.out,EBX.out];clear EW EBX;go_wp2;go_ret;exact ⟨⟨_,rfl⟩,FF.out⟩
def zKH (w : World) (m q : Nat) (γ : Nat → Nat) (gk : Nat) (s4 s5 s6 : Value) (wx : World) : Prop :=
 ∃ (i rk : Nat) (ls : Int),s6 = .int .i64 (i : Int) ∧ i ≤ m ∧ gk = m - i ∧ s4 = .int .i64 (rk : Int) ∧ s5 = .int .i64 ls ∧ (rk = if i < q then i else q) ∧ (rk = 0 ∧ ls = -1 ∨ 0 < rk ∧ ls = (γ (rk - 1) : Int)) ∧ Below w.heap.size w wx
def zII (W : World) (n ga gk : Nat) (s8 : Value) (wx : World) : Prop := ∃ a : Nat,s8 = .int .i64 (a : Int) ∧ a ≤ ga ∧ gk = n - a ∧ Below W.heap.size W wx
def zHI (W : World) (i gk : Nat) (s9 : Value) (wx : World) : Prop := ∃ k : Nat,s9 = .int .i64 (k : Int) ∧ k ≤ i ∧ gk = i - k ∧ Below W.heap.size W wx
theorem hermite21 {w : World} {v : Value} {m n q k : Nat} {γ : Nat → Nat} {X : Nat → Nat → Int} (h : Mc w v m n (zG18 m n X) k) (hE : Ec18 n m q id γ X) (hR : Rd18 0 q id γ X) (hZ : ∀ t,q ≤ t → t < m → ∀ j,j < n → X t j = 0) :
  Calls Tryz.prog 11 #[v] w fun e w' => e = .returned (.tuple #[.int .i64 (q : Int),.bool true]) ∧ Below w.heap.size w w' := by
 have hqm := hE.rows21;obtain ⟨at_,ps,rfl,p1,p2,p3,hm,hn⟩ := h;have hpl : ps.length = m * n := by rw [p2.1,p3]
 obtain ⟨a,c,rfl,hc,-,hac,hf⟩ := p1.form;dsimp only [matv];have HROW : Hid (∀ w' i,i < m → Calls Tryz.prog 35 #[.agg #[.int .i64 (m : Int),.int .i64 (n : Int),.slice a ps.length c],.int .i64 (i : Int)] w' fun e w'' => ∃ rv,e = .returned rv ∧ (0 < n → ∃ b off c',a = some ⟨b,off,none⟩ ∧ rv = .slice (some ⟨b,off + 2 * (i * n),none⟩) n c' ∧ n ≤ c') ∧ Below w'.heap.size w' w'') := fun w' i hi => by
  by_cases hn0 : 0 < n
  ·have hmn : 0 < m * n := Nat.mul_pos (by omega) hn0
   obtain ⟨b,off,rfl,-,-⟩ := hf (fun e => by rw [e] at hpl;simp at hpl;omega);refine (row21 (l := ps.length) hi hn0 hm hn (by omega)).mono fun e w'' ⟨c',h1,h2,h3⟩ => ⟨_,h1,fun _ => ⟨b,off,c',rfl,rfl,h2⟩,h3⟩
  ·obtain rfl : n = 0 := by omega
   have hl0 : ps.length = 0 := by rw [hpl];simp
   rw [hl0];exact (row0_21 hi hm hac).mono fun e w'' ⟨⟨rv,h1⟩,h2⟩ => ⟨rv,h1,fun q => absurd q (by omega),h2⟩
 have HEL : Hid (∀ b off,a = some ⟨b,off,none⟩ → ∀ wx,Below w.heap.size w wx → ∀ i j,i < m → j < n → ∃ nb aa ll cc,wx.cell? ⟨b,off + 2 * (i * n) + j * 2,none⟩ = some (.bool nb) ∧ wx.cell? ⟨b,off + 2 * (i * n) + j * 2 + 1,none⟩ = some (.slice aa ll cc) ∧ Zc wx (.agg #[.bool nb,.slice aa ll cc]) (X i j) k) := fun b off ea wx hb i j hi hj => by
  subst ea;have hl := zsC hi hj;obtain ⟨nb,xs,aa,cc,e1,e2,z⟩ := (p2.now hb).at9 (p1.now hb) (i := i * n + j) (by rw [p3];exact hl);have e3 : (zG18 m n X)[i * n + j]'(by rw [p3];exact hl) = X i j := by
   have := zuB (F := X) hi hj;unfold en18 at this;rw [← this,List.getD_eq_getElem?_getD,List.getElem?_eq_getElem (by rw [p3];exact hl)]
   rfl
  rw [e3] at z;have e4 : off + (i * n + j) * 2 = off + 2 * (i * n) + j * 2 := by rw [Nat.add_mul];omega
  rw [e4] at e1 e2;exact ⟨nb,aa,xs.length,cc,e1,e2,z⟩
 obtain ⟨la,hla⟩ : ∃ la,ps.length = la := ⟨_,rfl⟩
 have HLA : Hid (la = m * n) := by unfold Hid;rw [← hla];exact hpl
 rw [hla] at HROW ⊢;obtain ⟨W0,hW⟩ : ∃ W0,w.alloc (.cells #[.int .i64 (m : Int),.int .i64 (n : Int),.slice a la c] 24) = W0 := ⟨_,rfl⟩
 obtain ⟨b0,sz0⟩ := alo1 w (.cells #[.int .i64 (m : Int),.int .i64 (n : Int),.slice a la c] 24);rw [hW] at b0 sz0;have DA : Hid (Cel W0 w.heap.size 24 [.int .i64 (m : Int),.int .i64 (n : Int),.slice a la c]) := by unfold Hid;rw [← hW];exact Cel.new w _ _
 have HE := hid hE;have HR := hid hR;have HZ := hid hZ;have HQM := hid hqm;have HPL := hid (show m * n ≤ c by omega);have B0 := hid b0;have EW := hid hW;have H0 : Hid (zKH W0 m q γ m (.int .i64 0) (.int .i64 (-1)) (.int .i64 0) W0) := ⟨0,0,-1,rfl,Nat.zero_le _,by omega,rfl,rfl,by split <;> omega,.inl ⟨rfl,rfl⟩,Below.refl _ _⟩
 obtain ⟨bx,hbx⟩ : ∃ bx,w.heap.size = bx := ⟨_,rfl⟩
 rw [hbx] at DA;have EBX := hid hbx;clear p1 p2 p3 hpl hc hac hf hla hE hR hZ hqm b0 sz0 hW hbx;go_enter Tryz.func11,Tryz.ntmps11;go_upto_region 1 with fail
 rw [EW.out,EBX.out];go_wp2_with fail
 go_loopg [4,5,6] m (fun gk s4 s5 s6 wx => zKH W0 m q γ gk s4 s5 s6 wx)
 case atStart => exact H0.out
 case round =>
  clear H0;obtain ⟨i,rk,ls,rfl,him,hgk,rfl,rfl,hrk,hls,hG⟩ := hrel;have G := hid hG;have DR := hid (DA.out.step G.out);have x0 := DR.out.at (i := 0) rfl;have HRK := hid hrk;have HLS := hid hls;have HG := hid hgk;clear hrk hls hG hgk
  by_cases hlt : i < m
  ·have hlt' : (i : Int) < (m : Int) := by omega
   have x1 := DR.out.at (i := 1) rfl;have x2 := DR.out.at (i := 2) rfl;have HRW := hid (HROW.out wr i hlt);have HMM : Hid (m - (i + 1) < gk) := by unfold Hid;rw [HG.out];omega
   have hwi := zWA (i := i) (by omega);clear HG;go_wp2_with fail;refine HRW.out.mono ?_;rintro e w2 ⟨rv,rfl,hrv,b⟩;replace G := hid (below_step G.out b);replace DR := hid (DR.out.step b);clear HRW b x0 x1 x2;have x1 := DR.out.at (i := 1) rfl
   by_cases hn0 : 0 < n
   ·obtain ⟨b,off,c',rfl,rfl,hc'⟩ := hrv hn0
    have HCC := hid hc';obtain ⟨ga,hga⟩ : ∃ ga,ga = if i < q then γ i else n := ⟨_,rfl⟩
    have HGN : Hid (ga ≤ n) := by
     unfold Hid;rw [hga]
     split
     ·have := HE.out.cl i (by assumption);omega
     ·exact Nat.le_refl _
    have HGZ : Hid (∀ j,j < ga → X i j = 0) := fun j hj => by
     rw [hga] at hj
     by_cases q1 : i < q
     ·rw [if_pos q1] at hj;exact HE.out.zero i j q1 hj
     ·rw [if_neg q1] at hj;exact HZ.out i (by omega) hlt j hj
    have HGA := hid hga;have EL := hid (HEL.out b off rfl);obtain ⟨ro,hro⟩ : ∃ ro,off + 2 * (i * n) = ro := ⟨_,rfl⟩
    have ERO := hid hro;rw [hro];have J0 : Hid (zII w2 n ga n (.int .i64 0) w2) := ⟨0,rfl,Nat.zero_le _,rfl,Below.refl _ _⟩
    clear hrv hga hro hc';go_wp2_with fail;clear x1
    go_loopg [8] n (fun gk s8 wx => zII w2 n ga gk s8 wx)
    case atStart => exact J0.out
    case round =>
     clear J0;obtain ⟨a,rfl,haga,hgk2,hG2⟩ := hrel;have G2 := hid hG2;have DR2 := hid (DR.out.step G2.out);have x1 := DR2.out.at (i := 1) rfl;have HG2 := hid hgk2;clear hG2 hgk2
     by_cases hag : a < ga
     ·have han : a < n := by have := HGN.out;omega
      have han' : (a : Int) < (n : Int) := by omega
      obtain ⟨nb,aa,ll,cc,e0,e1,z⟩ := EL.out wr (below_step B0.out (below_step G.out G2.out)) i a hlt han;rw [HGZ.out a hag] at z;have HIZ := hid (zLG z);rw [show decide ((0 : Int) = 0) = true by decide] at HIZ;rw [ERO.out] at e0 e1;have hwa := zWA (i := a) (by omega);have HM2 : Hid (n - (a + 1) < gk) := by unfold Hid;rw [HG2.out];omega
      have hcn : (n : Int) ≤ (c' : Int) := by have := HCC.out;omega
      clear z HG2;go_wp2_with fail;refine HIZ.out.mono ?_;rintro e w3 ⟨rfl,hb3⟩;have J1 : Hid (zII w2 n ga (n - (a + 1)) (.int .i64 ((a + 1 : Nat) : Int)) w3) := ⟨a + 1,rfl,by omega,rfl,below_step G2.out hb3⟩
      clear HIZ hb3 e0 e1 x1 DR2 G2;go_wp2_with fail;go_roundg (n - (a + 1))
      case rel => exact J1.out
      case measure => exact HM2.out
     ·obtain rfl : a = ga := by omega
      clear HG2
      by_cases hiq : i < q
      ·have hg : a = γ i := by have := HGA.out;rwa [if_pos hiq] at this
       have han : a < n := by have := HE.out.cl i hiq;omega
       have han' : (a : Int) < (n : Int) := by omega
       have hane : ¬ (a : Int) = (n : Int) := by omega
       have hane2 : ¬ a = n := by omega
       have hpos : 0 < X i a := by have := HE.out.pos i hiq;simp only [id] at this;rw [hg];exact this
       obtain ⟨nb,aa,ll,cc,e0,e1,z⟩ := EL.out wr (below_step B0.out (below_step G.out G2.out)) i a hlt han;obtain ⟨hnb,-⟩ := z.neg21;rw [show decide (X i a < 0) = false from decide_eq_false (by omega)] at hnb;subst hnb;have HIZ := hid (zLG z);rw [show decide (X i a = 0) = false from decide_eq_false (by omega)] at HIZ;rw [ERO.out] at e0 e1;have hrk : rk = i := by have := HRK.out;rwa [if_pos hiq] at this
       have hla : ¬ (a : Int) ≤ ls := by
        rcases HLS.out with ⟨h1,h2⟩ | ⟨h1,h2⟩
        ·omega
        ·have := HE.out.up (rk - 1) i (by omega) hiq
         omega
       subst hrk;have hcn : (n : Int) ≤ (c' : Int) := by have := HCC.out;omega
       have HGG := hid hg;have HIQ := hid hiq;clear z hg hiq;go_wp2_with fail;refine HIZ.out.mono ?_;rintro e w3 ⟨rfl,hb3⟩;have G3 := hid (below_step G2.out hb3);have DR3 := hid (DR2.out.step hb3);replace e0 := cnow hb3 e0;replace e1 := cnow hb3 e1;clear HIZ hb3 x1 DR2 G2;have x1 := DR3.out.at (i := 1) rfl;have K0 : Hid (zHI w3 rk rk (.int .i64 0) w3) := ⟨0,rfl,Nat.zero_le _,rfl,Below.refl _ _⟩
       go_wp2_with fail;clear x1 e0 e1
       go_loopg [9] rk (fun gk s9 wx => zHI w3 rk gk s9 wx)
       case atStart => exact K0.out
       case round =>
        clear K0;obtain ⟨t,rfl,hti,hgk3,hG4⟩ := hrel;have G4 := hid hG4;have DR4 := hid (DR3.out.step G4.out);have HG3 := hid hgk3;clear hG4 hgk3
        by_cases htl : t < rk
        ·have htl' : (t : Int) < (rk : Int) := by omega
         have htm : t < m := by omega
         have x1 := DR4.out.at (i := 1) rfl;have x2 := DR4.out.at (i := 2) rfl;have hbl := below_step B0.out (below_step G.out (below_step G3.out G4.out));obtain ⟨nb,aa,ll,cc,e0,e1,z⟩ := EL.out wr hbl t a htm han;obtain ⟨nv,av,lv,cv,v0,v1,zv⟩ := EL.out wr hbl rk a hlt han;have hred := HR.out t rk (Nat.zero_le _) htl HIQ.out;simp only [id] at hred;rw [← HGG.out] at hred;obtain ⟨hnb,-⟩ := z.neg21;rw [show decide (X t a < 0) = false from decide_eq_false (by omega)] at hnb;subst hnb;have hm0 := zqB (i := t) (c := n) (by omega) hn;have hixl : t * n + a < m * n := zsC htm han;obtain ⟨lo,hlo⟩ : ∃ lo,t * n = lo := ⟨_,rfl⟩
         rw [hlo] at hm0 hixl e0 e1;obtain ⟨ix,hix⟩ : ∃ ix,lo + a = ix := ⟨_,rfl⟩
         rw [hix] at hixl;have hmn : m * n ≤ 64 * 64 := Nat.mul_le_mul hm hn;have ha0 : IntKind.i64.wrap ((lo : Int) + (a : Int)) = (ix : Int) := by rw [zbA] <;> omega
         have hixN : (ix : Int) < (la : Int) := by have := HLA.out;omega
         rw [show off + 2 * lo + a * 2 = off + ix * 2 by omega] at e0 e1;rw [ERO.out] at v0 v1;obtain ⟨V5,hV5⟩ : ∃ V5,wr.alloc (duo (.bool false) (.slice aa ll cc)) = V5 := ⟨_,rfl⟩
         obtain ⟨bv,sv⟩ := alo1 wr (duo (.bool false) (.slice aa ll cc));rw [hV5] at bv sv;have dV : Duo V5 wr.heap.size (.bool false) (.slice aa ll cc) := by rw [← hV5];exact Duo.new wr _ _
         have HCM := hid (show ∀ w',Below V5.heap.size V5 w' → Calls Tryz.prog 37 #[.agg #[.bool false,.slice aa ll cc],.agg #[.bool nv,.slice av lv cv]] w' fun e w'' => e = .returned (.int .i64 (-1)) ∧ Below w'.heap.size w' w'' from fun w' hb => by
          have q := zSI ((z.now bv).now hb).zi ((zv.now bv).now hb).zi;rw [show cmpI (X t a) (X rk a) = -1 by unfold cmpI;split <;> (try split) <;> omega] at q;exact q)
         have hwt := zWA (i := t) (by omega);have HM3 : Hid (rk - (t + 1) < gk) := by unfold Hid;rw [HG3.out];omega
         have v2 := cnow bv v0;have v3 := cnow bv v1;have d0 := dV.c0;have d1 := dV.c1;have GV := hid (below_step G4.out bv);have EV := hid hV5;obtain ⟨bz,hbz⟩ : ∃ bz,wr.heap.size = bz := ⟨_,rfl⟩
         rw [hbz] at d0 d1;have EBZ := hid hbz;have hcn : (n : Int) ≤ (c' : Int) := by have := HCC.out;omega
         clear z zv hbl hred HG3 hlo hix bv sv hV5 dV v0 v1 hbz DR4 G4 hixl hmn;go_upto_region 16 with fail
         rw [EV.out,EBZ.out];clear EV EBZ e0 e1 x1 x2;go_wp2_with fail;have KB : Hid (∀ w',Below V5.heap.size V5 w' → w'.cell? ⟨bz,0,none⟩ = some (.bool false) ∧ w'.cell? ⟨bz,1,none⟩ = some (.slice aa ll cc) ∧ w'.cell? ⟨b,ro + a * 2,none⟩ = some (.bool nv) ∧ w'.cell? ⟨b,ro + a * 2 + 1,none⟩ = some (.slice av lv cv)) := fun w' h => ⟨cnow h d0,cnow h d1,cnow h v2,cnow h v3⟩
         refine zEA (fun w' => w'.cell? ⟨bz,0,none⟩ = some (.bool false) ∧ w'.cell? ⟨bz,1,none⟩ = some (.slice aa ll cc) ∧ w'.cell? ⟨b,ro + a * 2,none⟩ = some (.bool nv) ∧ w'.cell? ⟨b,ro + a * 2 + 1,none⟩ = some (.slice av lv cv)) 10 (by kernel_rfl) ?_;obtain ⟨D1,hD⟩ : ∃ D1,V5.drew = D1 := ⟨_,rfl⟩
         have GB : Hid (Below V5.heap.size V5 D1) := by unfold Hid;rw [← hD];exact (Below.refl _ _).drew
         rw [hD];clear hD;refine zFA [(0,(.pointer (some ⟨bz,0,none⟩))),(1,(.bool false)),(2,(.bool false)),(3,(.agg #[.bool false,.slice aa ll cc])),(4,(.slice (some ⟨b,ro,none⟩) n c')),(5,(.int .i64 (a : Int))),(6,(.pointer (some ⟨b,ro + a * 2,none⟩))),(7,(.agg #[.bool nv,.slice av lv cv]))] 8 ?_ (KB.out _ GB.out) ?_
         ·simp only [zNA,gA9,g09,g19,Act.put,sI9,s09,s19]
          (repeat' (first | exact trivial | refine And.intro (Or.inl ⟨by rfl,?_⟩) ?_)) <;> (intro w hSw;(try dsimp only at hSw);go_simp)
         simp only [actV,gA9,g09,g19,Act.put,sI9,s09,s19];refine zAA (i := 8) (o := ⟨some 75,.call { callee := .value (.func 37),args := #[.tmp 70,.tmp 74],argTypes := #[51,51] },3, "top18.go:28",#[⟨3,.data⟩,⟨7,.data⟩,⟨2,.chain⟩,⟨2,.guard⟩],some (2,false)⟩) (by kernel_rfl) rfl (fun K hK => ?_);go_simp;go_at_call 37;refine (HCM.out _ GB.out).mono ?_;rintro e w2 ⟨rfl,b⟩;have lz2 := (show Below _ _ _ from b).size;replace GB := hid (below_step GB.out b);have J1 : Hid (zHI w3 rk (rk - (t + 1)) (.int .i64 ((t + 1 : Nat) : Int)) w2) := ⟨t + 1,rfl,by omega,rfl,below_step GV.out GB.out⟩
         clear b;refine hK.out _ _ (fun _ => KB.out _ GB.out) ?_;clear hK;refine zFA [(9,(.bool false))] 1 ?_ (KB.out _ GB.out) ?_
         ·simp only [zNA,gA9,g09,g19,Act.put,sI9,s09,s19]
          (repeat' (first | exact trivial | refine And.intro (Or.inl ⟨by rfl,?_⟩) ?_)) <;> (intro w hSw;(try dsimp only at hSw);go_simp)
         simp only [actV,gA9,g09,g19,Act.put,sI9,s09,s19];refine zAA (i := 10) (o := ⟨some 77,.pick (.tmp 69) (.const (.bool true)) (.tmp 76),4, "top18.go:28",#[⟨2,.data⟩,⟨9,.data⟩],none⟩) (by kernel_rfl) rfl (fun K hK => ?_);go_simp;refine hK.out _ _ (fun h => absurd h (by decide)) ?_;clear hK
         try simp only [Act.put]
         refine zDA (by kernel_rfl) ?_ _;clear GB KB HCM GV d0 d1 v2 v3;go_wp2_with fail;go_roundg (rk - (t + 1))
         case rel => exact J1.out
         case measure => exact HM3.out
        ·have htl' : ¬ (t : Int) < (rk : Int) := by omega
         have N1 : Hid (zKH W0 m q γ (m - (rk + 1)) (.int .i64 ((rk + 1 : Nat) : Int)) (.int .i64 (a : Int)) (.int .i64 ((rk + 1 : Nat) : Int)) wr) := ⟨rk + 1,rk + 1,_,rfl,by omega,rfl,rfl,rfl,by have := HIQ.out;split <;> omega,.inr ⟨by omega,by rw [HGG.out];rfl⟩,below_step G.out (below_step G3.out G4.out)⟩
         clear HG3 G4 DR4;go_wp2_with fail;go_roundg (m - (rk + 1))
         case rel => exact N1.out
         case measure => exact HMM.out
      ·have hg : a = n := by have := HGA.out;rwa [if_neg hiq] at this
       subst hg;have N1 : Hid (zKH W0 m q γ (m - (i + 1)) (.int .i64 (rk : Int)) (.int .i64 ls) (.int .i64 ((i + 1 : Nat) : Int)) wr) := ⟨i + 1,rk,ls,rfl,by omega,rfl,rfl,rfl,by have := HRK.out;rw [if_neg hiq] at this;rw [if_neg (by omega)];exact this,HLS.out,below_step G.out G2.out⟩
       clear G2 DR2 hag haga hiq;go_wp2_with fail;go_roundg (m - (i + 1))
       case rel => exact N1.out
       case measure => exact HMM.out
   ·obtain rfl : n = 0 := by omega
    have N1 : Hid (zKH W0 m q γ (m - (i + 1)) (.int .i64 (rk : Int)) (.int .i64 ls) (.int .i64 ((i + 1 : Nat) : Int)) w2) := ⟨i + 1,rk,ls,rfl,by omega,rfl,rfl,rfl,by
     have hq0 : q = 0 := Nat.eq_zero_of_not_pos fun hq => by have := HE.out.cl 0 hq;omega
     have := HRK.out;rw [if_neg (by omega)] at this ⊢;exact this,HLS.out,G.out⟩
    clear hrv G hn0;go_wp2_with fail
    go_loopw [8] (fun s8 wx => s8 = .int .i64 0 ∧ wx = w2) (fun _ _ => 0)
    case atStart => exact ⟨rfl,rfl⟩
    case round =>
     obtain ⟨rfl,hw⟩ := hrel;rw [hw];clear hw;go_wp2_with fail;go_roundg (m - (i + 1))
     case rel => exact N1.out
     case measure => exact HMM.out
  ·have hlt' : ¬ (i : Int) < (m : Int) := by omega
   obtain rfl : i = m := by omega
   have hrk : rk = q := by
    have hr := HRK.out;have := HQM.out
    by_cases q1 : i < q
    ·omega
    ·rw [if_neg q1] at hr;exact hr
   subst hrk;have FF := hid (below_step B0.out G.out);clear G HG HRK HLS DR;go_wp2;go_ret2;exact ⟨rfl,FF.out⟩
end Go.Proofs.YtbcgggadelnaaaaGreat
