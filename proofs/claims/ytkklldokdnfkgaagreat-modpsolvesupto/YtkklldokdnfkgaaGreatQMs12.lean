import Derived.Test.YtkklldokdnfkgaaGreatQSn12ToStk12
import Derived.Test.YtkklldokdnfkgaaGreatQRm12ToTailL
import Derived.Test.YtkklldokdnfkgaaGreatQKe12ToDWords
import Derived.Test.YtkklldokdnfkgaaGreatQLe12ToTrim3
import Derived.Test.YtkklldokdnfkgaaGreatQZr12
import Derived.Test.YtkklldokdnfkgaaGreatQCa12ToWq12
import Derived.Test.YtkklldokdnfkgaaGreatQMt12ToDt12
set_option maxRecDepth 100000
set_option maxHeartbeats 6400000
set_option linter.unusedVariables false
set_option linter.unusedSimpArgs false
namespace Go.Proofs.YtkklldokdnfkgaaGreat
open Go.RowKit
theorem Zl.more12 {w : World} {v : Value} {zs : List Int} {k l : Nat} (h : Zl w v zs k) (hl : k ≤ l) : Zl w v zs l := by
 obtain ⟨a,c,h1,h2,h3,h4⟩ := h;refine ⟨a,c,h1,h2,h3,?_⟩;rcases h4 with h4 | ⟨b,off,h5,h6,h7⟩
 ·exact .inl h4
 ·refine .inr ⟨b,off,h5,h6,fun j hj => ?_⟩
  obtain ⟨x,y,q1,q2,q3⟩ := h7 j hj;exact ⟨x,y,q1,q2,q3.more hl⟩
def MsI (W1 : World) (r gk : Nat) (s : Value) (wx : World) : Prop := ∃ i : Nat,s = .int .i64 (i : Int) ∧ i ≤ r ∧ gk = r - i ∧ Below W1.heap.size W1 wx
theorem modpSolves_ok {w : World} {va vx : Value} {r c p : Nat} {zs xs : List Int} (hp : gdB p = true) (ha : Mx w va r c zs 1048576) (hx : Zl w vx xs 1048576) (hxn : ∀ c,vx = .slice none 0 c → c = 0) :
  Calls Tryz.prog 3 #[va,vx,.int .u64 (p : Int)] w (zbH w) := by
 obtain ⟨hpr,hp2⟩ := zXC hp;have hp1 := hpr.1
 haveI : NeZero p := ⟨by omega⟩
 have MA := hid ha;have hzl : zs.length = r * c := by obtain ⟨_,_,_,_,_,q,_⟩ := ha;exact q
 obtain ⟨px,hpx1,hpx2⟩ := hx.prs hxn;obtain ⟨a,cap,rfl,hr,hc⟩ := ha.form;have XL := hid hx;have PX := hid hpx1;have PZ := hid hpx2;obtain ⟨ax,cx,rfl,hcx,hxl,-⟩ := hx.form9;obtain ⟨lx,hlx⟩ : ∃ lx,xs.length = lx := ⟨_,rfl⟩
 have HLX := hid hlx;rw [hlx] at XL PX hcx ⊢;have SNA : Snd (r : Int) (c : Int) (r * c) := ⟨by omega,by omega,by omega,by omega,by simp⟩
 have hb1 : r * c ≤ 64 * 64 := Nat.mul_le_mul hr hc;have KO := zUE (p := p) (c := c) (r := r) hp1 hzl;have hkw : wkR p r c zs ≤ r := Nat.le_trans (zNC _ _) KO.piv;have kwd : WidE r (kerL p r c zs) := by
  have := zqE (left := c) (top := wkR p r c zs) KO.wid
  rwa [Nat.add_sub_cancel_left] at this
 have kln : (kerL p r c zs).length = r - wkR p r c zs := zoF KO.len;have RZ2 := hid (ker_rz12 hpr hzl);have KPL : Hid ((((wkS p r c zs).pv.drop (wkR p r c zs)).map (· - c)).length = r - wkR p r c zs) := by
  unfold Hid;simp [zOB hpr hzl]
 have KFL : Hid (∀ i j,i < r - wkR p r c zs → j < r → (kerL p r c zs).flatten.getD (i * r + j) 0 = ent (kerL p r c zs) i j) := fun i j hi hj => zGF kwd (by rw [kln];exact hi) hj
 have HKE : Hid (∀ w',Below w.heap.size w w' → Calls Tryz.prog 7 #[matv r c (.slice a (r * c) cap),.int .u64 (p : Int)] w' (zRC w' (r - wkR p r c zs) r (kerL p r c zs).flatten 1)) := fun w' h => kernel12 hp (MA.out.now h) (by omega)
 have HRA : Hid (∀ w',Below w.heap.size w w' → Calls Tryz.prog 12 #[matv r c (.slice a (r * c) cap),.int .u64 (p : Int)] w' (fun e w'' => e = .returned (.tuple #[.int .i64 ((zXA p (zLA p r c zs) c).pv.length : Int),.int .i64 0]) ∧ Below w'.heap.size w' w'')) := fun w' h => zOI hp (MA.out.now h) (by omega)
 have HVX : Hid (∀ w',Below w.heap.size w w' → lx = r → Calls Tryz.prog 9 #[.slice ax lx cx,matv r c (.slice a (r * c) cap)] w' (zLF w' (vecZ r c xs zs) (1048576 + 1048576 + 64))) := fun w' h e => zMI (PX.out.now h) (PZ.out.now h) (by rw [hlx,e]) (MA.out.now h) (by omega)
 have HVY : Hid (∀ w' u ps ys,Below w.heap.size w w' → Prs 0 w' u ps → Zis w' ps ys 1 → ys.length = r → Calls Tryz.prog 9 #[u,matv r c (.slice a (r * c) cap)] w' (zLF w' (vecZ r c ys zs) (1 + 1048576 + 64))) := fun w' u ps ys h h1 h2 h3 => zMI h1 h2 h3 (MA.out.now h) (by omega)
 have HSO : Hid (∀ w' vb bs,Below w.heap.size w w' → Zl w' vb bs 2097216 → bs.length = c → Calls Tryz.prog 10 #[matv r c (.slice a (r * c) cap),vb,.int .u64 (p : Int)] w' (zEH w' p r c zs bs)) := fun w' vb bs h h1 h2 => solve12 hp (MA.out.now h) h1 h2 (by omega) (by omega)
 have HSU : Hid (∀ w' bs e w'',zEH w' p r c zs bs e w'' → ((∃ j,j < c ∧ (slE p r c zs bs).getD j 0 ≠ 0) ∧ e = .returned (.tuple #[.slice none 0 0,.int .i64 6]) ∧ Below w'.heap.size w' w'') ∨ ((∀ j,j < c → (slE p r c zs bs).getD j 0 = 0) ∧ ∃ u ps,e = .returned (.tuple #[u,.int .i64 0]) ∧ PrsT w'' u ps ∧ Zms w'' ps (slX p r c zs bs) 1 ∧ Below w'.heap.size w' w'')) := fun w' bs e w'' q => q
 have HSF : Hid (∀ w',Below w.heap.size w w' → lx ≠ c → Calls Tryz.prog 10 #[matv r c (.slice a (r * c) cap),.slice ax lx cx,.int .u64 (p : Int)] w' fun e w'' => e = .returned (.tuple #[.slice none 0 0,.int .i64 2]) ∧ Below w'.heap.size w' w'') := fun w' h hne => solve12_fit (s := true) (MA.out.now h).chk (by unfold zDD;rw [if_neg (by decide),if_pos (by simpa using fun e => hne (by omega))]) rfl
 have HSY : Hid (∀ bs,lx = r → bs = vecZ r c xs zs → ∀ j,j < c → (slE p r c zs bs).getD j 0 = 0) := fun bs hq hb j hj => slE_yes hpr hzl (by rw [hb];simp [vecZ]) (ys := xs) (fun j hj => by rw [hb];simp [vecZ,hj]) hj
 have HSM : Hid (∀ bs,bs.length = c → (∀ j,j < c → (slE p r c zs bs).getD j 0 = 0) → ∀ j,j < c → (vmF c (slX p r c zs bs) zs j r - bs.getD j 0) % (p : Int) = 0) := fun bs h1 h2 j hj => slX_mul hpr hzl h1 h2 hj
 have HSP : Hid (∀ bs,bs.length = c → ∀ t,t < r - wkR p r c zs → (slX p r c zs bs).getD ((((wkS p r c zs).pv.drop (wkR p r c zs)).map (· - c)).getD t 0) 0 = 0) := fun bs h1 t ht => sx_piv12 hpr hzl h1 ht
 have HSX : Hid (∀ bs,bs.length = c → (slX p r c zs bs).length = r ∧ Res p (slX p r c zs bs)) := fun bs h1 => ⟨zRH hpr hzl h1,zxF hpr r c zs bs⟩
 have HRM : Hid (∀ w' v bs,bs.length = c → (∃ j,j < c ∧ (slE p r c zs bs).getD j 0 ≠ 0) → Mx w' v (r + 1) c (zs ++ bs) 1048576 → Calls Tryz.prog 12 #[v,.int .u64 (p : Int)] w' (fun e w'' => e = .returned (.tuple #[.int .i64 (((zXA p (zLA p r c zs) c).pv.length + 1 : Nat) : Int),.int .i64 0]) ∧ Below w'.heap.size w' w'')) := fun w' v bs h1 ⟨j,h2,h3⟩ hm => by
  have := zOI hp hm (by omega);rw [slE_rank hpr hzl h1 h2 h3] at this;exact this
 obtain ⟨ra,hra⟩ : ∃ ra,(zXA p (zLA p r c zs) c).pv.length = ra := ⟨_,rfl⟩
 have hral : ra ≤ 64 := by rw [← hra,← zRG hpr hzl];omega
 rw [hra] at HRA;simp only [hra] at HRM;generalize kerL p r c zs = KL at *;generalize ((wkS p r c zs).pv.drop (wkR p r c zs)).map (· - c) = KP at *;obtain ⟨kr,hkr⟩ : ∃ kr,r - wkR p r c zs = kr := ⟨_,rfl⟩
 simp only [hkr] at kln RZ2 KPL KFL HKE HSP;have hkr2 : kr ≤ 64 := by omega
 have hb3 : kr * r ≤ 64 * 64 := Nat.mul_le_mul hkr2 hr;have SNK : Snd (kr : Int) (r : Int) (kr * r) := ⟨by omega,by omega,by omega,by omega,by simp⟩
 obtain ⟨l,hl⟩ : ∃ l,r * c = l := ⟨_,rfl⟩
 obtain ⟨l3,hl3⟩ : ∃ l3,kr * r = l3 := ⟨_,rfl⟩
 rw [hl] at MA hb1 SNA ⊢;simp only [hl] at HKE HRA HVX HVY HSO HSF;rw [hl3] at hb3 SNK;have HL := hid hl;have HL3 := hid hl3;have HZL := hid hzl;have HSA : Hid (∀ w',Calls Tryz.prog 5 #[mrV (r : Int) (c : Int) a l cap] w' fun e w'' => e = .returned (.bool true) ∧ Below w'.heap.size w' w'') := fun w' => zXG (s := true) (by omega) ⟨fun _ => SNA,fun _ => rfl⟩
 have HLP : Hid (∀ w',Calls Tryz.prog 6 #[.int .u64 (p : Int)] w' fun e w'' => e = .returned (.bool true) ∧ w'' = w') := fun w' => by have := zdF (w := w') (p := p);rw [hp] at this;exact this
 have HSK : Hid (∀ w' a cap,Calls Tryz.prog 5 #[mrV (kr : Int) (r : Int) a l3 cap] w' fun e w'' => e = .returned (.bool true) ∧ Below w'.heap.size w' w'') := fun w' a cap => zXG (s := true) (by omega) ⟨fun _ => SNK,fun _ => rfl⟩
 have hpiv : ∀ t,t < kr → KP.getD t 0 < r := fun t ht => RZ2.out.lt t (by rw [KPL.out];exact ht)
 have HPI := hid hpiv;obtain ⟨W0,hW⟩ : ∃ W0,w.alloc (mrO (r : Int) (c : Int) a l cap) = W0 := ⟨_,rfl⟩
 obtain ⟨b0,sz0⟩ := zVA w (mrO (r : Int) (c : Int) a l cap);rw [hW] at b0 sz0;have PA : Hid (Cel W0 w.heap.size 24 (mrC (r : Int) (c : Int) a l cap)) := by unfold Hid;rw [← hW];exact Cel.new w _ _
 have HW := hid (zuF W0);have G0 := hid b0;have EW := hid hW;have HXL := hid hxl;clear b0 sz0 hW ha hx hxn hpx1 hpx2 hpr hp hzl hl hl3 SNA SNK hkr KO kwd kln hkw hlx hra hpiv hxl;go_enter Tryz.func3,Tryz.ntmps3;go_wp2_with fail;rw [EW.out];refine HW.out.mono ?_;rintro e w1 ⟨rfl,b1⟩;replace PA := hid (PA.out.step b1);have G := hid (below_step G0.out b1);clear HW EW b1 G0;have x0 := PA.out.at (i := 0) rfl;have x1 := PA.out.at (i := 1) rfl;have x2 := PA.out.at (i := 2) rfl;go_wp2_with fail;refine (HSA.out w1).mono ?_;rintro e w2 ⟨rfl,b⟩;replace PA := hid (PA.out.step b);replace G := hid (below_step G.out b);clear b x0 x1 x2 HSA;have x0 := PA.out.at (i := 0) rfl;have x1 := PA.out.at (i := 1) rfl;have x2 := PA.out.at (i := 2) rfl;go_wp2_with fail;refine (HLP.out w2).mono ?_;rintro e w4 ⟨rfl,rfl⟩;go_wp2_with fail;refine (HKE.out _ G.out).mono ?_;rintro e w5 ⟨v_,rfl,hm,b⟩;obtain ⟨ak,qk,rfl,-,-⟩ := hm.mx.form;rw [HL3.out] at hm ⊢;obtain ⟨V5,hV⟩ : ∃ V,w5.alloc (matO kr r (.slice ak l3 qk)) = V := ⟨_,rfl⟩
 obtain ⟨bV,szV⟩ := zVA w5 (matO kr r (.slice ak l3 qk));rw [hV] at bV szV;have b2 := below_step b bV;replace G := hid (below_step G.out b2);replace PA := hid (PA.out.step b2);have Pk : Hid (Cel V5 w5.heap.size 24 (matc kr r (.slice ak l3 qk))) := by unfold Hid;rw [← hV];exact Cel.new _ _ _
 have Mk := hid (hm.now bV);have EV := hid hV;clear hm b bV szV b2 hV HKE x0 x1 x2;have y0 := Pk.out.at (i := 0) rfl;have y1 := Pk.out.at (i := 1) rfl;have y2 := Pk.out.at (i := 2) rfl;rw [← EV.out] at y0 y1 y2;have q0 : ((0 : Int) != 0) = false := rfl;go_wp2_with fail;rw [EV.out];refine (HSK.out _ _ _).mono ?_;rintro e w6 ⟨rfl,b⟩;replace PA := hid (PA.out.step b);replace Pk := hid (Pk.out.step b);replace Mk := hid (Mk.out.now b);replace G := hid (below_step G.out b);clear b EV y0 y1 y2 HSK q0;have y0 := Pk.out.at (i := 0) rfl;have y1 := Pk.out.at (i := 1) rfl;have y2 := Pk.out.at (i := 2) rfl;have x0 := PA.out.at (i := 0) rfl;have q1 : ((r : Int) != (r : Int)) = false := by simp
 go_wp2_with fail;refine (stairs12 Mk.out KFL.out RZ2.out).mono ?_;rintro e w7 ⟨uk,rfl,hpk,b⟩;replace PA := hid (PA.out.step b);replace G := hid (below_step G.out b);have PK : Hid (∀ wx,Below w7.heap.size w7 wx → ∀ t,t < kr → ∃ g cap,uk = .slice (some ⟨g,0,none⟩) kr cap ∧ wx.cell? ⟨g,t,none⟩ = some (.int .i64 (KP.getD t 0 : Nat))) := fun wx hb t ht => by
  obtain ⟨g,cap,e,h1⟩ := hpk.at12 (t := t) (by rw [KPL.out];exact ht);rw [KPL.out] at e;exact ⟨g,cap,e,cnow hb h1⟩
 obtain ⟨ak2,ck2,rfl,-⟩ := hpk.form;rw [KPL.out] at PK ⊢;clear b hpk y0 y1 y2 x0 q1 KFL RZ2 Pk Mk hb3 KPL;have x0 := PA.out.at (i := 0) rfl;have x1 := PA.out.at (i := 1) rfl;have x2 := PA.out.at (i := 2) rfl
 by_cases hxr : lx = r
 ·obtain rfl : r = lx := hxr.symm
  go_wp2_with fail;refine (HVX.out _ G.out (by trivial)).mono ?_;rintro e w3 ⟨vb,pb,rfl,hv1,hv2,b⟩;obtain ⟨bs,hbs⟩ : ∃ bs,vecZ r c xs zs = bs := ⟨_,rfl⟩
  have hbl : bs.length = c := by rw [← hbs];simp [vecZ]
  rw [hbs] at hv2;have HBS := hid hbl;have hzb := zGH hv1.1 hv2.zcs.zis;obtain ⟨ab,cb,rfl,-,-,hfb⟩ := hzb.form9;have HFB := hid hfb;rw [hbl] at hzb ⊢;have VB := hid (hzb.now (Below.refl _ _));have GK := hid b;replace PA := hid (PA.out.step b);replace G := hid (below_step G.out b);have HYS := hid (HSY.out bs (by trivial) hbs.symm);clear x0 x1 x2 hv1 hv2 hbs hbl hzb hfb b HVX HSY HRM HRA HSF;have x0 := PA.out.at (i := 0) rfl;have x1 := PA.out.at (i := 1) rfl;have x2 := PA.out.at (i := 2) rfl;go_wp2_with fail;refine (HSO.out _ _ _ G.out VB.out HBS.out).mono ?_;intro e w8 hsv;rcases HSU.out _ _ _ _ hsv with ⟨⟨j,h1,h2⟩,-⟩ | ⟨hz0,u,ps,rfl,hu,hz,b⟩
  ·exact absurd (HYS.out j h1) h2
  clear hsv HYS x0 x1 x2;obtain ⟨SX,hSX⟩ : ∃ SX,slX p r c zs bs = SX := ⟨_,rfl⟩
  have SXL := (HSX.out bs HBS.out).1;have SXR := hid (HSX.out bs HBS.out).2;have SXM := hid (HSM.out bs HBS.out hz0);have SXP := hid (HSP.out bs HBS.out);simp only [hSX] at SXL SXR SXM SXP;rw [hSX] at hz;have hbz := hz.zcs;have PRY := hid hu.1;have ZCY := hid hbz;obtain ⟨ua,uc,rfl,-⟩ := hu.1.form;have hul : ps.length = r := by rw [hz.1,SXL]
  rw [hul] at PRY ⊢;have SXN := hid SXL;replace PA := hid (PA.out.step b);replace G := hid (below_step G.out b);replace VB := hid (VB.out.now b);have HPK := hid (fun wx (hb : Below w8.heap.size w8 wx) => PK.out wx (below_step GK.out (below_step b hb)));have GK8 := hid (below_step GK.out b);clear hz0 hSX hu hz hbz hul SXL b HSX HSM HSP HSU HSO;have x0 := PA.out.at (i := 0) rfl;have x1 := PA.out.at (i := 1) rfl;have x2 := PA.out.at (i := 2) rfl;have q1 : ((r : Int) != (r : Int)) = false := by simp
  have q2 : ((c : Int) != (c : Int)) = false := by simp
  have q3 : ((0 : Int) != 0) = false := rfl;have HLE : Hid (Calls Tryz.prog 13 #[.slice ua r uc,.int .u64 (p : Int)] w8 fun e w' => e = .returned (.bool true) ∧ w' = w8) := zCE PRY.out ZCY.out SXR.out hp2;go_wp2_with fail;refine HLE.out.mono ?_;rintro e w10 ⟨rfl,rfl⟩;clear HLE q1 q2 q3;go_wp2_with fail;refine (HVY.out _ _ _ _ G.out PRY.out ZCY.out.zis SXN.out).mono ?_;rintro e w9 ⟨v,pv,rfl,hv1,hv2,b⟩;have ULA : Hid (∀ wx,Below w9.heap.size w9 wx → ∀ j,j < c → ∃ b off cap n a l q,v = .slice (some ⟨b,off,none⟩) c cap ∧ wx.cell? ⟨b,off + j * 2,none⟩ = some (.bool n) ∧ wx.cell? ⟨b,off + j * 2 + 1,none⟩ = some (.slice a l q) ∧ Zi wx (.agg #[.bool n,.slice a l q]) (vmF c SX zs j r) (1 + 1048576 + 64)) := fun wx hb j hj => by
   have := (hv1.1.now hb).isI12 (hv2.zcs.zis.now hb) (t := j) (by simp [vecZ];exact hj);simp only [vecZ,List.length_map,List.length_range] at this
   simpa [hj] using this
  obtain ⟨va,vc,rfl,-⟩ := hv1.1.form;have hvl : pv.length = c := by rw [hv2.1];simp [vecZ]
  rw [hvl] at ULA ⊢;replace PA := hid (PA.out.step b);have G9 := hid (below_step G.out b);have VB9 := hid (VB.out.now b);have B89 := hid b;have H5 : Hid (MsI w9 c c (.int .i64 0) w9) := ⟨0,rfl,Nat.zero_le _,by omega,Below.refl _ _⟩
  clear hv1 hv2 hvl b x0 x1 x2 HVY SXR SXN;go_wp2_with fail
  go_loopg [22] c (fun gk s22 wx => MsI w9 c gk s22 wx)
  case atStart => exact H5.out
  case round =>
   clear H5;obtain ⟨j,rfl,hjc,hg,hb5⟩ := hrel;have G5 := hid hb5;have HG := hid hg;clear hb5 hg
   by_cases hlt3 : j < c
   ·have hlt3' : (j : Int) < (c : Int) := by omega
    have hw3 := zkA (i := j) (by omega);have HMM3 : Hid (c - (j + 1) < gk) := by unfold Hid;rw [HG.out];omega
    obtain ⟨ob,oo,rfl⟩ := HFB.out (fun e => by have := HBS.out;rw [e] at this;simp at this;omega);obtain ⟨n1,y1,a1,d1,u0,u1,z1⟩ := (VB9.out.now G5.out).at9 (i := j) (by rw [HBS.out];exact hlt3);obtain ⟨b3,o3,c3,n3,a3,l3',d3,e3,v0,v1,z3⟩ := ULA.out wr G5.out j hlt3;simp only [Value.slice.injEq] at e3;obtain ⟨rfl,-,rfl⟩ := e3;have hrow := SXM.out j hlt3;obtain ⟨l1,hl1⟩ : ∃ l1,y1.length = l1 := ⟨_,rfl⟩
    rw [hl1] at u1 z1;have ebs : bs[j]'(by rw [HBS.out];exact hlt3) = bs.getD j 0 := by simp [show j < bs.length by rw [HBS.out];exact hlt3]
    rw [ebs] at z1;obtain ⟨zz,hzz⟩ : ∃ zz,vmF c SX zs j r - bs.getD j 0 = zz := ⟨_,rfl⟩
    have HS : Hid (∀ w',Below wr.heap.size wr w' → Calls Tryz.prog 14 #[.agg #[.bool n3,.slice a3 l3' d3],.agg #[.bool n1,.slice a1 l1 d1]] w' (zZA w' zz 2097217)) := fun w' hb => by
     have := zVH ((z3.now hb).more (l := 2097216) (by omega)) (z1.now hb) (by omega) (by omega);rw [hzz] at this;exact this
    rw [hzz] at hrow;have HROW := hid hrow;clear z1 z3 hzz hrow HG ebs hl1;go_wp2_with fail;have KB : Hid (∀ w',Below wr.heap.size wr w' → w'.cell? ⟨b3,o3 + j * 2,none⟩ = some (.bool n3) ∧ w'.cell? ⟨b3,o3 + j * 2 + 1,none⟩ = some (.slice a3 l3' d3) ∧ w'.cell? ⟨ob,oo + j * 2,none⟩ = some (.bool n1) ∧ w'.cell? ⟨ob,oo + j * 2 + 1,none⟩ = some (.slice a1 l1 d1)) := fun w' h => ⟨cnow h v0,cnow h v1,cnow h u0,cnow h u1⟩
    refine zDA (fun w' => w'.cell? ⟨b3,o3 + j * 2,none⟩ = some (.bool n3) ∧ w'.cell? ⟨b3,o3 + j * 2 + 1,none⟩ = some (.slice a3 l3' d3) ∧ w'.cell? ⟨ob,oo + j * 2,none⟩ = some (.bool n1) ∧ w'.cell? ⟨ob,oo + j * 2 + 1,none⟩ = some (.slice a1 l1 d1)) 10 (by kernel_rfl) ?_;obtain ⟨D51,hD⟩ : ∃ D51,wr.drew = D51 := ⟨_,rfl⟩
    have GB : Hid (Below wr.heap.size wr D51) := by unfold Hid;rw [← hD];exact (Below.refl _ _).drew
    rw [hD];clear hD;have GZ : Hid (wr.heap.size ≤ D51.heap.size) := GB.out.size;refine ziA [(0,(.slice (some ⟨b3,o3,none⟩) c vc)),(1,(.int .i64 (j : Int))),(2,(.pointer (some ⟨b3,o3 + j * 2,none⟩))),(3,(.agg #[.bool n3,.slice a3 l3' d3])),(4,(.slice (some ⟨ob,oo,none⟩) c cb)),(5,(.int .i64 (j : Int))),(6,(.pointer (some ⟨ob,oo + j * 2,none⟩))),(7,(.agg #[.bool n1,.slice a1 l1 d1]))] 8 ?_ (KB.out _ GB.out) ?_
    ·simp only [zpB,gA9,g09,g19,Act.put,sI9,s09,s19]
     (repeat' (first | exact trivial | refine And.intro (Or.inl ⟨by rfl,?_⟩) ?_)) <;> (intro w hSw;(try dsimp only at hSw);go_simp)
    simp only [actV,gA9,g09,g19,Act.put,sI9,s09,s19];refine zTC (i := 8) (j := 9) (oi := ⟨some 194,.call { callee := .value (.func 14),args := #[.tmp 189,.tmp 193],argTypes := #[44,44] },44, "plain.go:313",#[⟨3,.data⟩,⟨7,.data⟩],none⟩) (oj := ⟨some 23,.alloc 44,0, "plain.go:313",#[],none⟩) (by kernel_rfl) rfl rfl (fun K hK => ?_) (fun K hK => ?_)
    ·skip
     go_simp;go_at_call 14;refine (HS.out _ GB.out).mono ?_;rintro e w52 ⟨rr,rfl,m1,b⟩;have lz52 := (show Below _ _ _ from b).size;replace GB := hid (below_step GB.out b);have M1 := hid (m1.mono (Nat.zero_le _));obtain ⟨nr,xr,ar,cr,rfl⟩ := m1.parts;clear m1;clear b;refine hK.out _ _ (fun _ => KB.out _ GB.out) ?_;clear hK;refine zCA (i := 9) (o := ⟨some 23,.alloc 44,0, "plain.go:313",#[],none⟩) (by kernel_rfl) rfl (fun K hK => ?_);go_simp;obtain ⟨V53,hW⟩ : ∃ V53,w52.alloc zbox = V53 := ⟨_,rfl⟩
     obtain ⟨b,sz53⟩ := alo1 w52 zbox;rw [hW] at b sz53;replace GB := hid (below_step GB.out b);have PX : Hid (Duo V53 w52.heap.size (.bool false) (.slice none 0 0)) := by unfold Hid;rw [← hW];exact Duo.new w52 _ _
     have SP : Hid (wr.heap.size ≤ w52.heap.size) := by unfold Hid;have := GZ.out;omega
     replace M1 := hid (M1.out.now b);rw [hW];clear hW b;refine hK.out _ _ (fun _ => KB.out _ GB.out) ?_;clear hK
     try simp only [Act.put]
     refine zCA (i := 10) (o := ⟨none,.store 44 (.tmp 23) (.tmp 194),0, "plain.go:313",#[⟨9,.data⟩,⟨8,.data⟩,⟨8,.chain⟩,⟨0,.phase⟩,⟨1,.phase⟩,⟨2,.phase⟩,⟨3,.phase⟩,⟨4,.phase⟩,⟨5,.phase⟩,⟨6,.phase⟩,⟨7,.phase⟩,⟨8,.phase⟩,⟨9,.phase⟩],none⟩) (by kernel_rfl) rfl (fun K hK => ?_);have f0 := PX.out.c0;have f1 := PX.out.c1;have f2 := PX.out.fz 0;have f3 := PX.out.fz 1;go_simp;clear f0 f1 f2 f3;obtain ⟨V54,hW⟩ : ∃ V54,((V53.setCell ⟨w52.heap.size,0,none⟩ (.bool nr)).setCell ⟨w52.heap.size,1,none⟩ (.slice ar xr.length cr)) = V54 := ⟨_,rfl⟩
     replace GB : Hid (Below wr.heap.size wr V54) := by unfold Hid;rw [← hW];exact bset (bset GB.out SP.out) SP.out
     replace M1 : Hid (Zm 0 V54 (.agg #[.bool nr,.slice ar xr.length cr]) zz 2097217) := by unfold Hid;rw [← hW];exact M1.out.box PX.out _ _
     replace PX : Hid (Duo V54 w52.heap.size (.bool nr) (.slice ar xr.length cr)) := by unfold Hid;rw [← hW];exact PX.out.set _ _
     rw [hW];clear hW;refine hK.out _ _ (fun h => absurd h (by decide)) ?_;clear hK
     try simp only [Act.put]
     refine zFA (by kernel_rfl) ?_ _;obtain ⟨Y,hY⟩ : ∃ Y,Y = V54 := ⟨_,rfl⟩
     obtain ⟨bq,hbq⟩ : ∃ bq,w52.heap.size = bq := ⟨_,rfl⟩
     rw [hbq] at PX ⊢;rw [← hY] at GB M1 PX ⊢;clear hY hbq KB GZ SP HS u0 u1 v0 v1;have s0 := PX.out.c0;have s1 := PX.out.c1;obtain ⟨Z1,hZ⟩ : ∃ Z1,Y.alloc (.cells #[.bool nr,.slice ar xr.length cr] 44) = Z1 := ⟨_,rfl⟩
     obtain ⟨bZ,szZ⟩ := alo1 Y (.cells #[.bool nr,.slice ar xr.length cr] 44);rw [hZ] at bZ szZ;have AZ : Arr Z1 Y.heap.size [(.bool nr,.slice ar xr.length cr)] := ⟨by rw [← hZ];exact Cel.new Y _ _,fun q hq => by simp at hq;subst hq;exact ⟨_,_,_,_,rfl⟩⟩
     have ZL : Zl Z1 (.slice (some ⟨Y.heap.size,0,none⟩) 1 1) [zz] 2097217 := zGH (AZ.prs (B := 0) (Nat.zero_le _) (by simp) (cap := 1) (by simp)) ⟨rfl,fun t q z hq hz => by
      match t,hq,hz with
      | 0,hq,hz => simp at hq hz;subst hq;subst hz;exact (M1.out.now bZ).zi⟩
     have HZ := hid (zSC (p := p) ZL (by omega) (by omega) hp2 (fun z hz => by simp at hz;subst hz;exact HROW.out));have G7 := hid (below_step (below_step G5.out GB.out) bZ);have EZ := hid hZ;clear AZ ZL bZ szZ hZ M1 PX GB G5;go_wp2_with fail;rw [EZ.out];refine HZ.out.mono ?_;rintro e w30 ⟨rfl,b⟩;have HN1 : Hid (MsI w9 c (c - (j + 1)) (.int .i64 ((j + 1 : Nat) : Int)) w30) := ⟨j + 1,rfl,by omega,rfl,below_step G7.out b⟩
     clear G7 HZ EZ b s0 s1;go_wp2_with fail;go_roundg (c - (j + 1))
     case rel => exact HN1.out
     case measure => exact HMM3.out
    ·skip
     go_simp;obtain ⟨V55,hW⟩ : ∃ V55,D51.alloc zbox = V55 := ⟨_,rfl⟩
     obtain ⟨b,sz55⟩ := alo1 D51 zbox;rw [hW] at b sz55;replace GB := hid (below_step GB.out b);have PX : Hid (Duo V55 D51.heap.size (.bool false) (.slice none 0 0)) := by unfold Hid;rw [← hW];exact Duo.new D51 _ _
     have SP : Hid (wr.heap.size ≤ D51.heap.size) := by unfold Hid;have := GZ.out;omega
     rw [hW];clear hW b;refine hK.out _ _ (fun _ => KB.out _ GB.out) ?_;clear hK
     try simp only [Act.put]
     refine zCA (i := 8) (o := ⟨some 194,.call { callee := .value (.func 14),args := #[.tmp 189,.tmp 193],argTypes := #[44,44] },44, "plain.go:313",#[⟨3,.data⟩,⟨7,.data⟩],none⟩) (by kernel_rfl) rfl (fun K hK => ?_);go_simp;go_at_call 14;refine (HS.out _ GB.out).mono ?_;rintro e w56 ⟨rr,rfl,m1,b⟩;have lz56 := (show Below _ _ _ from b).size;replace GB := hid (below_step GB.out b);have M1 := hid (m1.mono (Nat.zero_le _));obtain ⟨nr,xr,ar,cr,rfl⟩ := m1.parts;clear m1;replace PX := hid (PX.out.step b);clear b;refine hK.out _ _ (fun _ => KB.out _ GB.out) ?_;clear hK;refine zCA (i := 10) (o := ⟨none,.store 44 (.tmp 23) (.tmp 194),0, "plain.go:313",#[⟨9,.data⟩,⟨8,.data⟩,⟨8,.chain⟩,⟨0,.phase⟩,⟨1,.phase⟩,⟨2,.phase⟩,⟨3,.phase⟩,⟨4,.phase⟩,⟨5,.phase⟩,⟨6,.phase⟩,⟨7,.phase⟩,⟨8,.phase⟩,⟨9,.phase⟩],none⟩) (by kernel_rfl) rfl (fun K hK => ?_);have f0 := PX.out.c0;have f1 := PX.out.c1;have f2 := PX.out.fz 0;have f3 := PX.out.fz 1;go_simp;clear f0 f1 f2 f3;obtain ⟨V57,hW⟩ : ∃ V57,((w56.setCell ⟨D51.heap.size,0,none⟩ (.bool nr)).setCell ⟨D51.heap.size,1,none⟩ (.slice ar xr.length cr)) = V57 := ⟨_,rfl⟩
     replace GB : Hid (Below wr.heap.size wr V57) := by unfold Hid;rw [← hW];exact bset (bset GB.out SP.out) SP.out
     replace M1 : Hid (Zm 0 V57 (.agg #[.bool nr,.slice ar xr.length cr]) zz 2097217) := by unfold Hid;rw [← hW];exact M1.out.box PX.out _ _
     replace PX : Hid (Duo V57 D51.heap.size (.bool nr) (.slice ar xr.length cr)) := by unfold Hid;rw [← hW];exact PX.out.set _ _
     rw [hW];clear hW;refine hK.out _ _ (fun h => absurd h (by decide)) ?_;clear hK
     try simp only [Act.put]
     refine zFA (by kernel_rfl) ?_ _;obtain ⟨Y,hY⟩ : ∃ Y,Y = V57 := ⟨_,rfl⟩
     obtain ⟨bq,hbq⟩ : ∃ bq,D51.heap.size = bq := ⟨_,rfl⟩
     rw [hbq] at PX ⊢;rw [← hY] at GB M1 PX ⊢;clear hY hbq KB GZ SP HS u0 u1 v0 v1;have s0 := PX.out.c0;have s1 := PX.out.c1;obtain ⟨Z1,hZ⟩ : ∃ Z1,Y.alloc (.cells #[.bool nr,.slice ar xr.length cr] 44) = Z1 := ⟨_,rfl⟩
     obtain ⟨bZ,szZ⟩ := alo1 Y (.cells #[.bool nr,.slice ar xr.length cr] 44);rw [hZ] at bZ szZ;have AZ : Arr Z1 Y.heap.size [(.bool nr,.slice ar xr.length cr)] := ⟨by rw [← hZ];exact Cel.new Y _ _,fun q hq => by simp at hq;subst hq;exact ⟨_,_,_,_,rfl⟩⟩
     have ZL : Zl Z1 (.slice (some ⟨Y.heap.size,0,none⟩) 1 1) [zz] 2097217 := zGH (AZ.prs (B := 0) (Nat.zero_le _) (by simp) (cap := 1) (by simp)) ⟨rfl,fun t q z hq hz => by
      match t,hq,hz with
      | 0,hq,hz => simp at hq hz;subst hq;subst hz;exact (M1.out.now bZ).zi⟩
     have HZ := hid (zSC (p := p) ZL (by omega) (by omega) hp2 (fun z hz => by simp at hz;subst hz;exact HROW.out));have G7 := hid (below_step (below_step G5.out GB.out) bZ);have EZ := hid hZ;clear AZ ZL bZ szZ hZ M1 PX GB G5;go_wp2_with fail;rw [EZ.out];refine HZ.out.mono ?_;rintro e w30 ⟨rfl,b⟩;have HN1 : Hid (MsI w9 c (c - (j + 1)) (.int .i64 ((j + 1 : Nat) : Int)) w30) := ⟨j + 1,rfl,by omega,rfl,below_step G7.out b⟩
     clear G7 HZ EZ b s0 s1;go_wp2_with fail;go_roundg (c - (j + 1))
     case rel => exact HN1.out
     case measure => exact HMM3.out
   ·have hlt3' : ¬ (j : Int) < (c : Int) := by omega
    have GL := hid (below_step G9.out G5.out);have GM := hid (below_step B89.out G5.out);obtain ⟨Wm,hWm⟩ : ∃ Wm,wr = Wm := ⟨_,rfl⟩
    rw [hWm] at GL GM ⊢;have H6 : Hid (MsI Wm kr kr (.int .i64 0) Wm) := ⟨0,rfl,Nat.zero_le _,by omega,Below.refl _ _⟩
    clear G5 HG hWm ULA SXM VB VB9 PA B89;go_wp2_with fail
    go_loopg [24] kr (fun gk s24 wx => MsI Wm kr gk s24 wx)
    case atStart => exact H6.out
    case round =>
     clear H6;obtain ⟨i,rfl,hik,hg,hb6⟩ := hrel;have G6 := hid hb6;have HG := hid hg;clear hb6 hg
     by_cases hlt4 : i < kr
     ·have hlt4' : (i : Int) < (kr : Int) := by omega
      have hw4 := zkA (i := i) (by omega);have HMM4 : Hid (kr - (i + 1) < gk) := by unfold Hid;rw [HG.out];omega
      obtain ⟨g4,cp4,e4,k4⟩ := HPK.out wr (below_step GM.out G6.out) i hlt4;simp only [Value.slice.injEq] at e4;obtain ⟨rfl,-,rfl⟩ := e4;have hpr := HPI.out i hlt4;have hz4 := SXP.out i hlt4;obtain ⟨jv,hjv⟩ : ∃ jv,KP.getD i 0 = jv := ⟨_,rfl⟩
      rw [hjv] at k4 hpr hz4;have hsl : SX.length = r := by have h1 := ZCY.out.1;have h2 := PRY.out.form;obtain ⟨_,_,e,-⟩ := h2;simp only [Value.slice.injEq] at e;omega
      obtain ⟨b5,o5,c5,a5,d5,e5,k5⟩ := zeE (PRY.out.now (below_step GM.out G6.out)) (ZCY.out.now (below_step GM.out G6.out)) (t := jv) (by rw [hsl];exact hpr) hz4;rw [hsl] at e5;simp only [Value.slice.injEq] at e5;obtain ⟨rfl,-,rfl⟩ := e5;have hpr' : (jv : Int) < (r : Int) := by omega
      have q5 : ((0 : Int) != 0) = false := rfl;have HN1 : Hid (MsI Wm kr (kr - (i + 1)) (.int .i64 ((i + 1 : Nat) : Int)) wr) := ⟨i + 1,rfl,by omega,rfl,G6.out⟩
      clear hz4 hjv hsl HG;go_wp2_with fail;go_roundg (kr - (i + 1))
      case rel => exact HN1.out
      case measure => exact HMM4.out
     ·have hlt4' : ¬ (i : Int) < (kr : Int) := by omega
      have GE := hid (below_step GL.out G6.out);clear G6 HG;go_wp2;go_ret;exact ⟨rfl,GE.out⟩
 ·have hxr' : ((lx : Int) == (r : Int)) = false := by simp;omega
  have GK : Hid (Below w7.heap.size w7 w7) := Below.refl _ _
  by_cases hxc : lx = c
  ·obtain rfl : c = lx := hxc.symm
   obtain ⟨bs,rfl⟩ : ∃ bs,bs = xs := ⟨_,rfl⟩
   have HBS := HLX;have VB : Hid (Zl w7 (.slice ax c cx) bs 2097216) := (XL.out.more12 (by omega)).now G.out;obtain ⟨_,_,e9,-,-,hfb⟩ := VB.out.form9;simp only [Value.slice.injEq] at e9;obtain ⟨rfl,-,rfl⟩ := e9;have HFB := hid hfb;clear hfb HVX HSY HSF;go_wp2_with fail;refine (HSO.out _ _ _ G.out VB.out HBS.out).mono ?_;intro e w8 hsv;rcases HSU.out _ _ _ _ hsv with ⟨hne,rfl,b⟩ | ⟨hz0,u,ps,rfl,hu,hz,b⟩
   ·clear hsv x0 x1 x2 HSU HSO HSX HSM HSP VB HFB
    replace PA := hid (PA.out.step b);replace G := hid (below_step G.out b);clear b;have x0 := PA.out.at (i := 0) rfl;have x1 := PA.out.at (i := 1) rfl;have x2 := PA.out.at (i := 2) rfl;have q2 : ((c : Int) != (c : Int)) = false := by simp
    by_cases h64 : r = 64
    ·have h64' : ((r : Int) == 64) = true := by subst h64;rfl
     have hxr2 : ((c : Int) != (r : Int)) = true := by simp;omega
     clear h64;go_wp2;go_ret;exact ⟨rfl,G.out⟩
    ·have h64' : ((r : Int) == 64) = false := by simp;omega
     have hr63 : r < 64 := by omega
     obtain ⟨at_,pa,e1,e2,e3,e4,-,-⟩ := MA.out;simp only [Value.agg.injEq,Array.mk.injEq,List.cons.injEq,and_true] at e1;obtain ⟨-,-,rfl⟩ := e1;obtain ⟨Z1,hZ⟩ : ∃ Z1,w8.alloc (.cells #[.int .i64 (r : Int),.int .i64 (c : Int),.slice a l cap,.int .i64 1,.int .i64 (c : Int),.slice ax c cx] 24) = Z1 := ⟨_,rfl⟩
     obtain ⟨bZ,szZ⟩ := alo1 w8 (.cells #[.int .i64 (r : Int),.int .i64 (c : Int),.slice a l cap,.int .i64 1,.int .i64 (c : Int),.slice ax c cx] 24);rw [hZ] at bZ szZ;have GZ := hid (below_step G.out bZ);have HSTK : Hid (Calls Tryz.prog 11 #[.slice (some ⟨w8.heap.size,0,none⟩) 2 2] Z1 (zRC Z1 (r + 1) c (zs ++ bs) 1048576)) := by
      have h1 : Cel Z1 w8.heap.size 24 [.int .i64 (r : Int),.int .i64 (c : Int),.slice a (r * c) cap,.int .i64 1,.int .i64 (c : Int),.slice ax c cx] := by
       rw [HL.out,← hZ];exact Cel.new w8 _ _
      have h2 : Prs 0 Z1 (.slice a (r * c) cap) pa := by
       rw [HL.out];exact e2.now GZ.out
      exact rstack12 h1 h2 (e3.now GZ.out) e4 (PX.out.now GZ.out) (PZ.out.now GZ.out) HBS.out hr63 hc (by omega)
     replace PA := hid (PA.out.step bZ);have EZ := hid hZ;clear e2 e3 e4 bZ szZ hZ h64;go_wp2_with fail;rw [EZ.out];refine HSTK.out.mono ?_;rintro e w10 ⟨v,rfl,hm,b⟩;have HRM2 : Hid (∀ w',Below w10.heap.size w10 w' → Calls Tryz.prog 12 #[v,.int .u64 (p : Int)] w' (fun e w'' => e = .returned (.tuple #[.int .i64 ((ra + 1 : Nat) : Int),.int .i64 0]) ∧ Below w'.heap.size w' w'')) := fun w' h => HRM.out w' v bs HBS.out hne (hm.mx.now h)
     obtain ⟨am,qm,rfl,-,-⟩ := hm.mx.form;obtain ⟨lm,hlm⟩ : ∃ lm,(r + 1) * c = lm := ⟨_,rfl⟩
     obtain ⟨r1,hr1⟩ : ∃ r1,r + 1 = r1 := ⟨_,rfl⟩
     rw [hlm,hr1] at HRM2 ⊢;obtain ⟨V,hV⟩ : ∃ V,w10.alloc (matO r1 c (.slice am lm qm)) = V := ⟨_,rfl⟩
     obtain ⟨bV,szV⟩ := zVA w10 (matO r1 c (.slice am lm qm));rw [hV] at bV szV;have PM : Hid (Cel V w10.heap.size 24 (matc r1 c (.slice am lm qm))) := by unfold Hid;rw [← hV];exact Cel.new _ _ _
     have b2 := below_step b bV;replace PA := hid (PA.out.step b2);have G2 := hid (below_step GZ.out b2);have HRM3 := hid (fun w' (h : Below V.heap.size V w') => HRM2.out w' (below_step bV h));have EV := hid hV;obtain ⟨bm,hbm⟩ : ∃ bm,w10.heap.size = bm := ⟨_,rfl⟩
     rw [hbm] at PM;clear x0 x1 x2 q2 h64' hxr' hm b bV szV b2 hV hlm hr1 HSTK EZ HRM HRM2 GZ G;have x0 := PA.out.at (i := 0) rfl;have x1 := PA.out.at (i := 1) rfl;have x2 := PA.out.at (i := 2) rfl;rw [← EV.out] at x0 x1 x2;go_wp2_with fail;rw [EV.out];refine (HRA.out _ G2.out).mono ?_;rintro e w11 ⟨rfl,b⟩;replace PM := hid (PM.out.step b);have HRM4 := hid (HRM3.out _ b);have G3 := hid (below_step G2.out b);clear b EV hbm x0 x1 x2;have y0 := PM.out.at (i := 0) rfl;have y1 := PM.out.at (i := 1) rfl;have y2 := PM.out.at (i := 2) rfl;go_wp2_with fail;refine HRM4.out.mono ?_;rintro e w12 ⟨rfl,b⟩;have G4 := hid (below_step G3.out b);clear b y0 y1 y2 HRM3 HRM4 PM;have hw : IntKind.i64.wrap ((ra : Int) + 1) = ((ra + 1 : Nat) : Int) := by rw [zRA] <;> omega
     obtain ⟨ra1,hra1⟩ : ∃ ra1,ra + 1 = ra1 := ⟨_,rfl⟩
     rw [hra1] at hw ⊢;have q6 : ((ra1 : Int) == (ra1 : Int)) = true := by simp
     clear hra1;go_wp2;go_ret;exact ⟨rfl,G4.out⟩
   ·clear hsv x0 x1 x2 HRM HRA
    obtain ⟨SX,hSX⟩ : ∃ SX,slX p r c zs bs = SX := ⟨_,rfl⟩
    have SXL := (HSX.out bs HBS.out).1;have SXR := hid (HSX.out bs HBS.out).2;have SXM := hid (HSM.out bs HBS.out hz0);have SXP := hid (HSP.out bs HBS.out);simp only [hSX] at SXL SXR SXM SXP;rw [hSX] at hz;have hbz := hz.zcs;have PRY := hid hu.1;have ZCY := hid hbz;obtain ⟨ua,uc,rfl,-⟩ := hu.1.form;have hul : ps.length = r := by rw [hz.1,SXL]
    rw [hul] at PRY ⊢;have SXN := hid SXL;replace PA := hid (PA.out.step b);replace G := hid (below_step G.out b);replace VB := hid (VB.out.now b);have HPK := hid (fun wx (hb : Below w8.heap.size w8 wx) => PK.out wx (below_step GK.out (below_step b hb)));have GK8 := hid (below_step GK.out b);clear hz0 hSX hu hz hbz hul SXL b HSX HSM HSP HSU HSO;have x0 := PA.out.at (i := 0) rfl;have x1 := PA.out.at (i := 1) rfl;have x2 := PA.out.at (i := 2) rfl;have q1 : ((r : Int) != (r : Int)) = false := by simp
    have q2 : ((c : Int) != (c : Int)) = false := by simp
    have q3 : ((0 : Int) != 0) = false := rfl;have HLE : Hid (Calls Tryz.prog 13 #[.slice ua r uc,.int .u64 (p : Int)] w8 fun e w' => e = .returned (.bool true) ∧ w' = w8) := zCE PRY.out ZCY.out SXR.out hp2;go_wp2_with fail;refine HLE.out.mono ?_;rintro e w10 ⟨rfl,rfl⟩;clear HLE q1 q2 q3;go_wp2_with fail;refine (HVY.out _ _ _ _ G.out PRY.out ZCY.out.zis SXN.out).mono ?_;rintro e w9 ⟨v,pv,rfl,hv1,hv2,b⟩;have ULA : Hid (∀ wx,Below w9.heap.size w9 wx → ∀ j,j < c → ∃ b off cap n a l q,v = .slice (some ⟨b,off,none⟩) c cap ∧ wx.cell? ⟨b,off + j * 2,none⟩ = some (.bool n) ∧ wx.cell? ⟨b,off + j * 2 + 1,none⟩ = some (.slice a l q) ∧ Zi wx (.agg #[.bool n,.slice a l q]) (vmF c SX zs j r) (1 + 1048576 + 64)) := fun wx hb j hj => by
     have := (hv1.1.now hb).isI12 (hv2.zcs.zis.now hb) (t := j) (by simp [vecZ];exact hj);simp only [vecZ,List.length_map,List.length_range] at this
     simpa [hj] using this
    obtain ⟨va,vc,rfl,-⟩ := hv1.1.form;have hvl : pv.length = c := by rw [hv2.1];simp [vecZ]
    rw [hvl] at ULA ⊢;replace PA := hid (PA.out.step b);have G9 := hid (below_step G.out b);have VB9 := hid (VB.out.now b);have B89 := hid b;have H5 : Hid (MsI w9 c c (.int .i64 0) w9) := ⟨0,rfl,Nat.zero_le _,by omega,Below.refl _ _⟩
    clear hv1 hv2 hvl b x0 x1 x2 HVY SXR SXN;go_wp2_with fail
    go_loopg [22] c (fun gk s22 wx => MsI w9 c gk s22 wx)
    case atStart => exact H5.out
    case round =>
     clear H5;obtain ⟨j,rfl,hjc,hg,hb5⟩ := hrel;have G5 := hid hb5;have HG := hid hg;clear hb5 hg
     by_cases hlt3 : j < c
     ·have hlt3' : (j : Int) < (c : Int) := by omega
      have hw3 := zkA (i := j) (by omega);have HMM3 : Hid (c - (j + 1) < gk) := by unfold Hid;rw [HG.out];omega
      obtain ⟨ob,oo,rfl⟩ := HFB.out (fun e => by have := HBS.out;rw [e] at this;simp at this;omega);obtain ⟨n1,y1,a1,d1,u0,u1,z1⟩ := (VB9.out.now G5.out).at9 (i := j) (by rw [HBS.out];exact hlt3);obtain ⟨b3,o3,c3,n3,a3,l3',d3,e3,v0,v1,z3⟩ := ULA.out wr G5.out j hlt3;simp only [Value.slice.injEq] at e3;obtain ⟨rfl,-,rfl⟩ := e3;have hrow := SXM.out j hlt3;obtain ⟨l1,hl1⟩ : ∃ l1,y1.length = l1 := ⟨_,rfl⟩
      rw [hl1] at u1 z1;have ebs : bs[j]'(by rw [HBS.out];exact hlt3) = bs.getD j 0 := by simp [show j < bs.length by rw [HBS.out];exact hlt3]
      rw [ebs] at z1;obtain ⟨zz,hzz⟩ : ∃ zz,vmF c SX zs j r - bs.getD j 0 = zz := ⟨_,rfl⟩
      have HS : Hid (∀ w',Below wr.heap.size wr w' → Calls Tryz.prog 14 #[.agg #[.bool n3,.slice a3 l3' d3],.agg #[.bool n1,.slice a1 l1 d1]] w' (zZA w' zz 2097217)) := fun w' hb => by
       have := zVH ((z3.now hb).more (l := 2097216) (by omega)) (z1.now hb) (by omega) (by omega);rw [hzz] at this;exact this
      rw [hzz] at hrow;have HROW := hid hrow;clear z1 z3 hzz hrow HG ebs hl1;go_wp2_with fail;have KB : Hid (∀ w',Below wr.heap.size wr w' → w'.cell? ⟨b3,o3 + j * 2,none⟩ = some (.bool n3) ∧ w'.cell? ⟨b3,o3 + j * 2 + 1,none⟩ = some (.slice a3 l3' d3) ∧ w'.cell? ⟨ob,oo + j * 2,none⟩ = some (.bool n1) ∧ w'.cell? ⟨ob,oo + j * 2 + 1,none⟩ = some (.slice a1 l1 d1)) := fun w' h => ⟨cnow h v0,cnow h v1,cnow h u0,cnow h u1⟩
      refine zDA (fun w' => w'.cell? ⟨b3,o3 + j * 2,none⟩ = some (.bool n3) ∧ w'.cell? ⟨b3,o3 + j * 2 + 1,none⟩ = some (.slice a3 l3' d3) ∧ w'.cell? ⟨ob,oo + j * 2,none⟩ = some (.bool n1) ∧ w'.cell? ⟨ob,oo + j * 2 + 1,none⟩ = some (.slice a1 l1 d1)) 10 (by kernel_rfl) ?_;obtain ⟨D51,hD⟩ : ∃ D51,wr.drew = D51 := ⟨_,rfl⟩
      have GB : Hid (Below wr.heap.size wr D51) := by unfold Hid;rw [← hD];exact (Below.refl _ _).drew
      rw [hD];clear hD;have GZ : Hid (wr.heap.size ≤ D51.heap.size) := GB.out.size;refine ziA [(0,(.slice (some ⟨b3,o3,none⟩) c vc)),(1,(.int .i64 (j : Int))),(2,(.pointer (some ⟨b3,o3 + j * 2,none⟩))),(3,(.agg #[.bool n3,.slice a3 l3' d3])),(4,(.slice (some ⟨ob,oo,none⟩) c cx)),(5,(.int .i64 (j : Int))),(6,(.pointer (some ⟨ob,oo + j * 2,none⟩))),(7,(.agg #[.bool n1,.slice a1 l1 d1]))] 8 ?_ (KB.out _ GB.out) ?_
      ·simp only [zpB,gA9,g09,g19,Act.put,sI9,s09,s19]
       (repeat' (first | exact trivial | refine And.intro (Or.inl ⟨by rfl,?_⟩) ?_)) <;> (intro w hSw;(try dsimp only at hSw);go_simp)
      simp only [actV,gA9,g09,g19,Act.put,sI9,s09,s19];refine zTC (i := 8) (j := 9) (oi := ⟨some 194,.call { callee := .value (.func 14),args := #[.tmp 189,.tmp 193],argTypes := #[44,44] },44, "plain.go:313",#[⟨3,.data⟩,⟨7,.data⟩],none⟩) (oj := ⟨some 23,.alloc 44,0, "plain.go:313",#[],none⟩) (by kernel_rfl) rfl rfl (fun K hK => ?_) (fun K hK => ?_)
      ·skip
       go_simp;go_at_call 14;refine (HS.out _ GB.out).mono ?_;rintro e w52 ⟨rr,rfl,m1,b⟩;have lz52 := (show Below _ _ _ from b).size;replace GB := hid (below_step GB.out b);have M1 := hid (m1.mono (Nat.zero_le _));obtain ⟨nr,xr,ar,cr,rfl⟩ := m1.parts;clear m1;clear b;refine hK.out _ _ (fun _ => KB.out _ GB.out) ?_;clear hK;refine zCA (i := 9) (o := ⟨some 23,.alloc 44,0, "plain.go:313",#[],none⟩) (by kernel_rfl) rfl (fun K hK => ?_);go_simp;obtain ⟨V53,hW⟩ : ∃ V53,w52.alloc zbox = V53 := ⟨_,rfl⟩
       obtain ⟨b,sz53⟩ := alo1 w52 zbox;rw [hW] at b sz53;replace GB := hid (below_step GB.out b);have PX : Hid (Duo V53 w52.heap.size (.bool false) (.slice none 0 0)) := by unfold Hid;rw [← hW];exact Duo.new w52 _ _
       have SP : Hid (wr.heap.size ≤ w52.heap.size) := by unfold Hid;have := GZ.out;omega
       replace M1 := hid (M1.out.now b);rw [hW];clear hW b;refine hK.out _ _ (fun _ => KB.out _ GB.out) ?_;clear hK
       try simp only [Act.put]
       refine zCA (i := 10) (o := ⟨none,.store 44 (.tmp 23) (.tmp 194),0, "plain.go:313",#[⟨9,.data⟩,⟨8,.data⟩,⟨8,.chain⟩,⟨0,.phase⟩,⟨1,.phase⟩,⟨2,.phase⟩,⟨3,.phase⟩,⟨4,.phase⟩,⟨5,.phase⟩,⟨6,.phase⟩,⟨7,.phase⟩,⟨8,.phase⟩,⟨9,.phase⟩],none⟩) (by kernel_rfl) rfl (fun K hK => ?_);have f0 := PX.out.c0;have f1 := PX.out.c1;have f2 := PX.out.fz 0;have f3 := PX.out.fz 1;go_simp;clear f0 f1 f2 f3;obtain ⟨V54,hW⟩ : ∃ V54,((V53.setCell ⟨w52.heap.size,0,none⟩ (.bool nr)).setCell ⟨w52.heap.size,1,none⟩ (.slice ar xr.length cr)) = V54 := ⟨_,rfl⟩
       replace GB : Hid (Below wr.heap.size wr V54) := by unfold Hid;rw [← hW];exact bset (bset GB.out SP.out) SP.out
       replace M1 : Hid (Zm 0 V54 (.agg #[.bool nr,.slice ar xr.length cr]) zz 2097217) := by unfold Hid;rw [← hW];exact M1.out.box PX.out _ _
       replace PX : Hid (Duo V54 w52.heap.size (.bool nr) (.slice ar xr.length cr)) := by unfold Hid;rw [← hW];exact PX.out.set _ _
       rw [hW];clear hW;refine hK.out _ _ (fun h => absurd h (by decide)) ?_;clear hK
       try simp only [Act.put]
       refine zFA (by kernel_rfl) ?_ _;obtain ⟨Y,hY⟩ : ∃ Y,Y = V54 := ⟨_,rfl⟩
       obtain ⟨bq,hbq⟩ : ∃ bq,w52.heap.size = bq := ⟨_,rfl⟩
       rw [hbq] at PX ⊢;rw [← hY] at GB M1 PX ⊢;clear hY hbq KB GZ SP HS u0 u1 v0 v1;have s0 := PX.out.c0;have s1 := PX.out.c1;obtain ⟨Z1,hZ⟩ : ∃ Z1,Y.alloc (.cells #[.bool nr,.slice ar xr.length cr] 44) = Z1 := ⟨_,rfl⟩
       obtain ⟨bZ,szZ⟩ := alo1 Y (.cells #[.bool nr,.slice ar xr.length cr] 44);rw [hZ] at bZ szZ;have AZ : Arr Z1 Y.heap.size [(.bool nr,.slice ar xr.length cr)] := ⟨by rw [← hZ];exact Cel.new Y _ _,fun q hq => by simp at hq;subst hq;exact ⟨_,_,_,_,rfl⟩⟩
       have ZL : Zl Z1 (.slice (some ⟨Y.heap.size,0,none⟩) 1 1) [zz] 2097217 := zGH (AZ.prs (B := 0) (Nat.zero_le _) (by simp) (cap := 1) (by simp)) ⟨rfl,fun t q z hq hz => by
        match t,hq,hz with
        | 0,hq,hz => simp at hq hz;subst hq;subst hz;exact (M1.out.now bZ).zi⟩
       have HZ := hid (zSC (p := p) ZL (by omega) (by omega) hp2 (fun z hz => by simp at hz;subst hz;exact HROW.out));have G7 := hid (below_step (below_step G5.out GB.out) bZ);have EZ := hid hZ;clear AZ ZL bZ szZ hZ M1 PX GB G5;go_wp2_with fail;rw [EZ.out];refine HZ.out.mono ?_;rintro e w30 ⟨rfl,b⟩;have HN1 : Hid (MsI w9 c (c - (j + 1)) (.int .i64 ((j + 1 : Nat) : Int)) w30) := ⟨j + 1,rfl,by omega,rfl,below_step G7.out b⟩
       clear G7 HZ EZ b s0 s1;go_wp2_with fail;go_roundg (c - (j + 1))
       case rel => exact HN1.out
       case measure => exact HMM3.out
      ·skip
       go_simp;obtain ⟨V55,hW⟩ : ∃ V55,D51.alloc zbox = V55 := ⟨_,rfl⟩
       obtain ⟨b,sz55⟩ := alo1 D51 zbox;rw [hW] at b sz55;replace GB := hid (below_step GB.out b);have PX : Hid (Duo V55 D51.heap.size (.bool false) (.slice none 0 0)) := by unfold Hid;rw [← hW];exact Duo.new D51 _ _
       have SP : Hid (wr.heap.size ≤ D51.heap.size) := by unfold Hid;have := GZ.out;omega
       rw [hW];clear hW b;refine hK.out _ _ (fun _ => KB.out _ GB.out) ?_;clear hK
       try simp only [Act.put]
       refine zCA (i := 8) (o := ⟨some 194,.call { callee := .value (.func 14),args := #[.tmp 189,.tmp 193],argTypes := #[44,44] },44, "plain.go:313",#[⟨3,.data⟩,⟨7,.data⟩],none⟩) (by kernel_rfl) rfl (fun K hK => ?_);go_simp;go_at_call 14;refine (HS.out _ GB.out).mono ?_;rintro e w56 ⟨rr,rfl,m1,b⟩;have lz56 := (show Below _ _ _ from b).size;replace GB := hid (below_step GB.out b);have M1 := hid (m1.mono (Nat.zero_le _));obtain ⟨nr,xr,ar,cr,rfl⟩ := m1.parts;clear m1;replace PX := hid (PX.out.step b);clear b;refine hK.out _ _ (fun _ => KB.out _ GB.out) ?_;clear hK;refine zCA (i := 10) (o := ⟨none,.store 44 (.tmp 23) (.tmp 194),0, "plain.go:313",#[⟨9,.data⟩,⟨8,.data⟩,⟨8,.chain⟩,⟨0,.phase⟩,⟨1,.phase⟩,⟨2,.phase⟩,⟨3,.phase⟩,⟨4,.phase⟩,⟨5,.phase⟩,⟨6,.phase⟩,⟨7,.phase⟩,⟨8,.phase⟩,⟨9,.phase⟩],none⟩) (by kernel_rfl) rfl (fun K hK => ?_);have f0 := PX.out.c0;have f1 := PX.out.c1;have f2 := PX.out.fz 0;have f3 := PX.out.fz 1;go_simp;clear f0 f1 f2 f3;obtain ⟨V57,hW⟩ : ∃ V57,((w56.setCell ⟨D51.heap.size,0,none⟩ (.bool nr)).setCell ⟨D51.heap.size,1,none⟩ (.slice ar xr.length cr)) = V57 := ⟨_,rfl⟩
       replace GB : Hid (Below wr.heap.size wr V57) := by unfold Hid;rw [← hW];exact bset (bset GB.out SP.out) SP.out
       replace M1 : Hid (Zm 0 V57 (.agg #[.bool nr,.slice ar xr.length cr]) zz 2097217) := by unfold Hid;rw [← hW];exact M1.out.box PX.out _ _
       replace PX : Hid (Duo V57 D51.heap.size (.bool nr) (.slice ar xr.length cr)) := by unfold Hid;rw [← hW];exact PX.out.set _ _
       rw [hW];clear hW;refine hK.out _ _ (fun h => absurd h (by decide)) ?_;clear hK
       try simp only [Act.put]
       refine zFA (by kernel_rfl) ?_ _;obtain ⟨Y,hY⟩ : ∃ Y,Y = V57 := ⟨_,rfl⟩
       obtain ⟨bq,hbq⟩ : ∃ bq,D51.heap.size = bq := ⟨_,rfl⟩
       rw [hbq] at PX ⊢;rw [← hY] at GB M1 PX ⊢;clear hY hbq KB GZ SP HS u0 u1 v0 v1;have s0 := PX.out.c0;have s1 := PX.out.c1;obtain ⟨Z1,hZ⟩ : ∃ Z1,Y.alloc (.cells #[.bool nr,.slice ar xr.length cr] 44) = Z1 := ⟨_,rfl⟩
       obtain ⟨bZ,szZ⟩ := alo1 Y (.cells #[.bool nr,.slice ar xr.length cr] 44);rw [hZ] at bZ szZ;have AZ : Arr Z1 Y.heap.size [(.bool nr,.slice ar xr.length cr)] := ⟨by rw [← hZ];exact Cel.new Y _ _,fun q hq => by simp at hq;subst hq;exact ⟨_,_,_,_,rfl⟩⟩
       have ZL : Zl Z1 (.slice (some ⟨Y.heap.size,0,none⟩) 1 1) [zz] 2097217 := zGH (AZ.prs (B := 0) (Nat.zero_le _) (by simp) (cap := 1) (by simp)) ⟨rfl,fun t q z hq hz => by
        match t,hq,hz with
        | 0,hq,hz => simp at hq hz;subst hq;subst hz;exact (M1.out.now bZ).zi⟩
       have HZ := hid (zSC (p := p) ZL (by omega) (by omega) hp2 (fun z hz => by simp at hz;subst hz;exact HROW.out));have G7 := hid (below_step (below_step G5.out GB.out) bZ);have EZ := hid hZ;clear AZ ZL bZ szZ hZ M1 PX GB G5;go_wp2_with fail;rw [EZ.out];refine HZ.out.mono ?_;rintro e w30 ⟨rfl,b⟩;have HN1 : Hid (MsI w9 c (c - (j + 1)) (.int .i64 ((j + 1 : Nat) : Int)) w30) := ⟨j + 1,rfl,by omega,rfl,below_step G7.out b⟩
       clear G7 HZ EZ b s0 s1;go_wp2_with fail;go_roundg (c - (j + 1))
       case rel => exact HN1.out
       case measure => exact HMM3.out
     ·have hlt3' : ¬ (j : Int) < (c : Int) := by omega
      have GL := hid (below_step G9.out G5.out);have GM := hid (below_step B89.out G5.out);obtain ⟨Wm,hWm⟩ : ∃ Wm,wr = Wm := ⟨_,rfl⟩
      rw [hWm] at GL GM ⊢;have H6 : Hid (MsI Wm kr kr (.int .i64 0) Wm) := ⟨0,rfl,Nat.zero_le _,by omega,Below.refl _ _⟩
      clear G5 HG hWm ULA SXM VB VB9 PA B89;go_wp2_with fail
      go_loopg [24] kr (fun gk s24 wx => MsI Wm kr gk s24 wx)
      case atStart => exact H6.out
      case round =>
       clear H6;obtain ⟨i,rfl,hik,hg,hb6⟩ := hrel;have G6 := hid hb6;have HG := hid hg;clear hb6 hg
       by_cases hlt4 : i < kr
       ·have hlt4' : (i : Int) < (kr : Int) := by omega
        have hw4 := zkA (i := i) (by omega);have HMM4 : Hid (kr - (i + 1) < gk) := by unfold Hid;rw [HG.out];omega
        obtain ⟨g4,cp4,e4,k4⟩ := HPK.out wr (below_step GM.out G6.out) i hlt4;simp only [Value.slice.injEq] at e4;obtain ⟨rfl,-,rfl⟩ := e4;have hpr := HPI.out i hlt4;have hz4 := SXP.out i hlt4;obtain ⟨jv,hjv⟩ : ∃ jv,KP.getD i 0 = jv := ⟨_,rfl⟩
        rw [hjv] at k4 hpr hz4;have hsl : SX.length = r := by have h1 := ZCY.out.1;have h2 := PRY.out.form;obtain ⟨_,_,e,-⟩ := h2;simp only [Value.slice.injEq] at e;omega
        obtain ⟨b5,o5,c5,a5,d5,e5,k5⟩ := zeE (PRY.out.now (below_step GM.out G6.out)) (ZCY.out.now (below_step GM.out G6.out)) (t := jv) (by rw [hsl];exact hpr) hz4;rw [hsl] at e5;simp only [Value.slice.injEq] at e5;obtain ⟨rfl,-,rfl⟩ := e5;have hpr' : (jv : Int) < (r : Int) := by omega
        have q5 : ((0 : Int) != 0) = false := rfl;have HN1 : Hid (MsI Wm kr (kr - (i + 1)) (.int .i64 ((i + 1 : Nat) : Int)) wr) := ⟨i + 1,rfl,by omega,rfl,G6.out⟩
        clear hz4 hjv hsl HG;go_wp2_with fail;go_roundg (kr - (i + 1))
        case rel => exact HN1.out
        case measure => exact HMM4.out
       ·have hlt4' : ¬ (i : Int) < (kr : Int) := by omega
        have GE := hid (below_step GL.out G6.out);clear G6 HG;go_wp2;go_ret;exact ⟨rfl,GE.out⟩
  ·have hxc' : ((lx : Int) != (c : Int)) = true := by simp;omega
   have HF := hid (HSF.out _ G.out hxc);clear HVX HSY HSF HSO HSU HSM HSP HSX HRM HRA;go_wp2_with fail;refine HF.out.mono ?_;rintro e w8 ⟨rfl,b⟩;replace PA := hid (PA.out.step b);replace G := hid (below_step G.out b);clear HF b x0 x1 x2;have x1 := PA.out.at (i := 1) rfl;go_wp2;go_ret;exact ⟨rfl,G.out⟩
end Go.Proofs.YtkklldokdnfkgaaGreat
