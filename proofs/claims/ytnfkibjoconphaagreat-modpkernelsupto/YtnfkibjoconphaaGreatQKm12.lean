import Derived.Test.YtnfkibjoconphaaGreatQKl12ToRc12
import Derived.Test.YtnfkibjoconphaaGreatQSr12
import Derived.Test.YtnfkibjoconphaaGreatQLe12ToDWords
import Derived.Test.YtnfkibjoconphaaGreatQGatE6
import Derived.Test.YtnfkibjoconphaaGreatQChk9ToFn12
set_option maxRecDepth 100000
set_option maxHeartbeats 6400000
set_option linter.unusedVariables false
set_option linter.unusedSimpArgs false
namespace Go.Proofs.YtnfkibjoconphaaGreat
open Go.RowKit
theorem Mc.zlk12 {w : World} {r c l q : Nat} {a : Option Addr} {zs : List Int} {k : Nat} (h : Mc w (matv r c (.slice a l q)) r c zs k) : Zl w (.slice a l q) zs k := by
 obtain ⟨at_,ps,e1,e2,e3,-⟩ := h;simp only [Value.agg.injEq,Array.mk.injEq,List.cons.injEq,and_true] at e1;rw [e1.2.2];exact zrH e2 e3.zis
theorem Mx.at12 {w : World} {r c l q t : Nat} {a : Option Addr} {zs : List Int} {k : Nat} (h : Mx w (matv r c (.slice a l q)) r c zs k) (hl : r * c = l) (ht : t < l) : ∃ b off n a1 l1 d1,a = some ⟨b,off,none⟩ ∧ w.cell? ⟨b,off + t * 2,none⟩ = some (.bool n) ∧ w.cell? ⟨b,off + t * 2 + 1,none⟩ = some (.slice a1 l1 d1) ∧ Zi w (.agg #[.bool n,.slice a1 l1 d1]) (zs.getD t 0) k := by
 obtain ⟨at_,ps,e1,e2,e3,e4,-⟩ := h;simp only [Value.agg.injEq,Array.mk.injEq,List.cons.injEq,and_true] at e1;obtain ⟨b,off,cap,n,a1,l1,d1,h1,h2,h3,h4⟩ := e2.isI12 e3 (t := t) (by rw [e4,hl];exact ht);rw [← e1.2.2] at h1;simp only [Value.slice.injEq] at h1;exact ⟨b,off,n,a1,l1,d1,h1.1,h2,h3,h4⟩
theorem GatE.prs12 {W : World} {B k : Nat} {w : World} {v : Value} {zs : List Int} (h : GatE W B w v zs k) (hl : zs.length ≤ 1048576) (hW : Below W.heap.size W w) : ∃ ps,Prs 0 w v ps ∧ Zis w ps zs k :=
 (h.zl hl hW).prs fun c e => by
  obtain ⟨Us,⟨q1,⟨q2,q3⟩ | ⟨g,cap,cur,q2,q3,q4,q5⟩⟩,h3⟩ := h
  ·rw [q2] at e;cases e;rfl
  ·rw [q2] at e;cases e
theorem GatE.nbox {W : World} {B k b : Nat} {w : World} {v x y : Value} {zs : List Int} (h : GatE W B w v zs k) (d : Duo w b x y) (hb : ∀ g,v.ownBlock = some g → g < b) (u u' : Value) : GatE W B ((w.setCell ⟨b,0,none⟩ u).setCell ⟨b,1,none⟩ u') v zs k := by
 have d' : Cel w b 43 [x,y] := d;refine h.off ((Ty.set d').trans (Ty.set (d'.set _ _))) (fun g hg => ?_);have hne : b ≠ g := by have := hb g hg;omega
 exact (Below.heap_setCell _ _ u' g (fun q => hne (by simpa using q.symm))).trans (Below.heap_setCell w _ u g (fun q => hne (by simpa using q.symm)))
def klF (c : Nat) (zs : List Int) (EP : List Nat) (i t : Nat) : Int := if t < EP.length then zs.getD (i * c + EP.getD t 0) 0 else 0
def KlI (W1 : World) (r gk : Nat) (s : Value) (wx : World) : Prop := ∃ i : Nat,s = .int .i64 (i : Int) ∧ i ≤ r ∧ gk = r - i ∧ Below W1.heap.size W1 wx
def KlG (W1 W2 : World) (r : Nat) (F : Nat → Int) (gk : Nat) (s22 s23 : Value) (wx : World) : Prop := ∃ h : Nat,s23 = .int .i64 (h : Int) ∧ h ≤ r ∧ gk = r - h ∧ GatE W1 W2.heap.size wx s22 ((List.range h).map F) 1048576 ∧ Below W2.heap.size W2 wx
theorem modpKernels_ok {w : World} {va : Value} {r c p : Nat} {zs : List Int} (hp : gdB p = true) (ha : Mx w va r c zs 1048576) :
  Calls Tryz.prog 3 #[va,.int .u64 (p : Int)] w fun e w' => e = .returned (.bool true) ∧ Below w.heap.size w w' := by
 obtain ⟨hpr,hp2⟩ := zWC hp;have hp1 := hpr.1
 haveI : NeZero p := ⟨by omega⟩
 have MA := hid ha;have hzl : zs.length = r * c := by obtain ⟨_,_,_,_,_,q,_⟩ := ha;exact q
 obtain ⟨a,cap,rfl,hr,hc⟩ := ha.form;have SNA : Snd (r : Int) (c : Int) (r * c) := ⟨by omega,by omega,by omega,by omega,by simp⟩
 have hb1 : r * c ≤ 64 * 64 := Nat.mul_le_mul hr hc;have ho := Ok12.red (p := p) hp1 (zSA (p := p) hzl) (zZA (p := p) (r := r) (c := c) (zs := zs) (by omega)) (zOA _ _ _ _) c;have hkw : wkR p r c zs ≤ r := Nat.le_trans (zOG _ _) (zBG (p := p) (c := c) (r := r) hp1 hzl).piv;have KO := zBG (p := p) (c := c) (r := r) hp1 hzl;have kwd : WidE r (kerL p r c zs) := by
  have := zsE (left := c) (top := wkR p r c zs) KO.wid
  rwa [Nat.add_sub_cancel_left] at this
 have kln : (kerL p r c zs).length = r - wkR p r c zs := zvF KO.len;have krs : ResM p (kerL p r c zs) := zuF KO.res;have RZ1 := hid (ech_rz12 hpr hzl);have RZ2 := hid (ker_rz12 hpr hzl);have KML := hid (ker_mul12 hpr hzl kwd kln);have ERW : Hid (∀ i j,i < r → j < c → (su r (fun t => (if t < (zUA p (zHA p r c zs) c).pv.length then zs.getD (i * c + (zUA p (zHA p r c zs) c).pv.getD t 0) 0 else 0) * ent (zUA p (zHA p r c zs) c).m t j) - zs.getD (i * c + j) 0) % (p : Int) = 0) := fun i j hi hj => ech_row12 hpr hzl hi hj
 have RKT := hid (rank_turn12 hpr hzl);have KPL : Hid ((((wkS p r c zs).pv.drop (wkR p r c zs)).map (· - c)).length = r - wkR p r c zs) := by
  unfold Hid;simp [zQF hpr hzl]
 have EFL : Hid (∀ i j,i < r → j < c → (zUA p (zHA p r c zs) c).m.flatten.getD (i * c + j) 0 = ent (zUA p (zHA p r c zs) c).m i j) := fun i j hi hj => zAD ho.wid (by rw [ho.len];exact hi) hj
 have KFL : Hid (∀ i j,i < r - wkR p r c zs → j < r → (kerL p r c zs).flatten.getD (i * r + j) 0 = ent (kerL p r c zs) i j) := fun i j hi hj => zAD kwd (by rw [kln];exact hi) hj
 have ERS := hid (zgC ho.res);have KRS := hid (zgC krs);have HEC : Hid (∀ w',Below w.heap.size w w' → Calls Tryz.prog 11 #[matv r c (.slice a (r * c) cap),.int .u64 (p : Int)] w' (zAB w' r c (zUA p (zHA p r c zs) c).m.flatten 1)) := fun w' h => echelon12 hp (MA.out.now h) (by omega)
 have HKE : Hid (∀ w',Below w.heap.size w w' → Calls Tryz.prog 12 #[matv r c (.slice a (r * c) cap),.int .u64 (p : Int)] w' (zAB w' (r - wkR p r c zs) r (kerL p r c zs).flatten 1)) := fun w' h => kernel12 hp (MA.out.now h) (by omega)
 have HRK : Hid (∀ w',Below w.heap.size w w' → Calls Tryz.prog 10 #[matv r c (.slice a (r * c) cap),.int .u64 (p : Int)] w' (fun e w'' => e = .returned (.tuple #[.int .i64 ((zUA p (zHA p r c zs) c).pv.length : Int),.int .i64 0]) ∧ Below w'.heap.size w' w'')) := fun w' h => zAI hp (MA.out.now h) (by omega)
 have HTU : Hid (∀ w',Below w.heap.size w w' → Calls Tryz.prog 9 #[matv r c (.slice a (r * c) cap)] w' (zAB w' c r (zsD r c zs) 1048576)) := fun w' h => rturn12 (MA.out.now h) (by omega)
 have HMK : Hid (∀ w' v,Below w.heap.size w w' → Mx w' v (r - wkR p r c zs) r (kerL p r c zs).flatten 1 → Calls Tryz.prog 15 #[v,matv r c (.slice a (r * c) cap)] w' (zAB w' (r - wkR p r c zs) c (mulL (r - wkR p r c zs) r c (kerL p r c zs).flatten zs) 1048641)) := fun w' v h hv => by
  have := rmul12 hv (MA.out.now h) (by omega);exact this
 have hwr := wkR_rank hpr hzl;rw [hwr] at hkw kln RZ2 KML KPL KFL HKE HMK;generalize (zUA p (zHA p r c zs) c).m = E at *;generalize hEP : (zUA p (zHA p r c zs) c).pv = EP at *;generalize kerL p r c zs = K at *;generalize ((wkS p r c zs).pv.drop EP.length).map (· - c) = KP at *;obtain ⟨kr,hkr⟩ : ∃ kr,r - EP.length = kr := ⟨_,rfl⟩
 rw [hkr] at kln RZ2 KML KPL KFL HKE HMK;have hkr2 : kr ≤ 64 := by omega
 have hb3 : kr * r ≤ 64 * 64 := Nat.mul_le_mul hkr2 hr;have SNK : Snd (kr : Int) (r : Int) (kr * r) := ⟨by omega,by omega,by omega,by omega,by simp⟩
 obtain ⟨l,hl⟩ : ∃ l,r * c = l := ⟨_,rfl⟩
 obtain ⟨l2,hl2⟩ : ∃ l2,c * r = l2 := ⟨_,rfl⟩
 obtain ⟨l3,hl3⟩ : ∃ l3,kr * r = l3 := ⟨_,rfl⟩
 obtain ⟨l4,hl4⟩ : ∃ l4,kr * c = l4 := ⟨_,rfl⟩
 rw [hl] at MA hb1 SNA HEC HKE HRK HTU HMK ⊢;rw [hl3] at hb3 SNK;have HL := hid hl;have HL2 := hid hl2;have HL3 := hid hl3;have HL4 := hid hl4;have HSA : Hid (∀ w',Calls Tryz.prog 6 #[mrV (r : Int) (c : Int) a l cap] w' fun e w'' => e = .returned (.bool true) ∧ Below w'.heap.size w' w'') := fun w' => zyD (s := true) (by omega) ⟨fun _ => SNA,fun _ => rfl⟩
 have HLP : Hid (∀ w',Calls Tryz.prog 7 #[.int .u64 (p : Int)] w' fun e w'' => e = .returned (.bool true) ∧ w'' = w') := fun w' => by have := zFE (w := w') (p := p);rw [hp] at this;exact this
 have HSE : Hid (∀ w' a cap,Calls Tryz.prog 6 #[mrV (r : Int) (c : Int) a l cap] w' fun e w'' => e = .returned (.bool true) ∧ Below w'.heap.size w' w'') := fun w' a cap => zyD (s := true) (by omega) ⟨fun _ => SNA,fun _ => rfl⟩
 have HSK : Hid (∀ w' a cap,Calls Tryz.prog 6 #[mrV (kr : Int) (r : Int) a l3 cap] w' fun e w'' => e = .returned (.bool true) ∧ Below w'.heap.size w' w'') := fun w' a cap => zyD (s := true) (by omega) ⟨fun _ => SNK,fun _ => rfl⟩
 obtain ⟨W0,hW⟩ : ∃ W0,w.alloc (mrO (r : Int) (c : Int) a l cap) = W0 := ⟨_,rfl⟩
 obtain ⟨b0,sz0⟩ := zJA w (mrO (r : Int) (c : Int) a l cap);rw [hW] at b0 sz0;have PA : Hid (Cel W0 w.heap.size 24 (mrC (r : Int) (c : Int) a l cap)) := by unfold Hid;rw [← hW];exact Cel.new w _ _
 have HW := hid (zCG W0);have G0 := hid b0;have EW := hid hW;have HPR := hid hp;have HKR := hid hkr;have hEL : EP.length ≤ r := hkw;clear b0 sz0 hW ha hpr hp hzl hl hl2 hl3 hl4 SNA SNK hkr ho KO kwd kln krs hwr;go_enter Tryz.func3,Tryz.ntmps3;go_wp2_with fail;rw [EW.out];refine HW.out.mono ?_;rintro e w1 ⟨rfl,b1⟩;replace PA := hid (PA.out.step b1);have G := hid (below_step G0.out b1);clear HW EW b1 G0;have x0 := PA.out.at (i := 0) rfl;have x1 := PA.out.at (i := 1) rfl;have x2 := PA.out.at (i := 2) rfl;go_wp2_with fail;refine (HSA.out w1).mono ?_;rintro e w2 ⟨rfl,b⟩;replace PA := hid (PA.out.step b);replace G := hid (below_step G.out b);clear b x0 x1 x2 HSA;have x0 := PA.out.at (i := 0) rfl;have x1 := PA.out.at (i := 1) rfl;have x2 := PA.out.at (i := 2) rfl;go_wp2_with fail;refine (HLP.out w2).mono ?_;rintro e w4 ⟨rfl,rfl⟩;go_wp2_with fail;refine (HTU.out _ G.out).mono ?_;rintro e w5 ⟨v_,rfl,hm,b⟩;obtain ⟨a_t,q_t,rfl,-,-⟩ := hm.mx.form;rw [HL2.out] at hm ⊢;obtain ⟨V5,hV⟩ : ∃ V,w5.alloc (matO c r (.slice a_t l2 q_t)) = V := ⟨_,rfl⟩
 obtain ⟨bV,szV⟩ := zJA w5 (matO c r (.slice a_t l2 q_t));rw [hV] at bV szV;have b2 := below_step b bV;replace G := hid (below_step G.out b2);replace PA := hid (PA.out.step b2);have Pt : Hid (Cel V5 w5.heap.size 24 (matc c r (.slice a_t l2 q_t))) := by unfold Hid;rw [← hV];exact Cel.new _ _ _
 have Mt := hid (hm.now bV);have EV := hid hV;clear hm b bV szV b2 hV x0 x1 x2 HTU HLP;have x0 := PA.out.at (i := 0) rfl;have x1 := PA.out.at (i := 1) rfl;have x2 := PA.out.at (i := 2) rfl;rw [← EV.out] at x0 x1 x2;go_wp2_with fail;rw [EV.out];clear EV x0 x1 x2;refine (HRK.out _ G.out).mono ?_;rintro e w6 ⟨rfl,b⟩;replace PA := hid (PA.out.step b);replace Pt := hid (Pt.out.step b);replace Mt := hid (Mt.out.now b);replace G := hid (below_step G.out b);clear b HRK;have x0 := Pt.out.at (i := 0) rfl;have x1 := Pt.out.at (i := 1) rfl;have x2 := Pt.out.at (i := 2) rfl;go_wp2_with fail;refine (zAI HPR.out Mt.out.mx (by omega)).mono ?_;rw [RKT.out];rintro e w7 ⟨rfl,b⟩;replace PA := hid (PA.out.step b);replace G := hid (below_step G.out b);clear b x0 x1 x2 Mt Pt RKT;have x0 := PA.out.at (i := 0) rfl;have x1 := PA.out.at (i := 1) rfl;have x2 := PA.out.at (i := 2) rfl;go_wp2_with fail;refine (HEC.out _ G.out).mono ?_;rintro e w8 ⟨v_,rfl,hm,b⟩;obtain ⟨a_e,q_e,rfl,-,-⟩ := hm.mx.form;rw [HL.out] at hm ⊢;obtain ⟨V8,hV⟩ : ∃ V,w8.alloc (matO r c (.slice a_e l q_e)) = V := ⟨_,rfl⟩
 obtain ⟨bV,szV⟩ := zJA w8 (matO r c (.slice a_e l q_e));rw [hV] at bV szV;have b2 := below_step b bV;replace G := hid (below_step G.out b2);replace PA := hid (PA.out.step b2);have Pe : Hid (Cel V8 w8.heap.size 24 (matc r c (.slice a_e l q_e))) := by unfold Hid;rw [← hV];exact Cel.new _ _ _
 have Me := hid (hm.now bV);have EV := hid hV;clear hm b bV szV b2 hV x0 x1 x2 HEC;have x0 := PA.out.at (i := 0) rfl;have x1 := PA.out.at (i := 1) rfl;have x2 := PA.out.at (i := 2) rfl;rw [← EV.out] at x0 x1 x2;go_wp2_with fail;rw [EV.out];clear EV x0 x1 x2;refine (HKE.out _ G.out).mono ?_;rintro e w9 ⟨v_,rfl,hm,b⟩;obtain ⟨a_k,q_k,rfl,-,-⟩ := hm.mx.form;rw [HL3.out] at hm ⊢;obtain ⟨V9,hV⟩ : ∃ V,w9.alloc (matO kr r (.slice a_k l3 q_k)) = V := ⟨_,rfl⟩
 obtain ⟨bV,szV⟩ := zJA w9 (matO kr r (.slice a_k l3 q_k));rw [hV] at bV szV;have b2 := below_step b bV;replace G := hid (below_step G.out b2);replace PA := hid (PA.out.step b2);replace Pe := hid (Pe.out.step b2);have Pk : Hid (Cel V9 w9.heap.size 24 (matc kr r (.slice a_k l3 q_k))) := by unfold Hid;rw [← hV];exact Cel.new _ _ _
 replace Me := hid (Me.out.now b2);have Mk := hid (hm.now bV);have EV := hid hV;clear hm b bV szV b2 hV HKE;have x0 := Pe.out.at (i := 0) rfl;have x1 := Pe.out.at (i := 1) rfl;have x2 := Pe.out.at (i := 2) rfl;rw [← EV.out] at x0 x1 x2;have q1 : ((EP.length : Int) != (EP.length : Int)) = false := by simp
 go_wp2_with fail;rw [EV.out];refine (HSE.out _ _ _).mono ?_;rintro e w10 ⟨rfl,b⟩;replace PA := hid (PA.out.step b);replace Pe := hid (Pe.out.step b);replace Pk := hid (Pk.out.step b);replace Me := hid (Me.out.now b);replace Mk := hid (Mk.out.now b);replace G := hid (below_step G.out b);clear b EV x0 x1 x2 HSE q1;have y0 := Pk.out.at (i := 0) rfl;have y1 := Pk.out.at (i := 1) rfl;have y2 := Pk.out.at (i := 2) rfl;go_wp2_with fail;refine (HSK.out _ _ _).mono ?_;rintro e w11 ⟨rfl,b⟩;replace PA := hid (PA.out.step b);replace Pe := hid (Pe.out.step b);replace Pk := hid (Pk.out.step b);replace Me := hid (Me.out.now b);replace Mk := hid (Mk.out.now b);replace G := hid (below_step G.out b);clear b HSK y0 y1 y2;have y0 := Pk.out.at (i := 0) rfl;have y1 := Pk.out.at (i := 1) rfl;have y2 := Pk.out.at (i := 2) rfl;have x0 := Pe.out.at (i := 0) rfl;have x1 := Pe.out.at (i := 1) rfl;have x2 := Pe.out.at (i := 2) rfl;have z0 := PA.out.at (i := 0) rfl;have z1 := PA.out.at (i := 1) rfl;have z2 := PA.out.at (i := 2) rfl;have q1 : ((r : Int) != (r : Int)) = false := by simp
 have q2 : ((c : Int) != (c : Int)) = false := by simp
 have q3 : IntKind.i64.wrap ((r : Int) - (EP.length : Int)) = (kr : Int) := by rw [zPA] <;> (have := HKR.out;omega)
 have q3' := q3;rw [IntKind.wrap_i64] at q3';have q4 : ((kr : Int) != (kr : Int)) = false := by simp
 have HLE : Hid (Calls Tryz.prog 13 #[.slice a_e l q_e,.int .u64 (p : Int)] w11 fun e w' => e = .returned (.bool true) ∧ w' = w11) := by
  obtain ⟨_,ps,e1,e2,e3,-⟩ := Me.out;simp only [Value.agg.injEq,Array.mk.injEq,List.cons.injEq,and_true] at e1;rw [e1.2.2];exact zEE e2 e3 ERS.out hp2
 have HLK : Hid (Calls Tryz.prog 13 #[.slice a_k l3 q_k,.int .u64 (p : Int)] w11 fun e w' => e = .returned (.bool true) ∧ w' = w11) := by
  obtain ⟨_,ps,e1,e2,e3,-⟩ := Mk.out;simp only [Value.agg.injEq,Array.mk.injEq,List.cons.injEq,and_true] at e1;rw [e1.2.2];exact zEE e2 e3 KRS.out hp2
 go_wp2_with fail;refine HLE.out.mono ?_;rintro e w12 ⟨rfl,rfl⟩;clear HLE;go_wp2_with fail;refine HLK.out.mono ?_;rintro e w13 ⟨rfl,rfl⟩;clear HLK q1 q2 q3 q3' q4 z0 z1 z2 ERS KRS;go_wp2_with fail;refine (stairs12 Me.out EFL.out RZ1.out).mono ?_;rintro e w14 ⟨ue,rfl,hpe,b⟩;replace PA := hid (PA.out.step b);replace Pe := hid (Pe.out.step b);replace Pk := hid (Pk.out.step b);replace Me := hid (Me.out.now b);replace Mk := hid (Mk.out.now b);replace G := hid (below_step G.out b);have PE := hid hpe;obtain ⟨ae,ce,rfl,-⟩ := hpe.form;clear b hpe x0 x1 x2 y0 y1 y2;have y0 := Pk.out.at (i := 0) rfl;have y1 := Pk.out.at (i := 1) rfl;have y2 := Pk.out.at (i := 2) rfl;go_wp2_with fail;refine (stairs12 Mk.out KFL.out RZ2.out).mono ?_;rintro e w15 ⟨uk,rfl,hpk,b⟩;replace PA := hid (PA.out.step b);replace Pe := hid (Pe.out.step b);replace Pk := hid (Pk.out.step b);replace Me := hid (Me.out.now b);replace Mk := hid (Mk.out.now b);replace G := hid (below_step G.out b);replace PE := hid (PE.out.now b);obtain ⟨ak,ck,rfl,-⟩ := hpk.form;rw [KPL.out] at hpk ⊢;have EFL2 := hid EFL.out;clear b y0 y1 y2 hpk RZ2 KFL EFL;have q1 : ((EP.length : Int) != (EP.length : Int)) = false := by simp
 have q4 : ((kr : Int) != (kr : Int)) = false := by simp
 have y0 := Pk.out.at (i := 0) rfl;have y1 := Pk.out.at (i := 1) rfl;have y2 := Pk.out.at (i := 2) rfl;have x0 := PA.out.at (i := 0) rfl;have x1 := PA.out.at (i := 1) rfl;have x2 := PA.out.at (i := 2) rfl;go_wp2_with fail;refine (HMK.out _ _ G.out Mk.out.mx).mono ?_;rintro e w16 ⟨v_,rfl,hm,b⟩;obtain ⟨a_z,q_z,rfl,-,-⟩ := hm.mx.form;rw [HL4.out] at hm ⊢;obtain ⟨V16,hV⟩ : ∃ V,w16.alloc (matO kr c (.slice a_z l4 q_z)) = V := ⟨_,rfl⟩
 obtain ⟨bV,szV⟩ := zJA w16 (matO kr c (.slice a_z l4 q_z));rw [hV] at bV szV;have b2 := below_step b bV;replace G := hid (below_step G.out b2);replace PA := hid (PA.out.step b2);replace Pe := hid (Pe.out.step b2);replace Pk := hid (Pk.out.step b2);have Pz : Hid (Cel V16 w16.heap.size 24 (matc kr c (.slice a_z l4 q_z))) := by unfold Hid;rw [← hV];exact Cel.new _ _ _
 replace Me := hid (Me.out.now b2);replace Mk := hid (Mk.out.now b2);have Mz := hid (hm.now bV);have EV := hid hV;replace PE := hid (PE.out.now b2);have HZZ := hid (zID (p := p) (Mz.out.zlk12) (by omega) (by omega) hp2 KML.out);clear hm b bV szV b2 hV HMK x0 x1 x2 y0 y1 y2 q1 q4;have x0 := Pz.out.at (i := 0) rfl;have x1 := Pz.out.at (i := 1) rfl;have x2 := Pz.out.at (i := 2) rfl;rw [← EV.out] at x0 x1 x2;go_wp2_with fail;rw [EV.out];refine HZZ.out.mono ?_;rintro e w17 ⟨rfl,b⟩;replace PA := hid (PA.out.step b);replace Pe := hid (Pe.out.step b);replace Me := hid (Me.out.now b);replace G := hid (below_step G.out b);replace PE := hid (PE.out.now b);clear b EV x0 x1 x2 HZZ Pz Mz Pk Mk KML;obtain ⟨be,hbe⟩ : ∃ be,w8.heap.size = be := ⟨_,rfl⟩
 rw [hbe] at Pe ⊢;have MA1 := hid (MA.out.now G.out);have H0 : Hid (KlI w17 r r (.int .i64 0) w17) := ⟨0,rfl,Nat.zero_le _,by omega,Below.refl _ _⟩
 have HGE : Hid (w.heap.size < w17.heap.size ∧ be < w17.heap.size) := ⟨PA.out.blk,Pe.out.blk⟩
 clear hbe HL2 HL3 HL4 HKR HPR KPL MA hkr2 hb3
 as_aux_lemma =>
 go_wp2_with fail
 go_loopg [21] r (fun gk s21 wx => KlI w17 r gk s21 wx)
 case atStart => exact H0.out
 case round =>
  clear H0;obtain ⟨i,rfl,hir,hg,hbx⟩ := hrel;have GX := hid hbx;have HG := hid hg;clear hbx hg;have x0 := (PA.out.step GX.out).at (i := 0) rfl
  by_cases hlt : i < r
  ·have hlt' : (i : Int) < (r : Int) := by omega
   have hw := zmA (i := i) (by omega);have HMM : Hid (r - (i + 1) < gk) := by unfold Hid;rw [HG.out];omega
   obtain ⟨W2,hW2⟩ : ∃ W2,wr = W2 := ⟨_,rfl⟩
   rw [hW2] at GX x0 ⊢;have H1 : Hid (KlG w17 W2 r (klF c zs EP i) r (.slice none 0 0) (.int .i64 0) W2) := ⟨0,rfl,Nat.zero_le _,by omega,GatE.nil _ _ _ _,Below.refl _ _⟩
   clear HG hW2;go_wp2_with fail
   go_loopg [22,23] r (fun gk2 s22 s23 wx => KlG w17 W2 r (klF c zs EP i) gk2 s22 s23 wx)
   case atStart => exact H1.out
   case round =>
    clear H1 x0;obtain ⟨h,rfl,hhr,hg,hgat,hb2⟩ := hrel;have GA := hid hgat;have G2 := hid hb2;have HG := hid hg;have G3 := hid (below_step GX.out hb2);have hll : ((List.range h).map (klF c zs EP i)).length = h := by simp
    obtain ⟨ga,gc,rfl,-⟩ := hgat.form;rw [hll] at GA ⊢;have HLL := hid hll;clear hll hgat hb2 hg;have e0 := (Pe.out.step G3.out).at (i := 0) rfl
    by_cases hlt2 : h < r
    ·have hlt2' : (h : Int) < (r : Int) := by omega
     have hw2 := zmA (i := h) (by omega);have HMM2 : Hid (r - (h + 1) < gk) := by unfold Hid;rw [HG.out];omega
     obtain ⟨X1,hX⟩ : ∃ X1,wr.alloc zbox = X1 := ⟨_,rfl⟩
     obtain ⟨bX,szX⟩ := alo1 wr zbox;rw [hX] at bX szX;have PX : Hid (Duo X1 wr.heap.size (.bool false) (.slice none 0 0)) := by unfold Hid;rw [← hX];exact Duo.new wr _ _
     have HOB : Hid (∀ g,(Value.slice ga h gc).ownBlock = some g → g < wr.heap.size) := fun g hg => (GA.out.own hg).2
     have HGX : Hid (W2.heap.size ≤ wr.heap.size) := G2.out.size;obtain ⟨bx,hbx⟩ : ∃ bx,wr.heap.size = bx := ⟨_,rfl⟩
     rw [hbx] at PX HOB HGX;have GA1 := hid (GA.out.now bX);have G21 := hid (below_step G2.out bX);have G31 := hid (below_step G3.out bX);have EX := hid hX;have HBX := hid hbx;have HSX : Hid (X1.heap.size = bx + 1) := by unfold Hid;rw [szX,hbx]
     clear bX szX hX hbx GA G2 G3 HG
     by_cases hhe : h < EP.length
     ·have hhe' : (h : Int) < (EP.length : Int) := by omega
      obtain ⟨jv,hjv⟩ : ∃ jv,EP.getD h 0 = jv := ⟨_,rfl⟩
      have hjc : jv < c := by rw [← hjv];exact RZ1.out.lt h hhe
      have hp1 : i * c + jv < l := by rw [← HL.out];exact zkA hlt hjc
      obtain ⟨b1,o1,n1,a1,l1,d1,rfl,u0',u1',z1⟩ := MA1.out.at12 HL.out hp1;obtain ⟨g5,cap5,e5,y5'⟩ := PE.out.at12 hhe;simp only [Value.slice.injEq] at e5;obtain ⟨rfl,-,rfl⟩ := e5;rw [hjv] at y5';have ZE : Hid (Zi w17 (.agg #[.bool n1,.slice a1 l1 d1]) (klF c zs EP i h) 1048576) := by
       unfold Hid klF;rw [if_pos hhe,hjv];exact z1
      have u0 := cnow G31.out u0';have u1 := cnow G31.out u1';have y5 := cnow G31.out y5';have x1 := (PA.out.step G31.out).at (i := 1) rfl;have x2 := (PA.out.step G31.out).at (i := 2) rfl;have k2 := zCB (i := i) (c := c) (by omega) hc;have k4 : IntKind.i64.wrap (((i * c : Nat) : Int) + (jv : Int)) = ((i * c + jv : Nat) : Int) := by rw [zPA] <;> omega
      obtain ⟨q2,hq2⟩ : ∃ q2,i * c = q2 := ⟨_,rfl⟩
      rw [hq2] at hp1 k2 k4 u0 u1;obtain ⟨t2,ht2⟩ : ∃ t2,q2 + jv = t2 := ⟨_,rfl⟩
      rw [ht2] at hp1 k4 u0 u1;have hp1' : (t2 : Int) < (l : Int) := by omega
      have k2' := k2;have k4' := k4;rw [IntKind.wrap_i64] at k2' k4';clear z1 hq2 ht2 u0' u1' y5' hjv;go_wp2_with fail;rw [EX.out,HBX.out];clear EX HBX e0;have KB : Hid (∀ w',Below X1.heap.size X1 w' → w'.cell? ⟨w.heap.size,1,none⟩ = some (.int .i64 (c : Int)) ∧ w'.cell? ⟨w.heap.size,2,none⟩ = some (.slice (some ⟨b1,o1,none⟩) l cap) ∧ w'.cell? ⟨g5,h,none⟩ = some (.int .i64 (jv : Int)) ∧ w'.cell? ⟨b1,o1 + t2 * 2,none⟩ = some (.bool n1) ∧ w'.cell? ⟨b1,o1 + t2 * 2 + 1,none⟩ = some (.slice a1 l1 d1)) := fun w' h => ⟨cnow h x1,cnow h x2,cnow h y5,cnow h u0,cnow h u1⟩
      refine zDA (fun w' => w'.cell? ⟨w.heap.size,1,none⟩ = some (.int .i64 (c : Int)) ∧ w'.cell? ⟨w.heap.size,2,none⟩ = some (.slice (some ⟨b1,o1,none⟩) l cap) ∧ w'.cell? ⟨g5,h,none⟩ = some (.int .i64 (jv : Int)) ∧ w'.cell? ⟨b1,o1 + t2 * 2,none⟩ = some (.bool n1) ∧ w'.cell? ⟨b1,o1 + t2 * 2 + 1,none⟩ = some (.slice a1 l1 d1)) 13 (by kernel_rfl) ?_;obtain ⟨D1,hD⟩ : ∃ D1,X1.drew = D1 := ⟨_,rfl⟩
      have GB : Hid (Below X1.heap.size X1 D1) := by unfold Hid;rw [← hD];exact (Below.refl _ _).drew
      rw [hD];clear hD;have GBs := GB;refine zAA (i := 0) (oi := ⟨some 199,.fieldAddr 24 (.tmp 2) 2,0, "plain.go:233",#[],none⟩) (v := (.pointer (some ⟨w.heap.size,2,none⟩))) rfl (by kernel_rfl) (fun _ _ _ h => h) (Or.inl ⟨by rfl,?_⟩) (KB.out _ GB.out) ?_
      ·intro w hSw;(try dsimp only at hSw);go_simp
      simp only [Act.put,sIb,sC0,sC1];refine zAA (i := 1) (oi := ⟨some 200,.load 22 (.tmp 199),22, "plain.go:233",#[⟨0,.data⟩],none⟩) (v := (.slice (some ⟨b1,o1,none⟩) l cap)) rfl (by kernel_rfl) (fun _ _ _ h => h) (Or.inl ⟨by rfl,?_⟩) (KB.out _ GB.out) ?_
      ·intro w hSw;(try dsimp only at hSw);go_simp
      simp only [Act.put,sIb,sC0,sC1];refine zAA (i := 2) (oi := ⟨some 201,.move (.tmp 21),3, "plain.go:233",#[],none⟩) (v := (.int .i64 (i : Int))) rfl (by kernel_rfl) (fun _ _ _ h => h) (Or.inl ⟨by rfl,?_⟩) (KB.out _ GB.out) ?_
      ·intro w hSw;(try dsimp only at hSw);go_simp
      simp only [Act.put,sIb,sC0,sC1];refine zAA (i := 3) (oi := ⟨some 202,.fieldAddr 24 (.tmp 2) 1,0, "plain.go:233",#[],none⟩) (v := (.pointer (some ⟨w.heap.size,1,none⟩))) rfl (by kernel_rfl) (fun _ _ _ h => h) (Or.inl ⟨by rfl,?_⟩) (KB.out _ GB.out) ?_
      ·intro w hSw;(try dsimp only at hSw);go_simp
      simp only [Act.put,sIb,sC0,sC1];refine zAA (i := 4) (oi := ⟨some 203,.load 3 (.tmp 202),3, "plain.go:233",#[⟨3,.data⟩],none⟩) (v := (.int .i64 (c : Int))) rfl (by kernel_rfl) (fun _ _ _ h => h) (Or.inl ⟨by rfl,?_⟩) (KB.out _ GB.out) ?_
      ·intro w hSw;(try dsimp only at hSw);go_simp
      simp only [Act.put,sIb,sC0,sC1];refine zAA (i := 5) (oi := ⟨some 204,.binOp .mul 3 (.tmp 201) (.tmp 203) 3,3, "plain.go:233",#[⟨2,.data⟩,⟨4,.data⟩],none⟩) (v := (.int .i64 (q2 : Int))) rfl (by kernel_rfl) (fun _ _ _ h => h) (Or.inl ⟨by rfl,?_⟩) (KB.out _ GB.out) ?_
      ·intro w hSw;(try dsimp only at hSw);go_simp
      simp only [Act.put,sIb,sC0,sC1];refine zAA (i := 6) (oi := ⟨some 205,.move (.tmp 15),37, "plain.go:233",#[],none⟩) (v := (.slice (some ⟨g5,0,none⟩) EP.length ce)) rfl (by kernel_rfl) (fun _ _ _ h => h) (Or.inl ⟨by rfl,?_⟩) (KB.out _ GB.out) ?_
      ·intro w hSw;(try dsimp only at hSw);go_simp
      simp only [Act.put,sIb,sC0,sC1];refine zAA (i := 7) (oi := ⟨some 206,.move (.tmp 23),3, "plain.go:233",#[],none⟩) (v := (.int .i64 (h : Int))) rfl (by kernel_rfl) (fun _ _ _ h => h) (Or.inl ⟨by rfl,?_⟩) (KB.out _ GB.out) ?_
      ·intro w hSw;(try dsimp only at hSw);go_simp
      simp only [Act.put,sIb,sC0,sC1];refine zAA (i := 8) (oi := ⟨some 207,.indexAddr 37 (.tmp 205) (.tmp 206),0, "plain.go:233",#[⟨6,.data⟩,⟨7,.data⟩],none⟩) (v := (.pointer (some ⟨g5,h,none⟩))) rfl (by kernel_rfl) (fun _ _ _ h => h) (Or.inl ⟨by rfl,?_⟩) (KB.out _ GB.out) ?_
      ·intro w hSw;(try dsimp only at hSw);go_simp
      simp only [Act.put,sIb,sC0,sC1];refine zAA (i := 9) (oi := ⟨some 208,.load 3 (.tmp 207),3, "plain.go:233",#[⟨8,.data⟩],none⟩) (v := (.int .i64 (jv : Int))) rfl (by kernel_rfl) (fun _ _ _ h => h) (Or.inl ⟨by rfl,?_⟩) (KB.out _ GB.out) ?_
      ·intro w hSw;(try dsimp only at hSw);go_simp
      simp only [Act.put,sIb,sC0,sC1];refine zAA (i := 10) (oi := ⟨some 209,.binOp .add 3 (.tmp 204) (.tmp 208) 3,3, "plain.go:233",#[⟨5,.data⟩,⟨9,.data⟩],none⟩) (v := (.int .i64 (t2 : Int))) rfl (by kernel_rfl) (fun _ _ _ h => h) (Or.inl ⟨by rfl,?_⟩) (KB.out _ GB.out) ?_
      ·intro w hSw;(try dsimp only at hSw);go_simp
      simp only [Act.put,sIb,sC0,sC1];refine zAA (i := 11) (oi := ⟨some 210,.indexAddr 22 (.tmp 200) (.tmp 209),0, "plain.go:233",#[⟨1,.data⟩,⟨10,.data⟩],none⟩) (v := (.pointer (some ⟨b1,o1 + t2 * 2,none⟩))) rfl (by kernel_rfl) (fun _ _ _ h => h) (Or.inl ⟨by rfl,?_⟩) (KB.out _ GB.out) ?_
      ·intro w hSw;(try dsimp only at hSw);go_simp
      simp only [Act.put,sIb,sC0,sC1];refine zAA (i := 12) (oi := ⟨some 211,.load 43 (.tmp 210),43, "plain.go:233",#[⟨11,.data⟩],none⟩) (v := (.agg #[.bool n1,.slice a1 l1 d1])) rfl (by kernel_rfl) (fun _ _ _ h => h) (Or.inl ⟨by rfl,?_⟩) (KB.out _ GB.out) ?_
      ·intro w hSw;(try dsimp only at hSw);go_simp
      simp only [Act.put,sIb,sC0,sC1];refine zBA (i := 13) (o := ⟨none,.store 43 (.tmp 24) (.tmp 211),0, "plain.go:233",#[⟨12,.data⟩,⟨0,.phase⟩,⟨1,.phase⟩,⟨2,.phase⟩,⟨3,.phase⟩,⟨4,.phase⟩,⟨5,.phase⟩,⟨6,.phase⟩,⟨7,.phase⟩,⟨8,.phase⟩,⟨9,.phase⟩,⟨10,.phase⟩,⟨11,.phase⟩,⟨12,.phase⟩],none⟩) (by kernel_rfl) rfl (fun K hK => ?_);have f0 := (PX.out.step GB.out).c0;have f1 := (PX.out.step GB.out).c1;have f2 := (PX.out.step GB.out).fz 0;have f3 := (PX.out.step GB.out).fz 1;go_simp;clear f0 f1 f2 f3;obtain ⟨V2,hW⟩ : ∃ V2,((D1.setCell ⟨bx,0,none⟩ (.bool n1)).setCell ⟨bx,1,none⟩ (.slice a1 l1 d1)) = V2 := ⟨_,rfl⟩
      replace PX := hid (PX.out.step GB.out);replace GA1 := hid (GA1.out.now GB.out);replace G21 := hid (below_step G21.out GB.out);replace GA1 : Hid (GatE w17 W2.heap.size V2 (.slice ga h gc) ((List.range h).map (klF c zs EP i)) 1048576) := by unfold Hid;rw [← hW];exact GA1.out.nbox PX.out HOB.out _ _
      replace G21 : Hid (Below W2.heap.size W2 V2) := by unfold Hid;rw [← hW];exact bset (bset G21.out (by have := HGX.out;omega)) (by have := HGX.out;omega)
      replace PX : Hid (Duo V2 bx (.bool n1) (.slice a1 l1 d1)) := by unfold Hid;rw [← hW];exact PX.out.set _ _
      rw [hW];clear hW;refine hK.out _ _ (fun h => absurd h (by decide)) ?_;clear hK
      try simp only [Act.put]
      refine zFA (by kernel_rfl) ?_ _;clear GBs GB KB u0 u1 x1 x2 y5;have s0 := PX.out.c0;have s1 := PX.out.c1;obtain ⟨Z1,hZ⟩ : ∃ Z1,V2.alloc (.cells #[(.bool n1),(.slice a1 l1 d1)] 43) = Z1 := ⟨_,rfl⟩
      obtain ⟨bZ,szZ⟩ := alo1 V2 (.cells #[(.bool n1),(.slice a1 l1 d1)] 43);rw [hZ] at bZ szZ;have PZ : Hid (Duo Z1 V2.heap.size (.bool n1) (.slice a1 l1 d1)) := by unfold Hid;rw [← hZ];exact Duo.new V2 _ _
      have GA4 := hid (GA1.out.now bZ);have G24 := hid (below_step G21.out bZ);have EL := hid (show Zi w17 (.agg #[(.bool n1),(.slice a1 l1 d1)]) (klF c zs EP i h) 1048576 ∨ Zm 0 Z1 (.agg #[(.bool n1),(.slice a1 l1 d1)]) (klF c zs EP i h) 1048576 from Or.inl ZE.out);have HBZ : Hid (W2.heap.size ≤ Z1.heap.size) := G24.out.size;have c0 := PZ.out.c0;have c1 := PZ.out.c1;have EZ := hid hZ;clear bZ szZ hZ GA1 G21 PZ PX ZE;go_wp2_with (at_builtin;rw [EZ.out];refine zIC Z1 rfl (.tmp 212) (.tmp 214) rfl w17 W2.heap.size 1048576 (.slice ga h gc) (.bool n1) (.slice a1 l1 d1) ((List.range h).map (klF c zs EP i)) (klF c zs EP i h) rfl GA4.out V2.heap.size rfl c0 c1 EL.out (by have := HLL.out;omega) HBZ.out ?_)
      intro a9 cap9 w9 GA9 _ B9 _ _;have HN1 : Hid (KlG w17 W2 r (klF c zs EP i) (r - (h + 1)) (.slice a9 (h + 1) cap9) (.int .i64 ((h + 1 : Nat) : Int)) w9) := by
       refine ⟨h + 1,rfl,by omega,rfl,?_,G24.out.trans B9.out⟩;rw [List.range_succ,List.map_append];exact GA9.out
      try rw [HLL.out]
      clear GA9 B9 GA4 G24 EL c0 c1 EZ s0 s1;go_wp2_with fail;go_roundg (r - (h + 1))
      case rel => exact HN1.out
      case measure => exact HMM2.out
     ·have hhe' : ¬ (h : Int) < (EP.length : Int) := by omega
      have ZE : Hid (Zm 0 X1 (.agg #[.bool false,.slice none 0 0]) (klF c zs EP i h) 1048576) := by
       unfold Hid klF;rw [if_neg hhe];exact zlC _ _
      have s0 := PX.out.c0;have s1 := PX.out.c1;rw [← EX.out,← HBX.out] at s0 s1;obtain ⟨Z1,hZ⟩ : ∃ Z1,X1.alloc (.cells #[(.bool false),(.slice none 0 0)] 43) = Z1 := ⟨_,rfl⟩
      obtain ⟨bZ,szZ⟩ := alo1 X1 (.cells #[(.bool false),(.slice none 0 0)] 43);rw [hZ] at bZ szZ;have PZ : Hid (Duo Z1 X1.heap.size (.bool false) (.slice none 0 0)) := by unfold Hid;rw [← hZ];exact Duo.new X1 _ _
      have GA4 := hid (GA1.out.now bZ);have G24 := hid (below_step G21.out bZ);have EL := hid (show Zi w17 (.agg #[(.bool false),(.slice none 0 0)]) (klF c zs EP i h) 1048576 ∨ Zm 0 Z1 (.agg #[(.bool false),(.slice none 0 0)]) (klF c zs EP i h) 1048576 from Or.inr (ZE.out.now bZ));have HBZ : Hid (W2.heap.size ≤ Z1.heap.size) := G24.out.size;have c0 := PZ.out.c0;have c1 := PZ.out.c1;rw [HSX.out] at c0 c1;have EZ := hid hZ;clear bZ szZ hZ GA1 G21 PZ PX ZE;go_wp2_with (at_builtin;rw [EX.out,HBX.out];rw [EZ.out];refine zIC Z1 rfl (.tmp 212) (.tmp 214) rfl w17 W2.heap.size 1048576 (.slice ga h gc) (.bool false) (.slice none 0 0) ((List.range h).map (klF c zs EP i)) (klF c zs EP i h) rfl GA4.out (bx + 1) rfl c0 c1 EL.out (by have := HLL.out;omega) HBZ.out ?_)
      intro a9 cap9 w9 GA9 _ B9 _ _;have HN1 : Hid (KlG w17 W2 r (klF c zs EP i) (r - (h + 1)) (.slice a9 (h + 1) cap9) (.int .i64 ((h + 1 : Nat) : Int)) w9) := by
       refine ⟨h + 1,rfl,by omega,rfl,?_,G24.out.trans B9.out⟩;rw [List.range_succ,List.map_append];exact GA9.out
      try rw [HLL.out]
      clear GA9 B9 GA4 G24 EL c0 c1 EZ s0 s1;go_wp2_with fail;go_roundg (r - (h + 1))
      case rel => exact HN1.out
      case measure => exact HMM2.out
    ·have hlt2' : ¬ (h : Int) < (r : Int) := by omega
     obtain rfl : h = r := by omega
     obtain ⟨pv,hpv1,hpv2⟩ := GA.out.prs12 (by have := HLL.out;omega) G3.out;have HV := hid (rvec12 hpv1 hpv2 (by simp) (Me.out.now G3.out).mx (by omega));have e1 := (Pe.out.step G3.out).at (i := 1) rfl;have e2 := (Pe.out.step G3.out).at (i := 2) rfl;clear hpv1 hpv2 GA HG;go_wp2_with fail;refine HV.out.mono ?_;rintro e w20 ⟨u,pu,rfl,hu1,hu2,b⟩;have G4 := hid (below_step G3.out b);have ULA : Hid (∀ wx,Below w20.heap.size w20 wx → ∀ j,j < c → ∃ b off cap n a l q,u = .slice (some ⟨b,off,none⟩) c cap ∧ wx.cell? ⟨b,off + j * 2,none⟩ = some (.bool n) ∧ wx.cell? ⟨b,off + j * 2 + 1,none⟩ = some (.slice a l q) ∧ Zi wx (.agg #[.bool n,.slice a l q]) (vmF c ((List.range h).map (klF c zs EP i)) E.flatten j h) 1048641) := fun wx hb j hj => by
      have := (hu1.1.now hb).isI12 (hu2.zcs.zis.now hb) (t := j) (by simp [vecZ];exact hj);simp only [vecZ,List.length_map,List.length_range] at this
      simpa [hj] using this
     obtain ⟨ua,uc,rfl,-⟩ := hu1.1.form;have hul : pu.length = c := by rw [hu2.1];simp [vecZ]
     rw [hul] at ULA ⊢;have ROW : Hid (∀ j,j < c → (vmF c ((List.range h).map (klF c zs EP i)) E.flatten j h - zs.getD (i * c + j) 0) % (p : Int) = 0) := fun j hj => by
      have e5 := ERW.out i j hlt hj;have e6 : vmF c ((List.range h).map (klF c zs EP i)) E.flatten j h = su h (fun t => (if t < EP.length then zs.getD (i * c + EP.getD t 0) 0 else 0) * ent E t j) := by
       unfold vmF;refine zaG fun t ht => ?_
       rw [EFL2.out t j ht hj]
       congr 1
       simp [klF,ht]
      rw [e6];exact e5
     have H5 : Hid (KlI w20 c c (.int .i64 0) w20) := ⟨0,rfl,Nat.zero_le _,by omega,Below.refl _ _⟩
     clear hu1 hu2 hul b HV e0 e1 e2 G2 HLL;go_wp2_with fail
     go_loopg [27] c (fun gk3 s27 wx => KlI w20 c gk3 s27 wx)
     case atStart => exact H5.out
     case round =>
      clear H5;obtain ⟨j,rfl,hjc,hg,hb5⟩ := hrel;have G5 := hid hb5;have G6 := hid (below_step G4.out hb5);have HG := hid hg;clear hb5 hg;have x1 := (PA.out.step G6.out).at (i := 1) rfl
      by_cases hlt3 : j < c
      ·have hlt3' : (j : Int) < (c : Int) := by omega
       have hw3 := zmA (i := j) (by omega);have HMM3 : Hid (c - (j + 1) < gk) := by unfold Hid;rw [HG.out];omega
       have hp1 : i * c + j < l := by rw [← HL.out];exact zkA hlt hlt3
       obtain ⟨b1,o1,n1,a1,l1,d1,rfl,u0',u1',z1⟩ := MA1.out.at12 HL.out hp1;obtain ⟨b3,o3,c3,n3,a3,l3',d3,e3,v0,v1,z3⟩ := ULA.out wr G5.out j hlt3;simp only [Value.slice.injEq] at e3;obtain ⟨rfl,-,rfl⟩ := e3;have hrow := ROW.out j hlt3;obtain ⟨zz,hzz⟩ : ∃ zz,vmF c ((List.range h).map (klF c zs EP i)) E.flatten j h - zs.getD (i * c + j) 0 = zz := ⟨_,rfl⟩
       have HS : Hid (∀ w',Below wr.heap.size wr w' → Calls Tryz.prog 18 #[.agg #[.bool n3,.slice a3 l3' d3],.agg #[.bool n1,.slice a1 l1 d1]] w' (zbA w' zz 1048642)) := fun w' hb => by
        have := zyH (z3.now hb) ((z1.now G6.out).now hb) (by omega) (by omega);rw [hzz] at this;exact this
       rw [hzz] at hrow;have HROW := hid hrow;have u0 := cnow G6.out u0';have u1 := cnow G6.out u1';have x2 := (PA.out.step G6.out).at (i := 2) rfl;have k2 := zCB (i := i) (c := c) (by omega) hc;have k4 : IntKind.i64.wrap (((i * c : Nat) : Int) + (j : Int)) = ((i * c + j : Nat) : Int) := by rw [zPA] <;> omega
       obtain ⟨q2,hq2⟩ : ∃ q2,i * c = q2 := ⟨_,rfl⟩
       rw [hq2] at hp1 k2 k4 u0 u1;obtain ⟨t2,ht2⟩ : ∃ t2,q2 + j = t2 := ⟨_,rfl⟩
       rw [ht2] at hp1 k4 u0 u1;have hp1' : (t2 : Int) < (l : Int) := by omega
       have k2' := k2;have k4' := k4;rw [IntKind.wrap_i64] at k2' k4';clear z1 z3 hq2 ht2 u0' u1' hzz hrow HG;go_wp2_with fail;have KB : Hid (∀ w',Below wr.heap.size wr w' → w'.cell? ⟨w.heap.size,1,none⟩ = some (.int .i64 (c : Int)) ∧ w'.cell? ⟨w.heap.size,2,none⟩ = some (.slice (some ⟨b1,o1,none⟩) l cap) ∧ w'.cell? ⟨b3,o3 + j * 2,none⟩ = some (.bool n3) ∧ w'.cell? ⟨b3,o3 + j * 2 + 1,none⟩ = some (.slice a3 l3' d3) ∧ w'.cell? ⟨b1,o1 + t2 * 2,none⟩ = some (.bool n1) ∧ w'.cell? ⟨b1,o1 + t2 * 2 + 1,none⟩ = some (.slice a1 l1 d1)) := fun w' h => ⟨cnow h x1,cnow h x2,cnow h v0,cnow h v1,cnow h u0,cnow h u1⟩
       refine zDA (fun w' => w'.cell? ⟨w.heap.size,1,none⟩ = some (.int .i64 (c : Int)) ∧ w'.cell? ⟨w.heap.size,2,none⟩ = some (.slice (some ⟨b1,o1,none⟩) l cap) ∧ w'.cell? ⟨b3,o3 + j * 2,none⟩ = some (.bool n3) ∧ w'.cell? ⟨b3,o3 + j * 2 + 1,none⟩ = some (.slice a3 l3' d3) ∧ w'.cell? ⟨b1,o1 + t2 * 2,none⟩ = some (.bool n1) ∧ w'.cell? ⟨b1,o1 + t2 * 2 + 1,none⟩ = some (.slice a1 l1 d1)) 16 (by kernel_rfl) ?_;obtain ⟨D51,hD⟩ : ∃ D51,wr.drew = D51 := ⟨_,rfl⟩
       have GB : Hid (Below wr.heap.size wr D51) := by unfold Hid;rw [← hD];exact (Below.refl _ _).drew
       rw [hD];clear hD;have GZ : Hid (wr.heap.size ≤ D51.heap.size) := GB.out.size;refine zAA (i := 0) (oi := ⟨some 228,.move (.tmp 25),22, "plain.go:239",#[],none⟩) (v := (.slice (some ⟨b3,o3,none⟩) c uc)) rfl (by kernel_rfl) (fun _ _ _ h => h) (Or.inl ⟨by rfl,?_⟩) (KB.out _ GB.out) ?_
       ·intro w hSw;(try dsimp only at hSw);go_simp
       simp only [Act.put,sIb,sC0,sC1];refine zAA (i := 1) (oi := ⟨some 229,.move (.tmp 27),3, "plain.go:239",#[],none⟩) (v := (.int .i64 (j : Int))) rfl (by kernel_rfl) (fun _ _ _ h => h) (Or.inl ⟨by rfl,?_⟩) (KB.out _ GB.out) ?_
       ·intro w hSw;(try dsimp only at hSw);go_simp
       simp only [Act.put,sIb,sC0,sC1];refine zAA (i := 2) (oi := ⟨some 230,.indexAddr 22 (.tmp 228) (.tmp 229),0, "plain.go:239",#[⟨0,.data⟩,⟨1,.data⟩],none⟩) (v := (.pointer (some ⟨b3,o3 + j * 2,none⟩))) rfl (by kernel_rfl) (fun _ _ _ h => h) (Or.inl ⟨by rfl,?_⟩) (KB.out _ GB.out) ?_
       ·intro w hSw;(try dsimp only at hSw);go_simp
       simp only [Act.put,sIb,sC0,sC1];refine zAA (i := 3) (oi := ⟨some 231,.load 43 (.tmp 230),43, "plain.go:239",#[⟨2,.data⟩],none⟩) (v := (.agg #[.bool n3,.slice a3 l3' d3])) rfl (by kernel_rfl) (fun _ _ _ h => h) (Or.inl ⟨by rfl,?_⟩) (KB.out _ GB.out) ?_
       ·intro w hSw;(try dsimp only at hSw);go_simp
       simp only [Act.put,sIb,sC0,sC1];refine zAA (i := 4) (oi := ⟨some 232,.fieldAddr 24 (.tmp 2) 2,0, "plain.go:239",#[],none⟩) (v := (.pointer (some ⟨w.heap.size,2,none⟩))) rfl (by kernel_rfl) (fun _ _ _ h => h) (Or.inl ⟨by rfl,?_⟩) (KB.out _ GB.out) ?_
       ·intro w hSw;(try dsimp only at hSw);go_simp
       simp only [Act.put,sIb,sC0,sC1];refine zAA (i := 5) (oi := ⟨some 233,.load 22 (.tmp 232),22, "plain.go:239",#[⟨4,.data⟩],none⟩) (v := (.slice (some ⟨b1,o1,none⟩) l cap)) rfl (by kernel_rfl) (fun _ _ _ h => h) (Or.inl ⟨by rfl,?_⟩) (KB.out _ GB.out) ?_
       ·intro w hSw;(try dsimp only at hSw);go_simp
       simp only [Act.put,sIb,sC0,sC1];refine zAA (i := 6) (oi := ⟨some 234,.move (.tmp 21),3, "plain.go:239",#[],none⟩) (v := (.int .i64 (i : Int))) rfl (by kernel_rfl) (fun _ _ _ h => h) (Or.inl ⟨by rfl,?_⟩) (KB.out _ GB.out) ?_
       ·intro w hSw;(try dsimp only at hSw);go_simp
       simp only [Act.put,sIb,sC0,sC1];refine zAA (i := 7) (oi := ⟨some 235,.fieldAddr 24 (.tmp 2) 1,0, "plain.go:239",#[],none⟩) (v := (.pointer (some ⟨w.heap.size,1,none⟩))) rfl (by kernel_rfl) (fun _ _ _ h => h) (Or.inl ⟨by rfl,?_⟩) (KB.out _ GB.out) ?_
       ·intro w hSw;(try dsimp only at hSw);go_simp
       simp only [Act.put,sIb,sC0,sC1];refine zAA (i := 8) (oi := ⟨some 236,.load 3 (.tmp 235),3, "plain.go:239",#[⟨7,.data⟩],none⟩) (v := (.int .i64 (c : Int))) rfl (by kernel_rfl) (fun _ _ _ h => h) (Or.inl ⟨by rfl,?_⟩) (KB.out _ GB.out) ?_
       ·intro w hSw;(try dsimp only at hSw);go_simp
       simp only [Act.put,sIb,sC0,sC1];refine zAA (i := 9) (oi := ⟨some 237,.binOp .mul 3 (.tmp 234) (.tmp 236) 3,3, "plain.go:239",#[⟨6,.data⟩,⟨8,.data⟩],none⟩) (v := (.int .i64 (q2 : Int))) rfl (by kernel_rfl) (fun _ _ _ h => h) (Or.inl ⟨by rfl,?_⟩) (KB.out _ GB.out) ?_
       ·intro w hSw;(try dsimp only at hSw);go_simp
       simp only [Act.put,sIb,sC0,sC1];refine zAA (i := 10) (oi := ⟨some 238,.move (.tmp 27),3, "plain.go:239",#[],none⟩) (v := (.int .i64 (j : Int))) rfl (by kernel_rfl) (fun _ _ _ h => h) (Or.inl ⟨by rfl,?_⟩) (KB.out _ GB.out) ?_
       ·intro w hSw;(try dsimp only at hSw);go_simp
       simp only [Act.put,sIb,sC0,sC1];refine zAA (i := 11) (oi := ⟨some 239,.binOp .add 3 (.tmp 237) (.tmp 238) 3,3, "plain.go:239",#[⟨9,.data⟩,⟨10,.data⟩],none⟩) (v := (.int .i64 (t2 : Int))) rfl (by kernel_rfl) (fun _ _ _ h => h) (Or.inl ⟨by rfl,?_⟩) (KB.out _ GB.out) ?_
       ·intro w hSw;(try dsimp only at hSw);go_simp
       simp only [Act.put,sIb,sC0,sC1];refine zAA (i := 12) (oi := ⟨some 240,.indexAddr 22 (.tmp 233) (.tmp 239),0, "plain.go:239",#[⟨5,.data⟩,⟨11,.data⟩],none⟩) (v := (.pointer (some ⟨b1,o1 + t2 * 2,none⟩))) rfl (by kernel_rfl) (fun _ _ _ h => h) (Or.inl ⟨by rfl,?_⟩) (KB.out _ GB.out) ?_
       ·intro w hSw;(try dsimp only at hSw);go_simp
       simp only [Act.put,sIb,sC0,sC1];refine zAA (i := 13) (oi := ⟨some 241,.load 43 (.tmp 240),43, "plain.go:239",#[⟨12,.data⟩],none⟩) (v := (.agg #[.bool n1,.slice a1 l1 d1])) rfl (by kernel_rfl) (fun _ _ _ h => h) (Or.inl ⟨by rfl,?_⟩) (KB.out _ GB.out) ?_
       ·intro w hSw;(try dsimp only at hSw);go_simp
       simp only [Act.put,sIb,sC0,sC1];refine zJD (i := 14) (j := 15) (oi := ⟨some 242,.call { callee := .value (.func 18),args := #[.tmp 231,.tmp 241],argTypes := #[43,43] },43, "plain.go:239",#[⟨3,.data⟩,⟨13,.data⟩],none⟩) (oj := ⟨some 28,.alloc 43,0, "plain.go:239",#[],none⟩) (by kernel_rfl) rfl rfl (fun K hK => ?_) (fun K hK => ?_)
       ·skip
        go_simp;go_at_call 18;refine (HS.out _ GB.out).mono ?_;rintro e w52 ⟨rr,rfl,m1,b⟩;have lz52 := (show Below _ _ _ from b).size;replace GB := hid (below_step GB.out b);have M1 := hid (m1.mono (Nat.zero_le _));obtain ⟨nr,xr,ar,cr,rfl⟩ := m1.parts;clear m1;clear b;refine hK.out _ _ (fun _ => KB.out _ GB.out) ?_;clear hK;refine zBA (i := 15) (o := ⟨some 28,.alloc 43,0, "plain.go:239",#[],none⟩) (by kernel_rfl) rfl (fun K hK => ?_);go_simp;obtain ⟨V53,hW⟩ : ∃ V53,w52.alloc zbox = V53 := ⟨_,rfl⟩
        obtain ⟨b,sz53⟩ := alo1 w52 zbox;rw [hW] at b sz53;replace GB := hid (below_step GB.out b);have PX : Hid (Duo V53 w52.heap.size (.bool false) (.slice none 0 0)) := by unfold Hid;rw [← hW];exact Duo.new w52 _ _
        have SP : Hid (wr.heap.size ≤ w52.heap.size) := by unfold Hid;have := GZ.out;omega
        replace M1 := hid (M1.out.now b);rw [hW];clear hW b;refine hK.out _ _ (fun _ => KB.out _ GB.out) ?_;clear hK
        try simp only [Act.put]
        refine zBA (i := 16) (o := ⟨none,.store 43 (.tmp 28) (.tmp 242),0, "plain.go:239",#[⟨15,.data⟩,⟨14,.data⟩,⟨14,.chain⟩,⟨0,.phase⟩,⟨1,.phase⟩,⟨2,.phase⟩,⟨3,.phase⟩,⟨4,.phase⟩,⟨5,.phase⟩,⟨6,.phase⟩,⟨7,.phase⟩,⟨8,.phase⟩,⟨9,.phase⟩,⟨10,.phase⟩,⟨11,.phase⟩,⟨12,.phase⟩,⟨13,.phase⟩,⟨14,.phase⟩,⟨15,.phase⟩],none⟩) (by kernel_rfl) rfl (fun K hK => ?_);have f0 := PX.out.c0;have f1 := PX.out.c1;have f2 := PX.out.fz 0;have f3 := PX.out.fz 1;go_simp;clear f0 f1 f2 f3;obtain ⟨V54,hW⟩ : ∃ V54,((V53.setCell ⟨w52.heap.size,0,none⟩ (.bool nr)).setCell ⟨w52.heap.size,1,none⟩ (.slice ar xr.length cr)) = V54 := ⟨_,rfl⟩
        replace GB : Hid (Below wr.heap.size wr V54) := by unfold Hid;rw [← hW];exact bset (bset GB.out SP.out) SP.out
        replace M1 : Hid (Zm 0 V54 (.agg #[.bool nr,.slice ar xr.length cr]) zz 1048642) := by unfold Hid;rw [← hW];exact M1.out.box PX.out _ _
        replace PX : Hid (Duo V54 w52.heap.size (.bool nr) (.slice ar xr.length cr)) := by unfold Hid;rw [← hW];exact PX.out.set _ _
        rw [hW];clear hW;refine hK.out _ _ (fun h => absurd h (by decide)) ?_;clear hK
        try simp only [Act.put]
        refine zFA (by kernel_rfl) ?_ _;obtain ⟨Y,hY⟩ : ∃ Y,Y = V54 := ⟨_,rfl⟩
        obtain ⟨bq,hbq⟩ : ∃ bq,w52.heap.size = bq := ⟨_,rfl⟩
        rw [hbq] at PX ⊢;rw [← hY] at GB M1 PX ⊢;clear hY hbq KB GZ SP HS u0 u1 v0 v1 x1 x2;have s0 := PX.out.c0;have s1 := PX.out.c1;obtain ⟨Z1,hZ⟩ : ∃ Z1,Y.alloc (.cells #[.bool nr,.slice ar xr.length cr] 43) = Z1 := ⟨_,rfl⟩
        obtain ⟨bZ,szZ⟩ := alo1 Y (.cells #[.bool nr,.slice ar xr.length cr] 43);rw [hZ] at bZ szZ;have AZ : Arr Z1 Y.heap.size [(.bool nr,.slice ar xr.length cr)] := ⟨by rw [← hZ];exact Cel.new Y _ _,fun q hq => by simp at hq;subst hq;exact ⟨_,_,_,_,rfl⟩⟩
        have ZL : Zl Z1 (.slice (some ⟨Y.heap.size,0,none⟩) 1 1) [zz] 1048642 := zrH (AZ.prs (B := 0) (Nat.zero_le _) (by simp) (cap := 1) (by simp)) ⟨rfl,fun t q z hq hz => by
         match t,hq,hz with
         | 0,hq,hz => simp at hq hz;subst hq;subst hz;exact (M1.out.now bZ).zi⟩
        have HZ := hid (zID (p := p) ZL (by omega) (by omega) hp2 (fun z hz => by simp at hz;subst hz;exact HROW.out));have G7 := hid (below_step (below_step G5.out GB.out) bZ);have EZ := hid hZ;clear AZ ZL bZ szZ hZ M1 PX GB G5 G6;go_wp2_with fail;rw [EZ.out];refine HZ.out.mono ?_;rintro e w30 ⟨rfl,b⟩;have HN1 : Hid (KlI w20 c (c - (j + 1)) (.int .i64 ((j + 1 : Nat) : Int)) w30) := ⟨j + 1,rfl,by omega,rfl,below_step G7.out b⟩
        clear G7 HZ EZ b s0 s1;go_wp2_with fail;go_roundg (c - (j + 1))
        case rel => exact HN1.out
        case measure => exact HMM3.out
       ·skip
        go_simp;obtain ⟨V55,hW⟩ : ∃ V55,D51.alloc zbox = V55 := ⟨_,rfl⟩
        obtain ⟨b,sz55⟩ := alo1 D51 zbox;rw [hW] at b sz55;replace GB := hid (below_step GB.out b);have PX : Hid (Duo V55 D51.heap.size (.bool false) (.slice none 0 0)) := by unfold Hid;rw [← hW];exact Duo.new D51 _ _
        have SP : Hid (wr.heap.size ≤ D51.heap.size) := by unfold Hid;have := GZ.out;omega
        rw [hW];clear hW b;refine hK.out _ _ (fun _ => KB.out _ GB.out) ?_;clear hK
        try simp only [Act.put]
        refine zBA (i := 14) (o := ⟨some 242,.call { callee := .value (.func 18),args := #[.tmp 231,.tmp 241],argTypes := #[43,43] },43, "plain.go:239",#[⟨3,.data⟩,⟨13,.data⟩],none⟩) (by kernel_rfl) rfl (fun K hK => ?_);go_simp;go_at_call 18;refine (HS.out _ GB.out).mono ?_;rintro e w56 ⟨rr,rfl,m1,b⟩;have lz56 := (show Below _ _ _ from b).size;replace GB := hid (below_step GB.out b);have M1 := hid (m1.mono (Nat.zero_le _));obtain ⟨nr,xr,ar,cr,rfl⟩ := m1.parts;clear m1;replace PX := hid (PX.out.step b);clear b;refine hK.out _ _ (fun _ => KB.out _ GB.out) ?_;clear hK;refine zBA (i := 16) (o := ⟨none,.store 43 (.tmp 28) (.tmp 242),0, "plain.go:239",#[⟨15,.data⟩,⟨14,.data⟩,⟨14,.chain⟩,⟨0,.phase⟩,⟨1,.phase⟩,⟨2,.phase⟩,⟨3,.phase⟩,⟨4,.phase⟩,⟨5,.phase⟩,⟨6,.phase⟩,⟨7,.phase⟩,⟨8,.phase⟩,⟨9,.phase⟩,⟨10,.phase⟩,⟨11,.phase⟩,⟨12,.phase⟩,⟨13,.phase⟩,⟨14,.phase⟩,⟨15,.phase⟩],none⟩) (by kernel_rfl) rfl (fun K hK => ?_);have f0 := PX.out.c0;have f1 := PX.out.c1;have f2 := PX.out.fz 0;have f3 := PX.out.fz 1;go_simp;clear f0 f1 f2 f3;obtain ⟨V57,hW⟩ : ∃ V57,((w56.setCell ⟨D51.heap.size,0,none⟩ (.bool nr)).setCell ⟨D51.heap.size,1,none⟩ (.slice ar xr.length cr)) = V57 := ⟨_,rfl⟩
        replace GB : Hid (Below wr.heap.size wr V57) := by unfold Hid;rw [← hW];exact bset (bset GB.out SP.out) SP.out
        replace M1 : Hid (Zm 0 V57 (.agg #[.bool nr,.slice ar xr.length cr]) zz 1048642) := by unfold Hid;rw [← hW];exact M1.out.box PX.out _ _
        replace PX : Hid (Duo V57 D51.heap.size (.bool nr) (.slice ar xr.length cr)) := by unfold Hid;rw [← hW];exact PX.out.set _ _
        rw [hW];clear hW;refine hK.out _ _ (fun h => absurd h (by decide)) ?_;clear hK
        try simp only [Act.put]
        refine zFA (by kernel_rfl) ?_ _;obtain ⟨Y,hY⟩ : ∃ Y,Y = V57 := ⟨_,rfl⟩
        obtain ⟨bq,hbq⟩ : ∃ bq,D51.heap.size = bq := ⟨_,rfl⟩
        rw [hbq] at PX ⊢;rw [← hY] at GB M1 PX ⊢;clear hY hbq KB GZ SP HS u0 u1 v0 v1 x1 x2;have s0 := PX.out.c0;have s1 := PX.out.c1;obtain ⟨Z1,hZ⟩ : ∃ Z1,Y.alloc (.cells #[.bool nr,.slice ar xr.length cr] 43) = Z1 := ⟨_,rfl⟩
        obtain ⟨bZ,szZ⟩ := alo1 Y (.cells #[.bool nr,.slice ar xr.length cr] 43);rw [hZ] at bZ szZ;have AZ : Arr Z1 Y.heap.size [(.bool nr,.slice ar xr.length cr)] := ⟨by rw [← hZ];exact Cel.new Y _ _,fun q hq => by simp at hq;subst hq;exact ⟨_,_,_,_,rfl⟩⟩
        have ZL : Zl Z1 (.slice (some ⟨Y.heap.size,0,none⟩) 1 1) [zz] 1048642 := zrH (AZ.prs (B := 0) (Nat.zero_le _) (by simp) (cap := 1) (by simp)) ⟨rfl,fun t q z hq hz => by
         match t,hq,hz with
         | 0,hq,hz => simp at hq hz;subst hq;subst hz;exact (M1.out.now bZ).zi⟩
        have HZ := hid (zID (p := p) ZL (by omega) (by omega) hp2 (fun z hz => by simp at hz;subst hz;exact HROW.out));have G7 := hid (below_step (below_step G5.out GB.out) bZ);have EZ := hid hZ;clear AZ ZL bZ szZ hZ M1 PX GB G5 G6;go_wp2_with fail;rw [EZ.out];refine HZ.out.mono ?_;rintro e w30 ⟨rfl,b⟩;have HN1 : Hid (KlI w20 c (c - (j + 1)) (.int .i64 ((j + 1 : Nat) : Int)) w30) := ⟨j + 1,rfl,by omega,rfl,below_step G7.out b⟩
        clear G7 HZ EZ b s0 s1;go_wp2_with fail;go_roundg (c - (j + 1))
        case rel => exact HN1.out
        case measure => exact HMM3.out
      ·have hlt3' : ¬ (j : Int) < (c : Int) := by omega
       have HN1 : Hid (KlI w17 h (h - (i + 1)) (.int .i64 ((i + 1 : Nat) : Int)) wr) := ⟨i + 1,rfl,by omega,rfl,G6.out⟩
       clear G5 G6 HG;go_wp2_with fail;go_roundg (h - (i + 1))
       case rel => exact HN1.out
       case measure => exact HMM.out
  ·have hlt' : ¬ (i : Int) < (r : Int) := by omega
   have GE := hid (below_step G.out GX.out);clear GX HG;go_wp2;go_ret;exact ⟨rfl,GE.out⟩
end Go.Proofs.YtnfkibjoconphaaGreat
