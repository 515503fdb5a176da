/-
 QLc17ToWl17: Lc17, Wl17, joined.
-/
import Derived.Test.YtffkmeocmjohmaaGreatQQf17ToFa17
import Derived.Test.YtffkmeocmjohmaaGreatQGcd6
import Derived.Test.YtffkmeocmjohmaaGreatQEachM11ToPr12
import Derived.Test.YtffkmeocmjohmaaGreatQIz17ToTailL

set_option maxRecDepth 100000
set_option maxHeartbeats 6400000
set_option linter.unusedVariables false
set_option linter.unusedSimpArgs false
namespace Go.Proofs.YtffkmeocmjohmaaGreat
open Go.RowKit
theorem zIG {a b x y : Int} (ha0 : 0 ≤ a) (hb0 : 0 ≤ b) (ha : a < x) (hb : b < y) : a * b < x * y :=
 Int.lt_of_le_of_lt (Int.mul_le_mul_of_nonneg_right (Int.le_of_lt ha) hb0) (Int.mul_lt_mul_of_pos_left hb (Int.lt_of_le_of_lt ha0 ha))
theorem zMC {a b : Nat} (h : a ≤ b) : pw a ≤ pw b := by
 obtain ⟨c,rfl⟩ := Nat.le.dest h;rw [zFB];have h1 := zbA c;have h2 := Int.mul_le_mul_of_nonneg_left (show (1 : Int) ≤ pw c by omega) (Int.le_of_lt (zbA a));rw [Int.mul_one] at h2;exact h2
def lcn (R : Nat → Rat) : Nat → Nat
 | 0 => 1
 | j + 1 => Nat.lcm (lcn R j) (R j).den
theorem zRE (R : Nat → Rat) : ∀ n,0 < lcn R n
 | 0 => Nat.one_pos
 | n + 1 => Nat.lcm_pos (zRE R n) (R n).den_pos
theorem zbF (R : Nat → Rat) : ∀ {n j : Nat},j < n → (R j).den ∣ lcn R n
 | n + 1,j,h => by
  by_cases e : j = n
  ·subst e;exact Nat.dvd_lcm_right _ _
  ·exact Nat.dvd_trans (zbF R (show j < n by omega)) (Nat.dvd_lcm_left _ _)
theorem lcn_least (R : Nat → Rat) {D : Nat} : ∀ {n : Nat},(∀ j,j < n → (R j).den ∣ D) → lcn R n ∣ D
 | 0,_ => Nat.one_dvd _
 | n + 1,h => Nat.lcm_dvd (lcn_least R fun j hj => h j (by omega)) (h n (by omega))
theorem lcmv_nat (a b : Nat) : lcmv (a : Int) (b : Int) = (Nat.lcm a b : Int) := by
 unfold lcmv;have e : Int.gcd (a : Int) (b : Int) = Nat.gcd a b := rfl;rw [e,← Int.ofNat_tdiv,← Int.natCast_mul,Int.natAbs_natCast]
 congr 1
 unfold Nat.lcm;rw [Nat.div_mul_right_comm (Nat.gcd_dvd_left a b)]
theorem zLH {R : Nat → Rat} {k : Nat} : ∀ {n : Nat},(∀ j,j < n → ((R j).den : Int) < pw k) → (lcn R n : Int) < pw (n * k + 1)
 | 0,_ => by rw [Nat.zero_mul];show (1 : Int) < pw 1;decide
 | n + 1,h => by
  have h1 := zLH (R := R) (k := k) (n := n) fun j hj => h j (by omega)
  have h2 := h n (by omega);have h3 : (lcn R (n + 1) : Int) ≤ (lcn R n : Int) * ((R n).den : Int) := by
   rw [← Int.natCast_mul];refine Int.ofNat_le.2 (Nat.le_of_dvd (Nat.mul_pos (zRE R n) (R n).den_pos) ?_);exact Nat.lcm_dvd (Nat.dvd_mul_right _ _) (Nat.dvd_mul_left _ _)
  have e : (n + 1) * k + 1 = (n * k + 1) + k := by rw [Nat.succ_mul];omega
  rw [e,zFB];exact Int.lt_of_le_of_lt h3 (zIG (Int.natCast_nonneg _) (Int.natCast_nonneg _) h1 h2)
def whl (R : Nat → Rat) (n j : Nat) : Int := (R j).num * ((lcn R n : Int).tdiv ((R j).den : Int))
theorem whl_rat (R : Nat → Rat) {n j : Nat} (hj : j < n) : ((whl R n j : Int) : Rat) = R j * ((lcn R n : Int) : Rat) := by
 obtain ⟨c,hc⟩ := zbF R hj;unfold whl;rw [hc,Int.natCast_mul,Int.mul_tdiv_cancel_left _ (by have := (R j).den_pos;omega),Rat.intCast_mul,Rat.intCast_mul];have h := Rat.num_divInt_den (R j);have hd : (((R j).den : Int) : Rat) ≠ 0 := zpC (by have := (R j).den_pos;omega);have h2 : ((R j).num : Rat) = R j * (((R j).den : Int) : Rat) := by
  have e : R j = ((R j).num : Rat) / (((R j).den : Int) : Rat) := by rw [← Rat.divInt_eq_div];exact h.symm
  have t : R j * (((R j).den : Int) : Rat) = ((R j).num : Rat) / (((R j).den : Int) : Rat) * (((R j).den : Int) : Rat) := congrArg (fun z : Rat => z * (((R j).den : Int) : Rat)) e;rw [Rat.div_mul_cancel hd] at t;exact t.symm
 rw [h2]
 grind
theorem whl_lt {R : Nat → Rat} {k n j : Nat} (h1 : ∀ j,j < n → ((R j).den : Int) < pw k) (h2 : (((R j).num).natAbs : Int) < pw k) (hj : j < n) : ((whl R n j).natAbs : Int) < pw ((n + 1) * k + 1) := by
 have h3 := zLH h1;unfold whl;rw [Int.natAbs_mul,Int.natCast_mul];have h4 : (((lcn R n : Int).tdiv ((R j).den : Int)).natAbs : Int) < pw (n * k + 1) := by
  refine Int.lt_of_le_of_lt ?_ h3;have := zGC (lcn R n : Int) ((R j).den : Int);rw [Int.natAbs_natCast] at this;exact Int.ofNat_le.2 this
 have e : (n + 1) * k + 1 = k + (n * k + 1) := by rw [Nat.succ_mul];omega
 rw [e,zFB];exact zIG (Int.natCast_nonneg _) (Int.natCast_nonneg _) h2 h4
theorem FilQ.lt {w : World} {g n i k : Nat} {R : Nat → Rat} (h : FilQ w g n i R k) : ∀ j,j < i → (((R j).num.natAbs : Int) < pw k) ∧ ((R j).den : Int) < pw k := fun j hj => by
 obtain ⟨C,c1,c2,c3⟩ := h;have h1 := (c3 j hj).1.zi.lt;have h2 := (c3 j hj).2.zi.lt;rw [Int.natAbs_natCast] at h2;exact ⟨h1,h2⟩
theorem tback17 {f : Func} {s1 s3 : Nat} (hr : f.results = #[ResultVar.tmp s1,ResultVar.cell s3 45]) {W : World} {b : Nat} {x y u : Value} (h : Duo W b x y) (tmps : Array Value) (hu : tmps[s1]? = some u) (ht : tmps[s3]? = some (.pointer (some ⟨b,0,none⟩))) :
  (results f tmps).run Tryz.prog W = .ok (.tuple #[u,.agg #[x,y]]) W := by
 simp [results,hr,go_sem,ht,hu,h.c0,h.c1]
def WLd (w : World) (n : Nat) (R : Nat → Rat) (K : Nat) (e : Ending) (w' : World) : Prop := ∃ g r,e = .returned (.tuple #[.slice (some ⟨g,0,none⟩) n n,r]) ∧ w.heap.size ≤ g ∧ Rw17 w' g n (whl R n) K ∧ Zm w.heap.size w' r (lcn R n : Int) K ∧ Below w.heap.size w w'
def WaH (w : World) (b3 b5 gl n : Nat) (R : Nat → Rat) (k K gk : Nat) (s : Value) (wx : World) : Prop :=
 ∃ (i : Nat) (nb : Bool) (ab : Option Addr) (lb cb : Nat),s = .int .i64 (i : Int) ∧ i ≤ n ∧ gk = n - i ∧ FilQ wx gl n i R k ∧ Duo wx b5 (.bool nb) (.slice ab lb cb) ∧ Zm w.heap.size wx (.agg #[.bool nb,.slice ab lb cb]) (lcn R i : Int) K ∧ Duo wx b3 (.bool false) (.slice none 0 0) ∧ Below w.heap.size w wx
def WbH (w : World) (b3 b5 gl g2 n : Nat) (R : Nat → Rat) (nb : Bool) (ab : Option Addr) (lb cb k K gk : Nat) (s : Value) (wx : World) : Prop :=
 ∃ i : Nat,s = .int .i64 (i : Int) ∧ i ≤ n ∧ gk = n - i ∧ FilQ wx gl n n R k ∧ Duo wx b5 (.bool nb) (.slice ab lb cb) ∧ Zm w.heap.size wx (.agg #[.bool nb,.slice ab lb cb]) (lcn R n : Int) K ∧ Duo wx b3 (.bool false) (.slice none 0 0) ∧ FilM wx g2 n i (whl R n) K ∧ Below w.heap.size w wx
theorem Duo.off17 {w : World} {b g i : Nat} {x y u : Value} (h : Duo w b x y) (hne : b ≠ g) : Duo (w.setCell ⟨g,i,none⟩ u) b x y := (Below.heap_setCell w _ u b (fun q => hne (by simpa using q))).trans h
theorem Duo.ty17 {T : TypeId} {w w' : World} {b : Nat} {x y : Value} (h : Duo w b x y) (ht : Ty T w w') (hT : 45 ≠ T) : Duo w' b x y := ht.2 b _ _ _ h hT
theorem wholeLine_any {w : World} {v : Value} {n k : Nat} {P Q : Nat → Int} (hv : Qs w v n P Q k) (hQ : ∀ j,j < n → Q j ≠ 0) (hn : n ≤ 128) (hk : k ≤ 400000000) (hk1 : 1 ≤ k) :
  Calls Tryz.prog 64 #[v] w (WLd w n (fun j => Rat.divInt (P j) (Q j)) (129 * k + 2)) := by
 obtain ⟨R,hR⟩ : ∃ R : Nat → Rat,(fun j => Rat.divInt (P j) (Q j)) = R := ⟨_,rfl⟩
 obtain ⟨KW,hK⟩ : ∃ KW,129 * k + 2 = KW := ⟨_,rfl⟩
 rw [hR,hK];have HR : Hid (∀ j,Rat.divInt (P j) (Q j) = R j) := fun j => by rw [← hR]
 have hkK : k ≤ KW := by omega
 have HKK : Hid (∀ i,i ≤ 128 → (i + 1) * k + 1 ≤ KW) := fun i hi => by
  have : (i + 1) * k ≤ 129 * k := Nat.mul_le_mul_right _ (by omega);omega
 have hKm : KW ≤ 68719476736 := by omega
 have H1K : 1 ≤ KW := by omega
 obtain ⟨a0,c0,rfl,hc0,hn2,hf0⟩ := hv.form;have HV := hid hv;have F0 := hid hf0;have HQ := hid hQ;have HKM := hid hKm;have HkK := hid hkK;have HKm2 : Hid (k ≤ 68719476736) := by unfold Hid;omega
 obtain ⟨W0,hW⟩ : ∃ W0,w.alloc zbox = W0 := ⟨_,rfl⟩
 obtain ⟨b0,sz0⟩ := alo1 w zbox;rw [hW] at b0 sz0;have D0 : Hid (Duo W0 w.heap.size (.bool false) (.slice none 0 0)) := by unfold Hid;rw [← hW];exact Duo.new w _ _
 have B0 := hid b0;have EW := hid hW;have HSZ := hid sz0;clear hv hf0 hQ hR hK hk b0 sz0 hW hKm hkK hn2;go_enter Tryz.func64,Tryz.ntmps64;go_wp2_with (at_make;refine zJB _ rfl _ _ rfl _ _ n n rfl rfl rfl rfl (Nat.le_refl _) (by omega) ?_)
 rw [EW.out];intro w1 hF hb1 hsz;obtain ⟨gl,hg⟩ : ∃ gl,w.heap.size + 1 = gl := ⟨_,rfl⟩
 have b1 : Below W0.heap.size W0 w1 := by rw [HSZ.out];exact hb1.out
 rw [hg] at hF ⊢;have FQ := hid (hF.out R k);have D1 := hid (D0.out.step b1);have B1 := hid (zAA B0.out b1);have HGL : Hid (w.heap.size < gl) := by unfold Hid;omega
 have HGL2 : Hid (gl < w1.heap.size) := FQ.out.blk;have HOF := hid (of_z (n := 1) (by decide) (by decide) w1);clear hF hb1 hsz b1 D0 B0 EW HSZ hg;obtain ⟨b3,hb3⟩ : ∃ b3,w.heap.size = b3 := ⟨_,rfl⟩
 have HB3 := hid hb3;rw [hb3] at D1 ⊢;clear hb3;go_wp2_with fail;refine HOF.out.mono ?_;rintro e w2 ⟨r0,rfl,m0,b0⟩;obtain ⟨nb,xb,ab,cb,rfl⟩ := m0.parts;obtain ⟨V0,hV⟩ : ∃ V0,w2.alloc (duo (.bool nb) (.slice ab xb.length cb)) = V0 := ⟨_,rfl⟩
 obtain ⟨b1,sz1⟩ := alo1 w2 (duo (.bool nb) (.slice ab xb.length cb));rw [hV] at b1 sz1;obtain ⟨b5,hb5⟩ : ∃ b5,w2.heap.size = b5 := ⟨_,rfl⟩
 have D5 : Duo V0 b5 (.bool nb) (.slice ab xb.length cb) := by rw [← hb5,← hV];exact Duo.new w2 _ _
 have hg5 : gl < b5 := by have := HGL2.out;have := b0.size;omega
 have H35 : Hid (b3 < b5) := by unfold Hid;have := HGL.out;have := HB3.out;omega
 have B2 := hid (zAA B1.out (zAA b0 b1));have H0 : Hid (WaH w b3 b5 gl n R k KW n (.int .i64 0) V0) := ⟨0,nb,ab,_,cb,rfl,Nat.zero_le _,rfl,FQ.out.step (zAA b0 b1),D5,((m0.mono B1.out.size).now b1).more H1K,D1.out.step (zAA b0 b1),B2.out⟩
 have HB5 : Hid (w.heap.size ≤ b5) := by unfold Hid;have := HGL.out;omega
 have EV := hid hV;have E5 := hid hb5;clear m0 b0 b1 sz1 hV D5 HOF B1 D1 FQ B2 hb5 HGL2;go_wp2_with fail;rw [EV.out,E5.out];clear EV E5
 go_loopg [19] n (fun gk s19 wx => WaH w b3 b5 gl n R k KW gk s19 wx)
 case atStart => exact H0.out
 case round =>
  clear H0;obtain ⟨i,nb,ab,lb,cb,rfl,hin,hgk,hF,hd5,hz5,hd3,hb⟩ := hrel;have FQ := hid hF;have D5 := hid hd5;have Z5 := hid hz5;have D3 := hid hd3;have G := hid hb;have HG := hid hgk;clear hF hd5 hz5 hd3 hb hgk
  by_cases hlt : i < n
  ·have hlt' : (i : Int) < (n : Int) := by omega
   obtain ⟨bv,ov,rfl⟩ := F0.out (by omega);obtain ⟨n1,a1,l1,c1,n2,a2,l2,c2,e1,e2,e3,e4,zp,zq⟩ := (HV.out.now G.out).at hlt;have hw := zVA (i := i) (by omega);obtain ⟨V1,hV⟩ : ∃ V1,wr.alloc (.cells #[.bool n1,.slice a1 l1 c1,.bool n2,.slice a2 l2 c2] 47) = V1 := ⟨_,rfl⟩
   obtain ⟨b,sz1⟩ := alo1 wr (.cells #[.bool n1,.slice a1 l1 c1,.bool n2,.slice a2 l2 c2] 47);rw [hV] at b sz1;have DF : Hid (Cel V1 wr.heap.size 47 [.bool n1,.slice a1 l1 c1,.bool n2,.slice a2 l2 c2]) := by unfold Hid;rw [← hV];exact Cel.new wr _ _
   have HS := hid (znH (zp.now b) (zq.now b) HKm2.out (HQ.out i hlt));rw [HR.out i] at HS;have d0 := DF.out.at (i := 0) rfl;have d1 := DF.out.at (i := 1) rfl;have d2 := DF.out.at (i := 2) rfl;have d3 := DF.out.at (i := 3) rfl;have HMM : Hid (n - (i + 1) < gk) := by unfold Hid;rw [HG.out];omega
   have EV := hid hV;have BV := hid b;rw [← hV] at d0 d1 d2 d3;clear zp zq b sz1 hV HG DF;go_wp2_with fail;rw [EV.out];refine HS.out.mono ?_;rintro e w2 ⟨r0,r1,r2,r3,rfl,m1,m2,b⟩;obtain ⟨p1,x1,q1,cc1,eP⟩ := m1.parts;obtain ⟨p2,x2,q2,cc2,eQ⟩ := m2.parts;simp only [Value.agg.injEq,Array.mk.injEq,List.cons.injEq,and_true] at eP eQ;obtain ⟨rfl,rfl⟩ := eP;obtain ⟨rfl,rfl⟩ := eQ;have BB := zAA BV.out b;have FQ2 := hid (FQ.out.step BB);obtain ⟨_,_,_,_,_,_,_,_,f0,f1,f2,f3,z0,z1,z2,z3,-⟩ := FQ2.out.cells hlt;obtain ⟨V3,hV3⟩ : ∃ V3,zHD w2 gl i (.bool p1) (.slice q1 x1.length cc1) (.bool p2) (.slice q2 x2.length cc2) = V3 := ⟨_,rfl⟩
   obtain ⟨u1,u2⟩ := FQ2.out.put1 hlt (m1.mono (Nat.zero_le _)) (m2.mono (Nat.zero_le _));rw [hV3] at u1 u2;have FQ3 := hid u1;have D53 := hid ((D5.out.step BB).ty17 u2 (by decide));have Z53 := hid ((Z5.out.now BB).ty u2 (by decide));have D33 := hid ((D3.out.step BB).ty17 u2 (by decide));have G3 : Hid (Below w.heap.size w V3) := by
    unfold Hid;rw [← hV3];have hgw := Nat.le_of_lt HGL.out;exact bset (bset (bset (bset (zAA G.out BB) hgw) hgw) hgw) hgw
   have E3 : Hid ((((w2.setCell ⟨gl,i * 4,none⟩ (.bool p1)).setCell ⟨gl,i * 4 + 1,none⟩ (.slice q1 x1.length cc1)).setCell ⟨gl,i * 4 + 2,none⟩ (.bool p2)).setCell ⟨gl,i * 4 + 3,none⟩ (.slice q2 x2.length cc2) = V3) := hV3;clear HS FQ FQ2 m1 m2 b BB BV u1 u2 hV3 d0 d1 d2 d3 EV e1 e2 e3 e4 D5 Z5 D3 G;go_wp2_with fail;rw [E3.out];clear E3 f0 f1 f2 f3 z0 z1 z2 z3;obtain ⟨n1,a1,l1,c1,n2,a2,l2,c2,-,-,f2,f3,-,-,-,-,hz⟩ := FQ3.out.cells hlt;have ZD := hid ((hz (by omega)).2);have t0 := D53.out.c0;have t1 := D53.out.c1;clear hz;have KB : Hid (∀ w',Below V3.heap.size V3 w' → w'.cell? ⟨b5,0,none⟩ = some (.bool nb) ∧ w'.cell? ⟨b5,1,none⟩ = some (.slice ab lb cb) ∧ w'.cell? ⟨gl,i * 4 + 2,none⟩ = some (.bool n2) ∧ w'.cell? ⟨gl,i * 4 + 3,none⟩ = some (.slice a2 l2 c2)) := fun w' h => ⟨cnow h t0,cnow h t1,cnow h f2,cnow h f3⟩
   refine zFA (fun w' => w'.cell? ⟨b5,0,none⟩ = some (.bool nb) ∧ w'.cell? ⟨b5,1,none⟩ = some (.slice ab lb cb) ∧ w'.cell? ⟨gl,i * 4 + 2,none⟩ = some (.bool n2) ∧ w'.cell? ⟨gl,i * 4 + 3,none⟩ = some (.slice a2 l2 c2)) 7 (by kernel_rfl) ?_;obtain ⟨D1,hD⟩ : ∃ D1,V3.drew = D1 := ⟨_,rfl⟩
   have GB : Hid (Below V3.heap.size V3 D1) := by unfold Hid;rw [← hD];exact (Below.refl _ _).drew
   rw [hD];clear hD;have GD : Hid (w.heap.size ≤ D1.heap.size) := by unfold Hid;have := G3.out.size;have := GB.out.size;omega
   refine zDA [(0,(.agg #[.bool nb,.slice ab lb cb])),(1,(.slice (some ⟨gl,0,none⟩) n n)),(2,(.int .i64 (i : Int))),(3,(.pointer (some ⟨gl,i * 4,none⟩))),(4,(.pointer (some ⟨gl,i * 4 + 2,none⟩))),(5,(.agg #[.bool n2,.slice a2 l2 c2]))] 6 ?_ (KB.out _ GB.out) ?_
   ·simp only [zJA,gA9,g09,g19,Act.put,sI9,s09,s19]
    (repeat' (first | exact trivial | refine And.intro (Or.inl ⟨by rfl,?_⟩) ?_)) <;> (intro w hSw;(try dsimp only at hSw);go_simp)
   simp only [actV,gA9,g09,g19,Act.put,sI9,s09,s19];refine zBA (i := 6) (o := ⟨some 41,.call { callee := .value (.func 91),args := #[.tmp 35,.tmp 40],argTypes := #[45,45] },45, "lines.go:49",#[⟨0,.data⟩,⟨5,.data⟩],none⟩) (by kernel_rfl) rfl (fun K hK => ?_);go_simp;go_at_call 91;refine (lcm_z (Z53.out.now GB.out).zi ((ZD.out.now GB.out).zi.more HkK.out) HKM.out).mono ?_;rintro e w2 ⟨rl,rfl,ml,b⟩;have lz2 := (show Below _ _ _ from b).size;replace GB := hid (zAA GB.out b);rw [lcmv_nat] at ml;have ML : Hid (Zm w.heap.size w2 _ (lcn R (i + 1) : Int) KW) := (ml.mono GD.out).fit (by
    rw [Int.natAbs_natCast];exact Int.lt_of_lt_of_le (zLH (k := k) fun j hj => (FQ3.out.lt j hj).2) (zMC (by have := HKK.out (i + 1) (by omega);rw [Nat.succ_mul] at this;omega)))
   obtain ⟨nl,xl,al,cl,rfl⟩ := ml.parts;have FQ4 := hid (FQ3.out.step GB.out);have D54 := hid (D53.out.step GB.out);have D34 := hid (D33.out.step GB.out);have G4 := hid (zAA G3.out GB.out);clear ml;clear b;refine hK.out _ _ (fun _ => KB.out _ GB.out) ?_;clear hK;refine zBA (i := 7) (o := ⟨none,.store 45 (.tmp 5) (.tmp 41),0, "lines.go:49",#[⟨6,.data⟩,⟨6,.chain⟩,⟨0,.phase⟩,⟨1,.phase⟩,⟨2,.phase⟩,⟨3,.phase⟩,⟨4,.phase⟩,⟨5,.phase⟩,⟨6,.phase⟩],none⟩) (by kernel_rfl) rfl (fun K hK => ?_);have h0 := D54.out.c0;have h1 := D54.out.c1;have h2 := D54.out.fz 0;have h3 := D54.out.fz 1;go_simp;clear h0 h1 h2 h3;obtain ⟨V3,hW⟩ : ∃ V3,((w2.setCell ⟨b5,0,none⟩ (.bool nl)).setCell ⟨b5,1,none⟩ (.slice al xl.length cl)) = V3 := ⟨_,rfl⟩
   have HN1 : Hid (WaH w b3 b5 gl n R k KW (n - (i + 1)) (.int .i64 ((i + 1 : Nat) : Int)) V3) := by
    unfold Hid;rw [← hW];have ty := D54.out.ty13 (.bool nl) (.slice al xl.length cl);have n3 : b3 ≠ b5 := by have := H35.out;omega
    exact ⟨i + 1,nl,al,_,cl,rfl,by omega,rfl,FQ4.out.ty ty (by decide) (by decide),D54.out.set _ _,ML.out.ty ty (by decide),Duo.off17 (Duo.off17 D34.out n3) n3,bset (bset G4.out HB5.out) HB5.out⟩
   rw [hW];clear hW;refine hK.out _ _ (fun h => absurd h (by decide)) ?_;clear hK
   try simp only [Act.put]
   refine zEA (by kernel_rfl) ?_ _;clear GB KB GD FQ4 D54 D34 G4 ML FQ3 D53 Z53 D33 G3 ZD f2 f3 t0 t1;go_wp2_with fail;go_roundg (n - (i + 1))
   case rel => exact HN1.out
   case measure => exact HMM.out
  ·have hlt' : ¬ (i : Int) < (n : Int) := by omega
   obtain rfl : i = n := by omega
   clear HG;go_wp2_with (at_make;refine zwA _ rfl _ _ rfl _ _ i i rfl rfl rfl rfl (Nat.le_refl _) (by omega) ?_)
   intro w3 hA hb3 hsz;have H0 : Hid (WbH w b3 b5 gl wr.heap.size i R nb ab lb cb k KW i (.int .i64 0) w3) := ⟨0,rfl,Nat.zero_le _,rfl,FQ.out.step hb3,D5.out.step hb3,Z5.out.now hb3,D3.out.step hb3,FilM.start hA _ _,zAA G.out hb3⟩
   have HG2 : Hid (w.heap.size ≤ wr.heap.size) := G.out.size;have HG5 : Hid (b5 < wr.heap.size) := D5.out.blk;have HG3 : Hid (b3 < wr.heap.size) := D3.out.blk;obtain ⟨g2,hg2⟩ : ∃ g2,wr.heap.size = g2 := ⟨_,rfl⟩
   rw [hg2] at H0 HG2 HG5 HG3 ⊢;clear hA hb3 hsz FQ D5 Z5 D3 G hg2;go_wp2_with fail
   go_loopg [48] i (fun gk s48 wx => WbH w b3 b5 gl g2 i R nb ab lb cb k KW gk s48 wx)
   case atStart => exact H0.out
   case round =>
    clear H0;obtain ⟨t,rfl,htn,hgk,hF,hd5,hz5,hd3,hM,hb⟩ := hrel;have FQ := hid hF;have D5 := hid hd5;have Z5 := hid hz5;have D3 := hid hd3;have FM := hid hM;have G := hid hb;have HG := hid hgk;clear hF hd5 hz5 hd3 hM hb hgk
    by_cases hlt2 : t < i
    ·have hlt2' : (t : Int) < (i : Int) := by omega
     have hwt := zVA (i := t) (by omega);obtain ⟨n1,a1,l1,c1,n2,a2,l2,c2,e1,e2,e3,e4,-,-,-,-,hz⟩ := FQ.out.cells hlt2;have zz := hz hlt2;obtain ⟨V1,hV⟩ : ∃ V1,wr.alloc (.cells #[.bool n1,.slice a1 l1 c1,.bool n2,.slice a2 l2 c2] 47) = V1 := ⟨_,rfl⟩
     obtain ⟨b,sz1⟩ := alo1 wr (.cells #[.bool n1,.slice a1 l1 c1,.bool n2,.slice a2 l2 c2] 47);rw [hV] at b sz1;have DF : Hid (Cel V1 wr.heap.size 47 [.bool n1,.slice a1 l1 c1,.bool n2,.slice a2 l2 c2]) := by unfold Hid;rw [← hV];exact Cel.new wr _ _
     have HDV : ((R t).den : Int) ∣ (lcn R i : Int) := Int.ofNat_dvd.2 (zbF R hlt2);have HD0 : ((R t).den : Int) ≠ 0 := by have := (R t).den_pos;omega
     have HS := hid (zsA (Z5.out.now b).zi (zz.2.now b).zi HD0 (by have := HKM.out;omega) (by have := HKm2.out;omega) (Int.tmod_eq_zero_of_dvd HDV));have ZN := hid (zz.1.now b);have d0 := DF.out.at (i := 0) rfl;have d1 := DF.out.at (i := 1) rfl;have d2 := DF.out.at (i := 2) rfl;have d3 := DF.out.at (i := 3) rfl;have s0 := (D5.out.step b).c0;have s1 := (D5.out.step b).c1;have HMM : Hid (i - (t + 1) < gk) := by unfold Hid;rw [HG.out];omega
     have HWL : Hid (((whl R i t).natAbs : Int) < pw KW) := by
      have hb := whl_lt (fun j hj => (FQ.out.lt j hj).2) (FQ.out.lt t hlt2).1 hlt2;exact Int.lt_of_lt_of_le hb (zMC (HKK.out i (by omega)))
     have EV := hid hV;have BV := hid b;rw [← hV] at d0 d1 d2 d3 s0 s1;clear zz hz b sz1 hV HG HDV HD0;go_wp2_with fail;rw [EV.out];refine HS.out.mono ?_;rintro e w2 ⟨rq,rfl,mq,bq⟩;obtain ⟨nq,xq,aq,cq,rfl⟩ := mq.parts;obtain ⟨V2,hV2⟩ : ∃ V2,w2.alloc (duo (.bool nq) (.slice aq xq.length cq)) = V2 := ⟨_,rfl⟩
     obtain ⟨b2,sz2⟩ := alo1 w2 (duo (.bool nq) (.slice aq xq.length cq));rw [hV2] at b2 sz2;have DQ : Duo V2 w2.heap.size (.bool nq) (.slice aq xq.length cq) := by rw [← hV2];exact Duo.new w2 _ _
     have BB := hid (zAA BV.out (zAA bq b2));have HM := hid (zhB (ZN.out.now (zAA bq b2)).zi (mq.now b2).zi (by have := HKM.out;have := HKm2.out;omega));have y0 := DQ.c0;have y1 := DQ.c1;have x0 := cnow (zAA bq b2) ((DF.out.at (i := 0) rfl));have x1 := cnow (zAA bq b2) ((DF.out.at (i := 1) rfl));have EV2 := hid hV2;rw [← hV2] at y0 y1 x0 x1;clear HS mq bq b2 sz2 hV2 DQ d0 d1 d2 d3 s0 s1 EV ZN DF e1 e2 e3 e4;go_wp2_with fail;rw [EV2.out];refine HM.out.mono ?_;rintro e w3 ⟨rm,rfl,mm,bm⟩;obtain ⟨nm,xm,am,cm,rfl⟩ := mm.parts;have B3 := zAA BB.out bm;have FM3 := hid (FM.out.step B3);obtain ⟨_,_,_,_,f0,f1,f2,f3⟩ := FM3.out.cells hlt2;have HN1 : Hid (WbH w b3 b5 gl g2 i R nb ab lb cb k KW (i - (t + 1)) (.int .i64 ((t + 1 : Nat) : Int)) ((w3.setCell ⟨g2,t * 2,none⟩ (.bool nm)).setCell ⟨g2,t * 2 + 1,none⟩ (.slice am xm.length cm))) := by
      have z : Zm 0 w3 (.agg #[.bool nm,.slice am xm.length cm]) (whl R i t) KW := (mm.mono (Nat.zero_le _)).fit HWL.out;obtain ⟨ps,hA,hl,-⟩ := id FM3.out;have ty : Ty 45 w3 ((w3.setCell ⟨g2,t * 2,none⟩ (.bool nm)).setCell ⟨g2,t * 2 + 1,none⟩ (.slice am xm.length cm)) := (Ty.set hA.1).trans (Ty.set (hA.1.set _ _));have n5 : b5 ≠ g2 := by have := HG5.out;omega
      have n3 : b3 ≠ g2 := by have := HG3.out;omega
      exact ⟨t + 1,rfl,by omega,rfl,(FQ.out.step B3).ty ty (by decide) (by decide),Duo.off17 (Duo.off17 (D5.out.step B3) n5) n5,(Z5.out.now B3).ty ty (by decide),Duo.off17 (Duo.off17 (D3.out.step B3) n3) n3,FM3.out.put hlt2 z,bset (bset (zAA G.out B3) HG2.out) HG2.out⟩
     clear HM mm bm B3 FM3 FQ D5 Z5 D3 FM G BB EV2 y0 y1 x0 x1 HWL;go_wp2_with fail;go_roundg (i - (t + 1))
     case rel => exact HN1.out
     case measure => exact HMM.out
    ·have hlt2' : ¬ (t : Int) < (i : Int) := by omega
     obtain rfl : t = i := by omega
     have s0 := D5.out.c0;have s1 := D5.out.c1;clear HG;go_wp2_with fail;have KB : Hid (∀ w',Below wr.heap.size wr w' → w'.cell? ⟨b5,0,none⟩ = some (.bool nb) ∧ w'.cell? ⟨b5,1,none⟩ = some (.slice ab lb cb)) := fun w' h => ⟨cnow h s0,cnow h s1⟩
     refine zFA (fun w' => w'.cell? ⟨b5,0,none⟩ = some (.bool nb) ∧ w'.cell? ⟨b5,1,none⟩ = some (.slice ab lb cb)) 3 (by kernel_rfl) ?_;obtain ⟨D31,hD⟩ : ∃ D31,wr.drew = D31 := ⟨_,rfl⟩
     have GB : Hid (Below wr.heap.size wr D31) := by unfold Hid;rw [← hD];exact (Below.refl _ _).drew
     rw [hD];clear hD;refine zDA [(0,(.slice (some ⟨g2,0,none⟩) t t)),(1,(.agg #[.bool nb,.slice ab lb cb])),(2,(.slice (some ⟨g2,0,none⟩) t t))] 3 ?_ (KB.out _ GB.out) ?_
     ·simp only [zJA,gA9,g09,g19,Act.put,sI9,s09,s19]
      (repeat' (first | exact trivial | refine And.intro (Or.inl ⟨by rfl,?_⟩) ?_)) <;> (intro w hSw;(try dsimp only at hSw);go_simp)
     simp only [actV,gA9,g09,g19,Act.put,sI9,s09,s19];refine zBA (i := 3) (o := ⟨none,.store 45 (.tmp 3) (.tmp 69),0, "lines.go:56",#[⟨1,.data⟩,⟨2,.chain⟩,⟨0,.phase⟩,⟨1,.phase⟩,⟨2,.phase⟩],none⟩) (by kernel_rfl) rfl (fun K hK => ?_);have D3D := hid (D3.out.step GB.out);have h0 := D3D.out.c0;have h1 := D3D.out.c1;have h2 := D3D.out.fz 0;have h3 := D3D.out.fz 1;go_simp;clear h0 h1 h2 h3;obtain ⟨V32,hW⟩ : ∃ V32,((D31.setCell ⟨b3,0,none⟩ (.bool nb)).setCell ⟨b3,1,none⟩ (.slice ab lb cb)) = V32 := ⟨_,rfl⟩
     have DR : Hid (Duo V32 b3 (.bool nb) (.slice ab lb cb)) := by unfold Hid;rw [← hW];exact D3D.out.set _ _
     have FF : Hid (WLd w t R KW (.returned (.tuple #[.slice (some ⟨g2,0,none⟩) t t,.agg #[.bool nb,.slice ab lb cb]])) V32) := by
      unfold Hid;rw [← hW];have ty := D3D.out.ty13 (.bool nb) (.slice ab lb cb);have n3 : b3 ≠ g2 := by have := HG3.out;omega
      obtain ⟨ps,q1,q2,q3⟩ := (FM.out.step GB.out).doneN;have hb3 : w.heap.size ≤ b3 := by have := HB3.out;omega
      exact ⟨g2,_,rfl,HG2.out,⟨ps,(q1.ne n3).ne n3,q3.ty ty (by decide)⟩,(Z5.out.now GB.out).ty ty (by decide),bset (bset (zAA G.out GB.out) hb3) hb3⟩
     clear D3D;rw [hW];clear hW;refine hK.out _ _ (fun h => absurd h (by decide)) ?_;clear hK
     try simp only [Act.put]
     refine zEA (by kernel_rfl) ?_ _;clear GB KB FQ D5 Z5 D3 FM G s0 s1;go_wp2;exact bodyPost_ret (tback17 Tryz.results64 DR.out _ (by rfl) (by rfl)) rfl FF.out
end Go.Proofs.YtffkmeocmjohmaaGreat
