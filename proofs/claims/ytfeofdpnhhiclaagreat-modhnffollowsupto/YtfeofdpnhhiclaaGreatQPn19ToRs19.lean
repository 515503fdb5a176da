/-
 QPn19ToRs19: Pn19, Rs19, joined.
-/
import Derived.Test.YtfeofdpnhhiclaaGreatQTailLToTl19
import Derived.Test.YtfeofdpnhhiclaaGreatQSr13ToRl17
import Derived.Test.YtfeofdpnhhiclaaGreatQEl13
import Derived.Test.YtfeofdpnhhiclaaGreatQZModToLess6

set_option maxRecDepth 100000
set_option maxHeartbeats 6400000
set_option linter.unusedVariables false
set_option linter.unusedSimpArgs false
namespace Go.Proofs.YtfeofdpnhhiclaaGreat
def ziA (c : Nat) (s : Int) (L R : Nat → Int) (j : Nat) : Int := if j < c then R j else R j - s * L j
def ziC (c : Nat) (x y D : Int) (L R : Nat → Int) (j : Nat) : Int := if j < c then L j else (x * L j + y * (R j % D)) % D
def zyC (c : Nat) (u v D : Int) (L R : Nat → Int) (j : Nat) : Int := if j < c then R j else (u * L j + v * (R j % D)) % D
def znB (L : Nat → Nat → Int) (c : Nat) (F : Nat → Int) (i j : Nat) : Int := if i = c then F j else L i j
theorem zxA (L : Nat → Nat → Int) (c : Nat) (F : Nat → Int) : znB L c F c = F := by funext j;simp [znB]
theorem zgA {L : Nat → Nat → Int} {c i : Nat} (F : Nat → Int) (h : i ≠ c) : znB L c F i = L i := by funext j;simp [znB,h]
structure Pb19 (n c : Nat) (D M : Int) (L : Nat → Nat → Int) (R : Nat → Int) (P : (Nat → Int) → Prop) : Prop where
 pt : Pt19 n c D L R P
 bd : ∀ j,j < n → ((R j).natAbs : Int) ≤ M + c * (D * D)
 dm : D ≤ M
 d0 : 0 < D
theorem Pb19.up {n c : Nat} {D M : Int} {L : Nat → Nat → Int} {R : Nat → Int} {P : (Nat → Int) → Prop} (h : Pb19 n c D M L R P) : M + c * (D * D) ≤ M + ((c + 1 : Nat) : Int) * (D * D) ∧ M + ((c + 1 : Nat) : Int) * (D * D) = M + c * (D * D) + D * D ∧ 0 ≤ (c : Int) * (D * D) ∧ 0 < D * D := by
 have h0 := h.d0;have hp : 0 < D * D := Int.mul_pos h0 h0;have hc : 0 ≤ (c : Int) * (D * D) := Int.mul_nonneg (by omega) (by omega);have e : ((c + 1 : Nat) : Int) * (D * D) = c * (D * D) + D * D := by rw [Int.natCast_add,Int.add_mul];simp
 exact ⟨by omega,by omega,hc,hp⟩
def zPD (c : Nat) (D : Int) (R : Nat → Int) (j : Nat) : Int := if j = c then R j % D else R j
theorem Pb19.rest {n c : Nat} {D M : Int} {L : Nat → Nat → Int} {R : Nat → Int} {P : (Nat → Int) → Prop} (h : Pb19 n c D M L R P) : Pb19 n c D M L (zPD c D R) P := by
 refine ⟨h.pt.rest (fun t => if t = c then -(R c / D) else 0) (fun t ht => if_neg (by omega)) fun t ht => ?_,fun j hj => ?_,h.dm,h.d0⟩
 ·unfold zPD
  by_cases e : t = c
  ·subst e
   rw [if_pos rfl,if_pos rfl];have := Int.mul_ediv_add_emod (R t) D;rw [Int.mul_neg];omega
  ·rw [if_neg e,if_neg e];simp
 ·unfold zPD
  by_cases e : j = c
  ·subst e
   rw [if_pos rfl];have a := Int.emod_nonneg (R j) (show D ≠ 0 by have := h.d0;omega);have b := Int.emod_lt_of_pos (R j) h.d0;have := h.up;have := h.dm;omega
  ·rw [if_neg e];exact h.bd j hj
theorem rsR19_at (c : Nat) (D : Int) (R : Nat → Int) (h : 0 < D) : 0 ≤ zPD c D R c ∧ zPD c D R c < D := by
 unfold zPD;rw [if_pos rfl];exact ⟨Int.emod_nonneg _ (by omega),Int.emod_lt_of_pos _ h⟩
theorem Pb19.skip {n c : Nat} {D M : Int} {L : Nat → Nat → Int} {R : Nat → Int} {P : (Nat → Int) → Prop} (h : Pb19 n c D M L R P) (h0 : R c = 0) : Pb19 n (c + 1) D M L R P :=
 ⟨h.pt.skip fun _ => h0,fun j hj => Int.le_trans (h.bd j hj) h.up.1,h.dm,h.d0⟩
theorem Pb19.less {n c : Nat} {D M s : Int} {L : Nat → Nat → Int} {R : Nat → Int} {P : (Nat → Int) → Prop} (h : Pb19 n c D M L R P) (hc : c < n) (h0 : 0 ≤ R c) (h1 : R c < D) (hs : R c = s * L c c) : Pb19 n (c + 1) D M L (ziA c s (L c) R) P ∧ 0 ≤ s ∧ s ≤ D := by
 have hp := h.pt.tri.piv c hc;have s0 : 0 ≤ s := by
  rcases Int.lt_or_le s 0 with q | q
  ·have : s * L c c ≤ -1 * L c c := Int.mul_le_mul_of_nonneg_right (by omega) (by omega)
   omega
  ·exact q
 have s1 : s ≤ D := by
  have : s * 1 ≤ s * L c c := Int.mul_le_mul_of_nonneg_left (by omega) s0;omega
 refine ⟨⟨h.pt.less hc hs fun t ht => rfl,fun j hj => ?_,h.dm,h.d0⟩,s0,s1⟩;have hb := h.bd j hj;have hu := h.up;rw [hu.2.1];unfold ziA
 by_cases e : j < c
 ·rw [if_pos e];omega
 ·rw [if_neg e]
  have l := h.pt.le c j hc hj;have m1 : s * L c j ≤ D * D := Int.mul_le_mul s1 l.2 l.1 (by have := h.d0;omega);have m2 : 0 ≤ s * L c j := Int.mul_nonneg s0 l.1;omega
theorem mul_one19 {g x y p r u v : Int} (hg : 0 < g) (h1 : g * u = r) (h2 : g * v = p) (h : p * x + r * y = g) : x * v - y * -u = 1 := by
 have e : g * (x * v - y * -u) = g * 1 := by
  have : g * (x * v - y * -u) = (g * v) * x + (g * u) * y := by grind
  rw [this,h1,h2,h,Int.mul_one]
 exact Int.eq_of_mul_eq_mul_left (by omega) e
theorem Pb19.mix {n c : Nat} {D M g x y u v : Int} {L : Nat → Nat → Int} {R : Nat → Int} {P : (Nat → Int) → Prop} (h : Pb19 n c D M L R P) (hc : c < n) (h0 : 0 ≤ R c) (h1 : R c < D)
  (hg0 : 0 < g) (hgD : g < D) (hl : L c c * x + R c * y = g) (hu : g * u = R c) (hv : g * v = L c c) :
  Pb19 n (c + 1) D M (znB L c (ziC c x y D (L c) R)) (zyC c (-u) v D (L c) R) P := by
 have hd0 := h.d0;have hdn : D ≠ 0 := by omega
 have hdet := mul_one19 hg0 hu hv hl
 -- the row's rests first
 have P1 := h.pt.rest (R' := fun t => if t < c then R t else R t % D) (fun t => if t < c then 0 else -(R t / D)) (fun t ht => if_pos ht) fun t ht => by
  show (if t < c then R t else R t % D) = R t + D * (if t < c then 0 else -(R t / D))
  by_cases e : t < c
  ·rw [if_pos e,if_pos e];simp
  ·rw [if_neg e,if_neg e]
   have := Int.mul_ediv_add_emod (R t) D;rw [Int.mul_neg];omega
 have rc : R c % D = R c := Int.emod_eq_of_lt h0 h1;have el : x * L c c + y * R c = g := by rw [← hl];grind
 have er : -u * L c c + v * R c = 0 := by rw [← hu,← hv];grind
 have lowL : ∀ t,t < c → L c t = 0 := fun t ht => h.pt.tri.low c t hc ht
 have lowR : ∀ t,t < c → R t = 0 := fun t ht => h.pt.zero t ht (by omega)
 have LC : znB L c (ziC c x y D (L c) R) c c = g := by
  rw [zxA];unfold ziC;rw [if_neg (by omega),rc,el];exact Int.emod_eq_of_lt (by omega) hgD
 refine ⟨P1.mix (L' := znB L c (ziC c x y D (L c) R)) (R' := zyC c (-u) v D (L c) R) (x := x) (y := y) (u := -u) (v := v) (p := fun t => if t ≤ c then 0 else -((x * L c t + y * (R t % D)) / D)) (q := fun t => if t ≤ c then 0 else -((-u * L c t + v * (R t % D)) / D)) hc hdet (fun t ht => if_pos ht) (fun t ht => if_pos ht) (fun t ht => ?_) (fun t ht => ?_) (fun i hi => zgA _ hi) (by rw [LC];exact hg0) ?_ (fun t ht => ?_),fun j hj => ?_,h.dm,h.d0⟩
 ·rw [zxA];unfold ziC
  show (if t < c then L c t else (x * L c t + y * (R t % D)) % D) = x * L c t + y * (if t < c then R t else R t % D) + D * (if t ≤ c then 0 else -((x * L c t + y * (R t % D)) / D))
  by_cases e : t < c
  ·rw [if_pos e,if_pos e,if_pos (by omega),lowL t e,lowR t e];simp
  ·rw [if_neg e,if_neg e]
   by_cases e2 : t = c
   ·subst e2;rw [if_pos (Nat.le_refl _),rc,el,Int.emod_eq_of_lt (by omega) hgD];simp
   ·rw [if_neg (by omega)]
    have := Int.mul_ediv_add_emod (x * L c t + y * (R t % D)) D;rw [Int.mul_neg];omega
 ·unfold zyC
  show (if t < c then R t else (-u * L c t + v * (R t % D)) % D) = -u * L c t + v * (if t < c then R t else R t % D) + D * (if t ≤ c then 0 else -((-u * L c t + v * (R t % D)) / D))
  by_cases e : t < c
  ·rw [if_pos e,if_pos e,if_pos (by omega),lowL t e,lowR t e];simp
  ·rw [if_neg e,if_neg e]
   by_cases e2 : t = c
   ·subst e2;rw [if_pos (Nat.le_refl _),rc,er];simp
   ·rw [if_neg (by omega)]
    have := Int.mul_ediv_add_emod (-u * L c t + v * (R t % D)) D;rw [Int.mul_neg];omega
 ·unfold zyC
  rw [if_neg (by omega),rc,er];simp
 ·rw [zxA];unfold ziC
  by_cases e : t < c
  ·rw [if_pos e,lowL t e];omega
  ·rw [if_neg e]
   have a := Int.emod_nonneg (x * L c t + y * (R t % D)) hdn;have b := Int.emod_lt_of_pos (x * L c t + y * (R t % D)) hd0;omega
 ·have hb := h.bd j hj
  have hu := h.up;rw [hu.2.1];unfold zyC
  by_cases e : j < c
  ·rw [if_pos e];omega
  ·rw [if_neg e]
   have a := Int.emod_nonneg (-u * L c j + v * (R j % D)) hdn;have b := Int.emod_lt_of_pos (-u * L c j + v * (R j % D)) hd0;have := h.dm;omega
open Go.RowKit
theorem Rw17.more {w : World} {g n k l : Nat} {F : Nat → Int} (h : Rw17 w g n F k) (hl : k ≤ l) : Rw17 w g n F l := by
 obtain ⟨ps,h1,h2⟩ := h;exact ⟨ps,h1,h2.more hl⟩
def Tg19 (B : Nat) (w : World) (bt : Nat) (nd : Bool) (ad : Option Addr) (ld cd : Nat) (lv : Value) (n : Nat) (D : Int) (gs : Nat → Nat) (L : Nat → Nat → Int) (k K : Nat) : Prop :=
 Cel w bt 109 [.bool nd,.slice ad ld cd,lv] ∧ Zm 0 w (.agg #[.bool nd,.slice ad ld cd]) D k ∧ Sh17 B w lv n n gs L K
theorem Tg19.now {B bt ld cd n k K : Nat} {nd : Bool} {ad : Option Addr} {lv : Value} {D : Int} {gs : Nat → Nat} {L : Nat → Nat → Int} {w w' : World} (h : Tg19 B w bt nd ad ld cd lv n D gs L k K) (b : Below w.heap.size w w') : Tg19 B w' bt nd ad ld cd lv n D gs L k K := ⟨h.1.step b,h.2.1.now b,h.2.2.now b⟩
def zqE (w : World) (z : Int) (k : Nat) (e : Ending) (w' : World) : Prop := ∃ r,e = .returned r ∧ Zm 0 w' r z k ∧ Below w.heap.size w w'
theorem zgC {w : World} {bt : Nat} {nd : Bool} {ad : Option Addr} {ld cd k l : Nat} {lv v : Value} {z D : Int} (hC : Cel w bt 109 [.bool nd,.slice ad ld cd,lv]) (hd : Zm 0 w (.agg #[.bool nd,.slice ad ld cd]) D k) (hz : Zi w v z l) (h0 : 0 < D) (hk : k ≤ 1099511627776) (hl : l ≤ 1099511627776) :
  Calls Tryz.prog 76 #[.pointer (some ⟨bt,0,none⟩),v] w (zqE w (z % D) k) := by
 obtain ⟨n,xs,a,c,rfl,-,-,-⟩ := id hz;obtain ⟨W0,hW0⟩ : ∃ W0,(w.alloc (duo (.bool n) (.slice a xs.length c))).alloc zbox = W0 := ⟨_,rfl⟩
 obtain ⟨b0,sz0⟩ := zcA w (duo (.bool n) (.slice a xs.length c)) zbox;rw [hW0] at b0 sz0;have p0 : Duo W0 (w.heap.size) (.bool n) (.slice a xs.length c) := by rw [← hW0];exact zDA (zGA (by simp)) _
 have pR : Duo W0 (w.heap.size + 1) (.bool false) (.slice none 0 0) := by rw [← hW0];exact zGA (by simp)
 have HD := hid ((hd.now b0).zi);have HZ := hid (hz.now b0);have HDN : Hid (D ≠ 0) := by unfold Hid;omega
 have HLT : Hid (((z % D).natAbs : Int) < pw k) := by
  unfold Hid;have a := Int.emod_nonneg z (show D ≠ 0 by omega);have b := Int.emod_lt_of_pos z h0;have := hd.zi.lt;omega
 have HK := hid hk;have HL := hid hl;have i0 := p0.c0;have i1 := p0.c1;have hC0 := hC.step b0;have m0 := hC0.at (i := 0) rfl;have m1 := hC0.at (i := 1) rfl;have PR := hid pR;have B0 := hid b0;have EW := hid hW0;have HSZ := hid sz0;clear hC hC0 hd hz hk hl h0 p0 pR b0 sz0 hW0;obtain ⟨bb,hbb⟩ : ∃ bb,w.heap.size = bb := ⟨_,rfl⟩
 rw [hbb] at i0 i1 PR HSZ;have EBB := hid hbb;clear hbb;go_enter Tryz.func76,Tryz.ntmps76;go_wp2_with fail;rw [EW.out,EBB.out]
 go_cut [5] from 6 (fun s5 wx => MetX W0 wx s5 (z % D) k)
 case first =>
  have KB : Hid (∀ w',Below W0.heap.size W0 w' → w'.cell? ⟨bb,0,none⟩ = some (.bool n) ∧ w'.cell? ⟨bb,1,none⟩ = some (.slice a xs.length c) ∧ w'.cell? ⟨bt,0,none⟩ = some (.bool nd) ∧ w'.cell? ⟨bt,1,none⟩ = some (.slice ad ld cd)) := fun w' h => ⟨cnow h i0,cnow h i1,cnow h m0,cnow h m1⟩
  refine zFA (fun w' => w'.cell? ⟨bb,0,none⟩ = some (.bool n) ∧ w'.cell? ⟨bb,1,none⟩ = some (.slice a xs.length c) ∧ w'.cell? ⟨bt,0,none⟩ = some (.bool nd) ∧ w'.cell? ⟨bt,1,none⟩ = some (.slice ad ld cd)) 11 (by kernel_rfl) ?_;obtain ⟨D1,hD⟩ : ∃ D1,W0.drew = D1 := ⟨_,rfl⟩
  have GB : Hid (Below W0.heap.size W0 D1) := by unfold Hid;rw [← hD];exact (Below.refl _ _).drew
  rw [hD];clear hD;have GZ : Hid (W0.heap.size ≤ D1.heap.size) := GB.out.size;refine zEA [(0,(.agg #[.bool n,.slice a xs.length c])),(1,(.pointer (some ⟨bt,0,none⟩))),(2,(.pointer (some ⟨bt,0,none⟩))),(3,(.pointer (some ⟨bt,0,none⟩))),(4,(.agg #[.bool nd,.slice ad ld cd]))] 5 ?_ (KB.out _ GB.out) ?_
  ·simp only [zPA,gA9,g09,g19,Act.put,sI9,s09,s19]
   (repeat' (first | exact trivial | refine And.intro (Or.inl ⟨by rfl,?_⟩) ?_)) <;> (intro w hSw;(try dsimp only at hSw);go_simp)
  simp only [actV,gA9,g09,g19,Act.put,sI9,s09,s19];refine zMA (i := 5) (j := 9) (oi := ⟨some 13,.call { callee := .value (.func 100),args := #[.tmp 8,.tmp 12],argTypes := #[27,27] },44, "triangle.go:90",#[⟨0,.data⟩,⟨4,.data⟩],none⟩) (oj := ⟨some 5,.alloc 27,0, "triangle.go:90",#[],none⟩) (by kernel_rfl) rfl rfl (fun K hK => ?_) (fun K hK => ?_)
  ·skip
   replace GZ : Hid (W0.heap.size ≤ D1.heap.size) := GB.out.size;go_simp;go_at_call 100;refine (zGI (HZ.out.now GB.out) (HD.out.now GB.out) HDN.out HL.out HK.out).mono ?_;rintro e w2 ⟨rq,rfl,mq,b⟩;have lz2 := (show Below _ _ _ from b).size;replace GB := hid (below_step GB.out b);have MQ := hid ((mq.mono (Nat.zero_le _)).fit HLT.out);obtain ⟨nq,xq,aq,cq,rfl⟩ := mq.parts;clear mq;clear b;refine hK.out _ _ (fun _ => KB.out _ GB.out) ?_;clear hK;refine zEA [(6,(.tuple #[(.agg #[.bool nq,.slice aq xq.length cq]),(.int .i64 0)])),(7,(.agg #[.bool nq,.slice aq xq.length cq])),(8,(.int .i64 0))] 3 ?_ (KB.out _ GB.out) ?_
   ·simp only [zPA,gA9,g09,g19,Act.put,sI9,s09,s19]
    (repeat' (first | exact trivial | refine And.intro (Or.inl ⟨by rfl,?_⟩) ?_)) <;> (intro w hSw;(try dsimp only at hSw);go_simp)
   simp only [actV,gA9,g09,g19,Act.put,sI9,s09,s19];refine zAA (i := 9) (o := ⟨some 5,.alloc 27,0, "triangle.go:90",#[],none⟩) (by kernel_rfl) rfl (fun K hK => ?_);replace GZ : Hid (W0.heap.size ≤ w2.heap.size) := GB.out.size;go_simp;obtain ⟨V3,hW⟩ : ∃ V3,w2.alloc zbox = V3 := ⟨_,rfl⟩
   obtain ⟨b,sz3⟩ := alo1 w2 zbox;rw [hW] at b sz3;replace GB := hid (below_step GB.out b);have DX : Hid (Duo V3 w2.heap.size (.bool false) (.slice none 0 0)) := by unfold Hid;rw [← hW];exact Duo.new w2 _ _
   have SX := hid (show W0.heap.size ≤ w2.heap.size from GZ.out);clear sz3;replace MQ := hid (MQ.out.now b);rw [hW];clear hW b;refine hK.out _ _ (fun _ => KB.out _ GB.out) ?_;clear hK
   try simp only [Act.put]
   refine zAA (i := 10) (o := ⟨none,.store 27 (.tmp 5) (.tmp 14),0, "triangle.go:90",#[⟨9,.data⟩,⟨7,.data⟩,⟨5,.chain⟩,⟨0,.phase⟩,⟨1,.phase⟩,⟨2,.phase⟩,⟨3,.phase⟩,⟨4,.phase⟩,⟨5,.phase⟩,⟨6,.phase⟩,⟨7,.phase⟩,⟨8,.textOnly .lateStores⟩,⟨9,.phase⟩],none⟩) (by kernel_rfl) rfl (fun K hK => ?_);have e0 := DX.out.c0;have e1 := DX.out.c1;have e2 := DX.out.fz 0;have e3 := DX.out.fz 1;go_simp;clear e0 e1 e2 e3;obtain ⟨V4,hW⟩ : ∃ V4,((V3.setCell ⟨w2.heap.size,0,none⟩ (.bool nq)).setCell ⟨w2.heap.size,1,none⟩ (.slice aq xq.length cq)) = V4 := ⟨_,rfl⟩
   have MB : Hid (MetX W0 V4 (.pointer (some ⟨w2.heap.size,0,none⟩)) (z % D) k) := by
    unfold Hid;rw [← hW];exact zIG DX.out MQ.out GB.out SX.out
   replace GB : Hid (Below W0.heap.size W0 V4) := by unfold Hid;rw [← hW];exact bset (bset GB.out SX.out) SX.out
   rw [hW];clear hW;refine hK.out _ _ (fun _ => KB.out _ GB.out) ?_;clear hK
   try simp only [Act.put]
   refine zAA (i := 11) (o := ⟨some 6,.assign (.tmp 15),29, "triangle.go:90",#[⟨8,.data⟩,⟨10,.chain⟩,⟨0,.phase⟩,⟨1,.phase⟩,⟨2,.phase⟩,⟨3,.phase⟩,⟨4,.phase⟩,⟨5,.phase⟩,⟨6,.phase⟩,⟨7,.phase⟩,⟨8,.phase⟩,⟨9,.phase⟩,⟨10,.phase⟩],none⟩) (by kernel_rfl) rfl (fun K hK => ?_);go_simp;refine hK.out _ _ (fun h => absurd h (by decide)) ?_;clear hK
   try simp only [Act.put]
   refine zCA (by kernel_rfl) ?_ _;clear DX SX MQ GB GZ;go_wp2_with fail;go_meet;exact MB.out
  ·skip
   replace GZ : Hid (W0.heap.size ≤ D1.heap.size) := GB.out.size;go_simp;obtain ⟨V5,hW⟩ : ∃ V5,D1.alloc zbox = V5 := ⟨_,rfl⟩
   obtain ⟨b,sz5⟩ := alo1 D1 zbox;rw [hW] at b sz5;replace GB := hid (below_step GB.out b);have DX : Hid (Duo V5 D1.heap.size (.bool false) (.slice none 0 0)) := by unfold Hid;rw [← hW];exact Duo.new D1 _ _
   have SX := hid (show W0.heap.size ≤ D1.heap.size from GZ.out);clear sz5;rw [hW];clear hW b;refine hK.out _ _ (fun _ => KB.out _ GB.out) ?_;clear hK
   try simp only [Act.put]
   refine zAA (i := 5) (o := ⟨some 13,.call { callee := .value (.func 100),args := #[.tmp 8,.tmp 12],argTypes := #[27,27] },44, "triangle.go:90",#[⟨0,.data⟩,⟨4,.data⟩],none⟩) (by kernel_rfl) rfl (fun K hK => ?_);replace GZ : Hid (W0.heap.size ≤ V5.heap.size) := GB.out.size;go_simp;go_at_call 100;refine (zGI (HZ.out.now GB.out) (HD.out.now GB.out) HDN.out HL.out HK.out).mono ?_;rintro e w6 ⟨rq,rfl,mq,b⟩;have lz6 := (show Below _ _ _ from b).size;replace GB := hid (below_step GB.out b);have MQ := hid ((mq.mono (Nat.zero_le _)).fit HLT.out);obtain ⟨nq,xq,aq,cq,rfl⟩ := mq.parts;clear mq;replace DX := hid (DX.out.step b);clear b;refine hK.out _ _ (fun _ => KB.out _ GB.out) ?_;clear hK;refine zEA [(6,(.tuple #[(.agg #[.bool nq,.slice aq xq.length cq]),(.int .i64 0)])),(7,(.agg #[.bool nq,.slice aq xq.length cq])),(8,(.int .i64 0))] 3 ?_ (KB.out _ GB.out) ?_
   ·simp only [zPA,gA9,g09,g19,Act.put,sI9,s09,s19]
    (repeat' (first | exact trivial | refine And.intro (Or.inl ⟨by rfl,?_⟩) ?_)) <;> (intro w hSw;(try dsimp only at hSw);go_simp)
   simp only [actV,gA9,g09,g19,Act.put,sI9,s09,s19];refine zAA (i := 10) (o := ⟨none,.store 27 (.tmp 5) (.tmp 14),0, "triangle.go:90",#[⟨9,.data⟩,⟨7,.data⟩,⟨5,.chain⟩,⟨0,.phase⟩,⟨1,.phase⟩,⟨2,.phase⟩,⟨3,.phase⟩,⟨4,.phase⟩,⟨5,.phase⟩,⟨6,.phase⟩,⟨7,.phase⟩,⟨8,.textOnly .lateStores⟩,⟨9,.phase⟩],none⟩) (by kernel_rfl) rfl (fun K hK => ?_);have e0 := DX.out.c0;have e1 := DX.out.c1;have e2 := DX.out.fz 0;have e3 := DX.out.fz 1;go_simp;clear e0 e1 e2 e3;obtain ⟨V7,hW⟩ : ∃ V7,((w6.setCell ⟨D1.heap.size,0,none⟩ (.bool nq)).setCell ⟨D1.heap.size,1,none⟩ (.slice aq xq.length cq)) = V7 := ⟨_,rfl⟩
   have MB : Hid (MetX W0 V7 (.pointer (some ⟨D1.heap.size,0,none⟩)) (z % D) k) := by
    unfold Hid;rw [← hW];exact zIG DX.out MQ.out GB.out SX.out
   replace GB : Hid (Below W0.heap.size W0 V7) := by unfold Hid;rw [← hW];exact bset (bset GB.out SX.out) SX.out
   rw [hW];clear hW;refine hK.out _ _ (fun _ => KB.out _ GB.out) ?_;clear hK
   try simp only [Act.put]
   refine zAA (i := 11) (o := ⟨some 6,.assign (.tmp 15),29, "triangle.go:90",#[⟨8,.data⟩,⟨10,.chain⟩,⟨0,.phase⟩,⟨1,.phase⟩,⟨2,.phase⟩,⟨3,.phase⟩,⟨4,.phase⟩,⟨5,.phase⟩,⟨6,.phase⟩,⟨7,.phase⟩,⟨8,.phase⟩,⟨9,.phase⟩,⟨10,.phase⟩],none⟩) (by kernel_rfl) rfl (fun K hK => ?_);go_simp;refine hK.out _ _ (fun h => absurd h (by decide)) ?_;clear hK
   try simp only [Act.put]
   refine zCA (by kernel_rfl) ?_ _;clear DX SX MQ GB GZ;go_wp2_with fail;go_meet;exact MB.out
 case rest =>
 rename World => Wx
 obtain ⟨bx,nr,xr,ar,cr,rfl,b,hbx,dx,zx⟩ := hcut;have d0 := dx.c0;have d1 := dx.c1;have R2 := hid (PR.out.step b);have r0 := R2.out.c0;have r1 := R2.out.c1;have r2 := R2.out.fz 0;have r3 := R2.out.fz 1;have FF : Hid (zqE w (z % D) k (.returned (.agg #[.bool nr,.slice ar xr.length cr])) ((Wx.setCell ⟨bb + 1,0,none⟩ (.bool nr)).setCell ⟨bb + 1,1,none⟩ (.slice ar xr.length cr))) := by
  have hs := HSZ.out;exact ⟨_,rfl,zx.ty (R2.out.ty13 _ _) (by decide),bset (bset (below_step B0.out b) (by rw [EBB.out];omega)) (by rw [EBB.out];omega)⟩
 clear b hbx dx zx PR B0 HSZ HD HZ HDN HLT HK HL i0 i1 m0 m1;go_wp2;exact bodyPost_ret (zfB Tryz.results76 (R2.out.set _ _) _ (by rfl)) rfl FF.out
end Go.Proofs.YtfeofdpnhhiclaaGreat
