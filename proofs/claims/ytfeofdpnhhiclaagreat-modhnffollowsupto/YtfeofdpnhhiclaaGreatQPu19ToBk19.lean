/-
 QPu19ToBk19: Pu19, Bk19, joined.
-/
import Derived.Test.YtfeofdpnhhiclaaGreatQCa19
import Derived.Test.YtfeofdpnhhiclaaGreatQLm6ToChkN9

set_option maxRecDepth 100000
set_option maxHeartbeats 6400000
set_option linter.unusedVariables false
set_option linter.unusedSimpArgs false
namespace Go.Proofs.YtfeofdpnhhiclaaGreat
open Go.RowKit
def zHH (B : Nat) (w : World) (bt : Nat) (nd : Bool) (ad : Option Addr) (ld cd : Nat) (lv : Value) (n : Nat) (D M : Int) (gs : Nat → Nat) (gr k kw : Nat) (P : (Nat → Int) → Prop) (gk : Nat) (s : Value) (wx : World) : Prop :=
 ∃ (c : Nat) (L : Nat → Nat → Int) (R : Nat → Int),s = .int .i64 (c : Int) ∧ c ≤ n ∧ gk = n - c ∧ Tg19 B wx bt nd ad ld cd lv n D gs L k kw ∧ Rw17 wx gr n R kw ∧ Pb19 n c D M L R P ∧ zOA (tb19 gr gs n) w wx
def zoH (B : Nat) (w : World) (bt : Nat) (nd : Bool) (ad : Option Addr) (ld cd : Nat) (lv : Value) (n : Nat) (D : Int) (gs : Nat → Nat) (gr k kw : Nat) (P : (Nat → Int) → Prop) (e : Ending) (w' : World) : Prop :=
 ∃ L',e = .returned (.tuple #[]) ∧ Tg19 B w' bt nd ad ld cd lv n D gs L' k kw ∧ Rs19 n D L' P ∧ zOA (tb19 gr gs n) w w'
theorem Tg19.form {B bt ld cd n k kw c : Nat} {w : World} {nd : Bool} {ad : Option Addr} {lv : Value} {D : Int} {gs : Nat → Nat} {L : Nat → Nat → Int} (h : Tg19 B w bt nd ad ld cd lv n D gs L k kw) (hc : c < n) : ∃ la lc,lv = .slice (some ⟨la,0,none⟩) n lc := by
 obtain ⟨-,-,h3,-⟩ := h;rcases h3 with ⟨h3,_⟩ | ⟨h0,Lb,cap,r,e,e0,e1,e2⟩
 ·omega
 ·exact ⟨Lb,cap,e⟩
theorem put19 {B bt n k kw gr ld cd : Nat} {w : World} {nd : Bool} {ad : Option Addr} {lv : Value} {D M : Int} {gs : Nat → Nat} {L : Nat → Nat → Int} {R : Nat → Int} {P : (Nat → Int) → Prop}
  (hT : Tg19 B w bt nd ad ld cd lv n D gs L k kw) (hR : Rw17 w gr n R kw) (hne : ∀ i,i < n → gr ≠ gs i) (hS : Rs19 n D L P) (h0 : 0 < D) (hRM : ∀ j,j < n → ((R j).natAbs : Int) ≤ M) (hDM : D ≤ M) (hM : M + 64 * (D * D) < pw kw) (hn : n ≤ 64) (hk1 : 1 ≤ k) (hkK : k ≤ kw) (hK : kw ≤ 17179869184) :
  Calls Tryz.prog 51 #[.pointer (some ⟨bt,0,none⟩),.slice (some ⟨gr,0,none⟩) n n] w (zoH B w bt nd ad ld cd lv n D gs gr k kw (zpE P R)) := by
 have H0 : Hid (zHH B w bt nd ad ld cd lv n D M gs gr k kw (zpE P R) n (.int .i64 0) w) := ⟨0,L,R,rfl,Nat.zero_le _,rfl,hT,hR,⟨hS.start R,fun j hj => by have := hRM j hj;simp;omega,hDM,h0⟩,zOA.refl _ _⟩
 have HMU : Hid (∀ j,j < n → zpE P R fun t => D * dlz j t) := fun j hj => ⟨0,by
  have := hS.mul j hj
  simpa using this⟩
 have HNE := hid hne;have HM := hid hM;have Hk1 := hid hk1;have HkK := hid hkK;have HK := hid hK;have HD0 := hid h0;have FIN : Hid (∀ wx L',Tg19 B wx bt nd ad ld cd lv n D gs L' k kw → Rs19 n D L' (zpE P R) → zOA (tb19 gr gs n) w wx → zoH B w bt nd ad ld cd lv n D gs gr k kw (zpE P R) (.returned (.tuple #[])) wx) := fun wx L' h1 h2 h3 => ⟨L',rfl,h1,h2,h3⟩
 obtain ⟨P',hP'⟩ : ∃ P',zpE P R = P' := ⟨_,rfl⟩
 rw [hP'] at H0 HMU FIN ⊢;clear hT hR hne hS hRM hDM hM hk1 hkK hK h0 hP';go_enter Tryz.func51,Tryz.ntmps51;go_wp2_with fail
 go_loopg [7] n (fun gk s7 wx => zHH B w bt nd ad ld cd lv n D M gs gr k kw P' gk s7 wx)
 case atStart => exact H0.out
 case round =>
  clear H0;obtain ⟨c,L,R,rfl,hcn,hgk,ht,hr,hp,htw⟩ := hrel;have TG := hid ht;have RW := hid hr;have PB := hid hp;have TW := hid htw;have HG := hid hgk;clear ht hr hp htw hgk
  by_cases hlt : c < n
  ·have hlt' : (c : Int) < (n : Int) := by omega
   obtain ⟨la,lc,rfl⟩ := TG.out.form hlt;obtain ⟨nx,ax,lx,cx,x0,x1,-,-,zx⟩ := RW.out.at hlt;have HR := hid (zgC TG.out.1 TG.out.2.1 zx.zi HD0.out (by have := HkK.out;have := HK.out;omega) (by have := HK.out;omega));have HMM : Hid (n - (c + 1) < gk) := by unfold Hid;rw [HG.out];omega
   have hwc := zjA (i := c) (by omega);clear zx HG;go_wp2_with fail;refine HR.out.mono ?_;rintro e w1 ⟨rq,rfl,mq,b⟩;obtain ⟨nq,xq,aq,cq,rfl⟩ := mq.parts;have RW1 := hid (RW.out.now b);have TG1 := hid (TG.out.now b);obtain ⟨_,_,_,_,e0,e1,e2,e3,-⟩ := RW1.out.at hlt;obtain ⟨W2,hW2⟩ : ∃ W2,(w1.setCell ⟨gr,c * 2,none⟩ (.bool nq)).setCell ⟨gr,c * 2 + 1,none⟩ (.slice aq xq.length cq) = W2 := ⟨_,rfl⟩
   obtain ⟨pr,ty⟩ := RW1.out.put hlt (mq.more HkK.out);have tt : zOA (· = gr) w1 ((w1.setCell ⟨gr,c * 2,none⟩ (.bool nq)).setCell ⟨gr,c * 2 + 1,none⟩ (.slice aq xq.length cq)) := zUB (zOA.refl _ _) _ _;have tg2 := TG1.out.off19 tt (fun i hi q => HNE.out i hi q.symm) ty;rw [hW2] at pr ty tt tg2;have RW2 : Hid (Rw17 W2 gr n (zPD c D R) kw) := pr.congr fun j hj => by
    unfold zPD
    by_cases q : j = c
    ·subst q;simp
    ·rw [if_neg q,if_neg q]
   have TG2 := hid tg2;have PB2 := hid PB.out.rest;have TW2 : Hid (zOA (tb19 gr gs n) w W2) := (TW.out.trans (.ofBelow b)).trans (tt.mono19 fun b q => .inl q);obtain ⟨ny,ay,ly,cy,y0,y1,-,-,zy⟩ := RW2.out.at hlt;have HSG := hid (zmA zy.zi);have EW := hid hW2;rw [← hW2] at y0 y1;have hrc := rsR19_at c D R HD0.out;have HRC := hid hrc;clear HR mq b RW1 TG1 pr ty tt tg2 RW TG PB TW x0 x1 zy hW2 hrc;go_wp2_with fail;rw [EW.out];clear EW y0 y1 e0 e1 e2 e3;refine HSG.out.mono ?_;rintro e w3 ⟨rfl,b⟩;have RW3 := hid (RW2.out.now b);have TG3 := hid (TG2.out.now b);have TW3 : Hid (zOA (tb19 gr gs n) w w3) := TW2.out.trans (.ofBelow b);clear HSG b RW2 TG2 TW2
   by_cases hz : zPD c D R c = 0
   ·have HN1 : Hid (zHH B w bt nd ad ld cd (.slice (some ⟨la,0,none⟩) n lc) n D M gs gr k kw P' (n - (c + 1)) (.int .i64 ((c + 1 : Nat) : Int)) w3) := ⟨c + 1,L,_,rfl,by omega,rfl,TG3.out,RW3.out,PB2.out.skip hz,TW3.out⟩
    have hs0 : cmpI (zPD c D R c) 0 = 0 := by rw [hz];rfl
    rw [hs0];clear RW3 TG3 TW3 PB2 hz hs0 HRC;go_wp2_with fail;go_roundg (n - (c + 1))
    case rel => exact HN1.out
    case measure => exact HMM.out
   ·have hs0 : (cmpI (zPD c D R c) 0 != 0) = true := by
     unfold cmpI
     split <;> (try split) <;> first | rfl | omega
    obtain ⟨sg,hsg⟩ : ∃ sg,cmpI (zPD c D R c) 0 = sg := ⟨_,rfl⟩
    rw [hsg] at hs0 ⊢;have hs1 : ¬ sg = 0 := by intro q;rw [q] at hs0;simp at hs0
    have HCA := hid (cancel19 TG3.out hlt RW3.out HNE.out PB2.out (by have := HRC.out;omega) HRC.out.2 HM.out hn Hk1.out HkK.out HK.out);have FN : Hid (∀ e Y,zNH B w3 bt nd ad ld cd (.slice (some ⟨la,0,none⟩) n lc) n c D M gs gr k kw P' e Y → zHH B w bt nd ad ld cd (.slice (some ⟨la,0,none⟩) n lc) n D M gs gr k kw P' (n - (c + 1)) (.int .i64 ((c + 1 : Nat) : Int)) Y) := by
     rintro e Y ⟨L',R',-,h1,h2,h3,h4⟩;exact ⟨c + 1,L',R',rfl,by omega,rfl,h1,h2,h3,TW3.out.trans h4⟩
    clear hz hsg RW3 TG3 TW3 PB2 HRC;go_wp2_with fail;refine HCA.out.mono ?_;intro e Y hY;have HN1 := hid (FN.out e Y hY);obtain ⟨_,_,rfl,-⟩ := hY;clear HCA FN;go_wp2_with fail;go_roundg (n - (c + 1))
    case rel => exact HN1.out
    case measure => exact HMM.out
  ·have hlt' : ¬ (c : Int) < (n : Int) := by omega
   obtain rfl : c = n := by omega
   have FF := hid (FIN.out wr L TG.out (PB.out.pt.done HMU.out) TW.out);clear RW TG PB TW HG FIN HMU;go_wp2;go_end0;exact FF.out
open Go.RowKit Go.Shelf
attribute [local go_sem] Oper.semAt_some
abbrev ls19 (gs : Nat → Nat) (n : Nat) : Nat → Prop := fun b => ∃ i,i < n ∧ b = gs i
abbrev zhG (gs : Nat → Nat) (n : Nat) (x : Nat) : Array Value := #[.int .i64 (x : Int),.slice (some ⟨gs x,0,none⟩) n n]
def zcF (n s : Nat) : Value := if s = n then .int .i64 (-1) else .int .i64 ((n - 1 - s : Nat) : Int)
theorem back19_in {S : Nat → Prop} {B l m Bc n : Nat} {lv : Value} {gs : Nat → Nat} {W : World} (hm : 1 ≤ m) (J : Nat → World → Prop)
  (hbox : W.cell? ⟨Bc,0,none⟩ = some lv) (hBc : Bc < B) (hSc : ¬ S Bc) (hn : n ≤ 64) (hlv : (n = 0 ∧ lv = .slice none 0 0) ∨ ∃ Lb cap,lv = .slice (some ⟨Lb,0,none⟩) n cap ∧ n ≤ cap ∧ Lb < B ∧ ¬ S Lb ∧ ∀ i,i < n → W.cell? ⟨Lb,i,none⟩ = some (.slice (some ⟨gs i,0,none⟩) n n)) (h0 : J 0 W)
  (hY : ∀ s X,J s X → s < n → YieldAt Fence.wide (m - 1) Tryz.prog l (zhG gs n (n - 1 - s)) X fun e Y => e = .returned (.bool true) ∧ J (s + 1) Y ∧ KpL S B X Y) :
  CallsIn Fence.wide m Tryz.prog 103 #[.func (.yield l) #[] #[],.pointer (some ⟨Bc,0,none⟩)] W fun e Y => (∃ v,e = .returned v) ∧ J n Y := by
 obtain ⟨a,cap,rfl,hcap,hel⟩ : ∃ a cap,lv = .slice a n cap ∧ n ≤ cap ∧ ∀ i,i < n → ∃ Lb,a = some ⟨Lb,0,none⟩ ∧ Lb < B ∧ ¬ S Lb ∧ W.cell? ⟨Lb,i,none⟩ = some (.slice (some ⟨gs i,0,none⟩) n n) := by
  rcases hlv with ⟨rfl,rfl⟩ | ⟨Lb,cap,rfl,h1,h2,h3,h4⟩
  ·exact ⟨none,0,rfl,Nat.le_refl _,fun i hi => by omega⟩
  ·exact ⟨_,cap,rfl,h1,fun i hi => ⟨Lb,rfl,h2,h3,h4 i hi⟩⟩
 have HC := hid hel;have H0 := hid h0;have HY := hid hY;have HSC := hid hSc;have HBX := hid hbox;have HBC := hid hBc;clear hel h0 hY hlv hSc hBc;refine callsIn_of_wp Tryz.func103 rfl trivial ?_ rfl;simp only [Tryz.ntmps103,List.size_toArray,List.length_cons,List.length_nil,Nat.reduceAdd,Nat.reduceSub,Array.replicate_succ,Array.replicate_zero,List.push_toArray,List.append_toArray,List.nil_append,List.cons_append];have hwn : IntKind.i64.wrap ((n : Int) - 1) = (n : Int) - 1 := zqA (by omega) (by omega);gi_wp2_with fail
 gi_loopw [3] (fun i wr => ∃ t : Nat,t ≤ n ∧ i = zcF n t ∧ J t wr ∧ KpL S B W wr)
  (fun i _ => ((intOf i) + 1).toNat)
 case atStart =>
  refine ⟨0,Nat.zero_le _,?_,H0.out,KpL.refl _ _ _⟩;unfold zcF
  by_cases e : n = 0
  ·subst e;simp
  ·rw [if_neg (by omega)]
   congr 1
   omega
 case round =>
  obtain ⟨t,htn,rfl,hj,hk⟩ := hrel;have JJ := hid hj;have KK := hid hk;have hbox' := KK.out.cell HBX.out HBC.out HSC.out;clear hj hk H0 hbox
  by_cases hlt : t < n
  ·obtain ⟨j,hj⟩ : ∃ j,n - 1 - t = j := ⟨_,rfl⟩
   have hjl : j < n := by omega
   have hjl' : (j : Int) < (n : Int) := by omega
   obtain ⟨Lb,rfl,h1,h2,h3⟩ := HC.out j hjl;have c0 := KK.out.cell h3 h1 h2;have ei : zcF n t = .int .i64 (j : Int) := by unfold zcF;rw [if_neg (by omega),hj]
   have en : (Value.int .i64 ((j : Int) - 1)) = zcF n (t + 1) := by
    unfold zcF
    by_cases q : t + 1 = n
    ·rw [if_pos q];congr 1;omega
    ·rw [if_neg q];congr 1;omega
   obtain ⟨fn,tmps,assign,body,hy,hR⟩ := HY.out t wr JJ.out hlt;dsimp only [zhG] at hy;rw [hj] at hy;rw [ei];have EN := hid en;have hjw : IntKind.i64.wrap ((j : Int) - 1) = (j : Int) - 1 := zqA (by omega) (by omega);clear en ei h1 h2 h3 hj JJ;gi_wp2;refine hR.mono ?_;rintro e W4 ⟨rfl,hj4,hk4⟩;gi_wp2;go_roundw
   case rel => exact ⟨t + 1,by omega,EN.out,hj4,KK.out.trans hk4⟩
   case measure => simp [intOf]
  ·obtain rfl : t = n := by omega
   rw [show zcF t t = .int .i64 (-1) from if_pos rfl];gi_wp2;go_end0;exact ⟨⟨_,rfl⟩,JJ.out⟩
theorem back19_new (n : Nat) (a : Option Addr) (len cap : Nat) (w : World) :
  CallsIn Fence.wide n Tryz.prog 78 #[.slice a len cap] w fun e w' => e = .returned (.func (.func 103) #[] #[.pointer (some ⟨w.heap.size,0,none⟩)]) ∧ w' = w.alloc (.cells #[.slice a len cap] 90) := by
 refine callsIn_of_wp Tryz.func78 rfl trivial ?_ rfl;simp only [Tryz.ntmps78,List.size_toArray,List.length_cons,List.length_nil,Nat.reduceAdd,Nat.reduceSub,Array.replicate_succ,Array.replicate_zero,List.push_toArray,List.append_toArray,List.nil_append,List.cons_append];gi_wp2;go_ret;exact ⟨rfl,rfl⟩
theorem Rw17.kc19 {w w' : World} {g n k : Nat} {F : Nat → Int} (h : Rw17 w g n F k) (hk : Kc w w') : Rw17 w' g n F k := by
 obtain ⟨ps,h1,h2⟩ := h;exact ⟨ps,hk.arr h1,h2.kc hk⟩
theorem Tg19.kc19 {B bt ld cd n k kw : Nat} {nd : Bool} {ad : Option Addr} {lv : Value} {D : Int} {gs : Nat → Nat} {L : Nat → Nat → Int} {w w' : World} (h : Tg19 B w bt nd ad ld cd lv n D gs L k kw) (hk : Kc w w') : Tg19 B w' bt nd ad ld cd lv n D gs L k kw := by
 obtain ⟨h1,h2,h3,h4,h5⟩ := h;refine ⟨hk.cel h1,h2.kc hk,?_,h4,fun i hi => ⟨(h5 i hi).1,(h5 i hi).2.kc19 hk⟩⟩;rcases h3 with h3 | ⟨h0,Lb,cap,r,e,e0,e1,e2⟩
 ·exact .inl h3
 ·exact .inr ⟨h0,Lb,cap,r,e,e0,e1,hk.cel e2⟩
def zvG (B : Nat) (w : World) (bt : Nat) (nd : Bool) (ad : Option Addr) (ld cd : Nat) (lv : Value) (n : Nat) (D : Int) (gs : Nat → Nat) (k kw : Nat) (P : (Nat → Int) → Prop) (bp : Nat) (s : Nat) (W : World) : Prop :=
 ∃ L,Tg19 B W bt nd ad ld cd lv n D gs L k kw ∧ Lw19 n (n - s) n D (D * D) L P ∧ s ≤ n ∧ Cel W bp 80 [.pointer (some ⟨bt,0,none⟩)] ∧ zOA (ls19 gs n) w W
theorem zOA.grown19 {S : Nat → Prop} {w0 w w' : World} {row : Option Nat} (h : zOA S w0 w) (hg : w.grownBy w' row) (hr : ∀ k,row = some k → w0.heap.size ≤ k) : zOA S w0 w' := h.grown hg fun k e => .inl (hr k e)
theorem zvG.own {B bt ld cd n k kw bp N : Nat} {nd : Bool} {ad : Option Addr} {lv : Value} {D : Int} {gs : Nat → Nat} {P : (Nat → Int) → Prop} {w : World} (hN : w.heap.size ≤ N) : OwnFrom N (zvG B w bt nd ad ld cd lv n D gs k kw P bp) := fun s W W' row hs hg hr => by
 obtain ⟨L,h1,h2,h3,h4,h5⟩ := hs;have hk := zPB hg (fun r e => (hr r e).2);exact ⟨L,h1.kc19 hk,h2,h3,hk.cel h4,h5.grown19 hg fun k e => Nat.le_trans hN (hr k e).1⟩
def zLI (B : Nat) (w : World) (bt : Nat) (nd : Bool) (ad : Option Addr) (ld cd : Nat) (lv : Value) (n : Nat) (D : Int) (gs : Nat → Nat) (k kw : Nat) (P : (Nat → Int) → Prop) (e : Ending) (w' : World) : Prop :=
 ∃ H,e = .returned (.tuple #[]) ∧ Tg19 B w' bt nd ad ld cd lv n D gs H k kw ∧ Hb19 n H P ∧ zOA (ls19 gs n) w w'
def zZC (B : Nat) (w : World) (bt : Nat) (nd : Bool) (ad : Option Addr) (ld cd : Nat) (lv : Value) (n i : Nat) (D : Int) (gs : Nat → Nat) (k kw : Nat) (P : (Nat → Int) → Prop) (bp : Nat) (s : Value) (W : World) : Prop :=
 ∃ (c : Nat) (L : Nat → Nat → Int),s = .int .i64 (c : Int) ∧ i < c ∧ c ≤ n ∧ Tg19 B W bt nd ad ld cd lv n D gs L k kw ∧ Lw19 n i c D (D * D) L P ∧ Cel W bp 80 [.pointer (some ⟨bt,0,none⟩)] ∧ zOA (ls19 gs n) w W
theorem zPF {z p D : Int} (h0 : 0 ≤ z) (h1 : z < D) (hp : 0 < p) : 0 ≤ fdv z p ∧ fdv z p ≤ D ∧ 0 ≤ z - fdv z p * p ∧ z - fdv z p * p < p := by
 have e : z.tmod p = z % p := Int.tmod_eq_emod_of_nonneg h0;have e2 : z.tdiv p = z / p := Int.tdiv_eq_ediv_of_nonneg h0;have m0 := Int.emod_nonneg z (show p ≠ 0 by omega);have m1 := Int.emod_lt_of_pos z hp;have d := Int.mul_ediv_add_emod z p;have hf : fdv z p = z / p := by
  unfold fdv;rw [e,e2,if_neg];have c1 : 0 ≤ cmpI (z % p) 0 := by unfold cmpI;split <;> (try split) <;> omega
  have c2 : 0 ≤ cmpI p 0 := by unfold cmpI;split <;> (try split) <;> omega
  have := Int.mul_nonneg c1 c2;omega
 rw [hf,Int.mul_comm (z / p) p];have q0 : 0 ≤ z / p := Int.ediv_nonneg h0 (by omega);have q1 : 1 * (z / p) ≤ p * (z / p) := Int.mul_le_mul_of_nonneg_right (by omega) q0;exact ⟨q0,by omega,by omega,by omega⟩
end Go.Proofs.YtfeofdpnhhiclaaGreat
