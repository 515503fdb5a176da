import Derived.Test.YtmnecbniappnaaaGreatQCa18
set_option maxRecDepth 100000
set_option maxHeartbeats 6400000
set_option linter.unusedVariables false
set_option linter.unusedSimpArgs false
namespace Go.Proofs.YtmnecbniappnaaaGreat
open Go.RowKit
theorem zEF {f : Func} {s1 s2 s3 : Nat} (hr : f.results = #[ResultVar.tmp s1,ResultVar.tmp s2,ResultVar.tmp s3]) {W : World} {u v x : Value} (tmps : Array Value) (hu : tmps[s1]? = some u) (hv : tmps[s2]? = some v) (hx : tmps[s3]? = some x) : (results f tmps).run Tryz.prog W = .ok (.tuple #[u,v,x]) W := by
 simp [results,hr,go_sem,hu,hv,hx]
def zNH (B : Nat) (w : World) (bs Bl Bh Ba : Nat) (lv sv : Value) (m n r : Nat) (ρ γ gs : Nat → Nat) (A : Nat → Nat → Int) (kw i T gk : Nat) (s4 s12 : Value) (wx : World) : Prop :=
 ∃ (c p : Nat) (X : Nat → Nat → Int),s4 = .int .i64 (p : Int) ∧ s12 = .int .i64 (c : Int) ∧ c ≤ n ∧ gk = n - c ∧ Wk18 B wx bs Bl Bh Ba lv sv m n r ρ γ gs X kw ∧ Lv18 n i r ρ γ X A c p T ∧ Touch (tl18 gs m) w wx
def zPI (B : Nat) (w : World) (bs Bl Bh Ba : Nat) (lv sv : Value) (m n r : Nat) (ρ γ gs : Nat → Nat) (A : Nat → Nat → Int) (kw i T : Nat) (e : Ending) (w' : World) : Prop :=
 ∃ (c p : Nat) (X : Nat → Nat → Int),Wk18 B w' bs Bl Bh Ba lv sv m n r ρ γ gs X kw ∧ Lv18 n i r ρ γ X A c p T ∧ Touch (tl18 gs m) w w' ∧
  ((e = .returned (.tuple #[.int .i64 0,.int .i64 0,.bool false]) ∧ c = n) ∨ (e = .returned (.tuple #[.int .i64 (p : Int),.int .i64 (c : Int),.bool true]) ∧ c < n ∧ X i c ≠ 0 ∧ ¬ (p < r ∧ γ p = c)))
theorem leave18 {B bs Bl Bh Ba m n r kw i T : Nat} {w : World} {lv sv : Value} {ρ γ gs : Nat → Nat} {X A : Nat → Nat → Int} (h : Wk18 B w bs Bl Bh Ba lv sv m n r ρ γ gs X kw) (hL : Lv18 n i r ρ γ X A 0 0 T) (hi : i < m) (hm : m ≤ 65) (hn : n ≤ 64) (hT : ((bd18 T 128 : Nat) : Int) < pw kw) (hk1 : 1 ≤ kw) (hK : kw ≤ 68719476736) :
  Calls Tryz.prog 41 #[.pointer (some ⟨bs,0,none⟩),.int .i64 (i : Int)] w (zPI B w bs Bl Bh Ba lv sv m n r ρ γ gs A kw i T) := by
 have HW := hid (width18 h hi hm hn);have H0 : Hid (zNH B w bs Bl Bh Ba lv sv m n r ρ γ gs A kw i T n (.int .i64 ((0 : Nat) : Int)) (.int .i64 ((0 : Nat) : Int)) w) := ⟨0,0,X,rfl,rfl,Nat.zero_le _,rfl,h,hL,Touch.refl _ _⟩
 have HI := hid hi;have HT := hid hT;have Hk1 := hid hk1;have HK := hid hK;have hr64 : r ≤ 64 := by have := hL.ec.few;omega
 obtain ⟨sa,sc,rfl⟩ := h.sform;clear h hL hi hT hk1 hK;go_enter Tryz.func41,Tryz.ntmps41;go_wp2_with fail;refine HW.out.mono ?_;rintro e w1 ⟨rfl,hw1⟩;rw [hw1];clear HW hw1;go_wp2_with fail
 go_loopg [4,12] n (fun gk s4 s12 wx => zNH B w bs Bl Bh Ba lv (.slice sa r sc) m n r ρ γ gs A kw i T gk s4 s12 wx)
 case atStart => exact H0.out
 case round =>
  clear H0 X;obtain ⟨c,p,X,rfl,rfl,hcn,hgk,hwk,hlv,htw⟩ := hrel;have WK := hid hwk;have LV := hid hlv;have TW := hid htw;have HG := hid hgk;have hpr : p ≤ r := hlv.pr;have hg := hwk.1.at (i := 2) rfl;have hspl := hwk.2.2.2.2.1;clear hwk hlv htw hgk
  by_cases hlt : c < n
  ·have hlt' : (c : Int) < (n : Int) := by omega
   have HMM : Hid (n - (c + 1) < gk) := by unfold Hid;rw [HG.out];omega
   have hwc := zVA (i := c) (by omega);have hwp := zVA (i := p) (by omega);have HAT := hid (at18 WK.out HI.out hlt hm hn);clear HG;obtain ⟨sd,hsd⟩ : ∃ sd,decide (p < r ∧ γ p = c) = sd := ⟨_,rfl⟩
   have HSD := hid hsd;clear hsd;go_upto_region 4 with fail
   go_cut [8] from 15 to 57 (fun s8 wx => s8 = .bool sd ∧ wx = wr)
   case first =>
    by_cases hp : p < r
    ·obtain ⟨Bp,hsa,c1⟩ : ∃ Bp,sa = some ⟨Bp,0,none⟩ ∧ wr.cell? ⟨Bp,p * 2 + 1,none⟩ = some (.int .i64 (γ p : Int)) := by
      rcases hspl with ⟨e,_⟩ | ⟨h0,Bp,cap,t,e,e0,e1,e2,e3,e4⟩
      ·omega
      ·simp only [Value.slice.injEq,true_and] at e
       exact ⟨Bp,e.1,e4.at (zuB hp t).2⟩
     subst hsa;have hp' : (p : Int) < (r : Int) := by omega
     have ED : Hid (decide ((γ p : Int) = (c : Int)) = sd ∧ decide (γ p = c) = sd) := by unfold Hid;rw [← HSD.out,decide_eq_decide,decide_eq_decide];omega
     clear hspl;go_wp2_with fail;go_meet
     first | exact ⟨congrArg Value.bool ED.out.1,rfl⟩ | exact ⟨congrArg Value.bool ED.out.2,rfl⟩
    ·have hp' : ¬ (p : Int) < (r : Int) := by omega
     have ED : Hid (false = sd) := by unfold Hid;rw [← HSD.out];exact (decide_eq_false fun q => hp q.1).symm
     clear hspl;go_wp2_with fail;go_meet;exact ⟨congrArg Value.bool ED.out,rfl⟩
   case rest =>
   rename World => wz
   obtain ⟨rfl,hwz⟩ := hcut;rw [hwz];clear hspl hwz;go_wp2_with fail;refine HAT.out.mono ?_;rintro e w2 ⟨nb,a,l,cc,rfl,z,b⟩;have HIZ := hid (zOD z.zi);have B2 := hid b;clear HAT z b;go_wp2_with fail;refine HIZ.out.mono ?_;rintro e w3 ⟨rfl,b⟩;have BB := hid (below_step B2.out b);have WK3 := hid (WK.out.now BB.out);have TW3 : Hid (Touch (tl18 gs m) w w3) := TW.out.trans (.ofBelow BB.out);have hg3 := WK3.out.1.at (i := 2) rfl;clear HIZ B2 b WK TW BB hg
   by_cases hz : X i c = 0
   ·have hd : decide (X i c = 0) = true := decide_eq_true hz
    rw [hd]
    by_cases hst : p < r ∧ γ p = c
    ·have hd2 : sd = true := by rw [← HSD.out];exact decide_eq_true hst
     subst hd2;have HN1 : Hid (zNH B w bs Bl Bh Ba lv (.slice sa r sc) m n r ρ γ gs A kw i T (n - (c + 1)) (.int .i64 ((p + 1 : Nat) : Int)) (.int .i64 ((c + 1 : Nat) : Int)) w3) := ⟨c + 1,p + 1,X,rfl,rfl,by omega,rfl,WK3.out,LV.out.skipS hz hst.1 hst.2,TW3.out⟩
     clear hz hd hst HSD WK3 TW3 LV hg3 hpr;go_wp2_with fail;go_roundg (n - (c + 1))
     case rel => exact HN1.out
     case measure => exact HMM.out
    ·have hd2 : sd = false := by rw [← HSD.out];exact decide_eq_false hst
     subst hd2;have HN1 : Hid (zNH B w bs Bl Bh Ba lv (.slice sa r sc) m n r ρ γ gs A kw i T (n - (c + 1)) (.int .i64 (p : Int)) (.int .i64 ((c + 1 : Nat) : Int)) w3) := ⟨c + 1,p,X,rfl,rfl,by omega,rfl,WK3.out,LV.out.skip hz hst,TW3.out⟩
     clear hz hd hst HSD WK3 TW3 LV hg3 hpr;go_wp2_with fail;go_roundg (n - (c + 1))
     case rel => exact HN1.out
     case measure => exact HMM.out
   ·have hd : decide (X i c = 0) = false := decide_eq_false hz
    rw [hd]
    by_cases hst : p < r ∧ γ p = c
    ·have hd2 : sd = true := by rw [← HSD.out];exact decide_eq_true hst
     subst hd2;obtain ⟨Bp,hsa,c0,c1⟩ : ∃ Bp,sa = some ⟨Bp,0,none⟩ ∧ w3.cell? ⟨Bp,p * 2,none⟩ = some (.int .i64 (ρ p : Int)) ∧ w3.cell? ⟨Bp,p * 2 + 1,none⟩ = some (.int .i64 (c : Int)) := by
      rcases WK3.out.2.2.2.2.1 with ⟨e,_⟩ | ⟨h0,Bp,cap,t,e,e0,e1,e2,e3,e4⟩
      ·omega
      ·simp only [Value.slice.injEq,true_and] at e
       have q := zuB (ρ := ρ) (γ := γ) hst.1 t;rw [hst.2] at q;exact ⟨Bp,e.1,e4.at q.1,e4.at q.2⟩
     subst hsa;have hp' : (p : Int) < (r : Int) := by omega
     have HCA := hid (cancel18 WK3.out LV.out hst.1 hst.2 hz HI.out hm hn HT.out Hk1.out HK.out);have hpr1 : p < r := hst.1;clear hz hd hst HSD WK3 LV hpr;go_wp2_with fail;refine HCA.out.mono ?_;rintro e w4 ⟨X',rfl,h1,h2,h3⟩;have HN1 : Hid (zNH B w bs Bl Bh Ba lv (.slice (some ⟨Bp,0,none⟩) r sc) m n r ρ γ gs A kw i T (n - (c + 1)) (.int .i64 ((p + 1 : Nat) : Int)) (.int .i64 ((c + 1 : Nat) : Int)) w4) := ⟨c + 1,p + 1,X',rfl,rfl,by omega,rfl,h1,h2,TW3.out.trans h3⟩
     clear HCA h1 h2 h3 TW3 c0 c1 hg3;go_wp2_with fail;go_roundg (n - (c + 1))
     case rel => exact HN1.out
     case measure => exact HMM.out
    ·have hd2 : sd = false := by rw [← HSD.out];exact decide_eq_false hst
     subst hd2;have FF : Hid (zPI B w bs Bl Bh Ba lv (.slice sa r sc) m n r ρ γ gs A kw i T (.returned (.tuple #[.int .i64 (p : Int),.int .i64 (c : Int),.bool true])) w3) := ⟨c,p,X,WK3.out,LV.out,TW3.out,.inr ⟨rfl,hlt,hz,hst⟩⟩
     clear hz hd hst HSD WK3 LV TW3 hg3 hpr HMM;go_wp2;refine bodyPost_ret (zEF Tryz.results41 _ (by rfl) (by rfl) (by rfl)) rfl ?_;exact FF.out
  ·have hlt' : ¬ (c : Int) < (n : Int) := by omega
   obtain rfl : c = n := by omega
   have FF : Hid (zPI B w bs Bl Bh Ba lv (.slice sa r sc) m c r ρ γ gs A kw i T (.returned (.tuple #[.int .i64 0,.int .i64 0,.bool false])) wr) := ⟨c,p,X,WK.out,LV.out,TW.out,.inl ⟨rfl,rfl⟩⟩
   clear WK LV TW HG hspl hg hpr;go_wp2;refine bodyPost_ret (zEF Tryz.results41 _ (by rfl) (by rfl) (by rfl)) rfl ?_;exact FF.out
end Go.Proofs.YtmnecbniappnaaaGreat
