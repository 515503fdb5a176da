/-
 QROrderToZe17: ROrder, RLeast, R5Made, RDigits, RWords, RMul, R5Ones, R5Cmp, Ck17, Cj17, Co17, Rv17, Up17, At17, Ic17, Kp17, Kn17, Mu17, Nb17, Ig17, Kg17, Ze17, joined.
-/
import Derived.Test.YtffkmeocmjohmaaGreatQCc17ToRef
import Derived.Test.YtffkmeocmjohmaaGreatQRowsIToJoin
import Derived.Test.YtffkmeocmjohmaaGreatQTailToMWord
import Derived.Test.YtffkmeocmjohmaaGreatQExact0ToCells6
import Derived.Test.YtffkmeocmjohmaaGreatQFb17ToLk17
import Derived.Test.YtffkmeocmjohmaaGreatQIz17ToTailL
import Derived.Test.YtffkmeocmjohmaaGreatQExt6ToRf11
import Derived.Test.YtffkmeocmjohmaaGreatQNu17ToTk17
import Derived.Test.YtffkmeocmjohmaaGreatQSe17
import Derived.Test.YtffkmeocmjohmaaGreatQEm17ToOv17
import Derived.Test.YtffkmeocmjohmaaGreatQBz13ToSr13
import Derived.Test.YtffkmeocmjohmaaGreatQEach9ToLeastA9
import Derived.Test.YtffkmeocmjohmaaGreatQDim17ToCf8
import Derived.Test.YtffkmeocmjohmaaGreatQFo17
import Derived.Test.YtffkmeocmjohmaaGreatQLst9ToRowsOf9
import Derived.Deep.CutRange
import Derived.Test.YtffkmeocmjohmaaGreatQQf17ToFa17

set_option maxRecDepth 100000
set_option maxHeartbeats 6400000
set_option linter.unusedVariables false
set_option linter.unusedSimpArgs false
namespace Go.Proofs.YtffkmeocmjohmaaGreat
open Go.RowKit
end Go.Proofs.YtffkmeocmjohmaaGreat

namespace Go.Proofs.YtffkmeocmjohmaaGreat
open Go.RowKit
theorem rleast_any {w : World} {v : Value} {xs : List Int} (h : Sl w.heap.size w v xs) (hlen : xs.length ≤ 8796093022208) :
  Calls Tryz.prog 132 #[v] w (Told w (val xs)) := by
 have HS := hid (split_any h hlen);clear h;go_enter Tryz.func132,Tryz.ntmps132;go_wp2_with fail;refine HS.out.mono ?_;rintro e w1 ⟨ds,r,rfl,hs,hc,hv,_,hb⟩;have HV := hid hv;clear hv HS;go_wp2_with fail;refine (join_any hs hc.1).mono ?_;rintro e w2 ⟨zs,q,rfl,ho,hcz,hvz,hb2⟩;have HVZ := hid hvz;clear hvz;go_wp2;go_ret;refine ⟨zs,q,rfl,⟨ho.1,?_⟩,hcz,by rw [HVZ.out,HV.out],zAA hb hb2⟩;rcases ho.2 with h1 | ⟨g,r',h1,h2,h3,h4⟩
 ·exact .inl h1
 ·exact .inr ⟨g,r',Nat.le_trans hb.size h1,h2,h3,h4⟩
end Go.Proofs.YtffkmeocmjohmaaGreat

namespace Go.Proofs.YtffkmeocmjohmaaGreat
open Go.RowKit
theorem rmade {w : World} {n : Bool} {xs : List Int} {a : Option Addr} {c : Nat} (h : Sl w.heap.size w (.slice a xs.length c) xs) (hl : xs.length ≤ 8796093022208) :
  Calls Tryz.prog 108 #[.bool n,.slice a xs.length c] w (zcA w (iv n xs) xs.length) := by
 obtain ⟨W0,hW0⟩ : ∃ W0,w.alloc zbox = W0 := ⟨_,rfl⟩
 obtain ⟨b0,sz0⟩ := zyB w zbox;rw [hW0] at b0 sz0;have r0 : Duo W0 w.heap.size (.bool false) (.slice none 0 0) := by rw [← hW0];exact zKA rfl
 have hx := hid h.1;have HL := hid (rleast_any (h.now b0) hl);have R0 := hid r0;have EW := hid hW0;have G := hid b0;clear h r0 hW0 b0 hl;go_enter Tryz.func108,Tryz.ntmps108;go_wp2_with fail;rw [EW.out];refine HL.out.mono ?_;rintro e w1 ⟨zs,r,rfl,ho,hc,hv,b1⟩;obtain ⟨az,cz,rfl⟩ := ho.form;have HM := hid ho.mine5;have HC := hid hc;have hk : Hid (zs.length ≤ xs.length) := zVB hc (by rw [hv];exact zgA hx.out);have HV := hid (zAE n hv);replace R0 := hid (R0.out.step b1);replace G := hid (zAA G.out b1);have y0 := R0.out.c0;have y1 := R0.out.c1;have f0 := R0.out.fz 0;have f1 := R0.out.fz 1;clear ho hc hv b1 HL;have fin : Hid (zcA w (iv n xs) xs.length (.returned (.agg #[.bool (n && decide (0 < zs.length)),.slice az zs.length cz])) ((w1.setCell ⟨w.heap.size,0,none⟩ (.bool (n && decide (0 < zs.length)))).setCell ⟨w.heap.size,1,none⟩ (.slice az zs.length cz))) := by
  unfold Hid;rw [← HV.out];exact zAD (B := W0.heap.size) (zlH HM.out HC.out hk.out) G.out (by omega) (by omega)
 cases n
 ·go_wp2
  exact bodyPost_ret (zvA Tryz.results108 (R0.out.set _ _) _ (by rfl)) rfl fin.out
 ·simp only [Bool.true_and] at fin
  go_wp2;exact bodyPost_ret (zvA Tryz.results108 (R0.out.set _ _) _ (by rfl)) rfl fin.out
end Go.Proofs.YtffkmeocmjohmaaGreat

namespace Go.Proofs.YtffkmeocmjohmaaGreat
open Go.RowKit
end Go.Proofs.YtffkmeocmjohmaaGreat

namespace Go.Proofs.YtffkmeocmjohmaaGreat
open Go.RowKit
end Go.Proofs.YtffkmeocmjohmaaGreat

namespace Go.Proofs.YtffkmeocmjohmaaGreat
open Go.RowKit
end Go.Proofs.YtffkmeocmjohmaaGreat

namespace Go.Proofs.YtffkmeocmjohmaaGreat
open Go.RowKit
theorem rleast_z {w : World} {va : Value} {A : Int} {ka : Nat} (ha : Zi w va A ka) (hk : ka ≤ 1099511627776) :
  Calls Tryz.prog 85 #[va] w (zcA w A ka) := by
 have za0 := ha;obtain ⟨na,xa,aa,ca,rfl,sa,ea,la⟩ := ha;obtain ⟨W0,hW0⟩ : ∃ W0,(w.alloc (duo (.bool na) (.slice aa xa.length ca))).alloc zbox = W0 := ⟨_,rfl⟩
 obtain ⟨b0,sz0⟩ := zuA w (duo (.bool na) (.slice aa xa.length ca)) zbox;rw [hW0] at b0 sz0;have pa : Duo W0 (w.heap.size) (.bool na) (.slice aa xa.length ca) := by rw [← hW0];exact zIA (zKA (by simp)) _
 have r0 : Duo W0 (w.heap.size + 1) (.bool false) (.slice none 0 0) := by rw [← hW0];exact zKA (by simp)
 have Pa := hid pa;have ia0 := pa.c0;have ia1 := pa.c1;have Za := hid (za0.now b0);have Sa := hid (sa.now b0);have R0 := hid r0;have EW := hid hW0;have G := hid b0;clear b0 hW0 za0 sa pa r0;have EV : Hid (iv na xa = A) := by
  unfold Hid;have hx := Sa.out.1;exact ea
 clear ea;have HL : Hid (Calls Tryz.prog 108 #[.bool na,.slice aa xa.length ca] W0 (zcA W0 A xa.length)) := by
  unfold Hid;have q := rmade (n := na) Sa.out (by omega);rw [EV.out] at q;exact q
 clear EV;go_enter Tryz.func85,Tryz.ntmps85;go_wp2_with fail;rw [EW.out];clear ia0 ia1;refine (HL.out).mono ?_;rintro e w1 ⟨r,rfl,m1,b⟩;obtain ⟨n1,x1,a1,q1,rfl,-,-,-,-,-⟩ := id m1;replace R0 := hid (R0.out.step b);replace G := hid (zAA G.out b);have Z1 := hid (m1.more la);clear b m1;have y00 := R0.out.c0;have y01 := R0.out.c1;have f00 := R0.out.fz 0;have f01 := R0.out.fz 1;go_wp2;exact bodyPost_ret (zvA Tryz.results85 (R0.out.set _ _) _ (by rfl)) rfl (zAD (B := W0.heap.size) Z1.out G.out (by omega) (by omega))
end Go.Proofs.YtffkmeocmjohmaaGreat

namespace Go.Proofs.YtffkmeocmjohmaaGreat
open Go.RowKit
theorem rsign_z {w : World} {va : Value} {A : Int} {ka : Nat} (ha : Zi w va A ka) (hk : ka ≤ 1099511627776) :
  Calls Tryz.prog 58 #[va] w (fun e w' => e = .returned (.int .i64 (cmpI A 0)) ∧ Below w.heap.size w w') := by
 have za0 := ha;obtain ⟨na,xa,aa,ca,rfl,sa,ea,la⟩ := ha;obtain ⟨W0,hW0⟩ : ∃ W0,w.alloc (duo (.bool na) (.slice aa xa.length ca)) = W0 := ⟨_,rfl⟩
 obtain ⟨b0,sz0⟩ := zyB w (duo (.bool na) (.slice aa xa.length ca));rw [hW0] at b0 sz0;have pa : Duo W0 (w.heap.size) (.bool na) (.slice aa xa.length ca) := by rw [← hW0];exact zKA (by simp)
 have Pa := hid pa;have ia0 := pa.c0;have ia1 := pa.c1;have Za := hid (za0.now b0);have Sa := hid (sa.now b0);have EW := hid hW0;have G := hid b0;clear b0 hW0 za0 sa pa ;clear ea;have key : Hid (∀ n (xs : List Int),zMA xs → (xs = [] → n = false) → iv n xs = A → (n = true ∧ cmpI A 0 = -1) ∨ (n = false ∧ (0 : Int) < xs.length ∧ cmpI A 0 = 1) ∨ (n = false ∧ ¬ (0 : Int) < xs.length ∧ cmpI A 0 = 0)) := fun n xs hc hn e => by
  have hv := zGA hc.1;have h0 : xs ≠ [] → val xs ≠ 0 := fun q e => q (zlB hc e)
  cases n
  ·rw [zzC] at e
   by_cases q : xs = []
   ·subst q;exact .inr (.inr ⟨rfl,by simp,by rw [← e];simp [val,cmpI]⟩)
   ·have := h0 q
    exact .inr (.inl ⟨rfl,by have := List.length_pos_iff.2 q;omega,zMB (by omega)⟩)
  ·rw [zBE] at e
   by_cases q : xs = []
   ·exact absurd (hn q) (by simp)
   ·have := h0 q
    exact .inl ⟨rfl,zUB (by omega)⟩
 go_enter Tryz.func58,Tryz.ntmps58;go_wp2_with fail;rw [EW.out];clear ia0 ia1;refine (rleast_z Za.out hk).mono ?_;rintro e w1 ⟨r,rfl,m1,b⟩;obtain ⟨n1,x1,a1,q1,rfl,-,t1,t2,t3,-⟩ := m1;have KK := hid (key.out n1 x1 t1 t2 t3);have B1 := hid (zAA (zAA G.out b) (zyB w1 (duo (.bool n1) (.slice a1 x1.length q1))).1);clear b t1 t2 t3 key;rcases KK.out with ⟨rfl,e⟩ | ⟨rfl,hp,e⟩ | ⟨rfl,hp,e⟩
 all_goals
  have HE := hid e;clear e KK;go_wp2;go_ret;exact ⟨by rw [HE.out];rfl,B1.out⟩
end Go.Proofs.YtffkmeocmjohmaaGreat

namespace Go.Proofs.YtffkmeocmjohmaaGreat
open Go.RowKit
theorem denoms17 {w : World} {v : Value} {n k : Nat} {P Q : Nat → Int} (hv : Qs w v n P Q k) (hk : k ≤ 1099511627776) : Calls Tryz.prog 27 #[v] w (zqA w (∀ j,j < n → Q j ≠ 0)) := by
 have HV := hid hv;have HK := hid hk;obtain ⟨a0,c0,rfl,hc0,hn,hf0⟩ := hv.form;have F0 := hid hf0;have H0 : Hid (IxF w n (fun j => Q j = 0) n (.int .i64 0) w) := ⟨0,rfl,Nat.zero_le _,rfl,fun j hj => by omega,Below.refl _ _⟩
 clear hv hf0;go_enter Tryz.func27,Tryz.ntmps27;go_wp2_with fail
 go_loopg [3] n (fun gk s3 wx => IxF w n (fun j => Q j = 0) gk s3 wx)
 case atStart => exact H0.out
 case round =>
  clear H0;obtain ⟨i,rfl,hi,hg,hz,hb⟩ := hrel;have HZ := hid hz;have HG := hid hg;have G := hid hb;clear hz hg hb
  by_cases hlt : i < n
  ·have hlt' : (i : Int) < (n : Int) := by omega
   obtain ⟨bv,ov,rfl⟩ := F0.out (by omega);obtain ⟨n1,a1,l1,c1,n2,a2,l2,c2,e1,e2,e3,e4,zp,zq⟩ := (HV.out.now G.out).at hlt;have HS := hid (rsign_z zq HK.out);have hw := zVA (i := i) (by omega);clear zp zq;go_wp2_with fail;refine HS.out.mono ?_;rintro e w1 ⟨rfl,b⟩;have G1 := hid (zAA G.out b);clear b HS G e1 e2 e3 e4
   by_cases hq : Q i = 0
   ·have hc : (cmpI (Q i) 0 == 0) = true := by simp [hq,cmpI]
    have FF : Hid (zqA w (∀ j,j < n → Q j ≠ 0) (.returned (.bool false)) w1) := ⟨_,rfl,⟨fun q => (Bool.false_ne_true q).elim,fun q => absurd hq (q i hlt)⟩,G1.out⟩
    have hq' : cmpI (Q i) 0 = 0 := by simp [hq,cmpI]
    clear G1 HZ HG;go_wp2;go_ret;exact FF.out
   ·have hq' : cmpI (Q i) 0 ≠ 0 := by intro h;have := zrB (Q i);rw [decide_eq_decide] at this;exact hq (this.1 h)
    have hc : (cmpI (Q i) 0 == 0) = false := by simp [hq']
    have HN : Hid (IxF w n (fun j => Q j = 0) (n - (i + 1)) (.int .i64 ((i + 1 : Nat) : Int)) w1) := ⟨i + 1,rfl,by omega,rfl,fun j hj => by
     by_cases q : j < i
     ·exact HZ.out j q
     ·obtain rfl : j = i := by omega
      exact hq,G1.out⟩
    have HMM : Hid (n - (i + 1) < gk) := by unfold Hid;rw [HG.out];omega
    clear G1 HZ HG;go_wp2_with fail;go_roundg (n - (i + 1))
    case rel => exact HN.out
    case measure => exact HMM.out
  ·have hlt' : ¬ (i : Int) < (n : Int) := by omega
   have FF : Hid (zqA w (∀ j,j < n → Q j ≠ 0) (.returned (.bool true)) wr) := ⟨_,rfl,⟨fun _ j hj => HZ.out j (by omega),fun _ => rfl⟩,G.out⟩
   clear HZ HG G;go_wp2;go_ret;exact FF.out
theorem shaped17 {w : World} {r c : Int} {a : Option Addr} {l cap : Nat} : Calls Tryz.prog 26 #[.agg #[.int .i64 r,.int .i64 c,.slice a l cap]] w (zqA w (Snd r c l)) := by
 obtain ⟨W0,hW⟩ : ∃ W0,w.alloc (.cells #[.int .i64 r,.int .i64 c,.slice a l cap] 24) = W0 := ⟨_,rfl⟩
 obtain ⟨b0,sz0⟩ := alo1 w (.cells #[.int .i64 r,.int .i64 c,.slice a l cap] 24);rw [hW] at b0 sz0;have P1 : Hid (Cel W0 w.heap.size 24 [.int .i64 r,.int .i64 c,.slice a l cap]) := by unfold Hid;rw [← hW];exact Cel.new w _ _
 have x0 := P1.out.at (i := 0) rfl;have x1 := P1.out.at (i := 1) rfl;have x2 := P1.out.at (i := 2) rfl;rw [← hW] at x0 x1 x2;have G0 := hid b0;have EW := hid hW;clear b0 sz0 hW P1
 by_cases h1 : 0 ≤ r
 rotate_left
 ·have FF : Hid (zqA w (Snd r c l) (.returned (.bool false)) W0) := ⟨false,rfl,⟨fun q => (Bool.false_ne_true q).elim,fun h => by unfold Snd at h;omega⟩,G0.out⟩
  go_enter Tryz.func26,Tryz.ntmps26;go_wp2;rw [EW.out];go_ret;exact FF.out
 by_cases h2 : 0 ≤ c
 rotate_left
 ·have FF : Hid (zqA w (Snd r c l) (.returned (.bool false)) W0) := ⟨false,rfl,⟨fun q => (Bool.false_ne_true q).elim,fun h => by unfold Snd at h;omega⟩,G0.out⟩
  go_enter Tryz.func26,Tryz.ntmps26;go_wp2;rw [EW.out];go_ret;exact FF.out
 by_cases h3 : r ≤ 64
 rotate_left
 ·have FF : Hid (zqA w (Snd r c l) (.returned (.bool false)) W0) := ⟨false,rfl,⟨fun q => (Bool.false_ne_true q).elim,fun h => by unfold Snd at h;omega⟩,G0.out⟩
  go_enter Tryz.func26,Tryz.ntmps26;go_wp2;rw [EW.out];go_ret;exact FF.out
 by_cases h4 : c ≤ 64
 rotate_left
 ·have FF : Hid (zqA w (Snd r c l) (.returned (.bool false)) W0) := ⟨false,rfl,⟨fun q => (Bool.false_ne_true q).elim,fun h => by unfold Snd at h;omega⟩,G0.out⟩
  go_enter Tryz.func26,Tryz.ntmps26;go_wp2;rw [EW.out];go_ret;exact FF.out
 have hb1 : 0 ≤ r * c := Int.mul_nonneg (by omega) (by omega);have hb2 : r * c ≤ 64 * 64 := Int.mul_le_mul (by omega) (by omega) (by omega) (by omega);have hm : IntKind.i64.wrap (r * c) = r * c := by rw [zmA] <;> omega
 obtain ⟨p,hp⟩ : ∃ p,r * c = p := ⟨_,rfl⟩
 have HP := hid hp;rw [hp] at hm;have hm2 := hm;rw [← hp,IntKind.wrap_i64,hp] at hm2;have FF : Hid (zqA w (Snd r c l) (.returned (.bool ((l : Int) == p))) W0) := ⟨_,rfl,⟨fun q => ⟨by omega,by omega,by omega,by omega,by rw [HP.out];simpa using q⟩,fun q => by have := q.2.2.2.2;rw [HP.out] at this;simpa using this⟩,G0.out⟩
 rw [← hp] at hm hm2 FF;clear hp HP;go_enter Tryz.func26,Tryz.ntmps26;go_wp2;rw [EW.out];go_ret;exact FF.out
def ckv (r c : Int) (l : Nat) (Q : Nat → Int) (code : Int) : Prop := (code = 1 ∧ ¬ Snd r c l) ∨ (code = 4 ∧ Snd r c l ∧ ∃ t,t < l ∧ Q t = 0) ∨ (code = 0 ∧ Snd r c l ∧ ∀ t,t < l → Q t ≠ 0)
theorem ckv.same {r c : Int} {l : Nat} {Q : Nat → Int} {x y : Int} (h : ckv r c l Q x) (h' : ckv r c l Q y) : x = y := by
 rcases h with ⟨h1,h2⟩ | ⟨h1,h2,t,ht,h3⟩ | ⟨h1,h2,h3⟩ <;> rcases h' with ⟨k1,k2⟩ | ⟨k1,k2,t',ht',k3⟩ | ⟨k1,k2,k3⟩ <;> first | omega | exact absurd k2 h2 | exact absurd h2 k2 | exact absurd k3 (h3 t' ht') | exact absurd h3 (k3 t ht)
theorem zGG {w : World} {r c : Int} {a : Option Addr} {l cap k : Nat} {P Q : Nat → Int} (hv : Qs w (.slice a l cap) l P Q k) (hk : k ≤ 1099511627776) : Calls Tryz.prog 7 #[.agg #[.int .i64 r,.int .i64 c,.slice a l cap]] w fun e w' => ∃ code : Int,e = .returned (.int .i64 code) ∧ ckv r c l Q code ∧ Below w.heap.size w w' := by
 obtain ⟨W0,hW⟩ : ∃ W0,w.alloc (.cells #[.int .i64 r,.int .i64 c,.slice a l cap] 24) = W0 := ⟨_,rfl⟩
 obtain ⟨b0,sz0⟩ := alo1 w (.cells #[.int .i64 r,.int .i64 c,.slice a l cap] 24);rw [hW] at b0 sz0;have P1 : Hid (Cel W0 w.heap.size 24 [.int .i64 r,.int .i64 c,.slice a l cap]) := by unfold Hid;rw [← hW];exact Cel.new w _ _
 have x0 := P1.out.at (i := 0) rfl;have x1 := P1.out.at (i := 1) rfl;have x2 := P1.out.at (i := 2) rfl;rw [← hW] at x0 x1 x2;have HS := hid (shaped17 (w := W0) (r := r) (c := c) (a := a) (l := l) (cap := cap));have HV := hid (hv.now b0);have HK := hid hk;have G0 := hid b0;have EW := hid hW;clear b0 sz0 hW hv hk;go_enter Tryz.func7,Tryz.ntmps7;go_wp2_with fail;rw [EW.out];refine HS.out.mono ?_;rintro e w1 ⟨bs,rfl,hbs,b⟩;have G1 := hid (zAA G0.out b);have HBS := hid hbs;have P2 := hid (P1.out.step b);have HD := hid (denoms17 (HV.out.now b) HK.out);clear HS b hbs G0 x0 x1 x2 EW P1 HV HK;cases bs with
 | false =>
  have FF : Hid (∃ code : Int,Ending.returned (.int .i64 1) = .returned (.int .i64 code) ∧ ckv r c l Q code ∧ Below w.heap.size w w1) := ⟨1,rfl,.inl ⟨rfl,fun q => Bool.false_ne_true (HBS.out.2 q)⟩,G1.out⟩
  clear HBS G1 HD P2;go_wp2;go_ret;exact FF.out
 | true =>
  have x2 := P2.out.at (i := 2) rfl;go_wp2_with fail;refine HD.out.mono ?_;rintro e w2 ⟨bd,rfl,hbd,b⟩;have G2 := hid (zAA G1.out b);cases bd with
  | false =>
   have FF : Hid (∃ code : Int,Ending.returned (.int .i64 4) = .returned (.int .i64 code) ∧ ckv r c l Q code ∧ Below w.heap.size w w2) := ⟨4,rfl,.inr (.inl ⟨rfl,HBS.out.1 (by first | trivial | rfl),Classical.byContradiction fun q => Bool.false_ne_true (hbd.2 fun j hj e => q ⟨j,hj,e⟩)⟩),G2.out⟩
   clear HBS G1 HD P2 x2 hbd b G2;go_wp2;go_ret;exact FF.out
  | true =>
   have FF : Hid (∃ code : Int,Ending.returned (.int .i64 0) = .returned (.int .i64 code) ∧ ckv r c l Q code ∧ Below w.heap.size w w2) := ⟨0,rfl,.inr (.inr ⟨rfl,HBS.out.1 (by first | trivial | rfl),hbd.1 rfl⟩),G2.out⟩
   clear HBS G1 HD P2 x2 hbd b G2;go_wp2;go_ret;exact FF.out
end Go.Proofs.YtffkmeocmjohmaaGreat

namespace Go.Proofs.YtffkmeocmjohmaaGreat
open Go.RowKit
end Go.Proofs.YtffkmeocmjohmaaGreat

namespace Go.Proofs.YtffkmeocmjohmaaGreat
open Go.RowKit
end Go.Proofs.YtffkmeocmjohmaaGreat

namespace Go.Proofs.YtffkmeocmjohmaaGreat
open Go.RowKit
theorem zmF {w : World} {g n j : Nat} {C : Nat → Nat → Value} {R : List Value} (h : Cel w g 47 (cl4 n C ++ R)) (hj : j < n) (D : Nat → Value) : Cel (zHD w g j (D 0) (D 1) (D 2) (D 3)) g 47 (cl4 n (up4 C j D) ++ R) := by
 have h1 := (((h.set (j * 4) (D 0)).set (j * 4 + 1) (D 1)).set (j * 4 + 2) (D 2)).set (j * 4 + 3) (D 3);have hl := zoC n C;rw [List.set_append_left _ _ (by omega),List.set_append_left _ _ (by simp;omega),List.set_append_left _ _ (by simp;omega),List.set_append_left _ _ (by simp;omega),zlF hj] at h1;exact h1
theorem zWA {w : World} {g n j r : Nat} {C : Nat → Nat → Value} {R : List Value} (h : Cel w g 47 (cl4 n C ++ R)) (hj : j < n) (hr : r < 4) : w.cell? ⟨g,j * 4 + r,none⟩ = some (C j r) := h.at (by
 rw [List.getElem?_append_left (by rw [zoC];omega)];exact zDD hj hr)
end Go.Proofs.YtffkmeocmjohmaaGreat

namespace Go.Proofs.YtffkmeocmjohmaaGreat
open Go.RowKit
def upP (r c : Nat) (P : Nat → Int) (l i : Nat) : Int := P ((r - 1 - i) * c + l)
end Go.Proofs.YtffkmeocmjohmaaGreat

namespace Go.Proofs.YtffkmeocmjohmaaGreat
open Go.RowKit
attribute [local go_sem] zjC
end Go.Proofs.YtffkmeocmjohmaaGreat

namespace Go.Proofs.YtffkmeocmjohmaaGreat
open Go.RowKit
end Go.Proofs.YtffkmeocmjohmaaGreat

namespace Go.Proofs.YtffkmeocmjohmaaGreat.Q17
def frL (n : Nat) (pv : List Nat) : List Nat := (List.range n).filter (fun i => decide (i ∉ pv))
def kx (E : Nat → Nat → Rat) (pv : List Nat) (f i : Nat) : Rat := if i = f then 1 else if i ∈ pv then -(E (pv.idxOf i) f) else 0
end Go.Proofs.YtffkmeocmjohmaaGreat.Q17

namespace Go.Proofs.YtffkmeocmjohmaaGreat
open Go.RowKit
open Q17 (Rref Eqv Comb frL kx)
attribute [local go_sem] zjC
end Go.Proofs.YtffkmeocmjohmaaGreat

namespace Go.Proofs.YtffkmeocmjohmaaGreat
open Go.RowKit
end Go.Proofs.YtffkmeocmjohmaaGreat

namespace Go.Proofs.YtffkmeocmjohmaaGreat
open Go.RowKit
open Q17 (Rref Eqv Comb sm vm dlt)
end Go.Proofs.YtffkmeocmjohmaaGreat

namespace Go.Proofs.YtffkmeocmjohmaaGreat
open Go.RowKit
open Q17 (Rref Eqv Comb sm vm dlt)
abbrev nmR (R : Nat → Rat) (t : Nat) : Int := (R t).num
abbrev dnR (R : Nat → Rat) (t : Nat) : Int := ((R t).den : Int)
theorem zhD {n i j : Nat} (hj : j < n) : (i * n + j) / n = i ∧ (i * n + j) % n = j := by
 have h0 : 0 < n := by omega
 constructor
 ·rw [Nat.mul_comm,Nat.mul_add_div h0,Nat.div_eq_of_lt hj,Nat.add_zero]
 ·rw [Nat.mul_comm,Nat.mul_add_mod,Nat.mod_eq_of_lt hj]
theorem qfr_num {n i j : Nat} {R : Nat → Rat} : qfr n (nmR R) (dnR R) i j = R (i * n + j) := Rat.num_divInt_den _
theorem zZG (R : Nat → Rat) (t : Nat) : dnR R t ≠ 0 := by have := (R t).den_pos;show ((R t).den : Int) ≠ 0;omega
theorem Qc.lt {w : World} {v : Value} {n k : Nat} {R : Nat → Rat} (h : Qc w v n R k) : ∀ t,t < n → (((R t).num.natAbs : Int) < pw k) ∧ ((R t).den : Int) < pw k := fun t ht => by
 obtain ⟨a,c,h1,h2,h3,h4⟩ := h;rcases h4 with h4 | ⟨b,off,h5,h6,h7⟩
 ·omega
 ·obtain ⟨n1,a1,l1,c1,n2,a2,l2,c2,e1,e2,e3,e4,e5,e6⟩ := h7 t ht
  have g1 := e5.zi.lt;have g2 := e6.zi.lt;rw [Int.natAbs_natCast] at g2;exact ⟨g1,g2⟩
theorem Qc.wd {w : World} {v : Value} {n k : Nat} {R : Nat → Rat} (h : Qc w v n R k) : Wd17 n (nmR R) (dnR R) (fun _ => 2 * k) (n * (2 * k)) :=
 zVF (fun t _ => zZG R t) fun t ht => ⟨Int.le_of_lt (h.lt t ht).1,by
  show ((((R t).den : Int).natAbs : Nat) : Int) ≤ pw k
  rw [Int.natAbs_natCast];exact Int.le_of_lt (h.lt t ht).2⟩
end Go.Proofs.YtffkmeocmjohmaaGreat

namespace Go.Proofs.YtffkmeocmjohmaaGreat
open Go.RowKit
open Q17 (Rref Eqv Comb sm vm dlt frL)
theorem Q17.Eqv.same {m n : Nat} {M A : Nat → Nat → Rat} (h : ∀ i j,i < m → j < n → M i j = A i j) : Eqv n m M A :=
 ⟨⟨dlt,fun i j hi hj => by rw [Q17.vm_dlt hi];exact h i j hi hj⟩,⟨dlt,fun i j hi hj => by rw [Q17.vm_dlt hi];exact (h i j hi hj).symm⟩⟩
theorem zlE : ∀ (n m : Nat) (f : Nat → Nat → Nat),sn n (fun i => sn m (fun j => f i j)) = sn m (fun j => sn n (fun i => f i j))
 | 0,m,f => by
  show 0 = sn m (fun j => 0)
  rw [zWC];simp
 | n + 1,m,f => by
  show sn n (fun i => sn m fun j => f i j) + sn m (fun j => f n j) = sn m (fun j => sn n (fun i => f i j) + f n j)
  rw [zmE,zlE n m f]
theorem sn_cg17 : ∀ {n : Nat} {f g : Nat → Nat},(∀ j,j < n → f j = g j) → sn n f = sn n g := fun h => Nat.le_antisymm (zvG fun j hj => Nat.le_of_eq (h j hj)) (zvG fun j hj => Nat.le_of_eq (h j hj).symm)
theorem zDG : ∀ (n : Nat) (f : Nat → Nat),sn n (fun k => f (n - 1 - k)) = sn n f
 | 0,f => rfl
 | n + 1,f => by
  rw [zYF n (fun k => f (n + 1 - 1 - k))]
  show f (n + 1 - 1 - 0) + _ = sn n f + f n
  rw [← zDG n f,sn_cg17 (g := fun k => f (n - 1 - k)) (fun k hk => by congr 1;omega),show n + 1 - 1 - 0 = n by omega];omega
theorem up_size {r c : Nat} {P Q : Nat → Int} {u : Nat → Nat} {S : Nat} (h : Wd17 (r * c) P Q u S) (hc : c ≤ 64) (f : Nat → Nat) : ((dcl (wha r (upP r c P) (upP r c Q)) c r f).natAbs : Int) < pw (S + c + 1) := by
 obtain ⟨a,b,hab⟩ := zwF h;have h1 : ((dcl (wha r (upP r c P) (upP r c Q)) c r f).natAbs : Int) ≤ pw (sn c fun l => (sn r fun i => a ((r - 1 - i) * c + l) + b ((r - 1 - i) * c + l)) + 1) := zNI hc fun l i hl hi => by
  refine ztH (R := fun j => Rat.divInt (upP r c P l j) (upP r c Q l j)) (a := fun j => a ((r - 1 - j) * c + l)) (b := fun j => b ((r - 1 - j) * c + l)) (fun j hj => ?_) (fun j hj => ?_) hi
  ·have hix := zeA (show r - 1 - j < r by omega) hl
   have := (hab _ hix).2.1;have hs := (zIB (p := P ((r - 1 - j) * c + l)) (h.nz _ hix)).2;exact Int.le_trans (Int.ofNat_le.2 hs) this
  ·have hix := zeA (show r - 1 - j < r by omega) hl
   have := (hab _ hix).1;have hs := (zIB (p := P ((r - 1 - j) * c + l)) (h.nz _ hix)).1;exact Int.le_trans (Int.ofNat_le.2 hs) this
 refine Int.lt_of_le_of_lt h1 ?_;rw [zmE c _ (fun _ => 1),zWC,Nat.mul_one,zlE,zDG r (fun i => sn c fun l => a (i * c + l) + b (i * c + l)),zXF c (fun t => a t + b t) r];have h2 : sn (r * c) (fun t => a t + b t) ≤ S := Nat.le_trans (zvG fun t ht => (hab t ht).2.2) h.sum;refine Int.lt_of_le_of_lt (zMC (show _ ≤ S + c by omega)) ?_;rw [zFB (S + c) 1];have h3 := zbA (S + c);have h4 : pw 1 = 18446744073709551616 := by decide
 rw [h4];omega
theorem up_kw {r c : Nat} {P Q : Nat → Int} {u : Nat → Nat} {S K : Nat} (h : Wd17 (r * c) P Q u S) (hc : c ≤ 64) (hS : S + 65 ≤ K) (f : Nat → Nat) : ((dcl (wha r (upP r c P) (upP r c Q)) c r f).natAbs : Int) < pw K :=
 Int.lt_of_lt_of_le (up_size h hc f) (zMC (by omega))
theorem zVE {r c : Nat} {P Q : Nat → Int} {u : Nat → Nat} {S K : Nat} (h : Wd17 (r * c) P Q u S) (hr : r ≤ 64) (hS : S + 65 ≤ K) (f : Nat → Nat) : ((dcl (wha c (rwP c P) (rwP c Q)) r c f).natAbs : Int) < pw K :=
 Int.lt_of_lt_of_le (zDF h hr f) (zMC (by omega))
end Go.Proofs.YtffkmeocmjohmaaGreat

namespace Go.Proofs.YtffkmeocmjohmaaGreat
open Go.RowKit
theorem ztF {w : World} {n1 n2 : Bool} {a1 a2 : Option Addr} {l1 c1 l2 c2 k : Nat} {N : Int} (h : Zi w (.agg #[.bool n1,.slice a1 l1 c1]) N k) : Calls Tryz.prog 29 #[.agg #[.bool n1,.slice a1 l1 c1,.bool n2,.slice a2 l2 c2]] w (zqA w (N = 0)) := by
 obtain ⟨V1,hV⟩ : ∃ V1,w.alloc (.cells #[.bool n1,.slice a1 l1 c1,.bool n2,.slice a2 l2 c2] 47) = V1 := ⟨_,rfl⟩
 obtain ⟨b,sz1⟩ := alo1 w (.cells #[.bool n1,.slice a1 l1 c1,.bool n2,.slice a2 l2 c2] 47);rw [hV] at b sz1;have C : Cel V1 w.heap.size 47 [.bool n1,.slice a1 l1 c1,.bool n2,.slice a2 l2 c2] := by rw [← hV];exact Cel.new w _ _
 have HS := hid (zHC (h.now b));have B1 := hid b;have EV := hid hV;have m0 := C.at (i := 0) rfl;have m1 := C.at (i := 1) rfl;rw [← hV] at m0 m1;clear h b sz1 hV C;go_enter Tryz.func29,Tryz.ntmps29;go_wp2_with fail;rw [EV.out];refine HS.out.mono ?_;rintro e w1 ⟨rfl,b⟩;have FF : Hid (zqA w (N = 0) (.returned (.bool (decide (cmpI N 0 = 0)))) w1) := by
  unfold Hid;rw [zrB];exact ⟨_,rfl,decide_eq_true_iff,zAA B1.out b⟩
 clear HS EV B1 b m0 m1;go_wp2;go_ret;exact FF.out
def Atd (w : World) (P Q : Int) (k : Nat) (e : Ending) (w' : World) : Prop := ∃ n1 a1 l1 c1 n2 a2 l2 c2,e = .returned (.agg #[.bool n1,.slice a1 l1 c1,.bool n2,.slice a2 l2 c2]) ∧ Zi w' (.agg #[.bool n1,.slice a1 l1 c1]) P k ∧ Zi w' (.agg #[.bool n2,.slice a2 l2 c2]) Q k ∧ Below w.heap.size w w'
theorem at17 {w : World} {r : Int} {c i j : Nat} {a : Option Addr} {l cap k : Nat} {P Q : Nat → Int} (hv : Qs w (.slice a l cap) l P Q k) (hi : i ≤ 64) (hc : c ≤ 64) (hj : i * c + j < l) (hj2 : j ≤ 64) : Calls Tryz.prog 30 #[.agg #[.int .i64 r,.int .i64 (c : Int),.slice a l cap],.int .i64 (i : Int),.int .i64 (j : Int)] w (Atd w (P (i * c + j)) (Q (i * c + j)) k) := by
 obtain ⟨W0,hW⟩ : ∃ W0,(w.alloc (.cells #[.int .i64 r,.int .i64 (c : Int),.slice a l cap] 24)) = W0 := ⟨_,rfl⟩
 obtain ⟨b0,sz0⟩ := alo1 w (.cells #[.int .i64 r,.int .i64 (c : Int),.slice a l cap] 24);rw [hW] at b0 sz0;have CQ : Cel W0 w.heap.size 24 [.int .i64 r,.int .i64 (c : Int),.slice a l cap] := by rw [← hW];exact Cel.new w _ _
 obtain ⟨a0,c0,e0,hc0,hn,hf0⟩ := hv.form;simp only [Value.slice.injEq,true_and] at e0;obtain ⟨rfl,rfl⟩ := e0;obtain ⟨bv,ov,rfl⟩ := hf0 (by omega);obtain ⟨n1,a1,l1,c1,n2,a2,l2,c2,e1,e2,e3,e4,zp,zq⟩ := (hv.now b0).at hj;have hm := zwC (i := i) (c := c) hi hc;obtain ⟨m,hM⟩ : ∃ m,i * c = m := ⟨_,rfl⟩
 have hml : m ≤ 4096 := by rw [← hM];exact Nat.mul_le_mul hi hc
 rw [hM] at hm hj e1 e2 e3 e4 zp zq ⊢;have hs : IntKind.i64.wrap ((m : Int) + (j : Int)) = ((m + j : Nat) : Int) := by rw [zmA] <;> omega
 obtain ⟨t,ht⟩ : ∃ t,m + j = t := ⟨_,rfl⟩
 rw [ht] at hs hj e1 e2 e3 e4 zp zq ⊢;have hlt : (t : Int) < (l : Int) := by omega
 obtain ⟨V,hV⟩ : ∃ V,W0.alloc (.cells #[.bool n1,.slice a1 l1 c1,.bool n2,.slice a2 l2 c2] 47) = V := ⟨_,rfl⟩
 obtain ⟨bV,szV⟩ := alo1 W0 (.cells #[.bool n1,.slice a1 l1 c1,.bool n2,.slice a2 l2 c2] 47);rw [hV] at bV szV;obtain ⟨U,hU⟩ : ∃ U,W0.alloc (.cells #[.bool false,.slice none 0 0,.bool false,.slice none 0 0] 47) = U := ⟨_,rfl⟩
 obtain ⟨bU,szU⟩ := alo1 W0 (.cells #[.bool false,.slice none 0 0,.bool false,.slice none 0 0] 47);rw [hU] at bU szU;have x1 := (CQ.step bU).at (i := 1) rfl;have x2 := (CQ.step bU).at (i := 2) rfl;replace e1 := cnow bU e1;replace e2 := cnow bU e2;replace e3 := cnow bU e3;replace e4 := cnow bU e4;have DR : Hid (Cel V (w.heap.size + 1) 47 [.bool n1,.slice a1 l1 c1,.bool n2,.slice a2 l2 c2]) := by unfold Hid;rw [← hV,← sz0];exact Cel.new W0 _ _
 have FF : Hid (Atd w (P t) (Q t) k (.returned (.agg #[.bool n1,.slice a1 l1 c1,.bool n2,.slice a2 l2 c2])) V) :=
  ⟨_,_,_,_,_,_,_,_,rfl,zp.now bV,zq.now bV,zAA b0 bV⟩
 have EV := hid hV;have EU := hid hU;have EW := hid hW;rw [← hU,← hW] at x1 x2 e1 e2 e3 e4;clear hV hU hW CQ zp zq b0 bU bV szU szV sz0 hv hf0 hM ht hi hc hj2;go_enter Tryz.func30,Tryz.ntmps30;go_wp2;rw [EW.out,EV.out];exact bodyPost_ret (zUH Tryz.results30 DR.out _ (by rfl)) rfl FF.out
end Go.Proofs.YtffkmeocmjohmaaGreat
