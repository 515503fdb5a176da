import Derived.Test.YtppddlbkdoebmaaQBu3ToHm3
import Derived.Test.YtppddlbkdoebmaaQGh3ToBo3
import Derived.Test.YtppddlbkdoebmaaQSqOToStrip
import Derived.Deep.CutBlock
import Derived.Test.YtppddlbkdoebmaaQPu3ToSp3
set_option maxRecDepth 100000
set_option maxHeartbeats 6400000
set_option linter.unusedVariables false
set_option linter.unusedSimpArgs false
namespace Go.Proofs.Ytppddlbkdoebmaa
open Go.RowKit
def zKF (w : World) (e : Ending) (w' : World) : Prop := e = .returned (.tuple #[.int .i64 0,.slice none 0 0,.int .i64 3]) ∧ Below w.heap.size w w'
theorem zlF {B : Nat} {w : World} {v : Value} {zs : List Int} (h : Mine B w v zs) : Mine 0 w v zs := by
 obtain ⟨h0,h1 | ⟨g,r,cap,q1,q2⟩⟩ := h
 ·exact ⟨h0,.inl h1⟩
 ·exact ⟨h0,.inr ⟨g,r,cap,Nat.zero_le _,q2⟩⟩
def StJ3 (W : World) (B x y lx : Nat) (gk : Nat) (s8 s9 s10 : Value) (wx : World) : Prop :=
 ∃ (t yc : Nat) (Y : List Int) (Ps : List (List Int)),Mine 0 wx s8 Y ∧ zMA Y ∧ hval Y = (yc : Int) ∧ yc = y ^ 2 ^ t ∧ Y.length ≤ lx + lx + 2 ∧ Bun3 B wx s9 Ps ∧ Ps.length = t ∧ (∀ j (h : j < Ps.length),zMA Ps[j] ∧ hval Ps[j] = ((y ^ 2 ^ j : Nat) : Int)) ∧ s10 = .bool (decide (x < yc)) ∧ t ≤ 64 ∧ gk = x + 1 - yc ∧ Below W.heap.size W wx
def SfJ3 (W : World) (B x y : Nat) (s9 : Value) (wx : World) : Prop :=
 ∃ (T : Nat) (Ps : List (List Int)) (a : Option Addr) (q : Nat),s9 = .slice a T q ∧ Bun3 B wx (.slice a T q) Ps ∧ Ps.length = T ∧ (∀ j (h : j < Ps.length),zMA Ps[j] ∧ hval Ps[j] = ((y ^ 2 ^ j : Nat) : Int)) ∧ x < y ^ 2 ^ T ∧ T ≤ 65 ∧ Below W.heap.size W wx
def SsJ3 (W : World) (x y lx T : Nat) (gk : Nat) (s7 s11 s12 : Value) (wx : World) : Prop :=
 ∃ (k n xc : Nat) (X : List Int),Sl wx.heap.size wx s7 X ∧ zMA X ∧ hval X = (xc : Int) ∧ X.length ≤ lx ∧ s11 = .int .i64 (n : Int) ∧ s12 = .int .i64 ((k : Int) - 1) ∧ k ≤ T ∧ gk = k ∧ 1 ≤ xc ∧ x = y ^ (n * 2 ^ k) * xc ∧ ¬ y ^ 2 ^ k ∣ xc ∧ Below W.heap.size W wx
theorem zIG {y x m l : Nat} (hy : 2 ≤ y) (h : y ^ m ≤ x) (hx : x < 2 ^ l) : m < l := by
 have h1 : 2 ^ m ≤ y ^ m := Nat.pow_le_pow_left hy m;exact (Nat.pow_lt_pow_iff_right (by decide : 1 < 2)).1 (Nat.lt_of_le_of_lt (Nat.le_trans h1 h) hx)
theorem few_pow {y x t l : Nat} (hy : 2 ≤ y) (h : y ^ 2 ^ t ≤ x) (hx : x < 2 ^ l) (hl : l ≤ 67108864) : t + 1 ≤ 64 := by
 have h1 := zIG hy h hx;rcases Nat.lt_or_ge t 63 with q | q
 ·omega
 ·have : 2 ^ 63 ≤ 2 ^ t := Nat.pow_le_pow_right (by decide) q
  have e : (2 : Nat) ^ 63 = 9223372036854775808 := rfl;rw [e] at this;omega
theorem hlen_pw' {Q : List Int} (h : zMA Q) {n : Nat} (hv : hval Q < hpw n) : Q.length ≤ n := by
 rcases Nat.lt_or_ge n Q.length with q | q
 ·obtain ⟨m,hm⟩ : ∃ m,Q.length = m + 1 := ⟨Q.length - 1,by omega⟩
  obtain ⟨h1,h2⟩ := zSC (xs := Q) (n := m) (by rw [h.2,hm]);refine absurd (zsD h.1 h1 ?_) h2;have : hpw n ≤ hpw m := by
   obtain ⟨t,rfl⟩ : ∃ t,m = n + t := ⟨m - n,by omega⟩
   rw [zrB];have h3 := zcA n;have h4 := zcA t;have : hpw n * 1 ≤ hpw n * hpw t := Int.mul_le_mul_of_nonneg_left (by omega) (by omega);omega
  omega
 ·exact q
theorem sq_long {Y X : List Int} (hY : zMA Y) (hX : zMA X) {yc x : Nat} (ey : hval Y = (yc : Int)) (ex : hval X = (x : Int)) (h : X.length < 2 * Y.length - 1) : x < yc * yc := by
 obtain ⟨m,hm⟩ : ∃ m,Y.length = m + 1 := ⟨Y.length - 1,by omega⟩
 have h1 := zVA hX.1;rw [ex] at h1;have h2 : hpw m ≤ hval Y := by
  rcases Int.lt_or_le (hval Y) (hpw m) with q | q
  ·have := hlen_pw' hY q;omega
  ·exact q
 rw [ey] at h2;have h3 : hpw X.length ≤ hpw (m + m) := by
  obtain ⟨t,ht⟩ : ∃ t,m + m = X.length + t := ⟨m + m - X.length,by omega⟩
  rw [ht,zrB];have h3 := zcA X.length;have h4 := zcA t;have : hpw X.length * 1 ≤ hpw X.length * hpw t := Int.mul_le_mul_of_nonneg_left (by omega) (by omega);omega
 rw [zrB] at h3;have h5 := zcA m;have h6 : hpw m * hpw m ≤ (yc : Int) * (yc : Int) := Int.mul_le_mul h2 h2 (by omega) (by omega);have h7 : (x : Int) < ((yc * yc : Nat) : Int) := by rw [Int.natCast_mul];omega
 exact_mod_cast h7
theorem rstrip_bad {w : World} {va vb : Value} {xs ys : List Int} (ha : Sl w.heap.size w va xs) (hb : Sl w.heap.size w vb ys) (lx : xs.length ≤ 1048576) (ly : ys.length ≤ 1048576) (h : val xs = 0 ∨ val ys ≤ 1) :
  Calls Try.prog 25 #[va,vb] w (zKF w) := by
 have H1 := hid (zdA ha (by omega));have HB := hid hb;have WY := hid hb.1;clear ha hb;go_enter Try.func25,Try.ntmps25;go_wp2_with fail;refine H1.out.mono ?_;rintro e w1 ⟨D,v1,rfl,s1,c1,e1,l1,b1⟩;have H2 := hid (zdA (HB.out.now b1) (by omega));have B1 := hid b1;obtain ⟨_,aD,qD,rfl,-⟩ := id s1;obtain ⟨lD,hld⟩ : ∃ l,D.length = l := ⟨_,rfl⟩
 rw [hld];clear H1 HB b1;go_wp2_with fail;refine H2.out.mono ?_;rintro e w2 ⟨E,v2,rfl,s2,c2,e2,l2,b2⟩;have BB := hid (zAA B1.out b2);obtain ⟨_,aE,qE,rfl,-,-,hm⟩ := id s2;obtain ⟨lE,hle⟩ : ∃ l,E.length = l := ⟨_,rfl⟩
 rw [hle];clear H2 B1 b2 s1
 by_cases h0 : lD = 0
 ·have hz : ((lD : Int) == 0) = true := by rw [beq_iff_eq];omega
  clear hm c1 c2 e1 e2 l1 l2 s2 hld hle;subst h0;go_wp2;go_ret3;exact ⟨rfl,BB.out⟩
 ·have hz : ((lD : Int) == 0) = false := by rw [beq_eq_false_iff_ne];omega
  by_cases h1 : lE = 0
  ·have hz1 : ((lE : Int) == 0) = true := by rw [beq_iff_eq];omega
   clear hm c1 c2 e1 e2 l1 l2 s2 hld hle;subst h1;go_wp2;go_ret3;exact ⟨rfl,BB.out⟩
  ·have hz1 : ((lE : Int) == 0) = false := by rw [beq_eq_false_iff_ne];omega
   have hx0 : 0 < val xs := by
    rw [← e1];exact zrA c1.1 (by rw [c1.2,hld];omega)
   have hy1 : hval E ≤ 1 := by
    rw [e2];rcases h with h | h
    ·omega
    ·exact h
   have hlE : lE = 1 := by
    have h5 := zwC (xs := E) (ys := [1]) c2 ⟨fun t ht => by simp at ht;subst ht;unfold IsH hwB;omega,rfl⟩ (by simpa [hval] using hy1);simp at h5;omega
   subst hlE;rcases hm with e0 | ⟨b,off,rfl,hbg,hc⟩
   ·rw [e0] at hle;simp at hle
   have c0 := hc 0 (by omega);have hE1 : E[0]'(by omega) = 1 := by
    have h6 := zwA (zs := E) (j := 0) (by omega);have h7 : 0 < hval E := zrA c2.1 (by rw [c2.2,hle];decide);have h8 : E = [E[0]'(by omega)] := by
     apply List.ext_getElem
     ·simp [hle]
     ·intro i h1 h2
      have : i = 0 := by simp at h2;omega
      subst this;simp
    have h9 : hval E = E[0]'(by omega) := by
     conv => lhs;rw [h8]
     simp [hval]
    omega
   rw [hE1,Nat.add_zero] at c0;have hz2 : (((1 : Nat) : Int) == 1) = true := rfl;clear hc hE1 c1 c2 e1 e2 l1 l2 s2 hld hle hx0 hy1;go_wp2;go_ret3;exact ⟨rfl,BB.out⟩
theorem rstrip_any {w : World} {va vb : Value} {xs ys : List Int} (ha : Sl w.heap.size w va xs) (hb : Sl w.heap.size w vb ys) (lx : xs.length ≤ 1048576) (ly : ys.length ≤ 1048576) (h1 : 0 < val xs) (h2 : 2 ≤ val ys) :
  Calls Try.prog 25 #[va,vb] w (zyD w xs ys) := by
 have H1 := hid (zdA ha (by omega));have HB := hid hb;have WX := hid ha.1;obtain ⟨x,hx⟩ : ∃ x : Nat,val xs = (x : Int) := ⟨(val xs).toNat,by omega⟩
 obtain ⟨y,hy⟩ : ∃ y : Nat,val ys = (y : Int) := ⟨(val ys).toNat,by omega⟩
 have HVX := hid hx;have HVY := hid hy;have hx1 : 1 ≤ x := by omega
 have hy2 : 2 ≤ y := by omega
 clear ha hb h1 h2 hx hy;go_enter Try.func25,Try.ntmps25;go_wp2_with fail;refine H1.out.mono ?_;rintro e w1 ⟨D,v1,rfl,s1,c1,e1,l1,b1⟩;have H2 := hid (halves3_mine (HB.out.now b1) (by omega));have B1 := hid b1;have SD := hid s1;obtain ⟨_,aD,qD,rfl,-⟩ := id s1;obtain ⟨lD,hld⟩ : ∃ l,D.length = l := ⟨_,rfl⟩
 have HLD := hid hld;have hD2 := c1;have hxD : hval D = (x : Int) := e1.trans HVX.out;have hxlt : x < 2 ^ (32 * lD) := by
  have h2 := zVA c1.1;rw [hxD,hld,zqB] at h2
  exact_mod_cast h2
 have HD : Hid (zMA D ∧ hval D = (x : Int) ∧ 1 ≤ x ∧ 2 ≤ y ∧ x < 2 ^ (32 * lD)) := hid ⟨c1,hxD,hx1,hy2,hxlt⟩;have hlD : lD ≤ 2097152 := by omega
 have hD0 : lD ≠ 0 := fun e => by
  subst e;have : x < 1 := by simpa using hxlt
  omega
 rw [hld] at SD ⊢;clear H1 HB b1 s1 c1 e1 l1 hld hD2 hxD hxlt;go_wp2_with fail;refine H2.out.mono ?_;rintro e w2 ⟨E,v2,rfl,s2,c2,e2,l2,b2⟩;obtain ⟨aE,qE,rfl⟩ := s2.form;obtain ⟨lE,hle⟩ : ∃ l,E.length = l := ⟨_,rfl⟩
 have hyE : hval E = (y : Int) := e2.trans HVY.out;have hE0 : lE ≠ 0 := fun e => by
  have h3 : E = [] := List.eq_nil_of_length_eq_zero (by rw [hle];exact e);rw [h3] at hyE;have h4 : (0 : Int) = (y : Int) := hyE;omega
 have HE : Hid (zMA E ∧ hval E = (y : Int) ∧ E.length = lE) := hid ⟨c2,hyE,hle⟩;have SE := hid s2;have SDx := hid (SD.out.now b2);have BB := hid (zAA B1.out b2);have hlE : lE ≤ 2097152 := by omega
 have hz : ((lD : Int) == 0) = false := by rw [beq_eq_false_iff_ne];omega
 have hz1 : ((lE : Int) == 0) = false := by rw [beq_eq_false_iff_ne];omega
 have HBE := hid (zSB SDx.out SE.out.sl HD.out.1 c2);have hdec : decide (hval D < hval E) = decide (x < y) := by
  rw [HD.out.2.1,hyE]
  by_cases z : x < y
  ·rw [decide_eq_true z,decide_eq_true (by omega)]
  ·rw [decide_eq_false z,decide_eq_false (by omega)]
 rw [hdec] at HBE;rw [hle] at HBE ⊢;clear H2 B1 s2 e2 l2 b2 SD hdec hyE
 -- the divisor is not 1
 have HONE : Hid (lE = 1 → ∃ g c,aE = some ⟨g,0,none⟩ ∧ w2.cell? ⟨g,0,none⟩ = some (.int .u64 c) ∧ (c == 1) = false) := hid fun e => by
  obtain ⟨_,⟨q1,q2⟩ | ⟨g,r,cap,q1,q2,q3,q4,q5,q6⟩⟩ := SE.out
  ·have := HE.out.2.2;rw [q2] at this;simp at this;omega
  ·simp only [Value.slice.injEq] at q5
   obtain ⟨rfl,-,-⟩ := q5;have h0 : 0 < E.length := by have := HE.out.2.2;omega
   refine ⟨g,E[0],rfl,q6.word h0,?_⟩;rw [beq_eq_false_iff_ne];intro h1;have h8 : E = [E[0]] := by
    apply List.ext_getElem
    ·have := HE.out.2.2;simp;omega
    ·intro i h1 h2
     have : i = 0 := by simp at h2;omega
     subst this;simp
   have h9 : hval E = E[0] := by
    conv => lhs;rw [h8]
    simp [hval]
   have := HE.out.2.1;omega
 have HM0 : Hid (Mine 0 w2 (.slice aE lE qE) E) := hid (by
  have := SE.out;rw [HE.out.2.2] at this;exact zlF this)
 have J0 : Hid (StJ3 w2 w2.heap.size x y (lD + lE) (x + 1 - y) (.slice aE lE qE) (.slice none 0 0) (.bool (decide (x < y))) w2) :=
  ⟨0,y,E,[],HM0.out,HE.out.1,HE.out.2.1,by rw [Nat.pow_zero,Nat.pow_one],by have := HE.out.2.2;omega,Bun3.nil _ _,rfl,fun j h => by simp at h,rfl,by omega,rfl,Below.refl _ _⟩
 obtain ⟨g0,hg0⟩ : ∃ g,x + 1 - y = g := ⟨_,rfl⟩
 rw [hg0] at J0;go_upto_region 3 with fail
 go_cut [37] from 19 (fun s37 wx => s37 = .bool false ∧ w2 = wx)
 case first =>
  by_cases h1E : lE = 1
  ·obtain ⟨g,c,rfl,c0,hc1⟩ := HONE.out h1E
   have hz2 : ((lE : Int) == 1) = true := by rw [beq_iff_eq];omega
   clear HONE hg0 J0 HM0 SE;subst h1E;go_wp2_with fail;go_meet;exact ⟨rfl,rfl⟩
  ·have hz2 : ((lE : Int) == 1) = false := by rw [beq_eq_false_iff_ne];omega
   clear HONE hg0 J0 HM0 SE;go_wp2_with fail;go_meet;exact ⟨rfl,rfl⟩
 case rest =>
  obtain ⟨rfl,rfl⟩ := hcut;clear HONE hg0 hz hz1;go_wp2_with fail;refine HBE.out.mono ?_;rintro e wd ⟨rfl,nd,hwd⟩;have bd : Below w2.heap.size w2 wd := by rw [hwd];exact below_drewN (Below.refl _ _) nd
  have J1 : Hid (StJ3 w2 w2.heap.size x y (lD + lE) g0 (.slice aE lE qE) (.slice none 0 0) (.bool (decide (x < y))) wd) := by
   obtain ⟨t,yc,Y,Ps,k1,k2,k3,k4,k5,k6,k7,k8,k9,k10,k11,k12⟩ := J0.out;exact ⟨t,yc,Y,Ps,k1.below bd,k2,k3,k4,k5,k6.now bd,k7,k8,k9,k10,k11,zAA k12 bd⟩
  have hll : lD + lE ≤ 4194304 := by omega
  clear HBE J0 HM0 hwd bd SE HE;go_upto_block 0 with fail
  go_cut [9] from 11 (fun s9 wz => SfJ3 w2 w2.heap.size x y s9 wz)
  case first =>
   go_wp2_with fail
   go_loopg [8,9,10] g0 (fun gk s8 s9 s10 wz => StJ3 w2 w2.heap.size x y (lD + lE) gk s8 s9 s10 wz)
   case atStart => exact J1.out
   case round =>
    clear J1;obtain ⟨t,yc,Y,Ps,hm,hc,hv,hyc,hYl,hbn,hpl,hps,rfl,ht64,hgk,hbz⟩ := hrel;have SM := hid hm;have BN := hid hbn;have HY := hid (And.intro hc (And.intro hv (And.intro hyc (And.intro hYl (And.intro hpl hps)))));have BZ := hid hbz;have HG := hid hgk;obtain ⟨aY,qY,rfl⟩ := hm.form;obtain ⟨aP,qP,rfl,-⟩ := hbn.form;obtain ⟨lY,hly⟩ : ∃ l,Y.length = l := ⟨_,rfl⟩
    have HLY := hid hly;rw [hly] at SM ⊢;rw [hpl] at BN ⊢;clear hm hc hv hyc hYl hbn hpl hps hgk hbz hly
    by_cases hov : x < yc
    ·have hdt : decide (x < yc) = true := decide_eq_true hov
     rw [hdt];have FIN : Hid (SfJ3 w2 w2.heap.size x y (.slice aP t qP) wr) := ⟨t,Ps,aP,qP,rfl,BN.out,HY.out.2.2.2.2.1,HY.out.2.2.2.2.2,by rw [← HY.out.2.2.1];exact hov,by omega,BZ.out⟩
     clear SM BN HY BZ HG hdt hov;go_wp2_with fail;go_meet;exact FIN.out
    ·have hdt : decide (x < yc) = false := decide_eq_false hov
     rw [hdt];have ht2 : t + 1 ≤ 64 := few_pow (l := 32 * lD) HD.out.2.2.2.1 (by rw [← HY.out.2.2.1];omega) HD.out.2.2.2.2 (by omega);obtain ⟨W5,hW5⟩ : ∃ W5,wr.alloc (.cells #[.slice aY lY qY] 25) = W5 := ⟨_,rfl⟩
     have b5 : Below wr.heap.size wr W5 := by rw [← hW5];exact (Below.refl _ _).alloc (Nat.le_refl _) _
     have c5 : W5.cell? ⟨wr.heap.size,0,none⟩ = some (.slice aY lY qY) := by
      have e := heap_alloc_new wr (.cells #[.slice aY lY qY] 25);rw [hW5] at e;simp [World.cell?,e]
     have C5 := hid c5;have SM5 := hid (SM.out.below b5);have BN5 := hid (BN.out.now b5);have BZ5 := hid (zAA BZ.out b5);have EW5 := hid hW5;clear hW5 b5 c5 SM BN BZ hdt;go_wp2_with (at_builtin;rw [EW5.out];refine wpList_append_bun3 _ rfl (.tmp 43) (.tmp 45) rfl w2.heap.size (.slice aP t qP) (.slice aY lY qY) Ps Y rfl BN5.out wr.heap.size rfl C5.out SM5.out (by rw [HY.out.2.2.2.2.1];omega) BZ5.out.size ?_)
     intro a6 q6 w6 hB6 hkeep hb6;have SM6 := hid (hkeep.out _ _ SM5.out);have hl6 : (Ps ++ [Y]).length = t + 1 := by rw [List.length_append,HY.out.2.2.2.2.1];rfl
     have BN6 := hid hB6.out;rw [HY.out.2.2.2.2.1] at BN6 ⊢;have BZ6 : Hid (Below w2.heap.size w2 w6) := hid (BZ5.out.trans hb6.out);have HPS6 : Hid (∀ j (h : j < (Ps ++ [Y]).length),zMA (Ps ++ [Y])[j] ∧ hval (Ps ++ [Y])[j] = ((y ^ 2 ^ j : Nat) : Int)) := hid fun j h => by
      rcases Nat.lt_or_ge j Ps.length with q | q
      ·rw [List.getElem_append_left q];exact HY.out.2.2.2.2.2 j q
      ·obtain rfl : j = Ps.length := by simp at h;omega
       rw [List.getElem_append_right (Nat.le_refl _)];simp only [Nat.sub_self,List.getElem_cons_zero];exact ⟨HY.out.1,by rw [HY.out.2.1,HY.out.2.2.1,HY.out.2.2.2.2.1]⟩
     have hsq : y ^ 2 ^ (t + 1) = yc * yc := by rw [HY.out.2.2.1,← Nat.pow_add];congr 1;rw [Nat.pow_succ];omega
     clear hB6 hkeep hb6 C5 SM5 BN5 BZ5 EW5
     by_cases hbr : lD < 2 * lY - 1
     ·have hbr' : (lD : Int) < 2 * (lY : Int) - 1 := by omega
      have hlYb : lY ≤ lD + lE + (lD + lE) + 2 := by rw [← HLY.out];exact HY.out.2.2.2.1
      have FIN : Hid (SfJ3 w2 w2.heap.size x y (.slice a6 (t + 1) q6) w6) := ⟨t + 1,Ps ++ [Y],a6,q6,rfl,BN6.out,hl6,HPS6.out,by rw [hsq];exact sq_long HY.out.1 HD.out.1 HY.out.2.1 HD.out.2.1 (by rw [HLY.out,HLD.out];exact hbr),by omega,BZ6.out⟩
      clear SM6 BN6 HY BZ6 HG hov;go_wp2_with fail;go_meet;exact FIN.out
     ·have hbr' : ¬ (lD : Int) < 2 * (lY : Int) - 1 := by omega
      have HTM := hid (zbD SM6.out.sl SM6.out.sl HY.out.1.1 HY.out.1.1 (by rw [HLY.out];omega));have HOV := hid hov;clear hov;go_wp2_with fail;refine HTM.out.mono ?_;rintro e w7 ⟨Y2,v7,rfl,m7,c7,e7,l7,b7⟩;have BN7 := hid (BN6.out.now b7);have BZ7 := hid (zAA BZ6.out b7);have M7 := hid (zlF m7);have ey2 : hval Y2 = ((yc * yc : Nat) : Int) := by rw [e7,HY.out.2.1,← Int.natCast_mul]
      have HY7 := hid (And.intro c7 ey2);have hl7 : Y2.length ≤ lD + lE + (lD + lE) + 2 := by rw [HLY.out] at l7;omega
      obtain ⟨a7,q7,rfl⟩ := m7.form;have SDz := SDx.out.now BZ7.out;have HBE2 := hid (zSB SDz m7.sl HD.out.1 c7);have hdec : decide (hval D < hval Y2) = decide (x < yc * yc) := by
       rw [HD.out.2.1,ey2]
       by_cases z : x < yc * yc
       ·rw [decide_eq_true z,decide_eq_true (by omega)]
       ·rw [decide_eq_false z,decide_eq_false (by omega)]
      rw [hdec] at HBE2;obtain ⟨l2,hl2⟩ : ∃ l,Y2.length = l := ⟨_,rfl⟩
      have HL2 := hid hl2;rw [hl2] at HBE2 M7 ⊢;clear HTM m7 c7 e7 l7 b7 SDz hdec ey2 SM6 BN6 BZ6 hl2;go_wp2_with fail;refine HBE2.out.mono ?_;rintro e w8 ⟨rfl,nd8,hw8⟩;have b8 : Below w7.heap.size w7 w8 := by rw [hw8];exact below_drewN (Below.refl _ _) nd8
      have FIN : Hid (StJ3 w2 w2.heap.size x y (lD + lE) (x + 1 - yc * yc) (.slice a7 l2 q7) (.slice a6 (t + 1) q6) (.bool (decide (x < yc * yc))) w8) :=
       ⟨t + 1,yc * yc,Y2,Ps ++ [Y],M7.out.below b8,HY7.out.1,HY7.out.2,hsq.symm,hl7,BN7.out.now b8,hl6,HPS6.out,rfl,ht2,rfl,zAA BZ7.out b8⟩
      have HM : Hid (x + 1 - yc * yc < gk) := by
       unfold Hid;rw [HG.out];have hyc2 : 2 ≤ yc := by
        rw [HY.out.2.2.1];have h1 : y ^ 1 ≤ y ^ 2 ^ t := Nat.pow_le_pow_right (by have := HD.out.2.2.2.1;omega) Nat.one_le_two_pow;rw [Nat.pow_one] at h1;have := HD.out.2.2.2.1;omega
       have : 2 * yc ≤ yc * yc := Nat.mul_le_mul_right _ hyc2;have := HOV.out;omega
      obtain ⟨gn,hgn⟩ : ∃ g,x + 1 - yc * yc = g := ⟨_,rfl⟩
      rw [hgn] at FIN HM;obtain ⟨bb,hbb⟩ : ∃ b,decide (x < yc * yc) = b := ⟨_,rfl⟩
      rw [hbb] at FIN ⊢;clear HBE2 hw8 b8 HY7 BN7 BZ7 M7 HPS6 hsq hl6 hgn hbb HY HG hl7;go_wp2_with fail;go_roundg gn
      case rel => exact FIN.out
      case measure => exact HM.out
  case rest =>
   rename World => ws
   obtain ⟨T,Ps,aP,qP,rfl,hbn,hpl,hps,hxT,hT65,hbz⟩ := hcut;have BN := hid hbn;have HPL := hid hpl;have HPS := hid (And.intro hps (And.intro hxT hT65));have BZs := hid hbz;have BW := hid (zAA BB.out hbz);replace SDx := hid (SDx.out.now hbz);clear J1 hbn hpl hps hxT hT65 hbz;have hT64 : T ≤ 65 := by have := HPS.out.2.2;omega
   have J1 : Hid (SsJ3 ws x y lD T T (.slice aD lD qD) (.int .i64 0) (.int .i64 ((T : Int) - 1)) ws) :=
    ⟨T,0,x,D,SDx.out,HD.out.1,HD.out.2.1,Nat.le_of_eq HLD.out,rfl,rfl,Nat.le_refl _,rfl,HD.out.2.2.1,by rw [Nat.zero_mul,Nat.pow_zero,Nat.one_mul],fun hdv => by
     have := Nat.le_of_dvd HD.out.2.2.1 hdv;have := HPS.out.2.1;omega,Below.refl _ _⟩
   have hlT : IntKind.i64.wrap ((T : Int) - 1) = (T : Int) - 1 := by rw [zjA] <;> omega
   go_wp2_with fail
   go_loopg [7,11,12] T (fun gk s7 s11 s12 w2 => SsJ3 ws x y lD T gk s7 s11 s12 w2)
   case atStart => exact J1.out
   case round =>
    clear J1
    rename World => wz
    obtain ⟨k,n,xc,X,hSX,hCX,hXv,hXl,rfl,rfl,hkT,hgk,hxc,hxe,hnd,hBz⟩ := hrel;have SX := hid hSX;have HX := hid (And.intro hCX (And.intro hXv (And.intro hXl (And.intro hxc (And.intro hxe hnd)))));have BZ := hid hBz;have HG := hid hgk;obtain ⟨_,aX,qX,rfl,-⟩ := id hSX;obtain ⟨lX,hlx⟩ : ∃ l,X.length = l := ⟨_,rfl⟩
    have HLX := hid hlx;rw [hlx] at SX ⊢;have hnb : n * 2 ^ k < 67108865 := by
     refine Nat.lt_of_lt_of_le (zIG (l := 32 * lD) HD.out.2.2.2.1 ?_ HD.out.2.2.2.2) (by omega);rw [hxe];exact Nat.le_mul_of_pos_right _ hxc
    clear hSX hCX hXv hXl hgk hxc hxe hnd hBz hlx
    by_cases hk0 : k = 0
    ·subst hk0
     have hz0 : ¬ (0 : Int) ≤ -1 := by omega
     have e0 : ((0 : Nat) : Int) - 1 = -1 := by omega
     have HW := hid (zoA SX.out HX.out.1.1 (by have := HX.out.2.2.1;have := HLX.out;omega));clear hnb;go_wp2_with fail;refine HW.out.mono ?_;rintro e w9 ⟨zs,v9,rfl,o9,c9,e9,b9⟩;have bb := zAA BW.out BZ.out;have FIN : Hid (zyD w xs ys (.returned (.tuple #[.int .i64 (n : Int),v9,.int .i64 0])) w9) := by
      have hxe := HX.out.2.2.2.2.1;have hnd := HX.out.2.2.2.2.2;rw [Nat.pow_zero,Nat.mul_one] at hxe;rw [Nat.pow_zero,Nat.pow_one] at hnd;have hz : val zs = (xc : Int) := by rw [e9,HX.out.2.1]
      refine ⟨n,zs,v9,rfl,o9.lower bb.size,c9,?_,?_,by rw [hz];have := HX.out.2.2.2.1;omega,?_,zAA bb b9⟩
      ·rw [HVX.out,HVY.out,hz,hxe,Int.natCast_mul,Int.natCast_pow]
      ·intro t ht
       rw [hz,HVY.out] at ht;refine hnd ⟨t.toNat,?_⟩;have hy0 := HD.out.2.2.2.1;have hxc0 := HX.out.2.2.2.1;have ht0 : 0 ≤ t := by
        rcases Int.lt_or_le t 0 with q | q
        ·have : (y : Int) * t ≤ (y : Int) * 0 := Int.mul_le_mul_of_nonneg_left (by omega) (by omega)
         rw [Int.mul_zero] at this;omega
        ·exact q
       obtain ⟨tn,rfl⟩ := Int.eq_ofNat_of_zero_le ht0;have : (xc : Int) = ((y * tn : Nat) : Int) := by rw [ht,Int.natCast_mul]
       exact_mod_cast this
      ·have h1 := zSA c9 (canon_lst WX.out) (by
        rw [val_lst,HVX.out,hz];have : xc ≤ x := by rw [hxe];exact Nat.le_mul_of_pos_left _ (Nat.pow_pos (by have := HD.out.2.2.2.1;omega))
        omega)
       rw [length_lst] at h1;have := zIA xs;omega
     clear HW o9 c9 e9 b9 bb;go_wp2;go_ret3;exact FIN.out
    ·obtain ⟨j,rfl⟩ : ∃ j,k = j + 1 := ⟨k - 1,by omega⟩
     have e0 : ((j + 1 : Nat) : Int) - 1 = (j : Int) := by omega
     have hj0 : (0 : Int) ≤ (j : Int) := by omega
     have hjT : (j : Int) < (T : Int) := by omega
     have hjP : j < Ps.length := by rw [HPL.out];omega
     obtain ⟨gp,u,eap,cu,hu⟩ := (BN.out.now BZ.out).at hjP;obtain ⟨aU,qU,rfl⟩ := hu.form;have hPj := HPS.out.1 j hjP;have hne : Ps[j] ≠ [] := fun e => by
      have h2 := hPj.2;rw [e] at h2;have h3 : (0 : Int) = ((y ^ 2 ^ j : Nat) : Int) := h2;have h4 : 0 < y ^ 2 ^ j := Nat.pow_pos (by have := HD.out.2.2.2.1;omega);omega
     have HDV := hid (zVB SX.out hu.sl HX.out.1 hPj.1 hne (by have := HX.out.2.2.1;omega));have HPJ := hid hPj.2;obtain ⟨lU,hlu⟩ : ∃ l,(Ps[j]).length = l := ⟨_,rfl⟩
     rw [hlu] at cu HDV;have hn2 : n * 2 ≤ n * 2 ^ (j + 1) := Nat.mul_le_mul_left _ (by rw [Nat.pow_succ];have := Nat.two_pow_pos j;omega);have hw2n : IntKind.i64.wrap (2 * (n : Int)) = ((2 * n : Nat) : Int) := by rw [zjA] <;> omega
     have hw2n1 : IntKind.i64.wrap (((2 * n : Nat) : Int) + 1) = ((2 * n + 1 : Nat) : Int) := by rw [zjA] <;> omega
     have hj1 : IntKind.i64.wrap ((j : Int) - 1) = (j : Int) - 1 := by rw [zjA] <;> omega
     have HW1 : Hid (wrap64 (2 * (n : Int) + 1) = ((2 * n + 1 : Nat) : Int)) := by
      unfold Hid wrap64;omega
     have HMM : Hid (j < gk) := by unfold Hid;rw [HG.out];omega
     have HP2 : Hid (2 ^ (j + 1) = 2 ^ j + 2 ^ j) := hid (by rw [Nat.pow_succ];omega);subst eap;clear hu hPj hne hlu hn2 hk0 hnb;go_wp2_with fail;refine HDV.out.mono ?_;rintro e w9 ⟨qs,rs,vq,vr,rfl,k1,k2,k3,k4,k5,k6,k7,k8,b9⟩;rw [HX.out.2.1,HPJ.out] at k5;rw [HPJ.out] at k6;have h0 := zDA k4.1;have h1 := zDA k3.1;obtain ⟨qn,hqn⟩ : ∃ q : Nat,hval qs = (q : Int) := ⟨(hval qs).toNat,by omega⟩
     obtain ⟨rn,hrn⟩ : ∃ q : Nat,hval rs = (q : Int) := ⟨(hval rs).toNat,by omega⟩
     rw [hqn,hrn] at k5;rw [hrn] at k6;have k5' : xc = y ^ 2 ^ j * qn + rn := by
      have : (xc : Int) = ((y ^ 2 ^ j * qn + rn : Nat) : Int) := by rw [k5,Int.natCast_add,Int.natCast_mul]
      exact_mod_cast this
     have k6' : rn < y ^ 2 ^ j := by exact_mod_cast k6
     have SQ := hid k1;have SR := hid k2;have HQ := hid (And.intro k3 hqn);have HR := hid (And.intro k4 hrn);have HK5 := hid (And.intro k5' k6');have SX9 := hid (SX.out.now b9);have BZ9 := hid (zAA BZ.out b9);obtain ⟨_,aQ,qQ,rfl,-⟩ := id k1;obtain ⟨_,aR,qR,rfl,-⟩ := id k2;obtain ⟨lQ,hlq⟩ : ∃ l,qs.length = l := ⟨_,rfl⟩
     obtain ⟨lR,hlr⟩ : ∃ l,rs.length = l := ⟨_,rfl⟩
     have HLR := hid hlr;have HLQ := hid hlq;rw [hlq] at SQ ⊢;rw [hlr];clear HDV k1 k2 k3 k4 k5 k6 k7 k8 b9 h0 h1 hqn hrn k5' k6' hlq hlr SR cu
     by_cases hr0 : lR = 0
     ·have hz : ((lR : Int) == 0) = true := by rw [beq_iff_eq];omega
      have hrz : rn = 0 := by
       have : rs = [] := List.eq_nil_of_length_eq_zero (by rw [HLR.out];exact hr0);have h2 := HR.out.2;rw [this] at h2;have h3 : (0 : Int) = (rn : Int) := h2;omega
      have FIN : Hid (SsJ3 ws x y lD T j (.slice aQ lQ qQ) (.int .i64 ((2 * n + 1 : Nat) : Int)) (.int .i64 ((j : Int) - 1)) w9) := by
       have hxq : xc = y ^ 2 ^ j * qn := by rw [HK5.out.1,hrz,Nat.add_zero]
       have hq1 : 1 ≤ qn := by
        rcases Nat.eq_zero_or_pos qn with q | q
        ·rw [q,Nat.mul_zero] at hxq;have := HX.out.2.2.2.1;omega
        ·exact q
       refine ⟨j,2 * n + 1,qn,qs,SQ.out,HQ.out.1,HQ.out.2,?_,rfl,rfl,by omega,rfl,hq1,?_,?_,BZ9.out⟩
       ·refine Nat.le_trans (zwC HQ.out.1 HX.out.1 ?_) HX.out.2.2.1
        rw [HQ.out.2,HX.out.2.1];have : qn ≤ xc := by rw [hxq];exact Nat.le_mul_of_pos_left _ (Nat.pow_pos (by have := HD.out.2.2.2.1;omega))
        omega
       ·rw [HX.out.2.2.2.2.1,hxq,← Nat.mul_assoc,← Nat.pow_add]
        congr 2
        rw [HP2.out,Nat.add_mul,Nat.one_mul,Nat.mul_add];have : 2 * n * 2 ^ j = n * 2 ^ j + n * 2 ^ j := by rw [Nat.mul_assoc,Nat.two_mul]
        omega
       ·rintro ⟨c,hc⟩
        exact HX.out.2.2.2.2.2 ⟨c,by rw [hxq,hc,← Nat.mul_assoc,← Nat.pow_add,HP2.out]⟩
      clear hrz HK5 SX9 BZ9 SQ hr0;go_wp2_with fail;go_roundg j
      case rel => rw [HW1.out];exact FIN.out
      case measure => exact HMM.out
     ·have hz : ((lR : Int) == 0) = false := by rw [beq_eq_false_iff_ne];omega
      have FIN : Hid (SsJ3 ws x y lD T j (.slice aX lX qX) (.int .i64 ((2 * n : Nat) : Int)) (.int .i64 ((j : Int) - 1)) w9) := by
       refine ⟨j,2 * n,xc,X,SX9.out,HX.out.1,HX.out.2.1,HX.out.2.2.1,rfl,rfl,by omega,rfl,HX.out.2.2.2.1,?_,?_,BZ9.out⟩
       ·rw [HX.out.2.2.2.2.1]
        congr 2
        rw [HP2.out,Nat.mul_add];have : 2 * n * 2 ^ j = n * 2 ^ j + n * 2 ^ j := by rw [Nat.mul_assoc,Nat.two_mul]
        omega
       ·rintro ⟨c,hc⟩
        have h1 := HK5.out.1;have h2 := HK5.out.2;have h3 : rn = 0 := by
         rw [hc] at h1;have h4 : (y ^ 2 ^ j * qn + rn) % y ^ 2 ^ j = 0 := by rw [← h1];exact Nat.mul_mod_right _ _
         rw [Nat.mul_add_mod,Nat.mod_eq_of_lt h2] at h4;exact h4
        have h5 : rs = [] := zkD HR.out.1 (by rw [HR.out.2,h3];rfl);have := HLR.out;rw [h5] at this;exact hr0 (by simpa using this.symm)
      clear HK5 SX9 BZ9 SQ;go_wp2_with fail;go_roundg j
      case rel => exact FIN.out
      case measure => exact HMM.out
end Go.Proofs.Ytppddlbkdoebmaa
