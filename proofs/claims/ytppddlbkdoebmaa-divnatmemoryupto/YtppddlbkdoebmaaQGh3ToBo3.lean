/-
 QGh3ToBo3: Gh3, RPure, RLen, Bo3, joined.
-/
import Derived.Test.YtppddlbkdoebmaaQExact0ToRDivMod
import Derived.Test.YtppddlbkdoebmaaQGcd
import Derived.Test.YtppddlbkdoebmaaQLen2ToRowsI

set_option maxRecDepth 100000
set_option maxHeartbeats 6400000
set_option linter.unusedVariables false
set_option linter.unusedSimpArgs false
namespace Go.Proofs.Ytppddlbkdoebmaa
open Go.RowKit
theorem zwC {xs ys : List Int} (hx : zMA xs) (hy : zMA ys) (h : hval xs ≤ hval ys) : xs.length ≤ ys.length := by
 rcases Nat.lt_or_ge ys.length xs.length with q | q
 ·have := zWB hy.1 hx.1 (by rw [hy.2,hx.2];exact q)
  omega
 ·exact q
def zlG (w : World) (X : Int) (L : Nat) (e : Ending) (w' : World) : Prop :=
 ∃ D r,e = .returned r ∧ Sl w'.heap.size w' r D ∧ zMA D ∧ hval D = X ∧ D.length ≤ L ∧ Below w.heap.size w w'
def GcH3 (W : World) (X Y : Int) (M gk : Nat) (s5 s6 : Value) (wx : World) : Prop :=
 ∃ D E,Sl wx.heap.size wx s5 D ∧ Sl wx.heap.size wx s6 E ∧ zMA D ∧ zMA E ∧ ig (hval D) (hval E) = ig X Y ∧ D.length ≤ M ∧ E.length ≤ M ∧ gk = (hval E).toNat ∧ Below W.heap.size W wx
theorem rgcd_any {w : World} {va vb : Value} {xs ys : List Int} (ha : Sl w.heap.size w va xs) (hb : Sl w.heap.size w vb ys) (lx : xs.length ≤ 1099511627776) (ly : ys.length ≤ 1099511627776) :
  Calls Try.prog 23 #[va,vb] w (zpG w (val xs) (val ys)) := by
 have H1 := hid (zdA ha (by omega));have HB := hid hb;clear ha hb;go_enter Try.func23,Try.ntmps23;go_wp2_with fail;refine H1.out.mono ?_;rintro e w1 ⟨D,v1,rfl,s1,c1,e1,l1,b1⟩;have H2 := hid (zdA (HB.out.now b1) (by omega));have S1 := hid s1;have B1 := hid b1;clear H1 HB s1 b1;go_wp2_with fail;refine H2.out.mono ?_;rintro e w2 ⟨E,v2,rfl,s2,c2,e2,l2,b2⟩;have J0 : Hid (GcH3 w (val xs) (val ys) 2199023255552 (hval E).toNat v1 v2 w2) := ⟨D,E,S1.out.now b2,s2,c1,c2,by rw [e1,e2],by omega,by omega,rfl,zAA B1.out b2⟩
 obtain ⟨g0,hg0⟩ : ∃ g,(hval E).toNat = g := ⟨_,rfl⟩
 rw [hg0] at J0;have F1 : ∃ a c,v1 = .slice a D.length c := by obtain ⟨_,a,c,e,_⟩ := S1.out;exact ⟨a,c,e⟩
 have F2 : ∃ a c,v2 = .slice a E.length c := by obtain ⟨_,a,c,e,_⟩ := s2;exact ⟨a,c,e⟩
 clear H2 S1 B1 s2 b2 e1 e2 c1 c2 l1 l2 hg0;go_wp2_with fail
 go_loopg [5,6] g0 (fun gk s5 s6 wx => GcH3 w (val xs) (val ys) 2199023255552 gk s5 s6 wx)
 case atStart => exact J0.out
 case round =>
  clear J0 F1 F2;obtain ⟨D,E,h1,h2,h3,h4,h5,h6,h7,h8,h9⟩ := hrel;obtain ⟨_,a1,q1,rfl,-⟩ := id h1;obtain ⟨_,a2,q2,rfl,-⟩ := id h2;have S1 := hid h1;have S2 := hid h2;have HC : Hid (zMA D ∧ zMA E ∧ ig (hval D) (hval E) = ig (val xs) (val ys) ∧ D.length ≤ 2199023255552 ∧ E.length ≤ 2199023255552 ∧ gk = (hval E).toNat) := hid ⟨h3,h4,h5,h6,h7,h8⟩;have B0 := hid h9;obtain ⟨n1,hn1⟩ : ∃ n,D.length = n := ⟨_,rfl⟩
  obtain ⟨n2,hn2⟩ : ∃ n,E.length = n := ⟨_,rfl⟩
  have HN1 := hid hn1;have HN2 := hid hn2;rw [hn1] at S1;rw [hn2] at S2;rw [hn1,hn2];clear h1 h2 h3 h4 h5 h6 h7 h8 h9 hn1 hn2
  by_cases h0 : n2 = 0
  ·have hz : ¬ (0 : Int) < (n2 : Int) := by omega
   have HW := hid (zoA S1.out HC.out.1.1 (by have := HC.out.2.2.2.1;omega));have HV : Hid (hval D = (ig (val xs) (val ys) : Int)) := by
    unfold Hid;have e0 : E = [] := List.eq_nil_of_length_eq_zero (by rw [HN2.out];exact h0);have := HC.out.2.2.1;rw [e0] at this;rw [← this];exact (zSF (zDA HC.out.1.1)).symm
   clear h0 S2 HC;go_wp2_with fail;refine HW.out.mono ?_;rintro e w3 ⟨zs,r,rfl,o1,c1,e1,b1⟩;have FIN : Hid (zpG w (val xs) (val ys) (.returned r) w3) := ⟨zs,r,rfl,o1.lower B0.out.size,c1,by rw [e1,HV.out],zAA B0.out b1⟩
   clear HW o1 c1 e1 b1 HV;go_wp2;go_ret;exact FIN.out
  ·have hz : (0 : Int) < (n2 : Int) := by omega
   have hne : E ≠ [] := fun e => by have := HN2.out;rw [e] at this;simp at this;omega
   have HD := hid (zVB S1.out S2.out HC.out.1 HC.out.2.1 hne (by have := HC.out.2.2.2.1;omega));clear h0;go_wp2_with fail;refine HD.out.mono ?_;rintro e w3 ⟨qs,rs,q,r,rfl,k1,k2,k3,k4,k5,k6,k7,k8,b1⟩;have hE : 0 < hval E := by have := zDA k4.1;omega
   have hr0 := zDA k4.1;have HN : Hid (GcH3 w (val xs) (val ys) 2199023255552 (hval rs).toNat (.slice a2 n2 q2) r w3) :=
    ⟨E,rs,S2.out.now b1,k2,HC.out.2.1,k4,by rw [zjD (q := hval qs) (zDA HC.out.1.1) hE (zDA k4.1) k6 (by rw [k5,Int.mul_comm];omega)];exact HC.out.2.2.1,HC.out.2.2.2.2.1,Nat.le_trans (zwC k4 HC.out.2.1 (by omega)) HC.out.2.2.2.2.1,rfl,zAA B0.out b1⟩
   have HM : Hid ((hval rs).toNat < gk) := by unfold Hid;rw [HC.out.2.2.2.2.2];omega
   obtain ⟨_,ar,qr,rfl,-⟩ := id k2;obtain ⟨_,aq,qq,rfl,-⟩ := id k1;obtain ⟨gn,hgn⟩ : ∃ g,(hval rs).toNat = g := ⟨_,rfl⟩
   rw [hgn] at HN HM;clear HD k1 k2 k3 k4 k5 k6 k7 k8 b1 hE hr0 hgn hne HC S1 S2 B0;go_wp2_with fail;go_roundg gn
   case rel => exact HN.out
   case measure => exact HM.out

theorem bitLen_half {v : Nat} (h : v ≠ 0) : bitLen v = bitLen (v / 2) + 1 := by
 by_cases h1 : v / 2 = 0
 ·have : v = 1 := by omega
  subst this;rfl
 ·rw [bitLen_shift v 1 (by simpa using h1),Nat.pow_one];omega
theorem zSB {B : Nat} {w : World} {v u : Value} {D E : List Int} (hv : Sl B w v D) (hb : Sl B w u E) (hD : zMA D) (hE : zMA E) :
  Calls Try.prog 45 #[v,u] w fun e w' => e = .returned (.bool (decide (hval D < hval E))) ∧ ∃ n,w' = w.drewN n := by
 obtain ⟨_,a,capv,rfl,hlv,hcmv,hmv⟩ := hv;obtain ⟨_,a',capb,rfl,hlb,hcmb,hmb⟩ := hb
 by_cases hne : D.length = E.length
 ·have HDIF : Hid (∀ j (h : j < E.length) (h' : j < D.length),D.drop (j + 1) = E.drop (j + 1) → D[j] ≠ E[j] → decide (hval D < hval E) = decide (D[j] < E[j])) := fun j h h' e hn => by
   have := zVF hD.1 hE.1 hne h' e hn;rcases Int.lt_trichotomy D[j] E[j] with k | k | k
   ·rw [zxA k] at this
    have k2 : hval D < hval E := by
     rcases Int.lt_trichotomy (hval D) (hval E) with t | t | t
     ·exact t
     ·rw [t,cmpI_self] at this;omega
     ·rw [zyA t] at this;omega
    rw [decide_eq_true k2,decide_eq_true k]
   ·exact absurd k hn
   ·rw [zyA k] at this
    have k2 : hval E < hval D := by
     rcases Int.lt_trichotomy (hval D) (hval E) with t | t | t
     ·rw [zxA t] at this;omega
     ·rw [t,cmpI_self] at this;omega
     ·exact t
    rw [decide_eq_false (by omega),decide_eq_false (by omega)]
  have HDR : Hid (∀ j (h : j < E.length) (h' : j < D.length),D.drop (j + 1) = E.drop (j + 1) → D[j] = E[j] → D.drop j = E.drop j) := fun j h h' e1 e2 => by
   rw [List.drop_eq_getElem_cons h',List.drop_eq_getElem_cons h,e1,e2]
  have HYES : Hid (D = E → decide (hval D < hval E) = false) := fun e => by rw [e];simp
  have HEND : Hid (D.drop D.length = E.drop E.length) := by unfold Hid;rw [List.drop_eq_nil_of_le (Nat.le_refl _),List.drop_eq_nil_of_le (Nat.le_refl _)]
  generalize hS : decide (hval D < hval E) = S at *;have HMV := hid hmv;have HMB := hid hmb;obtain ⟨n,hn⟩ : ∃ n,E.length = n := ⟨_,rfl⟩
  have hm : D.length = n := by rw [hne,hn]
  have HN := hid hn;have HM := hid hm;rw [hn] at hlb hcmb;rw [hm] at hlv hcmv;rw [hm,hn] at HEND;rw [hn,hm];have qn : ((n : Int) != (n : Int)) = false := by simp
  clear hmv hmb hD hE hn hm hS hne;go_enter Try.func45,Try.ntmps45;go_wp2_with fail
  go_loopw [5] (fun i wr => ∃ k nd : Nat,k ≤ n ∧ i = .int .i64 ((k : Int) - 1) ∧ wr = w.drewN nd ∧ Hid (D.drop k = E.drop k)) (fun i _ => (intOf i + 1).toNat)
  case atStart => exact ⟨n,0,Nat.le_refl _,rfl,rfl,HEND⟩
  case round =>
   obtain ⟨k,nd,hk,rfl,rfl,HK⟩ := hrel
   by_cases hk0 : k = 0
   ·subst hk0
    have hyes := HYES.out (by simpa using HK.out);subst hyes;go_wp2;go_ret;exact ⟨rfl,nd,rfl⟩
   ·obtain ⟨j,rfl⟩ : ∃ j,k = j + 1 := ⟨k - 1,by omega⟩
    have hjb : j < E.length := by have := HN.out;omega
    have hjr : j < D.length := by have := HM.out;omega
    rcases HMV.out with e | ⟨b,off,e1,hbg,hcv⟩
    ·subst e;simp at hjr
    rcases HMB.out with e | ⟨b',off',rfl,hbg',hcb⟩
    ·subst e;simp at hjb
    subst e1;have d1 : ∀ q,(w.drewN q).cell? ⟨b,off + j,none⟩ = some (.int .u64 D[j]) := fun q => by simpa using hcv j hjr
    have d2 : ∀ q,(w.drewN q).cell? ⟨b',off' + j,none⟩ = some (.int .u64 E[j]) := fun q => by simpa using hcb j hjb
    have HDJ := hid (HDIF.out j hjb hjr HK.out);have HDE := hid (HDR.out j hjb hjr HK.out);have ej : ((j + 1 : Nat) : Int) - 1 = (j : Int) := by omega
    have k0 : (0 : Int) ≤ (j : Int) := by omega
    have k1 : (j : Int) < (n : Int) := by omega
    clear hcv hcb HK;generalize D[j] = x at *;generalize E[j] = y at *
    by_cases hxy : x = y
    ·have ht : (x != y) = false := by simp [hxy]
     go_wp2_with fail;go_quiet (fail);go_wp2_with fail;go_roundw
     case rel => exact ⟨j,_,by omega,by go_num,by first | rfl | exact World.drewN_drewN _ _ _,HDE.out hxy⟩
     case measure => simp [intOf]
    ·have ht : (x != y) = true := by simp [hxy]
     have hS := HDJ.out hxy;subst hS;go_wp2_with fail;go_quiet (fail);go_wp2_with fail;go_quiet (fail);go_wp2;go_ret;exact ⟨rfl,by first | exact ⟨_,rfl⟩ | exact ⟨_,World.drewN_drewN _ _ _⟩ | (rw [World.drewN_drewN];exact ⟨_,World.drewN_drewN _ _ _⟩)⟩
 ·have hq : decide (hval D < hval E) = decide (D.length < E.length) := by
   rcases Nat.lt_or_ge D.length E.length with q | q
   ·have := zWB hD.1 hE.1 (by rw [hD.2,hE.2];exact q)
    rw [decide_eq_true this,decide_eq_true q]
   ·have := zWB hE.1 hD.1 (by rw [hD.2,hE.2];omega)
    rw [decide_eq_false (by omega),decide_eq_false (by omega)]
  rw [hq];obtain ⟨n,hn⟩ : ∃ n,E.length = n := ⟨_,rfl⟩
  obtain ⟨m,hm⟩ : ∃ m,D.length = m := ⟨_,rfl⟩
  rw [hn] at hne hlb hcmb ⊢;rw [hm] at hne hlv hcmv ⊢;have qn : ((m : Int) != (n : Int)) = true := by simp;omega
  clear hmv hmb hD hE hn hm hq;go_enter Try.func45,Try.ntmps45;go_wp2;go_ret;exact ⟨rfl,0,rfl⟩
theorem bits_h {D : List Int} {n : Nat} (hD : HF D) (hn : D.length = n + 1) (ht : D[n]'(by omega) ≠ 0) : bitLen (hval D).toNat = 32 * n + bitLen (D[n]'(by omega)).toNat := by
 have h1 := zwA (zs := D) (j := n) (by omega);have h2 := zVA (hD.take n);have h3 := zDA (hD.take n);have e1 : (D.take n).length = n := by simp;omega
 rw [e1] at h2;have e2 : D.drop n = [D[n]'(by omega)] := by
  rw [List.drop_eq_getElem_cons (show n < D.length by omega),List.drop_eq_nil_of_le (by omega)]
 rw [e2] at h1;have e3 : hval [D[n]'(by omega)] = D[n]'(by omega) := by simp [hval]
 rw [e3] at h1;have h4 := (hD.get (show n < D.length by omega)).1;have hp : hpw n = ((2 ^ (32 * n) : Nat) : Int) := by
  have : ∀ m,hpw m = ((2 ^ (32 * m) : Nat) : Int) := fun m => by
   induction m with
   | zero => rfl
   | succ m ih =>
    show hwB * hpw m = _
    rw [ih,show 32 * (m + 1) = 32 + 32 * m by omega,Nat.pow_add];rw [Int.natCast_mul]
    rfl
  exact this n
 rw [hp] at h1 h2;obtain ⟨lo,hlo⟩ : ∃ lo : Nat,hval (D.take n) = (lo : Int) := ⟨(hval (D.take n)).toNat,by omega⟩
 obtain ⟨t,htt⟩ : ∃ t : Nat,D[n]'(by omega) = (t : Int) := ⟨(D[n]'(by omega)).toNat,by omega⟩
 rw [htt] at h1 ht;rw [htt,h1,hlo];have hl : lo < 2 ^ (32 * n) := by rw [hlo] at h2;exact_mod_cast h2
 have e5 : ((lo : Int) + ((2 ^ (32 * n) : Nat) : Int) * (t : Int)).toNat = lo + 2 ^ (32 * n) * t := by
  rw [← Int.natCast_mul,← Int.natCast_add];rfl
 rw [e5,zSE hl (by intro e;rw [e] at ht;exact ht rfl)]
 rfl
def BoH3 (W : World) (T b gk : Nat) (s3 s4 : Value) (wx : World) : Prop := ∃ (n : Nat) (x : Int),s3 = .int .i64 (n : Int) ∧ s4 = .int .u64 x ∧ 0 ≤ x ∧ x < 4294967296 ∧ n ≤ T ∧ T = n + bitLen x.toNat ∧ gk = x.toNat ∧ wx = W
theorem rbits_any {B : Nat} {w : World} {a : Option Addr} {m cap : Nat} {D : List Int} (h : Sl B w (.slice a m cap) D) (hD : zMA D) (hl : D.length ≤ 8796093022208) :
  Calls Try.prog 49 #[.slice a m cap] w fun e w' => e = .returned (.int .i64 (bitLen (hval D).toNat : Int)) ∧ w' = w := by
 have HT := hid (zZA h);obtain ⟨hw,a',cap',he,hlc,hcm,hm⟩ := h;simp only [Value.slice.injEq] at he;obtain ⟨rfl,rfl,rfl⟩ := he;have hwd : wid D = D.length := by rw [← zTF];exact hD.2
 rw [hwd] at HT
 by_cases h0 : D.length = 0
 ·have e0 : D = [] := List.eq_nil_of_length_eq_zero h0
  subst e0;go_enter Try.func49,Try.ntmps49;go_wp2_with fail;refine HT.out.mono ?_;rintro e w1 ⟨rfl,rfl⟩;clear HT;go_wp2;go_ret;exact ⟨by simp [hval,bitLen],rfl⟩
 ·obtain ⟨n,hn⟩ : ∃ n,D.length = n + 1 := ⟨D.length - 1,by omega⟩
  have hk : n < D.length := by omega
  rcases hm with rfl | ⟨b,off,rfl,hb,hc⟩
  ·simp at hn
  have c1 := hc n hk;have htop : D[n] ≠ 0 := by
   obtain ⟨_,h2⟩ := zSC (xs := D) (n := n) (by rw [hD.2,hn]);exact h2
  have HB := hid (bits_h hD.1 hn htop);have hx := hD.1.get hk;unfold IsH hwB at hx;obtain ⟨x,hxx⟩ : ∃ x : Nat,D[n] = (x : Int) := ⟨D[n].toNat,by omega⟩
  rw [hxx] at c1 hx HB;rw [show ((x : Int)).toNat = x from rfl] at HB;obtain ⟨R,hR⟩ : ∃ R,bitLen (hval D).toNat = R := ⟨_,rfl⟩
  rw [hR] at HB ⊢;have hbx : bitLen x ≤ 32 := by
   have : bitLen x ≤ 32 := by
    unfold bitLen
    split
    ·omega
    ·rename_i q
     have : x < 2 ^ 32 := by omega
     have := (Nat.log2_lt q).2 this;omega
   exact this
  have J0 : Hid (BoH3 w R (32 * n) x (.int .i64 ((32 * n : Nat) : Int)) (.int .u64 (x : Int)) w) := ⟨32 * n,x,rfl,rfl,by omega,by omega,by have := HB.out;omega,HB.out,rfl,rfl⟩
  have hw1 : IntKind.i64.wrap (32 * (n : Int)) = ((32 * n : Nat) : Int) := by rw [zjA] <;> omega
  have HRN : Hid (R ≤ 9007199254740992) := hid (by have := HB.out;omega);have hz : (((n + 1 : Nat) : Int) == 0) = false := by rw [beq_eq_false_iff_ne];omega
  have e1 : ((n + 1 : Nat) : Int) - 1 = (n : Int) := by omega
  rw [hn] at HT hlc hcm ⊢;clear hc hw hD hxx htop hR hwd hk h0 hl hn hbx hx;go_enter Try.func49,Try.ntmps49;go_wp2_with fail;refine HT.out.mono ?_;rintro e w1 ⟨rfl,rfl⟩;clear HT;go_wp2_with fail;clear hw1 hz e1 c1
  go_loopg [3,4] x (fun gk s3 s4 wx => BoH3 w1 R (32 * n) gk s3 s4 wx)
  case atStart => exact J0.out
  case round =>
   clear J0;obtain ⟨k,y,rfl,rfl,hy0,hy,hkR,hT,hg,rfl⟩ := hrel;have HG := hid hg;have HTT := hid hT;clear hg hT
   by_cases h0 : y = 0
   ·subst h0
    have hz0 : ¬ (0 : Int) < 0 := by omega
    have : R = k := by have := HTT.out;simp [bitLen] at this;exact this
    subst this;go_wp2;go_ret;exact ⟨rfl,rfl⟩
   ·have hy1 : (0 : Int) < y := by omega
    have hb2 := bitLen_half (show y.toNat ≠ 0 by omega);have e2 : (y / 2).toNat = y.toNat / 2 := by omega
    have HN : Hid (BoH3 wr R (32 * n) (y / 2).toNat (.int .i64 ((k + 1 : Nat) : Int)) (.int .u64 (y / 2)) wr) := ⟨k + 1,y / 2,rfl,rfl,by omega,by omega,by have := HTT.out;omega,by rw [e2];have := HTT.out;omega,rfl,rfl⟩
    have HM : Hid ((y / 2).toNat < gk) := by unfold Hid;rw [HG.out];omega
    have hw : IntKind.i64.wrap ((k : Int) + 1) = ((k + 1 : Nat) : Int) := by have := HRN.out;rw [zjA] <;> omega
    obtain ⟨gn,hgn⟩ : ∃ g,(y / 2).toNat = g := ⟨_,rfl⟩
    rw [hgn] at HN HM;clear HTT HG hb2 e2 hgn h0;go_wp2_with fail;go_roundg gn
    case rel => exact HN.out
    case measure => exact HM.out
end Go.Proofs.Ytppddlbkdoebmaa
