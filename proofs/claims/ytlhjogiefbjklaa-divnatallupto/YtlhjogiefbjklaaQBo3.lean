import Derived.Test.YtlhjogiefbjklaaQGh3ToRLen
set_option maxRecDepth 100000
set_option maxHeartbeats 6400000
set_option linter.unusedVariables false
set_option linter.unusedSimpArgs false
namespace Go.Proofs.Ytlhjogiefbjklaa
open Go.RowKit
theorem zEB {B : Nat} {w : World} {v u : Value} {D E : List Int} (hv : Sl B w v D) (hb : Sl B w u E) (hD : zKA D) (hE : zKA E) :
  Calls Try.prog 45 #[v,u] w fun e w' => e = .returned (.bool (decide (hval D < hval E))) ∧ ∃ n,w' = w.drewN n := by
 obtain ⟨_,a,capv,rfl,hlv,hcmv,hmv⟩ := hv;obtain ⟨_,a',capb,rfl,hlb,hcmb,hmb⟩ := hb
 by_cases hne : D.length = E.length
 ·have HDIF : Hid (∀ j (h : j < E.length) (h' : j < D.length),D.drop (j + 1) = E.drop (j + 1) → D[j] ≠ E[j] → decide (hval D < hval E) = decide (D[j] < E[j])) := fun j h h' e hn => by
   have := zQE hD.1 hE.1 hne h' e hn;rcases Int.lt_trichotomy D[j] E[j] with k | k | k
   ·rw [zqA k] at this
    have k2 : hval D < hval E := by
     rcases Int.lt_trichotomy (hval D) (hval E) with t | t | t
     ·exact t
     ·rw [t,cmpI_self] at this;omega
     ·rw [zrA t] at this;omega
    rw [decide_eq_true k2,decide_eq_true k]
   ·exact absurd k hn
   ·rw [zrA k] at this
    have k2 : hval E < hval D := by
     rcases Int.lt_trichotomy (hval D) (hval E) with t | t | t
     ·rw [zqA t] at this;omega
     ·rw [t,cmpI_self] at this;omega
     ·exact t
    rw [decide_eq_false (by omega),decide_eq_false (by omega)]
  have HDR : Hid (∀ j (h : j < E.length) (h' : j < D.length),D.drop (j + 1) = E.drop (j + 1) → D[j] = E[j] → D.drop j = E.drop j) := fun j h h' e1 e2 => by
   rw [List.drop_eq_getElem_cons h',List.drop_eq_getElem_cons h,e1,e2]
  have HYES : Hid (D = E → decide (hval D < hval E) = false) := fun e => by rw [e];simp
  have HEND : Hid (D.drop D.length = E.drop E.length) := by unfold Hid;rw [List.drop_eq_nil_of_le (Nat.le_refl _),List.drop_eq_nil_of_le (Nat.le_refl _)]
  generalize hS : decide (hval D < hval E) = S at *;have HMV := hid hmv;have HMB := hid hmb;obtain ⟨n,hn⟩ : ∃ n,E.length = n := ⟨_,rfl⟩
  have hm : D.length = n := by rw [hne,hn]
  have HN := hid hn;have HM := hid hm;rw [hn] at hlb hcmb;rw [hm] at hlv hcmv;rw [hm,hn] at HEND;rw [hn,hm];have qn : ((n : Int) != (n : Int)) = false := by simp
  clear hmv hmb hD hE hn hm hS hne;go_enter Try.func45,Try.ntmps45;go_wp2_with fail
  go_loopw [5] (fun i wr => ∃ k nd : Nat,k ≤ n ∧ i = .int .i64 ((k : Int) - 1) ∧ wr = w.drewN nd ∧ Hid (D.drop k = E.drop k)) (fun i _ => (intOf i + 1).toNat)
  case atStart => exact ⟨n,0,Nat.le_refl _,rfl,rfl,HEND⟩
  case round =>
   obtain ⟨k,nd,hk,rfl,rfl,HK⟩ := hrel
   by_cases hk0 : k = 0
   ·subst hk0
    have hyes := HYES.out (by simpa using HK.out);subst hyes;go_wp2;go_ret;exact ⟨rfl,nd,rfl⟩
   ·obtain ⟨j,rfl⟩ : ∃ j,k = j + 1 := ⟨k - 1,by omega⟩
    have hjb : j < E.length := by have := HN.out;omega
    have hjr : j < D.length := by have := HM.out;omega
    rcases HMV.out with e | ⟨b,off,e1,hbg,hcv⟩
    ·subst e;simp at hjr
    rcases HMB.out with e | ⟨b',off',rfl,hbg',hcb⟩
    ·subst e;simp at hjb
    subst e1;have d1 : ∀ q,(w.drewN q).cell? ⟨b,off + j,none⟩ = some (.int .u64 D[j]) := fun q => by simpa using hcv j hjr
    have d2 : ∀ q,(w.drewN q).cell? ⟨b',off' + j,none⟩ = some (.int .u64 E[j]) := fun q => by simpa using hcb j hjb
    have HDJ := hid (HDIF.out j hjb hjr HK.out);have HDE := hid (HDR.out j hjb hjr HK.out);have ej : ((j + 1 : Nat) : Int) - 1 = (j : Int) := by omega
    have k0 : (0 : Int) ≤ (j : Int) := by omega
    have k1 : (j : Int) < (n : Int) := by omega
    clear hcv hcb HK;generalize D[j] = x at *;generalize E[j] = y at *
    by_cases hxy : x = y
    ·have ht : (x != y) = false := by simp [hxy]
     go_wp2_with fail;go_quiet (fail);go_wp2_with fail;go_roundw
     case rel => exact ⟨j,_,by omega,by go_num,by first | rfl | exact World.drewN_drewN _ _ _,HDE.out hxy⟩
     case measure => simp [intOf]
    ·have ht : (x != y) = true := by simp [hxy]
     have hS := HDJ.out hxy;subst hS;go_wp2_with fail;go_quiet (fail);go_wp2_with fail;go_quiet (fail);go_wp2;go_ret;exact ⟨rfl,by first | exact ⟨_,rfl⟩ | exact ⟨_,World.drewN_drewN _ _ _⟩ | (rw [World.drewN_drewN];exact ⟨_,World.drewN_drewN _ _ _⟩)⟩
 ·have hq : decide (hval D < hval E) = decide (D.length < E.length) := by
   rcases Nat.lt_or_ge D.length E.length with q | q
   ·have := zHB hD.1 hE.1 (by rw [hD.2,hE.2];exact q)
    rw [decide_eq_true this,decide_eq_true q]
   ·have := zHB hE.1 hD.1 (by rw [hD.2,hE.2];omega)
    rw [decide_eq_false (by omega),decide_eq_false (by omega)]
  rw [hq];obtain ⟨n,hn⟩ : ∃ n,E.length = n := ⟨_,rfl⟩
  obtain ⟨m,hm⟩ : ∃ m,D.length = m := ⟨_,rfl⟩
  rw [hn] at hne hlb hcmb ⊢;rw [hm] at hne hlv hcmv ⊢;have qn : ((m : Int) != (n : Int)) = true := by simp;omega
  clear hmv hmb hD hE hn hm hq;go_enter Try.func45,Try.ntmps45;go_wp2;go_ret;exact ⟨rfl,0,rfl⟩
theorem bits_h {D : List Int} {n : Nat} (hD : HF D) (hn : D.length = n + 1) (ht : D[n]'(by omega) ≠ 0) : bitLen (hval D).toNat = 32 * n + bitLen (D[n]'(by omega)).toNat := by
 have h1 := zpA (zs := D) (j := n) (by omega);have h2 := zQA (hD.take n);have h3 := zDA (hD.take n);have e1 : (D.take n).length = n := by simp;omega
 rw [e1] at h2;have e2 : D.drop n = [D[n]'(by omega)] := by
  rw [List.drop_eq_getElem_cons (show n < D.length by omega),List.drop_eq_nil_of_le (by omega)]
 rw [e2] at h1;have e3 : hval [D[n]'(by omega)] = D[n]'(by omega) := by simp [hval]
 rw [e3] at h1;have h4 := (hD.get (show n < D.length by omega)).1;have hp : hpw n = ((2 ^ (32 * n) : Nat) : Int) := by
  have : ∀ m,hpw m = ((2 ^ (32 * m) : Nat) : Int) := fun m => by
   induction m with
   | zero => rfl
   | succ m ih =>
    show hwB * hpw m = _
    rw [ih,show 32 * (m + 1) = 32 + 32 * m by omega,Nat.pow_add];rw [Int.natCast_mul]
    rfl
  exact this n
 rw [hp] at h1 h2;obtain ⟨lo,hlo⟩ : ∃ lo : Nat,hval (D.take n) = (lo : Int) := ⟨(hval (D.take n)).toNat,by omega⟩
 obtain ⟨t,htt⟩ : ∃ t : Nat,D[n]'(by omega) = (t : Int) := ⟨(D[n]'(by omega)).toNat,by omega⟩
 rw [htt] at h1 ht;rw [htt,h1,hlo];have hl : lo < 2 ^ (32 * n) := by rw [hlo] at h2;exact_mod_cast h2
 have e5 : ((lo : Int) + ((2 ^ (32 * n) : Nat) : Int) * (t : Int)).toNat = lo + 2 ^ (32 * n) * t := by
  rw [← Int.natCast_mul,← Int.natCast_add];rfl
 rw [e5,zcD hl (by intro e;rw [e] at ht;exact ht rfl)]
 rfl
def BoH3 (W : World) (T b gk : Nat) (s3 s4 : Value) (wx : World) : Prop := ∃ (n : Nat) (x : Int),s3 = .int .i64 (n : Int) ∧ s4 = .int .u64 x ∧ 0 ≤ x ∧ x < 4294967296 ∧ n ≤ T ∧ T = n + bitLen x.toNat ∧ gk = x.toNat ∧ wx = W
theorem rbits_any {B : Nat} {w : World} {a : Option Addr} {m cap : Nat} {D : List Int} (h : Sl B w (.slice a m cap) D) (hD : zKA D) (hl : D.length ≤ 8796093022208) :
  Calls Try.prog 49 #[.slice a m cap] w fun e w' => e = .returned (.int .i64 (bitLen (hval D).toNat : Int)) ∧ w' = w := by
 have HT := hid (zSA h);obtain ⟨hw,a',cap',he,hlc,hcm,hm⟩ := h;simp only [Value.slice.injEq] at he;obtain ⟨rfl,rfl,rfl⟩ := he;have hwd : wid D = D.length := by rw [← zOE];exact hD.2
 rw [hwd] at HT
 by_cases h0 : D.length = 0
 ·have e0 : D = [] := List.eq_nil_of_length_eq_zero h0
  subst e0;go_enter Try.func49,Try.ntmps49;go_wp2_with fail;refine HT.out.mono ?_;rintro e w1 ⟨rfl,rfl⟩;clear HT;go_wp2;go_ret;exact ⟨by simp [hval,bitLen],rfl⟩
 ·obtain ⟨n,hn⟩ : ∃ n,D.length = n + 1 := ⟨D.length - 1,by omega⟩
  have hk : n < D.length := by omega
  rcases hm with rfl | ⟨b,off,rfl,hb,hc⟩
  ·simp at hn
  have c1 := hc n hk;have htop : D[n] ≠ 0 := by
   obtain ⟨_,h2⟩ := zqB (xs := D) (n := n) (by rw [hD.2,hn]);exact h2
  have HB := hid (bits_h hD.1 hn htop);have hx := hD.1.get hk;unfold IsH hwB at hx;obtain ⟨x,hxx⟩ : ∃ x : Nat,D[n] = (x : Int) := ⟨D[n].toNat,by omega⟩
  rw [hxx] at c1 hx HB;rw [show ((x : Int)).toNat = x from rfl] at HB;obtain ⟨R,hR⟩ : ∃ R,bitLen (hval D).toNat = R := ⟨_,rfl⟩
  rw [hR] at HB ⊢;have hbx : bitLen x ≤ 32 := by
   have : bitLen x ≤ 32 := by
    unfold bitLen
    split
    ·omega
    ·rename_i q
     have : x < 2 ^ 32 := by omega
     have := (Nat.log2_lt q).2 this;omega
   exact this
  have J0 : Hid (BoH3 w R (32 * n) x (.int .i64 ((32 * n : Nat) : Int)) (.int .u64 (x : Int)) w) := ⟨32 * n,x,rfl,rfl,by omega,by omega,by have := HB.out;omega,HB.out,rfl,rfl⟩
  have hw1 : IntKind.i64.wrap (32 * (n : Int)) = ((32 * n : Nat) : Int) := by rw [zcA] <;> omega
  have HRN : Hid (R ≤ 9007199254740992) := hid (by have := HB.out;omega);have hz : (((n + 1 : Nat) : Int) == 0) = false := by rw [beq_eq_false_iff_ne];omega
  have e1 : ((n + 1 : Nat) : Int) - 1 = (n : Int) := by omega
  rw [hn] at HT hlc hcm ⊢;clear hc hw hD hxx htop hR hwd hk h0 hl hn hbx hx;go_enter Try.func49,Try.ntmps49;go_wp2_with fail;refine HT.out.mono ?_;rintro e w1 ⟨rfl,rfl⟩;clear HT;go_wp2_with fail;clear hw1 hz e1 c1
  go_loopg [3,4] x (fun gk s3 s4 wx => BoH3 w1 R (32 * n) gk s3 s4 wx)
  case atStart => exact J0.out
  case round =>
   clear J0;obtain ⟨k,y,rfl,rfl,hy0,hy,hkR,hT,hg,rfl⟩ := hrel;have HG := hid hg;have HTT := hid hT;clear hg hT
   by_cases h0 : y = 0
   ·subst h0
    have hz0 : ¬ (0 : Int) < 0 := by omega
    have : R = k := by have := HTT.out;simp [bitLen] at this;exact this
    subst this;go_wp2;go_ret;exact ⟨rfl,rfl⟩
   ·have hy1 : (0 : Int) < y := by omega
    have hb2 := bitLen_half (show y.toNat ≠ 0 by omega);have e2 : (y / 2).toNat = y.toNat / 2 := by omega
    have HN : Hid (BoH3 wr R (32 * n) (y / 2).toNat (.int .i64 ((k + 1 : Nat) : Int)) (.int .u64 (y / 2)) wr) := ⟨k + 1,y / 2,rfl,rfl,by omega,by omega,by have := HTT.out;omega,by rw [e2];have := HTT.out;omega,rfl,rfl⟩
    have HM : Hid ((y / 2).toNat < gk) := by unfold Hid;rw [HG.out];omega
    have hw : IntKind.i64.wrap ((k : Int) + 1) = ((k + 1 : Nat) : Int) := by have := HRN.out;rw [zcA] <;> omega
    obtain ⟨gn,hgn⟩ : ∃ g,(y / 2).toNat = g := ⟨_,rfl⟩
    rw [hgn] at HN HM;clear HTT HG hb2 e2 hgn h0;go_wp2_with fail;go_roundg gn
    case rel => exact HN.out
    case measure => exact HM.out
end Go.Proofs.Ytlhjogiefbjklaa
