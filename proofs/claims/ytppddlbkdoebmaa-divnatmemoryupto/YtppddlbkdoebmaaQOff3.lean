import Derived.Test.YtppddlbkdoebmaaQDivPartsToScale3
set_option maxRecDepth 100000
set_option maxHeartbeats 6400000
set_option linter.unusedVariables false
set_option linter.unusedSimpArgs false
namespace Go.Proofs.Ytppddlbkdoebmaa
open Go.RowKit
def SlNe (g : Nat) (w : World) (v : Value) (xs : List Int) : Prop :=
 ∃ a cap,v = .slice a xs.length cap ∧ xs.length ≤ cap ∧ xs.length ≤ 35184372088832 ∧
  (xs = [] ∨ ∃ b off,a = some ⟨b,off,none⟩ ∧ b ≠ g ∧ ∀ j (h : j < xs.length),w.cell? ⟨b,off + j,none⟩ = some (.int .u64 xs[j]))
theorem Only.cell {g b i : Nat} {w w1 : World} (h : Only g w w1) (hb : b ≠ g) : w1.cell? ⟨b,i,none⟩ = w.cell? ⟨b,i,none⟩ := World.cell?_of_block (a := ⟨b,i,none⟩) (h.2 b hb)
theorem zGB {g cap s : Nat} {w : World} {u : Value} {R0 bs : List Int} {r : List Value} {q : Int} (hR : HF R0) (hrow : Row w g (ws R0 ++ r)) (hb : SlNe g w u bs) (hB : HF bs) (hq0 : 0 ≤ q) (hq1 : q < 4294967296) (hl : s + bs.length ≤ R0.length) (hml : R0.length ≤ 35184372088832) (hge : hpw s * (q * hval bs) ≤ hval R0) :
  Calls Try.prog 47 #[.slice (some ⟨g,0,none⟩) R0.length cap,u,.int .u64 q,.int .i64 (s : Int)] w fun e w' =>
   ∃ R,e = .returned (.tuple #[]) ∧ R.length = R0.length ∧ HF R ∧ hval R = hval R0 - hpw s * (q * hval bs) ∧ Row w' g (ws R ++ r) ∧ Below g w w' ∧ Only g w w' := by
 obtain ⟨a,capb,rfl,hlc,hcm,hm⟩ := hb;have HST := hid (zpC.start (bs := bs) hR q s);have HM := hid hm;have HBB := hid hB;have HGE := hid hge;obtain ⟨n,hn⟩ : ∃ n,bs.length = n := ⟨_,rfl⟩
 obtain ⟨m,hmm⟩ : ∃ m,R0.length = m := ⟨_,rfl⟩
 rw [hn] at hlc hl;rw [hmm] at hl hml;rw [hn,hmm];have HN := hid hn;have HMM := hid hmm;clear hm hB hn hge hR hmm;go_enter Try.func47,Try.ntmps47;go_wp2_with fail
 go_loopw [8,9] (fun c i wr => ∃ (k : Nat) (R : List Int) (cc : Int),s + k ≤ m ∧ i = .int .i64 k ∧ c = .int .u64 cc ∧ 0 ≤ cc ∧ cc < 4294967296 ∧ Hid (zpC R0 bs R q s k cc) ∧ Row wr g (ws R ++ r) ∧ Below g w wr ∧ Hid (Only g w wr)) (fun _ i _ => m - (intOf i).toNat)
 case atStart => exact ⟨0,R0,0,by omega,rfl,rfl,by omega,by omega,HST,hrow,Below.refl _ _,Only.refl _ _⟩
 case round =>
  clear HST hrow;obtain ⟨k,R,cc,hk,rfl,rfl,hc0,hc1,HA,hr,hb,HO⟩ := hrel;have hRl : R.length = m := by rw [HA.out.1,HMM.out]
  by_cases hin : s + k < m
  ·have hk1 : s + k < R.length := by omega
   have hzw := HA.out.2.1.get hk1;unfold IsH hwB at hzw;obtain ⟨hz0,hz1⟩ := hzw;have c1 : wr.cell? ⟨g,s + k,none⟩ = some (.int .u64 R[s + k]) := hr.word hk1;have cf : wr.frozen? ⟨g,s + k,none⟩ = false := hr.frozen _;obtain ⟨zz,hzz⟩ : ∃ zz,R[s + k] = zz := ⟨_,rfl⟩
   have HZ := hid hzz;rw [hzz] at c1 hz0 hz1;clear hzz;have i0 : (0 : Int) ≤ (s : Int) + (k : Int) := by omega
   have i1 : (s : Int) + (k : Int) < (m : Int) := by omega
   by_cases hlt : k < n
   ·have hk2 : k < bs.length := by have := HN.out;omega
    rcases HM.out with e | ⟨b,off,rfl,hbg,hcy⟩
    ·subst e;simp at hk2
    have hxw := HBB.out.get hk2;unfold IsH hwB at hxw;obtain ⟨hx0,hx1⟩ := hxw;obtain ⟨p0,p1⟩ := zJE hq0 hq1 hx0 hx1 hc0 hc1;obtain ⟨p,hp⟩ : ∃ p,q * bs[k] = p := ⟨_,rfl⟩
    rw [hp] at p0 p1;have ep : q * bs[k] = p := hp;have EP := hid hp;have c2 : wr.cell? ⟨b,off + k,none⟩ = some (.int .u64 bs[k]) := (HO.out.cell hbg).trans (hcy k hk2);have i2 : (k : Int) < (n : Int) := by omega
    clear hcy hp;obtain ⟨x,hx⟩ : ∃ x,bs[k] = x := ⟨_,rfl⟩
    have HX := hid hx;rw [hx] at c2 ep EP hx0 hx1;clear hx;obtain ⟨lo,elo⟩ : ∃ lo,(cc + p) % 4294967296 = lo := ⟨_,rfl⟩
    obtain ⟨hi,ehi⟩ : ∃ hi,(cc + p) / 4294967296 = hi := ⟨_,rfl⟩
    have lo0 : 0 ≤ lo := by omega
    have lo1 : lo < 4294967296 := by omega
    have hi0 : 0 ≤ hi := by omega
    have hi1 : hi < 4294967296 := by omega
    have hsum : lo + 4294967296 * hi = cc + p := by omega
    have hi2 : lo = 0 ∨ hi < 4294967295 := by omega
    have HSUM := hid hsum;clear hsum
    by_cases hlo : zz < lo
    ·have HA' := hid (HA.out.in (z' := zz + 4294967296 - lo) (c' := hi + 1) hk2 HX.out hk1 HZ.out (by unfold IsH hwB;omega) (by have := HSUM.out;rw [EP.out];unfold hwB;omega))
     have HR2 : Hid (Row (wr.setCell ⟨g,s + k,none⟩ (.int .u64 (zz + 4294967296 - lo))) g (ws (R.set (s + k) (zz + 4294967296 - lo)) ++ r)) := hr.setWord hk1 _;have HB2 := hid (hb.setCell (p := ⟨g,s + k,none⟩) (Nat.le_refl _) (.int .u64 (zz + 4294967296 - lo)));have HO2 := hid (HO.out.set (s + k) (.int .u64 (zz + 4294967296 - lo)));clear hr hb HA HO HZ hi2;go_wp2;go_roundw
     case rel => exact ⟨k + 1,_,_,by omega,by go_num,by go_num,by omega,by omega,HA',HR2.out,HB2.out,HO2⟩
     case measure => simp [intOf];omega
    ·have HA' := hid (HA.out.in (z' := zz - lo) (c' := hi) hk2 HX.out hk1 HZ.out (by unfold IsH hwB;omega) (by have := HSUM.out;rw [EP.out];unfold hwB;omega))
     have HR2 : Hid (Row (wr.setCell ⟨g,s + k,none⟩ (.int .u64 (zz - lo))) g (ws (R.set (s + k) (zz - lo)) ++ r)) := hr.setWord hk1 _;have HB2 := hid (hb.setCell (p := ⟨g,s + k,none⟩) (Nat.le_refl _) (.int .u64 (zz - lo)));have HO2 := hid (HO.out.set (s + k) (.int .u64 (zz - lo)));clear hr hb HA HO HZ hi2;go_wp2;go_roundw
     case rel => exact ⟨k + 1,_,_,by omega,by go_num,by go_num,by omega,by omega,HA',HR2.out,HB2.out,HO2⟩
     case measure => simp [intOf];omega
   ·have i2 : ¬ (k : Int) < (n : Int) := by omega
    have hkn : bs.length ≤ k := by have := HN.out;omega
    by_cases hcz : cc = 0
    ·subst hcz
     have HE := hid (HA.out.done hkn);have hcz : ¬ (0 : Int) < 0 := by omega
     go_wp2;go_end0;exact ⟨rfl,R,hRl,HA.out.2.1,HE.out,hr,hb,HO.out⟩
    ·have hcp : 0 < cc := by omega
     obtain ⟨lo,elo⟩ : ∃ lo,(cc) % 4294967296 = lo := ⟨_,rfl⟩
     obtain ⟨hi,ehi⟩ : ∃ hi,(cc) / 4294967296 = hi := ⟨_,rfl⟩
     have lo0 : 0 ≤ lo := by omega
     have lo1 : lo < 4294967296 := by omega
     have hi0 : 0 ≤ hi := by omega
     have hi1 : hi < 4294967296 := by omega
     have hsum : lo + 4294967296 * hi = cc := by omega
     have hi2 : lo = 0 ∨ hi < 4294967295 := by omega
     have HSUM := hid hsum;clear hsum
     by_cases hlo : zz < lo
     ·have HA' := hid (HA.out.out (z' := zz + 4294967296 - lo) (c' := hi + 1) hkn hk1 HZ.out (by unfold IsH hwB;omega) (by have := HSUM.out;unfold hwB;omega))
      have HR2 : Hid (Row (wr.setCell ⟨g,s + k,none⟩ (.int .u64 (zz + 4294967296 - lo))) g (ws (R.set (s + k) (zz + 4294967296 - lo)) ++ r)) := hr.setWord hk1 _;have HB2 := hid (hb.setCell (p := ⟨g,s + k,none⟩) (Nat.le_refl _) (.int .u64 (zz + 4294967296 - lo)));have HO2 := hid (HO.out.set (s + k) (.int .u64 (zz + 4294967296 - lo)));clear hr hb HA HO HZ hi2;go_wp2;go_roundw
      case rel => exact ⟨k + 1,_,_,by omega,by go_num,by go_num,by omega,by omega,HA',HR2.out,HB2.out,HO2⟩
      case measure => simp [intOf];omega
     ·have HA' := hid (HA.out.out (z' := zz - lo) (c' := hi) hkn hk1 HZ.out (by unfold IsH hwB;omega) (by have := HSUM.out;unfold hwB;omega))
      have HR2 : Hid (Row (wr.setCell ⟨g,s + k,none⟩ (.int .u64 (zz - lo))) g (ws (R.set (s + k) (zz - lo)) ++ r)) := hr.setWord hk1 _;have HB2 := hid (hb.setCell (p := ⟨g,s + k,none⟩) (Nat.le_refl _) (.int .u64 (zz - lo)));have HO2 := hid (HO.out.set (s + k) (.int .u64 (zz - lo)));clear hr hb HA HO HZ hi2;go_wp2;go_roundw
      case rel => exact ⟨k + 1,_,_,by omega,by go_num,by go_num,by omega,by omega,HA',HR2.out,HB2.out,HO2⟩
      case measure => simp [intOf];omega
  ·have hkn : bs.length ≤ k := by have := HN.out;omega
   have hcz := HA.out.last hkn (by omega) hc0 HGE.out;subst hcz;have HE := hid (HA.out.done hkn);have i1 : ¬ (s : Int) + (k : Int) < (m : Int) := by omega
   go_wp2;go_end0;exact ⟨rfl,R,hRl,HA.out.2.1,HE.out,hr,hb,HO.out⟩
theorem drop_lt_of {R bs : List Int} {s : Nat} (hR : HF R) (hB : HF bs) (hi : s + bs.length < R.length) (h0 : 0 < R[s + bs.length]) : hval bs ≤ hval (R.drop s) := by
 have e := zwA (zs := R.drop s) (j := bs.length) (by rw [List.length_drop];omega);have a1 := zDA ((hR.drop s).take bs.length);have a2 : 1 ≤ hval ((R.drop s).drop bs.length) := by
  rw [List.drop_drop,List.drop_eq_getElem_cons hi];have := zDA (hR.drop (s + bs.length + 1))
  show 1 ≤ R[s + bs.length] + hwB * hval (R.drop (s + bs.length + 1))
  unfold hwB;omega
 have a3 := Int.mul_le_mul_of_nonneg_left a2 (Int.le_of_lt (zcA bs.length));have a4 := zVA hB;rw [Int.mul_one] at a3;omega
theorem drop_same {R bs : List Int} {s : Nat} (hi : s + bs.length ≤ R.length) (h0 : hval (R.drop (s + bs.length)) = 0) : hval (R.drop s) = hval ((R.drop s).take bs.length) := by
 have e := zwA (zs := R.drop s) (j := bs.length) (by rw [List.length_drop];omega);rw [List.drop_drop,h0,Int.mul_zero,Int.add_zero] at e;exact e
theorem zFF {B cap s : Nat} {w : World} {v u : Value} {R bs : List Int} (hv : Sl B w v R) (hb : Sl B w u bs) (hR : HF R) (hB : HF bs) (hl : s + bs.length ≤ R.length) (hz : hval (R.drop (s + bs.length + 1)) = 0) :
  Calls Try.prog 68 #[v,u,.int .i64 (s : Int)] w fun e w' => e = .returned (.bool (decide (hval bs ≤ hval (R.drop s)))) ∧ ∃ n,w' = w.drewN n := by
 obtain ⟨_,a,capv,rfl,hlv,hcmv,hmv⟩ := hv;obtain ⟨_,a',capb,rfl,hlb,hcmb,hmb⟩ := hb
 by_cases htop : ∃ h : s + bs.length < R.length,0 < R[s + bs.length]
 ·obtain ⟨h1,h2⟩ := htop
  rw [decide_eq_true (drop_lt_of hR hB h1 h2)];rcases hmv with e | ⟨b,off,rfl,hbg,hcv⟩
  ·subst e;simp at h1
  have c1 := hcv _ h1;obtain ⟨n,hn⟩ : ∃ n,bs.length = n := ⟨_,rfl⟩
  obtain ⟨m,hm⟩ : ∃ m,R.length = m := ⟨_,rfl⟩
  obtain ⟨z,hzz⟩ : ∃ z,R[s + bs.length] = z := ⟨_,rfl⟩
  rw [hzz] at c1 h2;clear hzz;rw [hn] at c1 h1 hl hlb hcmb;rw [hm] at h1 hlv hcmv hl;rw [hn,hm];have i1 : (s : Int) + (n : Int) < (m : Int) := by omega
  have i0 : (0 : Int) ≤ (s : Int) + (n : Int) := by omega
  clear hcv hmb hn hm hz hR hB;go_enter Try.func68,Try.ntmps68;go_wp2;go_ret;exact ⟨rfl,0,rfl⟩
 ·have h0 : hval (R.drop (s + bs.length)) = 0 := by
   by_cases q : s + bs.length < R.length
   ·rw [List.drop_eq_getElem_cons q]
    have a1 : ¬ 0 < R[s + bs.length] := fun e => htop ⟨q,e⟩
    have a2 := (hR.get q).1
    show R[s + bs.length] + hwB * hval (R.drop (s + bs.length + 1)) = 0
    rw [hz];omega
   ·rw [List.drop_eq_nil_of_le (by omega)];rfl
  rw [drop_same hl h0];obtain ⟨P,hPd⟩ : ∃ P,P = (R.drop s).take bs.length := ⟨_,rfl⟩
  rw [← hPd];have hP : HF P := by rw [hPd];exact (hR.drop s).take bs.length
  have hPl : P.length = bs.length := by rw [hPd,List.length_take,List.length_drop];omega
  have hPg : ∀ j (h : j < bs.length),P[j]'(by omega) = R[s + j]'(by omega) := fun j h => by subst hPd;simp
  have HNT : Hid (∀ h : s + bs.length < R.length,R[s + bs.length] = 0) := fun h => by
   have a1 : ¬ 0 < R[s + bs.length] := fun e => htop ⟨h,e⟩
   have a2 := (hR.get h).1;omega
  have HYES : Hid (P = bs → decide (hval bs ≤ hval P) = true) := fun e => by rw [e];simp
  have HDIF : Hid (∀ j (h : j < bs.length),P.drop (j + 1) = bs.drop (j + 1) → R[s + j]'(by omega) ≠ bs[j] → decide (hval bs ≤ hval P) = decide (bs[j] < R[s + j]'(by omega))) := fun j h e hne => by
   rw [← hPg j h] at hne ⊢;have := zVF hP hB hPl (by omega) e hne;rcases Int.lt_trichotomy (P[j]'(by omega)) bs[j] with k | k | k
   ·rw [zxA k] at this
    have k2 : hval P < hval bs := by
     rcases Int.lt_trichotomy (hval P) (hval bs) with t | t | t
     ·exact t
     ·rw [t,cmpI_self] at this;omega
     ·rw [zyA t] at this;omega
    rw [decide_eq_false (by omega),decide_eq_false (by omega)]
   ·exact absurd k hne
   ·rw [zyA k] at this
    have k2 : hval bs < hval P := by
     rcases Int.lt_trichotomy (hval P) (hval bs) with t | t | t
     ·rw [zxA t] at this;omega
     ·rw [t,cmpI_self] at this;omega
     ·exact t
    rw [decide_eq_true (by omega),decide_eq_true (by omega)]
  have HDR : Hid (∀ j (h : j < bs.length),P.drop (j + 1) = bs.drop (j + 1) → R[s + j]'(by omega) = bs[j] → P.drop j = bs.drop j) := fun j h e1 e2 => by
   rw [List.drop_eq_getElem_cons (show j < P.length by omega),List.drop_eq_getElem_cons h,e1,hPg j h,e2]
  have HEND : Hid (P.drop bs.length = bs.drop bs.length) := by unfold Hid;rw [List.drop_eq_nil_of_le (by omega),List.drop_eq_nil_of_le (Nat.le_refl _)]
  generalize hS : decide (hval bs ≤ hval P) = S at *;have HMV := hid hmv;have HMB := hid hmb;obtain ⟨n,hn⟩ : ∃ n,bs.length = n := ⟨_,rfl⟩
  obtain ⟨m,hm⟩ : ∃ m,R.length = m := ⟨_,rfl⟩
  have HN := hid hn;have HM := hid hm;have HSL := hid hl;rw [hn] at hl hlb hcmb HEND;rw [hm] at hlv hcmv hl;rw [hn,hm];clear hmv hmb hR hB hz htop h0 hP hn hm hS hPd;go_enter Try.func68,Try.ntmps68
  by_cases q : s + n < m
  ·have hq1 : s + bs.length < R.length := by have := HN.out;have := HM.out;omega
   rcases HMV.out with e | ⟨b,off,rfl,hbg,hcv⟩
   ·subst e;simp at hq1
   have c1 := hcv _ hq1;rw [HNT.out hq1,HN.out] at c1;have i1 : (s : Int) + (n : Int) < (m : Int) := by omega
   have i0 : (0 : Int) ≤ (s : Int) + (n : Int) := by omega
   have hz0 : ¬ (0 : Int) < 0 := by omega
   clear hcv hq1;go_wp2_with fail
   go_loopw [8] (fun i wr => ∃ k nd : Nat,k ≤ n ∧ i = .int .i64 ((k : Int) - 1) ∧ wr = w.drewN nd ∧ Hid (P.drop k = bs.drop k)) (fun i _ => (intOf i + 1).toNat)
   case atStart => exact ⟨n,0,Nat.le_refl _,rfl,rfl,HEND⟩
   case round =>
    obtain ⟨k,nd,hk,rfl,rfl,HK⟩ := hrel
    by_cases hk0 : k = 0
    ·subst hk0
     have hyes := HYES.out (by simpa using HK.out);subst hyes;go_wp2;go_ret;exact ⟨rfl,nd,rfl⟩
    ·obtain ⟨j,rfl⟩ : ∃ j,k = j + 1 := ⟨k - 1,by omega⟩
     have hjb : j < bs.length := by have := HN.out;omega
     have hjr : s + j < R.length := by have := HM.out;omega
     rcases HMV.out with e | ⟨b,off,e1,hbg,hcv⟩
     ·subst e;simp at hjr
     rcases HMB.out with e | ⟨b',off',rfl,hbg',hcb⟩
     ·subst e;simp at hjb
     try subst e1
     try (cases e1)
     have d1 : ∀ q,(w.drewN q).cell? ⟨b,off + (s + j),none⟩ = some (.int .u64 R[s + j]) := fun q => by simpa using hcv (s + j) hjr
     have d2 : ∀ q,(w.drewN q).cell? ⟨b',off' + j,none⟩ = some (.int .u64 bs[j]) := fun q => by simpa using hcb j hjb
     have HDJ := hid (HDIF.out j hjb HK.out);have HDE := hid (HDR.out j hjb HK.out);have ej : ((j + 1 : Nat) : Int) - 1 = (j : Int) := by omega
     have k0 : (0 : Int) ≤ (j : Int) := by omega
     have k1 : (j : Int) < (n : Int) := by omega
     have k2 : (s : Int) + (j : Int) < (m : Int) := by omega
     have k3 : (0 : Int) ≤ (s : Int) + (j : Int) := by omega
     clear hcv hcb HK;generalize R[s + j] = x at *;generalize bs[j] = y at *
     by_cases hxy : x = y
     ·have ht : (x != y) = false := by simp [hxy]
      go_wp2_with fail;go_quiet (fail);go_wp2_with fail;go_roundw
      case rel => exact ⟨j,_,by omega,by go_num,by first | rfl | exact World.drewN_drewN _ _ _,HDE.out hxy⟩
      case measure => simp [intOf]
     ·have ht : (x != y) = true := by simp [hxy]
      have hS := HDJ.out hxy;subst hS;go_wp2_with fail;go_quiet (fail);go_wp2_with fail;go_quiet (fail);go_wp2;go_ret;exact ⟨rfl,by first | exact ⟨_,rfl⟩ | exact ⟨_,World.drewN_drewN _ _ _⟩ | (rw [World.drewN_drewN];exact ⟨_,World.drewN_drewN _ _ _⟩)⟩
  ·have i1 : ¬ (s : Int) + (n : Int) < (m : Int) := by omega
   go_wp2_with fail
   go_loopw [8] (fun i wr => ∃ k nd : Nat,k ≤ n ∧ i = .int .i64 ((k : Int) - 1) ∧ wr = w.drewN nd ∧ Hid (P.drop k = bs.drop k)) (fun i _ => (intOf i + 1).toNat)
   case atStart => exact ⟨n,0,Nat.le_refl _,rfl,rfl,HEND⟩
   case round =>
    obtain ⟨k,nd,hk,rfl,rfl,HK⟩ := hrel
    by_cases hk0 : k = 0
    ·subst hk0
     have hyes := HYES.out (by simpa using HK.out);subst hyes;go_wp2;go_ret;exact ⟨rfl,nd,rfl⟩
    ·obtain ⟨j,rfl⟩ : ∃ j,k = j + 1 := ⟨k - 1,by omega⟩
     have hjb : j < bs.length := by have := HN.out;omega
     have hjr : s + j < R.length := by have := HM.out;omega
     rcases HMV.out with e | ⟨b,off,e1,hbg,hcv⟩
     ·subst e;simp at hjr
     rcases HMB.out with e | ⟨b',off',rfl,hbg',hcb⟩
     ·subst e;simp at hjb
     try subst e1
     try (cases e1)
     have d1 : ∀ q,(w.drewN q).cell? ⟨b,off + (s + j),none⟩ = some (.int .u64 R[s + j]) := fun q => by simpa using hcv (s + j) hjr
     have d2 : ∀ q,(w.drewN q).cell? ⟨b',off' + j,none⟩ = some (.int .u64 bs[j]) := fun q => by simpa using hcb j hjb
     have HDJ := hid (HDIF.out j hjb HK.out);have HDE := hid (HDR.out j hjb HK.out);have ej : ((j + 1 : Nat) : Int) - 1 = (j : Int) := by omega
     have k0 : (0 : Int) ≤ (j : Int) := by omega
     have k1 : (j : Int) < (n : Int) := by omega
     have k2 : (s : Int) + (j : Int) < (m : Int) := by omega
     have k3 : (0 : Int) ≤ (s : Int) + (j : Int) := by omega
     clear hcv hcb HK;generalize R[s + j] = x at *;generalize bs[j] = y at *
     by_cases hxy : x = y
     ·have ht : (x != y) = false := by simp [hxy]
      go_wp2_with fail;go_quiet (fail);go_wp2_with fail;go_roundw
      case rel => exact ⟨j,_,by omega,by go_num,by first | rfl | exact World.drewN_drewN _ _ _,HDE.out hxy⟩
      case measure => simp [intOf]
     ·have ht : (x != y) = true := by simp [hxy]
      have hS := HDJ.out hxy;subst hS;go_wp2_with fail;go_quiet (fail);go_wp2_with fail;go_quiet (fail);go_wp2;go_ret;exact ⟨rfl,by first | exact ⟨_,rfl⟩ | exact ⟨_,World.drewN_drewN _ _ _⟩ | (rw [World.drewN_drewN];exact ⟨_,World.drewN_drewN _ _ _⟩)⟩
end Go.Proofs.Ytppddlbkdoebmaa
