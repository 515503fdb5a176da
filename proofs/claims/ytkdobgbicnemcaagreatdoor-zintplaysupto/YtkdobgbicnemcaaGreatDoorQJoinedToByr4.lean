/-
 QJoinedToByr4: Joined, Read, Dec4, TxtBack, RP4, Byr4, joined.
-/
import Derived.Test.YtkdobgbicnemcaaGreatDoorQPairs
import Derived.Test.YtkdobgbicnemcaaGreatDoorQTextToCutPure
import Derived.Test.YtkdobgbicnemcaaGreatDoorQSplitToRDigits
import Derived.Test.YtkdobgbicnemcaaGreatDoorQByteRowToLen2
import Derived.Test.YtkdobgbicnemcaaGreatDoorQBunchToTrimL
import Derived.Test.YtkdobgbicnemcaaGreatDoorQZDivsToRowsI
import Derived.Deep.AppendLies

set_option maxRecDepth 100000
set_option maxHeartbeats 6400000
set_option linter.unusedVariables false
set_option linter.unusedSimpArgs false
namespace Go.Proofs.YtkdobgbicnemcaaGreatDoor
open Go.RowKit
def lowv (P : Nat) : List (List Int) → Nat
 | [] => 0
 | x :: t => vn x + P * lowv P t
theorem zRF (P : Nat) : ∀ Gs : List Nat,lowv P (zsA Gs) = ofD P Gs.reverse
 | [] => rfl
 | G :: t => by
  have ih := zRF P t;have e : zsA (G :: t) = [(G : Int)] :: zsA t := rfl;have v1 : vn [(G : Int)] = G := by simp [vn]
  rw [e,lowv,ih,v1,List.reverse_cons,zSD,Nat.mul_comm];omega
theorem zSF (P : Nat) : ∀ (n : Nat) (Ps Qs : List (List Int)),Ps.length ≤ n → Qs.length = (Ps.length + 1) / 2 → (∀ i (h : i < Qs.length),vn Qs[i] = vn (Ps.getD (2 * i + 1) []) * P + vn (Ps.getD (2 * i) [])) → lowv (P * P) Qs = lowv P Ps
 | _,[],Qs,_,hl,_ => by
  have : Qs = [] := List.eq_nil_of_length_eq_zero (by simpa using hl);rw [this];rfl
 | _,[x],Qs,_,hl,h => by
  obtain ⟨q,rfl⟩ : ∃ q,Qs = [q] := List.length_eq_one_iff.1 (by simpa using hl);have := h 0 (by simp);simp [vn] at this;simp [lowv,this]
 | 0,x :: y :: t,Qs,hn,_,_ => by simp at hn
 | n + 1,x :: y :: t,Qs,hn,hl,h => by
  match Qs,hl,h with
  | [],hl,_ =>
   exfalso
   simp only [List.length_nil,List.length_cons] at hl;omega
  | q :: qs,hl,h =>
   have h0 := h 0 (by simp);simp at h0;have ih := zSF P n t qs (by simp at hn;omega) (by simp at hl;omega) (fun i hi => by
    have := h (i + 1) (by simpa using hi);simp only [List.getElem_cons_succ] at this;rw [this,show 2 * (i + 1) + 1 = (2 * i + 1) + 1 + 1 by omega,show 2 * (i + 1) = 2 * i + 1 + 1 by omega]
    simp)
   rw [lowv,ih,lowv,lowv,h0];simp only [Nat.mul_add,Nat.mul_assoc];rw [Nat.mul_comm P (vn y)];omega
theorem lowv_one {P : Nat} : ∀ {Qs : List (List Int)} (h : Qs.length = 1) (h0 : 0 < Qs.length),lowv P Qs = vn Qs[0]
 | [q],_,_ => by simp [lowv]
theorem pair_lt {P x y : Nat} (hx : x < P) (hy : y < P) : y * P + x < P * P := by
 have : (y + 1) * P ≤ P * P := Nat.mul_le_mul_right _ hy;rw [Nat.add_mul,Nat.one_mul] at this;omega
def JoinedTo (B0 : Nat) (w : World) (N : Nat) (e : Ending) (w' : World) : Prop := ∃ zs a c,e = .returned (.slice a zs.length c) ∧ Mine B0 w' (.slice a zs.length c) zs ∧ zHA zs ∧ vn zs = N ∧ Below B0 w w'
theorem canon_short {zs ps : List Int} (hz : zHA zs) (hp : WF ps) (h : vn zs < vn ps) : zs.length ≤ ps.length := by
 refine zSA hz ?_;have h1 := zUA hp;rw [zJA hz.1];rw [zJA hp] at h1;omega
theorem joined_any {B0 : Nat} {w : World} {a : Option Addr} {cap : Nat} {vp : Value} {Ps0 : List (List Int)} {ps0 : List Int} {N : Nat} (hb : zoA B0 w (.slice a Ps0.length cap) Ps0) (hp : Mine 0 w vp ps0) (cp : zHA ps0) (hn : 0 < Ps0.length) (hl : Ps0.length ≤ 1000000000) (hlp : ps0.length ≤ 1) (hN : lowv (vn ps0) Ps0 = N) (hle : ∀ i (h : i < Ps0.length),vn Ps0[i] < vn ps0 ∧ Ps0[i].length ≤ 1) (hsz : B0 ≤ w.heap.size) :
  Calls Tryz.prog 162 #[.slice a Ps0.length cap,vp] w (JoinedTo B0 w N) := by
 have HB := hid hb;have HP := hid hp;have HC := hid cp;have HN := hid hN;have HSZ := hid hsz;have HE : Hid (∀ i (h : i < Ps0.length),vn Ps0[i] < vn ps0 ∧ Ps0[i].length ≤ 1073741824) := fun i h => ⟨(hle i h).1,by have := (hle i h).2;omega⟩
 obtain ⟨qa,qc,hvp⟩ := hp.form;subst hvp;clear hb hp cp hN hle hsz;go_enter Tryz.func162,Tryz.ntmps162;go_wp2_with fail
 go_loopg [0,1] Ps0.length (fun gk s0 s1 wx => ∃ (Ps : List (List Int)) (ps : List Int) (j : Nat),gk = Ps.length ∧ 0 < Ps.length ∧ Ps.length ≤ 1000000000 ∧ (j = 0 ∨ 2 ≤ Ps.length) ∧ Hid ((Ps.length - 1) * 2 ^ j ≤ 1073741824 ∧ ps.length ≤ 2 ^ j) ∧ Hid (zoA B0 wx s0 Ps) ∧ Hid (Mine 0 wx s1 ps) ∧ Hid (zHA ps) ∧ Hid (lowv (vn ps) Ps = N) ∧ Hid (∀ i (h : i < Ps.length),vn Ps[i] < vn ps ∧ Ps[i].length ≤ 1073741824) ∧ Hid (Below B0 w wx) ∧ Hid (B0 ≤ wx.heap.size))
 case atStart => exact ⟨Ps0,ps0,0,rfl,hn,hl,.inl rfl,⟨by simp;omega,by simpa using hlp⟩,HB,HP,HC,HN,HE,Below.refl _ _,HSZ⟩
 case round =>
  clear HB HP HC HN HE HSZ;obtain ⟨Ps,ps,j,hgk,hn1,hl1,hj,HJ,HB,HP,HC,HN,HE,KK,HSZ⟩ := hrel;obtain ⟨ba,bc,hs0,_⟩ := HB.out.form;obtain ⟨xa,xc,hs1⟩ := HP.out.form;subst hs0 hs1;have h2j : 2 ^ j ≤ 1073741824 := by
   have h1 := HJ.out.1;rcases hj with e | e
   ·rw [e];decide
   ·have h3 : 1 * 2 ^ j ≤ (Ps.length - 1) * 2 ^ j := Nat.mul_le_mul_right _ (by omega)
    omega
  have hpl : ps.length ≤ 1073741824 := Nat.le_trans HJ.out.2 h2j;have HIP := hid (inPairs_any (P := vn ps) HB.out HP.out rfl hn1 hl1 (by omega) (fun i h => by have := (HE.out i h).2;omega) HSZ.out);obtain ⟨n1,hnn⟩ : ∃ n1,Ps.length = n1 := ⟨_,rfl⟩
  have HNN := hid hnn;rw [hnn] at HIP hn1 hl1 hgk hj ⊢;go_wp2_with fail;refine HIP.out.mono ?_;rintro e w1 ⟨Qs,ca,cc,rfl,bQ,lQ,eQ,kQ,beQ⟩;have HBQ := hid bQ;have HLQ := hid lQ;have HEQ := hid eQ;have K1 : Hid (Below B0 w w1) := KK.out.trans beQ;have HS1 : Hid (B0 ≤ w1.heap.size) := Nat.le_trans HSZ.out beQ.size;have HP1 := hid (kQ _ _ HP.out);have HNQ : Hid (lowv (vn ps * vn ps) Qs = N) := by
   unfold Hid;rw [← HN.out];exact zSF (vn ps) _ Ps Qs (Nat.le_refl _) lQ (fun i h => (eQ i h).2)
  have HLT : Hid (∀ i (h : i < Qs.length),vn Qs[i] < vn ps * vn ps) := fun i h => by
   rw [(HEQ.out i h).2];have hpos : 0 < vn ps := Nat.lt_of_le_of_lt (Nat.zero_le _) (HE.out 0 (by rw [HNN.out];exact hn1)).1;have g : ∀ q,vn (Ps.getD q []) < vn ps := fun q => by
    rcases Nat.lt_or_ge q Ps.length with z | z
    ·have e : Ps.getD q [] = Ps[q] := by simp [z]
     rw [e];exact (HE.out q z).1
    ·have e : Ps.getD q [] = [] := by rw [List.getD_eq_getElem?_getD,List.getElem?_eq_none z];rfl
     rw [e];exact hpos
   exact pair_lt (g _) (g _)
  have hq0 : 0 < Qs.length := by rw [lQ,hnn];omega
  clear bQ lQ eQ kQ beQ HIP HB HP HN KK HSZ HE
  by_cases h1 : Qs.length = 1
  ·obtain ⟨g,hca,hce⟩ := HBQ.out.sz hq0
   subst hca;obtain ⟨u,cu,mu⟩ := hce 0 hq0;obtain ⟨ua,uc,rfl⟩ := mu.form;have HMU := hid mu;have HV : Hid (vn Qs[0] = N ∧ zHA Qs[0]) := by
    refine ⟨?_,(HEQ.out 0 hq0).1⟩;rw [← HNQ.out];exact (lowv_one h1 hq0).symm
   obtain ⟨q0,hq⟩ : ∃ q0,Qs[0] = q0 := ⟨_,rfl⟩
   rw [hq] at cu HMU HV;rw [h1];clear hce mu hq h1 HBQ HLQ HEQ HNQ HLT hq0;go_wp2;go_ret;exact ⟨q0,ua,uc,rfl,HMU.out,HV.out.2,HV.out.1,K1.out⟩
  ·have z : ((Qs.length : Int) == 1) = false := by rw [beq_eq_false_iff_ne];omega
   have HSQ := hid (zgD HP1.out.sl (by omega));have HQ2 : Hid (2 ≤ Qs.length) := by unfold Hid;omega
   obtain ⟨nq,hnq⟩ : ∃ nq,Qs.length = nq := ⟨_,rfl⟩
   have HNQ2 := hid hnq;rw [hnq] at z HBQ hq0 ⊢;clear hnq h1;go_wp2_with fail;refine HSQ.out.mono ?_;rintro e w2 ⟨zs,r,rfl,mZ,cZ,hZ,k2⟩;have hvz : vn zs = vn ps * vn ps := by
    have h3 := zJA cZ.1;rw [hZ,zJA HC.out.1,← Int.natCast_mul] at h3;exact (Int.ofNat.inj h3).symm
   have HZ := hid (mZ.mono (Nat.zero_le _));have HCZ := hid cZ;have HBZ := hid (HBQ.out.bunch.now k2);have K2 : Hid (Below B0 w w2) := K1.out.trans (k2.mono HS1.out);have HS2 : Hid (B0 ≤ w2.heap.size) := Nat.le_trans HS1.out k2.size;have HNZ : Hid (lowv (vn zs) Qs = N) := by unfold Hid;rw [hvz];exact HNQ.out
   have hlz : zs.length ≤ ps.length + ps.length := by
    refine zSA cZ ?_;rw [hZ];exact zIB HC.out.1 HC.out.1
   have HEZ : Hid (∀ i (h : i < Qs.length),vn Qs[i] < vn zs ∧ Qs[i].length ≤ 1073741824) := fun i h => by
    have a1 := HLT.out i h;rw [← hvz] at a1;refine ⟨a1,?_⟩;have a2 := canon_short (HEQ.out i h).1 cZ.1 a1;have a3 := HLQ.out;have a4 := HJ.out;have a5 : (Qs.length - 1) * 2 ^ (j + 1) ≤ 1073741824 := by
     have e1 : (Qs.length - 1) * 2 ^ (j + 1) = (2 * (Qs.length - 1)) * 2 ^ j := by rw [Nat.pow_succ,Nat.mul_comm (2 ^ j) 2,← Nat.mul_assoc,Nat.mul_comm (Qs.length - 1) 2]
     rw [e1];exact Nat.le_trans (Nat.mul_le_mul_right _ (by omega)) a4.1
    have a6 : 1 * 2 ^ (j + 1) ≤ (Qs.length - 1) * 2 ^ (j + 1) := Nat.mul_le_mul_right _ (by have := HQ2.out;omega);rw [Nat.pow_succ] at a5 a6;omega
   have HJZ : Hid ((Qs.length - 1) * 2 ^ (j + 1) ≤ 1073741824 ∧ zs.length ≤ 2 ^ (j + 1)) := by
    have a3 := HLQ.out;have a4 := HJ.out;refine ⟨?_,by rw [Nat.pow_succ];omega⟩;have e1 : (Qs.length - 1) * 2 ^ (j + 1) = (2 * (Qs.length - 1)) * 2 ^ j := by rw [Nat.pow_succ,Nat.mul_comm (2 ^ j) 2,← Nat.mul_assoc,Nat.mul_comm (Qs.length - 1) 2]
    rw [e1];exact Nat.le_trans (Nat.mul_le_mul_right _ (by omega)) a4.1
   have HLL : Hid (0 < Qs.length ∧ Qs.length ≤ 1000000000 ∧ Qs.length < gk) := by
    have a3 := HLQ.out;have a4 := HQ2.out;have a5 := HNN.out;unfold Hid;omega
   obtain ⟨za,zc,rfl⟩ := mZ.form;clear mZ cZ hZ k2 HSQ HP1 HBQ HNQ HEQ HLT HC HJ K1 HS1 hvz hlz;have HBZ2 : Hid (zoA B0 w2 (.slice ca nq cc) Qs) := HBZ;go_wp2;go_roundg Qs.length
   case rel => exact ⟨Qs,zs,j + 1,rfl,HLL.out.1,HLL.out.2.1,.inr HQ2.out,HJZ,HBZ2,HZ,HCZ,HNZ,HEZ,K2,HS2⟩
   case measure => exact HLL.out.2.2
def zIE (w : World) (B : Nat) (l : List UInt8) (e : Ending) (w' : World) : Prop :=
 ((l ≠ [] ∧ Good B l) ∧ ∃ zs a c,e = .returned (.tuple #[.slice a zs.length c,.int .i64 0]) ∧ Mine w.heap.size w' (.slice a zs.length c) zs ∧ zHA zs ∧ vn zs = ofD B (dsL l) ∧ Below w.heap.size w w') ∨
 (¬ (l ≠ [] ∧ Good B l) ∧ e = .returned (.tuple #[.slice none 0 0,.int .i64 7]) ∧ Below w.heap.size w w')
theorem cut_nil {w : World} {B D : Nat} : Calls Tryz.prog 161 #[.string ⟨([] : List UInt8).toArray⟩,.int .i64 (B : Int),.int .i64 (D : Int)] w fun e w' => e = .returned (.tuple #[.slice none 0 0,.int .i64 7]) ∧ w' = w := by
 go_enter Tryz.func161,Tryz.ntmps161;go_wp2;go_ret2;exact ⟨rfl,rfl⟩
theorem cut_all {w : World} {B D : Nat} {l : List UInt8} (hB : 2 ≤ B) (hB2 : B ≤ 36) (hD : WD B D) (hT : Sg w) (hl : l.length ≤ 1000000000) :
  Calls Tryz.prog 161 #[.string ⟨l.toArray⟩,.int .i64 (B : Int),.int .i64 (D : Int)] w fun e w' =>
   ((l ≠ [] ∧ Good B l) ∧ ∃ Gs a cap,e = .returned (.tuple #[.slice a Gs.length cap,.int .i64 0]) ∧ zoA w.heap.size w' (.slice a Gs.length cap) (zsA Gs) ∧ 0 < Gs.length ∧ Gs.length ≤ l.length ∧ (∀ G ∈ Gs,G < B ^ D) ∧ ofD (B ^ D) Gs.reverse = ofD B (dsL l) ∧ Below w.heap.size w w') ∨
   (¬ (l ≠ [] ∧ Good B l) ∧ e = .returned (.tuple #[.slice none 0 0,.int .i64 7]) ∧ Below w.heap.size w w') := by
 by_cases h : l = []
 ·subst h
  exact cut_nil.mono fun e w' ⟨h1,h2⟩ => .inr ⟨fun q => q.1 rfl,h1,by rw [h2];exact Below.refl _ _⟩
 ·refine (cut_any hB hB2 hD hT h hl).mono fun e w' hp => ?_
  rcases hp with ⟨g,Gs,a,cap,h1,_,h2,h3,h4,h5,h6,h7⟩ | ⟨g,h1,h2⟩
  ·exact .inl ⟨⟨h,g⟩,Gs,a,cap,h1,h2,h3,h4,h5,h6,h7⟩
  ·exact .inr ⟨fun q => g q.2,h1,h2⟩
theorem read_any {w : World} {B : Nat} {l : List UInt8} (hB : 2 ≤ B) (hB2 : B ≤ 36) (hT : Sg w) (hl : l.length ≤ 1000000000) :
  Calls Tryz.prog 142 #[.string ⟨l.toArray⟩,.int .i64 (B : Int)] w (zIE w B l) := by
 have HT := hid hT;have HIB := hid (zWF (B : Int) (by omega) (by omega) w);rw [decide_eq_true (show (2 : Int) ≤ (B : Int) ∧ (B : Int) ≤ 36 by omega)] at HIB;have HWF := hid (zNE hB hB2 w);obtain ⟨s,hs⟩ : ∃ s,s = (⟨l.toArray⟩ : ByteArray) := ⟨_,rfl⟩
 have HS := hid hs;rw [← hs];clear hT hs;go_enter Tryz.func142,Tryz.ntmps142;go_wp2_with fail;refine HIB.out.mono ?_;rintro e w0 ⟨rfl,rfl⟩;clear HIB;go_wp2_with fail;refine HWF.out.mono ?_;rintro e w1 ⟨D,hD,rfl,mP,k1⟩;have HCU := hid (cut_all (l := l) hB hB2 hD (HT.out.now k1) hl);rw [← HS.out] at HCU;have K1 := hid k1;have HP := hid mP;have HD := hid hD;clear HWF mP k1 hD;go_wp2_with fail;refine HCU.out.mono ?_;rintro e w2 (⟨hg,Gs,a,cap,rfl,hbu,hg0,hgl,hgs,hv,k2⟩ | ⟨hg,rfl,k2⟩)
 ·have HG := hid hg
  have hpl : (zsA Gs).length = Gs.length := by simp [zsA]
  have hco := zTG (Nat.lt_of_lt_of_le (by omega) (Nat.pow_pos (n := D) (show 0 < B by omega))) HD.out.2.2.1;have K2 := hid (below_step K1.out k2);have HJO := hid (joined_any (B0 := w1.heap.size) (w := w2) (Ps0 := zsA Gs) (a := a) (cap := cap) (ps0 := [((B ^ D : Nat) : Int)]) (N := ofD B (dsL l)) (by rw [hpl];exact hbu) (HP.out.below k2) hco.1 (by rw [hpl];exact hg0) (by rw [hpl];omega) (by simp) (by rw [hco.2,zRF];exact hv) (fun i h => by
   have hi : i < Gs.length := by rw [hpl] at h;exact h
   have e : (zsA Gs)[i] = [((Gs[i] : Nat) : Int)] := by simp [zsA]
   rw [e,hco.2];exact ⟨by simpa [vn] using hgs _ (List.getElem_mem hi),by simp⟩) k2.size)
  rw [hpl] at HJO;clear hbu hgs hv k2 HCU hco hg;go_wp2_with fail;refine HJO.out.mono ?_;rintro e w3 ⟨zs,za,zc,rfl,mz,cz,vz,k3⟩;have K3 : Hid (Below w0.heap.size w0 w3) := K2.out.trans (k3.mono K1.out.size);have MZ := hid mz;clear HJO mz k3;go_wp2;go_ret2;exact .inl ⟨HG.out,zs,za,zc,rfl,MZ.out.mono K1.out.size,cz,vz,K3.out⟩
 ·have HG := hid hg
  have K2 := hid (below_step K1.out k2);clear k2 HCU hg;go_wp2;go_ret2;exact .inr ⟨HG.out,rfl,K2.out⟩
theorem dec_any {w : World} {va : Value} {xs : List Int} (ha : Sl w.heap.size w va xs) (lx : xs.length ≤ 1048576) (hT : Sg w) :
  Calls Tryz.prog 60 #[va] w fun e w' => e = .returned (.string (txt 10 (vn xs))) ∧ Below w.heap.size w w' := by
 have HT := hid (text_any (B := 10) ha lx (by omega) (by omega) hT);obtain ⟨a,c,rfl⟩ : ∃ a c,va = .slice a xs.length c := by obtain ⟨_,a,c,e,_⟩ := ha;exact ⟨a,c,e⟩
 clear ha hT;generalize txt 10 (vn xs) = t at *;go_enter Tryz.func60,Tryz.ntmps60;go_wp2_with fail;refine HT.out.mono ?_;rintro e w1 ⟨rfl,k1⟩;have K1 := hid k1;clear k1 HT;go_wp2;go_ret;exact ⟨rfl,K1.out⟩
theorem txtL_le {B n k : Nat} (hB : 2 ≤ B) (h : n < B ^ k) (hk : 1 ≤ k) : (txtL B n).length ≤ k := by
 unfold txtL
 split
 ·simpa using hk
 ·rw [List.length_map,zWD (lt_pow_self hB n) h]
  unfold lead;exact Nat.le_trans (List.dropWhile_suffix _).length_le (Nat.le_of_eq (zAB B k n))
theorem zoG {B : Nat} {xs : List Int} (hB : 2 ≤ B) (hx : WF xs) (lx : xs.length ≤ 1048576) : (txt B (vn xs)).size ≤ 67108865 := by
 have h1 := zOE hx;have h2 : 2 ^ (64 * xs.length) ≤ B ^ (64 * xs.length + 1) := Nat.le_trans (Nat.pow_le_pow_left hB _) (Nat.pow_le_pow_right (by omega) (Nat.le_succ _));have h3 := txtL_le hB (Nat.lt_of_lt_of_le h1 h2) (by omega);have h4 : (txt B (vn xs)).size = (txtL B (vn xs)).length := zqA _;omega

end Go.Proofs.YtkdobgbicnemcaaGreatDoor
namespace Go.Proofs.YtkdobgbicnemcaaGreatDoor
theorem over_step {q rest x B V : Int} (hB : 0 < B) (hr0 : 0 ≤ rest) (hr : rest < B) (hx : IsD x) (hV : V = B * q + rest) :
  IsD ((rest * 65536 + x) / B) ∧ 0 ≤ (rest * 65536 + x) % B ∧ (rest * 65536 + x) % B < B ∧ x + dwB * V = B * ((rest * 65536 + x) / B + dwB * q) + (rest * 65536 + x) % B := by
 unfold IsD dwB at *;have e := Int.mul_ediv_add_emod (rest * 65536 + x) B;have h0 : 0 ≤ rest * 65536 + x := by omega
 have h1 : rest * 65536 + x < 65536 * B := by omega
 refine ⟨⟨Int.ediv_nonneg h0 (Int.le_of_lt hB),Int.ediv_lt_of_lt_mul hB h1⟩,Int.emod_nonneg _ (by omega),Int.emod_lt_of_pos _ hB,?_⟩;subst hV;generalize (rest * 65536 + x) / B = Q at *;generalize (rest * 65536 + x) % B = R at *
 grind
theorem take_set_last {xs qs : List Int} {j : Nat} {z : Int} (hj : j < xs.length) : (xs.take (j + 1) ++ qs).set j z = xs.take j ++ (z :: qs) := by
 rw [List.take_succ_eq_append_getElem hj,List.append_assoc,List.set_append_right _ _ (by simp;omega)];simp [Nat.min_eq_left (Nat.le_of_lt hj)]
theorem dval_drop {xs : List Int} {j : Nat} (hj : j < xs.length) : dval (xs.drop j) = xs[j] + dwB * dval (xs.drop (j + 1)) := by
 rw [List.drop_eq_getElem_cons hj]
 rfl
def lows (B n t : Nat) : List Int := (digF B t n).reverse.map sgn
theorem zFE (B n t : Nat) : (lows B n t).length = t := by simp [lows,zAB]
theorem lows_next (B n t : Nat) : lows B n (t + 1) = lows B n t ++ [sgn (n / B ^ t % B)] := by
 unfold lows;rw [zwE]
 simp
theorem lows_lead {B n t : Nat} (hB : 2 ≤ B) (h : n / B ^ t = 0) (h1 : 0 < t → n / B ^ (t - 1) ≠ 0) : (digF B t n).map sgnB = if n = 0 then [] else txtL B n := by
 have hp : 0 < B ^ t := Nat.pow_pos (by omega);have hn : n < B ^ t := by
  rcases Nat.div_eq_zero_iff.1 h with q | q
  ·omega
  ·exact q
 by_cases h0 : n = 0
 ·subst h0
  have ht : t = 0 := by
   rcases Nat.eq_zero_or_pos t with q | q
   ·exact q
   ·exact absurd (Nat.zero_div _) (h1 q)
  subst ht;simp [digF]
 ·rw [if_neg h0]
  unfold txtL;rw [if_neg h0,← zWD hn (lt_pow_self hB n)];have ht : 0 < t := by
   rcases Nat.eq_zero_or_pos t with q | q
   ·subst q;simp at h;omega
   ·exact q
  obtain ⟨s,rfl⟩ : ∃ s,t = s + 1 := ⟨t - 1,by omega⟩
  have hd : n / B ^ s ≠ 0 := by simpa using h1 (by omega)
  have hl : n / B ^ s < B := by
   apply Nat.div_lt_of_lt_mul
   rw [Nat.pow_succ] at hn;exact hn
  have e : digF B (s + 1) n = n / B ^ s :: digF B s n := by rw [zwE,Nat.mod_eq_of_lt hl]
  rw [e];unfold lead;rw [List.dropWhile_cons,if_neg (by simpa using hd)]
theorem div_next {n0 B t : Nat} {v q rest : Int} (h : v = ((n0 / B ^ t : Nat) : Int)) (hv : v = (B : Int) * q + rest) (h0 : 0 ≤ rest) (h1 : rest < (B : Int)) : q = ((n0 / B ^ (t + 1) : Nat) : Int) ∧ rest = ((n0 / B ^ t % B : Nat) : Int) := by
 have hB : (0 : Int) < (B : Int) := by omega
 have e1 : v / (B : Int) = q := by
  rw [hv,Int.mul_comm,Int.add_comm,Int.add_mul_ediv_right _ _ (by omega),Int.ediv_eq_zero_of_lt h0 h1];omega
 have e2 : v % (B : Int) = rest := by
  rw [hv,Int.mul_comm,Int.add_comm,Int.add_mul_emod_self_right,Int.emod_eq_of_lt h0 h1]
 rw [h] at e1 e2
 constructor
 ·rw [← e1,Nat.pow_succ,← Nat.div_div_eq_div_mul]
  rfl
 ·rw [← e2]
  rfl
theorem steps_le {n0 B t K : Nat} (hB : 2 ≤ B) (h : n0 < 2 ^ K) (h1 : 0 < t → n0 / B ^ (t - 1) ≠ 0) : t ≤ K := by
 rcases Nat.eq_zero_or_pos t with q | q
 ·omega
 ·have h2 : B ^ (t - 1) ≤ n0 := Nat.le_of_not_lt fun hlt => h1 q (Nat.div_eq_of_lt hlt)
  have h3 : 2 ^ (t - 1) ≤ B ^ (t - 1) := Nat.pow_le_pow_left hB _;have h4 : 2 ^ (t - 1) < 2 ^ K := by omega
  have := (Nat.pow_lt_pow_iff_right (by omega : 1 < 2)).1 h4;omega
theorem quot_less {n B : Nat} {t : Nat} (hB : 2 ≤ B) (h : n / B ^ t ≠ 0) : n / B ^ (t + 1) < n / B ^ t := by
 rw [Nat.pow_succ,← Nat.div_div_eq_div_mul];exact Nat.div_lt_self (Nat.pos_of_ne_zero h) hB
def sigT : ByteArray := ⟨#[48,49,50,51,52,53,54,55,56,57,97,98,99,100,101,102,103,104,105,106,107,108,109,110,111,112,113,114,115,116,117,118,119,120,121,122]⟩
theorem zND : sigT.size = 36 := rfl
theorem zaG : ∀ d : Nat,d < 36 → ∀ h : d < sigT.size,((sigT[d]'h).toNat : Int) = sgn d := by
 have key : ∀ d : Fin 36,((sigT[d.1]'(by have := d.2;rw [zND];omega)).toNat : Int) = sgn d.1 := by decide
 intro d hd h;exact key ⟨d,hd⟩
open Go.RowKit
def Byr (B : Nat) (w : World) (v : Value) (L : List Int) : Prop := w.ownsRow B 5 1 v L.length (bs L)
theorem Byr.nil (B : Nat) (w : World) : Byr B w (.slice none 0 0) [] := World.ownsRow_nil _ _ _ _
theorem Byr.keep {B : Nat} {w w' : World} {v : Value} {L : List Int} (h : Byr B w v L) (hb : ∀ g,B ≤ g → g < w.heap.size → w'.heap[g]? = w.heap[g]?) : Byr B w' v L := by
 obtain ⟨q1,q2 | ⟨g,cap,cur,q2,q3,q4,q5⟩⟩ := h
 ·exact ⟨q1,.inl q2⟩
 ·exact ⟨q1,.inr ⟨g,cap,cur,q2,q3,(hb g q3 (Array.getElem?_eq_some_iff.1 q4).1).trans q4,q5⟩⟩
theorem Byr.now {B : Nat} {w w' : World} {v : Value} {L : List Int} (h : Byr B w v L) (hb : Below w.heap.size w w') : Byr B w' v L := h.keep fun g _ hg => hb.block g hg
theorem Byr.form {B : Nat} {w : World} {v : Value} {L : List Int} (h : Byr B w v L) : ∃ a cap,v = .slice a L.length cap := by
 obtain ⟨q1,⟨q2,q3⟩ | ⟨g,cap,cur,q2,_⟩⟩ := h
 ·exact ⟨none,0,by rw [q2,q3]⟩
 ·exact ⟨_,cap,q2⟩
theorem Byr.cells {B : Nat} {w : World} {a : Option Addr} {n cap : Nat} {L : List Int} (h : Byr B w (.slice a n cap) L) (hn : 0 < L.length) : ∃ g,a = some ⟨g,0,none⟩ ∧ n = L.length ∧ B ≤ g ∧ g < w.heap.size ∧ ∀ i,i < L.length → w.cell? ⟨g,i,none⟩ = some (.int .u8 (L.getD i 0)) := by
 have h' := h;obtain ⟨q1,⟨q2,q3⟩ | ⟨g,cap',cur,q2,q3,q4,q5⟩⟩ := h
 ·omega
 ·simp only [Value.slice.injEq] at q2
  obtain ⟨rfl,rfl,rfl⟩ := q2;refine ⟨g,rfl,rfl,q3,(Array.getElem?_eq_some_iff.1 q4).1,fun i hi => ?_⟩;have := World.ownsRow.cells h' (g := g) rfl i (.int .u8 L[i]) (by simp [bs,hi]);rw [zNC] at this;rw [this];simp [hi]
theorem wpList_append_byr (w : World) {ops : Array Oper} {rest : List Oper} {o : Oper} {a : Act} {Q : Exit → Act → World → Prop}
  (hgd : o.guard = none) (s x : Operand) (hop : o.op = .call { callee := .builtin .append,args := #[s,x],argTypes := #[110,110] })
  (B : Nat) (v : Value) (L : List Int) (c : Int) (hs : a.eval s = v) (hB : Byr B w v L) (g : Nat) (hx : a.eval x = .slice (some ⟨g,0,none⟩) 1 1) (hc : w.cell? ⟨g,0,none⟩ = some (.int .u8 c)) (hlen : L.length ≤ 1000000000) (hBs : B ≤ w.heap.size)
  (hK : ∀ m a' cap' w',Hid (m = L.length + 1) → Hid (Byr B w' (.slice a' m cap') (L ++ [c])) → Hid (Below B w w') → wpList Tryz.prog ops Q rest (a.put o.dst (.slice a' m cap')) w') :
  wpList Tryz.prog ops Q (o :: rest) a w := by
 obtain ⟨i,hi,hz,hsz,hby⟩ := info_parts Tryz.infoB;refine wpList_append_lies w hgd s x 110 hop B 5 i (.int .u8 0) 1 1 Tryz.underlying110 hi hz hsz hby rfl (by omega) v L.length (bs L) hs hB ⟨g,0,none⟩ 1 1 [.int .u8 c] hx rfl ?_ ?_ (by omega) (by unfold maxLen;omega) (by omega) hBs w.heap.size rfl ?_
 ·intro j u' hj
  match j,hj with
  | 0,hj => simp at hj;subst hj;rw [zNC];exact hc
 ·intro u' hu'
  simp at hu';subst hu'
  rfl
 ·intro g' cap' w' k1 k2 k3 k4
  refine hK _ _ _ w' rfl ?_ ?_
  ·unfold Hid Byr
   have e : bs (L ++ [c]) = bs L ++ [.int .u8 c] := by simp [bs]
   rw [e,List.length_append,List.length_singleton];exact k1
  ·refine ⟨k2.os,k2.tape,k2.output,k2.size,fun k hk => k2.block k (by omega) (fun e => ?_)⟩
   obtain ⟨_,⟨q,_⟩ | ⟨g1,cap1,cur,q,q3,_⟩⟩ := hB
   ·rw [q] at e;cases e
   ·rw [q] at e
    obtain rfl : k = g1 := by simpa [Value.ownBlock] using e
    omega
end Go.Proofs.YtkdobgbicnemcaaGreatDoor
