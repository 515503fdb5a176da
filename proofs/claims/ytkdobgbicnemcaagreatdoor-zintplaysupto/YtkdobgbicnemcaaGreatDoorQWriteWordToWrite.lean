/-
 QWriteWordToWrite: WriteWord, Write, joined.
-/
import Derived.Test.YtkdobgbicnemcaaGreatDoorQByteRowToLen2
import Derived.Test.YtkdobgbicnemcaaGreatDoorQDivMod

set_option maxRecDepth 100000
set_option maxHeartbeats 6400000
set_option linter.unusedVariables false
set_option linter.unusedSimpArgs false
namespace Go.Proofs.YtkdobgbicnemcaaGreatDoor
open Go.RowKit
def fstN (xs : List Int) : Nat := (xs.headD 0).toNat
theorem fstN_val {xs : List Int} (hw : WF xs) (h : vn xs < 18446744073709551616) : fstN xs = vn xs := by
 cases xs with
 | nil => rfl
 | cons x r =>
  have h1 := zJA hw;have h2 := hw.head;have h3 := zEA hw.tail;unfold IsW at h2;rw [val] at h1;unfold fstN;simp only [List.headD_cons];unfold wB at h1 h2;have : val r = 0 := by omega
  rw [this] at h1;omega
theorem fstN_lt {xs : List Int} (hw : WF xs) : fstN xs < 18446744073709551616 := by
 unfold fstN;cases xs with
 | nil => simp
 | cons x r => have := hw.head;unfold IsW wB at this;simp only [List.headD_cons];omega
def zYG (w wr : World) (g : Nat) (L : List Int) (off m B n k : Nat) : Prop := RowB wr g (part L off m B n k) ∧ znA (· = g) w wr
theorem writeWord_any {w : World} {g off m B cap : Nat} {L : List Int} (hr : RowB w g L) (hm : off + m ≤ L.length) (hT : Sg w) (hg : g ≠ 0) (hB : 2 ≤ B) (hB2 : B ≤ 36) (hml : m ≤ 1073741824) (hmc : m ≤ cap) {va : Value} {xs : List Int} (ha : Sl w.heap.size w va xs) :
  Calls Tryz.prog 144 #[.slice (some ⟨g,off,none⟩) m cap,va,.int .i64 (B : Int)] w fun e w' => e = .returned (.tuple #[]) ∧ RowB w' g (zCC L off m B (fstN xs)) ∧ znA (· = g) w w' := by
 have hlt := hid (fstN_lt ha.1);have HTB := hid hT;have H0 : Hid (zYG w w g L off m B (fstN xs) 0) := by unfold Hid zYG;rw [part_zero];exact ⟨hr,znA.refl _ _⟩
 have HM := hid hm;have hG := hid hg;obtain ⟨hw,a,ac,rfl,hlc,hcm,hmem⟩ := ha;cases xs with
 | nil =>
  simp only [List.length_nil] at hlc ⊢;obtain ⟨n,hn⟩ : ∃ n,n = fstN [] := ⟨_,rfl⟩
  rw [← hn] at hlt H0 ⊢;have e0 : ((n / B ^ 0 : Nat) : Int) = 0 := by rw [hn];simp [fstN]
  clear hmem hn;go_enter Tryz.func144,Tryz.ntmps144;go_wp2_with fail
  go_loopw [6,7] (fun x i wr => ∃ k : Nat,k ≤ m ∧ x = .int .u64 ((n / B ^ k : Nat) : Int) ∧ i = .int .i64 (((m - k : Nat) : Int) - 1) ∧ Hid (zYG w wr g L off m B n k)) (fun _ i _ => (intOf i + 1).toNat)
  case atStart => exact ⟨0,Nat.zero_le _,by rw [e0],by simp,H0⟩
  case round =>
   clear H0;obtain ⟨k,hk,rfl,rfl,HK⟩ := hrel
   by_cases hkm : k < m
   ·obtain ⟨j,hj⟩ : ∃ j,m - k = j + 1 := ⟨m - k - 1,by omega⟩
    have ej : ((m - k : Nat) : Int) - 1 = (j : Int) := by omega
    rw [ej];have hjm : off + (m - (k + 1)) = off + j := by omega
    have hd : n / B ^ k % B < 36 := Nat.lt_of_lt_of_le (Nat.mod_lt _ (by omega)) hB2;have c1 := (HTB.out.touch HK.out.2 (fun q => hG.out q.symm)) _ hd;have hl : off + j < (part L off m B n k).length := by rw [zoF HM.out hk];have := HM.out;omega
    have c2 := HK.out.1.cell hl;have f2 := HK.out.1.frozen (off + j);have HS : Hid (zYG w (wr.setCell ⟨g,off + j,none⟩ (.int .u8 (sgn (n / B ^ k % B)))) g L off m B n (k + 1)) := by
     unfold Hid zYG;refine ⟨?_,HK.out.2.setCell (.inr rfl) _ _⟩;rw [← zHG HM.out hkm,hjm];exact HK.out.1.set _ _
    have hq : n / B ^ k < 18446744073709551616 := Nat.lt_of_le_of_lt (Nat.div_le_self _ _) hlt.out;have e2 : n / B ^ (k + 1) = n / B ^ k / B := by rw [Nat.pow_succ,Nat.div_div_eq_div_mul]
    have e3 : ((n / B ^ k : Nat) : Int) % (B : Int) = ((n / B ^ k % B : Nat) : Int) := by omega
    have e4 : ((n / B ^ k : Nat) : Int) / (B : Int) = ((n / B ^ k / B : Nat) : Int) := by omega
    have hd2 : ((n / B ^ k % B : Nat) : Int) < 36 := by omega
    generalize n / B ^ k = q at *;generalize (part L off m B n k)[off + j] = z at *;have e5 : (q : Int).tdiv (B : Int) = ((q / B : Nat) : Int) := (Int.ofNat_tdiv q B).symm;have e6 : (q : Int).tmod (B : Int) = ((q % B : Nat) : Int) := (Int.ofNat_tmod q B).symm;have hq2 : q / B < 18446744073709551616 := Nat.lt_of_le_of_lt (Nat.div_le_self _ _) hq;generalize q % B = dd at *;generalize q / B = q2 at *;clear HK;go_wp2;go_roundw
    case rel => exact ⟨k + 1,by omega,by rw [e2],by rw [show m - (k + 1) = j by omega],HS⟩
    case measure => first | (simp [intOf];done) | (simp [intOf];omega)
   ·have ek : k = m := by omega
    have e9 : ((m - k : Nat) : Int) - 1 = -1 := by omega
    rw [e9];have HR : Hid (RowB wr g (zCC L off m B n)) := by unfold Hid;rw [← zpF,← ek];have := HK.out.1;rw [ek] at this ⊢;exact this
    have HT2 := hid HK.out.2;clear HK;go_wp2;go_end0;exact ⟨rfl,HR.out,HT2.out⟩
 | cons x r =>
  rcases hmem with e | ⟨b,o,rfl,hb,hc⟩
  ·cases e
  have c0 : w.cell? ⟨b,o,none⟩ = some (.int .u64 x) := hc 0 (by simp);simp only [List.length_cons] at hlc ⊢;have hx := hw.head;obtain ⟨n,hn⟩ : ∃ n,n = fstN (x :: r) := ⟨_,rfl⟩
  rw [← hn] at hlt H0 ⊢;have e0 : ((n / B ^ 0 : Nat) : Int) = x := by
   rw [hn];unfold IsW at hx;unfold fstN;simp only [List.headD_cons,Nat.pow_zero,Nat.div_one];omega
  generalize r.length = rl at *;clear hc hn hcm hw;go_enter Tryz.func144,Tryz.ntmps144;go_wp2_with fail;clear c0
  go_loopw [6,7] (fun x i wr => ∃ k : Nat,k ≤ m ∧ x = .int .u64 ((n / B ^ k : Nat) : Int) ∧ i = .int .i64 (((m - k : Nat) : Int) - 1) ∧ Hid (zYG w wr g L off m B n k)) (fun _ i _ => (intOf i + 1).toNat)
  case atStart => exact ⟨0,Nat.zero_le _,by rw [e0],by simp,H0⟩
  case round =>
   clear H0;obtain ⟨k,hk,rfl,rfl,HK⟩ := hrel
   by_cases hkm : k < m
   ·obtain ⟨j,hj⟩ : ∃ j,m - k = j + 1 := ⟨m - k - 1,by omega⟩
    have ej : ((m - k : Nat) : Int) - 1 = (j : Int) := by omega
    rw [ej];have hjm : off + (m - (k + 1)) = off + j := by omega
    have hd : n / B ^ k % B < 36 := Nat.lt_of_lt_of_le (Nat.mod_lt _ (by omega)) hB2;have c1 := (HTB.out.touch HK.out.2 (fun q => hG.out q.symm)) _ hd;have hl : off + j < (part L off m B n k).length := by rw [zoF HM.out hk];have := HM.out;omega
    have c2 := HK.out.1.cell hl;have f2 := HK.out.1.frozen (off + j);have HS : Hid (zYG w (wr.setCell ⟨g,off + j,none⟩ (.int .u8 (sgn (n / B ^ k % B)))) g L off m B n (k + 1)) := by
     unfold Hid zYG;refine ⟨?_,HK.out.2.setCell (.inr rfl) _ _⟩;rw [← zHG HM.out hkm,hjm];exact HK.out.1.set _ _
    have hq : n / B ^ k < 18446744073709551616 := Nat.lt_of_le_of_lt (Nat.div_le_self _ _) hlt.out;have e2 : n / B ^ (k + 1) = n / B ^ k / B := by rw [Nat.pow_succ,Nat.div_div_eq_div_mul]
    have e3 : ((n / B ^ k : Nat) : Int) % (B : Int) = ((n / B ^ k % B : Nat) : Int) := by omega
    have e4 : ((n / B ^ k : Nat) : Int) / (B : Int) = ((n / B ^ k / B : Nat) : Int) := by omega
    have hd2 : ((n / B ^ k % B : Nat) : Int) < 36 := by omega
    generalize n / B ^ k = q at *;generalize (part L off m B n k)[off + j] = z at *;have e5 : (q : Int).tdiv (B : Int) = ((q / B : Nat) : Int) := (Int.ofNat_tdiv q B).symm;have e6 : (q : Int).tmod (B : Int) = ((q % B : Nat) : Int) := (Int.ofNat_tmod q B).symm;have hq2 : q / B < 18446744073709551616 := Nat.lt_of_le_of_lt (Nat.div_le_self _ _) hq;generalize q % B = dd at *;generalize q / B = q2 at *;clear HK;go_wp2;go_roundw
    case rel => exact ⟨k + 1,by omega,by rw [e2],by rw [show m - (k + 1) = j by omega],HS⟩
    case measure => first | (simp [intOf];done) | (simp [intOf];omega)
   ·have ek : k = m := by omega
    have e9 : ((m - k : Nat) : Int) - 1 = -1 := by omega
    rw [e9];have HR : Hid (RowB wr g (zCC L off m B n)) := by unfold Hid;rw [← zpF,← ek];have := HK.out.1;rw [ek] at this ⊢;exact this
    have HT2 := hid HK.out.2;clear HK;go_wp2;go_end0;exact ⟨rfl,HR.out,HT2.out⟩
theorem Sl.touchB {w w' : World} {g : Nat} {L : List Int} {v : Value} {xs : List Int} (h : Sl w.heap.size w v xs) (hr : RowB w g L) (ht : znA (· = g) w w') : Sl w'.heap.size w' v xs := by
 obtain ⟨hw,a,cap,rfl,hlc,hcm,hm⟩ := h;refine ⟨hw,a,cap,rfl,hlc,hcm,?_⟩;rcases hm with e | ⟨b,off,rfl,hb,hc⟩
 ·exact .inl e
 ·refine .inr ⟨b,off,rfl,Nat.lt_of_lt_of_le hb ht.size,fun j hj => ?_⟩
  have hne : b ≠ g := by
   intro e;subst e;have h1 := hc j hj;unfold RowB at hr;simp [World.cell?,hr] at h1
  exact (ht.cell hb hne _).trans (hc j hj)
def Lw (w : World) (a : Option Addr) (Xs : List (List Int)) : Prop :=
 Xs = [] ∨ ∃ b off,a = some ⟨b,off,none⟩ ∧ b < w.heap.size ∧ ∀ j (h : j < Xs.length),∃ u,w.cell? ⟨b,off + j,none⟩ = some u ∧ Sl w.heap.size w u Xs[j]
theorem Lw.now {w w' : World} {a : Option Addr} {Xs : List (List Int)} (h : Lw w a Xs) (hb : Below w.heap.size w w') : Lw w' a Xs := by
 rcases h with e | ⟨b,off,rfl,h1,h2⟩
 ·exact .inl e
 ·refine .inr ⟨b,off,rfl,Nat.lt_of_lt_of_le h1 hb.size,fun j hj => ?_⟩
  obtain ⟨u,h3,h4⟩ := h2 j hj;exact ⟨u,(hb.cell (p := ⟨b,off + j,none⟩) h1).trans h3,h4.now hb⟩
theorem Lw.touchB {w w' : World} {g : Nat} {L : List Int} {a : Option Addr} {Xs : List (List Int)} (h : Lw w a Xs) (hr : RowB w g L) (ht : znA (· = g) w w') : Lw w' a Xs := by
 rcases h with e | ⟨b,off,rfl,h1,h2⟩
 ·exact .inl e
 ·refine .inr ⟨b,off,rfl,Nat.lt_of_lt_of_le h1 ht.size,fun j hj => ?_⟩
  obtain ⟨u,h3,h4⟩ := h2 j hj;have hne : b ≠ g := by
   intro e;subst e;obtain ⟨_,_,_,rfl,_⟩ := h4;unfold RowB at hr;simp [World.cell?,hr] at h3
  exact ⟨u,(ht.cell h1 hne _).trans h3,h4.touchB hr ht⟩
theorem Lw.take {w : World} {a : Option Addr} {Xs : List (List Int)} (h : Lw w a Xs) (k : Nat) : Lw w a (Xs.take k) := by
 rcases h with e | ⟨b,off,rfl,h1,h2⟩
 ·subst e;exact .inl (by simp)
 ·exact .inr ⟨b,off,rfl,h1,fun j hj => by
   have hj' : j < Xs.length := by have := hj;simp at this;omega
   obtain ⟨u,h3,h4⟩ := h2 j hj';exact ⟨u,h3,by rw [List.getElem_take];exact h4⟩⟩
def zyF (B : Nat) (M : Nat → Nat) (k : Nat) : Prop := ∀ (w : World) (g off cap pc : Nat) (L : List Int) (va : Value) (xs : List Int) (pa : Option Addr) (Ps : List (List Int)),RowB w g L → off + M k ≤ L.length → Sg w → g ≠ 0 → M k ≤ 1073741824 → M k ≤ cap → Sl w.heap.size w va xs → xs.length ≤ 1099511627776 → vn xs < B ^ M k →
 Ps.length = k → k ≤ 1000 → k ≤ pc → Lw w pa Ps → (∀ i (h : i < Ps.length),vn Ps[i] = B ^ M i ∧ Ps[i].length ≤ 1099511627776) →
 Calls Tryz.prog 125 #[.slice (some ⟨g,off,none⟩) (M k) cap,va,.int .i64 (B : Int),.slice pa k pc] w fun e w' => e = .returned (.tuple #[]) ∧ RowB w' g (zCC L off (M k) B (vn xs)) ∧ znA (· = g) w w'
theorem write_zero {B : Nat} {M : Nat → Nat} (hB : 2 ≤ B) (hB2 : B ≤ 36) (hM : B ^ M 0 ≤ 18446744073709551616) : zyF B M 0 := by
 intro w g off cap pc L va xs pa Ps hr hm hT hg hml hmc ha hlx hv hl hk3 hk hL hP;have HW := hid (writeWord_any hr hm hT hg hB hB2 hml hmc ha);rw [fstN_val ha.1 (by omega)] at HW;obtain ⟨a,ac,rfl⟩ : ∃ a c,va = .slice a xs.length c := by obtain ⟨_,a,c,e,_⟩ := ha;exact ⟨a,c,e⟩
 clear hr hT ha hv hL hP;generalize M 0 = m at *;go_enter Tryz.func125,Tryz.ntmps125;go_wp2_with fail;refine HW.out.mono ?_;rintro e w' ⟨rfl,h1,h2⟩;have H1 := hid h1;have H2 := hid h2;clear h1 h2 HW;go_wp2
 (try simp only [Exit.inBlock,Exit.then])
 refine bodyPost_ret (results_none rfl _ _ _) rfl ?_;exact ⟨rfl,H1.out,H2.out⟩
theorem write_succ {B : Nat} {M : Nat → Nat} {k : Nat} (hB : 2 ≤ B) (hMp : 0 < M k) (hM : M (k + 1) = M k + M k) (ih : zyF B M k) : zyF B M (k + 1) := by
 intro w g off cap pc L va xs pa Ps hr hm hT hg hml hmc ha hlx hv hl hk3 hk hL hP;rw [hM] at hm hml hmc hv ⊢;have hkl : k < Ps.length := by omega
 obtain ⟨hpv,hpl⟩ := hP k hkl;rcases hL with e | ⟨pb,po,rfl,hpb,hpc⟩
 ·rw [e] at hl;simp at hl
 have HL : Hid (Lw w (some ⟨pb,po,none⟩) Ps) := .inr ⟨pb,po,rfl,hpb,hpc⟩;obtain ⟨u,cu,su⟩ := hpc k hkl;have hpos : 0 < B ^ M k := Nat.pow_pos (by omega);have hwid : wid Ps[k] ≠ 0 := by
  intro e;have h1 := zJA su.1;rw [zvA _ e,hpv] at h1;omega
 have HD := hid (zoD ha su hwid hlx hpl);have HR := hid hr;have HT := hid hT;have HP := hid hP;have HX := hid ha.1;obtain ⟨a,ac,rfl⟩ : ∃ a c,va = .slice a xs.length c := by obtain ⟨_,a,c,e,_⟩ := ha;exact ⟨a,c,e⟩
 obtain ⟨ua,uc,rfl⟩ : ∃ a c,u = .slice a Ps[k].length c := by obtain ⟨_,a,c,e,_⟩ := su;exact ⟨a,c,e⟩
 have HV : Hid (val xs = (vn xs : Int) ∧ val Ps[k] = ((B ^ M k : Nat) : Int)) := ⟨zJA HX.out,by rw [zJA su.1,hpv]⟩
 have HLT := hid hv;have HPS := hid hpos;have HIH := hid ih;have HLN := hid hl;clear hr hT ha su hv hP hpc hpv hpl hwid ih;have HTK : Hid ((Ps.take k).length = k) := by unfold Hid;rw [List.length_take,HLN.out];omega
 have HPT : Hid (∀ i (h : i < (Ps.take k).length),vn (Ps.take k)[i] = B ^ M i ∧ (Ps.take k)[i].length ≤ 1099511627776) := fun i h => by
  have hi : i < Ps.length := by have := HTK.out;have := HLN.out;omega
  rw [List.getElem_take];exact HP.out i hi
 have HLK := hid (HL.out.take k);have hlk : k < pc := by omega
 generalize hlp : Ps[k].length = lp at *;have HM0 : Hid (M k = M k) := rfl;generalize hMk : M k = h at *;have HC : Hid (∀ (w1 : World) (L1 : List Int) (off1 cap1 : Nat) (v : Value) (zs : List Int),RowB w1 g L1 → off1 + h ≤ L1.length → Sg w1 → h ≤ cap1 → Sl w1.heap.size w1 v zs → zs.length ≤ 1099511627776 → vn zs < B ^ h → Lw w1 (some ⟨pb,po,none⟩) (Ps.take k) →
   Calls Tryz.prog 125 #[.slice (some ⟨g,off1,none⟩) h cap1,v,.int .i64 (B : Int),.slice (some ⟨pb,po,none⟩) k pc] w1 fun e w' => e = .returned (.tuple #[]) ∧ RowB w' g (zCC L1 off1 h B (vn zs)) ∧ znA (· = g) w1 w') := fun w1 L1 off1 cap1 v zs h1 h2 h3 h4 h5 h6 h7 h8 => by
  have := HIH.out w1 g off1 cap1 pc L1 v zs (some ⟨pb,po,none⟩) (Ps.take k) h1 (by rw [hMk];exact h2) h3 hg (by rw [hMk];omega) (by rw [hMk];exact h4) h5 h6 (by rw [hMk];exact h7) HTK.out (by omega) (by omega) h8 HPT.out;rw [hMk] at this;exact this
 clear HIH HM0 hMk hM HL HP HPT;obtain ⟨m,hm2⟩ : ∃ m,m = h + h := ⟨_,rfl⟩
 obtain ⟨n1,hn1⟩ : ∃ n1,n1 = k + 1 := ⟨_,rfl⟩
 have HM2 := hid hm2;rw [← hm2] at hm hml hmc ⊢;rw [← hn1];have e1 : (m : Int) / 2 = (h : Int) := by omega
 have e2 : (m : Int).tdiv 2 = (h : Int) := by rw [Int.tdiv_eq_ediv_of_nonneg (by omega)];exact e1
 have e3 : (n1 : Int) - 1 = (k : Int) := by omega
 have z1 : ((n1 : Int) == 0) = false := by rw [beq_eq_false_iff_ne];omega
 have hhm : h ≤ m := by omega
 have hkn : k < n1 := by omega
 have hk9 : k < 1000 := by omega
 clear hm2 hn1;go_enter Tryz.func125,Tryz.ntmps125;go_wp2_with fail;refine HD.out.mono ?_;rintro e w1 ⟨qs,rs,q,r,rfl,oq,or_,cq,cr,hdv,hlt,lq,lr,two,bl⟩;have HR1 := hid (HR.out.now bl);have HT1 := hid (HT.out.now bl);have HL1 := hid (HLK.out.now bl);have HBL := hid bl;have SQ := hid oq.sl;have SR := hid or_.sl;have HVQ : Hid (vn qs = vn xs / B ^ h ∧ vn rs = vn xs % B ^ h) := by
  have a1 := HV.out;have a2 := zJA cq.1;have a3 := zJA cr.1;rw [a1.1,a1.2,a2,a3] at hdv;rw [a1.2,a3] at hlt;have hdv2 : vn xs = B ^ h * vn qs + vn rs := by
   have : ((vn xs : Nat) : Int) = ((B ^ h * vn qs + vn rs : Nat) : Int) := by rw [hdv];simp
   exact Int.ofNat.inj this
  have hlt2 : vn rs < B ^ h := by omega
  unfold Hid;rw [hdv2];exact ⟨by rw [Nat.mul_add_div HPS.out,Nat.div_eq_of_lt hlt2];rfl,by rw [Nat.mul_add_mod,Nat.mod_eq_of_lt hlt2]⟩
 have HQL : Hid (qs.length ≤ 1099511627776 ∧ rs.length ≤ 1099511627776) := ⟨by omega,by omega⟩
 have HQ1 : Hid (vn qs < B ^ h ∧ vn rs < B ^ h) := by
  unfold Hid;rw [HVQ.out.1,HVQ.out.2];refine ⟨Nat.div_lt_of_lt_mul ?_,Nat.mod_lt _ HPS.out⟩;rw [← Nat.pow_add];exact HLT.out
 obtain ⟨qa,qc,rfl⟩ := oq.form;obtain ⟨sa,sc,rfl⟩ := or_.form;clear bl oq or_ cq cr hdv hlt lq lr two HD HR HT HLK cu;go_wp2_with fail;have HC1 : Hid (∀ w',Below w1.heap.size w1 w' → Calls Tryz.prog 125 #[.slice (some ⟨g,off,none⟩) h cap,.slice qa qs.length qc,.int .i64 (B : Int),.slice (some ⟨pb,po,none⟩) k pc] w' fun e w'' => e = .returned (.tuple #[]) ∧ RowB w'' g (zCC L off h B (vn qs)) ∧ znA (· = g) w1 w'') := fun w' hb =>
  (HC.out w' L off cap (.slice qa qs.length qc) qs (HR1.out.now hb) (by omega) (HT1.out.now hb) (by omega) (SQ.out.now hb) HQL.out.1 HQ1.out.1 (HL1.out.now hb)).mono fun e w'' ⟨h1,h2,h3⟩ => ⟨h1,h2,(znA.ofBelow hb).trans h3⟩
 have hhc : h ≤ cap := by omega
 have hkp : (k : Int) ≤ (pc : Int) := by omega
 have hkp2 : k ≤ pc := by omega
 go_region_held3 (fun _ => True) (trivial)
  (first
   | (go_at_call 125;refine (HC1.out _ ?_).mono ?_;(repeat (first | exact Below.refl _ _ | apply Below.drew));rintro e w2 ⟨rfl,r2,t2⟩;have R2 := hid r2;have T2 := hid t2;clear r2 t2))
 have emh : m - h = h := by have := HM2.out;omega
 have HLW : Hid ((zCC L off h B (vn qs)).length = L.length) := wrote_len (by omega);have HT2 := hid (HT1.out.touch T2.out (fun q => hg q.symm));have HL2 := hid (HL1.out.touchB HR1.out T2.out);have SR2 := hid (SR.out.touchB HR1.out T2.out);have HFIN : Hid (zCC (zCC L off h B (vn qs)) (off + h) h B (vn rs) = zCC L off m B (vn xs)) := by
  unfold Hid;rw [HVQ.out.1,HVQ.out.2,HM2.out];exact wrote_two (by have := HM2.out;omega)
 have HC2 : Hid (∀ w',Below w2.heap.size w2 w' → Calls Tryz.prog 125 #[.slice (some ⟨g,off + h,none⟩) h (cap - h),.slice sa rs.length sc,.int .i64 (B : Int),.slice (some ⟨pb,po,none⟩) k pc] w' fun e w'' => e = .returned (.tuple #[]) ∧ RowB w'' g (zCC L off m B (vn xs)) ∧ znA (· = g) w1 w'') := fun w' hb =>
  (HC.out w' (zCC L off h B (vn qs)) (off + h) (cap - h) (.slice sa rs.length sc) rs (R2.out.now hb) (by rw [HLW.out];have := HM2.out;omega) (HT2.out.now hb) (by have := HM2.out;omega) (SR2.out.now hb) HQL.out.2 HQ1.out.2 (HL2.out.now hb)).mono fun e w'' ⟨h1,h2,h3⟩ => ⟨h1,by rw [← HFIN.out];exact h2,T2.out.trans ((znA.ofBelow hb).trans h3)⟩
 have hhm2 : (h : Int) ≤ (m : Int) := by omega
 have hcn : cap ≠ h := by have := HM2.out;omega
 have hmc2 : (m : Int) ≤ (cap : Int) := by omega
 clear HC HC1 HR1 HT1 HL1 SQ SR HFIN HLW HT2 HL2 SR2 R2;go_wp2_with fail;go_region_held3 (fun _ => True) (trivial)
  (first
   | (go_at_call 125;(try rw [emh]);refine (HC2.out _ ?_).mono ?_;(repeat (first | exact Below.refl _ _ | apply Below.drew));rintro e w3 ⟨rfl,r3,t3⟩;have R3 := hid r3;have T3 := hid t3;clear r3 t3))
 all_goals (try go_wp2)
 all_goals go_end0
 all_goals exact ⟨rfl,R3.out,(znA.ofBelow HBL.out).trans T3.out⟩
theorem zeF {M : Nat → Nat} (h0 : 0 < M 0) (hM : ∀ k,M (k + 1) = M k + M k) : ∀ k,0 < M k
 | 0 => h0
 | k + 1 => by rw [hM];have := zeF h0 hM k;omega
theorem zAG {B : Nat} {M : Nat → Nat} (hB : 2 ≤ B) (hB2 : B ≤ 36) (hM0 : B ^ M 0 ≤ 18446744073709551616) (hp : 0 < M 0) (hM : ∀ k,M (k + 1) = M k + M k) : ∀ k,zyF B M k
 | 0 => write_zero hB hB2 hM0
 | k + 1 => write_succ hB (zeF hp hM k) (hM k) (zAG hB hB2 hM0 hp hM k)
end Go.Proofs.YtkdobgbicnemcaaGreatDoor
