/-
 QBunchToTrimL: Bunch, Wordful, Squares, TrimL, joined.
-/
import Derived.Test.YtkdobgbicnemcaaGreatDoorQWriteWordToWrite
import Derived.Test.YtkdobgbicnemcaaGreatDoorQRLowToPowers
import Derived.Deep.AppendLies
import Derived.Lib.TrimByte
import Derived.Laws.Strings3

set_option maxRecDepth 100000
set_option maxHeartbeats 6400000
set_option linter.unusedVariables false
set_option linter.unusedSimpArgs false
namespace Go.Proofs.YtkdobgbicnemcaaGreatDoor
open Go.RowKit
theorem Tryz.infoLs : (Tryz.prog.info? 24).map (fun i => (i.zero,i.size,i.bytes)) = some (some (.slice none 0 0),1,24) := by kernel_rfl
theorem zNC (g j : Nat) : (⟨g,0,none⟩ : Addr).add j = ⟨g,j,none⟩ := by unfold Addr.add;split <;> simp_all
theorem mineS_grown {B base n : Nat} {w w' : World} {u v : Value} {zs : List Int} {Us : List Value} (h : Mine B w u zs) (ho : w.ownsRow base 24 1 v n Us) (hg : w.grownBy w' v.ownBlock) : Mine B w' u zs := by
 obtain ⟨hw,h | ⟨g,r,cap,h1,h2,h3,h4,h5,h6⟩⟩ := h
 ·exact ⟨hw,.inl h⟩
 ·refine ⟨hw,.inr ⟨g,r,cap,h1,h2,h3,h4,h5,(hg.block g h6.lt fun e => ?_).trans h6⟩⟩
  obtain ⟨_,⟨q,_⟩ | ⟨g',cap',cur,q,_,q4,_⟩⟩ := ho
  ·rw [q] at e;cases e
  ·rw [q] at e
   simp only [Value.ownBlock,Option.some.injEq] at e;subst e;have := h6.symm.trans q4;simp at this
def zoA (B : Nat) (w : World) (v : Value) (Ps : List (List Int)) : Prop :=
 ∃ Us : List Value,w.ownsRow B 24 1 v Us.length Us ∧ Us.length = Ps.length ∧ ∀ j (h : j < Us.length) (h' : j < Ps.length),Mine 0 w Us[j] Ps[j]
theorem zoA.nil (B : Nat) (w : World) : zoA B w (.slice none 0 0) [] := ⟨[],World.ownsRow_nil _ _ _ _,rfl,fun j h => by simp at h⟩
theorem zoA.now {B : Nat} {w w' : World} {v : Value} {Ps : List (List Int)} (h : zoA B w v Ps) (hb : Below w.heap.size w w') : zoA B w' v Ps := by
 obtain ⟨Us,h1,h2,h3⟩ := h;refine ⟨Us,?_,h2,fun j a b => (h3 j a b).below hb⟩;obtain ⟨q1,q2 | ⟨g,cap,cur,q2,q3,q4,q5⟩⟩ := h1
 ·exact ⟨q1,.inl q2⟩
 ·exact ⟨q1,.inr ⟨g,cap,cur,q2,q3,(hb.block g (Array.getElem?_eq_some_iff.1 q4).1).trans q4,q5⟩⟩
theorem zoA.form {B : Nat} {w : World} {v : Value} {Ps : List (List Int)} (h : zoA B w v Ps) : ∃ a cap,v = .slice a Ps.length cap ∧ Ps.length ≤ cap := by
 obtain ⟨Us,⟨q1,⟨q2,q3⟩ | ⟨g,cap,cur,q2,q3,q4,q5,q6⟩⟩,h2,h3⟩ := h
 ·exact ⟨none,0,by rw [q2,← h2,q3],by omega⟩
 ·exact ⟨_,cap,by rw [q2,h2],by omega⟩
theorem zoA.lw {B : Nat} {w : World} {a : Option Addr} {n cap : Nat} {Ps : List (List Int)} (h : zoA B w (.slice a n cap) Ps) : Lw w a Ps := by
 obtain ⟨Us,h1,h2,h3⟩ := h;have h1' := h1;obtain ⟨q1,⟨q2,q3⟩ | ⟨g,cap',cur,q2,q3,q4,q5⟩⟩ := h1
 ·exact .inl (List.eq_nil_of_length_eq_zero (by omega))
 ·simp only [Value.slice.injEq] at q2
  obtain ⟨rfl,rfl,rfl⟩ := q2;refine .inr ⟨g,0,rfl,(Array.getElem?_eq_some_iff.1 q4).1,fun j hj => ?_⟩;have hj' : j < Us.length := by omega
  have := World.ownsRow.cells h1' (g := g) rfl j Us[j] (by simp [hj']);rw [zNC] at this;exact ⟨Us[j],by rw [Nat.zero_add];exact this,(h3 j hj' hj).sl⟩
theorem zFB (w : World) {ops : Array Oper} {rest : List Oper} {o : Oper} {a : Act} {Q : Exit → Act → World → Prop}
  (hgd : o.guard = none) (s x : Operand) (hop : o.op = .call { callee := .builtin .append,args := #[s,x],argTypes := #[39,39] })
  (B : Nat) (v u : Value) (Ps : List (List Int)) (zs : List Int) (hs : a.eval s = v) (hB : zoA B w v Ps) (g : Nat) (hx : a.eval x = .slice (some ⟨g,0,none⟩) 1 1) (hc : w.cell? ⟨g,0,none⟩ = some u) (hu : Mine 0 w u zs) (hlen : Ps.length ≤ 1000000000) (hBs : B ≤ w.heap.size)
  (hK : ∀ a' cap' w',Hid (zoA B w' (.slice a' (Ps.length + 1) cap') (Ps ++ [zs])) → Hid (∀ (u : Value) (zs : List Int) {E : Nat},Mine E w u zs → Mine E w' u zs) → Hid (Below B w w') → wpList Tryz.prog ops Q rest (a.put o.dst (.slice a' (Ps.length + 1) cap')) w') :
  wpList Tryz.prog ops Q (o :: rest) a w := by
 obtain ⟨i,hi,hz,hsz,hby⟩ := info_parts Tryz.infoLs;obtain ⟨Us,h1,h2,h3⟩ := hB;have hone : u.oneCell' = true := by obtain ⟨a,c,rfl⟩ := hu.form;rfl
 refine wpList_append_lies w hgd s x 39 hop B 24 i (.slice none 0 0) 1 24 Tryz.underlying39 hi hz hsz hby rfl (by omega) v Us.length Us hs h1 ⟨g,0,none⟩ 1 1 [u] hx rfl ?_ ?_ (by omega) (by unfold maxLen;omega) (by omega) hBs w.heap.size rfl ?_
 ·intro j u' hj
  match j,hj with
  | 0,hj => simp at hj;subst hj;rw [zNC];exact hc
 ·intro u' hu'
  simp at hu';subst hu';exact hone
 ·intro g' cap' w' k1 k2 k3 k4
  have hl : (Us ++ [u]).length = Us.length + 1 := by simp
  have keep : ∀ (u : Value) (zs : List Int) {E : Nat},Mine E w u zs → Mine E w' u zs := fun u zs _ h => mineS_grown h h1 k2
  rw [h2] at k1 ⊢;refine hK _ _ w' ⟨Us ++ [u],by rw [hl,h2];exact k1,by simp [h2],fun j q1 q2 => ?_⟩ keep ?_
  ·rcases Nat.lt_or_ge j Us.length with q | q
   ·rw [List.getElem_append_left q,List.getElem_append_left (by omega)]
    exact keep _ _ (h3 j q (by omega))
   ·obtain rfl : j = Us.length := by simp at q1;omega
    rw [List.getElem_append_right (by omega),List.getElem_append_right (by omega)];simp only [h2,Nat.sub_self,List.getElem_cons_zero];exact keep _ _ hu
  ·refine ⟨k2.os,k2.tape,k2.output,k2.size,fun k hk => k2.block k (by omega) (fun e => ?_)⟩
   obtain ⟨_,⟨q,_⟩ | ⟨g1,cap1,cur,q,q3,_⟩⟩ := h1
   ·rw [q] at e;cases e
   ·rw [q] at e
    obtain rfl : k = g1 := by simpa [Value.ownBlock] using e
    omega
theorem zWF (b : Int) (h0 : -9223372036854775808 ≤ b) (h1 : b ≤ 9223372036854775807) (w : World) : Calls Tryz.prog 122 #[.int .i64 b] w fun e w' => e = .returned (.bool (decide (2 ≤ b ∧ b ≤ 36))) ∧ w' = w := by
 by_cases q1 : (2 : Int) ≤ b
 ·by_cases q2 : b ≤ 36
  ·rw [decide_eq_true ⟨q1,q2⟩]
   go_enter Tryz.func122,Tryz.ntmps122;go_wp2;go_ret;exact ⟨rfl,rfl⟩
  ·rw [decide_eq_false (fun h => q2 h.2)]
   go_enter Tryz.func122,Tryz.ntmps122;go_wp2;go_ret;exact ⟨rfl,rfl⟩
 ·rw [decide_eq_false (fun h => q1 h.1)]
  go_enter Tryz.func122,Tryz.ntmps122;go_wp2;go_ret;exact ⟨rfl,rfl⟩
def WD (B D : Nat) : Prop := 1 ≤ D ∧ D ≤ 64 ∧ B ^ D < 18446744073709551616 ∧ 18446744073709551616 ≤ B ^ D * B
theorem pow_small {B k : Nat} (hB : 2 ≤ B) (h : B ^ k < 18446744073709551616) : k < 64 := by
 rcases Nat.lt_or_ge k 64 with q | q
 ·exact q
 ·have h1 : 2 ^ 64 ≤ 2 ^ k := Nat.pow_le_pow_right (by omega) q
  have h2 : 2 ^ k ≤ B ^ k := Nat.pow_le_pow_left hB k;have h3 : (2 : Nat) ^ 64 = 18446744073709551616 := by decide
  omega
theorem zNE {B : Nat} (hB : 2 ≤ B) (hB2 : B ≤ 36) (w : World) : Calls Tryz.prog 123 #[.int .i64 (B : Int)] w fun e w' => ∃ D,WD B D ∧ e = .returned (.tuple #[.int .i64 (D : Int),.slice (some ⟨w.heap.size,0,none⟩) 1 1]) ∧ Mine 0 w' (.slice (some ⟨w.heap.size,0,none⟩) 1 1) [((B ^ D : Nat) : Int)] ∧ Below w.heap.size w w' := by
 obtain ⟨Q,hQ⟩ : ∃ Q,Q = 18446744073709551615 / B := ⟨_,rfl⟩
 have e1 : (18446744073709551615 : Int).tdiv (B : Int) = (Q : Int) := by rw [hQ];exact (Int.ofNat_tdiv 18446744073709551615 B).symm
 have e2 : (18446744073709551615 : Int) / (B : Int) = (Q : Int) := by rw [hQ];simp
 have hQ2 : Q ≤ 18446744073709551615 := by rw [hQ];exact Nat.div_le_self _ _
 have HQ : Hid (∀ x : Nat,x ≤ Q ↔ x * B ≤ 18446744073709551615) := fun x => by rw [hQ];exact Nat.le_div_iff_mul_le (by omega)
 clear hQ;go_enter Tryz.func123,Tryz.ntmps123;go_wp2
 go_loop [4,5] (fun d p => ∃ k P : Nat,1 ≤ k ∧ k ≤ 64 ∧ d = .int .i64 (k : Int) ∧ p = .int .u64 (P : Int) ∧ P < 18446744073709551616 ∧ Hid (P = B ^ k)) (fun d _ => 64 - (intOf d).toNat)
 case atStart => exact ⟨1,B,by omega,by omega,rfl,rfl,by omega,(by unfold Hid;simp)⟩
 case round =>
  obtain ⟨k,P,hk,hk2,rfl,rfl,hP,HP⟩ := hrel
  by_cases hle : P ≤ Q
  ·have h1 := (HQ.out P).1 hle
   have hP2 : Hid (P * B = B ^ (k + 1)) := by unfold Hid;rw [HP.out,Nat.pow_succ]
   have hk3 : k + 1 < 64 := pow_small hB (by rw [← hP2.out];omega);have e3 : (P : Int) * (B : Int) = ((P * B : Nat) : Int) := by simp
   have h4 : P * B < 18446744073709551616 := by omega
   generalize P * B = P2 at *;have e4 : IntKind.u64.wrap ((P : Int) * (B : Int)) = (P2 : Int) := by rw [e3,IntKind.wrap_u64];omega
   go_wp2;go_round
   case rel => exact ⟨k + 1,P2,by omega,by omega,by go_num,by first | rfl | (rw [e3]) | go_num,h4,hP2⟩
   case measure => first | (simp [intOf];done) | (simp [intOf];omega)
  ·have h1 : ¬ P * B ≤ 18446744073709551615 := fun h => hle ((HQ.out P).2 h)
   have HWD : Hid (WD B k) := ⟨hk,hk2,by rw [← HP.out];exact hP,by rw [← HP.out];omega⟩
   have hle2 : ¬ (P : Int) ≤ (Q : Int) := by omega
   have HM : Hid (Mine 0 (w.alloc (.cells #[.int .u64 (P : Int)] 53)) (.slice (some ⟨w.heap.size,0,none⟩) 1 1) [((B ^ k : Nat) : Int)]) := by
    unfold Hid;rw [← HP.out];refine ⟨zdC (by omega) WF.nil,.inr ⟨w.heap.size,[],1,Nat.zero_le _,by simp,by simp,.inl (by simp),by simp,?_⟩⟩;exact heap_alloc_new w _
   have HB := hid ((Below.refl w.heap.size w).alloc (Nat.le_refl _) (.cells #[.int .u64 (P : Int)] 53));clear HQ h1;go_wp2;go_ret2;exact ⟨k,HWD.out,rfl,HM.out,HB.out⟩
theorem zOE {xs : List Int} (h : WF xs) : vn xs < 2 ^ (64 * xs.length) := by
 have h1 := zUA h;rw [zJA h,zNF] at h1;have h2 : ((2 : Int) ^ (64 * xs.length)) = ((2 ^ (64 * xs.length) : Nat) : Int) := by simp
 rw [h2] at h1;exact Int.ofNat_lt.1 h1
theorem sq_small {P i E : Nat} (hP : 2 ≤ P) (h : P ^ 2 ^ i < 2 ^ E) (hE : E ≤ 67108864) : i < 26 := by
 have h1 : 2 ^ 2 ^ i ≤ P ^ 2 ^ i := Nat.pow_le_pow_left hP _;have h3 := (Nat.pow_lt_pow_iff_right (by omega : 1 < 2)).1 (Nat.lt_of_le_of_lt h1 h);have e : (2 : Nat) ^ 26 = 67108864 := by decide
 exact (Nat.pow_lt_pow_iff_right (by omega : 1 < 2)).1 (show 2 ^ i < 2 ^ 26 by rw [e];omega)
theorem sq_next (P k : Nat) : P ^ 2 ^ k * P ^ 2 ^ k = P ^ 2 ^ (k + 1) := by rw [← Nat.pow_add,Nat.pow_succ,Nat.mul_two]
theorem sq_grows {P k : Nat} (hP : 2 ≤ P) : P ^ 2 ^ k < P ^ 2 ^ (k + 1) := Nat.pow_lt_pow_right (by omega) (Nat.pow_lt_pow_right (by omega) (Nat.lt_succ_self k))
def Squared (w : World) (P : Nat) (xs : List Int) (e : Ending) (w' : World) : Prop :=
 ∃ Ps a cap,e = .returned (.slice a Ps.length cap) ∧ Ps.length ≤ cap ∧ Ps.length ≤ 26 ∧ zoA w.heap.size w' (.slice a Ps.length cap) Ps ∧ (∀ i (h : i < Ps.length),vn Ps[i] = P ^ 2 ^ i ∧ Ps[i].length ≤ 1048576) ∧ (∀ i,i < Ps.length → P ^ 2 ^ i ≤ vn xs) ∧ vn xs < P ^ 2 ^ Ps.length ∧ Below w.heap.size w w'
theorem squares_any {w : World} {vp va : Value} {ps xs : List Int} {P : Nat} (hp : Mine 0 w vp ps) (cp : zHA ps) (hP : vn ps = P) (h2 : 2 ≤ P) (ha : Sl w.heap.size w va xs) (lp : ps.length ≤ 2) (lx : xs.length ≤ 1048576) :
  Calls Tryz.prog 124 #[vp,va] w (Squared w P xs) := by
 have HA := hid ha;have HVX := hid (zJA ha.1);have HXL := hid (zOE ha.1);have HWX := hid ha.1;obtain ⟨aa,ca,hva⟩ : ∃ a c,va = .slice a xs.length c := by obtain ⟨_,a,c,e,_⟩ := ha;exact ⟨a,c,e⟩
 subst hva;have HP := hid hp;have HC : Hid (zHA ps ∧ vn ps = P ^ 2 ^ ([] : List (List Int)).length) := ⟨cp,by simpa using hP⟩
 obtain ⟨pa,pc,hvp⟩ := hp.form;subst hvp;have hlp2 : ps.length ≤ 2097152 := by omega
 clear ha hp cp hP lp;go_enter Tryz.func124,Tryz.ntmps124;go_wp2_with fail
 go_loopg [0,5] (vn xs + 1 - vn ps) (fun g s0 s5 wx => ∃ (qs : List Int) (Ps : List (List Int)),g = vn xs + 1 - vn qs ∧ Hid (Mine 0 wx s0 qs) ∧ Hid (zHA qs ∧ vn qs = P ^ 2 ^ Ps.length) ∧ Hid (zoA w.heap.size wx s5 Ps) ∧ Hid (∀ i (h : i < Ps.length),vn Ps[i] = P ^ 2 ^ i ∧ Ps[i].length ≤ 1048576) ∧ Hid (∀ i,i < Ps.length → P ^ 2 ^ i ≤ vn xs) ∧ qs.length ≤ 2097152 ∧ Hid (Below w.heap.size w wx))
 case atStart => exact ⟨ps,[],rfl,HP,HC,zoA.nil _ _,(fun i h => absurd h (Nat.not_lt_zero _)),(fun i h => absurd h (Nat.not_lt_zero _)),hlp2,Below.refl _ _⟩
 case round =>
  clear HP HC;obtain ⟨qs,Ps,hg,HM,HC,HB,HE,HL,hlq,KK⟩ := hrel;obtain ⟨qa,qc,rfl⟩ := HM.out.form;obtain ⟨ba,bc,hv5,hbc⟩ := HB.out.form;subst hv5;have hPl : Ps.length ≤ 26 := by
   rcases Nat.eq_zero_or_pos Ps.length with e | e
   ·omega
   ·have h1 := HL.out (Ps.length - 1) (by omega)
    have := sq_small (i := Ps.length - 1) h2 (Nat.lt_of_le_of_lt h1 HXL.out) (by omega);omega
  have HCM := hid (zwF HM.out.sl (HA.out.now KK.out));have hvq := zJA HC.out.1.1
  by_cases hle : val qs ≤ val xs
  ·have z : cmpI (val qs) (val xs) ≤ 0 := by unfold cmpI;split <;> (try split) <;> omega
   generalize cmpI (val qs) (val xs) = c at *;go_wp2_with fail;refine HCM.out.mono ?_;rintro e w1 ⟨rfl,k1⟩;have hvx := HVX.out;have HQL : Hid (qs.length ≤ 1048576) := Nat.le_trans (zSA HC.out.1 (Int.lt_of_le_of_lt hle (zUA HWX.out))) lx;have HB1 := hid (HB.out.now k1);have HM1 := hid (HM.out.below k1);have K1 := hid (below_step KK.out k1);clear k1 HCM HB HM KK;have ka := (Below.refl w1.heap.size w1).alloc (Nat.le_refl _) (.cells #[.slice qa qs.length qc] 24);have HB2 := hid (HB1.out.now ka);have HM2 := hid (HM1.out.below ka);have K2 := hid (below_step K1.out ka);have hcc : (w1.alloc (.cells #[.slice qa qs.length qc] 24)).cell? ⟨w1.heap.size,0,none⟩ = some (.slice qa qs.length qc) := by simp
   have HCC := hid hcc;have HSZ : Hid (w.heap.size ≤ (w1.alloc (.cells #[.slice qa qs.length qc] 24)).heap.size) := K2.out.size;have HPL : Hid (Ps.length ≤ 1000000000) := by unfold Hid;omega
   clear ka hcc HB1 HM1;go_wp2_with (at_builtin;refine zFB _ rfl (.tmp 10) (.tmp 12) rfl w.heap.size _ _ Ps qs rfl HB2.out w1.heap.size rfl HCC.out HM2.out HPL.out HSZ.out ?_)
   intro a' cap' w2 hB3 hkeep hbel;have HM3 := hid (hkeep.out _ _ HM2.out);have K3 := hid (K2.out.trans hbel.out);have HSQ := hid (zgD HM3.out.sl (by have := HQL.out;omega));clear HM2 HB2 HCC hkeep hbel HPL HSZ K2;go_wp2_with fail;refine HSQ.out.mono ?_;rintro e w3 ⟨zs,r,rfl,mZ,cZ,hZ,k3⟩;have HZ := hid (mZ.mono (Nat.zero_le _));have HCZ : Hid (zHA zs ∧ vn zs = P ^ 2 ^ (Ps ++ [qs]).length) := by
    refine ⟨cZ,?_⟩;have h1 := zJA cZ.1;rw [hZ,zJA HC.out.1.1,HC.out.2,← Int.natCast_mul] at h1;rw [List.length_append,List.length_singleton,← sq_next];exact (Int.ofNat.inj h1).symm
   have HE3 : Hid (∀ i (h : i < (Ps ++ [qs]).length),vn (Ps ++ [qs])[i] = P ^ 2 ^ i ∧ (Ps ++ [qs])[i].length ≤ 1048576) := fun i h => by
    rcases Nat.lt_or_ge i Ps.length with q | q
    ·rw [List.getElem_append_left q];exact HE.out i q
    ·obtain rfl : i = Ps.length := by simp at h;omega
     rw [List.getElem_append_right (by omega)];simp only [Nat.sub_self,List.getElem_cons_zero];exact ⟨HC.out.2,HQL.out⟩
   have hqx : P ^ 2 ^ Ps.length ≤ vn xs := by rw [← HC.out.2];omega
   have HL3 : Hid (∀ i,i < (Ps ++ [qs]).length → P ^ 2 ^ i ≤ vn xs) := fun i h => by
    rcases Nat.lt_or_ge i Ps.length with q | q
    ·exact HL.out i q
    ·obtain rfl : i = Ps.length := by simp at h;omega
     exact hqx
   have HG : Hid (vn xs + 1 - vn zs < gk) := by
    unfold Hid;rw [hg,HCZ.out.2,HC.out.2,List.length_append,List.length_singleton];have := sq_grows (k := Ps.length) h2;omega
   have hlz : zs.length ≤ 2097152 := by
    have h1 := zIB HC.out.1.1 HC.out.1.1;rw [← hZ] at h1;have h3 := zSA cZ h1;have := HQL.out;omega
   have HB4 : Hid (zoA w.heap.size w3 (.slice a' (Ps.length + 1) cap') (Ps ++ [qs])) := hB3.out.now k3;have K4 := hid (below_step K3.out k3);obtain ⟨za,zc,rfl⟩ := mZ.form;clear mZ cZ hZ k3 hB3 HSQ HM3 HE HL HC K3 HQL;go_wp2;go_roundg (vn xs + 1 - vn zs)
   case rel => exact ⟨zs,Ps ++ [qs],rfl,HZ,HCZ,HB4,HE3,HL3,hlz,K4⟩
   case measure => exact HG.out
  ·have z : ¬ cmpI (val qs) (val xs) ≤ 0 := by unfold cmpI;split <;> (try split) <;> omega
   generalize cmpI (val qs) (val xs) = c at *;go_wp2_with fail;refine HCM.out.mono ?_;rintro e w1 ⟨rfl,k1⟩;have hvx := HVX.out;have HFIN : Hid (vn xs < P ^ 2 ^ Ps.length) := by unfold Hid;rw [← HC.out.2];omega
   have HB1 := hid (HB.out.now k1);have K1 := hid (below_step KK.out k1);clear k1 HCM HB HM KK;go_wp2;go_ret;exact ⟨Ps,ba,bc,rfl,hbc,hPl,HB1.out,HE.out,HL.out,HFIN.out,K1.out⟩
def slen : Value → Nat
 | .string s => s.size
 | _ => 0
theorem zqA (l : List UInt8) : (⟨l.toArray⟩ : ByteArray).size = l.length := by simp [ByteArray.size]
theorem mk_tail (b : UInt8) (t : List UInt8) : (⟨(b :: t).toArray⟩ : ByteArray).extract 1 (t.length + 1) = ⟨t.toArray⟩ := by
 rw [Lib.extract_mk]
 simp
theorem trimByte_any (l : List UInt8) (c : UInt8) (w : World) (hl : l.length ≤ 1073741824) :
  Calls Tryz.prog 145 #[.string ⟨l.toArray⟩,.int .u8 c.toNat] w fun e w' => e = .returned (.string ⟨(l.dropWhile (· == c)).toArray⟩) ∧ w' = w := by
 go_enter Tryz.func145,Tryz.ntmps145;go_wp2
 go_loop [0] (fun v => ∃ m : List UInt8,v = .string ⟨m.toArray⟩ ∧ m.length ≤ 1073741824 ∧ Hid (l.dropWhile (· == c) = m.dropWhile (· == c))) (fun v => slen v)
 case atStart => exact ⟨l,rfl,hl,rfl⟩
 case round =>
  obtain ⟨m,rfl,hm,HM⟩ := hrel;cases m with
  | nil =>
   have hz : ((⟨([] : List UInt8).toArray⟩ : ByteArray)).size = 0 := rfl;have HM2 : Hid ((⟨(l.dropWhile (· == c)).toArray⟩ : ByteArray) = ⟨([] : List UInt8).toArray⟩) := by unfold Hid;rw [HM.out];rfl
   generalize (⟨([] : List UInt8).toArray⟩ : ByteArray) = s at *;clear HM;go_wp2;go_ret;exact ⟨by rw [HM2.out];rfl,rfl⟩
  | cons b t =>
   have hs := zqA (b :: t);have hx := mk_tail b t;have hb0 : ∀ h,(⟨(b :: t).toArray⟩ : ByteArray)[0]'h = b := fun h => rfl
   simp only [List.length_cons] at hs hm
   by_cases q : b = c
   ·have HM2 : Hid (l.dropWhile (· == c) = t.dropWhile (· == c)) := by unfold Hid;rw [HM.out,List.dropWhile_cons,if_pos (by simp [q])]
    generalize hss : (⟨(b :: t).toArray⟩ : ByteArray) = s at *;generalize ht : t.length = n at *;have HT := hid ht;have h0 : 0 < s.size := by omega
    have hb1 := hb0 h0;have q1 : ((s[0]'h0).toNat : Int) = (c.toNat : Int) := by rw [hb1,q]
    clear hb1 hb0 HM hss ht;go_wp2;go_round
    case rel => exact ⟨t,rfl,by rw [HT.out];omega,HM2⟩
    case measure =>
     have := zqA t;have := HT.out;simp only [slen];omega
   ·have HM2 : Hid ((⟨(l.dropWhile (· == c)).toArray⟩ : ByteArray) = ⟨(b :: t).toArray⟩) := by unfold Hid;rw [HM.out,List.dropWhile_cons,if_neg (by simp [q])]
    generalize hss : (⟨(b :: t).toArray⟩ : ByteArray) = s at *;have h0 : 0 < s.size := by omega
    have hb1 := hb0 h0;have q1 : ¬ ((s[0]'h0).toNat : Int) = (c.toNat : Int) := by
     rw [hb1];intro e;exact q (UInt8.toNat_inj.1 (by exact_mod_cast e))
    have q2 : (((s[0]'h0).toNat : Int) == (c.toNat : Int)) = false := by simpa using q1
    clear hb1 hb0 HM hss hx;go_wp2;go_ret;exact ⟨by rw [HM2.out];rfl,rfl⟩
theorem trimLeft_any (l : List UInt8) (w : World) (hl : l.length ≤ 1073741824) (h0 : l ≠ []) :
  Calls Tryz.prog 126 #[.string ⟨l.toArray⟩,.string ⟨#[48]⟩] w fun e w' => e = .returned (.string ⟨(l.dropWhile (· == 48)).toArray⟩) ∧ w' = w := by
 have HT := hid (trimByte_any l 48 w hl);have hs := zqA l;have hE : l.isEmpty = false := by simpa using h0
 have hq : ((⟨#[48]⟩ : ByteArray)[0]'Nat.zero_lt_one).toNat = 48 := rfl;clear h0;go_enter Tryz.func126,Tryz.ntmps126;go_wp2_with fail;refine HT.out.mono ?_;rintro e w' ⟨rfl,rfl⟩;clear HT;go_wp2;go_ret;exact ⟨rfl,rfl⟩
end Go.Proofs.YtkdobgbicnemcaaGreatDoor
