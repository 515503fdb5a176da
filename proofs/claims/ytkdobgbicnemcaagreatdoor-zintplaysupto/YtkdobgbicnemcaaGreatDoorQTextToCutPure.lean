/-
 QTextToCutPure: Text, ValueOf, Reverse, CutPure, joined.
-/
import Derived.Test.YtkdobgbicnemcaaGreatDoorQBunchToTrimL
import Derived.Laws.BytesArg
import Derived.BigRegion

set_option maxRecDepth 100000
set_option maxHeartbeats 6400000
set_option linter.unusedVariables false
set_option linter.unusedSimpArgs false
namespace Go.Proofs.YtkdobgbicnemcaaGreatDoor
open Go.RowKit
def sgnB (d : Nat) : UInt8 := UInt8.ofNat (sgn d).toNat
theorem sgnB_nat {d : Nat} (h : d < 36) : (sgnB d).toNat = (sgn d).toNat := by
 unfold sgnB;have : (sgn d).toNat < 256 := by unfold sgn;split <;> omega
 rw [UInt8.toNat_ofNat',Nat.mod_eq_of_lt this]
theorem sgnB_zero {d : Nat} (h : d < 36) : (sgnB d == 48) = (d == 0) := by
 have h1 := sgnB_nat h
 by_cases e : d = 0
 ·subst e;rfl
 ·have : sgnB d ≠ 48 := by
   intro q;rw [q] at h1;have h2 : (48 : UInt8).toNat = 48 := rfl;rw [h2] at h1;unfold sgn at h1
   split at h1 <;> omega
  rw [beq_eq_false_iff_ne.2 this,beq_eq_false_iff_ne.2 e]
theorem zdF : ∀ (ds : List Nat),(∀ d ∈ ds,d < 36) → (ds.map sgnB).dropWhile (· == 48) = (lead ds).map sgnB
 | [],_ => rfl
 | d :: t,h => by
  have hd := sgnB_zero (h d (List.mem_cons_self ..));unfold lead;rw [List.map_cons,List.dropWhile_cons,List.dropWhile_cons,hd]
  split
  ·exact zdF t (fun x hx => h x (List.mem_cons_of_mem _ hx))
  ·rfl
def txtL (B n : Nat) : List UInt8 := if n = 0 then [48] else (lead (digF B n n)).map sgnB
def txt (B n : Nat) : ByteArray := ⟨(txtL B n).toArray⟩
theorem lt_pow_self {B : Nat} (hB : 2 ≤ B) (n : Nat) : n < B ^ n := Nat.lt_of_lt_of_le (Nat.lt_two_pow_self) (Nat.pow_le_pow_left hB n)
theorem lead_nil {B m n : Nat} (h : lead (digF B m n) = []) (hn : n < B ^ m) : n = 0 := by
 have h1 := zEH B (digF B m n);rw [h,zFH,Nat.mod_eq_of_lt hn] at h1;exact h1.symm
theorem lead_zero (B m : Nat) : lead (digF B m 0) = [] := by
 rw [zvE];have := zlD m [];rw [List.append_nil] at this;rw [this]
 rfl
theorem zeC (ds : List Nat) : strOfNums (ds.map sgn) = ⟨(ds.map sgnB).toArray⟩ := by
 unfold strOfNums;rw [List.map_map]
 rfl
theorem txt_room {B m n : Nat} (hB : 2 ≤ B) (hB2 : B ≤ 36) (hn : n < B ^ m) : ((digF B m n).map sgnB).dropWhile (· == 48) = if n = 0 then [] else txtL B n := by
 rw [zdF _ (fun d hd => Nat.lt_of_lt_of_le (zII (by omega) m n d hd) hB2)]
 by_cases h : n = 0
 ·subst h
  rw [if_pos rfl,lead_zero]
  rfl
 ·rw [if_neg h,txtL,if_neg h,zWD hn (lt_pow_self hB n)]
theorem zkH {B n : Nat} (hB : 2 ≤ B) (h : n ≠ 0) : txtL B n ≠ [] := by
 unfold txtL;rw [if_neg h];intro e;exact h (lead_nil (List.map_eq_nil_iff.1 e) (lt_pow_self hB n))
theorem room_small {B D k : Nat} {xs : List Int} (hB : 2 ≤ B) (hD : D ≤ 64) (hx : WF xs) (lx : xs.length ≤ 1048576) (h : ∀ i,i < k → (B ^ D) ^ 2 ^ i ≤ vn xs) : D * 2 ^ k ≤ 134217728 := by
 cases k with
 | zero => simp;omega
 | succ k =>
  have h1 := h k (Nat.lt_succ_self k);have h2 := Nat.lt_of_le_of_lt h1 (zOE hx);rw [← Nat.pow_mul] at h2;have h3 : 2 ^ (D * 2 ^ k) ≤ B ^ (D * 2 ^ k) := Nat.pow_le_pow_left hB _;have h4 := (Nat.pow_lt_pow_iff_right (by omega : 1 < 2)).1 (Nat.lt_of_le_of_lt h3 h2);rw [Nat.pow_succ,← Nat.mul_assoc];omega
theorem zGD {B : Nat} {w w1 w2 : World} {S : Nat → Prop} (h : Below B w w1) (ht : znA S w1 w2) (hS : ∀ g,S g → B ≤ g) (hB : B ≤ w1.heap.size) : Below B w w2 :=
 ⟨ht.os.trans h.os,ht.tape.trans h.tape,ht.output.trans h.output,Nat.le_trans h.size ht.size,fun k hk => (ht.block k (by omega) (fun q => by have := hS k q;omega)).trans (h.block k hk)⟩
theorem zTG {x : Nat} (h0 : 0 < x) (h1 : x < 18446744073709551616) : zHA [(x : Int)] ∧ vn [(x : Int)] = x := by
 have hw : WF [(x : Int)] := zdC (by omega) WF.nil;refine ⟨⟨hw,?_⟩,?_⟩
 ·simp [wid]
  omega
 ·have := zJA hw
  simp [val] at this;omega
theorem text_any {w : World} {va : Value} {xs : List Int} {B : Nat} (ha : Sl w.heap.size w va xs) (lx : xs.length ≤ 1048576) (hB : 2 ≤ B) (hB2 : B ≤ 36) (hT : Sg w) :
  Calls Tryz.prog 96 #[va,.int .i64 (B : Int)] w fun e w' => e = .returned (.tuple #[.string (txt B (vn xs)),.int .i64 0]) ∧ Below w.heap.size w w' := by
 have HA := hid ha;have HT := hid hT;have HIB := hid (zWF (B : Int) (by omega) (by omega) w);rw [decide_eq_true (show (2 : Int) ≤ (B : Int) ∧ (B : Int) ≤ 36 by omega)] at HIB;have HWF := hid (zNE hB hB2 w);obtain ⟨aa,ca,hva⟩ : ∃ a c,va = .slice a xs.length c := by obtain ⟨_,a,c,e,_⟩ := ha;exact ⟨a,c,e⟩
 subst hva;clear ha hT;go_enter Tryz.func96,Tryz.ntmps96;go_wp2_with fail;refine HIB.out.mono ?_;rintro e w0 ⟨rfl,rfl⟩;clear HIB;go_wp2_with fail;refine HWF.out.mono ?_;rintro e w1 ⟨D,hD,rfl,mP,k1⟩;have HD := hid hD;have K1 := hid k1;obtain ⟨hd1,hd2,hd3,hd4⟩ := hD;have hpp : 2 ≤ B ^ D := Nat.le_trans hB (Nat.le_self_pow (by omega) B);have hco := zTG (by omega) hd3;have HSQ := hid (squares_any (P := B ^ D) (xs := xs) mP hco.1 hco.2 hpp (HA.out.now k1) (by simp) lx);clear HWF mP k1 hco;go_wp2_with fail;refine HSQ.out.mono ?_;rintro e w2 ⟨Ps,pa,pc,rfl,hpc,hpl,hBu,hE,hLo,hHi,k2⟩;have K2 := hid (below_step K1.out k2);have HLW := hid hBu.lw;have HE : Hid (∀ i (h : i < Ps.length),vn Ps[i] = B ^ (D * 2 ^ i) ∧ Ps[i].length ≤ 1099511627776) := fun i h => ⟨by rw [(hE i h).1,← Nat.pow_mul],by have := (hE i h).2;omega⟩
 have HHI : Hid (vn xs < B ^ (D * 2 ^ Ps.length)) := by unfold Hid;rw [Nat.pow_mul];exact hHi
 have hsm := room_small hB hd2 HA.out.1 lx hLo;obtain ⟨m,hm⟩ : ∃ m,m = D * 2 ^ Ps.length := ⟨_,rfl⟩
 have hm1 : 0 < m := by rw [hm];exact Nat.mul_pos (by omega) (Nat.pow_pos (by omega))
 have HM := hid hm;rw [← hm] at HHI hsm;have HWR : Hid (wrap64 ((D : Int) * 2 ^ Ps.length) = (m : Int)) := by
  unfold Hid;have e1 : (D : Int) * 2 ^ Ps.length = ((D * 2 ^ Ps.length : Nat) : Int) := by simp
  rw [e1,← hm];unfold wrap64;omega
 have hm35 : m ≤ 35184372088832 := by omega
 clear HSQ hBu hE hLo hHi k2 K1 hm;go_wp2_with (at_make;refine zFC _ rfl (.tmp 25) (.tmp 25) rfl _ _ m rfl rfl HWR.out HWR.out hm35 ?_)
 intro w3 hR hB3;have K3 := hid (below_step K2.out hB3.out);have HLW3 := hid (HLW.out.now hB3.out);have HGE : Hid (w0.heap.size ≤ w2.heap.size) := K2.out.size;have HSZ : Hid (0 < w2.heap.size) := Nat.lt_of_lt_of_le HT.out.pos K2.out.size;have HWO := hid (zAG (B := B) (M := fun k => D * 2 ^ k) hB hB2 (by simp;omega) (by simp;omega) (fun k => by simp only [Nat.pow_succ,← Nat.mul_assoc];omega) Ps.length w3 w2.heap.size 0 m pc (List.replicate m 0) (.slice aa xs.length ca) xs pa Ps hR.out (by simp [HM.out]) (HT.out.now K3.out) (by have := HSZ.out;omega) (by show D * 2 ^ Ps.length ≤ _;rw [← HM.out];omega) (by show D * 2 ^ Ps.length ≤ _;rw [← HM.out];exact Nat.le_refl _) (HA.out.now K3.out) (by omega) (by show _ < B ^ (D * 2 ^ Ps.length);rw [← HM.out];exact HHI.out) rfl (by omega) hpc HLW3.out HE.out);simp only [] at HWO;rw [← HM.out] at HWO;clear HLW hR hB3 HLW3 HWR HE;generalize w2.heap.size = g at *;go_wp2_with fail;refine HWO.out.mono ?_;rintro e w4 ⟨rfl,r4,t4⟩;have ew : zCC (List.replicate m 0) 0 m B (vn xs) = (digF B m (vn xs)).map sgn := by
  unfold zCC;rw [List.take_zero,List.nil_append,List.drop_of_length_le (by simp),List.append_nil]
 rw [ew] at r4;have hlen : ((digF B m (vn xs)).map sgn).length = m := by simp [zAB]
 have hcv := run_convert_bytes_arg (P := Tryz.prog) w4 110 5 Tryz.underlying110 Tryz.underlying5 g 0 m m ((digF B m (vn xs)).map sgn) hlen (fun i hi => by
  rw [Nat.zero_add,r4.cell (by rw [hlen];exact hi)];have hi' : i < ((digF B m (vn xs)).map sgn).length := by rw [hlen];exact hi
  rw [List.getD_eq_getElem?_getD,List.getElem?_eq_getElem hi']
  rfl) 9 Tryz.underlying9
 rw [zeC] at hcv;have K4 : Hid (Below w0.heap.size w0 w4) := zGD K3.out t4 (fun q e => by have e' : q = g := e;rw [e'];exact HGE.out) K3.out.size;have HTR := hid (trimLeft_any ((digF B m (vn xs)).map sgnB) w4 (by simp [zAB];omega) (by intro q;have := congrArg List.length q;simp [zAB] at this;omega));have HR := hid (txt_room hB hB2 HHI.out);clear HWO r4 t4 ew hlen;generalize ((digF B m (vn xs)).map sgnB).dropWhile (· == 48) = res at *;generalize (digF B m (vn xs)).map sgnB = src at *;go_wp2_with fail;refine HTR.out.mono ?_;rintro e w5 ⟨rfl,rfl⟩;clear HTR hcv
 by_cases hn : vn xs = 0
 ·have hr : res = [] := by have := HR.out;rw [if_pos hn] at this;exact this
  have HX : Hid (txt B (vn xs) = ⟨#[48]⟩) := by unfold Hid txt txtL;rw [if_pos hn]
  subst hr;clear HR hn;go_wp2;go_ret2;exact ⟨by rw [HX.out];rfl,K4.out⟩
 ·have hr : res = txtL B (vn xs) := by have := HR.out;rw [if_neg hn] at this;exact this
  have HX : Hid (txt B (vn xs) = ⟨res.toArray⟩) := by unfold Hid txt;rw [hr]
  have hE : res.isEmpty = false := by rw [hr];simpa using zkH hB hn
  clear HR hn hr;go_wp2;go_ret2;exact ⟨by rw [HX.out];rfl,K4.out⟩
def dv (c : Nat) : Nat := if 48 ≤ c ∧ c ≤ 57 then c - 48 else if 97 ≤ c ∧ c ≤ 122 then c - 87 else if 65 ≤ c ∧ c ≤ 90 then c - 55 else 99
def lw (c : Nat) : Nat := if 65 ≤ c ∧ c ≤ 90 then c + 32 else c
def vo (B c : Nat) : Nat := if dv c < B then dv c else B
theorem zpI {d c : Nat} (hd : d < 36) (h : sgn d = (lw c : Int)) : dv c = d := by
 unfold sgn lw at h;unfold dv
 split at h <;> split at h <;> (repeat' split) <;> omega
theorem zrH {c : Nat} (h : dv c < 36) : sgn (dv c) = (lw c : Int) := by
 unfold dv at h ⊢;unfold sgn lw
 (repeat' split at h) <;> (repeat' split) <;> omega
theorem zYI {B d c : Nat} (hB : B ≤ 36) (hd : d < B) (h : sgn d = (lw c : Int)) : vo B c = d := by
 unfold vo;rw [zpI (by omega) h,if_pos hd]
theorem zeH {B c : Nat} (hB : B ≤ 36) (h : ∀ e,e < B → sgn e ≠ (lw c : Int)) : vo B c = B := by
 unfold vo
 split
 ·rename_i q
  exact absurd (zrH (by omega)) (h _ q)
 ·rfl
theorem zaE {d : Nat} (h : d < 36) : 48 ≤ sgn d ∧ sgn d ≤ 122 := by unfold sgn;split <;> omega
theorem zQE {w : World} (hT : Sg w) {B : Nat} (hB : 2 ≤ B) (hB2 : B ≤ 36) {r : Nat} (hr : r ≤ 2147483647) :
  Calls Tryz.prog 167 #[.int .i32 (r : Int),.int .i64 (B : Int)] w fun e w' => e = .returned (.int .i64 (vo B r : Int)) ∧ w' = w := by
 have HT := hid hT;have hl : lw r ≤ 2147483647 := by unfold lw;split <;> omega
 by_cases hu : 65 ≤ r ∧ r ≤ 90
 ·have u1 : (65 : Int) ≤ (r : Int) := by omega
  have u2 : (r : Int) ≤ 90 := by omega
  have el : (r : Int) + 32 = (lw r : Int) := by unfold lw;rw [if_pos hu];simp
  obtain ⟨V,hV⟩ : ∃ V,vo B r = V := ⟨_,rfl⟩
  have HV : Hid ((∀ d,d < B → sgn d = (lw r : Int) → V = d) ∧ ((∀ e,e < B → sgn e ≠ (lw r : Int)) → V = B)) := ⟨fun d h1 h2 => by rw [← hV];exact zYI hB2 h1 h2,fun h => by rw [← hV];exact zeH hB2 h⟩
  rw [hV];generalize lw r = q at *;clear hT hV hu;go_enter Tryz.func167,Tryz.ntmps167;go_wp2_with fail
  go_loop [15] (fun i => ∃ d : Nat,d ≤ B ∧ i = .int .i64 (d : Int) ∧ Hid (∀ e,e < d → sgn e ≠ (q : Int))) (fun i => B - (intOf i).toNat)
  case atStart => exact ⟨0,Nat.zero_le _,rfl,fun e h => absurd h (Nat.not_lt_zero _)⟩
  case round =>
   obtain ⟨d,hd,rfl,HN⟩ := hrel
   by_cases hlt : d < B
   ·have hd36 : d < 36 := by omega
    have c1 := HT.out d hd36;have hr2 := zaE hd36
    by_cases hq : sgn d = (q : Int)
    ·have hv := HV.out.1 d hlt hq
     subst hv;generalize sgn V = x at *;go_wp2;go_ret;exact ⟨rfl,rfl⟩
    ·have hq2 : (sgn d == (q : Int)) = false := by simpa using hq
     have HN2 : Hid (∀ e,e < d + 1 → sgn e ≠ (q : Int)) := fun e he => by
      rcases Nat.lt_or_ge e d with h | h
      ·exact HN.out e h
      ·obtain rfl : e = d := by omega
       exact hq
     generalize sgn d = x at *;clear HN;go_wp2;go_round
     case rel => exact ⟨d + 1,by omega,by go_num,HN2⟩
     case measure => first | (simp [intOf];done) | (simp [intOf];omega)
   ·obtain rfl : d = B := by omega
    have hv := HV.out.2 HN.out;subst hv;go_wp2;go_ret;exact ⟨rfl,rfl⟩
 ·have el : lw r = r := by unfold lw;rw [if_neg hu]
  obtain ⟨V,hV⟩ : ∃ V,vo B r = V := ⟨_,rfl⟩
  have HV : Hid ((∀ d,d < B → sgn d = (lw r : Int) → V = d) ∧ ((∀ e,e < B → sgn e ≠ (lw r : Int)) → V = B)) := ⟨fun d h1 h2 => by rw [← hV];exact zYI hB2 h1 h2,fun h => by rw [← hV];exact zeH hB2 h⟩
  rw [hV];rw [el] at HV hl;obtain ⟨q,hq0⟩ : ∃ q,q = r := ⟨_,rfl⟩
  rw [← hq0] at HV hl hu hr ⊢;clear hT hV el hq0
  by_cases u1 : (65 : Int) ≤ (q : Int)
  ·have u2 : ¬ (q : Int) ≤ 90 := by omega
   go_enter Tryz.func167,Tryz.ntmps167;go_wp2_with fail
   go_loop [15] (fun i => ∃ d : Nat,d ≤ B ∧ i = .int .i64 (d : Int) ∧ Hid (∀ e,e < d → sgn e ≠ (q : Int))) (fun i => B - (intOf i).toNat)
   case atStart => exact ⟨0,Nat.zero_le _,rfl,fun e h => absurd h (Nat.not_lt_zero _)⟩
   case round =>
    obtain ⟨d,hd,rfl,HN⟩ := hrel
    by_cases hlt : d < B
    ·have hd36 : d < 36 := by omega
     have c1 := HT.out d hd36;have hr2 := zaE hd36
     by_cases hq : sgn d = (q : Int)
     ·have hv := HV.out.1 d hlt hq
      subst hv;generalize sgn V = x at *;go_wp2;go_ret;exact ⟨rfl,rfl⟩
     ·have hq2 : (sgn d == (q : Int)) = false := by simpa using hq
      have HN2 : Hid (∀ e,e < d + 1 → sgn e ≠ (q : Int)) := fun e he => by
       rcases Nat.lt_or_ge e d with h | h
       ·exact HN.out e h
       ·obtain rfl : e = d := by omega
        exact hq
      generalize sgn d = x at *;clear HN;go_wp2;go_round
      case rel => exact ⟨d + 1,by omega,by go_num,HN2⟩
      case measure => first | (simp [intOf];done) | (simp [intOf];omega)
    ·obtain rfl : d = B := by omega
     have hv := HV.out.2 HN.out;subst hv;go_wp2;go_ret;exact ⟨rfl,rfl⟩
  ·skip
   go_enter Tryz.func167,Tryz.ntmps167;go_wp2_with fail
   go_loop [15] (fun i => ∃ d : Nat,d ≤ B ∧ i = .int .i64 (d : Int) ∧ Hid (∀ e,e < d → sgn e ≠ (q : Int))) (fun i => B - (intOf i).toNat)
   case atStart => exact ⟨0,Nat.zero_le _,rfl,fun e h => absurd h (Nat.not_lt_zero _)⟩
   case round =>
    obtain ⟨d,hd,rfl,HN⟩ := hrel
    by_cases hlt : d < B
    ·have hd36 : d < 36 := by omega
     have c1 := HT.out d hd36;have hr2 := zaE hd36
     by_cases hq : sgn d = (q : Int)
     ·have hv := HV.out.1 d hlt hq
      subst hv;generalize sgn V = x at *;go_wp2;go_ret;exact ⟨rfl,rfl⟩
     ·have hq2 : (sgn d == (q : Int)) = false := by simpa using hq
      have HN2 : Hid (∀ e,e < d + 1 → sgn e ≠ (q : Int)) := fun e he => by
       rcases Nat.lt_or_ge e d with h | h
       ·exact HN.out e h
       ·obtain rfl : e = d := by omega
        exact hq
      generalize sgn d = x at *;clear HN;go_wp2;go_round
      case rel => exact ⟨d + 1,by omega,by go_num,HN2⟩
      case measure => first | (simp [intOf];done) | (simp [intOf];omega)
    ·obtain rfl : d = B := by omega
     have hv := HV.out.2 HN.out;subst hv;go_wp2;go_ret;exact ⟨rfl,rfl⟩
def RowV (w : World) (g : Nat) (L : List Value) : Prop := w.heap[g]? = some (.cells L.toArray 24 (0,0))
theorem RowV.lt {w : World} {g : Nat} {L : List Value} (h : RowV w g L) : g < w.heap.size := (Array.getElem?_eq_some_iff.1 h).1
theorem RowV.cell {w : World} {g : Nat} {L : List Value} (h : RowV w g L) {i : Nat} (hi : i < L.length) : w.cell? ⟨g,i,none⟩ = some L[i] := by
 unfold RowV at h;simp [World.cell?,h,hi]
theorem RowV.frozen {w : World} {g : Nat} {L : List Value} (h : RowV w g L) (i : Nat) : w.frozen? ⟨g,i,none⟩ = false := by
 unfold RowV at h;simp [World.frozen?,h]
theorem RowV.set {w : World} {g : Nat} {L : List Value} (h : RowV w g L) (i : Nat) (u : Value) : RowV (w.setCell ⟨g,i,none⟩ u) g (L.set i u) := by
 unfold RowV at h ⊢;simp [World.setCell,Array.getElem?_modify,h]
theorem RowV.now {w w' : World} {g : Nat} {L : List Value} (h : RowV w g L) (hb : Below w.heap.size w w') : RowV w' g L := (hb.block g h.lt).trans h
def zfC (Us : List Value) (k : Nat) : List Value := (List.range Us.length).map fun j => if j < k ∨ Us.length - 1 - j < k then Us.getD (Us.length - 1 - j) (.slice none 0 0) else Us.getD j (.slice none 0 0)
theorem zCB (Us : List Value) (k : Nat) : (zfC Us k).length = Us.length := by simp [zfC]
theorem zJC (Us : List Value) (k j : Nat) (h : j < (zfC Us k).length) : (zfC Us k)[j] = if j < k ∨ Us.length - 1 - j < k then Us.getD (Us.length - 1 - j) (.slice none 0 0) else Us.getD j (.slice none 0 0) := by simp [zfC]
theorem revTo_zero (Us : List Value) : zfC Us 0 = Us := by
 apply List.ext_getElem
 ·exact zCB _ _
 ·intro j h1 h2
  rw [zJC,if_neg (by omega)];simp [h2]
theorem revTo_step {Us : List Value} {k : Nat} (h : k + k + 1 < Us.length) : ((zfC Us k).set k (Us.getD (Us.length - 1 - k) (.slice none 0 0))).set (Us.length - 1 - k) (Us.getD k (.slice none 0 0)) = zfC Us (k + 1) := by
 apply List.ext_getElem
 ·simp [zCB]
 ·intro j h1 h2
  have hj : j < Us.length := by rw [zCB] at h2;exact h2
  rw [zJC,List.getElem_set,List.getElem_set]
  by_cases e1 : Us.length - 1 - k = j
  ·rw [if_pos e1,if_pos (by omega),← e1,show Us.length - 1 - (Us.length - 1 - k) = k by omega]
  ·rw [if_neg e1]
   by_cases e2 : k = j
   ·rw [if_pos e2,if_pos (by omega),e2]
   ·rw [if_neg e2,zJC]
    by_cases e3 : j < k ∨ Us.length - 1 - j < k
    ·rw [if_pos e3,if_pos (by omega)]
    ·rw [if_neg e3,if_neg (by omega)]
theorem revTo_end {Us : List Value} {k : Nat} (h : Us.length ≤ k + k + 1) : zfC Us k = Us.reverse := by
 apply List.ext_getElem
 ·simp [zCB]
 ·intro j h1 h2
  have hj : j < Us.length := by simpa using h2
  rw [zJC,List.getElem_reverse];have hg : Us.getD (Us.length - 1 - j) (.slice none 0 0) = Us[Us.length - 1 - j] := by simp [show Us.length - 1 - j < Us.length by omega]
  by_cases e3 : j < k ∨ Us.length - 1 - j < k
  ·rw [if_pos e3,hg]
  ·rw [if_neg e3]
   have e4 : Us.length - 1 - j = j := by omega
   simp [e4,hj]
theorem getD_formed {B : Nat} {w : World} {v : Value} {Ps : List (List Int)} {Us : List Value} (h : ∀ j (h : j < Us.length) (h' : j < Ps.length),Mine 0 w Us[j] Ps[j]) (hl : Us.length = Ps.length) {j : Nat} (hj : j < Us.length) : ∃ a n c,Us.getD j (.slice none 0 0) = .slice a n c := by
 obtain ⟨a,c,e⟩ := (h j hj (by omega)).form;exact ⟨a,_,c,by simp [hj];exact e⟩
theorem reverse_row {w : World} {g cap : Nat} {Us R : List Value} (hr : RowV w g (Us ++ R)) (hf : ∀ j,j < Us.length → ∃ a n c,Us.getD j (.slice none 0 0) = .slice a n c) (hn : 0 < Us.length) (hl : Us.length ≤ 1073741824) (hc : Us.length ≤ cap) :
  Calls Tryz.prog 168 #[.slice (some ⟨g,0,none⟩) Us.length cap] w fun e w' => e = .returned (.tuple #[]) ∧ RowV w' g (Us.reverse ++ R) ∧ znA (· = g) w w' := by
 have H0 : Hid (RowV w g (zfC Us 0 ++ R)) := by unfold Hid;rw [revTo_zero];exact hr
 have HF := hid hf;obtain ⟨n,hnn⟩ : ∃ n,Us.length = n := ⟨_,rfl⟩
 have HN := hid hnn;rw [hnn] at hn hl hc ⊢;clear hr hf hnn;go_enter Tryz.func168,Tryz.ntmps168;go_wp2_with fail
 go_loopw [2,3] (fun i j wr => ∃ k : Nat,k + k ≤ n ∧ i = .int .i64 (k : Int) ∧ j = .int .i64 ((n : Int) - 1 - k) ∧ Hid (RowV wr g (zfC Us k ++ R)) ∧ Hid (znA (· = g) w wr)) (fun i _ _ => n - (intOf i).toNat)
 case atStart => exact ⟨0,by omega,rfl,by simp,H0,znA.refl _ _⟩
 case round =>
  clear H0;obtain ⟨k,hk,rfl,rfl,HR,HT⟩ := hrel
  by_cases hlt : k + k + 1 < n
  ·obtain ⟨j,hj⟩ : ∃ j,j = n - 1 - k := ⟨_,rfl⟩
   have ej : (n : Int) - 1 - (k : Int) = (j : Int) := by omega
   rw [ej];have HJ := hid ej;have hkj : k < j := by omega
   have hne : k ≠ j := by omega
   have hjn : j < n := by omega
   have hkl : k < (zfC Us k ++ R).length := by rw [List.length_append,zCB,HN.out];omega
   have hjl : j < (zfC Us k ++ R).length := by rw [List.length_append,zCB,HN.out];omega
   have c1 := HR.out.cell hkl;have c2 := HR.out.cell hjl;have g1 : (zfC Us k ++ R)[k] = Us.getD k (.slice none 0 0) := by
    rw [List.getElem_append_left (by rw [zCB,HN.out];omega),zJC,if_neg (by rw [HN.out];omega)]
   have g2 : (zfC Us k ++ R)[j] = Us.getD j (.slice none 0 0) := by
    rw [List.getElem_append_left (by rw [zCB,HN.out];omega),zJC,if_neg (by rw [HN.out];omega)]
   rw [g1] at c1;rw [g2] at c2;have f1 := HR.out.frozen k;have f2 := HR.out.frozen j;have c3 := (HR.out.set k (Us.getD j (.slice none 0 0))).cell (i := j) (by rw [List.length_set];exact hjl);rw [List.getElem_set_ne hne,g2] at c3;have HS : Hid (RowV ((wr.setCell ⟨g,k,none⟩ (Us.getD j (.slice none 0 0))).setCell ⟨g,j,none⟩ (Us.getD k (.slice none 0 0))) g (zfC Us (k + 1) ++ R)) := by
    unfold Hid;have h1 := (HR.out.set k (Us.getD j (.slice none 0 0))).set j (Us.getD k (.slice none 0 0));rw [List.set_append_left _ _ (by rw [zCB,HN.out];omega),List.set_append_left _ _ (by rw [List.length_set,zCB,HN.out];omega)] at h1;have h2 := revTo_step (Us := Us) (k := k) (by rw [HN.out];omega);rw [HN.out,← hj] at h2;rw [← h2];exact h1
   have HT2 : Hid (znA (· = g) w ((wr.setCell ⟨g,k,none⟩ (Us.getD j (.slice none 0 0))).setCell ⟨g,j,none⟩ (Us.getD k (.slice none 0 0)))) := (HT.out.setCell (.inr rfl) _ _).setCell (.inr rfl) _ _;obtain ⟨a1,n1,b1,e1⟩ := HF.out k (by rw [HN.out];omega);obtain ⟨a2,n2,b2,e2⟩ := HF.out j (by rw [HN.out];omega);rw [e1] at c1 HS HT2;rw [e2] at c2 c3 HS HT2;clear g1 g2 hkl hjl HR HT ej hj;go_wp2_with fail;go_region;have HS3 : Hid (RowV ((wr.setCell ⟨g,k,none⟩ (.slice a2 n2 b2)).setCell ⟨g,j,none⟩ (.slice a1 n1 b1)).drew g (zfC Us (k + 1) ++ R)) := HS.out;have HT3 : Hid (znA (· = g) w ((wr.setCell ⟨g,k,none⟩ (.slice a2 n2 b2)).setCell ⟨g,j,none⟩ (.slice a1 n1 b1)).drew) := HT2.out.drewN 1;clear HS HT2 c1 c2 c3;go_wp2;go_roundw
   case rel => exact ⟨k + 1,by omega,by go_num,by rw [show (j : Int) - 1 = (n : Int) - 1 - ((k + 1 : Nat) : Int) by have := HJ.out;omega],HS3,HT3⟩
   case measure => first | (simp [intOf];done) | (simp [intOf];omega)
  ·have hnl : ¬ (k : Int) < (n : Int) - 1 - (k : Int) := by omega
   rw [revTo_end (by rw [HN.out];omega)] at HR;generalize (n : Int) - 1 - (k : Int) = jj at *;go_wp2;go_end0;exact ⟨rfl,HR.out,HT.out⟩
theorem reverse_any {B : Nat} {w : World} {a : Option Addr} {cap : Nat} {Ps : List (List Int)} (h : zoA B w (.slice a Ps.length cap) Ps) (hn : 0 < Ps.length) (hl : Ps.length ≤ 1073741824) :
  Calls Tryz.prog 168 #[.slice a Ps.length cap] w fun e w' => e = .returned (.tuple #[]) ∧ zoA B w' (.slice a Ps.length cap) Ps.reverse ∧ Below B w w' := by
 obtain ⟨Us,h1,h2,h3⟩ := h;obtain ⟨q1,⟨q2,q3⟩ | ⟨g,cap',cur,q2,q3,q4,q5,q6,q7,q8⟩⟩ := h1
 ·omega
 rw [h2] at q2;simp only [Value.slice.injEq] at q2;obtain ⟨rfl,_,rfl⟩ := q2;rw [Nat.mul_one] at q7 q8;have hr : RowV w g (Us ++ cur.toList.drop Us.length) := by
  unfold RowV;have e := List.take_append_drop Us.length cur.toList;rw [q8] at e;rw [e]
  simpa using q4
 have hlt := hr.lt;have hsz : (Us ++ cur.toList.drop Us.length).length = cap := by
  have e := List.take_append_drop Us.length cur.toList;rw [q8] at e;rw [e,Array.length_toList];exact q7
 have hf : ∀ j,j < Us.length → ∃ a n c,Us.getD j (.slice none 0 0) = .slice a n c := fun j hj => getD_formed (B := 0) (v := .slice none 0 0) h3 h2 hj
 have H := reverse_row hr hf (by omega) (by omega) (by omega : Us.length ≤ cap);rw [h2] at H;refine H.mono fun e w' ⟨r1,r2,r3⟩ => ⟨r1,⟨Us.reverse,?_,by simp [h2],fun j j1 j2 => ?_⟩,zGD (Below.refl B w) r3 (fun q e => by have e' : q = g := e;omega) (by omega)⟩
 ·rw [List.length_reverse,h2]
  refine ⟨by simp [h2],.inr ⟨g,cap,_,rfl,q3,r2,by omega,q6,?_,?_⟩⟩
  ·rw [Nat.mul_one]
   rw [List.length_append] at hsz
   simp
   simp at hsz;omega
  ·rw [Nat.mul_one,← h2,← List.length_reverse]
   simp
 ·have hj : j < Us.length := by simpa using j1
  rw [List.getElem_reverse,List.getElem_reverse];have hm := h3 (Us.length - 1 - j) (by omega) (by omega);have e : Ps.length - 1 - j = Us.length - 1 - j := by omega
  simp only [e];obtain ⟨hw,h | ⟨b,r,cp,m1,m2,m3,m4,m5,m6⟩⟩ := hm
  ·exact ⟨hw,.inl h⟩
  ·refine ⟨hw,.inr ⟨b,r,cp,m1,m2,m3,m4,m5,(r3.block b m6.lt fun q => ?_).trans m6⟩⟩
   have q' : b = g := q;subst q';have := m6.symm.trans hr;simp at this
def uL (D L : Nat) : Nat := if L % D = 0 then D else L % D
theorem zvI {D : Nat} (hD : 1 ≤ D) (L : Nat) : uL D L ≤ D := by
 unfold uL
 split
 ·exact Nat.le_refl _
 ·exact Nat.le_of_lt (Nat.mod_lt _ hD)
theorem uL_full {D L : Nat} (h : L % D = 0) : uL D L = D := if_pos h
theorem zhH {D L : Nat} (hD : 1 ≤ D) : uL D (L + 1) = L % D + 1 := by
 have ht := Nat.mod_lt L hD;have e : L + 1 = D * (L / D) + (L % D + 1) := by have := Nat.div_add_mod L D;omega
 unfold uL
 by_cases q : L % D + 1 = D
 ·have : (L + 1) % D = 0 := by
   conv => lhs;rw [e,q]
   exact Nat.mod_eq_zero_of_dvd ⟨L / D + 1,by rw [Nat.mul_add,Nat.mul_one]⟩
  rw [if_pos this,q]
 ·have h1 : (L + 1) % D = (L % D + 1) % D := by
   conv => lhs;rw [e]
   exact Nat.mul_add_mod _ _ _
  have h2 : (L % D + 1) % D = L % D + 1 := Nat.mod_eq_of_lt (by omega);rw [h1,h2,if_neg (by omega)]
structure zcC (B D n : Nat) (ds : List Nat) (p : Nat) (Gs : List Nat) (cur r : Nat) : Prop where
 gv : ofD B (ds.take p) = ofD (B ^ D) Gs * B ^ r + cur
 cl : cur < B ^ r
 rD : r ≤ D
 ru : p < n → r + uL D (n - p) ≤ D
 re : p < n → Gs ≠ [] → r + uL D (n - p) = D
 en : p = n → 0 < n → r = 0 ∧ Gs ≠ []
 gs : ∀ G ∈ Gs,G < B ^ D
 gl : Gs.length ≤ p
theorem zcC.start {B D n : Nat} {ds : List Nat} (hD : 1 ≤ D) (hn : 0 < n) : zcC B D n ds 0 [] 0 0 :=
 ⟨by simp [ofD],by simp,Nat.zero_le _,fun _ => by rw [Nat.zero_add];exact zvI hD _,fun _ h => absurd rfl h,fun h => by omega,fun G h => by simp at h,Nat.le_refl _⟩
theorem zBG {ds : List Nat} {p d : Nat} (h : p < ds.length) (hd : ds[p] = d) (B : Nat) : ofD B (ds.take (p + 1)) = ofD B (ds.take p) * B + d := by
 rw [List.take_succ_eq_append_getElem h,zSD,hd]
theorem zvH {B D r cur d : Nat} (hB : 0 < B) (hc : cur < B ^ r) (hd : d < B) (hr : r + 1 ≤ D) : cur * B + d < B ^ (r + 1) ∧ cur * B + d < B ^ D := by
 have h1 : (cur + 1) * B ≤ B ^ r * B := Nat.mul_le_mul_right _ hc;have ps : B ^ r * B = B ^ (r + 1) := rfl;rw [Nat.add_mul,Nat.one_mul,ps] at h1;have h2 : B ^ (r + 1) ≤ B ^ D := Nat.pow_le_pow_right hB hr;exact ⟨by omega,by omega⟩
theorem zcC.edge {B D n p cur r d : Nat} {ds Gs : List Nat} (h : zcC B D n ds p Gs cur r) (hB : 0 < B) (hD : 1 ≤ D) (hp : p < n) (hn : ds.length = n) (hd : ds[p]'(by omega) = d) (hdB : d < B) (hz : (n - 1 - p) % D = 0) :
  zcC B D n ds (p + 1) (Gs ++ [cur * B + d]) 0 0 ∧ cur * B + d < B ^ D := by
 have e1 : n - p = (n - 1 - p) + 1 := by omega
 have hu : uL D (n - p) = 1 := by rw [e1,zhH hD,hz]
 have hr := h.ru hp;rw [hu] at hr;obtain ⟨q1,q2⟩ := zvH hB h.cl hdB hr;refine ⟨⟨?_,by simp,Nat.zero_le _,fun _ => by rw [Nat.zero_add];exact zvI hD _,fun _ _ => ?_,fun _ _ => ⟨rfl,by simp⟩,fun G hG => ?_,?_⟩,q2⟩
 ·have ps : B ^ r * B = B ^ (r + 1) := rfl
  rw [zBG (by omega) hd,h.gv,Nat.add_mul,Nat.mul_assoc,ps,Nat.pow_zero,Nat.mul_one,Nat.add_zero,zSD];rcases List.eq_nil_or_concat Gs with e | ⟨t,x,e⟩
  ·subst e;simp [ofD]
  ·have h2 := h.re hp (by rw [e];simp)
   rw [hu] at h2;rw [h2];omega
 ·rw [Nat.zero_add,show n - (p + 1) = n - 1 - p by omega]
  exact uL_full hz
 ·rcases List.mem_append.1 hG with q | q
  ·exact h.gs G q
  ·have : G = cur * B + d := by simpa using q
   rw [this];exact q2
 ·have := h.gl
  simp
  omega
theorem zcC.more {B D n p cur r d : Nat} {ds Gs : List Nat} (h : zcC B D n ds p Gs cur r) (hB : 0 < B) (hD : 1 ≤ D) (hp : p < n) (hn : ds.length = n) (hd : ds[p]'(by omega) = d) (hdB : d < B) (hz : (n - 1 - p) % D ≠ 0) :
  zcC B D n ds (p + 1) Gs (cur * B + d) (r + 1) ∧ cur * B + d < B ^ D := by
 have e1 : n - p = (n - 1 - p) + 1 := by omega
 have hu : uL D (n - p) = (n - 1 - p) % D + 1 := by rw [e1,zhH hD]
 have e2 : n - (p + 1) = n - 1 - p := by omega
 have hu2 : uL D (n - (p + 1)) = (n - 1 - p) % D := by rw [e2];exact if_neg hz
 have hr := h.ru hp;rw [hu] at hr;have hpn : p + 1 < n := by
  rcases Nat.lt_or_ge (p + 1) n with q | q
  ·exact q
  ·exfalso
   have : n - 1 - p = 0 := by omega
   rw [this] at hz;simp at hz
 obtain ⟨q1,q2⟩ := zvH hB h.cl hdB (D := D) (by omega);refine ⟨⟨?_,q1,by omega,fun _ => by rw [hu2];omega,fun _ hG => ?_,fun q => by omega,h.gs,by have := h.gl;omega⟩,q2⟩
 ·have ps : B ^ r * B = B ^ (r + 1) := rfl
  rw [zBG (by omega) hd,h.gv,Nat.add_mul,Nat.mul_assoc,ps];omega
 ·have := h.re hp hG
  rw [hu] at this;rw [hu2];omega
theorem zcC.done {B D n cur r : Nat} {ds Gs : List Nat} (h : zcC B D n ds n Gs cur r) (hn : 0 < n) (hl : ds.length = n) : ofD (B ^ D) Gs = ofD B ds ∧ Gs ≠ [] := by
 obtain ⟨h1,h2⟩ := h.en rfl hn;have h3 := h.gv;have h4 := h.cl;subst h1;rw [Nat.pow_zero] at h3 h4;rw [List.take_of_length_le (by omega)] at h3;exact ⟨by omega,h2⟩
end Go.Proofs.YtkdobgbicnemcaaGreatDoor
