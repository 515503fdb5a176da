import Derived.Test.YtlhjogiefbjklaaQDivideToMoved
set_option maxRecDepth 100000
set_option maxHeartbeats 6400000
set_option linter.unusedVariables false
set_option linter.unusedSimpArgs false
namespace Go.Proofs.Ytlhjogiefbjklaa
open Go.RowKit
theorem shl_end {zs L xs : List Int} {n m : Nat} {cc : Int} {I : Nat} (hz : WF zs) (hL : val L = val xs) (hwx : WF xs) (hI : I < zs.length) (hzero : zs[I] = 0) (hc : IsW cc) (hv : val zs + pw I * cc = 2 ^ n * val (L.take m)) (hm : L.length = m) :
  WF (zs.set I cc) ∧ vn (zs.set I cc) = vn xs * 2 ^ n := by
 have hw := hz.set I hc;refine ⟨hw,?_⟩;have h1 := zwA zs I cc hI;rw [hzero,Int.sub_zero,Int.mul_comm] at h1;rw [← hm,List.take_length,hL] at hv;have h2 := zMA hw;have h3 := zMA hwx;have h4 : ((vn (zs.set I cc) : Nat) : Int) = ((vn xs * 2 ^ n : Nat) : Int) := by
  rw [← h2,h1,hv,h3,Int.natCast_mul,Int.mul_comm];simp
 omega
theorem mul4 (a b c d : Int) : a * b * (c * d) = c * b * (a * d) := by simp only [Int.mul_comm,Int.mul_left_comm]
theorem shl_pos {w : World} {v : Value} {xs : List Int} (h : Sl w.heap.size w v xs) {n : Nat} (hn : n ≤ 1048576) (hlen : xs.length ≤ 35184371000000) (hpos : wid xs ≠ 0) :
  Calls Try.prog 53 #[v,.int .i64 (n : Int)] w (zEF w (vn xs * 2 ^ n) (xs.length + 16385)) := by
 have hs := h;obtain ⟨hw,a,cap,rfl,hlc,hcm,hm⟩ := h;have HW1 := zYA hs;have l1 := zGA xs;have hsrc := Sl.source (n := wid xs) hm
 change lst xs = [] ∨ ∃ b off,a = some ⟨b,off,none⟩ ∧ b < w.heap.size ∧ ∀ j (h : j < (lst xs).length),w.cell? ⟨b,off + j,none⟩ = some (.int .u64 (lst xs)[j]) at hsrc
 have HSRC := hid hsrc;have HL : Hid ((lst xs).length = wid xs) := length_lst xs;have HWL := hid (canon_lst hw).1;have HVL := hid (val_lst xs);have HWX := hid hw;generalize lst xs = L at *;generalize wid xs = m at *;have hm0 : ((m : Int) == 0) = false := by rw [beq_eq_false_iff_ne];omega
 have HV0 : Hid (val (List.replicate (n / 64 + m + 1) 0) + pw (n / 64 + 0) * 0 = 2 ^ n * val (L.take 0)) := by
  unfold Hid;have : WF (List.replicate (n / 64 + m + 1) 0) := fun x hx => by rw [List.eq_of_mem_replicate hx];unfold IsW wB;omega
  rw [zMA this,zTE (fun x hx => List.eq_of_mem_replicate hx)];simp [val]
 have HW0 : Hid (WF (List.replicate (n / 64 + m + 1) 0)) := fun x hx => by rw [List.eq_of_mem_replicate hx];unfold IsW wB;omega
 have hp64 : n % 64 < 64 := Nat.mod_lt _ (by omega);clear hm hsrc hs hw;go_enter Try.func53,Try.ntmps53;go_wp2_with fail;refine HW1.mono ?_;rintro e w1 ⟨rfl,rfl⟩;clear HW1;go_wp2_with (at_make;refine wpList_make_words _ rfl _ _ rfl _ _ (n / 64 + m + 1) (n / 64 + m + 1) rfl rfl (by omega) (by omega) (Nat.le_refl _) (by omega) ?_)
 intro w2 hrow hb2 hsz2;go_wp2_with fail
 go_loopw [10,30] (fun c i wr => ∃ (k : Nat) (zs : List Int) (cc : Int),k ≤ m ∧ i = .int .i64 k ∧ c = .int .u64 cc ∧ 0 ≤ cc ∧ Hid (cc < 2 ^ (n % 64)) ∧ Hid (zs.length = n / 64 + m + 1) ∧ WF zs ∧ Hid (∀ j (h : j < zs.length),n / 64 + k ≤ j → zs[j] = 0) ∧
   Hid (val zs + pw (n / 64 + k) * cc = 2 ^ n * val (L.take k)) ∧ Row wr w1.heap.size (ws zs) ∧ Below w1.heap.size w1 wr) (fun _ i _ => m - (intOf i).toNat)
 case atStart => exact ⟨0,_,0,Nat.zero_le _,rfl,rfl,by omega,(Int.pow_pos (by omega) : (0 : Int) < 2 ^ (n % 64)),(by unfold Hid;simp),HW0.out,(fun j h _ => by simp),HV0,hrow,hb2⟩
 case round =>
  clear HV0 HW0 hrow hb2 hsz2;obtain ⟨k,zs,cc,hk,rfl,rfl,hc0,hc1,HL2,hwz,HZ,HV,hr,hb⟩ := hrel
  by_cases hlt : k < m
  ·have hk1 : n / 64 + k < zs.length := by have := HL2.out;omega
   have hk2 : k < L.length := by have := HL.out;omega
   rcases HSRC.out with e | ⟨b,off,rfl,hbg,hcy⟩
   ·subst e;simp at hk2
   have c2 : wr.cell? ⟨b,off + k,none⟩ = some (.int .u64 L[k]) := (hb.cell (p := ⟨b,off + k,none⟩) hbg).trans (hcy k hk2);have c1 : wr.cell? ⟨w1.heap.size,n / 64 + k,none⟩ = some (.int .u64 zs[n / 64 + k]) := Row.word (r := []) (by simpa using hr) hk1;have cf : wr.frozen? ⟨w1.heap.size,n / 64 + k,none⟩ = false := hr.frozen _;have hxw := HWL.out.get hk2;obtain ⟨hs1,hd0,hd1,hsum⟩ := shl_word hxw hp64 hc0 hc1.out;have hz0 : zs[n / 64 + k] = 0 := HZ.out _ hk1 (Nat.le_refl _);have HT : Hid (2 ^ n * val (L.take (k + 1)) = 2 ^ n * val (L.take k) + L[k] * 2 ^ (n % 64) * pw (n / 64 + k)) := by
    unfold Hid;rw [zOA L k hk2,Int.mul_add,two_split n,zsC]
    congr 1
    exact mul4 _ _ _ _
   have HV' := hid (zQC (xs := []) hk1 (by rw [HV.out];simp [val]) HT.out (by rw [hz0];exact hsum) (show pw (n / 64 + (k + 1)) = pw (n / 64 + k + 1) from rfl));have hwz' := hwz.set (n / 64 + k) hs1;have HR := Row.setWord (r := []) (by simpa using hr) hk1 (bits BinOp.or IntKind.u64 (IntKind.u64.wrap (L[k] * 2 ^ (n % 64))) cc);have HB := hb.setCell (p := ⟨w1.heap.size,n / 64 + k,none⟩) (Nat.le_refl _) (.int .u64 (bits BinOp.or IntKind.u64 (IntKind.u64.wrap (L[k] * 2 ^ (n % 64))) cc));have HZ' : Hid (∀ z,∀ j (h : j < (zs.set (n / 64 + k) z).length),n / 64 + (k + 1) ≤ j → (zs.set (n / 64 + k) z)[j] = 0) := fun z j h hj => by
    rw [List.getElem_set_ne (by omega)];exact HZ.out j (by simpa using h) (by omega)
   have HL3 : Hid (∀ z,(zs.set (n / 64 + k) z).length = n / 64 + m + 1) := fun z => by rw [List.length_set];exact HL2.out
   have hd1' := hid hd1;unfold IsW wB at hxw;obtain ⟨hx0,hx1⟩ := hxw;clear hd1 hs1 hsum HT hcy HV hwz hr hb HZ HL2 hc1;generalize L[k] = x at *;generalize zs[n / 64 + k] = z at *;go_wp2;go_roundw
   case rel => exact ⟨k + 1,_,_,by omega,by go_num,rfl,hd0,hd1',HL3.out _,hwz',HZ'.out _,(by unfold Hid;simpa [val] using HV'.out),(by simpa using HR),HB⟩
   case measure => simp [intOf];omega
  ·obtain rfl : k = m := by omega
   have hk1 : n / 64 + k < zs.length := by have := HL2.out;omega
   have hz0 : zs[n / 64 + k] = 0 := HZ.out _ hk1 (Nat.le_refl _);have c1 : wr.cell? ⟨w1.heap.size,n / 64 + k,none⟩ = some (.int .u64 zs[n / 64 + k]) := Row.word (r := []) (by simpa using hr) hk1;have cf : wr.frozen? ⟨w1.heap.size,n / 64 + k,none⟩ = false := hr.frozen _;have hcw : IsW cc := by
    have h1 := hc1.out;have h2 : (2 : Int) ^ (n % 64) ≤ 2 ^ 64 := by
     have := Nat.pow_le_pow_right (n := 2) (by omega) (Nat.le_of_lt hp64);rw [zRA,zRA];omega
    unfold IsW wB;have h3 : (2 : Int) ^ 64 = 18446744073709551616 := by decide
    omega
   have HE := hid (shl_end hwz HVL.out HWX.out hk1 hz0 hcw HV.out HL.out);have HR := Row.setWord (r := []) (by simpa using hr) hk1 cc;have HB := hb.setCell (p := ⟨w1.heap.size,n / 64 + k,none⟩) (Nat.le_refl _) (.int .u64 cc);have HLE : Hid ((zs.set (n / 64 + k) cc).length = n / 64 + k + 1) := by unfold Hid;rw [List.length_set];exact HL2.out
   generalize zs.set (n / 64 + k) cc = Z at *;generalize zs[n / 64 + k] = z at *;clear hr hb HV HZ hwz HL2 hc1 hcw hz0;go_wp2_with fail;have hR : Row (wr.setCell ⟨w1.heap.size,n / 64 + k,none⟩ (.int .u64 cc)) w1.heap.size (ws Z) := by simpa using HR
   have hsz := Row.sl (r := []) (by simpa using hR) HE.out.1 (cap := n / 64 + k + 1) (by rw [HLE.out];exact Nat.le_refl _) (by omega) hR.lt;rw [HLE.out] at hsz;have HW4 := hid (zYA hsz);clear hsz;refine HW4.out.mono ?_;rintro e w5 ⟨rfl,rfl⟩;clear HW4;have l5 := zGA Z;have l6 : wid Z ≤ n / 64 + k + 1 := by have := HLE.out;omega
   go_wp2;go_ret2;exact zxD HE.out.1 HLE.out (by omega) hR HE.out.2 (by omega) HB
theorem zuE {w : World} {v : Value} {xs : List Int} (h : Sl w.heap.size w v xs) {n : Nat} (hn : n ≤ 1048576) (hlen : xs.length ≤ 35184371000000) :
  Calls Try.prog 53 #[v,.int .i64 (n : Int)] w (zEF w (vn xs * 2 ^ n) (xs.length + 16385)) := by
 by_cases hp : wid xs = 0
 ·have HW1 := zYA h
  rw [hp] at HW1;have HZ := hid (zvB h.1 hp);have hm0 : ((0 : Int) == 0) = true := rfl;clear h hp;go_enter Try.func53,Try.ntmps53;go_wp2_with fail;refine HW1.mono ?_;rintro e w1 ⟨rfl,rfl⟩;clear HW1;go_wp2;go_ret2;exact moved_nil (by rw [HZ.out];simp) (Below.refl _ _)
 ·exact shl_pos h hn hlen hp
end Go.Proofs.Ytlhjogiefbjklaa
