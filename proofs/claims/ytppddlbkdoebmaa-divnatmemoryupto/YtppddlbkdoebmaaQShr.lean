import Derived.Test.YtppddlbkdoebmaaQDivideToShl
set_option maxRecDepth 100000
set_option maxHeartbeats 6400000
set_option linter.unusedVariables false
set_option linter.unusedSimpArgs false
namespace Go.Proofs.Ytppddlbkdoebmaa
open Go.RowKit
theorem shr_none {xs : List Int} (hw : WF xs) {n : Nat} (h : wid xs ≤ n / 64) : vn xs / 2 ^ n = 0 := by
 rw [Nat.div_eq_of_lt];rw [← zlE hw];have h1 := zkE (canon_lst hw).1;rw [length_lst] at h1;exact Nat.lt_of_lt_of_le h1 (Nat.pow_le_pow_right (by omega) (by omega))
theorem shr_drop {xs : List Int} (hw : WF xs) {n : Nat} (h : n / 64 ≤ wid xs) : vn xs / 2 ^ n = vn ((lst xs).drop (n / 64)) / 2 ^ (n % 64) := by
 have hl : ((lst xs).take (n / 64)).length = n / 64 := by rw [List.length_take,length_lst];omega
 have hlo := zkE ((canon_lst hw).1.take (n / 64));rw [hl] at hlo;have e := zgC ((lst xs).take (n / 64)) ((lst xs).drop (n / 64));rw [List.take_append_drop,zlE hw,hl] at e;have hsp : 2 ^ n = 2 ^ (64 * (n / 64)) * 2 ^ (n % 64) := by rw [← Nat.pow_add,show 64 * (n / 64) + n % 64 = n by omega]
 rw [e,hsp,← Nat.div_div_eq_div_mul,Nat.add_mul_div_left _ _ (Nat.two_pow_pos _),Nat.div_eq_of_lt hlo,Nat.zero_add]
theorem WF.drop {xs : List Int} (h : WF xs) (n : Nat) : WF (xs.drop n) := fun x hx => h x (List.mem_of_mem_drop hx)
def zjE (D zs : List Int) (p k : Nat) : Prop :=
 zs.length = D.length ∧ WF zs ∧ (∀ j (h : j < zs.length) (h' : j < D.length),k ≤ j → zs[j] = D[j]) ∧ 2 ^ p * val (zs.take k) + D.getD 0 0 % 2 ^ p = val (D.take k) + D.getD k 0 % 2 ^ p * pw k
theorem ziC {zs : List Int} {k : Nat} (h : k < zs.length) (s : Int) : val ((zs.set k s).take (k + 1)) = val (zs.take k) + s * pw k := by
 rw [zOA _ k (by simpa using h)];simp [List.take_set_of_le (Nat.le_refl k)]
theorem zjE.start {D : List Int} (hD : WF D) (p : Nat) : zjE D D p 0 := ⟨rfl,hD,fun j _ _ _ => rfl,by simp [val,pw]⟩
theorem zjE.step {D zs : List Int} {p k : Nat} {s : Int} (h : zjE D zs p k) (hk : k + 1 < D.length) (hs : IsW s) (he : 2 ^ p * s = D[k] - D[k] % 2 ^ p + wB * (D[k + 1] % 2 ^ p)) : zjE D (zs.set k s) p (k + 1) := by
 obtain ⟨h1,h2,h3,h4⟩ := h;refine ⟨by rw [List.length_set];exact h1,h2.set k hs,fun j hj hj' hkj => ?_,?_⟩
 ·rw [List.getElem_set_ne (by omega)];exact h3 j (by simpa using hj) hj' (by omega)
 ·have e1 : D.getD (k + 1) 0 = D[k + 1] := by simp [hk]
  have e2 : D.getD k 0 = D[k] := by simp [show k < D.length by omega]
  rw [ziC (by omega),zOA D k (by omega),e1,Int.mul_add,← Int.mul_assoc,he];rw [e2] at h4;simp only [pw,Int.add_mul,Int.sub_mul,Int.mul_assoc] at h4 ⊢;rw [Int.mul_left_comm (D[k + 1] % 2 ^ p) wB];omega
theorem zjE.done {D zs : List Int} {p k : Nat} (h : zjE D zs p k) (hD : WF D) (hk : k + 1 = D.length) : WF (zs.set k (D[k] / 2 ^ p)) ∧ vn (zs.set k (D[k] / 2 ^ p)) = vn D / 2 ^ p := by
 obtain ⟨h1,h2,h3,h4⟩ := h;have hx := hD.get (show k < D.length by omega);have hdw : IsW (D[k] / 2 ^ p) := by
  obtain ⟨X,hX⟩ := Int.eq_ofNat_of_zero_le hx.1;have q : (X : Int) / 2 ^ p = ((X / 2 ^ p : Nat) : Int) := by simp
  have := Nat.div_le_self X (2 ^ p);unfold IsW wB at hx ⊢;rw [hX] at hx ⊢;rw [q];generalize X / 2 ^ p = y at *;omega
 have hw := h2.set k hdw;refine ⟨hw,?_⟩;have e2 : D.getD k 0 = D[k] := by simp [show k < D.length by omega]
 have hlen : (zs.set k (D[k] / 2 ^ p)).length = k + 1 := by rw [List.length_set];omega
 have hv : val (zs.set k (D[k] / 2 ^ p)) = val (zs.take k) + D[k] / 2 ^ p * pw k := by
  rw [← ziC (by omega),← hlen,List.take_length]
 have hd : val D = val (D.take k) + D[k] * pw k := by rw [← zOA D k (by omega),hk,List.take_length]
 have hdm := Int.mul_ediv_add_emod D[k] (2 ^ p);have key : 2 ^ p * val (zs.set k (D[k] / 2 ^ p)) + D.getD 0 0 % 2 ^ p = val D := by
  rw [hv,hd,Int.mul_add,← Int.mul_assoc];rw [e2] at h4;have : D[k] * pw k = (2 ^ p * (D[k] / 2 ^ p)) * pw k + D[k] % 2 ^ p * pw k := by rw [← Int.add_mul,hdm]
  rw [this];omega
 have hr : 0 ≤ D.getD 0 0 % 2 ^ p ∧ D.getD 0 0 % 2 ^ p < 2 ^ p := ⟨Int.emod_nonneg _ (Int.ne_of_gt (Int.pow_pos (by omega))),Int.emod_lt_of_pos _ (Int.pow_pos (by omega))⟩
 rw [zNA hw,zNA hD] at key;generalize vn (zs.set k (D[k] / 2 ^ p)) = Z at *;generalize vn D = V at *;generalize D.getD 0 0 % 2 ^ p = R at *;obtain ⟨r,rfl⟩ := Int.eq_ofNat_of_zero_le hr.1;rw [zWA] at key hr;have hpp := Nat.two_pow_pos p;generalize 2 ^ p = P at *;have key2 : P * Z + r = V := by rw [← Int.natCast_mul] at key;omega
 rw [← key2,Nat.mul_add_div hpp,Nat.div_eq_of_lt (by omega),Nat.add_zero]
theorem zQF {w : World} {v : Value} {xs : List Int} (h : Sl w.heap.size w v xs) {n : Nat} (hn : n ≤ 9223372036854775807) :
  Calls Try.prog 55 #[v,.int .i64 (n : Int)] w (zRG w (vn xs / 2 ^ n) (xs.length)) := by
 have hs := h;have HW1 := zeA hs;have l1 := zIA xs
 by_cases hc : wid xs ≤ n / 64
 ·have HE := hid (shr_none h.1 hc)
  have hci : (wid xs : Int) ≤ (n : Int) / 64 := by omega
  clear h hs;go_enter Try.func55,Try.ntmps55;go_wp2_with fail;refine HW1.mono ?_;rintro e w1 ⟨rfl,rfl⟩;clear HW1;go_wp2;go_ret2;exact moved_nil HE.out (Below.refl _ _)
 ·obtain ⟨hw,a,cap,rfl,hlc,hcm,hm⟩ := h
  have hci : ¬ (wid xs : Int) ≤ (n : Int) / 64 := by omega
  rcases hm with e | ⟨b,off,rfl,hb,hcell⟩
  ·subst e;simp [wid] at hc
  have HE := hid (shr_drop hw (n := n) (by omega));have HLD : Hid (((lst xs).drop (n / 64)).length = wid xs - n / 64) := by unfold Hid;rw [List.length_drop,length_lst]
  have HWD := hid ((canon_lst hw).1.drop (n / 64));have hsrc : (lst xs).drop (n / 64) = [] ∨ ∃ b' off',some (⟨b,off + n / 64,none⟩ : Addr) = some ⟨b',off',none⟩ ∧ b' < w.heap.size ∧ ∀ j (h : j < ((lst xs).drop (n / 64)).length),w.cell? ⟨b',off' + j,none⟩ = some (.int .u64 ((lst xs).drop (n / 64))[j]) := by
   refine .inr ⟨b,off + n / 64,rfl,hb,fun j hj => ?_⟩;rw [HLD.out] at hj;rw [Nat.add_assoc,hcell (n / 64 + j) (by omega)];simp [lst]
  have HSRC := hid hsrc;obtain ⟨N,hN⟩ : ∃ N,wid xs = n / 64 + N + 1 := ⟨wid xs - n / 64 - 1,by omega⟩
  have HN := hid hN;have hNl : wid xs - n / 64 = N + 1 := by omega
  rw [hNl] at HLD;have hl64 : n / 64 + N + 1 ≤ xs.length := by omega
  rw [hN] at HW1;generalize (lst xs).drop (n / 64) = D at *;have hci2 : ¬ ((n / 64 + N + 1 : Nat) : Int) ≤ (n : Int) / 64 := by omega
  have hp64 : n % 64 < 64 := Nat.mod_lt _ (by omega);clear hsrc hs hw hcell hc hci hN hNl l1;go_enter Try.func55,Try.ntmps55;go_wp2_with fail;refine HW1.mono ?_;rintro e w1 ⟨rfl,rfl⟩;clear HW1;go_wp2_with (at_make;refine wpList_make_words _ rfl _ _ rfl _ _ (N + 1) (N + 1) rfl rfl (by omega) (by omega) (Nat.le_refl _) (by omega) ?_)
  intro w2 hrow hb2 hsz2;have hsrc2 := hid (Sl.sourceB HSRC.out hb2 (Nat.le_refl _));go_wp2_with (refine znA _ rfl (.tmp 27) (.tmp 31) rfl w1.heap.size (N + 1) (N + 1) _ _ _ D hrow rfl (by show Value.slice (some ⟨b,off + n / 64,none⟩) (n / 64 + N + 1 - n / 64) (cap - n / 64) = _;rw [show n / 64 + N + 1 - n / 64 = N + 1 by omega]) HLD.out (Nat.le_refl _) hsrc2.out ?_)
  intro w3 hrow3 hb3;have hr3 : Hid (Row w3 w1.heap.size (ws D)) := by unfold Hid;simpa using hrow3
  have hb13 := hid (hb2.trans hb3);clear hrow hsrc2 hrow3 hb2 hb3 HSRC hsz2;go_wp2_with fail
  go_loopw [37] (fun i wr => ∃ (k : Nat) (zs : List Int),k ≤ N ∧ i = .int .i64 k ∧ Hid (zjE D zs (n % 64) k) ∧ Row wr w1.heap.size (ws zs) ∧ Below w1.heap.size w1 wr) (fun i _ => N - (intOf i).toNat)
  case atStart => exact ⟨0,D,Nat.zero_le _,rfl,zjE.start HWD.out _,hr3.out,hb13.out⟩
  case round =>
   clear hr3 hb13;obtain ⟨k,zs,hk,rfl,HS,hr,hbb⟩ := hrel;have hzl : zs.length = N + 1 := HS.out.1.trans HLD.out;have HZL := hid hzl
   by_cases hlt : k < N
   ·have hk1 : k < zs.length := by omega
    have hk2 : k + 1 < zs.length := by omega
    have hd1 : k < D.length := by have := HLD.out;omega
    have hd2 : k + 1 < D.length := by have := HLD.out;omega
    have c1 : wr.cell? ⟨w1.heap.size,k,none⟩ = some (.int .u64 D[k]) := by
     rw [← HS.out.2.2.1 k hk1 hd1 (Nat.le_refl _)];exact Row.word (r := []) (by simpa using hr) hk1
    have c2 : wr.cell? ⟨w1.heap.size,k + 1,none⟩ = some (.int .u64 D[k + 1]) := by
     rw [← HS.out.2.2.1 (k + 1) hk2 hd2 (by omega)];exact Row.word (r := []) (by simpa using hr) hk2
    have cf : wr.frozen? ⟨w1.heap.size,k,none⟩ = false := hr.frozen _;have hx := HWD.out.get hd1;have hy := HWD.out.get hd2;obtain ⟨hs1,hs2⟩ := shr_word hx hy hp64;have HS' := hid (HS.out.step hd2 hs1 hs2);have HR := Row.setWord (r := []) (by simpa using hr) hk1 (bits BinOp.or IntKind.u64 (D[k] / 2 ^ (n % 64)) (IntKind.u64.wrap (D[k + 1] * 2 ^ (64 - n % 64))));have HB := hbb.setCell (p := ⟨w1.heap.size,k,none⟩) (Nat.le_refl _) (.int .u64 (bits BinOp.or IntKind.u64 (D[k] / 2 ^ (n % 64)) (IntKind.u64.wrap (D[k + 1] * 2 ^ (64 - n % 64)))));unfold IsW wB at hx hy;obtain ⟨hx0,hx1⟩ := hx;obtain ⟨hy0,hy1⟩ := hy;clear hs1 hs2 HS hr hbb hzl HZL hk1 hk2;generalize D[k] = x at *;generalize D[k + 1] = y at *;clear hd1 hd2;have i0 : (0 : Int) ≤ (k : Int) := by omega
    have i1 : (k : Int) + 1 < (N : Int) + 1 := by omega
    have i2 : (k : Int) < (N : Int) + 1 := by omega
    go_wp2_with fail;go_region;go_wp2;go_roundw
    case rel => exact ⟨k + 1,_,by omega,by go_num,HS',Row.drewN (by simpa using HR) 1,HB.drew⟩
    case measure => simp [intOf];omega
   ·obtain rfl : k = N := by omega
    have hk1 : k < zs.length := by omega
    have hd1 : k < D.length := by have := HLD.out;omega
    have c1 : wr.cell? ⟨w1.heap.size,k,none⟩ = some (.int .u64 D[k]) := by
     rw [← HS.out.2.2.1 k hk1 hd1 (Nat.le_refl _)];exact Row.word (r := []) (by simpa using hr) hk1
    have cf : wr.frozen? ⟨w1.heap.size,k,none⟩ = false := hr.frozen _;have hx := HWD.out.get hd1;have HD := hid (HS.out.done HWD.out HLD.out.symm);have HR := Row.setWord (r := []) (by simpa using hr) hk1 (D[k] / 2 ^ (n % 64));have HB := hbb.setCell (p := ⟨w1.heap.size,k,none⟩) (Nat.le_refl _) (.int .u64 (D[k] / 2 ^ (n % 64)));have HLE : Hid ((zs.set k (D[k] / 2 ^ (n % 64))).length = k + 1) := by unfold Hid;rw [List.length_set];exact HZL.out
    unfold IsW wB at hx;obtain ⟨hx0,hx1⟩ := hx;have i0 : (0 : Int) ≤ (k : Int) := by omega
    have i1 : (k : Int) < (k : Int) + 1 := by omega
    clear HS hr hbb hzl HZL;generalize zs.set k (D[k] / 2 ^ (n % 64)) = Z at *;generalize D[k] = x at *;go_wp2_with fail;have hR : Row (wr.setCell ⟨w1.heap.size,k,none⟩ (.int .u64 (x / 2 ^ (n % 64)))) w1.heap.size (ws Z) := by simpa using HR
    have hsz := Row.sl (r := []) (by simpa using hR) HD.out.1 (cap := k + 1) (by rw [HLE.out];exact Nat.le_refl _) (by omega) hR.lt;rw [HLE.out] at hsz;have HW4 := hid (zeA hsz);clear hsz;refine HW4.out.mono ?_;rintro e w5 ⟨rfl,rfl⟩;clear HW4;have l5 := zIA Z;have l6 : wid Z ≤ k + 1 := by have := HLE.out;omega
    go_wp2;go_ret2;exact zyE HD.out.1 HLE.out (by omega) hR (by rw [HE.out];exact HD.out.2) (by omega) HB
end Go.Proofs.Ytppddlbkdoebmaa
