/-
 QRWordsToR5Ones: RWords, RMul, R5Ones, joined.
-/
import Derived.Test.YtkdobgbicnemcaaGreatDoorQSplitToRDigits

set_option maxRecDepth 100000
set_option maxHeartbeats 6400000
set_option linter.unusedVariables false
set_option linter.unusedSimpArgs false
namespace Go.Proofs.YtkdobgbicnemcaaGreatDoor
open Go.RowKit
def zVA (D : List Int) (k t : Nat) : Int := dval ((D.drop (max k (4 * t))).take (4 * t + 4 - max k (4 * t)))
theorem wordUpto_other {D : List Int} {m t : Nat} (h : t ≠ m / 4) : zVA D m t = zVA D (m + 1) t := by
 unfold zVA
 by_cases q : m / 4 < t
 ·rw [Nat.max_eq_right (by omega),Nat.max_eq_right (by omega)]
 ·rw [show 4 * t + 4 - max m (4 * t) = 0 by omega,show 4 * t + 4 - max (m + 1) (4 * t) = 0 by omega]
  simp
theorem wordUpto_here {D : List Int} (hD : DF D) {m : Nat} (hm : m < D.length) : zVA D m (m / 4) = zVA D (m + 1) (m / 4) * 65536 + D[m] ∧ 0 ≤ D[m] ∧ D[m] ≤ 65535 ∧ 0 ≤ zVA D (m + 1) (m / 4) ∧ zVA D (m + 1) (m / 4) ≤ 281474976710655 := by
 have hx := hD.get hm;unfold IsD dwB at hx;have e1 : max m (4 * (m / 4)) = m := by omega
 have h1 := zsC hD (p := m) (n := 4 * (m / 4) + 3 - m);rw [show D.getD m 0 = D[m] by simp [hm]] at h1;have e2 : zVA D (m + 1) (m / 4) = dval ((D.drop (m + 1)).take (4 * (m / 4) + 3 - m)) := by
  unfold zVA;rw [Nat.max_eq_left (by omega),show 4 * (m / 4) + 4 - (m + 1) = 4 * (m / 4) + 3 - m by omega]
 have h3 := zVH ((hD.drop (m + 1)).take (4 * (m / 4) + 3 - m)) (by simp;omega);rw [← e2] at h3 h1;refine ⟨?_,hx.1,by omega,h3.1,h3.2⟩;have e3 : zVA D m (m / 4) = dval ((D.drop m).take (4 * (m / 4) + 3 - m + 1)) := by
  unfold zVA;rw [e1,show 4 * (m / 4) + 4 - m = 4 * (m / 4) + 3 - m + 1 by omega]
 rw [e3,h1.1];omega
theorem wordUpto_all (D : List Int) (t : Nat) : zVA D 0 t = dval ((D.drop (4 * t)).take 4) := by
 unfold zVA;rw [Nat.max_eq_right (by omega),show 4 * t + 4 - 4 * t = 4 by omega]
theorem wordUpto_none {D : List Int} {k t : Nat} (h : D.length ≤ k) : zVA D k t = 0 := by
 unfold zVA;rw [List.drop_of_length_le (by omega)];simp [dval]
theorem zME {D zs : List Int} (hD : DF D) (hz : ∀ t (h : t < zs.length),zs[t] = zVA D 0 t) (hl : D.length ≤ 4 * zs.length) (hl2 : 4 * zs.length ≤ D.length + 3) : ∀ s,s ≤ zs.length → WF (zs.take s) ∧ val (zs.take s) = dval (D.take (4 * s))
 | 0,_ => ⟨by simpa using WF.nil,by simp [val,dval]⟩
 | s + 1,hs => by
  obtain ⟨h1,h2⟩ := zME hD hz hl hl2 s (by omega);have hl3 : (zs.take s).length = s := by simp;omega
  have := zmE hD h1 hl3 (by omega) h2 (y := zs[s]) (by rw [hz s (by omega),wordUpto_all]);rw [List.take_succ_eq_append_getElem (show s < zs.length by omega)];exact this
theorem words_any {w : World} {v : Value} {D : List Int} (h : SlI w.heap.size w v D) (hd : DF D) :
  Calls Tryz.prog 103 #[v] w fun e w' => ∃ zs r,e = .returned r ∧ Own w.heap.size w' r zs ∧ zHA zs ∧ val zs = dval D ∧ Below w.heap.size w w' := by
 obtain ⟨hw,a,cap,rfl,hlc,hcm,hm⟩ := h;have HM := hid hm;have HD := hid hd;have HW0 : Hid (∀ t,zVA D D.length t = 0) := fun t => wordUpto_none (Nat.le_refl _)
 have HWD : Hid (∀ zs : List Int,(∀ t (h : t < zs.length),zs[t] = zVA D 0 t) → zs.length = (D.length + 3) / 4 → WF zs ∧ val zs = dval D) := fun zs h1 h2 => by
  have := zME hd h1 (by omega) (by omega) zs.length (Nat.le_refl _);rw [List.take_length,List.take_of_length_le (by omega)] at this;exact this
 clear hm hw hd;obtain ⟨nD,hnD⟩ : ∃ n,D.length = n := ⟨_,rfl⟩
 rw [hnD] at hlc HW0 HWD;rw [hnD];have HN := hid hnD;have hnl : nD ≤ 35184372088832 := by omega
 clear hnD;have hh : ((nD : Int) + 3) / 4 = (((nD + 3) / 4 : Nat) : Int) := by omega
 obtain ⟨W,hW⟩ : ∃ W,(nD + 3) / 4 = W := ⟨_,rfl⟩
 have hW4 : nD ≤ 4 * W ∧ 4 * W ≤ nD + 3 := by omega
 rw [hW] at hh HWD;clear hW;go_enter Tryz.func103,Tryz.ntmps103;go_wp2_with (at_make;refine wpList_make_words _ rfl _ _ rfl _ _ W W rfl rfl (by omega) (by omega) (Nat.le_refl _) (by omega) ?_)
 intro w2 hrow hb2 hsz2;clear hsz2;go_wp2_with fail
 go_loopw [4] (fun i wr => ∃ (k : Nat) (zs : List Int),k ≤ nD ∧ i = .int .i64 ((k : Int) - 1) ∧ Hid (zs.length = W) ∧ Hid (∀ t (h : t < zs.length),zs[t] = zVA D k t) ∧ Hid (Row wr w.heap.size (ws zs)) ∧ Hid (Below w.heap.size w wr)) (fun i _ => (intOf i + 1).toNat)
 case atStart => exact ⟨nD,List.replicate W 0,Nat.le_refl _,by go_num,(by unfold Hid;simp),(fun t h => by rw [HW0.out];simp),hrow,hb2⟩
 case round =>
  clear hrow hb2;obtain ⟨k,zs,hk,rfl,HL,HZ,hr,hb⟩ := hrel
  by_cases h0 : k = 0
  ·subst h0
   obtain ⟨hwf,hval⟩ := HWD.out zs HZ.out HL.out;have HWF := hid hwf;have HVA := hid hval;have HWI : Hid (∀ n : Nat,n ≤ zs.length → (∀ j (h : j < zs.length),n ≤ j → zs[j] = 0) → (0 < n → ∀ h' : n - 1 < zs.length,zs[n - 1] ≠ 0) → wid zs = n) := fun n h1 h2 h3 => wid_is h1 h2 h3
   clear hwf hval;have fin : ∀ m,wid zs = m → ∃ qs r,Ending.returned (Value.slice (some ⟨w.heap.size,0,none⟩) m W) = Ending.returned r ∧ Own w.heap.size wr r qs ∧ zHA qs ∧ val qs = dval D ∧ Below w.heap.size w wr := fun m hm => by
    have hw1 := zRA zs;have hl1 := HL.out;refine ⟨lst zs,_,rfl,⟨(canon_lst HWF.out).1,.inr ⟨w.heap.size,ws (zs.drop (wid zs)),Nat.le_refl _,?_,?_,?_⟩⟩,canon_lst HWF.out,by rw [val_lst,HVA.out],hb.out⟩
    ·rw [length_lst,zNA,List.length_drop];omega
    ·rw [length_lst,zNA,List.length_drop,hm,show m + (zs.length - m) = W by omega]
    ·have e : ws (lst zs) ++ ws (zs.drop (wid zs)) = ws zs := by
      unfold lst ws;rw [← List.map_append,List.take_append_drop]
     rw [e];exact hr.out
   have FIN := hid fin;clear fin;go_wp2_with fail
   go_loop [5] (fun i => ∃ n : Nat,n ≤ zs.length ∧ i = .int .i64 n ∧ Hid (∀ j (h : j < zs.length),n ≤ j → zs[j] = 0)) (fun i => (intOf i).toNat)
   case atStart => exact ⟨zs.length,Nat.le_refl _,(by rw [HL.out]),fun j h h' => by omega⟩
   case round =>
    clear HZ;obtain ⟨n,hn,rfl,HZ⟩ := hrel;have hlz : zs.length = W := HL.out
    by_cases h0 : n = 0
    ·subst h0
     have HE := hid (HWI.out 0 (by omega) HZ.out (by omega));go_wp2;go_ret;exact FIN.out 0 HE.out
    ·obtain ⟨m,rfl⟩ : ∃ m,n = m + 1 := ⟨n - 1,by omega⟩
     have hm2 : m < zs.length := by omega
     have c3 : wr.cell? ⟨w.heap.size,m,none⟩ = some (.int .u64 zs[m]) := Row.word (r := []) (by simpa using hr.out) hm2;obtain ⟨x,hx⟩ : ∃ x,x = zs[m] := ⟨_,rfl⟩
     rw [← hx] at c3;have HX := hid hx;clear hx h0
     by_cases hx0 : x = 0
     ·have ht : (x == 0) = true := by simp [hx0]
      have HX0 := hid hx0;clear hx0;go_wp2;go_round
      case rel =>
       refine ⟨m,by omega,by go_num,fun j h hj => ?_⟩
       by_cases e : j = m
       ·subst e;rw [← HX.out];exact HX0.out
       ·exact HZ.out j h (by omega)
      case measure => first | (simp [intOf];done) | (simp [intOf];omega)
     ·have ht : (x == 0) = false := by simp [hx0]
      have HE := hid (HWI.out (m + 1) hn HZ.out (fun _ h' => by have := HX.out;simp at h' ⊢;rw [← this];exact hx0));go_wp2;go_ret;exact FIN.out (m + 1) HE.out
  ·obtain ⟨m,rfl⟩ : ∃ m,k = m + 1 := ⟨k - 1,by omega⟩
   have hmD : m < D.length := by have := HN.out;omega
   rcases HM.out with e | ⟨b,off,rfl,hbg,hc⟩
   ·subst e;simp at hmD
   have hq : m / 4 < zs.length := by have := HL.out;omega
   obtain ⟨hw1,hd0,hd1,hu0,hu1⟩ := wordUpto_here HD.out hmD;have c1 : wr.cell? ⟨b,off + m,none⟩ = some (.int .i64 D[m]) := (hb.out.cell (p := ⟨b,off + m,none⟩) hbg).trans (hc m hmD);have c2 : wr.cell? ⟨w.heap.size,m / 4,none⟩ = some (.int .u64 (zVA D (m + 1) (m / 4))) := by
    rw [← HZ.out _ hq];exact Row.word (r := []) (by simpa using hr.out) hq
   have cf : wr.frozen? ⟨w.heap.size,m / 4,none⟩ = false := hr.out.frozen _;have HZ2 : Hid (∀ t (h : t < (zs.set (m / 4) (zVA D m (m / 4))).length),(zs.set (m / 4) (zVA D m (m / 4)))[t] = zVA D m t) := fun t h => by
    by_cases e : m / 4 = t
    ·subst e;simp
    ·rw [List.getElem_set_ne e]
     exact (HZ.out t (by simpa using h)).trans (wordUpto_other (by omega)).symm
   have HR2 := hid (Row.setWord (r := []) (by simpa using hr.out) hq (zVA D m (m / 4)));have HB2 := hid (hb.out.setCell (p := ⟨w.heap.size,m / 4,none⟩) (Nat.le_refl _) (.int .u64 (zVA D m (m / 4))));have HL2 : Hid ((zs.set (m / 4) (zVA D m (m / 4))).length = W) := by unfold Hid;rw [List.length_set];exact HL.out
   rw [hw1] at HZ2 HR2 HB2 HL2;have hq4 : (m : Int) / 4 = ((m / 4 : Nat) : Int) := by omega
   have hqW : m / 4 < W := by have := HL.out;omega
   generalize D[m] = d at *;generalize zVA D (m + 1) (m / 4) = u at *;generalize zs.set (m / 4) (u * 65536 + d) = zs' at *;have i1 : (0 : Int) ≤ (m : Int) := by omega
   have i2 : (m : Int) < (nD : Int) := by omega
   have i3 : ((m / 4 : Nat) : Int) < (W : Int) := by omega
   have i4 : (0 : Int) ≤ ((m / 4 : Nat) : Int) := by omega
   generalize m / 4 = t4 at *;clear hc h0 hw1 HZ hr hb HL;go_wp2_with fail;go_region;go_wp2;go_roundw
   case rel => exact ⟨m,zs',by omega,by go_num,HL2,HZ2,(by unfold Hid;have := HR2.out;rw [List.append_nil] at this;exact this),HB2.out.drew⟩
   case measure => first | (simp [intOf];done) | (simp [intOf];omega)
theorem zZD {α : Type} (L : List α) {i n : Nat} (h : i < n) (x : α) : (L.set i x).drop n = L.drop n := by
 rw [List.drop_set,if_pos h]
theorem dtimes_step {Y zs : List Int} {V x y s c l h : Int} {i j : Nat} (hk : i + j < zs.length) (hs : zs[i + j] = s) (hy : j < Y.length) (hyv : Y[j] = y)
  (hv : dval zs + dpw (i + j) * c = V + dpw i * (x * dval (Y.take j))) (hl : l + 65536 * h = s + x * y + c) (hd : dpw (i + j) = dpw i * dpw j) :
  dval (zs.set (i + j) l) + dpw (i + (j + 1)) * h = V + dpw i * (x * dval (Y.take (j + 1))) := by
 rw [zRC zs (i + j) l hk,hs,zDC Y j hy,hyv,show i + (j + 1) = (i + j) + 1 by omega,dpw];rw [hd] at hv ⊢;unfold dwB;generalize dpw i = P at *;generalize dpw j = K at *;generalize dval zs = Z at *;generalize dval (Y.take j) = X at *;have e : l = s + x * y + c - 65536 * h := by omega
 subst e
 grind
theorem zSH : ∀ m n : Nat,dpw (m + n) = dpw m * dpw n
 | 0,n => by simp [dpw]
 | m + 1,n => by rw [show m + 1 + n = (m + n) + 1 by omega,dpw,dpw,zSH m n,Int.mul_assoc]
theorem drows_step {X Y zs zs' : List Int} {x c : Int} {i n : Nat} (hi : i < X.length) (hw : X[i] = x) (hz : dval zs = dval (X.take i) * dval Y) (h' : dval zs' + dpw (i + n) * c = dval zs + dpw i * (x * dval Y))
  (hk : i + n < zs'.length) (h0 : zs'[i + n] = 0) : dval (zs'.set (i + n) c) = dval (X.take (i + 1)) * dval Y := by
 rw [zRC zs' (i + n) c hk,h0,zDC X i hi,hw]
 grind
theorem dzeros_head {zs : List Int} {n j : Nat} (h : zs.drop n = List.replicate (j + 1) 0) : ∃ hn : n < zs.length,zs[n] = 0 := by
 have hl := congrArg List.length h;simp only [List.length_drop,List.length_replicate] at hl;refine ⟨by omega,?_⟩;have e : zs.drop n = zs[n]'(by omega) :: zs.drop (n + 1) := List.drop_eq_getElem_cons (by omega);rw [e,List.replicate_succ] at h;exact (List.cons.inj h).1
theorem dzeros_tail {zs : List Int} {n j : Nat} (h : zs.drop n = List.replicate (j + 1) 0) : zs.drop (n + 1) = List.replicate j 0 := by
 rw [show n + 1 = 1 + n by omega,Nat.add_comm 1 n,← List.drop_drop,h,List.replicate_succ]
 rfl
theorem zbF : ∀ n : Nat,dval (List.replicate n 0) = 0
 | 0 => rfl
 | n + 1 => by rw [List.replicate_succ,dval,zbF n];omega
theorem df_zeros (n : Nat) : DF (List.replicate n 0) := fun x hx => by rw [(List.mem_replicate.1 hx).2];unfold IsD dwB;omega
theorem dprod {x y : Int} (hx0 : 0 ≤ x) (hx1 : x ≤ 65535) (hy0 : 0 ≤ y) (hy1 : y ≤ 65535) : 0 ≤ x * y ∧ x * y ≤ 4294836225 := by
 refine ⟨Int.mul_nonneg hx0 hy0,?_⟩;have := Int.mul_le_mul hx1 hy1 hy0 (by omega);omega
theorem zxG {w : World} {v u : Value} {xs ys : List Int} (h : Sl w.heap.size w v xs) (h' : Sl w.heap.size w u ys) (hlen : xs.length ≤ 1099511627776) (hlen' : ys.length ≤ 1099511627776) :
  Calls Tryz.prog 65 #[v,u] w (Told w (val xs * val ys)) := by
 go_enter Tryz.func65,Tryz.ntmps65;go_wp2_with fail;refine (zfF h (by omega)).mono ?_;rintro e w1 ⟨X,rx,rfl,hs,hcx,hvx,hlx,hb⟩;have h1 := h'.now hb;have HVX := hid hvx;have HXD := hid hcx.1;clear hvx h h' hcx;go_wp2_with fail;refine (zfF h1 (by omega)).mono ?_;rintro e w2 ⟨Y,ry,rfl,hsy,hcy,hvy,hly,hb2⟩;have hsx := hs.now hb2;have HVY := hid hvy;have HYD := hid hcy.1;have hb12 := hid (below_step hb hb2);clear hvy h1 hs hb hb2 hcy;obtain ⟨hwx,a,capx,rfl,hlcx,hcmx,hmx⟩ := hsx;obtain ⟨hwy,b,capy,rfl,hlcy,hcmy,hmy⟩ := hsy;have HMX := hid hmx;have HMY := hid hmy;obtain ⟨n,hn⟩ : ∃ n,X.length = n := ⟨_,rfl⟩
 obtain ⟨m,hm⟩ : ∃ m,Y.length = m := ⟨_,rfl⟩
 rw [hn] at hlx hlcx;rw [hm] at hly hlcy;rw [hn,hm];have HN := hid hn;have HM := hid hm;have HTX : Hid (X.take n = X) := by unfold Hid;rw [← hn];simp
 have HTY : Hid (Y.take m = Y) := by unfold Hid;rw [← hm];simp
 clear hmx hmy hwx hwy hn hm;go_wp2_with (at_make;refine zfA _ rfl _ _ rfl _ _ (n + m) (n + m) rfl rfl (by omega) (by omega) (by omega) (by omega) ?_)
 intro w3 hrow hb3 hsz3;clear hsz3;go_wp2_with fail
 go_loopw [8] (fun i wr => ∃ (k : Nat) (zs : List Int),k ≤ n ∧ i = .int .i64 k ∧ Hid (zs.length = n + m) ∧ Hid (DF zs) ∧ Hid (dval zs = dval (X.take k) * dval Y) ∧ Hid (zs.drop (k + m) = List.replicate (n - k) 0) ∧ Hid (RowI wr w2.heap.size (wi zs)) ∧ Hid (Below w2.heap.size w2 wr)) (fun i _ => n - (intOf i).toNat)
 case atStart => exact ⟨0,List.replicate (n + m) 0,Nat.zero_le _,rfl,(by unfold Hid;simp),df_zeros _,(by unfold Hid;rw [zbF];simp [dval]),(by unfold Hid;simp),hrow,hb3⟩
 case round =>
  clear hrow hb3;obtain ⟨k,zs,hk,rfl,HL,HD,HV,HZ,hr,hb⟩ := hrel
  by_cases hlt : k < n
  ·have hk2 : k < X.length := by have := HN.out;omega
   rcases HMX.out with e | ⟨bx,ox,rfl,hbx,hcx⟩
   ·subst e;simp at hk2
   have CX : Hid (w2.cell? ⟨bx,ox + k,none⟩ = some (.int .i64 X[k])) := hcx k hk2;have hxd := HXD.out.get hk2;have HST : Hid (∀ zs' c,dval zs' + dpw (k + m) * c = dval zs + dpw k * (X[k] * dval Y) → ∀ hz : k + m < zs'.length,zs'[k + m] = 0 → dval (zs'.set (k + m) c) = dval (X.take (k + 1)) * dval Y) := fun zs' c g1 g2 g3 => drows_step hk2 rfl HV.out g1 g2 g3
   generalize X[k] = x at *;unfold IsD dwB at hxd;obtain ⟨hx0,hx1⟩ := hxd;obtain ⟨j1,hj1⟩ : ∃ j,n - k = j + 1 := ⟨n - k - 1,by omega⟩
   have HZ1 := hid HZ.out;rw [hj1] at HZ1;have HV1 : Hid (dval zs + dpw (k + 0) * 0 = dval zs + dpw k * (x * dval (Y.take 0))) := by unfold Hid;simp [dval]
   obtain ⟨Z0,hZ0⟩ : ∃ z,dval zs = z := ⟨_,rfl⟩
   rw [hZ0] at HST;rw [hZ0] at HV1;have HV1' : Hid (dval zs + dpw (k + 0) * 0 = Z0 + dpw k * (x * dval (Y.take 0))) := by unfold Hid;rw [hZ0];exact HV1.out
   clear hcx HV1 HV hZ0;go_wp2_with fail
   go_loopw [9,10] (fun c i wr => ∃ (j : Nat) (zs : List Int) (cc : Int),j ≤ m ∧ i = .int .i64 j ∧ c = .int .i64 cc ∧ 0 ≤ cc ∧ cc ≤ 65535 ∧ Hid (zs.length = n + m) ∧ Hid (DF zs) ∧ Hid (dval zs + dpw (k + j) * cc = Z0 + dpw k * (x * dval (Y.take j))) ∧ Hid (zs.drop (k + m) = List.replicate (j1 + 1) 0) ∧ Hid (RowI wr w2.heap.size (wi zs)) ∧ Hid (Below w2.heap.size w2 wr)) (fun _ i _ => m - (intOf i).toNat)
   case atStart => exact ⟨0,zs,0,Nat.zero_le _,rfl,rfl,by omega,by omega,HL,HD,HV1',HZ1,hr,hb⟩
   case round =>
    clear HL HD HV1' HZ1 HZ hr hb;obtain ⟨j,zs,cc,hj,rfl,rfl,hc0,hc1,HL,HD,HV,HZ,hr,hb⟩ := hrel
    by_cases hjm : j < m
    ·have hj2 : j < Y.length := by have := HM.out;omega
     have hp : k + j < zs.length := by have := HL.out;omega
     rcases HMY.out with e | ⟨by_,oy,rfl,hby,hcy⟩
     ·subst e;simp at hj2
     have c1 : wr.cell? ⟨bx,ox + k,none⟩ = some (.int .i64 x) := (hb.out.cell (p := ⟨bx,ox + k,none⟩) hbx).trans CX.out;have c2 : wr.cell? ⟨by_,oy + j,none⟩ = some (.int .i64 Y[j]) := (hb.out.cell (p := ⟨by_,oy + j,none⟩) hby).trans (hcy j hj2);have c3 : wr.cell? ⟨w2.heap.size,k + j,none⟩ = some (.int .i64 zs[k + j]) := RowI.num (r := []) (by simpa using hr.out) hp;have cf : wr.frozen? ⟨w2.heap.size,k + j,none⟩ = false := hr.out.frozen _;have hyd := HYD.out.get hj2;have hzd := HD.out.get hp;have hst : Hid (∀ l h,l + 65536 * h = zs[k + j] + x * Y[j] + cc → dval (zs.set (k + j) l) + dpw (k + (j + 1)) * h = Z0 + dpw k * (x * dval (Y.take (j + 1)))) := fun l h hl => dtimes_step hp rfl hj2 rfl HV.out hl (zSH k j)
     have HR2 : Hid (∀ z,RowI (wr.setCell ⟨w2.heap.size,k + j,none⟩ (.int .i64 z)) w2.heap.size (wi (zs.set (k + j) z) ++ [])) := fun z => RowI.setNum (r := []) (by simpa using hr.out) hp z
     have HB2 : Hid (∀ z,Below w2.heap.size w2 (wr.setCell ⟨w2.heap.size,k + j,none⟩ (.int .i64 z))) := fun z => hb.out.setCell (p := ⟨w2.heap.size,k + j,none⟩) (Nat.le_refl _) (.int .i64 z)
     have HD2 : Hid (∀ z,0 ≤ z → z ≤ 65535 → DF (zs.set (k + j) z)) := fun z z0 z1 => HD.out.set (k + j) (by unfold IsD dwB;omega)
     have HL2 : Hid (∀ z,(zs.set (k + j) z).length = n + m) := fun z => by rw [List.length_set];exact HL.out
     have HZ2 : Hid (∀ z,(zs.set (k + j) z).drop (k + m) = List.replicate (j1 + 1) 0) := fun z => by rw [zZD _ (by omega)];exact HZ.out
     generalize Y[j] = y at *;generalize zs[k + j] = s at *;unfold IsD dwB at hyd hzd;obtain ⟨hy0,hy1⟩ := hyd;obtain ⟨hs0,hs1⟩ := hzd;obtain ⟨hxy0,hxy1⟩ := dprod hx0 (show x ≤ 65535 by omega) hy0 (show y ≤ 65535 by omega);have HXY : Hid (∃ q,x * y = q) := ⟨_,rfl⟩
     have i0 : (0 : Int) ≤ (k : Int) := by omega
     have i1 : (k : Int) < (n : Int) := by omega
     have i2 : (0 : Int) ≤ (j : Int) := by omega
     have i3 : (j : Int) < (m : Int) := by omega
     have i4 : (k : Int) + (j : Int) < (n : Int) + (m : Int) := by omega
     clear hcy HL HD HV HZ hr hb;go_wp2_with fail;go_region;obtain ⟨T,hT⟩ : ∃ T,s + x * y + cc = T := ⟨_,rfl⟩
     have hT0 : 0 ≤ T := by omega
     have hT1 : T ≤ 4294967295 := by omega
     rw [hT];have HT := hid hT;clear hT hxy0 hxy1;go_wp2;go_roundw
     case rel => exact ⟨j + 1,zs.set (k + j) (T % 65536),T / 65536,by omega,by go_num,rfl,by omega,by omega,HL2.out _,HD2.out _ (by omega) (by omega),hst.out _ _ (by rw [HT.out];omega),HZ2.out _,(by unfold Hid;have := HR2.out (T % 65536);rw [List.append_nil] at this;exact this),(HB2.out _).drew⟩
     case measure => first | (simp [intOf];done) | (simp [intOf];omega)
    ·obtain rfl : j = m := by omega
     rw [HTY.out] at HV;obtain ⟨hk3,hz3⟩ := dzeros_head HZ.out;have c3 : wr.cell? ⟨w2.heap.size,k + j,none⟩ = some (.int .i64 zs[k + j]) := RowI.num (r := []) (by simpa using hr.out) hk3;have cf : wr.frozen? ⟨w2.heap.size,k + j,none⟩ = false := hr.out.frozen _;have HV4 := hid (HST.out zs cc HV.out hk3 hz3);have HR4 := hid (RowI.setNum (r := []) (by simpa using hr.out) hk3 cc);have HB4 := hid (hb.out.setCell (p := ⟨w2.heap.size,k + j,none⟩) (Nat.le_refl _) (.int .i64 cc));have HD4 := hid (HD.out.set (k + j) (show IsD cc by unfold IsD dwB;omega));have HL4 : Hid ((zs.set (k + j) cc).length = n + j) := by unfold Hid;rw [List.length_set];exact HL.out
     have HZ4 : Hid ((zs.set (k + j) cc).drop (k + 1 + j) = List.replicate (n - (k + 1)) 0) := by
      unfold Hid;rw [show k + 1 + j = k + j + 1 by omega,zZD _ (by omega),dzeros_tail HZ.out]
      congr 1
      omega
     generalize zs[k + j] = z at *;generalize zs.set (k + j) cc = zs'' at *;clear hz3 HL HD HV HZ hr hb HST;go_wp2;go_roundw
     case rel => exact ⟨k + 1,zs'',by omega,by go_num,HL4,HD4,HV4,HZ4,(by unfold Hid;have := HR4.out;rw [List.append_nil] at this;exact this),HB4⟩
     case measure => first | (simp [intOf];done) | (simp [intOf];omega)
  ·obtain rfl : k = n := by omega
   rw [HTX.out] at HV;have hsl : SlI wr.heap.size wr (.slice (some ⟨w2.heap.size,0,none⟩) (k + m) (k + m)) zs := by
    have := RowI.sl (r := []) (by simpa using hr.out) (fun p hp => by have := HD.out p hp;unfold IsD dwB at this;omega) (cap := k + m) (by rw [HL.out];exact Nat.le_refl _) (by omega) hr.out.lt;rw [HL.out] at this;exact this
   have HW := hid (words_any hsl HD.out);clear hsl;go_wp2_with fail;refine HW.out.mono ?_;rintro e w5 ⟨qs,r,rfl,ho,hcz,hvz,hb5⟩;have HVZ := hid hvz;clear hvz HW;go_wp2;go_ret;have hbb := below_step hb12.out (below_step hb.out hb5);refine ⟨qs,r,rfl,⟨ho.1,?_⟩,hcz,by rw [HVZ.out,HV.out,HVX.out,HVY.out],hbb⟩;rcases ho.2 with q1 | ⟨g,r',q1,q2,q3,q4⟩
   ·exact .inl q1
   ·exact .inr ⟨g,r',Nat.le_trans (Nat.le_trans hb12.out.size hb.out.size) q1,q2,q3,q4⟩
theorem zmF {w : World} {va : Value} {A : Int} {ka : Nat} (ha : Zi w va A ka) (hk : ka ≤ 1099511627776) :
  Calls Tryz.prog 22 #[va] w (zOA w A ka) := by
 have za0 := ha;obtain ⟨na,xa,aa,ca,rfl,sa,ea,la⟩ := ha;obtain ⟨W0,hW0⟩ : ∃ W0,(w.alloc (duo (.bool na) (.slice aa xa.length ca))).alloc zbox = W0 := ⟨_,rfl⟩
 obtain ⟨b0,sz0⟩ := zXA w (duo (.bool na) (.slice aa xa.length ca)) zbox;rw [hW0] at b0 sz0;have pa : Duo W0 (w.heap.size) (.bool na) (.slice aa xa.length ca) := by rw [← hW0];exact zAA (zCA (by simp)) _
 have r0 : Duo W0 (w.heap.size + 1) (.bool false) (.slice none 0 0) := by rw [← hW0];exact zCA (by simp)
 have Pa := hid pa;have ia0 := pa.c0;have ia1 := pa.c1;have Za := hid (za0.now b0);have Sa := hid (sa.now b0);have R0 := hid r0;have EW := hid hW0;have G := hid b0;clear b0 hW0 za0 sa pa r0;have EV : Hid (iv na xa = A) := by
  unfold Hid;have hx := Sa.out.1;exact ea
 clear ea;have HL : Hid (Calls Tryz.prog 61 #[.bool na,.slice aa xa.length ca] W0 (zOA W0 A xa.length)) := by
  unfold Hid;have q := znB (n := na) Sa.out (by omega);rw [EV.out] at q;exact q
 clear EV;go_enter Tryz.func22,Tryz.ntmps22;go_wp2_with fail;rw [EW.out];clear ia0 ia1;refine (HL.out).mono ?_;rintro e w1 ⟨r,rfl,m1,b⟩;obtain ⟨n1,x1,a1,q1,rfl,-,-,-,-,-⟩ := id m1;replace R0 := hid (R0.out.step b);replace G := hid (below_step G.out b);have Z1 := hid (m1.more la);clear b m1;have y00 := R0.out.c0;have y01 := R0.out.c1;have f00 := R0.out.fz 0;have f01 := R0.out.fz 1;go_wp2;exact bodyPost_ret (zBB Tryz.results22 (R0.out.set _ _) _ (by rfl)) rfl (zWB (B := W0.heap.size) Z1.out G.out (by omega) (by omega))
theorem zBH {w : World} {va : Value} {A : Int} {ka : Nat} (ha : Zi w va A ka) (hk : ka ≤ 1099511627776) :
  Calls Tryz.prog 29 #[va] w (zOA w (A.natAbs : Int) ka) := by
 have za0 := ha;obtain ⟨na,xa,aa,ca,rfl,sa,ea,la⟩ := ha;obtain ⟨W0,hW0⟩ : ∃ W0,(w.alloc (duo (.bool na) (.slice aa xa.length ca))).alloc zbox = W0 := ⟨_,rfl⟩
 obtain ⟨b0,sz0⟩ := zXA w (duo (.bool na) (.slice aa xa.length ca)) zbox;rw [hW0] at b0 sz0;have pa : Duo W0 (w.heap.size) (.bool na) (.slice aa xa.length ca) := by rw [← hW0];exact zAA (zCA (by simp)) _
 have r0 : Duo W0 (w.heap.size + 1) (.bool false) (.slice none 0 0) := by rw [← hW0];exact zCA (by simp)
 have Pa := hid pa;have ia0 := pa.c0;have ia1 := pa.c1;have Za := hid (za0.now b0);have Sa := hid (sa.now b0);have R0 := hid r0;have EW := hid hW0;have G := hid b0;clear b0 hW0 za0 sa pa r0;have EV : Hid (iv false xa = (A.natAbs : Int)) := by
  unfold Hid;have hx := Sa.out.1;rw [zdB];exact zbC hx ea
 clear ea;have HL : Hid (Calls Tryz.prog 61 #[.bool false,.slice aa xa.length ca] W0 (zOA W0 (A.natAbs : Int) xa.length)) := by
  unfold Hid;have q := znB (n := false) Sa.out (by omega);rw [EV.out] at q;exact q
 clear EV;go_enter Tryz.func29,Tryz.ntmps29;go_wp2_with fail;rw [EW.out];clear ia0 ia1;refine (HL.out).mono ?_;rintro e w1 ⟨r,rfl,m1,b⟩;obtain ⟨n1,x1,a1,q1,rfl,-,-,-,-,-⟩ := id m1;replace R0 := hid (R0.out.step b);replace G := hid (below_step G.out b);have Z1 := hid (m1.more la);clear b m1;have y00 := R0.out.c0;have y01 := R0.out.c1;have f00 := R0.out.fz 0;have f01 := R0.out.fz 1;go_wp2;exact bodyPost_ret (zBB Tryz.results29 (R0.out.set _ _) _ (by rfl)) rfl (zWB (B := W0.heap.size) Z1.out G.out (by omega) (by omega))
theorem zTI {n : Int} (h0 : -9223372036854775808 ≤ n) (h1 : n ≤ 9223372036854775807) (w : World) :
  Calls Tryz.prog 23 #[.int .i64 n] w (zOA w n 1) := by
 by_cases hn : n < 0
 ·skip
  obtain ⟨x,hx⟩ : ∃ x,(-n) = x := ⟨_,rfl⟩
  have bx : 0 ≤ x ∧ x ≤ 18446744073709551615 := by omega
  have e1 : IntKind.u64.wrap (wrap64 (-n)) = x := by rw [IntKind.wrap_u64];unfold wrap64;omega
  have EV : iv true [x] = n := by simp [iv,val];omega
  obtain ⟨W0,hW0⟩ : ∃ W0,(w.alloc zbox).alloc (.cells #[.int .u64 x] 53) = W0 := ⟨_,rfl⟩
  obtain ⟨b0,sz0⟩ := zXA w zbox (.cells #[.int .u64 x] 53);rw [hW0] at b0 sz0;have r0 : Duo W0 w.heap.size (.bool false) (.slice none 0 0) := by rw [← hW0];exact zAA (zCA rfl) _
  have hs : Sl W0.heap.size W0 (.slice (some ⟨w.heap.size + 1,0,none⟩) 1 1) [x] := by
   have := zID (w.alloc zbox) x bx;rw [hW0] at this
   simpa using this
  have HL := hid (znB (n := true) (xs := [x]) hs (by simp));rw [EV] at HL;have R0 := hid r0;have EW := hid hW0;have G := hid b0;have EX := hid hx;clear hs r0 hW0 b0 bx EV hx;go_enter Tryz.func23,Tryz.ntmps23;go_wp2_with fail;rw [EW.out];refine HL.out.mono ?_;rintro e w1 ⟨r,rfl,m1,b⟩;obtain ⟨n1,x1,a1,q1,rfl,-,-,-,-,-⟩ := id m1;replace R0 := hid (R0.out.step b);replace G := hid (below_step G.out b);have Z1 := hid m1;clear b m1;have y00 := R0.out.c0;have y01 := R0.out.c1;have f00 := R0.out.fz 0;have f01 := R0.out.fz 1;go_wp2;exact bodyPost_ret (zBB Tryz.results23 (R0.out.set _ _) _ (by rfl)) rfl (zWB (B := W0.heap.size) Z1.out G.out (by omega) (by omega))
 ·skip
  have hn' : ¬ n < 0 := hn;obtain ⟨x,hx⟩ : ∃ x,n = x := ⟨_,rfl⟩
  have bx : 0 ≤ x ∧ x ≤ 18446744073709551615 := by omega
  have e1 : IntKind.u64.wrap n = x := by rw [IntKind.wrap_u64];omega
  have EV : iv false [x] = n := by simp [iv,val];omega
  obtain ⟨W0,hW0⟩ : ∃ W0,(w.alloc zbox).alloc (.cells #[.int .u64 x] 53) = W0 := ⟨_,rfl⟩
  obtain ⟨b0,sz0⟩ := zXA w zbox (.cells #[.int .u64 x] 53);rw [hW0] at b0 sz0;have r0 : Duo W0 w.heap.size (.bool false) (.slice none 0 0) := by rw [← hW0];exact zAA (zCA rfl) _
  have hs : Sl W0.heap.size W0 (.slice (some ⟨w.heap.size + 1,0,none⟩) 1 1) [x] := by
   have := zID (w.alloc zbox) x bx;rw [hW0] at this
   simpa using this
  have HL := hid (znB (n := false) (xs := [x]) hs (by simp));rw [EV] at HL;have R0 := hid r0;have EW := hid hW0;have G := hid b0;have EX := hid hx;clear hs r0 hW0 b0 bx EV hx;go_enter Tryz.func23,Tryz.ntmps23;go_wp2_with fail;rw [EW.out];refine HL.out.mono ?_;rintro e w1 ⟨r,rfl,m1,b⟩;obtain ⟨n1,x1,a1,q1,rfl,-,-,-,-,-⟩ := id m1;replace R0 := hid (R0.out.step b);replace G := hid (below_step G.out b);have Z1 := hid m1;clear b m1;have y00 := R0.out.c0;have y01 := R0.out.c1;have f00 := R0.out.fz 0;have f01 := R0.out.fz 1;go_wp2;exact bodyPost_ret (zBB Tryz.results23 (R0.out.set _ _) _ (by rfl)) rfl (zWB (B := W0.heap.size) Z1.out G.out (by omega) (by omega))
theorem zcI {w : World} {va vb : Value} {A B : Int} {ka kb : Nat} (ha : Zi w va A ka) (hb : Zi w vb B kb) (hk : ka ≤ 1099511627776) (hl : kb ≤ 1099511627776) :
  Calls Tryz.prog 32 #[va,vb] w (zOA w (A * B) (ka + kb)) := by
 have za0 := ha;obtain ⟨na,xa,aa,ca,rfl,sa,ea,la⟩ := ha;have zb0 := hb;obtain ⟨nb,xb,ab,cb,rfl,sb,eb,lb⟩ := hb;obtain ⟨W0,hW0⟩ : ∃ W0,((w.alloc (duo (.bool na) (.slice aa xa.length ca))).alloc (duo (.bool nb) (.slice ab xb.length cb))).alloc zbox = W0 := ⟨_,rfl⟩
 obtain ⟨b0,sz0⟩ := zKB w (duo (.bool na) (.slice aa xa.length ca)) (duo (.bool nb) (.slice ab xb.length cb)) zbox;rw [hW0] at b0 sz0;have pa : Duo W0 (w.heap.size) (.bool na) (.slice aa xa.length ca) := by rw [← hW0];exact zAA (zAA (zCA (by simp)) _) _
 have pb : Duo W0 (w.heap.size + 1) (.bool nb) (.slice ab xb.length cb) := by rw [← hW0];exact zAA (zCA (by simp)) _
 have r0 : Duo W0 (w.heap.size + 1 + 1) (.bool false) (.slice none 0 0) := by rw [← hW0];exact zCA (by simp)
 have Pa := hid pa;have ia0 := pa.c0;have ia1 := pa.c1;have Za := hid (za0.now b0);have Sa := hid (sa.now b0);have Pb := hid pb;have ib0 := pb.c0;have ib1 := pb.c1;have Zb := hid (zb0.now b0);have Sb := hid (sb.now b0);have R0 := hid r0;have EW := hid hW0;have G := hid b0;clear b0 hW0 za0 sa pa zb0 sb pb r0;have HV : Hid (∀ zs,val zs = val xa * val xb → iv (na != nb) zs = A * B) := fun zs e => by
  rw [← ea,← eb];cases na <;> cases nb <;> simp [iv,e,Int.mul_neg,Int.neg_mul]
 have HLt := hid (zIB Sa.out.1 Sb.out.1);clear ea eb;go_enter Tryz.func32,Tryz.ntmps32;go_wp2_with fail;rw [EW.out];clear ia0 ia1 ib0 ib1;refine (zxG Sa.out Sb.out (by omega) (by omega)).mono ?_;rintro e w1 ⟨zs,r,rfl,ho,hc,hv,b⟩;obtain ⟨az,cz,rfl⟩ := ho.form;have hk1 : zs.length ≤ xa.length + xb.length := zSA hc (by rw [hv];exact HLt.out);have HM := hid ho.sl;have lw := b.size;have EV := hid (HV.out zs hv);replace Pa := hid (Pa.out.step b);have ia0 := Pa.out.c0;have ia1 := Pa.out.c1;replace Pb := hid (Pb.out.step b);have ib0 := Pb.out.c0;have ib1 := Pb.out.c1;replace R0 := hid (R0.out.step b);replace G := hid (below_step G.out b);clear b ho hc hv HV HLt;go_wp2_with fail;clear ia0 ia1 ib0 ib1;have HL : Hid (Calls Tryz.prog 61 #[.bool (na != nb),.slice az zs.length cz] w1 (zOA w1 (A * B) zs.length)) := by
  unfold Hid;have q := znB (n := na != nb) HM.out (by omega);rw [EV.out] at q;exact q
 refine (HL.out).mono ?_;rintro e w2 ⟨r,rfl,m2,b⟩;obtain ⟨n2,x2,a2,q2,rfl,-,-,-,-,-⟩ := id m2;replace R0 := hid (R0.out.step b);replace G := hid (below_step G.out b);have Z2 := hid ((m2.mono (B' := W0.heap.size) lw).more (l := ka + kb) (by omega));clear b m2;have y00 := R0.out.c0;have y01 := R0.out.c1;have f00 := R0.out.fz 0;have f01 := R0.out.fz 1;go_wp2;exact bodyPost_ret (zBB Tryz.results32 (R0.out.set _ _) _ (by rfl)) rfl (zWB (B := W0.heap.size) Z2.out G.out (by omega) (by omega))
end Go.Proofs.YtkdobgbicnemcaaGreatDoor
