/-
 QROrderToRDigits: ROrder, RLeast, R5Made, RDigits, joined.
-/
import Derived.Test.YtdeomkkpainakaaGreatQSlIntsToJoin
import Derived.Test.YtdeomkkpainakaaGreatQZModToGcd6
import Derived.Test.YtdeomkkpainakaaGreatQZStoreToLst9

set_option maxRecDepth 100000
set_option maxHeartbeats 6400000
set_option linter.unusedVariables false
set_option linter.unusedSimpArgs false
namespace Go.Proofs.YtdeomkkpainakaaGreat
open Go.RowKit
theorem zwC {B : Nat} {w : World} {v u : Value} {xs ys : List Int} (h : SlI B w v xs) (h' : SlI B w u ys) (hx : zOD xs) (hy : zOD ys) :
  Calls Tryz.prog 55 #[v,u] w fun e w' => e = .returned (.int .i64 (cmpI (dval xs) (dval ys))) ∧ ∃ n,w' = w.drewN n := by
 obtain ⟨hw,a,cap,rfl,hlc,hcm,hm⟩ := h;obtain ⟨hw',a',cap',rfl,hlc',hcm',hm'⟩ := h'
 by_cases hne : xs.length = ys.length
 ·have HE : Hid ((∀ j (h1 : j < xs.length) (h2 : j < ys.length),xs[j] = ys[j]) → cmpI (dval xs) (dval ys) = 0) := fun he => by
   rw [List.ext_getElem hne he,cmpI_self]
  have HH : Hid (∀ j (h1 : j < xs.length) (h2 : j < ys.length),(∀ i (h1 : i < xs.length) (h2 : i < ys.length),j < i → xs[i] = ys[i]) → xs[j] ≠ ys[j] → cmpI (dval xs) (dval ys) = cmpI xs[j] ys[j]) := fun j h1 h2 he hq => by
   refine zEH hx.1 hy.1 hne h1 ?_ hq;refine List.ext_getElem (by simp;omega) (fun i h3 h4 => ?_);simp only [List.getElem_drop];simp only [List.length_drop] at h3 h4;exact he _ _ _ (by omega)
  generalize cmpI (dval xs) (dval ys) = C at *;have HNE := hid hne;obtain ⟨n,hn⟩ : ∃ n,n = ys.length := ⟨_,rfl⟩
  rw [← hn] at hne hlc';rw [hne,← hn];rw [hne] at hlc;have HN := hid hn;have hnn : ((n : Int) != (n : Int)) = false := by simp
  clear hne hw hw' hn;go_enter Tryz.func55,Tryz.ntmps55;go_wp2_with fail
  go_loopw [5] (fun i wr => ∃ k : Nat,k ≤ n ∧ i = .int .i64 ((k : Int) - 1) ∧ (∃ q,wr = w.drewN q) ∧ ∀ j (h1 : j < xs.length) (h2 : j < ys.length),k ≤ j → xs[j] = ys[j]) (fun i _ => (intOf i + 1).toNat)
  case atStart => exact ⟨n,Nat.le_refl _,rfl,⟨0,rfl⟩,fun j h1 h2 h => by have := HN.out;omega⟩
  case round =>
   obtain ⟨k,hk,rfl,hq,he⟩ := hrel;have hcw : ∀ a,wr.cell? a = w.cell? a := by obtain ⟨q,rfl⟩ := hq;intro a;rfl
   have HQ := hid hq;have HR := hid he;clear hq he
   by_cases hk0 : k = 0
   ·subst hk0
    clear hcw;go_wp2_with fail;go_ret;refine ⟨?_,HQ.out⟩;rw [HE.out (fun j h1 h2 => HR.out j h1 h2 (by omega))]
    rfl
   ·obtain ⟨j,rfl⟩ : ∃ j,k = j + 1 := ⟨k - 1,by omega⟩
    have hj2 : j < ys.length := by have := HN.out;omega
    have hj1 : j < xs.length := by have := HNE.out;omega
    rcases hm with e | ⟨b,off,rfl,hb,hc⟩
    ·subst e;simp at hj1
    rcases hm' with e | ⟨b',off',rfl,hb',hc'⟩
    ·subst e;simp at hj2
    have c1 : wr.cell? ⟨b,off + j,none⟩ = some (.int .i64 xs[j]) := by rw [hcw];exact hc j hj1
    have c2 : wr.cell? ⟨b',off' + j,none⟩ = some (.int .i64 ys[j]) := by rw [hcw];exact hc' j hj2
    clear hcw hc hc';have HXY := hid (HH.out j hj1 hj2 (fun i h1 h2 h3 => HR.out i h1 h2 (by omega)));have HX : Hid (∀ i (h1 : i < xs.length) (h2 : i < ys.length),xs[j] = ys[j] → j ≤ i → xs[i] = ys[i]) := fun i h1 h2 he hi => by
     by_cases e : i = j
     ·subst e;exact he
     ·exact HR.out i h1 h2 (by omega)
    generalize xs[j] = x at *;generalize ys[j] = y at *;clear hk0 HR;have i0 : (0 : Int) ≤ (j : Int) := by omega
    have i1 : (j : Int) < (n : Int) := by omega
    rcases Int.lt_trichotomy x y with q | q | q
    ·go_wp2_with fail
     go_quiet (fail);go_wp2;go_ret;refine ⟨?_,by obtain ⟨q,hq⟩ := HQ.out;exact ⟨q + nq,by rw [hq,World.drewN_drewN]⟩⟩;rw [HXY.out (by omega),zlA q]
     rfl
    ·have q1 : ¬ x < y := by omega
     have q2 : ¬ y < x := by omega
     have Q := hid q;clear q;go_wp2_with fail;go_quiet (fail);go_wp2_with fail;go_quiet (fail);go_wp2;go_roundw
     case rel => exact ⟨j,by omega,rfl,zoF HQ.out _,fun i h1 h2 h3 => HX.out i h1 h2 Q.out h3⟩
     case measure => simp [intOf]
    ·have q1 : ¬ x < y := by omega
     go_wp2_with fail;go_quiet (fail);go_wp2_with fail;go_quiet (fail);go_wp2;go_ret;refine ⟨?_,zoF (zoF HQ.out _) _⟩;rw [HXY.out (by omega),zkA q]
     rfl
 ·have hnn : ((xs.length : Int) != (ys.length : Int)) = true := by rw [bne_iff_ne];omega
  have HC : Hid (cmpI (dval xs) (dval ys) = cmpI (xs.length : Int) (ys.length : Int)) := by
   unfold Hid;rw [dcmp_widths hx.1 hy.1 (by rw [hx.2,hy.2];exact hne),hx.2,hy.2]
  generalize cmpI (dval xs) (dval ys) = C at *
  by_cases hlt : (xs.length : Int) < (ys.length : Int)
  ·rw [HC.out,zlA hlt]
   clear HC hx hy hm hm' hw hw';go_enter Tryz.func55,Tryz.ntmps55;go_wp2;go_ret;exact ⟨rfl,0,rfl⟩
  ·rw [HC.out,zkA (by omega)]
   clear HC hx hy hm hm' hw hw';go_enter Tryz.func55,Tryz.ntmps55;go_wp2;go_ret;exact ⟨rfl,0,rfl⟩
theorem rleast_any {w : World} {v : Value} {xs : List Int} (h : Sl w.heap.size w v xs) (hlen : xs.length ≤ 8796093022208) :
  Calls Tryz.prog 54 #[v] w (Told w (val xs)) := by
 have HS := hid (zyA h hlen);clear h;go_enter Tryz.func54,Tryz.ntmps54;go_wp2_with fail;refine HS.out.mono ?_;rintro e w1 ⟨ds,r,rfl,hs,hc,hv,_,hb⟩;have HV := hid hv;clear hv HS;go_wp2_with fail;refine (ztE hs hc.1).mono ?_;rintro e w2 ⟨zs,q,rfl,ho,hcz,hvz,hb2⟩;have HVZ := hid hvz;clear hvz;go_wp2;go_ret;refine ⟨zs,q,rfl,⟨ho.1,?_⟩,hcz,by rw [HVZ.out,HV.out],below_step hb hb2⟩;rcases ho.2 with h1 | ⟨g,r',h1,h2,h3,h4⟩
 ·exact .inl h1
 ·exact .inr ⟨g,r',Nat.le_trans hb.size h1,h2,h3,h4⟩
theorem zHG {w : World} {v u : Value} {xs ys : List Int} (h : Sl w.heap.size w v xs) (h' : Sl w.heap.size w u ys) (hlen : xs.length ≤ 8796093022208) (hlen' : ys.length ≤ 8796093022208) :
  Calls Tryz.prog 30 #[v,u] w fun e w' => e = .returned (.int .i64 (cmpI (val xs) (val ys))) ∧ Below w.heap.size w w' := by
 go_enter Tryz.func30,Tryz.ntmps30;go_wp2_with fail;refine (zyA h hlen).mono ?_;rintro e w1 ⟨ds,r,rfl,hs,hc,hv,_,hb⟩;have h1 := h'.now hb;have HV := hid hv;clear hv h h';go_wp2_with fail;refine (zyA h1 hlen').mono ?_;rintro e w2 ⟨ds',r',rfl,hs',hc',hv',_,hb2⟩;have h2 := hs.now hb2;have HV' := hid hv';have hb12 := below_step hb hb2;clear hv' h1 hs hb hb2;go_wp2_with fail;refine (zwC h2 hs' hc hc').mono ?_;rintro e w3 ⟨rfl,n,rfl⟩;rw [HV.out,HV'.out];go_wp2;go_ret;exact ⟨rfl,below_drewN hb12 n⟩
theorem zqG {w : World} {n : Bool} {xs : List Int} {a : Option Addr} {c : Nat} (h : Sl w.heap.size w (.slice a xs.length c) xs) (hl : xs.length ≤ 8796093022208) :
  Calls Tryz.prog 29 #[.bool n,.slice a xs.length c] w (zhA w (iv n xs) xs.length) := by
 obtain ⟨W0,hW0⟩ : ∃ W0,w.alloc zbox = W0 := ⟨_,rfl⟩
 obtain ⟨b0,sz0⟩ := zgE w zbox;rw [hW0] at b0 sz0;have r0 : Duo W0 w.heap.size (.bool false) (.slice none 0 0) := by rw [← hW0];exact zFA rfl
 have hx := hid h.1;have HL := hid (rleast_any (h.now b0) hl);have R0 := hid r0;have EW := hid hW0;have G := hid b0;clear h r0 hW0 b0 hl;go_enter Tryz.func29,Tryz.ntmps29;go_wp2_with fail;rw [EW.out];refine HL.out.mono ?_;rintro e w1 ⟨zs,r,rfl,ho,hc,hv,b1⟩;obtain ⟨az,cz,rfl⟩ := ho.form;have HM := hid ho.mine5;have HC := hid hc;have hk : Hid (zs.length ≤ xs.length) := zrA hc (by rw [hv];exact zWA hx.out);have HV := hid (zUE n hv);replace R0 := hid (R0.out.step b1);replace G := hid (below_step G.out b1);have y0 := R0.out.c0;have y1 := R0.out.c1;have f0 := R0.out.fz 0;have f1 := R0.out.fz 1;clear ho hc hv b1 HL;have fin : Hid (zhA w (iv n xs) xs.length (.returned (.agg #[.bool (n && decide (0 < zs.length)),.slice az zs.length cz])) ((w1.setCell ⟨w.heap.size,0,none⟩ (.bool (n && decide (0 < zs.length)))).setCell ⟨w.heap.size,1,none⟩ (.slice az zs.length cz))) := by
  unfold Hid;rw [← HV.out];exact zNC (B := W0.heap.size) (zaG HM.out HC.out hk.out) G.out (by omega) (by omega)
 cases n
 ·go_wp2
  exact bodyPost_ret (zLB Tryz.results29 (R0.out.set _ _) _ (by rfl)) rfl fin.out
 ·simp only [Bool.true_and] at fin
  go_wp2;exact bodyPost_ret (zLB Tryz.results29 (R0.out.set _ _) _ (by rfl)) rfl fin.out
theorem digit_step {zs : List Int} {y R : Int} {p : Nat} (hp : p < zs.length) (h0 : zs[p] = 0) (hv : dval zs + dpw p * y = R) : dval (zs.set p (y % 65536)) + dpw (p + 1) * (y / 65536) = R := by
 rw [znB zs p _ hp,h0,dpw];unfold dwB;have e : y = y % 65536 + 65536 * (y / 65536) := by omega
 generalize y % 65536 = a at *;generalize y / 65536 = b at *;subst e
 grind
theorem digit_is {y : Int} (h : 0 ≤ y) : IsD (y % 65536) := by unfold IsD dwB;omega
theorem zaE {w : World} {v : Value} {xs : List Int} (h : Sl w.heap.size w v xs) (hlen : xs.length ≤ 8796093022208) :
  Calls Tryz.prog 107 #[v] w fun e w' => ∃ ds r,e = .returned r ∧ SlI w'.heap.size w' r ds ∧ zOD ds ∧ dval ds = val xs ∧ ds.length ≤ 4 * xs.length ∧ Below w.heap.size w w' := by
 obtain ⟨hw,a,cap,rfl,hlc,hcm,hm⟩ := h;have HW := hid hw;have HM := hid hm;have HTL : Hid (xs.take xs.length = xs) := by unfold Hid;simp
 have HV0 : Hid (∀ n,dval (List.replicate n 0) = 0) := fun n => by
  induction n with
  | zero => rfl
  | succ n ih => rw [List.replicate_succ,dval,ih];omega
 clear hm hw;go_enter Tryz.func107,Tryz.ntmps107;go_wp2_with (at_make;refine zbA _ rfl _ _ rfl _ _ (4 * xs.length) (4 * xs.length) rfl rfl (by omega) (by omega) (by omega) (by omega) ?_)
 intro w2 hrow hb2 hsz2;have hhs : w.heap.size < w2.heap.size := by have := hsz2.out;omega
 clear hsz2;go_wp2_with fail
 go_loopw [4] (fun i wr => ∃ (k : Nat) (zs : List Int),k ≤ xs.length ∧ i = .int .i64 k ∧ Hid (zs.length = 4 * xs.length) ∧ Hid (DF zs) ∧ Hid (∀ j (h : j < zs.length),4 * k ≤ j → zs[j] = 0) ∧ Hid (dval zs = val (xs.take k)) ∧
   Hid (RowI wr w.heap.size (wi zs)) ∧ Hid (Below w.heap.size w wr)) (fun i _ => xs.length - (intOf i).toNat)
 case atStart => exact ⟨0,List.replicate (4 * xs.length) 0,Nat.zero_le _,rfl,(by unfold Hid;simp),(fun x hx => by rw [(List.mem_replicate.1 hx).2];unfold IsD dwB;omega),(fun j h _ => by simp),(by unfold Hid;rw [HV0.out];simp [val]),hrow,hb2⟩
 case round =>
  clear hrow hb2 hhs;obtain ⟨k,zs,hk,rfl,HL,HD,HZ,HV,hr,hb⟩ := hrel
  by_cases hlt : k < xs.length
  ·rcases HM.out with e | ⟨b,off,rfl,hbg,hc⟩
   ·subst e;simp at hlt
   have c1 : wr.cell? ⟨b,off + k,none⟩ = some (.int .u64 xs[k]) := (hb.out.cell (p := ⟨b,off + k,none⟩) hbg).trans (hc k hlt);have hx := HW.out.get hlt;have HTK := hid (zMA xs k hlt);clear hc;generalize xs[k] = x at *;unfold IsW wB at hx;obtain ⟨hx0,hx1⟩ := hx;have HV1 : Hid (dval zs + dpw (4 * k + 0) * x = val (xs.take k) + x * pw k) := by
    unfold Hid;rw [HV.out,Nat.add_zero,zpC,Int.mul_comm]
   have HB1 : Hid (x * 65536 ^ 0 ≤ 18446744073709551615) := by unfold Hid;simp;omega
   go_wp2_with fail
   go_loopw [5,6] (fun y i wr => ∃ (j : Nat) (zs : List Int) (yy : Int),j ≤ 4 ∧ i = .int .i64 j ∧ y = .int .u64 yy ∧ 0 ≤ yy ∧ yy ≤ 18446744073709551615 ∧ Hid (zs.length = 4 * xs.length) ∧ Hid (DF zs) ∧ Hid (∀ t (h : t < zs.length),4 * k + j ≤ t → zs[t] = 0) ∧
     Hid (yy * 65536 ^ j ≤ 18446744073709551615) ∧ Hid (dval zs + dpw (4 * k + j) * yy = val (xs.take k) + x * pw k) ∧ Hid (RowI wr w.heap.size (wi zs)) ∧ Hid (Below w.heap.size w wr)) (fun _ i _ => 4 - (intOf i).toNat)
   case atStart => exact ⟨0,zs,x,by omega,rfl,rfl,hx0,by omega,HL,HD,HZ,HB1,HV1,hr,hb⟩
   case round =>
    clear HL HD HB1 HV1 hr hb HV HZ;obtain ⟨j,zs,yy,hj,rfl,rfl,hy0,hy1,HL,HD,HZ,HB,HV,hr,hb⟩ := hrel
    by_cases hj4 : j < 4
    ·have hp : 4 * k + j < zs.length := by have := HL.out;omega
     have hz := HZ.out _ hp (Nat.le_refl _);have c2 : wr.cell? ⟨w.heap.size,4 * k + j,none⟩ = some (.int .i64 zs[4 * k + j]) := RowI.num (r := []) (by simpa using hr.out) hp;have cf : wr.frozen? ⟨w.heap.size,4 * k + j,none⟩ = false := hr.out.frozen _;have hst := hid (digit_step hp hz HV.out);have hbd := hid (zkD HB.out);have HR2 := hid (RowI.setNum (r := []) (by simpa using hr.out) hp (yy % 65536));have HB2 := hid (hb.out.setCell (p := ⟨w.heap.size,4 * k + j,none⟩) (Nat.le_refl _) (.int .i64 (yy % 65536)));have HD2 := hid (HD.out.set (4 * k + j) (digit_is hy0));have HL2 : Hid ((zs.set (4 * k + j) (yy % 65536)).length = 4 * xs.length) := by unfold Hid;rw [List.length_set];exact HL.out
     have HZ2 : Hid (∀ t (h : t < (zs.set (4 * k + j) (yy % 65536)).length),4 * k + (j + 1) ≤ t → (zs.set (4 * k + j) (yy % 65536))[t] = 0) := fun t h ht => by
      rw [List.getElem_set_ne (by omega)];exact HZ.out t (by simpa using h) (by omega)
     generalize zs[4 * k + j] = z at *;generalize zs.set (4 * k + j) (yy % 65536) = zs' at *;clear HL HD HZ HB HV hr hb hz;go_wp2;go_roundw
     case rel => exact ⟨j + 1,zs',yy / 65536,by omega,by go_num,rfl,by omega,by omega,HL2,HD2,HZ2,hbd,hst,(by simpa using HR2),HB2⟩
     case measure => first | (simp [intOf];done) | (simp [intOf];omega)
    ·obtain rfl : j = 4 := by omega
     have hy : yy = 0 := by
      have := HB.out;rw [show (65536 : Int) ^ 4 = 18446744073709551616 from by decide] at this;omega
     have HV5 : Hid (dval zs = val (xs.take (k + 1))) := by
      unfold Hid;have := HV.out;rw [hy] at this;rw [HTK.out];simpa using this
     clear hy HB HV;go_wp2;go_roundw
     case rel => exact ⟨k + 1,zs,by omega,by go_num,HL,HD,(fun t h ht => HZ.out t h (by omega)),HV5,hr,hb⟩
     case measure => first | (simp [intOf];done) | (simp [intOf];omega)
  ·obtain rfl : k = xs.length := by omega
   rw [HTL.out] at HV;have HWI : Hid (∀ n : Nat,n ≤ zs.length → (∀ j (h : j < zs.length),n ≤ j → zs[j] = 0) → (0 < n → ∀ h' : n - 1 < zs.length,zs[n - 1] ≠ 0) → dwid zs = n) := fun n h1 h2 h3 => zBE h1 h2 h3
   have HSL : Hid (∀ n,dwid zs = n → SlI wr.heap.size wr (.slice (some ⟨w.heap.size,0,none⟩) n (4 * xs.length)) (dlst zs)) := fun n hn => by
    have h1 := zVC zs;have h2 := HL.out;refine ⟨fun p hp => ?_,_,_,by rw [zgA,hn],by rw [zgA];omega,by omega,.inr ⟨_,0,rfl,hr.out.lt,fun j hj => ?_⟩⟩
    ·have := HD.out p (List.mem_of_mem_take hp)
     unfold IsD dwB at this;omega
    ·have hj' : j < zs.length := by rw [zgA] at hj;omega
     rw [Nat.zero_add,RowI.num (r := []) (by simpa using hr.out) hj'];simp [dlst]
   go_wp2_with fail
   go_loop [7] (fun i => ∃ n : Nat,n ≤ zs.length ∧ i = .int .i64 n ∧ Hid (∀ j (h : j < zs.length),n ≤ j → zs[j] = 0)) (fun i => (intOf i).toNat)
   case atStart => exact ⟨zs.length,Nat.le_refl _,(by rw [HL.out];go_num),fun j h h' => by omega⟩
   case round =>
    clear HZ;obtain ⟨n,hn,rfl,HZ⟩ := hrel;have fin : ∀ m,dwid zs = m → ∃ ds r,Ending.returned (Value.slice (some ⟨w.heap.size,0,none⟩) m (4 * xs.length)) = Ending.returned r ∧ SlI wr.heap.size wr r ds ∧ zOD ds ∧ dval ds = val xs ∧ ds.length ≤ 4 * xs.length ∧ Below w.heap.size w wr := fun m hm =>
     ⟨dlst zs,_,rfl,HSL.out m hm,dcanon_lst HD.out,by rw [zVD,HV.out],by rw [zgA];have := zVC zs;have := HL.out;omega,hb.out⟩
    have FIN := hid fin;clear fin;have hlz : zs.length = 4 * xs.length := HL.out
    by_cases h0 : n = 0
    ·subst h0
     have HE := hid (HWI.out 0 (by omega) HZ.out (by omega));go_wp2;go_ret;exact FIN.out 0 HE.out
    ·obtain ⟨m,rfl⟩ : ∃ m,n = m + 1 := ⟨n - 1,by omega⟩
     have hm2 : m < zs.length := by omega
     have c3 : wr.cell? ⟨w.heap.size,m,none⟩ = some (.int .i64 zs[m]) := RowI.num (r := []) (by simpa using hr.out) hm2;obtain ⟨x,hx⟩ : ∃ x,x = zs[m] := ⟨_,rfl⟩
     rw [← hx] at c3;have HX := hid hx;clear hx h0
     by_cases hx0 : x = 0
     ·have ht : (x == 0) = true := by simp [hx0]
      have HX0 := hid hx0;clear hx0;go_wp2;go_round
      case rel =>
       refine ⟨m,by omega,by go_num,fun j h hj => ?_⟩
       by_cases e : j = m
       ·subst e;rw [← HX.out];exact HX0.out
       ·exact HZ.out j h (by omega)
      case measure => first | (simp [intOf];done) | (simp [intOf];omega)
     ·have ht : (x == 0) = false := by simp [hx0]
      have HE := hid (HWI.out (m + 1) hn HZ.out (fun _ h' => by have := HX.out;simp at h' ⊢;rw [← this];exact hx0));go_wp2;go_ret;exact FIN.out (m + 1) HE.out
end Go.Proofs.YtdeomkkpainakaaGreat
