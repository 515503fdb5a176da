/-
 QCmpToMul: Cmp, Sub, Now, Mul, joined.
-/
import Derived.Test.YtmnecbniappnaaaGreatQWordsToCarry
import Derived.Test.YtmnecbniappnaaaGreatQMadeToByWord
import Derived.Test.YtmnecbniappnaaaGreatQCutToTakeFrom

set_option maxRecDepth 100000
set_option maxHeartbeats 6400000
set_option linter.unusedVariables false
set_option linter.unusedSimpArgs false
namespace Go.Proofs.YtmnecbniappnaaaGreat
open Go.RowKit
theorem cmp_widths {xs ys : List Int} (hx : WF xs) (hy : WF ys) (h : wid xs ≠ wid ys) : cmpI (val xs) (val ys) = cmpI (wid xs) (wid ys) := by
 rcases Nat.lt_or_gt_of_ne h with q | q
 ·rw [zoA (zOB hx hy q),zoA (by omega)]
 ·rw [ziA (zOB hy hx q),ziA (by omega)]
theorem zyC {xs : List Int} {j : Nat} (h : j < wid xs) : (lst xs)[j]'(by rw [zGA];exact h) = xs[j]'(by have := zRA xs;omega) := by simp [lst]
theorem cmp_end {xs ys : List Int} {n : Nat} (hn : wid xs = n) (hn' : wid ys = n)
  (he : ∀ j (h1 : j < xs.length) (h2 : j < ys.length),j < n → xs[j] = ys[j]) : cmpI (val xs) (val ys) = 0 := by
 have e : lst xs = lst ys := by
  refine List.ext_getElem (by rw [zGA,zGA];omega) (fun j h1 h2 => ?_);rw [zGA] at h1 h2;rw [zyC h1,zyC h2];exact he j _ _ (by omega)
 rw [← val_lst xs,← val_lst ys,e,cmpI_self]
theorem cmp_here {xs ys : List Int} {n j : Nat} (hx : WF xs) (hy : WF ys) (hn : wid xs = n) (hn' : wid ys = n) (hj : j < n)
  (he : ∀ i (h1 : i < xs.length) (h2 : i < ys.length),j < i → i < n → xs[i] = ys[i]) (h1 : j < xs.length) (h2 : j < ys.length) (hne : xs[j] ≠ ys[j]) : cmpI (val xs) (val ys) = cmpI xs[j] ys[j] := by
 have l1 := zGA xs;have l2 := zGA ys;have g1 : (lst xs)[j]'(by omega) = xs[j] := zyC (by omega);have g2 : (lst ys)[j]'(by omega) = ys[j] := zyC (by omega);rw [← val_lst xs,← val_lst ys,← g1,← g2];refine zyH (xs := lst xs) (ys := lst ys) (hx.take _) (hy.take _) (by omega) (by omega) ?_ (by rw [g1,g2];exact hne);refine List.ext_getElem (by simp [zGA];omega) (fun i h3 h4 => ?_);simp only [List.getElem_drop];simp only [List.length_drop] at h3 h4;rw [zyC (by omega),zyC (by omega)];exact he _ _ _ (by omega) (by omega)
theorem zpF {B : Nat} {w : World} {v u : Value} {xs ys : List Int} (h : Sl B w v xs) (h' : Sl B w u ys) :
  Calls Tryz.prog 121 #[v,u] w fun e w' => e = .returned (.int .i64 (cmpI (val xs) (val ys))) ∧ ∃ n,w' = w.drewN n := by
 have hs := h;have hs' := h';obtain ⟨hw,a,cap,rfl,hlc,hcm,hm⟩ := h;obtain ⟨hw',a',cap',rfl,hlc',hcm',hm'⟩ := h';have HW1 := zgA hs;have HW2 := zgA hs';have l1 := zRA xs;have l2 := zRA ys
 by_cases hne : wid xs = wid ys
 ·have HE : Hid ((∀ j (h1 : j < xs.length) (h2 : j < ys.length),j < wid xs → xs[j] = ys[j]) → cmpI (val xs) (val ys) = 0) := cmp_end rfl hne.symm
  have HH : Hid (∀ j,j < wid xs → (∀ i (h1 : i < xs.length) (h2 : i < ys.length),j < i → i < wid xs → xs[i] = ys[i]) → ∀ (h1 : j < xs.length) (h2 : j < ys.length),xs[j] ≠ ys[j] → cmpI (val xs) (val ys) = cmpI xs[j] ys[j]) :=
   fun j hj he h1 h2 hq => cmp_here hw hw' rfl hne.symm hj he h1 h2 hq
  rw [← hne] at HW2 l2;generalize cmpI (val xs) (val ys) = C at *;generalize wid xs = n at *;clear hne hw hw';have hnn : ((n : Int) != (n : Int)) = false := by simp
  go_enter Tryz.func121,Tryz.ntmps121;go_wp2_with fail;refine HW1.mono ?_;rintro e w1 ⟨rfl,rfl⟩;go_wp2_with fail;refine HW2.mono ?_;rintro e w1 ⟨rfl,rfl⟩;clear HW1 HW2 hs hs';go_wp2_with fail
  go_loopw [22] (fun i wr => ∃ k : Nat,k ≤ n ∧ i = .int .i64 k ∧ (∃ q,wr = w1.drewN q) ∧ ∀ j (h1 : j < xs.length) (h2 : j < ys.length),n - k ≤ j → j < n → xs[j] = ys[j]) (fun i _ => n - (intOf i).toNat)
  case atStart => exact ⟨0,Nat.zero_le _,rfl,⟨0,rfl⟩,fun j h1 h2 h h' => by omega⟩
  case round =>
   obtain ⟨k,hk,rfl,hq,he⟩ := hrel;have hcw : ∀ a,wr.cell? a = w1.cell? a := by obtain ⟨q,rfl⟩ := hq;intro a;rfl
   have HQ : Hid (∃ q,wr = w1.drewN q) := hq;clear hq;have HR : Hid (∀ j (h1 : j < xs.length) (h2 : j < ys.length),n - k ≤ j → j < n → xs[j] = ys[j]) := he;clear he
   by_cases hlt : k < n
   ·obtain ⟨j,rfl⟩ : ∃ j,n = k + j + 1 := ⟨n - k - 1,by omega⟩
    have hj1 : j < xs.length := by omega
    have hj2 : j < ys.length := by omega
    rcases hm with e | ⟨b,off,rfl,hb,hc⟩
    ·subst e;simp at hj1
    rcases hm' with e | ⟨b',off',rfl,hb',hc'⟩
    ·subst e;simp at hj2
    have c1 : wr.cell? ⟨b,off + j,none⟩ = some (.int .u64 xs[j]) := by rw [hcw];exact hc j hj1
    have c2 : wr.cell? ⟨b',off' + j,none⟩ = some (.int .u64 ys[j]) := by rw [hcw];exact hc' j hj2
    clear hcw;obtain ⟨x,hx⟩ : ∃ x,x = xs[j] := ⟨_,rfl⟩
    obtain ⟨y,hy⟩ : ∃ y,y = ys[j] := ⟨_,rfl⟩
    rw [← hx] at c1;rw [← hy] at c2;have HX : Hid (x = xs[j]) := hx;have HY : Hid (y = ys[j]) := hy;clear hx hy hc hc';have hwr1 : IntKind.i64.wrap ((k : Int) + (j : Int)) = (k : Int) + (j : Int) := zZA (by omega) (by omega);have hwr2 : IntKind.i64.wrap (j : Int) = (j : Int) := zZA (by omega) (by omega);have hwr3 : (k : Int) + (j : Int) - (k : Int) = (j : Int) := by omega
    by_cases hxy : x = y
    ·have ht : (cmpI x y != 0) = false := by rw [hxy,cmpI_self];rfl
     have HXY : Hid (x = y) := hxy;clear hxy;go_wp2_with fail;go_quiet ((go_at_call 129;exact Calls.quiet_of_same (order_any _ _ _)));go_wp2;go_roundw
     case rel =>
      refine ⟨k + 1,by omega,by go_num,(by obtain ⟨q,hq⟩ := HQ.out;exact ⟨q + nq,by rw [hq,World.drewN_drewN]⟩),fun i h1 h2 h3 h4 => ?_⟩
      by_cases e : i = j
      ·subst e;rw [← HX.out,← HY.out];exact HXY.out
      ·exact HR.out i h1 h2 (by omega) (by omega)
     case measure => simp [intOf];omega
    ·have ht : (cmpI x y != 0) = true := by rw [bne_iff_ne];exact fun e => hxy (cmpI_zero e)
     go_wp2_with fail;go_quiet ((go_at_call 129;exact Calls.quiet_of_same (order_any _ _ _)));go_wp2;go_ret;refine ⟨?_,by obtain ⟨q,hq⟩ := HQ.out;exact ⟨q + nq,by rw [hq,World.drewN_drewN]⟩⟩;have := HH.out j (by omega) (fun i h1 h2 h3 h4 => HR.out i h1 h2 (by omega) (by omega)) hj1 hj2 (by rw [← HX.out,← HY.out];exact hxy);rw [this,← HX.out,← HY.out]
     rfl
   ·clear hcw
    go_wp2_with fail;go_ret;refine ⟨?_,HQ.out⟩;rw [HE.out (fun j h1 h2 h3 => HR.out j h1 h2 (by omega) (by omega))]
    rfl
 ·have HC : Hid (cmpI (val xs) (val ys) = cmpI (wid xs) (wid ys)) := cmp_widths hw hw' hne
  generalize cmpI (val xs) (val ys) = C at *;generalize wid xs = m at *;generalize wid ys = n at *;have hnn : ((m : Int) != (n : Int)) = true := by rw [bne_iff_ne];omega
  clear hm hm' hw hw';go_enter Tryz.func121,Tryz.ntmps121;go_wp2_with fail;refine HW1.mono ?_;rintro e w1 ⟨rfl,rfl⟩;go_wp2_with fail;refine HW2.mono ?_;rintro e w1 ⟨rfl,rfl⟩;clear HW1 HW2 hs hs';go_wp2_with fail;refine (order_any _ _ _).mono ?_;rintro e w1 ⟨rfl,rfl⟩;go_wp2;go_ret;refine ⟨?_,0,rfl⟩;rw [HC.out]
  rfl
theorem zrB {a b : Int} (h : a < b) : cmpI a b < 0 := by rw [zoA h];omega
theorem zxA {a b : Int} (h : b ≤ a) : ¬ cmpI a b < 0 := by
 rcases Int.lt_or_eq_of_le h with q | q
 ·rw [ziA q];omega
 ·rw [q,cmpI_self];omega
theorem sub_no {w : World} {v u : Value} {xs ys : List Int} (h : Sl w.heap.size w v xs) (h' : Sl w.heap.size w u ys) (hlt : val xs < val ys) :
  Calls Tryz.prog 106 #[v,u] w fun e w' => e = .returned (.tuple #[.slice none 0 0,.int .i64 3]) ∧ ∃ n,w' = w.drewN n := by
 have HC := zpF h h';have hn := zrB hlt;generalize cmpI (val xs) (val ys) = C at *;clear h h' hlt;go_enter Tryz.func106,Tryz.ntmps106;go_wp2_with fail;refine HC.mono ?_;rintro e w1 ⟨rfl,n,rfl⟩;clear HC;go_wp2;go_ret2;exact ⟨rfl,n,rfl⟩
def Taken (w : World) (s : Int) (k : Nat) (e : Ending) (w' : World) : Prop :=
 ∃ zs cap r,e = .returned (.tuple #[.slice (some ⟨w.heap.size,0,none⟩) zs.length cap,.int .i64 0]) ∧ zLA zs ∧ val zs = s ∧ zs.length ≤ k ∧ cap = zs.length + r.length ∧ cap ≤ 35184372088832 ∧
  Row w' w.heap.size (ws zs ++ r) ∧ Below w.heap.size w w' ∧ w.heap.size < w'.heap.size
theorem zhG {w : World} {v u : Value} {xs ys : List Int} (h : Sl w.heap.size w v xs) (h' : Sl w.heap.size w u ys) (hge : val ys ≤ val xs) :
  Calls Tryz.prog 106 #[v,u] w (Taken w (val xs - val ys) (wid xs)) := by
 have hs := h;have hs' := h';obtain ⟨hw,a,cap,rfl,hlc,hcm,hm⟩ := h;obtain ⟨hw',a',cap',rfl,hlc',hcm',hm'⟩ := h';have HC := zpF hs hs';have hn := zxA hge;generalize cmpI (val xs) (val ys) = C at *;have l1 := zRA xs;have l2 := zRA ys;have HWW : Hid (wid ys ≤ wid xs) := by
  unfold Hid
  by_cases q : wid xs < wid ys
  ·have := zOB hw hw' q;omega
  ·omega
 have HL1 : Hid ((lst xs).length = wid xs) := zGA xs;have HL2 : Hid ((lst ys).length = wid ys) := zGA ys;have HC1 := hid (canon_lst hw);have HC2 := hid (canon_lst hw');have HV1 := hid (val_lst xs);have HV2 := hid (val_lst ys);have HS1 := hid hs;have HS2 := hid hs';have hsrc' := Sl.source (n := wid ys) hm'
 change lst ys = [] ∨ ∃ b off,a' = some ⟨b,off,none⟩ ∧ b < w.heap.size ∧ ∀ j (h : j < (lst ys).length),w.cell? ⟨b,off + j,none⟩ = some (.int .u64 (lst ys)[j]) at hsrc'
 have HSR := hid hsrc';have HGE := hid hge;clear hm hm' hw hw' hs hs' hsrc' hge;go_enter Tryz.func106,Tryz.ntmps106;go_wp2_with fail;refine HC.mono ?_;rintro e w1 ⟨rfl,n,rfl⟩;clear HC;go_wp2_with fail;refine (least_any (w := w.drewN n) (HS1.out.drewN n)).mono ?_;rintro e w2 ⟨rfl,hrow,hb2,hsz2⟩
 change Row w2 w.heap.size _ at hrow
 change Below w.heap.size _ w2 at hb2
 change w.heap.size < w2.heap.size at hsz2
 have hb02 : Below w.heap.size w w2 := (below_drewN (Below.refl _ _) n).trans hb2;go_wp2_with fail;have HW2 := zgA (HS2.out.below hb02 (Nat.le_refl _));refine HW2.mono ?_;rintro e w3 ⟨rfl,rfl⟩;clear HW2;have hsl := Sl.sourceB HSR.out hb02 (Nat.le_refl _);have hsl2 : Sl w.heap.size w3 (.slice a' (wid ys) cap') (lst ys) := ⟨HC2.out.1,_,cap',by rw [HL2.out],by rw [HL2.out];omega,by rw [HL2.out];omega,hsl⟩
 have hT := takeFrom_any (r := []) (cap := wid xs) HC1.out.1 (by simpa using hrow) (by rw [HL1.out];omega) hsl2 (by rw [HL1.out,HL2.out];exact HWW.out) (by rw [HV1.out,HV2.out];exact HGE.out);rw [HL1.out] at hT;have HT := hid hT;clear hT hsl hsl2;have HB := hid hb02;clear hb02 hb2 hrow;go_wp2_with fail;refine HT.out.mono ?_;rintro e w4 ⟨zs,rfl,hzl,hwz,hv,hr4,hb4⟩;have hb04 := hid (HB.out.trans hb4);have hhs4 : w.heap.size < w4.heap.size := Nat.lt_of_lt_of_le hsz2 hb4.size;have HV4 := hid hv;have HZL := hid hzl;clear hv hzl hb4 HB HT hsz2;go_wp2_with fail;have hsz := hr4.sl hwz (cap := wid xs) (by rw [HZL.out];exact Nat.le_refl _) (by omega) hhs4;rw [HZL.out] at hsz;have HW4 := hid (zgA hsz);clear hsz;refine HW4.out.mono ?_;rintro e w5 ⟨rfl,rfl⟩;clear HW4;have l5 := zRA zs;have l6 : wid zs ≤ wid xs := by have := HZL.out;omega
 go_wp2;go_ret2;refine ⟨lst zs,wid xs,ws (zs.drop (wid zs)),by rw [zGA];rfl,canon_lst hwz,?_,?_,?_,by omega,?_,hb04.out,hhs4⟩
 ·rw [val_lst,HV4.out,HV1.out,HV2.out]
 ·rw [zGA];exact l6
 ·rw [zGA,zJA,List.length_drop,HZL.out];omega
 ·have e : ws (lst zs) ++ ws (zs.drop (wid zs)) = ws zs ++ [] := by
   unfold lst ws;rw [← List.map_append,List.take_append_drop,List.append_nil]
  rw [e];exact hr4
theorem below_step {w0 w w' : World} (h : Below w0.heap.size w0 w) (k : Below w.heap.size w w') : Below w0.heap.size w0 w' := h.trans (k.mono h.size)
theorem zFD {w : World} {v u : Value} {xs ys : List Int} (h : Sl w.heap.size w v xs) (h' : Sl w.heap.size w u ys) (hl : xs.length < 35184372088832) (hl' : ys.length < 35184372088832) :
  Calls Tryz.prog 104 #[v,u] w fun e w' => ∃ zs r,e = .returned r ∧ Sl w'.heap.size w' r zs ∧ zLA zs ∧ val zs = val xs + val ys ∧ (zs.length ≤ xs.length + 1 ∨ zs.length ≤ ys.length + 1) ∧ Below w.heap.size w w' :=
 (zHH h h' hl hl').mono fun e w' hadd => by
  obtain ⟨zs,r,h1,h2,h3,h4,h5,h6⟩ := added_sl hadd;exact ⟨zs,r,h1,h2,h3,h4,by have := zRA xs;have := zRA ys;omega,h6⟩
theorem same_now {w : World} {v u : Value} {xs ys : List Int} (h : Sl w.heap.size w v xs) (h' : Sl w.heap.size w u ys) :
  Calls Tryz.prog 73 #[v,u] w fun e w' => e = .returned (.bool (same xs ys)) ∧ Below w.heap.size w w' :=
 (same_any h h').mono fun e w' ⟨h1,n,h2⟩ => ⟨h1,by subst h2;exact below_drewN (Below.refl _ _) n⟩
theorem same_yes {w : World} {v u : Value} {xs ys : List Int} (h : Sl w.heap.size w v xs) (h' : Sl w.heap.size w u ys) (he : xs = ys) :
  Calls Tryz.prog 73 #[v,u] w fun e w' => e = .returned (.bool true) ∧ Below w.heap.size w w' := by
 have := same_now h h';subst he
 rwa [same_self] at this
theorem zoF {w : World} {v u : Value} {xs ys : List Int} (h : Sl w.heap.size w v xs) (h' : Sl w.heap.size w u ys) :
  Calls Tryz.prog 121 #[v,u] w fun e w' => e = .returned (.int .i64 (cmpI (val xs) (val ys))) ∧ Below w.heap.size w w' :=
 (zpF h h').mono fun e w' ⟨h1,n,h2⟩ => ⟨h1,by subst h2;exact below_drewN (Below.refl _ _) n⟩
theorem sub_now {w : World} {v u : Value} {xs ys : List Int} (h : Sl w.heap.size w v xs) (h' : Sl w.heap.size w u ys) (hge : val ys ≤ val xs) :
  Calls Tryz.prog 106 #[v,u] w fun e w' => ∃ zs a cap,e = .returned (.tuple #[.slice a zs.length cap,.int .i64 0]) ∧ Sl w'.heap.size w' (.slice a zs.length cap) zs ∧ zLA zs ∧ val zs = val xs - val ys ∧ zs.length ≤ xs.length ∧ Below w.heap.size w w' :=
 (zhG h h' hge).mono fun e w' ht => by
  obtain ⟨zs,cap,r,h1,h2,h3,h4,h5,h6,h7,h8,h9⟩ := ht;exact ⟨zs,_,cap,h1,h7.sl h2.1 (by omega) h6 h9,h2,h3,by have := zRA xs;omega,h8⟩
theorem zmA (xs : List Int) (n : Nat) : val xs = val (xs.take n) + pw n * val (xs.drop n) := by
 by_cases h : n ≤ xs.length
 ·exact val_halves xs h
 ·rw [List.take_of_length_le (by omega),List.drop_of_length_le (by omega)]
  simp [val]
theorem zlF {l S : Int} {n N : Nat} (h : l + pw n * S < pw (n + N)) (hl : 0 ≤ l) : S < pw N := by
 rw [zLB] at h;exact Int.lt_of_mul_lt_mul_left (show pw n * S < pw n * pw N by omega) (Int.le_of_lt (zjA n))
theorem zfC {xs ys zs : List Int} (hx : WF xs) (hy : WF ys) (hz : zLA zs) (h : val zs = val xs * val ys) : zs.length ≤ xs.length + ys.length :=
 zrA hz (by rw [h];exact zeB hx hy)
theorem zpE {B : Nat} {w : World} {g k : Nat} {zs : List Int} (hB : B ≤ g) (hw : WF zs) (hk : zs.length = k) (hl : k ≤ 35184372088832) (hr : Row w g (ws zs)) : Mine B w (.slice (some ⟨g,0,none⟩) k k) zs := by
 subst hk;exact ⟨hw,.inr ⟨g,[],zs.length,hB,hl,Nat.le_refl _,by simp,rfl,by simpa using hr⟩⟩
theorem zCC (xs ys : List Int) {n : Nat} (h : xs.length ≤ n) : (xs ++ List.replicate (n - xs.length) 0 ++ ys).length = n + ys.length := by
 simp
 omega
def zsF (N : Nat) : Prop := ∀ (w : World) (v u : Value) (xs ys : List Int),Sl w.heap.size w v xs → Sl w.heap.size w u ys → xs.length + ys.length ≤ 35184372088832 → xs.length + ys.length < N →
 Calls Tryz.prog 86 #[v,u] w (zYC w (val xs * val ys))
theorem two_end {xs ys P Q S : List Int} {n : Nat} (hx : zLA xs) (hy : zLA ys) (hn : n < xs.length) (hy0 : ys ≠ []) (hP : zLA P) (vP : val P = val (xs.take n) * val ys) (vQ : val Q = val (xs.drop n) * val ys) (hS : zLA S) (vS : val S = val Q + val (P.drop n)) :
  (P.take n).length ≤ n ∧ n + S.length ≤ xs.length + ys.length ∧ zLA (P.take n ++ List.replicate (n - (P.take n).length) 0 ++ S) ∧ val (P.take n ++ List.replicate (n - (P.take n).length) 0 ++ S) = val xs * val ys := by
 have hl : (P.take n).length ≤ n := by simp;omega
 have hj := zjE (P.take n) S hl;have hv : val (P.take n) + pw n * val S = val xs * val ys := two_halves (n := n) (zmA xs n) vP (zmA P n) (by rw [vS,vQ]) rfl;have hlt := zeB hx.1 hy.1;rw [← hv] at hlt;have h0 := zIA (hP.1.take n);have hS0 : S ≠ [] := by
  refine zQG ?_;have h1 : 0 < val (xs.drop n) := zpC (zIC n hx) (by intro e;have := congrArg List.length e;simp at this;omega);have h2 := zpC hy hy0;have h3 := Int.mul_pos h1 h2;have h4 := zIA (hP.1.rest n);rw [vS,vQ];omega
 refine ⟨hl,?_,zDD n (hP.1.take n) hS hS0,by rw [hj,hv]⟩;have h5 : xs.length + ys.length = n + (xs.length + ys.length - n) := by omega
 rw [h5] at hlt;have := zrA hS (zlF hlt h0);omega
theorem four_end {xs ys LL HH SA SB SS T X Y Z : List Int} {n : Nat} (hx : zLA xs) (hy : zLA ys) (hn : n < xs.length) (hn' : n < ys.length)
  (hLL : zLA LL) (vLL : val LL = val (xs.take n) * val (ys.take n)) (hHH : zLA HH) (vHH : val HH = val (xs.drop n) * val (ys.drop n))
  (vSA : val SA = val (xs.take n) + val (xs.drop n)) (vSB : val SB = val (ys.take n) + val (ys.drop n)) (vSS : val SS = val SA * val SB) (vT : val T = val LL + val HH) (vX : val X = val SS - val T)
  (hY : zLA Y) (vY : val Y = val X + val (LL.drop n)) (hZ : zLA Z) (vZ : val Z = val HH + val (Y.drop n)) :
  (LL.take n).length ≤ n ∧ (Y.take n).length ≤ n ∧ n + (n + Z.length) ≤ xs.length + ys.length ∧
  zLA (LL.take n ++ List.replicate (n - (LL.take n).length) 0 ++ (Y.take n ++ List.replicate (n - (Y.take n).length) 0 ++ Z)) ∧
  val (LL.take n ++ List.replicate (n - (LL.take n).length) 0 ++ (Y.take n ++ List.replicate (n - (Y.take n).length) 0 ++ Z)) = val xs * val ys := by
 have hl : (LL.take n).length ≤ n := by simp;omega
 have hm : (Y.take n).length ≤ n := by simp;omega
 have hj1 := zjE (Y.take n) Z hm;have hj := zjE (LL.take n) (Y.take n ++ List.replicate (n - (Y.take n).length) 0 ++ Z) hl;rw [hj1] at hj;have hv : val (LL.take n) + pw n * (val (Y.take n) + pw n * val Z) = val xs * val ys :=
  four_halves (n := n) (zmA xs n) (zmA ys n) vLL vHH vSA vSB vSS vT vX (zmA LL n) vY (zmA Y n) vZ rfl
 have hlt := zeB hx.1 hy.1;rw [← hv] at hlt;have h0 := zIA (hLL.1.take n);have h0' := zIA (hY.1.take n);have hZ0 : Z ≠ [] := by
  refine zQG ?_;have h1 : 0 < val (xs.drop n) := zpC (zIC n hx) (by intro e;have := congrArg List.length e;simp at this;omega);have h2 : 0 < val (ys.drop n) := zpC (zIC n hy) (by intro e;have := congrArg List.length e;simp at this;omega);have h3 := Int.mul_pos h1 h2;have h4 := zIA (hY.1.rest n);rw [vZ,vHH];omega
 have c1 := zDD n (hY.1.take n) hZ hZ0;have c1' : Y.take n ++ List.replicate (n - (Y.take n).length) 0 ++ Z ≠ [] := by
  intro e;exact hZ0 (List.append_eq_nil_iff.1 e).2
 refine ⟨hl,hm,?_,zDD n (hLL.1.take n) c1 c1',by rw [hj,hv]⟩;have h5 : xs.length + ys.length = n + (n + (xs.length + ys.length - n - n)) := by omega
 rw [h5] at hlt;have h6 := zlF hlt h0;have := zrA hZ (zlF h6 h0');omega
theorem byTwo_any {w : World} {va vb : Value} {xs ys : List Int} (ha : Sl w.heap.size w va xs) (hb : Sl w.heap.size w vb ys) (cx : zLA xs) (cy : zLA ys) (hl : xs.length + ys.length ≤ 35184372088832) {n : Nat} (hn0 : 0 < n) (hn : n < xs.length) (hy0 : ys ≠ []) (IH : zsF (xs.length + ys.length)) :
  Calls Tryz.prog 109 #[va,vb,.int .i64 (n : Int)] w (zYC w (val xs * val ys)) := by
 have LT := hid (show (xs.take n).length = n by simp;omega);have LD := hid (show (xs.drop n).length = xs.length - n by simp);have CX := hid cx;have CY := hid cy;have Y0 := hid hy0;have IH' := hid IH;clear IH cx cy hy0;go_enter Tryz.func109,Tryz.ntmps109;go_wp2_with fail;refine (zfB ha (by omega)).mono ?_;rintro e w1 ⟨vl,vr,rfl,hl1,hr1,k1⟩;have b1 := hb.now k1;have g1 := k1;clear ha hb k1;go_wp2_with fail;refine (IH'.out _ _ _ _ _ hl1 b1 (by rw [LT.out];omega) (by rw [LT.out];omega)).mono ?_;rintro e w2 ⟨P,vp,rfl,mp,cp,HP,k2⟩;have b2 := b1.now k2;have ra2 := hr1.now k2;have g2 := below_step g1 k2;replace cp := hid cp;replace HP := hid HP;clear hl1 b1 hr1 g1 k2;have p0 := mp.sl;clear mp;have LP := hid (zfC (CX.out.1.take n) CY.out.1 cp.out HP.out);go_wp2_with fail;refine (zfB p0 (by omega)).mono ?_;rintro e w3 ⟨wl,wr,rfl,hl3,hr3,k3⟩;have b3 := b2.now k3;have ra3 := ra2.now k3;have g3 := below_step g2 k3;clear p0 b2 ra2 g2 k3;go_wp2_with fail;refine (IH'.out _ _ _ _ _ ra3 b3 (by rw [LD.out];omega) (by rw [LD.out];omega)).mono ?_;rintro e w4 ⟨Q,vq,rfl,mq,cq,HQ,k4⟩;have pl4 := hl3.now k4;have pr4 := hr3.now k4;have g4 := below_step g3 k4;replace cq := hid cq;replace HQ := hid HQ;clear ra3 b3 hl3 hr3 g3 k4;have q0 := mq.sl;clear mq;have LQ := hid (zfC (CX.out.1.rest n) CY.out.1 cq.out HQ.out);have LPD := hid (show (P.drop n).length ≤ P.length by simp);go_wp2_with fail;refine (zFD q0 pr4 (by have := LQ.out;have := LD.out;omega) (by have := LPD.out;have := LP.out;have := LT.out;omega)).mono ?_;rintro e w5 ⟨S,vs,rfl,s0,cs,HS,ls,k5⟩;have pl5 := pl4.now k5;have g5 := below_step g4 k5;replace cs := hid cs;replace HS := hid HS;clear q0 pr4 pl4 g4 k5;clear ls;have E := hid (two_end CX.out CY.out hn Y0.out cp.out HP.out HQ.out cs.out HS.out);clear cp HP HQ cs HS cq CX CY LP LQ LPD;go_wp2_with fail;refine (zuE pl5 s0 E.out.1 (by have := E.out.2.1;omega)).mono ?_;rintro e w6 ⟨rfl,hr,k6⟩;have g6 := below_step g5 k6;go_wp2;go_ret;exact ⟨_,_,rfl,zpE g5.size E.out.2.2.1.1 (zCC _ _ E.out.1) (by have := E.out.2.1;omega) hr,E.out.2.2.1,E.out.2.2.2,g6⟩
theorem byFour_any {w : World} {va vb : Value} {xs ys : List Int} (ha : Sl w.heap.size w va xs) (hb : Sl w.heap.size w vb ys) (cx : zLA xs) (cy : zLA ys) (hl : xs.length + ys.length ≤ 35184372088832) {n : Nat} (hn0 : 0 < n) (hn : n < xs.length) (hn' : n < ys.length) (hx2 : xs.length ≤ 2 * n) (h2n : 2 * n ≤ xs.length + 1) (h64 : 64 ≤ ys.length) (hyx : ys.length ≤ xs.length) (IH : zsF (xs.length + ys.length)) :
  Calls Tryz.prog 110 #[va,vb,.int .i64 (n : Int)] w (zYC w (val xs * val ys)) := by
 have LT := hid (show (xs.take n).length = n by simp;omega);have LD := hid (show (xs.drop n).length = xs.length - n by simp);have LT' := hid (show (ys.take n).length = n by simp;omega);have LD' := hid (show (ys.drop n).length = ys.length - n by simp);have CX := hid cx;have CY := hid cy;have IH' := hid IH;clear IH cx cy;go_enter Tryz.func110,Tryz.ntmps110;go_wp2_with fail;refine (zfB ha (by omega)).mono ?_;rintro e w1 ⟨vl,vr,rfl,hl1,hr1,k1⟩;have b1 := hb.now k1;have g1 := k1;clear ha hb k1;go_wp2_with fail;refine (zfB b1 (by omega)).mono ?_;rintro e w2 ⟨ul,ur,rfl,hl2,hr2,k2⟩;have la2 := hl1.now k2;have ra2 := hr1.now k2;have g2 := below_step g1 k2;clear b1 hl1 hr1 g1 k2;go_wp2_with fail;refine (IH'.out _ _ _ _ _ la2 hl2 (by rw [LT.out,LT'.out];omega) (by rw [LT.out,LT'.out];omega)).mono ?_;rintro e w3 ⟨LL,vp,rfl,mp,cLL,VLL,k3⟩;have la3 := la2.now k3;have ra3 := ra2.now k3;have lb3 := hl2.now k3;have rb3 := hr2.now k3;have g3 := below_step g2 k3;replace cLL := hid cLL;replace VLL := hid VLL;clear la2 ra2 hl2 hr2 g2 k3;have ll0 := mp.sl;clear mp;have NLL := hid (zfC (CX.out.1.take n) (CY.out.1.take n) cLL.out VLL.out);go_wp2_with fail;refine (IH'.out _ _ _ _ _ ra3 rb3 (by rw [LD.out,LD'.out];omega) (by rw [LD.out,LD'.out];omega)).mono ?_;rintro e w4 ⟨HH,vq,rfl,mq,cHH,VHH,k4⟩;have la4 := la3.now k4;have ra4 := ra3.now k4;have lb4 := lb3.now k4;have rb4 := rb3.now k4;have ll4 := ll0.now k4;have g4 := below_step g3 k4;replace cHH := hid cHH;replace VHH := hid VHH;clear la3 ra3 lb3 rb3 ll0 g3 k4;have hh0 := mq.sl;clear mq;have NHH := hid (zfC (CX.out.1.rest n) (CY.out.1.rest n) cHH.out VHH.out);go_wp2_with fail;refine (zFD la4 ra4 (by rw [LT.out];omega) (by rw [LD.out];omega)).mono ?_;rintro e w5 ⟨SA,vsa,rfl,sa0,cSA,VSA,lsa,k5⟩;have lb5 := lb4.now k5;have rb5 := rb4.now k5;have ll5 := ll4.now k5;have hh5 := hh0.now k5;have g5 := below_step g4 k5;replace cSA := hid cSA;replace VSA := hid VSA;replace lsa := hid lsa;clear la4 ra4 lb4 rb4 ll4 hh0 g4 k5;have NSA : Hid (SA.length ≤ n + 1) := by unfold Hid;have := lsa.out;rw [LT.out,LD.out] at this;omega
 clear lsa;go_wp2_with fail;refine (zFD lb5 rb5 (by rw [LT'.out];omega) (by rw [LD'.out];omega)).mono ?_;rintro e w6 ⟨SB,vsb,rfl,sb0,cSB,VSB,lsb,k6⟩;have ll6 := ll5.now k6;have hh6 := hh5.now k6;have sa6 := sa0.now k6;have g6 := below_step g5 k6;replace cSB := hid cSB;replace VSB := hid VSB;replace lsb := hid lsb;clear lb5 rb5 ll5 hh5 sa0 g5 k6;have NSB : Hid (SB.length ≤ n + 1) := by unfold Hid;have := lsb.out;rw [LT'.out,LD'.out] at this;omega
 clear lsb;go_wp2_with fail;refine (IH'.out _ _ _ _ _ sa6 sb0 (by have := NSA.out;have := NSB.out;omega) (by have := NSA.out;have := NSB.out;omega)).mono ?_;rintro e w7 ⟨SS,vss,rfl,ms,cSS,VSS,k7⟩;have ll7 := ll6.now k7;have hh7 := hh6.now k7;have g7 := below_step g6 k7;replace cSS := hid cSS;replace VSS := hid VSS;clear sa6 sb0 ll6 hh6 g6 k7;have ss0 := ms.sl;clear ms;have NSS := hid (zfC cSA.out.1 cSB.out.1 cSS.out VSS.out);go_wp2_with fail;refine (zFD ll7 hh7 (by have := NLL.out;rw [LT.out,LT'.out] at this;omega) (by have := NHH.out;rw [LD.out,LD'.out] at this;omega)).mono ?_;rintro e w8 ⟨T,vt,rfl,t0,cT,VT,lt,k8⟩;have ll8 := ll7.now k8;have hh8 := hh7.now k8;have ss8 := ss0.now k8;have g8 := below_step g7 k8;replace cT := hid cT;replace VT := hid VT;clear ll7 hh7 ss0 g7 k8;clear lt;have GE : Hid (val T ≤ val SS) := by unfold Hid;rw [VT.out,VSS.out,VSA.out,VSB.out,VLL.out,VHH.out];exact cross_nonneg (zIA (CX.out.1.take n)) (zIA (CX.out.1.rest n)) (zIA (CY.out.1.take n)) (zIA (CY.out.1.rest n))
 go_wp2_with fail;refine (sub_now ss8 t0 GE.out).mono ?_;rintro e w9 ⟨X,xa,xc,rfl,x0,cXX,VX,lx,k9⟩;have ll9 := ll8.now k9;have hh9 := hh8.now k9;have g9 := below_step g8 k9;replace cXX := hid cXX;replace VX := hid VX;replace lx := hid lx;clear ss8 t0 ll8 hh8 g8 k9;have NX : Hid (X.length ≤ n + 1 + (n + 1)) := by unfold Hid;have := lx.out;have := NSS.out;have := NSA.out;have := NSB.out;omega
 clear lx;go_wp2_with fail;refine (zfB ll9 (by omega)).mono ?_;rintro e w10 ⟨wl,wr,rfl,hl9,hr9,k10⟩;have hh10 := hh9.now k10;have x10 := x0.now k10;have g10 := below_step g9 k10;clear ll9 hh9 x0 g9 k10;have NC := hid (show (LL.drop n).length ≤ LL.length by simp);go_wp2_with fail;refine (zFD x10 hr9 (by have := NX.out;omega) (by have := NC.out;have := NLL.out;rw [LT.out,LT'.out] at this;omega)).mono ?_;rintro e w11 ⟨Y,vy,rfl,y0,cYY,VY,ly,k11⟩;have hh11 := hh10.now k11;have l11 := hl9.now k11;have g11 := below_step g10 k11;replace cYY := hid cYY;replace VY := hid VY;replace ly := hid ly;clear x10 hr9 hh10 hl9 g10 k11;have NY : Hid (Y.length < 35184372088832) := by unfold Hid;have := ly.out;have := NX.out;have := NC.out;have := NLL.out;rw [LT.out,LT'.out] at this;omega
 clear ly;go_wp2_with fail;refine (zfB y0 (by omega)).mono ?_;rintro e w12 ⟨zl,zr,rfl,hl11,hr11,k12⟩;have hh12 := hh11.now k12;have l12 := l11.now k12;have g12 := below_step g11 k12;clear y0 hh11 l11 g11 k12;have ND := hid (show (Y.drop n).length ≤ Y.length by simp);go_wp2_with fail;refine (zFD hh12 hr11 (by have := NHH.out;rw [LD.out,LD'.out] at this;omega) (by have := ND.out;have := NY.out;omega)).mono ?_;rintro e w13 ⟨Z,vz,rfl,z0,cZ,VZ,lz,k13⟩;have l13 := l12.now k13;have m13 := hl11.now k13;have g13 := below_step g12 k13;replace cZ := hid cZ;replace VZ := hid VZ;clear hh12 hr11 l12 hl11 g12 k13;clear lz;have E := hid (four_end CX.out CY.out hn hn' cLL.out VLL.out cHH.out VHH.out VSA.out VSB.out VSS.out VT.out VX.out cYY.out VY.out cZ.out VZ.out);have WZ := hid ((cYY.out.1.take n).append (zhE (n - (Y.take n).length)) |>.append cZ.out.1);clear cLL VLL cHH VHH VSA VSB VSS VT VX cYY VY cZ VZ cXX cT cSS cSA cSB GE NLL NHH NSA NSB NSS NX NC NY ND CX CY IH' ;go_wp2_with fail;refine (zuE m13 z0 E.out.2.1 (by have := E.out.2.2.1;omega)).mono ?_;rintro e w14 ⟨rfl,hr,k14⟩;have l14 := l13.now k14;have g14 := below_step g13 k14;have hj := (zpE (Nat.le_refl _) WZ.out (zCC _ _ E.out.2.1) (by have := E.out.2.2.1;omega) hr).sl;clear m13 z0 l13 g13 k14 hr;go_wp2_with fail;have HJ := zuE l14 hj E.out.1 (by rw [zCC _ _ E.out.2.1];have := E.out.2.2.1;omega);rw [zCC _ _ E.out.2.1] at HJ;refine HJ.mono ?_;rintro e w15 ⟨rfl,hr,k15⟩;have g15 := below_step g14 k15;clear HJ hj;go_wp2;go_ret;exact ⟨_,_,rfl,zpE g14.size E.out.2.2.2.1.1 (by rw [zCC _ _ E.out.1,zCC _ _ E.out.2.1]) (by have := E.out.2.2.1;omega) hr,E.out.2.2.2.1,E.out.2.2.2.2,g15⟩
end Go.Proofs.YtmnecbniappnaaaGreat
