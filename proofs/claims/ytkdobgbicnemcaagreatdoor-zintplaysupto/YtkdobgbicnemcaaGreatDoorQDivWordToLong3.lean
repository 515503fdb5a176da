/-
 QDivWordToLong3: DivWord, DivParts, Guess, Long3, joined.
-/
import Derived.Test.YtkdobgbicnemcaaGreatDoorQDiv64
import Derived.Test.YtkdobgbicnemcaaGreatDoorQMadeToAdd
import Derived.Test.YtkdobgbicnemcaaGreatDoorQByteRowToLen2

set_option maxRecDepth 100000
set_option maxHeartbeats 6400000
set_option linter.unusedVariables false
set_option linter.unusedSimpArgs false
namespace Go.Proofs.YtkdobgbicnemcaaGreatDoor
open Go.RowKit
def zbD (L zs : List Int) (k : Nat) (W r : Int) : Prop :=
 zs.length = L.length ∧ WF zs ∧ (∀ j (h : j < zs.length) (h' : j < L.length),j < k → zs[j] = L[j]) ∧ val L = val (L.take k) + pw k * (W * val (zs.drop k) + r)
theorem zbD.start {L : List Int} (hL : WF L) (W : Int) : zbD L L L.length W 0 :=
 ⟨rfl,hL,fun j _ _ _ => rfl,by simp [val]⟩
theorem zsE {zs : List Int} {k : Nat} (h : k < zs.length) (x : Int) : (zs.set k x).drop k = x :: zs.drop (k + 1) := by
 rw [List.drop_eq_getElem_cons (by simpa using h)];rw [List.getElem_set_self,List.drop_set,if_pos (by omega)]
theorem word_sum (a p x W V r q r' : Int) (h : q * W + r' = r * wB + x) : a + x * p + wB * p * (W * V + r) = a + p * (W * (q + wB * V) + r') := by
 have e : r' = r * wB + x - q * W := by omega
 subst e;simp only [Int.mul_add,Int.mul_sub,Int.mul_comm,Int.mul_left_comm];omega
theorem zbD.step {L zs : List Int} {k : Nat} {W r q r' : Int} (h : zbD L zs (k + 1) W r) (hk : k < L.length) (hq : IsW q) (he : q * W + r' = r * wB + L[k]) : zbD L (zs.set k q) k W r' := by
 obtain ⟨h1,h2,h3,h4⟩ := h;refine ⟨by rw [List.length_set];exact h1,h2.set k hq,fun j hj hj' hjk => ?_,?_⟩
 ·rw [List.getElem_set_ne (by omega)];exact h3 j (by simpa using hj) hj' (by omega)
 ·rw [h4,zsE (by omega),zPA L k hk]
  show _ = _ + pw k * (W * (q + wB * val (zs.drop (k + 1))) + r')
  exact word_sum _ _ _ _ _ _ _ _ he
theorem zbD.done {L zs : List Int} {W r : Int} (h : zbD L zs 0 W r) : val L = W * val zs + r := by
 have := h.2.2.2
 simpa [val,pw] using this
def zLI (w : World) (xs : List Int) (W : Int) (e : Ending) (w' : World) : Prop :=
 ∃ zs q r,e = .returned (.tuple #[q,.int .u64 r,.int .i64 0]) ∧ Own w.heap.size w' q zs ∧ zHA zs ∧ IsW r ∧ r < W ∧ val xs = W * val zs + r ∧ zs.length ≤ wid xs ∧ Below w.heap.size w w'
theorem zVD {w : World} {v : Value} {xs : List Int} (h : Sl w.heap.size w v xs) :
  Calls Tryz.prog 75 #[v] w fun e w' => ∃ r,e = .returned r ∧ Own w.heap.size w' r (lst xs) ∧ Below w.heap.size w w' :=
 (least_any h).mono fun e w' ⟨h1,h2,h3,h4⟩ => by
  have hx := h.1;obtain ⟨_,a,cap,_,h6,h7,_⟩ := h;have := zRA xs;refine ⟨_,h1,⟨(canon_lst hx).1,.inr ⟨w.heap.size,[],Nat.le_refl _,?_,?_,?_⟩⟩,h3⟩
  ·simp [length_lst];omega
  ·simp [length_lst]
  ·simpa using h2
theorem divWord_any {w : World} {v : Value} {xs : List Int} {W : Int} (h : Sl w.heap.size w v xs) (hW : IsW W) (h0 : 0 < W) :
  Calls Tryz.prog 136 #[v,.int .u64 W] w (zLI w xs W) := by
 have HLE := least_any h;have hx := h.1;have hwb : (W == 0) = false := by rw [beq_eq_false_iff_ne];omega
 have HLL := hid (length_lst xs);have HWL := hid (canon_lst hx).1;have HVL := hid (val_lst xs);have l1 := zRA xs;have hcm : wid xs ≤ 35184372088832 := by
  obtain ⟨_,a,cap,_,_,h7,_⟩ := h;omega
 have HST := hid (zbD.start (canon_lst hx).1 W);rw [length_lst] at HST;have HX := hid (show zLI w xs W = zLI w xs W from rfl);generalize lst xs = L at *;obtain ⟨n,hn⟩ : ∃ n,n = wid xs := ⟨_,rfl⟩
 rw [← hn] at HLE HLL HST hcm l1;have HN := hid hn;clear h hx hn HX;go_enter Tryz.func136,Tryz.ntmps136;go_wp2_with fail;refine HLE.mono ?_;rintro e w1 ⟨rfl,hrow,hb1,hsz1⟩;clear HLE;have hr1 := hid hrow;have hb1' := hid hb1;clear hrow hb1;go_wp2_with fail
 go_loopw [8,9] (fun c i wr => ∃ (k : Nat) (zs : List Int) (r : Int),k ≤ n ∧ i = .int .i64 ((k : Int) - 1) ∧ c = .int .u64 r ∧ 0 ≤ r ∧ r < W ∧ Hid (zbD L zs k W r) ∧ Row wr w.heap.size (ws zs) ∧ Below w.heap.size w wr) (fun _ i _ => (intOf i + 1).toNat)
 case atStart => exact ⟨n,L,0,Nat.le_refl _,rfl,rfl,by omega,h0,HST,hr1.out,hb1'.out⟩
 case round =>
  clear HST hr1 hb1' hsz1;obtain ⟨k,zs,r,hk,rfl,rfl,hr0,hrW,HA,hr,hb⟩ := hrel;have hzl : zs.length = n := HA.out.1.trans HLL.out
  by_cases hk0 : k = 0
  ·subst hk0
   have hwz := HA.out.2.1;have hsl := Row.sl (r := []) (by simpa using hr) hwz (cap := n) (by rw [hzl];exact Nat.le_refl _) (by omega) hr.lt;rw [hzl] at hsl;have HL2 := hid (zVD hsl);clear hsl;go_wp2_with fail;refine HL2.out.mono ?_;rintro e w2 ⟨v2,rfl,ho,hb2⟩;have HO := hid ho;have HB := hid hb2;clear ho hb2;go_wp2;go_ret3;refine ⟨lst zs,v2,r,rfl,?_,canon_lst hwz,⟨hr0,Int.lt_trans hrW hW.2⟩,hrW,?_,?_,hb.trans (HB.out.mono hb.size)⟩
   ·obtain ⟨a1,a2 | ⟨g,rr,a2,a3⟩⟩ := HO.out
    ·exact ⟨a1,.inl a2⟩
    ·exact ⟨a1,.inr ⟨g,rr,Nat.le_trans hb.size a2,a3⟩⟩
   ·rw [← HVL.out,val_lst];exact HA.out.done
   ·rw [length_lst,← HN.out,← hzl];exact zRA _
  ·obtain ⟨j,rfl⟩ : ∃ j,k = j + 1 := ⟨k - 1,by omega⟩
   have hj1 : j < zs.length := by omega
   have hj2 : j < L.length := by have := HLL.out;omega
   have hzj : zs[j] = L[j] := HA.out.2.2.1 j hj1 hj2 (by omega);have c1 : ∀ q,(wr.drewN q).cell? ⟨w.heap.size,j,none⟩ = some (.int .u64 L[j]) := fun q => by
    have := Row.word (r := []) (by simpa using hr.drewN q) hj1;rw [hzj] at this;exact this
   have c1' : wr.cell? ⟨w.heap.size,j,none⟩ = some (.int .u64 L[j]) := c1 0;have cf : ∀ q,(wr.drewN q).frozen? ⟨w.heap.size,j,none⟩ = false := fun q => (hr.drewN q).frozen j
   obtain ⟨q,r',hq,hr0',hrW',he,hdiv⟩ := zSG ⟨hr0,Int.lt_trans hrW hW.2⟩ (HWL.out.get hj2) hW hrW;have HA' := hid (HA.out.step hj2 hq he);have HR : Hid (∀ m,Row ((wr.drewN m).setCell ⟨w.heap.size,j,none⟩ (.int .u64 q)) w.heap.size (ws (zs.set j q))) := fun m => by
    have := Row.setWord (r := []) (by simpa using hr.drewN m) hj1 q
    simpa using this
   have HB : Hid (∀ m,Below w.heap.size w ((wr.drewN m).setCell ⟨w.heap.size,j,none⟩ (.int .u64 q))) := fun m =>
    (below_drewN hb m).setCell (p := ⟨w.heap.size,j,none⟩) (Nat.le_refl _) (.int .u64 q)
   have ej : ((j + 1 : Nat) : Int) - 1 = (j : Int) := by omega
   have i0 : (0 : Int) ≤ (j : Int) := by omega
   have i2 : (j : Int) < (n : Int) := by omega
   clear hzj hr hb HA hj1 he;generalize L[j] = x at *;generalize zs.set j q = zs' at *;go_wp2_with fail;refine (hdiv _).mono ?_;rintro e w2 ⟨rfl,m,rfl⟩;go_wp2;go_roundw
   case rel => exact ⟨j,zs',r',by omega,by go_num,rfl,hr0',hrW',HA',HR.out _,HB.out _⟩
   case measure => simp [intOf]
def Only (g : Nat) (w w' : World) : Prop := w'.heap.size = w.heap.size ∧ ∀ h,h ≠ g → w'.heap[h]? = w.heap[h]?
theorem Only.refl (g : Nat) (w : World) : Only g w w := ⟨rfl,fun _ _ => rfl⟩
theorem Only.trans {g : Nat} {w w1 w2 : World} (h : Only g w w1) (k : Only g w1 w2) : Only g w w2 := ⟨k.1.trans h.1,fun j hj => (k.2 j hj).trans (h.2 j hj)⟩
theorem Only.set {g : Nat} {w w1 : World} (h : Only g w w1) (i : Nat) (v : Value) : Only g w (w1.setCell ⟨g,i,none⟩ v) := by
 refine ⟨by rw [← h.1];simp [World.setCell],fun j hj => ?_⟩;rw [← h.2 j hj];simp [World.setCell,Array.getElem?_modify,Ne.symm hj]
theorem Only.drew {g : Nat} {w w1 : World} (h : Only g w w1) (n : Nat) : Only g w (w1.drewN n) := ⟨h.1,h.2⟩
theorem Only.row {g j : Nat} {w w1 : World} {L : List Value} (h : Only g w w1) (hj : j ≠ g) (r : Row w j L) : Row w1 j L := (h.2 j hj).trans r
theorem take_step {zs xs : List Int} {o k : Nat} {z0 W cc bb hi lo l1 ov s d x z : Int} (hz : o + k < zs.length) (hzz : zs[o + k] = z) (hx : k < xs.length) (hxx : xs[k] = x) (hv : val zs - pw (o + k) * (cc + bb) = z0 - pw o * (val (xs.take k) * W))
  (hm : lo + wB * hi = x * W) (h1 : l1 + wB * ov = lo + cc + 0) (h2 : s - wB * d = z - l1 - bb) :
  val (zs.set (o + k) s) - pw (o + (k + 1)) * (hi + ov + d) = z0 - pw o * (val (xs.take (k + 1)) * W) := by
 rw [zhB zs (o + k) s hz,hzz,zPA xs k hx,hxx,show o + (k + 1) = (o + k) + 1 by omega,pw];rw [zFG] at hv ⊢;generalize pw o = P at *;generalize pw k = K at *;generalize val zs = Z at *;generalize val (xs.take k) = X at *;have e : s = z - l1 - bb + wB * d := by omega
 subst e;have e2 : l1 = lo + cc - wB * ov := by omega
 subst e2;have e3 : lo = x * W - wB * hi := by omega
 subst e3
 grind
theorem take_last {zs : List Int} {o n : Nat} {z0 X cc bb s d z : Int} (hz : o + n < zs.length) (hzz : zs[o + n] = z) (hv : val zs - pw (o + n) * (cc + bb) = z0 - X) (h2 : s - wB * d = z - cc - bb) :
  val (zs.set (o + n) s) - pw (o + n + 1) * d = z0 - X := by
 rw [zhB zs (o + n) s hz,hzz,pw];generalize pw (o + n) = P at *;generalize val zs = Z at *;have e : s = z - cc - bb + wB * d := by omega
 subst e
 grind
theorem times_fits {v w cc hi lo l1 ov : Int} (hv : IsW v) (hw : IsW w) (hc : IsW cc) (h0 : 0 ≤ hi) (hlo : IsW lo) (hm : lo + wB * hi = v * w) (hl1 : IsW l1) (ho : 0 ≤ ov) (e1 : l1 + wB * ov = lo + cc + 0) : IsW (hi + ov) := by
 have := zyC hv hw;generalize v * w = p at *;unfold IsW wB at *;refine ⟨by omega,by omega⟩
theorem takeTimes_any {g : Nat} {w : World} {u : Value} {zs0 xs : List Int} {r : List Value} {o cap : Nat} {W : Int} (hz0 : WF zs0) (hrow : Row w g (ws zs0 ++ r)) (hlz : zs0.length ≤ 35184372088832) (hx : Sl g w u xs) (hW : IsW W) (hl : o + xs.length + 1 ≤ zs0.length) :
  Calls Tryz.prog 158 #[.slice (some ⟨g,o,none⟩) (xs.length + 1) cap,u,.int .u64 W] w fun e w' =>
   ∃ zs c,e = .returned (.int .u64 c) ∧ zs.length = zs0.length ∧ WF zs ∧ 0 ≤ c ∧ c ≤ 1 ∧ val zs - pw (o + xs.length + 1) * c = val zs0 - pw o * (val xs * W) ∧ zs.drop (o + xs.length + 1) = zs0.drop (o + xs.length + 1) ∧ Row w' g (ws zs ++ r) ∧ Below g w w' ∧ Only g w w' := by
 obtain ⟨hwx,a,capx,rfl,hlc,hcm,hm⟩ := hx;have HV0 : Hid (val zs0 - pw (o + 0) * (0 + 0) = val zs0 - pw o * (val (xs.take 0) * W)) := by unfold Hid;simp [val]
 have HTL : Hid (xs.take xs.length = xs) := by unfold Hid;simp
 obtain ⟨m,hmz⟩ : ∃ m,m = zs0.length := ⟨_,rfl⟩
 obtain ⟨n,hnx⟩ : ∃ n,n = xs.length := ⟨_,rfl⟩
 rw [← hmz] at hl hlz;rw [← hnx] at hl hlc HTL;rw [← hmz,← hnx];have HM : Hid (m = zs0.length) := hmz;have HN : Hid (n = xs.length) := hnx;clear hmz hnx;have hW' := hW;unfold IsW wB at hW';go_enter Tryz.func158,Tryz.ntmps158;go_wp2_with fail
 go_loopw [7,8,16] (fun c d i wr => ∃ (k : Nat) (zs : List Int) (cc bb : Int),k ≤ n ∧ i = .int .i64 k ∧ c = .int .u64 cc ∧ d = .int .u64 bb ∧ IsW cc ∧ 0 ≤ bb ∧ bb ≤ 1 ∧ Hid (zs.length = m) ∧ WF zs ∧ Hid (val zs - pw (o + k) * (cc + bb) = val zs0 - pw o * (val (xs.take k) * W)) ∧ Hid (zs.drop (o + n + 1) = zs0.drop (o + n + 1)) ∧ Row wr g (ws zs ++ r) ∧ Below g w wr ∧ Hid (Only g w wr)) (fun _ _ i _ => n - (intOf i).toNat)
 case atStart => exact ⟨0,zs0,0,0,Nat.zero_le _,rfl,rfl,rfl,by unfold IsW wB;omega,by omega,by omega,HM.out.symm,hz0,HV0,rfl,hrow,Below.refl _ _,Only.refl _ _⟩
 case round =>
  obtain ⟨k,zs,cc,bb,hk,rfl,rfl,rfl,hc,hb0,hb1,HL,hwz,HV,HD,hr,hb,HO⟩ := hrel
  by_cases hlt : k < n
  ·have hk1 : o + k < zs.length := by have := HL.out;omega
   have hk2 : k < xs.length := by have := HN.out;omega
   rcases hm with e | ⟨b,off,rfl,hbg,hcy⟩
   ·subst e;simp at hk2
   have c1 : wr.cell? ⟨g,o + k,none⟩ = some (.int .u64 zs[o + k]) := hr.word hk1;have c2 : wr.cell? ⟨b,off + k,none⟩ = some (.int .u64 xs[k]) := (hb.cell (p := ⟨b,off + k,none⟩) hbg).trans (hcy k hk2);have cf : wr.frozen? ⟨g,o + k,none⟩ = false := hr.frozen (o + k);obtain ⟨hi,lo,hhi,hlo,hmm,hmul⟩ := zIG (hwx.get hk2) hW;obtain ⟨l1,ov,hl1,ho10,ho11,hs1,hadd1⟩ := zkB hlo hc (Int.le_refl 0) (by omega);obtain ⟨s,d,hs,hd0,hd1,hs2,hsub2⟩ := zMD (hwz.get hk1) hl1 hb0 hb1;have hc' : IsW (hi + ov) := times_fits (hwx.get hk2) hW hc hhi.1 hlo hmm hl1 ho10 hs1;have HV' : Hid (val (zs.set (o + k) s) - pw (o + (k + 1)) * (hi + ov + d) = val zs0 - pw o * (val (xs.take (k + 1)) * W)) := take_step hk1 rfl hk2 rfl HV.out hmm hs1 hs2;have HD' : Hid ((zs.set (o + k) s).drop (o + n + 1) = zs0.drop (o + n + 1)) := by unfold Hid;rw [List.drop_set,if_pos (by omega)];exact HD.out
   have hwz' : WF (zs.set (o + k) s) := hwz.set (o + k) hs;have HR := hr.setWord hk1 s;have HB := hb.setCell (p := ⟨g,o + k,none⟩) (Nat.le_refl _) (.int .u64 s);have HO' := hid (HO.out.set (o + k) (.int .u64 s));have hi0 := hhi.1;have hcb := hc';unfold IsW wB at hcb;obtain ⟨hcb0,hcb1⟩ := hcb;clear hs1 hs2 hmm hl1 hs hlo hhi;generalize zs[o + k] = x at *;generalize xs[k] = y at *;have HL' : Hid ((zs.set (o + k) s).length = m) := by unfold Hid;rw [List.length_set];exact HL.out
   generalize zs.set (o + k) s = zs' at *;clear hcy hr hb hwz HV hrow HL HD hc HO;go_wp2_with fail;refine (hmul _).mono ?_;rintro e w1 ⟨rfl,rfl⟩;go_wp2;go_roundw
   case rel => exact ⟨k + 1,zs',hi + ov,d,by omega,by go_num,rfl,rfl,hc',hd0,hd1,HL',hwz',HV',HD',HR,HB,HO'⟩
   case measure => simp [intOf];omega
  ·obtain rfl : k = n := by omega
   rw [HTL.out] at HV;have hk1 : o + k < zs.length := by have := HL.out;omega
   have c1 : wr.cell? ⟨g,o + k,none⟩ = some (.int .u64 zs[o + k]) := hr.word hk1;have cf : wr.frozen? ⟨g,o + k,none⟩ = false := hr.frozen (o + k);obtain ⟨s,d,hs,hd0,hd1,hs2,hsub2⟩ := zMD (hwz.get hk1) hc hb0 hb1;have HV' : Hid (val (zs.set (o + k) s) - pw (o + k + 1) * d = val zs0 - pw o * (val xs * W)) := take_last hk1 rfl HV.out hs2;have HD' : Hid ((zs.set (o + k) s).drop (o + k + 1) = zs0.drop (o + k + 1)) := by unfold Hid;rw [List.drop_set,if_pos (by omega)];exact HD.out
   have hwz' : WF (zs.set (o + k) s) := hwz.set (o + k) hs;have HR := hr.setWord hk1 s;have HB := hb.setCell (p := ⟨g,o + k,none⟩) (Nat.le_refl _) (.int .u64 s);have HO' := hid (HO.out.set (o + k) (.int .u64 s));clear hs2 hs;generalize zs[o + k] = x at *;have HL' : Hid ((zs.set (o + k) s).length = m) := by unfold Hid;rw [List.length_set];exact HL.out
   generalize zs.set (o + k) s = zs' at *;clear hr hb hwz HV hrow HL HD HO hm;go_wp2;go_ret;exact ⟨zs',d,rfl,HL'.out,hwz',hd0,hd1,HV'.out,HD'.out,HR,HB,HO'.out⟩
theorem add_step {zs xs : List Int} {o k : Nat} {z0 cc s d x z : Int} (hz : o + k < zs.length) (hzz : zs[o + k] = z) (hx : k < xs.length) (hxx : xs[k] = x) (hv : val zs + pw (o + k) * cc = z0 + pw o * val (xs.take k)) (h2 : s + wB * d = z + x + cc) :
  val (zs.set (o + k) s) + pw (o + (k + 1)) * d = z0 + pw o * val (xs.take (k + 1)) := by
 rw [zhB zs (o + k) s hz,hzz,zPA xs k hx,hxx,show o + (k + 1) = (o + k) + 1 by omega,pw];rw [zFG] at hv ⊢;generalize pw o = P at *;generalize pw k = K at *;generalize val zs = Z at *;generalize val (xs.take k) = X at *;have e : s = z + x + cc - wB * d := by omega
 subst e
 grind
theorem add_last {zs : List Int} {o n : Nat} {z0 X cc s d z : Int} (hz : o + n < zs.length) (hzz : zs[o + n] = z) (hv : val zs + pw (o + n) * cc = z0 + X) (h2 : s + wB * d = z + 0 + cc) :
  val (zs.set (o + n) s) + pw (o + n + 1) * d = z0 + X := by
 rw [zhB zs (o + n) s hz,hzz,pw];generalize pw (o + n) = P at *;generalize val zs = Z at *;have e : s = z + cc - wB * d := by omega
 subst e
 grind
theorem divAddTo_any {g : Nat} {w : World} {u : Value} {zs0 xs : List Int} {r : List Value} {o cap : Nat} (hz0 : WF zs0) (hrow : Row w g (ws zs0 ++ r)) (hlz : zs0.length ≤ 35184372088832) (hx : Sl g w u xs) (hl : o + xs.length + 1 ≤ zs0.length) :
  Calls Tryz.prog 159 #[.slice (some ⟨g,o,none⟩) (xs.length + 1) cap,u] w fun e w' =>
   ∃ zs c,e = .returned (.int .u64 c) ∧ zs.length = zs0.length ∧ WF zs ∧ 0 ≤ c ∧ c ≤ 1 ∧ val zs + pw (o + xs.length + 1) * c = val zs0 + pw o * val xs ∧ zs.drop (o + xs.length + 1) = zs0.drop (o + xs.length + 1) ∧ Row w' g (ws zs ++ r) ∧ Below g w w' ∧ Only g w w' := by
 obtain ⟨hwx,a,capx,rfl,hlc,hcm,hm⟩ := hx;have HV0 : Hid (val zs0 + pw (o + 0) * 0 = val zs0 + pw o * val (xs.take 0)) := by unfold Hid;simp [val]
 have HTL : Hid (xs.take xs.length = xs) := by unfold Hid;simp
 obtain ⟨m,hmz⟩ : ∃ m,m = zs0.length := ⟨_,rfl⟩
 obtain ⟨n,hnx⟩ : ∃ n,n = xs.length := ⟨_,rfl⟩
 rw [← hmz] at hl hlz;rw [← hnx] at hl hlc HTL;rw [← hmz,← hnx];have HM : Hid (m = zs0.length) := hmz;have HN : Hid (n = xs.length) := hnx;clear hmz hnx;go_enter Tryz.func159,Tryz.ntmps159;go_wp2_with fail
 go_loopw [5,10] (fun c i wr => ∃ (k : Nat) (zs : List Int) (cc : Int),k ≤ n ∧ i = .int .i64 k ∧ c = .int .u64 cc ∧ 0 ≤ cc ∧ cc ≤ 1 ∧ Hid (zs.length = m) ∧ WF zs ∧ Hid (val zs + pw (o + k) * cc = val zs0 + pw o * val (xs.take k)) ∧ Hid (zs.drop (o + n + 1) = zs0.drop (o + n + 1)) ∧ Row wr g (ws zs ++ r) ∧ Below g w wr ∧ Hid (Only g w wr)) (fun _ i _ => n - (intOf i).toNat)
 case atStart => exact ⟨0,zs0,0,Nat.zero_le _,rfl,rfl,by omega,by omega,HM.out.symm,hz0,HV0,rfl,hrow,Below.refl _ _,Only.refl _ _⟩
 case round =>
  obtain ⟨k,zs,cc,hk,rfl,rfl,hc0,hc1,HL,hwz,HV,HD,hr,hb,HO⟩ := hrel
  by_cases hlt : k < n
  ·have hk1 : o + k < zs.length := by have := HL.out;omega
   have hk2 : k < xs.length := by have := HN.out;omega
   rcases hm with e | ⟨b,off,rfl,hbg,hcy⟩
   ·subst e;simp at hk2
   have c1 : wr.cell? ⟨g,o + k,none⟩ = some (.int .u64 zs[o + k]) := hr.word hk1;have c2 : wr.cell? ⟨b,off + k,none⟩ = some (.int .u64 xs[k]) := (hb.cell (p := ⟨b,off + k,none⟩) hbg).trans (hcy k hk2);have cf : wr.frozen? ⟨g,o + k,none⟩ = false := hr.frozen (o + k);obtain ⟨s,d,hs,hd0,hd1,hs2,hadd⟩ := zkB (hwz.get hk1) (hwx.get hk2) hc0 hc1;have HV' : Hid (val (zs.set (o + k) s) + pw (o + (k + 1)) * d = val zs0 + pw o * val (xs.take (k + 1))) := add_step hk1 rfl hk2 rfl HV.out hs2;have HD' : Hid ((zs.set (o + k) s).drop (o + n + 1) = zs0.drop (o + n + 1)) := by unfold Hid;rw [List.drop_set,if_pos (by omega)];exact HD.out
   have hwz' : WF (zs.set (o + k) s) := hwz.set (o + k) hs;have HR := hr.setWord hk1 s;have HB := hb.setCell (p := ⟨g,o + k,none⟩) (Nat.le_refl _) (.int .u64 s);have HO' := hid (HO.out.set (o + k) (.int .u64 s));clear hs2 hs;generalize zs[o + k] = x at *;generalize xs[k] = y at *;have HL' : Hid ((zs.set (o + k) s).length = m) := by unfold Hid;rw [List.length_set];exact HL.out
   generalize zs.set (o + k) s = zs' at *;clear hcy hr hb hwz HV hrow HL HD HO;go_wp2;go_roundw
   case rel => exact ⟨k + 1,zs',d,by omega,by go_num,rfl,hd0,hd1,HL',hwz',HV',HD',HR,HB,HO'⟩
   case measure => simp [intOf];omega
  ·obtain rfl : k = n := by omega
   rw [HTL.out] at HV;have hk1 : o + k < zs.length := by have := HL.out;omega
   have c1 : wr.cell? ⟨g,o + k,none⟩ = some (.int .u64 zs[o + k]) := hr.word hk1;have cf : wr.frozen? ⟨g,o + k,none⟩ = false := hr.frozen (o + k);obtain ⟨s,d,hs,hd0,hd1,hs2,hadd⟩ := zkB (hwz.get hk1) (show IsW 0 by unfold IsW wB;omega) hc0 hc1;have HV' : Hid (val (zs.set (o + k) s) + pw (o + k + 1) * d = val zs0 + pw o * val xs) := add_last hk1 rfl HV.out hs2;have HD' : Hid ((zs.set (o + k) s).drop (o + k + 1) = zs0.drop (o + k + 1)) := by unfold Hid;rw [List.drop_set,if_pos (by omega)];exact HD.out
   have hwz' : WF (zs.set (o + k) s) := hwz.set (o + k) hs;have HR := hr.setWord hk1 s;have HB := hb.setCell (p := ⟨g,o + k,none⟩) (Nat.le_refl _) (.int .u64 s);have HO' := hid (HO.out.set (o + k) (.int .u64 s));clear hs2 hs;generalize zs[o + k] = x at *;have HL' : Hid ((zs.set (o + k) s).length = m) := by unfold Hid;rw [List.length_set];exact HL.out
   generalize zs.set (o + k) s = zs' at *;clear hr hb hwz HV hrow HL HD HO hm;go_wp2;go_ret;exact ⟨zs',d,rfl,HL'.out,hwz',hd0,hd1,HV'.out,HD'.out,HR,HB,HO'.out⟩
theorem zkF {bs : List Int} {N : Nat} (h : bs.length = N + 1) : val bs = val (bs.take N) + bs[N] * pw N := by
 have := zPA bs N (by omega)
 rwa [← h,List.take_length] at this
theorem val_top2 {ps : List Int} {N : Nat} (h : ps.length = N + 2) : val ps = val (ps.take N) + (ps[N] + wB * ps[N + 1]) * pw N := by
 rw [zkF (N := N + 1) h,zPA ps N (by omega),pw];generalize pw N = P;generalize val (ps.take N) = V;generalize ps[N] = a;generalize ps[N + 1] = b
 grind
theorem guess_ok {ps bs : List Int} {N : Nat} {q r : Int} (hp : WF ps) (hb : WF bs) (h1 : ps.length = N + 2) (h2 : bs.length = N + 1) (hq : 0 ≤ q) (hr : r < bs[N]) (he : q * bs[N] + r = ps[N + 1] * wB + ps[N]) : val ps < (q + 1) * val bs := by
 rw [val_top2 h1,zkF h2];have l1 := zUA (hp.take N);have l2 := zEA (hb.take N);rw [show (ps.take N).length = N by simp;omega] at l1;have hP := zVB N;generalize pw N = P at *;generalize val (ps.take N) = V at *;generalize val (bs.take N) = U at *;generalize bs[N] = t at *;generalize ps[N] = a at *;generalize ps[N + 1] = b at *;have e1 : a + wB * b + 1 ≤ (q + 1) * t := by rw [Int.add_mul,Int.one_mul,Int.mul_comm wB];omega
 have e2 := Int.mul_le_mul_of_nonneg_right e1 (Int.le_of_lt hP);have e3 : 0 ≤ (q + 1) * U := Int.mul_nonneg (by omega) l2;rw [Int.mul_add (q + 1),← Int.mul_assoc];rw [Int.add_mul (a + wB * b),Int.one_mul] at e2;omega
theorem guess_any {B : Nat} {w : World} {v u : Value} {ps bs : List Int} {N : Nat} (h : Sl B w v ps) (h' : Sl B w u bs) (h1 : ps.length = N + 2) (h2 : bs.length = N + 1) (hlt : val ps < wB * val bs) :
  Calls Tryz.prog 157 #[v,u] w fun e w' => (∃ d,e = .returned (.int .u64 d) ∧ IsW d ∧ val ps < (d + 1) * val bs) ∧ ∃ n,w' = w.drewN n := by
 obtain ⟨hwp,a,cap,rfl,hlc,hcm,hm⟩ := h;obtain ⟨hwb,a',cap',rfl,hlc',hcm',hm'⟩ := h';rcases hm with e | ⟨b,off,rfl,hbB,hc⟩
 ·subst e;simp at h1
 rcases hm' with e | ⟨b',off',rfl,hbB',hc'⟩
 ·subst e;simp at h2
 have HG : Hid (∀ q r : Int,0 ≤ q → r < bs[N] → q * bs[N] + r = ps[N + 1] * wB + ps[N] → val ps < (q + 1) * val bs) := fun q r q1 q2 q3 => guess_ok hwp hwb h1 h2 q1 q2 q3
 have HLT := hid hlt;have w1 := hwp.get (show N < ps.length by omega);have w2 := hwp.get (show N + 1 < ps.length by omega);have w3 := hwb.get (show N < bs.length by omega);have c1 : ∀ q,(w.drewN q).cell? ⟨b,off + (N + 1),none⟩ = some (.int .u64 ps[N + 1]) := fun q => by simpa using hc (N + 1) (by omega)
 have c2 : ∀ q,(w.drewN q).cell? ⟨b,off + N,none⟩ = some (.int .u64 ps[N]) := fun q => by simpa using hc N (by omega)
 have c3 : ∀ q,(w.drewN q).cell? ⟨b',off' + N,none⟩ = some (.int .u64 bs[N]) := fun q => by simpa using hc' N (by omega)
 have c1' : w.cell? ⟨b,off + (N + 1),none⟩ = some (.int .u64 ps[N + 1]) := c1 0;have c2' : w.cell? ⟨b,off + N,none⟩ = some (.int .u64 ps[N]) := c2 0;have c3' : w.cell? ⟨b',off' + N,none⟩ = some (.int .u64 bs[N]) := c3 0;rw [h1,h2];rw [h1] at hlc hcm;rw [h2] at hlc' hcm';clear hc hc' hlt;generalize ps[N + 1] = p1 at *;generalize ps[N] = p0 at *;generalize bs[N] = t at *;have eN : ((N + 1 : Nat) : Int) - 1 = (N : Int) := by omega
 have HEND : Hid (IsW 18446744073709551615 ∧ val ps < (18446744073709551615 + 1) * val bs) := ⟨by unfold IsW wB;omega,HLT.out⟩
 clear h1 h2 hwp hwb HLT
 by_cases hge : t ≤ p1
 ·clear HG
  go_enter Tryz.func157,Tryz.ntmps157;go_wp2_with fail;go_quiet (fail);go_wp2;go_ret;exact ⟨⟨_,rfl,HEND.out⟩,_,rfl⟩
 ·obtain ⟨q,r,hq,hr0,hr1,he,hdiv⟩ := zSG w2 w1 w3 (by omega)
  have HQ := hid (HG.out q r hq.1 hr1 he);clear HG he;go_enter Tryz.func157,Tryz.ntmps157;go_wp2_with fail;go_quiet (fail);go_wp2_with fail;go_quiet ((go_at_call 156;exact (hdiv _).mono (fun e w'' h => ⟨h.1,by obtain ⟨_,n,h2⟩ := h;exact ⟨_,by rw [h2,World.drewN_drewN,Nat.add_assoc]⟩⟩)));go_wp2;go_ret;exact ⟨⟨q,rfl,hq,HQ.out⟩,by first | exact ⟨_,rfl⟩ | exact ⟨_,World.drewN_drewN _ _ _⟩⟩
theorem zSE {zs : List Int} {j : Nat} (hj : j ≤ zs.length) : val zs = val (zs.take j) + pw j * val (zs.drop j) := by
 have h := zuA (zs.take j) (zs.drop j);rw [List.take_append_drop,show (zs.take j).length = j by simp;omega] at h;exact h
theorem WF.dropped {xs : List Int} (h : WF xs) (n : Nat) : WF (xs.drop n) := fun x hx => h x (List.mem_of_mem_drop hx)
theorem split_eq {zs zs1 : List Int} {j : Nat} {X : Int} (h : WF zs) (h1 : WF zs1) (hl : zs1.length = zs.length) (hj : j ≤ zs.length) (he : val zs1 = val zs + pw j * X) : val (zs1.drop j) = val (zs.drop j) + X := by
 rw [zSE hj,zSE (zs := zs1) (j := j) (by omega)] at he;have a1 := zUA (h.take j);have a2 := zUA (h1.take j);rw [show (zs.take j).length = j by simp;omega] at a1;rw [show (zs1.take j).length = j by simp;omega] at a2;have b1 := zEA (h.take j);have b2 := zEA (h1.take j);generalize val (zs.take j) = a at *;generalize val (zs1.take j) = b at *;generalize val (zs.drop j) = A at *;generalize val (zs1.drop j) = B at *;generalize pw j = P at *;have e : P * (B - A - X) = a - b := by rw [Int.mul_sub,Int.mul_sub];omega
 rcases Int.lt_trichotomy (B - A - X) 0 with q | q | q
 ·have := Int.mul_le_mul_of_nonneg_left (show B - A - X ≤ -1 by omega) (show 0 ≤ P by omega)
  rw [Int.mul_neg,Int.mul_one] at this;omega
 ·omega
 ·have := Int.mul_le_mul_of_nonneg_left (show 1 ≤ B - A - X by omega) (show 0 ≤ P by omega)
  rw [Int.mul_one] at this;omega
theorem top_zero {zs : List Int} {n : Nat} (h : WF zs) (hn : n ≤ zs.length) (hv : val zs < pw n) : val (zs.drop n) = 0 := by
 rw [zSE hn] at hv;have b1 := zEA (h.take n);have b2 := zEA (h.dropped n);have hP := zVB n;generalize val (zs.take n) = a at *;generalize val (zs.drop n) = A at *;generalize pw n = P at *
 by_cases q : A = 0
 ·exact q
 ·have := Int.mul_le_mul_of_nonneg_left (show 1 ≤ A by omega) (show 0 ≤ P by omega)
  rw [Int.mul_one] at this;omega
def zeB (zs0 bs qs zs : List Int) (k : Nat) : Prop :=
 zs.length = zs0.length ∧ WF zs ∧ qs.length + bs.length = zs0.length ∧ WF qs ∧ (∀ i (h : i < qs.length),i < k → qs[i] = 0) ∧ val zs0 = val qs * val bs + val zs ∧ val (zs.drop k) < val bs
def zmB (zs bs zs1 : List Int) (j : Nat) (D c : Int) : Prop :=
 zs1.length = zs.length ∧ WF zs1 ∧ val zs1 - pw (j + bs.length + 1) * c = val zs - pw j * (val bs * D) ∧ zs1.drop (j + bs.length + 1) = zs.drop (j + bs.length + 1) ∧ val (zs.drop j) < (D + 1) * val bs ∧ IsW D
theorem zeB.above {zs0 bs qs zs : List Int} {j : Nat} (h : zeB zs0 bs qs zs (j + 1)) (hb : WF bs) (hj : j < qs.length) : val (zs.drop (j + bs.length + 1)) = 0 := by
 obtain ⟨h1,h2,h3,h4,h5,h6,h7⟩ := h;have := top_zero (h2.dropped (j + 1)) (n := bs.length) (by rw [List.length_drop];omega) (Int.lt_trans h7 (zUA hb));rw [List.drop_drop] at this;rw [show j + bs.length + 1 = j + 1 + bs.length by omega];exact this
theorem zeB.part {zs0 bs qs zs : List Int} {j : Nat} (h : zeB zs0 bs qs zs (j + 1)) (hb : WF bs) (hj : j < qs.length) : val ((zs.drop j).take (bs.length + 1)) = val (zs.drop j) := by
 have ha := h.above hb hj;obtain ⟨h1,h2,h3,h4,h5,h6,h7⟩ := h;have := zSE (zs := zs.drop j) (j := bs.length + 1) (by rw [List.length_drop];omega);rw [List.drop_drop,← Nat.add_assoc,ha,Int.mul_zero,Int.add_zero] at this;exact this.symm
theorem zeB.small {zs0 bs qs zs : List Int} {j : Nat} (h : zeB zs0 bs qs zs (j + 1)) (hj : j < qs.length) : val (zs.drop j) < wB * val bs := by
 obtain ⟨h1,h2,h3,h4,h5,h6,h7⟩ := h;have hz : j < zs.length := by omega
 rw [List.drop_eq_getElem_cons hz];have hw := h2.get hz
 show zs[j] + wB * val (zs.drop (j + 1)) < _
 unfold IsW wB at *;omega
theorem zmB.one {zs0 bs qs zs zs1 : List Int} {j : Nat} {D c : Int} (hL : zeB zs0 bs qs zs (j + 1)) (hb : WF bs) (hj : j < qs.length) (h : zmB zs bs zs1 j D c) :
  val (zs1.drop j) - pw (bs.length + 1) * c = val (zs.drop j) - D * val bs ∧ val (zs1.drop j) < pw (bs.length + 1) ∧ 0 ≤ val (zs1.drop j) := by
 have ha := hL.above hb hj;obtain ⟨h1,h2,h3,h4,h5,h6,h7⟩ := hL;obtain ⟨d1,d2,d3,d4,d5,d6⟩ := h;refine ⟨?_,?_,zEA (d2.dropped j)⟩
 ·have := split_eq (j := j) (X := pw (bs.length + 1) * c - val bs * D) h2 d2 d1 (by omega) (by
   rw [Nat.add_assoc,zFG] at d3;rw [Int.mul_sub,← Int.mul_assoc];omega)
  rw [this,Int.mul_comm D];omega
 ·have e := zSE (zs := zs1.drop j) (j := bs.length + 1) (by rw [List.length_drop];omega)
  rw [List.drop_drop,← Nat.add_assoc,d4,ha,Int.mul_zero,Int.add_zero] at e;rw [e];have := zUA ((d2.dropped j).take (bs.length + 1))
  rwa [show ((zs1.drop j).take (bs.length + 1)).length = bs.length + 1 by rw [List.length_take,List.length_drop];omega] at this
theorem zmB.over {zs0 bs qs zs zs1 : List Int} {j : Nat} {D : Int} (hL : zeB zs0 bs qs zs (j + 1)) (hb : WF bs) (hj : j < qs.length) (h : zmB zs bs zs1 j D 1) : val (zs.drop j) < D * val bs ∧ 1 ≤ D := by
 obtain ⟨e1,e2,e3⟩ := h.one hL hb hj;have e4 : val (zs.drop j) < D * val bs := by omega
 refine ⟨e4,?_⟩;have e5 := zEA (hL.2.1.dropped j);have e6 := h.2.2.2.2.2.1
 by_cases q : D = 0
 ·subst q;omega
 ·omega
theorem zmB.step {zs0 bs qs zs zs1 zs2 : List Int} {j : Nat} {D c : Int} (hL : zeB zs0 bs qs zs (j + 1)) (hb : WF bs) (hj : j < qs.length) (h : zmB zs bs zs1 j D 1) (hl : zs2.length = zs1.length) (hw : WF zs2)
  (hv : val zs2 + pw (j + bs.length + 1) * c = val zs1 + pw j * val bs) (hd : zs2.drop (j + bs.length + 1) = zs1.drop (j + bs.length + 1)) : zmB zs bs zs2 j (D - 1) (1 - c) := by
 obtain ⟨e4,e5⟩ := h.over hL hb hj;obtain ⟨d1,d2,d3,d4,d5,d6⟩ := h;refine ⟨hl.trans d1,hw,?_,hd.trans d4,by rw [Int.sub_add_cancel];exact e4,by unfold IsW wB at *;omega⟩;rw [Int.mul_sub,Int.mul_one,Int.mul_sub,Int.mul_one,Int.mul_sub];omega
theorem zeB.next {zs0 bs qs zs zs1 : List Int} {j : Nat} {D : Int} (hL : zeB zs0 bs qs zs (j + 1)) (hb : WF bs) (hj : j < qs.length) (h : zmB zs bs zs1 j D 0) : zeB zs0 bs (qs.set j D) zs1 j := by
 obtain ⟨e1,e2,e3⟩ := h.one hL hb hj;obtain ⟨h1,h2,h3,h4,h5,h6,h7⟩ := hL;obtain ⟨d1,d2,d3,d4,d5,d6⟩ := h;refine ⟨d1.trans h1,d2,by rw [List.length_set];exact h3,h4.set j d6,fun i hi hij => ?_,?_,?_⟩
 ·rw [List.getElem_set_ne (by omega)];exact h5 i (by simpa using hi) (by omega)
 ·rw [zhB qs j D hj,h5 j hj (by omega),Int.sub_zero,Int.add_mul,h6]
  rw [Int.mul_zero,Int.sub_zero] at d3;rw [d3];have : D * pw j * val bs = pw j * (val bs * D) := by rw [Int.mul_comm D,Int.mul_assoc,Int.mul_comm D]
  omega
 ·rw [Int.add_mul,Int.one_mul] at d5
  omega
theorem zeB.start {zs0 bs : List Int} {m : Nat} (h : WF zs0) (hl : m + bs.length = zs0.length) (hv : val (zs0.drop m) < val bs) : zeB zs0 bs (List.replicate m 0) zs0 m := by
 have hz : WF (List.replicate m 0) := fun x hx => by rw [List.eq_of_mem_replicate hx];unfold IsW wB;omega
 refine ⟨rfl,h,by simpa using hl,hz,fun i hi _ => by simp,?_,hv⟩;have : val (List.replicate m 0) = 0 := by rw [zJA hz,zmG (fun x hx => List.eq_of_mem_replicate hx)];rfl
 rw [this];omega
end Go.Proofs.YtkdobgbicnemcaaGreatDoor
