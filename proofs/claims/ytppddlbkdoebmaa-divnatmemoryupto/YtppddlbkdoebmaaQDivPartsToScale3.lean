/-
 QDivPartsToScale3: DivParts, Scale3, joined.
-/
import Derived.Test.YtppddlbkdoebmaaQDivWordToMulw
import Derived.Test.YtppddlbkdoebmaaQWords3ToDivPure

set_option maxRecDepth 100000
set_option maxHeartbeats 6400000
set_option linter.unusedVariables false
set_option linter.unusedSimpArgs false
namespace Go.Proofs.Ytppddlbkdoebmaa
open Go.RowKit
def Only (g : Nat) (w w' : World) : Prop := w'.heap.size = w.heap.size ∧ ∀ h,h ≠ g → w'.heap[h]? = w.heap[h]?
theorem Only.refl (g : Nat) (w : World) : Only g w w := ⟨rfl,fun _ _ => rfl⟩
theorem Only.trans {g : Nat} {w w1 w2 : World} (h : Only g w w1) (k : Only g w1 w2) : Only g w w2 := ⟨k.1.trans h.1,fun j hj => (k.2 j hj).trans (h.2 j hj)⟩
theorem Only.set {g : Nat} {w w1 : World} (h : Only g w w1) (i : Nat) (v : Value) : Only g w (w1.setCell ⟨g,i,none⟩ v) := by
 refine ⟨by rw [← h.1];simp [World.setCell],fun j hj => ?_⟩;rw [← h.2 j hj];simp [World.setCell,Array.getElem?_modify,Ne.symm hj]
theorem Only.drew {g : Nat} {w w1 : World} (h : Only g w w1) (n : Nat) : Only g w (w1.drewN n) := ⟨h.1,h.2⟩
theorem Only.row {g j : Nat} {w w1 : World} {L : List Value} (h : Only g w w1) (hj : j ≠ g) (r : Row w j L) : Row w1 j L := (h.2 j hj).trans r
theorem take_step {zs xs : List Int} {o k : Nat} {z0 W cc bb hi lo l1 ov s d x z : Int} (hz : o + k < zs.length) (hzz : zs[o + k] = z) (hx : k < xs.length) (hxx : xs[k] = x) (hv : val zs - pw (o + k) * (cc + bb) = z0 - pw o * (val (xs.take k) * W))
  (hm : lo + wB * hi = x * W) (h1 : l1 + wB * ov = lo + cc + 0) (h2 : s - wB * d = z - l1 - bb) :
  val (zs.set (o + k) s) - pw (o + (k + 1)) * (hi + ov + d) = z0 - pw o * (val (xs.take (k + 1)) * W) := by
 rw [zIB zs (o + k) s hz,hzz,zOA xs k hx,hxx,show o + (k + 1) = (o + k) + 1 by omega,pw];rw [zDD] at hv ⊢;generalize pw o = P at *;generalize pw k = K at *;generalize val zs = Z at *;generalize val (xs.take k) = X at *;have e : s = z - l1 - bb + wB * d := by omega
 subst e;have e2 : l1 = lo + cc - wB * ov := by omega
 subst e2;have e3 : lo = x * W - wB * hi := by omega
 subst e3
 grind
theorem take_last {zs : List Int} {o n : Nat} {z0 X cc bb s d z : Int} (hz : o + n < zs.length) (hzz : zs[o + n] = z) (hv : val zs - pw (o + n) * (cc + bb) = z0 - X) (h2 : s - wB * d = z - cc - bb) :
  val (zs.set (o + n) s) - pw (o + n + 1) * d = z0 - X := by
 rw [zIB zs (o + n) s hz,hzz,pw];generalize pw (o + n) = P at *;generalize val zs = Z at *;have e : s = z - cc - bb + wB * d := by omega
 subst e
 grind
theorem times_fits {v w cc hi lo l1 ov : Int} (hv : IsW v) (hw : IsW w) (hc : IsW cc) (h0 : 0 ≤ hi) (hlo : IsW lo) (hm : lo + wB * hi = v * w) (hl1 : IsW l1) (ho : 0 ≤ ov) (e1 : l1 + wB * ov = lo + cc + 0) : IsW (hi + ov) := by
 have := zXC hv hw;generalize v * w = p at *;unfold IsW wB at *;refine ⟨by omega,by omega⟩
theorem takeTimes_any {g : Nat} {w : World} {u : Value} {zs0 xs : List Int} {r : List Value} {o cap : Nat} {W : Int} (hz0 : WF zs0) (hrow : Row w g (ws zs0 ++ r)) (hlz : zs0.length ≤ 35184372088832) (hx : Sl g w u xs) (hW : IsW W) (hl : o + xs.length + 1 ≤ zs0.length) :
  Calls Try.prog 71 #[.slice (some ⟨g,o,none⟩) (xs.length + 1) cap,u,.int .u64 W] w fun e w' =>
   ∃ zs c,e = .returned (.int .u64 c) ∧ zs.length = zs0.length ∧ WF zs ∧ 0 ≤ c ∧ c ≤ 1 ∧ val zs - pw (o + xs.length + 1) * c = val zs0 - pw o * (val xs * W) ∧ zs.drop (o + xs.length + 1) = zs0.drop (o + xs.length + 1) ∧ Row w' g (ws zs ++ r) ∧ Below g w w' ∧ Only g w w' := by
 obtain ⟨hwx,a,capx,rfl,hlc,hcm,hm⟩ := hx;have HV0 : Hid (val zs0 - pw (o + 0) * (0 + 0) = val zs0 - pw o * (val (xs.take 0) * W)) := by unfold Hid;simp [val]
 have HTL : Hid (xs.take xs.length = xs) := by unfold Hid;simp
 obtain ⟨m,hmz⟩ : ∃ m,m = zs0.length := ⟨_,rfl⟩
 obtain ⟨n,hnx⟩ : ∃ n,n = xs.length := ⟨_,rfl⟩
 rw [← hmz] at hl hlz;rw [← hnx] at hl hlc HTL;rw [← hmz,← hnx];have HM : Hid (m = zs0.length) := hmz;have HN : Hid (n = xs.length) := hnx;clear hmz hnx;have hW' := hW;unfold IsW wB at hW';go_enter Try.func71,Try.ntmps71;go_wp2_with fail
 go_loopw [7,8,16] (fun c d i wr => ∃ (k : Nat) (zs : List Int) (cc bb : Int),k ≤ n ∧ i = .int .i64 k ∧ c = .int .u64 cc ∧ d = .int .u64 bb ∧ IsW cc ∧ 0 ≤ bb ∧ bb ≤ 1 ∧ Hid (zs.length = m) ∧ WF zs ∧ Hid (val zs - pw (o + k) * (cc + bb) = val zs0 - pw o * (val (xs.take k) * W)) ∧ Hid (zs.drop (o + n + 1) = zs0.drop (o + n + 1)) ∧ Row wr g (ws zs ++ r) ∧ Below g w wr ∧ Hid (Only g w wr)) (fun _ _ i _ => n - (intOf i).toNat)
 case atStart => exact ⟨0,zs0,0,0,Nat.zero_le _,rfl,rfl,rfl,by unfold IsW wB;omega,by omega,by omega,HM.out.symm,hz0,HV0,rfl,hrow,Below.refl _ _,Only.refl _ _⟩
 case round =>
  obtain ⟨k,zs,cc,bb,hk,rfl,rfl,rfl,hc,hb0,hb1,HL,hwz,HV,HD,hr,hb,HO⟩ := hrel
  by_cases hlt : k < n
  ·have hk1 : o + k < zs.length := by have := HL.out;omega
   have hk2 : k < xs.length := by have := HN.out;omega
   rcases hm with e | ⟨b,off,rfl,hbg,hcy⟩
   ·subst e;simp at hk2
   have c1 : wr.cell? ⟨g,o + k,none⟩ = some (.int .u64 zs[o + k]) := hr.word hk1;have c2 : wr.cell? ⟨b,off + k,none⟩ = some (.int .u64 xs[k]) := (hb.cell (p := ⟨b,off + k,none⟩) hbg).trans (hcy k hk2);have cf : wr.frozen? ⟨g,o + k,none⟩ = false := hr.frozen (o + k);obtain ⟨hi,lo,hhi,hlo,hmm,hmul⟩ := zxE (hwx.get hk2) hW;obtain ⟨l1,ov,hl1,ho10,ho11,hs1,hadd1⟩ := zXB hlo hc (Int.le_refl 0) (by omega);obtain ⟨s,d,hs,hd0,hd1,hs2,hsub2⟩ := zjC (hwz.get hk1) hl1 hb0 hb1;have hc' : IsW (hi + ov) := times_fits (hwx.get hk2) hW hc hhi.1 hlo hmm hl1 ho10 hs1;have HV' : Hid (val (zs.set (o + k) s) - pw (o + (k + 1)) * (hi + ov + d) = val zs0 - pw o * (val (xs.take (k + 1)) * W)) := take_step hk1 rfl hk2 rfl HV.out hmm hs1 hs2;have HD' : Hid ((zs.set (o + k) s).drop (o + n + 1) = zs0.drop (o + n + 1)) := by unfold Hid;rw [List.drop_set,if_pos (by omega)];exact HD.out
   have hwz' : WF (zs.set (o + k) s) := hwz.set (o + k) hs;have HR := hr.setWord hk1 s;have HB := hb.setCell (p := ⟨g,o + k,none⟩) (Nat.le_refl _) (.int .u64 s);have HO' := hid (HO.out.set (o + k) (.int .u64 s));have hi0 := hhi.1;have hcb := hc';unfold IsW wB at hcb;obtain ⟨hcb0,hcb1⟩ := hcb;clear hs1 hs2 hmm hl1 hs hlo hhi;generalize zs[o + k] = x at *;generalize xs[k] = y at *;have HL' : Hid ((zs.set (o + k) s).length = m) := by unfold Hid;rw [List.length_set];exact HL.out
   generalize zs.set (o + k) s = zs' at *;clear hcy hr hb hwz HV hrow HL HD hc HO;go_wp2_with fail;refine (hmul _).mono ?_;rintro e w1 ⟨rfl,rfl⟩;go_wp2;go_roundw
   case rel => exact ⟨k + 1,zs',hi + ov,d,by omega,by go_num,rfl,rfl,hc',hd0,hd1,HL',hwz',HV',HD',HR,HB,HO'⟩
   case measure => simp [intOf];omega
  ·obtain rfl : k = n := by omega
   rw [HTL.out] at HV;have hk1 : o + k < zs.length := by have := HL.out;omega
   have c1 : wr.cell? ⟨g,o + k,none⟩ = some (.int .u64 zs[o + k]) := hr.word hk1;have cf : wr.frozen? ⟨g,o + k,none⟩ = false := hr.frozen (o + k);obtain ⟨s,d,hs,hd0,hd1,hs2,hsub2⟩ := zjC (hwz.get hk1) hc hb0 hb1;have HV' : Hid (val (zs.set (o + k) s) - pw (o + k + 1) * d = val zs0 - pw o * (val xs * W)) := take_last hk1 rfl HV.out hs2;have HD' : Hid ((zs.set (o + k) s).drop (o + k + 1) = zs0.drop (o + k + 1)) := by unfold Hid;rw [List.drop_set,if_pos (by omega)];exact HD.out
   have hwz' : WF (zs.set (o + k) s) := hwz.set (o + k) hs;have HR := hr.setWord hk1 s;have HB := hb.setCell (p := ⟨g,o + k,none⟩) (Nat.le_refl _) (.int .u64 s);have HO' := hid (HO.out.set (o + k) (.int .u64 s));clear hs2 hs;generalize zs[o + k] = x at *;have HL' : Hid ((zs.set (o + k) s).length = m) := by unfold Hid;rw [List.length_set];exact HL.out
   generalize zs.set (o + k) s = zs' at *;clear hr hb hwz HV hrow HL HD HO hm;go_wp2;go_ret;exact ⟨zs',d,rfl,HL'.out,hwz',hd0,hd1,HV'.out,HD'.out,HR,HB,HO'.out⟩
theorem add_step {zs xs : List Int} {o k : Nat} {z0 cc s d x z : Int} (hz : o + k < zs.length) (hzz : zs[o + k] = z) (hx : k < xs.length) (hxx : xs[k] = x) (hv : val zs + pw (o + k) * cc = z0 + pw o * val (xs.take k)) (h2 : s + wB * d = z + x + cc) :
  val (zs.set (o + k) s) + pw (o + (k + 1)) * d = z0 + pw o * val (xs.take (k + 1)) := by
 rw [zIB zs (o + k) s hz,hzz,zOA xs k hx,hxx,show o + (k + 1) = (o + k) + 1 by omega,pw];rw [zDD] at hv ⊢;generalize pw o = P at *;generalize pw k = K at *;generalize val zs = Z at *;generalize val (xs.take k) = X at *;have e : s = z + x + cc - wB * d := by omega
 subst e
 grind
theorem add_last {zs : List Int} {o n : Nat} {z0 X cc s d z : Int} (hz : o + n < zs.length) (hzz : zs[o + n] = z) (hv : val zs + pw (o + n) * cc = z0 + X) (h2 : s + wB * d = z + 0 + cc) :
  val (zs.set (o + n) s) + pw (o + n + 1) * d = z0 + X := by
 rw [zIB zs (o + n) s hz,hzz,pw];generalize pw (o + n) = P at *;generalize val zs = Z at *;have e : s = z + cc - wB * d := by omega
 subst e
 grind
theorem divAddTo_any {g : Nat} {w : World} {u : Value} {zs0 xs : List Int} {r : List Value} {o cap : Nat} (hz0 : WF zs0) (hrow : Row w g (ws zs0 ++ r)) (hlz : zs0.length ≤ 35184372088832) (hx : Sl g w u xs) (hl : o + xs.length + 1 ≤ zs0.length) :
  Calls Try.prog 72 #[.slice (some ⟨g,o,none⟩) (xs.length + 1) cap,u] w fun e w' =>
   ∃ zs c,e = .returned (.int .u64 c) ∧ zs.length = zs0.length ∧ WF zs ∧ 0 ≤ c ∧ c ≤ 1 ∧ val zs + pw (o + xs.length + 1) * c = val zs0 + pw o * val xs ∧ zs.drop (o + xs.length + 1) = zs0.drop (o + xs.length + 1) ∧ Row w' g (ws zs ++ r) ∧ Below g w w' ∧ Only g w w' := by
 obtain ⟨hwx,a,capx,rfl,hlc,hcm,hm⟩ := hx;have HV0 : Hid (val zs0 + pw (o + 0) * 0 = val zs0 + pw o * val (xs.take 0)) := by unfold Hid;simp [val]
 have HTL : Hid (xs.take xs.length = xs) := by unfold Hid;simp
 obtain ⟨m,hmz⟩ : ∃ m,m = zs0.length := ⟨_,rfl⟩
 obtain ⟨n,hnx⟩ : ∃ n,n = xs.length := ⟨_,rfl⟩
 rw [← hmz] at hl hlz;rw [← hnx] at hl hlc HTL;rw [← hmz,← hnx];have HM : Hid (m = zs0.length) := hmz;have HN : Hid (n = xs.length) := hnx;clear hmz hnx;go_enter Try.func72,Try.ntmps72;go_wp2_with fail
 go_loopw [5,10] (fun c i wr => ∃ (k : Nat) (zs : List Int) (cc : Int),k ≤ n ∧ i = .int .i64 k ∧ c = .int .u64 cc ∧ 0 ≤ cc ∧ cc ≤ 1 ∧ Hid (zs.length = m) ∧ WF zs ∧ Hid (val zs + pw (o + k) * cc = val zs0 + pw o * val (xs.take k)) ∧ Hid (zs.drop (o + n + 1) = zs0.drop (o + n + 1)) ∧ Row wr g (ws zs ++ r) ∧ Below g w wr ∧ Hid (Only g w wr)) (fun _ i _ => n - (intOf i).toNat)
 case atStart => exact ⟨0,zs0,0,Nat.zero_le _,rfl,rfl,by omega,by omega,HM.out.symm,hz0,HV0,rfl,hrow,Below.refl _ _,Only.refl _ _⟩
 case round =>
  obtain ⟨k,zs,cc,hk,rfl,rfl,hc0,hc1,HL,hwz,HV,HD,hr,hb,HO⟩ := hrel
  by_cases hlt : k < n
  ·have hk1 : o + k < zs.length := by have := HL.out;omega
   have hk2 : k < xs.length := by have := HN.out;omega
   rcases hm with e | ⟨b,off,rfl,hbg,hcy⟩
   ·subst e;simp at hk2
   have c1 : wr.cell? ⟨g,o + k,none⟩ = some (.int .u64 zs[o + k]) := hr.word hk1;have c2 : wr.cell? ⟨b,off + k,none⟩ = some (.int .u64 xs[k]) := (hb.cell (p := ⟨b,off + k,none⟩) hbg).trans (hcy k hk2);have cf : wr.frozen? ⟨g,o + k,none⟩ = false := hr.frozen (o + k);obtain ⟨s,d,hs,hd0,hd1,hs2,hadd⟩ := zXB (hwz.get hk1) (hwx.get hk2) hc0 hc1;have HV' : Hid (val (zs.set (o + k) s) + pw (o + (k + 1)) * d = val zs0 + pw o * val (xs.take (k + 1))) := add_step hk1 rfl hk2 rfl HV.out hs2;have HD' : Hid ((zs.set (o + k) s).drop (o + n + 1) = zs0.drop (o + n + 1)) := by unfold Hid;rw [List.drop_set,if_pos (by omega)];exact HD.out
   have hwz' : WF (zs.set (o + k) s) := hwz.set (o + k) hs;have HR := hr.setWord hk1 s;have HB := hb.setCell (p := ⟨g,o + k,none⟩) (Nat.le_refl _) (.int .u64 s);have HO' := hid (HO.out.set (o + k) (.int .u64 s));clear hs2 hs;generalize zs[o + k] = x at *;generalize xs[k] = y at *;have HL' : Hid ((zs.set (o + k) s).length = m) := by unfold Hid;rw [List.length_set];exact HL.out
   generalize zs.set (o + k) s = zs' at *;clear hcy hr hb hwz HV hrow HL HD HO;go_wp2;go_roundw
   case rel => exact ⟨k + 1,zs',d,by omega,by go_num,rfl,hd0,hd1,HL',hwz',HV',HD',HR,HB,HO'⟩
   case measure => simp [intOf];omega
  ·obtain rfl : k = n := by omega
   rw [HTL.out] at HV;have hk1 : o + k < zs.length := by have := HL.out;omega
   have c1 : wr.cell? ⟨g,o + k,none⟩ = some (.int .u64 zs[o + k]) := hr.word hk1;have cf : wr.frozen? ⟨g,o + k,none⟩ = false := hr.frozen (o + k);obtain ⟨s,d,hs,hd0,hd1,hs2,hadd⟩ := zXB (hwz.get hk1) (show IsW 0 by unfold IsW wB;omega) hc0 hc1;have HV' : Hid (val (zs.set (o + k) s) + pw (o + k + 1) * d = val zs0 + pw o * val xs) := add_last hk1 rfl HV.out hs2;have HD' : Hid ((zs.set (o + k) s).drop (o + k + 1) = zs0.drop (o + k + 1)) := by unfold Hid;rw [List.drop_set,if_pos (by omega)];exact HD.out
   have hwz' : WF (zs.set (o + k) s) := hwz.set (o + k) hs;have HR := hr.setWord hk1 s;have HB := hb.setCell (p := ⟨g,o + k,none⟩) (Nat.le_refl _) (.int .u64 s);have HO' := hid (HO.out.set (o + k) (.int .u64 s));clear hs2 hs;generalize zs[o + k] = x at *;have HL' : Hid ((zs.set (o + k) s).length = m) := by unfold Hid;rw [List.length_set];exact HL.out
   generalize zs.set (o + k) s = zs' at *;clear hr hb hwz HV hrow HL HD HO hm;go_wp2;go_ret;exact ⟨zs',d,rfl,HL'.out,hwz',hd0,hd1,HV'.out,HD'.out,HR,HB,HO'.out⟩
def zxB (D T : List Int) (f : Int) (k : Nat) (c : Int) : Prop :=
 T.length = D.length + 1 ∧ HF T ∧ (∀ j (h : j < T.length),k ≤ j → T[j] = 0) ∧ hval T + hpw k * c = f * hval (D.take k)
theorem zxB.start (D : List Int) (f : Int) : zxB D (List.replicate (D.length + 1) 0) f 0 0 :=
 ⟨by simp,zsB _,fun j h _ => by simp,by rw [zsA];simp [hval]⟩
theorem zxB.step {D T : List Int} {f c x lo hi : Int} {k : Nat} (h : zxB D T f k c) (hk : k < D.length) (hx : D[k] = x) (hl : IsH lo) (he : lo + hwB * hi = x * f + c) : zxB D (T.set k lo) f (k + 1) hi := by
 obtain ⟨h1,h2,h3,h4⟩ := h;refine ⟨by rw [List.length_set];exact h1,h2.set k hl,fun j hj hkj => ?_,?_⟩
 ·rw [List.getElem_set_ne (by omega)];exact h3 j (by simpa using hj) (by omega)
 ·rw [zQB T k lo (by omega),h3 k (by omega) (Nat.le_refl _),zQA D k hk,hx,hpw]
  generalize hpw k = P at *;generalize hval T = Z at *;generalize hval (D.take k) = X at *;have e : lo = x * f + c - hwB * hi := by omega
  subst e
  grind
theorem zxB.done {D T : List Int} {f c : Int} (h : zxB D T f D.length c) (hc : IsH c) : HF (T.set D.length c) ∧ hval (T.set D.length c) = f * hval D := by
 obtain ⟨h1,h2,h3,h4⟩ := h;refine ⟨h2.set _ hc,?_⟩;rw [zQB T D.length c (by omega),h3 D.length (by omega) (Nat.le_refl _)];rw [List.take_length] at h4;rw [Int.sub_zero,Int.mul_comm];exact h4
theorem zJE {x f c : Int} (hx0 : 0 ≤ x) (hx1 : x < 4294967296) (hf0 : 0 ≤ f) (hf1 : f < 4294967296) (hc0 : 0 ≤ c) (hc1 : c < 4294967296) : 0 ≤ x * f ∧ x * f ≤ 18446744065119617025 := by
 refine ⟨Int.mul_nonneg hx0 hf0,?_⟩;have h1 := Int.mul_le_mul_of_nonneg_right (show x ≤ 4294967295 by omega) hf0;have h2 := Int.mul_le_mul_of_nonneg_left (show f ≤ 4294967295 by omega) (show (0 : Int) ≤ 4294967295 by omega);omega
theorem zaC {w : World} {v : Value} {D : List Int} {f : Int} (h : Sl w.heap.size w v D) (hD : HF D) (hf0 : 0 ≤ f) (hf1 : f < 4294967296) (hlen : D.length ≤ 17592186044416) :
  Calls Try.prog 67 #[v,.int .u64 f] w fun e w' => ∃ T,e = .returned (.slice (some ⟨w.heap.size,0,none⟩) (D.length + 1) (D.length + 1)) ∧ T.length = D.length + 1 ∧ HF T ∧ hval T = f * hval D ∧ Row w' w.heap.size (ws T) ∧ Below w.heap.size w w' := by
 obtain ⟨hw,a,cap,rfl,hlc,hcm,hm⟩ := h;have HST := hid (zxB.start D f);have HM := hid hm;have HD := hid hD;obtain ⟨n,hn⟩ : ∃ n,D.length = n := ⟨_,rfl⟩
 rw [hn] at hlc hlen HST;rw [hn];have HN := hid hn;clear hm hD hn;go_enter Try.func67,Try.ntmps67;go_wp2_with (at_make;refine wpList_make_words _ rfl _ _ rfl _ _ (n + 1) (n + 1) rfl rfl (by first | rfl | omega) (by first | rfl | omega) (Nat.le_refl _) (by omega) ?_)
 intro w2 hrow hb2 hsz2;have hrow' := hid hrow;have hb2' := hid hb2;clear hrow hb2 hsz2;go_wp2_with fail
 go_loopw [6,7] (fun c i wr => ∃ (k : Nat) (T : List Int) (cc : Int),k ≤ n ∧ i = .int .i64 k ∧ c = .int .u64 cc ∧ 0 ≤ cc ∧ cc < 4294967296 ∧ Hid (zxB D T f k cc) ∧ Row wr w.heap.size (ws T) ∧ Below w.heap.size w wr) (fun _ i _ => n - (intOf i).toNat)
 case atStart => exact ⟨0,_,0,Nat.zero_le _,rfl,rfl,by omega,by omega,HST,hrow'.out,hb2'.out⟩
 case round =>
  clear hrow' hb2' HST;obtain ⟨k,T,cc,hk,rfl,rfl,hc0,hc1,HA,hr,hb⟩ := hrel;have hTl : T.length = n + 1 := by rw [HA.out.1,HN.out]
  by_cases hlt : k < n
  ·have hk2 : k < D.length := by have := HN.out;omega
   rcases HM.out with e | ⟨b,off,rfl,hbg,hcy⟩
   ·subst e;simp at hk2
   have hxw := HD.out.get hk2;unfold IsH hwB at hxw;obtain ⟨hx0,hx1⟩ := hxw;obtain ⟨p0,p1⟩ := zJE hx0 hx1 hf0 hf1 hc0 hc1;obtain ⟨p,hp⟩ : ∃ p,p = D[k] * f := ⟨_,rfl⟩
   rw [← hp] at p0 p1;have ep : D[k] * f = p := hp.symm;have c2 : wr.cell? ⟨b,off + k,none⟩ = some (.int .u64 D[k]) := (hb.cell (p := ⟨b,off + k,none⟩) hbg).trans (hcy k hk2);have cf : wr.frozen? ⟨w.heap.size,k,none⟩ = false := hr.frozen _;have c1 : wr.cell? ⟨w.heap.size,k,none⟩ = some (.int .u64 (T[k]'(by omega))) := Row.word (r := []) (by simpa using hr) (by omega);have HA' := hid (HA.out.step (lo := (p + cc) % 4294967296) (hi := (p + cc) / 4294967296) hk2 rfl (by unfold IsH hwB;omega) (by rw [ep];unfold hwB;omega));have HR2 : Hid (Row (wr.setCell ⟨w.heap.size,k,none⟩ (.int .u64 ((p + cc) % 4294967296))) w.heap.size (ws (T.set k ((p + cc) % 4294967296)))) := by
    have := Row.setWord (r := []) (by simpa using hr) (show k < T.length by omega) ((p + cc) % 4294967296);unfold Hid;simpa using this
   have HB2 := hid (hb.setCell (p := ⟨w.heap.size,k,none⟩) (Nat.le_refl _) (.int .u64 ((p + cc) % 4294967296)));have i0 : (0 : Int) ≤ (k : Int) := by omega
   clear hcy hr hb HA hp;generalize T[k]'(by omega) = z at *;generalize D[k] = x at *;go_wp2;go_roundw
   case rel => exact ⟨k + 1,_,_,by omega,by go_num,rfl,by omega,by omega,HA',HR2.out,HB2.out⟩
   case measure => simp [intOf];omega
  ·obtain rfl : k = n := by omega
   have HE := HA.out;rw [← HN.out] at HE;have hd := HE.done (by unfold IsH hwB;omega);rw [HN.out] at hd;have cf : wr.frozen? ⟨w.heap.size,k,none⟩ = false := hr.frozen _;have c1 : wr.cell? ⟨w.heap.size,k,none⟩ = some (.int .u64 (T[k]'(by omega))) := Row.word (r := []) (by simpa using hr) (by omega);have HR2 : Hid (Row (wr.setCell ⟨w.heap.size,k,none⟩ (.int .u64 cc)) w.heap.size (ws (T.set k cc))) := by
    have := Row.setWord (r := []) (by simpa using hr) (show k < T.length by omega) cc;unfold Hid;simpa using this
   have HB2 := hid (hb.setCell (p := ⟨w.heap.size,k,none⟩) (Nat.le_refl _) (.int .u64 cc));have HDN := hid hd;clear HE hd hr hb HM;generalize T[k]'(by omega) = z at *;go_wp2;go_ret;exact ⟨T.set k cc,rfl,by rw [List.length_set];exact hTl,HDN.out.1,HDN.out.2,HR2.out,HB2.out⟩
theorem ziF {R : List Int} {i : Nat} {z z' c' t V P c : Int} (hi : i < R.length) (hz : R[i] = z) (he : z' - hwB * c' = z - t) (hv : hval R - hpw i * c = V - P) : hval (R.set i z') - hpw (i + 1) * c' = V - (P + hpw i * (t - c)) := by
 rw [zQB R i z' hi,hz,hpw];generalize hpw i = Q at *;generalize hval R = X at *;have e : z' = z - t + hwB * c' := by omega
 subst e
 grind
def zpC (R0 bs R : List Int) (q : Int) (s k : Nat) (c : Int) : Prop := R.length = R0.length ∧ HF R ∧ hval R - hpw (s + k) * c = hval R0 - hpw s * (q * hval (bs.take k))
theorem zpC.start {R0 bs : List Int} (h : HF R0) (q : Int) (s : Nat) : zpC R0 bs R0 q s 0 0 := ⟨rfl,h,by simp [hval]⟩
theorem zpC.in {R0 bs R : List Int} {q c z z' c' x : Int} {s k : Nat} (h : zpC R0 bs R q s k c) (hk : k < bs.length) (hx : bs[k] = x) (hi : s + k < R.length) (hz : R[s + k] = z) (hz' : IsH z') (he : z' - hwB * c' = z - (c + q * x)) : zpC R0 bs (R.set (s + k) z') q s (k + 1) c' := by
 obtain ⟨h1,h2,h3⟩ := h;refine ⟨by rw [List.length_set];exact h1,h2.set _ hz',?_⟩;have := ziF hi hz he h3;rw [show s + (k + 1) = s + k + 1 by omega,this,zQA bs k hk,hx,zrB];generalize hpw s = P at *;generalize hpw k = K at *;generalize hval (bs.take k) = X at *
 grind
theorem zpC.out {R0 bs R : List Int} {q c z z' c' : Int} {s k : Nat} (h : zpC R0 bs R q s k c) (hk : bs.length ≤ k) (hi : s + k < R.length) (hz : R[s + k] = z) (hz' : IsH z') (he : z' - hwB * c' = z - c) : zpC R0 bs (R.set (s + k) z') q s (k + 1) c' := by
 obtain ⟨h1,h2,h3⟩ := h;refine ⟨by rw [List.length_set];exact h1,h2.set _ hz',?_⟩;have := ziF hi hz he h3;rw [show s + (k + 1) = s + k + 1 by omega,this,List.take_of_length_le hk,List.take_of_length_le (by omega),Int.sub_self,Int.mul_zero,Int.add_zero]
theorem zpC.done {R0 bs R : List Int} {q : Int} {s k : Nat} (h : zpC R0 bs R q s k 0) (hk : bs.length ≤ k) : hval R = hval R0 - hpw s * (q * hval bs) := by
 obtain ⟨h1,h2,h3⟩ := h;rw [List.take_of_length_le hk,Int.mul_zero,Int.sub_zero] at h3;exact h3
theorem zpC.last {R0 bs R : List Int} {q c : Int} {s k : Nat} (h : zpC R0 bs R q s k c) (hk : bs.length ≤ k) (hl : s + k = R.length) (hc : 0 ≤ c) (hge : hpw s * (q * hval bs) ≤ hval R0) : c = 0 := by
 obtain ⟨h1,h2,h3⟩ := h;rw [List.take_of_length_le hk,hl] at h3;have h4 := zVA h2
 by_cases q : c = 0
 ·exact q
 ·have := Int.mul_le_mul_of_nonneg_left (show 1 ≤ c by omega) (Int.le_of_lt (zcA R.length))
  rw [Int.mul_one] at this;omega
end Go.Proofs.Ytppddlbkdoebmaa
