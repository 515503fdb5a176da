import Derived.Test.YtlhjogiefbjklaaQDivWord
import Derived.Test.YtlhjogiefbjklaaQProdToMulw
set_option maxRecDepth 100000
set_option maxHeartbeats 6400000
set_option linter.unusedVariables false
set_option linter.unusedSimpArgs false
namespace Go.Proofs.Ytlhjogiefbjklaa
open Go.RowKit
def Only (g : Nat) (w w' : World) : Prop := w'.heap.size = w.heap.size ∧ ∀ h,h ≠ g → w'.heap[h]? = w.heap[h]?
theorem Only.refl (g : Nat) (w : World) : Only g w w := ⟨rfl,fun _ _ => rfl⟩
theorem Only.trans {g : Nat} {w w1 w2 : World} (h : Only g w w1) (k : Only g w1 w2) : Only g w w2 := ⟨k.1.trans h.1,fun j hj => (k.2 j hj).trans (h.2 j hj)⟩
theorem Only.set {g : Nat} {w w1 : World} (h : Only g w w1) (i : Nat) (v : Value) : Only g w (w1.setCell ⟨g,i,none⟩ v) := by
 refine ⟨by rw [← h.1];simp [World.setCell],fun j hj => ?_⟩;rw [← h.2 j hj];simp [World.setCell,Array.getElem?_modify,Ne.symm hj]
theorem Only.drew {g : Nat} {w w1 : World} (h : Only g w w1) (n : Nat) : Only g w (w1.drewN n) := ⟨h.1,h.2⟩
theorem Only.row {g j : Nat} {w w1 : World} {L : List Value} (h : Only g w w1) (hj : j ≠ g) (r : Row w j L) : Row w1 j L := (h.2 j hj).trans r
theorem take_step {zs xs : List Int} {o k : Nat} {z0 W cc bb hi lo l1 ov s d x z : Int} (hz : o + k < zs.length) (hzz : zs[o + k] = z) (hx : k < xs.length) (hxx : xs[k] = x) (hv : val zs - pw (o + k) * (cc + bb) = z0 - pw o * (val (xs.take k) * W))
  (hm : lo + wB * hi = x * W) (h1 : l1 + wB * ov = lo + cc + 0) (h2 : s - wB * d = z - l1 - bb) :
  val (zs.set (o + k) s) - pw (o + (k + 1)) * (hi + ov + d) = z0 - pw o * (val (xs.take (k + 1)) * W) := by
 rw [zwA zs (o + k) s hz,hzz,zOA xs k hx,hxx,show o + (k + 1) = (o + k) + 1 by omega,pw];rw [zsC] at hv ⊢;generalize pw o = P at *;generalize pw k = K at *;generalize val zs = Z at *;generalize val (xs.take k) = X at *;have e : s = z - l1 - bb + wB * d := by omega
 subst e;have e2 : l1 = lo + cc - wB * ov := by omega
 subst e2;have e3 : lo = x * W - wB * hi := by omega
 subst e3
 grind
theorem take_last {zs : List Int} {o n : Nat} {z0 X cc bb s d z : Int} (hz : o + n < zs.length) (hzz : zs[o + n] = z) (hv : val zs - pw (o + n) * (cc + bb) = z0 - X) (h2 : s - wB * d = z - cc - bb) :
  val (zs.set (o + n) s) - pw (o + n + 1) * d = z0 - X := by
 rw [zwA zs (o + n) s hz,hzz,pw];generalize pw (o + n) = P at *;generalize val zs = Z at *;have e : s = z - cc - bb + wB * d := by omega
 subst e
 grind
theorem times_fits {v w cc hi lo l1 ov : Int} (hv : IsW v) (hw : IsW w) (hc : IsW cc) (h0 : 0 ≤ hi) (hlo : IsW lo) (hm : lo + wB * hi = v * w) (hl1 : IsW l1) (ho : 0 ≤ ov) (e1 : l1 + wB * ov = lo + cc + 0) : IsW (hi + ov) := by
 have := zuB hv hw;generalize v * w = p at *;unfold IsW wB at *;refine ⟨by omega,by omega⟩
theorem takeTimes_any {g : Nat} {w : World} {u : Value} {zs0 xs : List Int} {r : List Value} {o cap : Nat} {W : Int} (hz0 : WF zs0) (hrow : Row w g (ws zs0 ++ r)) (hlz : zs0.length ≤ 35184372088832) (hx : Sl g w u xs) (hW : IsW W) (hl : o + xs.length + 1 ≤ zs0.length) :
  Calls Try.prog 71 #[.slice (some ⟨g,o,none⟩) (xs.length + 1) cap,u,.int .u64 W] w fun e w' =>
   ∃ zs c,e = .returned (.int .u64 c) ∧ zs.length = zs0.length ∧ WF zs ∧ 0 ≤ c ∧ c ≤ 1 ∧ val zs - pw (o + xs.length + 1) * c = val zs0 - pw o * (val xs * W) ∧ zs.drop (o + xs.length + 1) = zs0.drop (o + xs.length + 1) ∧ Row w' g (ws zs ++ r) ∧ Below g w w' ∧ Only g w w' := by
 obtain ⟨hwx,a,capx,rfl,hlc,hcm,hm⟩ := hx;have HV0 : Hid (val zs0 - pw (o + 0) * (0 + 0) = val zs0 - pw o * (val (xs.take 0) * W)) := by unfold Hid;simp [val]
 have HTL : Hid (xs.take xs.length = xs) := by unfold Hid;simp
 obtain ⟨m,hmz⟩ : ∃ m,m = zs0.length := ⟨_,rfl⟩
 obtain ⟨n,hnx⟩ : ∃ n,n = xs.length := ⟨_,rfl⟩
 rw [← hmz] at hl hlz;rw [← hnx] at hl hlc HTL;rw [← hmz,← hnx];have HM : Hid (m = zs0.length) := hmz;have HN : Hid (n = xs.length) := hnx;clear hmz hnx;have hW' := hW;unfold IsW wB at hW';go_enter Try.func71,Try.ntmps71;go_wp2_with fail
 go_loopw [7,8,16] (fun c d i wr => ∃ (k : Nat) (zs : List Int) (cc bb : Int),k ≤ n ∧ i = .int .i64 k ∧ c = .int .u64 cc ∧ d = .int .u64 bb ∧ IsW cc ∧ 0 ≤ bb ∧ bb ≤ 1 ∧ Hid (zs.length = m) ∧ WF zs ∧ Hid (val zs - pw (o + k) * (cc + bb) = val zs0 - pw o * (val (xs.take k) * W)) ∧ Hid (zs.drop (o + n + 1) = zs0.drop (o + n + 1)) ∧ Row wr g (ws zs ++ r) ∧ Below g w wr ∧ Hid (Only g w wr)) (fun _ _ i _ => n - (intOf i).toNat)
 case atStart => exact ⟨0,zs0,0,0,Nat.zero_le _,rfl,rfl,rfl,by unfold IsW wB;omega,by omega,by omega,HM.out.symm,hz0,HV0,rfl,hrow,Below.refl _ _,Only.refl _ _⟩
 case round =>
  obtain ⟨k,zs,cc,bb,hk,rfl,rfl,rfl,hc,hb0,hb1,HL,hwz,HV,HD,hr,hb,HO⟩ := hrel
  by_cases hlt : k < n
  ·have hk1 : o + k < zs.length := by have := HL.out;omega
   have hk2 : k < xs.length := by have := HN.out;omega
   rcases hm with e | ⟨b,off,rfl,hbg,hcy⟩
   ·subst e;simp at hk2
   have c1 : wr.cell? ⟨g,o + k,none⟩ = some (.int .u64 zs[o + k]) := hr.word hk1;have c2 : wr.cell? ⟨b,off + k,none⟩ = some (.int .u64 xs[k]) := (hb.cell (p := ⟨b,off + k,none⟩) hbg).trans (hcy k hk2);have cf : wr.frozen? ⟨g,o + k,none⟩ = false := hr.frozen (o + k);obtain ⟨hi,lo,hhi,hlo,hmm,hmul⟩ := zwD (hwx.get hk2) hW;obtain ⟨l1,ov,hl1,ho10,ho11,hs1,hadd1⟩ := zIB hlo hc (Int.le_refl 0) (by omega);obtain ⟨s,d,hs,hd0,hd1,hs2,hsub2⟩ := zEC (hwz.get hk1) hl1 hb0 hb1;have hc' : IsW (hi + ov) := times_fits (hwx.get hk2) hW hc hhi.1 hlo hmm hl1 ho10 hs1;have HV' : Hid (val (zs.set (o + k) s) - pw (o + (k + 1)) * (hi + ov + d) = val zs0 - pw o * (val (xs.take (k + 1)) * W)) := take_step hk1 rfl hk2 rfl HV.out hmm hs1 hs2;have HD' : Hid ((zs.set (o + k) s).drop (o + n + 1) = zs0.drop (o + n + 1)) := by unfold Hid;rw [List.drop_set,if_pos (by omega)];exact HD.out
   have hwz' : WF (zs.set (o + k) s) := hwz.set (o + k) hs;have HR := hr.setWord hk1 s;have HB := hb.setCell (p := ⟨g,o + k,none⟩) (Nat.le_refl _) (.int .u64 s);have HO' := hid (HO.out.set (o + k) (.int .u64 s));have hi0 := hhi.1;have hcb := hc';unfold IsW wB at hcb;obtain ⟨hcb0,hcb1⟩ := hcb;clear hs1 hs2 hmm hl1 hs hlo hhi;generalize zs[o + k] = x at *;generalize xs[k] = y at *;have HL' : Hid ((zs.set (o + k) s).length = m) := by unfold Hid;rw [List.length_set];exact HL.out
   generalize zs.set (o + k) s = zs' at *;clear hcy hr hb hwz HV hrow HL HD hc HO;go_wp2_with fail;refine (hmul _).mono ?_;rintro e w1 ⟨rfl,rfl⟩;go_wp2;go_roundw
   case rel => exact ⟨k + 1,zs',hi + ov,d,by omega,by go_num,rfl,rfl,hc',hd0,hd1,HL',hwz',HV',HD',HR,HB,HO'⟩
   case measure => simp [intOf];omega
  ·obtain rfl : k = n := by omega
   rw [HTL.out] at HV;have hk1 : o + k < zs.length := by have := HL.out;omega
   have c1 : wr.cell? ⟨g,o + k,none⟩ = some (.int .u64 zs[o + k]) := hr.word hk1;have cf : wr.frozen? ⟨g,o + k,none⟩ = false := hr.frozen (o + k);obtain ⟨s,d,hs,hd0,hd1,hs2,hsub2⟩ := zEC (hwz.get hk1) hc hb0 hb1;have HV' : Hid (val (zs.set (o + k) s) - pw (o + k + 1) * d = val zs0 - pw o * (val xs * W)) := take_last hk1 rfl HV.out hs2;have HD' : Hid ((zs.set (o + k) s).drop (o + k + 1) = zs0.drop (o + k + 1)) := by unfold Hid;rw [List.drop_set,if_pos (by omega)];exact HD.out
   have hwz' : WF (zs.set (o + k) s) := hwz.set (o + k) hs;have HR := hr.setWord hk1 s;have HB := hb.setCell (p := ⟨g,o + k,none⟩) (Nat.le_refl _) (.int .u64 s);have HO' := hid (HO.out.set (o + k) (.int .u64 s));clear hs2 hs;generalize zs[o + k] = x at *;have HL' : Hid ((zs.set (o + k) s).length = m) := by unfold Hid;rw [List.length_set];exact HL.out
   generalize zs.set (o + k) s = zs' at *;clear hr hb hwz HV hrow HL HD HO hm;go_wp2;go_ret;exact ⟨zs',d,rfl,HL'.out,hwz',hd0,hd1,HV'.out,HD'.out,HR,HB,HO'.out⟩
theorem add_step {zs xs : List Int} {o k : Nat} {z0 cc s d x z : Int} (hz : o + k < zs.length) (hzz : zs[o + k] = z) (hx : k < xs.length) (hxx : xs[k] = x) (hv : val zs + pw (o + k) * cc = z0 + pw o * val (xs.take k)) (h2 : s + wB * d = z + x + cc) :
  val (zs.set (o + k) s) + pw (o + (k + 1)) * d = z0 + pw o * val (xs.take (k + 1)) := by
 rw [zwA zs (o + k) s hz,hzz,zOA xs k hx,hxx,show o + (k + 1) = (o + k) + 1 by omega,pw];rw [zsC] at hv ⊢;generalize pw o = P at *;generalize pw k = K at *;generalize val zs = Z at *;generalize val (xs.take k) = X at *;have e : s = z + x + cc - wB * d := by omega
 subst e
 grind
theorem add_last {zs : List Int} {o n : Nat} {z0 X cc s d z : Int} (hz : o + n < zs.length) (hzz : zs[o + n] = z) (hv : val zs + pw (o + n) * cc = z0 + X) (h2 : s + wB * d = z + 0 + cc) :
  val (zs.set (o + n) s) + pw (o + n + 1) * d = z0 + X := by
 rw [zwA zs (o + n) s hz,hzz,pw];generalize pw (o + n) = P at *;generalize val zs = Z at *;have e : s = z + cc - wB * d := by omega
 subst e
 grind
theorem divAddTo_any {g : Nat} {w : World} {u : Value} {zs0 xs : List Int} {r : List Value} {o cap : Nat} (hz0 : WF zs0) (hrow : Row w g (ws zs0 ++ r)) (hlz : zs0.length ≤ 35184372088832) (hx : Sl g w u xs) (hl : o + xs.length + 1 ≤ zs0.length) :
  Calls Try.prog 72 #[.slice (some ⟨g,o,none⟩) (xs.length + 1) cap,u] w fun e w' =>
   ∃ zs c,e = .returned (.int .u64 c) ∧ zs.length = zs0.length ∧ WF zs ∧ 0 ≤ c ∧ c ≤ 1 ∧ val zs + pw (o + xs.length + 1) * c = val zs0 + pw o * val xs ∧ zs.drop (o + xs.length + 1) = zs0.drop (o + xs.length + 1) ∧ Row w' g (ws zs ++ r) ∧ Below g w w' ∧ Only g w w' := by
 obtain ⟨hwx,a,capx,rfl,hlc,hcm,hm⟩ := hx;have HV0 : Hid (val zs0 + pw (o + 0) * 0 = val zs0 + pw o * val (xs.take 0)) := by unfold Hid;simp [val]
 have HTL : Hid (xs.take xs.length = xs) := by unfold Hid;simp
 obtain ⟨m,hmz⟩ : ∃ m,m = zs0.length := ⟨_,rfl⟩
 obtain ⟨n,hnx⟩ : ∃ n,n = xs.length := ⟨_,rfl⟩
 rw [← hmz] at hl hlz;rw [← hnx] at hl hlc HTL;rw [← hmz,← hnx];have HM : Hid (m = zs0.length) := hmz;have HN : Hid (n = xs.length) := hnx;clear hmz hnx;go_enter Try.func72,Try.ntmps72;go_wp2_with fail
 go_loopw [5,10] (fun c i wr => ∃ (k : Nat) (zs : List Int) (cc : Int),k ≤ n ∧ i = .int .i64 k ∧ c = .int .u64 cc ∧ 0 ≤ cc ∧ cc ≤ 1 ∧ Hid (zs.length = m) ∧ WF zs ∧ Hid (val zs + pw (o + k) * cc = val zs0 + pw o * val (xs.take k)) ∧ Hid (zs.drop (o + n + 1) = zs0.drop (o + n + 1)) ∧ Row wr g (ws zs ++ r) ∧ Below g w wr ∧ Hid (Only g w wr)) (fun _ i _ => n - (intOf i).toNat)
 case atStart => exact ⟨0,zs0,0,Nat.zero_le _,rfl,rfl,by omega,by omega,HM.out.symm,hz0,HV0,rfl,hrow,Below.refl _ _,Only.refl _ _⟩
 case round =>
  obtain ⟨k,zs,cc,hk,rfl,rfl,hc0,hc1,HL,hwz,HV,HD,hr,hb,HO⟩ := hrel
  by_cases hlt : k < n
  ·have hk1 : o + k < zs.length := by have := HL.out;omega
   have hk2 : k < xs.length := by have := HN.out;omega
   rcases hm with e | ⟨b,off,rfl,hbg,hcy⟩
   ·subst e;simp at hk2
   have c1 : wr.cell? ⟨g,o + k,none⟩ = some (.int .u64 zs[o + k]) := hr.word hk1;have c2 : wr.cell? ⟨b,off + k,none⟩ = some (.int .u64 xs[k]) := (hb.cell (p := ⟨b,off + k,none⟩) hbg).trans (hcy k hk2);have cf : wr.frozen? ⟨g,o + k,none⟩ = false := hr.frozen (o + k);obtain ⟨s,d,hs,hd0,hd1,hs2,hadd⟩ := zIB (hwz.get hk1) (hwx.get hk2) hc0 hc1;have HV' : Hid (val (zs.set (o + k) s) + pw (o + (k + 1)) * d = val zs0 + pw o * val (xs.take (k + 1))) := add_step hk1 rfl hk2 rfl HV.out hs2;have HD' : Hid ((zs.set (o + k) s).drop (o + n + 1) = zs0.drop (o + n + 1)) := by unfold Hid;rw [List.drop_set,if_pos (by omega)];exact HD.out
   have hwz' : WF (zs.set (o + k) s) := hwz.set (o + k) hs;have HR := hr.setWord hk1 s;have HB := hb.setCell (p := ⟨g,o + k,none⟩) (Nat.le_refl _) (.int .u64 s);have HO' := hid (HO.out.set (o + k) (.int .u64 s));clear hs2 hs;generalize zs[o + k] = x at *;generalize xs[k] = y at *;have HL' : Hid ((zs.set (o + k) s).length = m) := by unfold Hid;rw [List.length_set];exact HL.out
   generalize zs.set (o + k) s = zs' at *;clear hcy hr hb hwz HV hrow HL HD HO;go_wp2;go_roundw
   case rel => exact ⟨k + 1,zs',d,by omega,by go_num,rfl,hd0,hd1,HL',hwz',HV',HD',HR,HB,HO'⟩
   case measure => simp [intOf];omega
  ·obtain rfl : k = n := by omega
   rw [HTL.out] at HV;have hk1 : o + k < zs.length := by have := HL.out;omega
   have c1 : wr.cell? ⟨g,o + k,none⟩ = some (.int .u64 zs[o + k]) := hr.word hk1;have cf : wr.frozen? ⟨g,o + k,none⟩ = false := hr.frozen (o + k);obtain ⟨s,d,hs,hd0,hd1,hs2,hadd⟩ := zIB (hwz.get hk1) (show IsW 0 by unfold IsW wB;omega) hc0 hc1;have HV' : Hid (val (zs.set (o + k) s) + pw (o + k + 1) * d = val zs0 + pw o * val xs) := add_last hk1 rfl HV.out hs2;have HD' : Hid ((zs.set (o + k) s).drop (o + k + 1) = zs0.drop (o + k + 1)) := by unfold Hid;rw [List.drop_set,if_pos (by omega)];exact HD.out
   have hwz' : WF (zs.set (o + k) s) := hwz.set (o + k) hs;have HR := hr.setWord hk1 s;have HB := hb.setCell (p := ⟨g,o + k,none⟩) (Nat.le_refl _) (.int .u64 s);have HO' := hid (HO.out.set (o + k) (.int .u64 s));clear hs2 hs;generalize zs[o + k] = x at *;have HL' : Hid ((zs.set (o + k) s).length = m) := by unfold Hid;rw [List.length_set];exact HL.out
   generalize zs.set (o + k) s = zs' at *;clear hr hb hwz HV hrow HL HD HO hm;go_wp2;go_ret;exact ⟨zs',d,rfl,HL'.out,hwz',hd0,hd1,HV'.out,HD'.out,HR,HB,HO'.out⟩
end Go.Proofs.Ytlhjogiefbjklaa
