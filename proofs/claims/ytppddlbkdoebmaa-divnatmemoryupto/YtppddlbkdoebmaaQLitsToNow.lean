/-
 QLitsToNow: Lits, TakeFrom, Cmp, Sub, Now, joined.
-/
import Derived.Test.YtppddlbkdoebmaaQAddToToAdd
import Derived.Test.YtppddlbkdoebmaaQHWordsToMade
import Derived.Test.YtppddlbkdoebmaaQWordsToInts

set_option maxRecDepth 100000
set_option maxHeartbeats 6400000
set_option linter.unusedVariables false
set_option linter.unusedSimpArgs false
namespace Go.Proofs.Ytppddlbkdoebmaa
open Go.RowKit
theorem Row.new (w : World) (xs : List Int) : Row (w.alloc (.cells (ws xs).toArray 26)) w.heap.size (ws xs) := heap_alloc_new w _
theorem Row.new_sl (w : World) (xs : List Int) (hx : WF xs) (h : xs.length ≤ 35184372088832) : Sl (w.heap.size + 1) (w.alloc (.cells (ws xs).toArray 26)) (.slice (some ⟨w.heap.size,0,none⟩) xs.length xs.length) xs := by
 exact Row.sl (r := []) (by simpa using Row.new w xs) hx (Nat.le_refl _) h (Nat.lt_succ_self _)
theorem Sl.alloc {w : World} {B : Nat} {v : Value} {xs : List Int} (h : Sl B w v xs) (hB : B ≤ w.heap.size) (o : Obj) : Sl B (w.alloc o) v xs :=
 h.below (B' := w.heap.size) ((Below.refl _ _).alloc (Nat.le_refl _) o) hB
theorem zCB {x : Int} {r : List Int} (h : 0 ≤ x ∧ x ≤ 18446744073709551615) (hr : WF r) : WF (x :: r) := WF.cons (by unfold IsW wB;omega) hr
theorem zQD (w : World) (xs : List Int) (cs : Array Value) (hcs : cs = (ws xs).toArray) (hx : WF xs) (h : xs.length ≤ 35184372088832) (n : Nat) (hn : n = xs.length) :
  Sl (w.alloc (.cells cs 26)).heap.size (w.alloc (.cells cs 26)) (.slice (some ⟨w.heap.size,0,none⟩) n n) xs := by
 subst hcs;subst hn;exact (Row.new_sl w xs hx h).mono (by simp)
theorem Sl.later {w : World} {v : Value} {xs : List Int} (h : Sl w.heap.size w v xs) (o : Obj) : Sl (w.alloc o).heap.size (w.alloc o) v xs := (h.alloc (Nat.le_refl _) o).mono (by simp)
theorem Sl.now {w w' : World} {v : Value} {xs : List Int} (h : Sl w.heap.size w v xs) (hb : Below w.heap.size w w') : Sl w'.heap.size w' v xs := (h.below hb (Nat.le_refl _)).mono hb.size
theorem added_sl {w w' : World} {s : Int} {k : Nat} {e : Ending} (h : zbG w s k e w') : ∃ zs v,e = .returned v ∧ Sl w'.heap.size w' v zs ∧ zFA zs ∧ val zs = s ∧ zs.length ≤ k ∧ Below w.heap.size w w' := by
 obtain ⟨zs,cap,r,rfl,hc,hv,hk,hl,hm,hr,hb,hs⟩ := h;exact ⟨zs,_,rfl,hr.sl hc.1 (by omega) hm hs,hc,hv,hk,hb⟩
theorem takeFrom_any {g : Nat} {w : World} {u : Value} {zs0 ys : List Int} {r : List Value} {cap : Nat} (hz0 : WF zs0) (hrow : Row w g (ws zs0 ++ r)) (hlz : zs0.length ≤ 35184372088832) (hy : Sl g w u ys) (hl : ys.length ≤ zs0.length) (hge : val ys ≤ val zs0) :
  Calls Try.prog 76 #[.slice (some ⟨g,0,none⟩) zs0.length cap,u] w fun e w' =>
   ∃ zs,e = .returned (.tuple #[]) ∧ zs.length = zs0.length ∧ WF zs ∧ val zs = val zs0 - val ys ∧ Row w' g (ws zs ++ r) ∧ Below g w w' := by
 have HGE : Hid (val ys ≤ val zs0) := hge;clear hge;obtain ⟨hwy,a,capy,rfl,hlc,hcm,hm⟩ := hy;have HV0 : Hid (val zs0 - pw 0 * 0 = val zs0 - val (ys.take 0)) := by unfold Hid;simp [val]
 have HTL : Hid (ys.take ys.length = ys) := by unfold Hid;simp
 obtain ⟨m,hmz⟩ : ∃ m,m = zs0.length := ⟨_,rfl⟩
 obtain ⟨n,hny⟩ : ∃ n,n = ys.length := ⟨_,rfl⟩
 rw [← hmz] at hl hlz;rw [← hny] at hl hlc HTL;rw [← hmz,← hny];have HM : Hid (m = zs0.length) := hmz;have HN : Hid (n = ys.length) := hny;clear hmz hny;go_enter Try.func76,Try.ntmps76;go_wp2_with fail
 go_loopw [4,9] (fun c i wr => ∃ (k : Nat) (zs : List Int) (cc : Int),k ≤ n ∧ i = .int .i64 k ∧ c = .int .u64 cc ∧ 0 ≤ cc ∧ cc ≤ 1 ∧ Hid (zs.length = m) ∧ WF zs ∧ Hid (val zs - pw k * cc = val zs0 - val (ys.take k)) ∧ Row wr g (ws zs ++ r) ∧ Below g w wr) (fun _ i _ => n - (intOf i).toNat)
 case atStart => exact ⟨0,zs0,0,Nat.zero_le _,rfl,rfl,by omega,by omega,HM.out.symm,hz0,HV0,hrow,Below.refl _ _⟩
 case round =>
  obtain ⟨k,zs,cc,hk,rfl,rfl,hc0,hc1,HL,hwz,HV,hr,hb⟩ := hrel
  by_cases hlt : k < n
  ·have hk1 : k < zs.length := by have := HL.out;omega
   have hk2 : k < ys.length := by have := HN.out;omega
   rcases hm with e | ⟨b,off,rfl,hbg,hcy⟩
   ·subst e;simp at hk2
   have c1 : wr.cell? ⟨g,k,none⟩ = some (.int .u64 zs[k]) := hr.word hk1;have c2 : wr.cell? ⟨b,off + k,none⟩ = some (.int .u64 ys[k]) := (hb.cell (p := ⟨b,off + k,none⟩) hbg).trans (hcy k hk2);have cf : wr.frozen? ⟨g,k,none⟩ = false := hr.frozen k;obtain ⟨s,d,hs,hd0,hd1,hsum,hadd⟩ := zjC (hwz.get hk1) (hwy.get hk2) hc0 hc1;have HV' : Hid (val (zs.set k s) - pw (k + 1) * d = val zs0 - val (ys.take (k + 1))) := zuD hk1 HV.out (zOA ys k hk2) hsum rfl;have hwz' : WF (zs.set k s) := hwz.set k hs;have HR := hr.setWord hk1 s;have HB := hb.setCell (p := ⟨g,k,none⟩) (Nat.le_refl _) (.int .u64 s);clear hsum hs;generalize zs[k] = x at *;generalize ys[k] = y at *;have HL' : Hid ((zs.set k s).length = m) := by unfold Hid;rw [List.length_set];exact HL.out
   generalize zs.set k s = zs' at *;clear hcy hr hb hwz HV hrow HL;go_wp2_with fail;have i0 : (0 : Int) ≤ (k : Int) := by omega
   have i1 : (k : Int) < (n : Int) := by omega
   have i2 : (k : Int) < (m : Int) := by omega
   go_region;go_wp2;go_roundw
   case rel => exact ⟨k + 1,zs',d,by omega,by go_num,rfl,hd0,hd1,HL',hwz',HV',HR.drewN 1,HB.drew⟩
   case measure => simp [intOf];omega
  ·obtain rfl : k = n := by omega
   rw [HTL.out] at HV;clear hm hrow hz0 hwy HTL HV0;go_wp2_with fail
   go_loopw [4,6] (fun c i wr => ∃ (j : Nat) (zs : List Int) (cc : Int),j ≤ m ∧ i = .int .i64 j ∧ c = .int .u64 cc ∧ 0 ≤ cc ∧ cc ≤ 1 ∧ Hid (zs.length = m) ∧ WF zs ∧ Hid (val zs - pw j * cc = val zs0 - val ys) ∧ Row wr g (ws zs ++ r) ∧ Below g w wr) (fun _ i _ => m - (intOf i).toNat)
   case atStart => exact ⟨k,zs,cc,hl,rfl,rfl,hc0,hc1,HL,hwz,HV,hr,hb⟩
   case round =>
    clear HV hr hb hwz HL hc0 hc1;obtain ⟨j,zs,cc,hj,rfl,rfl,hc0,hc1,HL,hwz,HV,hr,hb⟩ := hrel
    by_cases hcc : cc = 0
    ·have hcb : (cc != 0) = false := by simp [hcc]
     have HCC : Hid (cc = 0) := hcc;clear hcc;go_wp2;go_end0;refine ⟨zs,rfl,HL.out,hwz,?_,hr,hb⟩;have := HV.out;rw [HCC.out] at this
     simpa using this
    ·have hcb : (cc != 0) = true := by simp [hcc]
     clear hcc
     by_cases hlt : j < m
     ·have hk1 : j < zs.length := by have := HL.out;omega
      have c1 : wr.cell? ⟨g,j,none⟩ = some (.int .u64 zs[j]) := hr.word hk1;have cf : wr.frozen? ⟨g,j,none⟩ = false := hr.frozen j;obtain ⟨s,d,hs,hd0,hd1,hsum,hadd⟩ := zjC (hwz.get hk1) (show IsW 0 by unfold IsW wB;omega) hc0 hc1;have HV' : Hid (val (zs.set j s) - pw (j + 1) * d = val zs0 - val ys) := zuD hk1 HV.out (y := 0) (by simp) hsum rfl;have hwz' : WF (zs.set j s) := hwz.set j hs;have HR := hr.setWord hk1 s;have HB := hb.setCell (p := ⟨g,j,none⟩) (Nat.le_refl _) (.int .u64 s);clear hsum hs;generalize zs[j] = x at *;have HL' : Hid ((zs.set j s).length = m) := by unfold Hid;rw [List.length_set];exact HL.out
      generalize zs.set j s = zs' at *;clear hr hb hwz HV HL;have i0 : (0 : Int) ≤ (j : Int) := by omega
      have i2 : (j : Int) < (m : Int) := by omega
      go_wp2;go_roundw
      case rel => exact ⟨j + 1,zs',d,by omega,by go_num,rfl,hd0,hd1,HL',hwz',HV',HR,HB⟩
      case measure => simp [intOf];omega
     ·obtain rfl : j = m := by omega
      exfalso
      have h1 := HV.out;have h2 := zXA hwz;rw [HL.out] at h2;have h3 := HGE.out;have h4 : cc = 1 := by
       have : cc ≠ 0 := by simpa using hcb
       omega
      rw [h4] at h1;omega
theorem cmp_widths {xs ys : List Int} (hx : WF xs) (hy : WF ys) (h : wid xs ≠ wid ys) : cmpI (val xs) (val ys) = cmpI (wid xs) (wid ys) := by
 rcases Nat.lt_or_gt_of_ne h with q | q
 ·rw [zxA (zRB hx hy q),zxA (by omega)]
 ·rw [zyA (zRB hy hx q),zyA (by omega)]
theorem zHC {xs : List Int} {j : Nat} (h : j < wid xs) : (lst xs)[j]'(by rw [length_lst];exact h) = xs[j]'(by have := zIA xs;omega) := by simp [lst]
theorem cmp_end {xs ys : List Int} {n : Nat} (hn : wid xs = n) (hn' : wid ys = n)
  (he : ∀ j (h1 : j < xs.length) (h2 : j < ys.length),j < n → xs[j] = ys[j]) : cmpI (val xs) (val ys) = 0 := by
 have e : lst xs = lst ys := by
  refine List.ext_getElem (by rw [length_lst,length_lst];omega) (fun j h1 h2 => ?_);rw [length_lst] at h1 h2;rw [zHC h1,zHC h2];exact he j _ _ (by omega)
 rw [← val_lst xs,← val_lst ys,e,cmpI_self]
theorem cmp_here {xs ys : List Int} {n j : Nat} (hx : WF xs) (hy : WF ys) (hn : wid xs = n) (hn' : wid ys = n) (hj : j < n)
  (he : ∀ i (h1 : i < xs.length) (h2 : i < ys.length),j < i → i < n → xs[i] = ys[i]) (h1 : j < xs.length) (h2 : j < ys.length) (hne : xs[j] ≠ ys[j]) : cmpI (val xs) (val ys) = cmpI xs[j] ys[j] := by
 have l1 := length_lst xs;have l2 := length_lst ys;have g1 : (lst xs)[j]'(by omega) = xs[j] := zHC (by omega);have g2 : (lst ys)[j]'(by omega) = ys[j] := zHC (by omega);rw [← val_lst xs,← val_lst ys,← g1,← g2];refine zjG (xs := lst xs) (ys := lst ys) (hx.take _) (hy.take _) (by omega) (by omega) ?_ (by rw [g1,g2];exact hne);refine List.ext_getElem (by simp [length_lst];omega) (fun i h3 h4 => ?_);simp only [List.getElem_drop];simp only [List.length_drop] at h3 h4;rw [zHC (by omega),zHC (by omega)];exact he _ _ _ (by omega) (by omega)
theorem zXF {B : Nat} {w : World} {v u : Value} {xs ys : List Int} (h : Sl B w v xs) (h' : Sl B w u ys) :
  Calls Try.prog 52 #[v,u] w fun e w' => e = .returned (.int .i64 (cmpI (val xs) (val ys))) ∧ ∃ n,w' = w.drewN n := by
 have hs := h;have hs' := h';obtain ⟨hw,a,cap,rfl,hlc,hcm,hm⟩ := h;obtain ⟨hw',a',cap',rfl,hlc',hcm',hm'⟩ := h';have HW1 := zeA hs;have HW2 := zeA hs';have l1 := zIA xs;have l2 := zIA ys
 by_cases hne : wid xs = wid ys
 ·have HE : Hid ((∀ j (h1 : j < xs.length) (h2 : j < ys.length),j < wid xs → xs[j] = ys[j]) → cmpI (val xs) (val ys) = 0) := cmp_end rfl hne.symm
  have HH : Hid (∀ j,j < wid xs → (∀ i (h1 : i < xs.length) (h2 : i < ys.length),j < i → i < wid xs → xs[i] = ys[i]) → ∀ (h1 : j < xs.length) (h2 : j < ys.length),xs[j] ≠ ys[j] → cmpI (val xs) (val ys) = cmpI xs[j] ys[j]) :=
   fun j hj he h1 h2 hq => cmp_here hw hw' rfl hne.symm hj he h1 h2 hq
  rw [← hne] at HW2 l2;generalize cmpI (val xs) (val ys) = C at *;generalize wid xs = n at *;clear hne hw hw';have hnn : ((n : Int) != (n : Int)) = false := by simp
  go_enter Try.func52,Try.ntmps52;go_wp2_with fail;refine HW1.mono ?_;rintro e w1 ⟨rfl,rfl⟩;go_wp2_with fail;refine HW2.mono ?_;rintro e w1 ⟨rfl,rfl⟩;clear HW1 HW2 hs hs';go_wp2_with fail
  go_loopw [22] (fun i wr => ∃ k : Nat,k ≤ n ∧ i = .int .i64 k ∧ (∃ q,wr = w1.drewN q) ∧ ∀ j (h1 : j < xs.length) (h2 : j < ys.length),n - k ≤ j → j < n → xs[j] = ys[j]) (fun i _ => n - (intOf i).toNat)
  case atStart => exact ⟨0,Nat.zero_le _,rfl,⟨0,rfl⟩,fun j h1 h2 h h' => by omega⟩
  case round =>
   obtain ⟨k,hk,rfl,hq,he⟩ := hrel;have hcw : ∀ a,wr.cell? a = w1.cell? a := by obtain ⟨q,rfl⟩ := hq;intro a;rfl
   have HQ : Hid (∃ q,wr = w1.drewN q) := hq;clear hq;have HR : Hid (∀ j (h1 : j < xs.length) (h2 : j < ys.length),n - k ≤ j → j < n → xs[j] = ys[j]) := he;clear he
   by_cases hlt : k < n
   ·obtain ⟨j,rfl⟩ : ∃ j,n = k + j + 1 := ⟨n - k - 1,by omega⟩
    have hj1 : j < xs.length := by omega
    have hj2 : j < ys.length := by omega
    rcases hm with e | ⟨b,off,rfl,hb,hc⟩
    ·subst e;simp at hj1
    rcases hm' with e | ⟨b',off',rfl,hb',hc'⟩
    ·subst e;simp at hj2
    have c1 : wr.cell? ⟨b,off + j,none⟩ = some (.int .u64 xs[j]) := by rw [hcw];exact hc j hj1
    have c2 : wr.cell? ⟨b',off' + j,none⟩ = some (.int .u64 ys[j]) := by rw [hcw];exact hc' j hj2
    clear hcw;obtain ⟨x,hx⟩ : ∃ x,x = xs[j] := ⟨_,rfl⟩
    obtain ⟨y,hy⟩ : ∃ y,y = ys[j] := ⟨_,rfl⟩
    rw [← hx] at c1;rw [← hy] at c2;have HX : Hid (x = xs[j]) := hx;have HY : Hid (y = ys[j]) := hy;clear hx hy hc hc';have hwr1 : IntKind.i64.wrap ((k : Int) + (j : Int)) = (k : Int) + (j : Int) := zjA (by omega) (by omega);have hwr2 : IntKind.i64.wrap (j : Int) = (j : Int) := zjA (by omega) (by omega);have hwr3 : (k : Int) + (j : Int) - (k : Int) = (j : Int) := by omega
    by_cases hxy : x = y
    ·have ht : (cmpI x y != 0) = false := by rw [hxy,cmpI_self];rfl
     have HXY : Hid (x = y) := hxy;clear hxy;go_wp2_with fail;go_quiet ((go_at_call 69;exact Calls.quiet_of_same (order_any _ _ _)));go_wp2;go_roundw
     case rel =>
      refine ⟨k + 1,by omega,by go_num,(by obtain ⟨q,hq⟩ := HQ.out;exact ⟨q + nq,by rw [hq,World.drewN_drewN]⟩),fun i h1 h2 h3 h4 => ?_⟩
      by_cases e : i = j
      ·subst e;rw [← HX.out,← HY.out];exact HXY.out
      ·exact HR.out i h1 h2 (by omega) (by omega)
     case measure => simp [intOf];omega
    ·have ht : (cmpI x y != 0) = true := by rw [bne_iff_ne];exact fun e => hxy (cmpI_zero e)
     go_wp2_with fail;go_quiet ((go_at_call 69;exact Calls.quiet_of_same (order_any _ _ _)));go_wp2;go_ret;refine ⟨?_,by obtain ⟨q,hq⟩ := HQ.out;exact ⟨q + nq,by rw [hq,World.drewN_drewN]⟩⟩;have := HH.out j (by omega) (fun i h1 h2 h3 h4 => HR.out i h1 h2 (by omega) (by omega)) hj1 hj2 (by rw [← HX.out,← HY.out];exact hxy);rw [this,← HX.out,← HY.out]
     rfl
   ·clear hcw
    go_wp2_with fail;go_ret;refine ⟨?_,HQ.out⟩;rw [HE.out (fun j h1 h2 h3 => HR.out j h1 h2 (by omega) (by omega))]
    rfl
 ·have HC : Hid (cmpI (val xs) (val ys) = cmpI (wid xs) (wid ys)) := cmp_widths hw hw' hne
  generalize cmpI (val xs) (val ys) = C at *;generalize wid xs = m at *;generalize wid ys = n at *;have hnn : ((m : Int) != (n : Int)) = true := by rw [bne_iff_ne];omega
  clear hm hm' hw hw';go_enter Try.func52,Try.ntmps52;go_wp2_with fail;refine HW1.mono ?_;rintro e w1 ⟨rfl,rfl⟩;go_wp2_with fail;refine HW2.mono ?_;rintro e w1 ⟨rfl,rfl⟩;clear HW1 HW2 hs hs';go_wp2_with fail;refine (order_any _ _ _).mono ?_;rintro e w1 ⟨rfl,rfl⟩;go_wp2;go_ret;refine ⟨?_,0,rfl⟩;rw [HC.out]
  rfl
theorem zTD {a b : Int} (h : a < b) : cmpI a b < 0 := by rw [zxA h];omega
theorem zvB {a b : Int} (h : b ≤ a) : ¬ cmpI a b < 0 := by
 rcases Int.lt_or_eq_of_le h with q | q
 ·rw [zyA q];omega
 ·rw [q,cmpI_self];omega
theorem sub_no {w : World} {v u : Value} {xs ys : List Int} (h : Sl w.heap.size w v xs) (h' : Sl w.heap.size w u ys) (hlt : val xs < val ys) :
  Calls Try.prog 58 #[v,u] w fun e w' => e = .returned (.tuple #[.slice none 0 0,.int .i64 3]) ∧ ∃ n,w' = w.drewN n := by
 have HC := zXF h h';have hn := zTD hlt;generalize cmpI (val xs) (val ys) = C at *;clear h h' hlt;go_enter Try.func58,Try.ntmps58;go_wp2_with fail;refine HC.mono ?_;rintro e w1 ⟨rfl,n,rfl⟩;clear HC;go_wp2;go_ret2;exact ⟨rfl,n,rfl⟩
def Taken (w : World) (s : Int) (k : Nat) (e : Ending) (w' : World) : Prop :=
 ∃ zs cap r,e = .returned (.tuple #[.slice (some ⟨w.heap.size,0,none⟩) zs.length cap,.int .i64 0]) ∧ zFA zs ∧ val zs = s ∧ zs.length ≤ k ∧ cap = zs.length + r.length ∧ cap ≤ 35184372088832 ∧
  Row w' w.heap.size (ws zs ++ r) ∧ Below w.heap.size w w' ∧ w.heap.size < w'.heap.size
theorem zEG {w : World} {v u : Value} {xs ys : List Int} (h : Sl w.heap.size w v xs) (h' : Sl w.heap.size w u ys) (hge : val ys ≤ val xs) :
  Calls Try.prog 58 #[v,u] w (Taken w (val xs - val ys) (wid xs)) := by
 have hs := h;have hs' := h';obtain ⟨hw,a,cap,rfl,hlc,hcm,hm⟩ := h;obtain ⟨hw',a',cap',rfl,hlc',hcm',hm'⟩ := h';have HC := zXF hs hs';have hn := zvB hge;generalize cmpI (val xs) (val ys) = C at *;have l1 := zIA xs;have l2 := zIA ys;have HWW : Hid (wid ys ≤ wid xs) := by
  unfold Hid
  by_cases q : wid xs < wid ys
  ·have := zRB hw hw' q;omega
  ·omega
 have HL1 : Hid ((lst xs).length = wid xs) := length_lst xs;have HL2 : Hid ((lst ys).length = wid ys) := length_lst ys;have HC1 := hid (canon_lst hw);have HC2 := hid (canon_lst hw');have HV1 := hid (val_lst xs);have HV2 := hid (val_lst ys);have HS1 := hid hs;have HS2 := hid hs';have hsrc' := Sl.source (n := wid ys) hm'
 change lst ys = [] ∨ ∃ b off,a' = some ⟨b,off,none⟩ ∧ b < w.heap.size ∧ ∀ j (h : j < (lst ys).length),w.cell? ⟨b,off + j,none⟩ = some (.int .u64 (lst ys)[j]) at hsrc'
 have HSR := hid hsrc';have HGE := hid hge;clear hm hm' hw hw' hs hs' hsrc' hge;go_enter Try.func58,Try.ntmps58;go_wp2_with fail;refine HC.mono ?_;rintro e w1 ⟨rfl,n,rfl⟩;clear HC;go_wp2_with fail;refine (least_any (w := w.drewN n) (HS1.out.drewN n)).mono ?_;rintro e w2 ⟨rfl,hrow,hb2,hsz2⟩
 change Row w2 w.heap.size _ at hrow
 change Below w.heap.size _ w2 at hb2
 change w.heap.size < w2.heap.size at hsz2
 have hb02 : Below w.heap.size w w2 := (below_drewN (Below.refl _ _) n).trans hb2;go_wp2_with fail;have HW2 := zeA (HS2.out.below hb02 (Nat.le_refl _));refine HW2.mono ?_;rintro e w3 ⟨rfl,rfl⟩;clear HW2;have hsl := Sl.sourceB HSR.out hb02 (Nat.le_refl _);have hsl2 : Sl w.heap.size w3 (.slice a' (wid ys) cap') (lst ys) := ⟨HC2.out.1,_,cap',by rw [HL2.out],by rw [HL2.out];omega,by rw [HL2.out];omega,hsl⟩
 have hT := takeFrom_any (r := []) (cap := wid xs) HC1.out.1 (by simpa using hrow) (by rw [HL1.out];omega) hsl2 (by rw [HL1.out,HL2.out];exact HWW.out) (by rw [HV1.out,HV2.out];exact HGE.out);rw [HL1.out] at hT;have HT := hid hT;clear hT hsl hsl2;have HB := hid hb02;clear hb02 hb2 hrow;go_wp2_with fail;refine HT.out.mono ?_;rintro e w4 ⟨zs,rfl,hzl,hwz,hv,hr4,hb4⟩;have hb04 := hid (HB.out.trans hb4);have hhs4 : w.heap.size < w4.heap.size := Nat.lt_of_lt_of_le hsz2 hb4.size;have HV4 := hid hv;have HZL := hid hzl;clear hv hzl hb4 HB HT hsz2;go_wp2_with fail;have hsz := hr4.sl hwz (cap := wid xs) (by rw [HZL.out];exact Nat.le_refl _) (by omega) hhs4;rw [HZL.out] at hsz;have HW4 := hid (zeA hsz);clear hsz;refine HW4.out.mono ?_;rintro e w5 ⟨rfl,rfl⟩;clear HW4;have l5 := zIA zs;have l6 : wid zs ≤ wid xs := by have := HZL.out;omega
 go_wp2;go_ret2;refine ⟨lst zs,wid xs,ws (zs.drop (wid zs)),by rw [length_lst];rfl,canon_lst hwz,?_,?_,?_,by omega,?_,hb04.out,hhs4⟩
 ·rw [val_lst,HV4.out,HV1.out,HV2.out]
 ·rw [length_lst];exact l6
 ·rw [length_lst,zGA,List.length_drop,HZL.out];omega
 ·have e : ws (lst zs) ++ ws (zs.drop (wid zs)) = ws zs ++ [] := by
   unfold lst ws;rw [← List.map_append,List.take_append_drop,List.append_nil]
  rw [e];exact hr4
theorem zAA {w0 w w' : World} (h : Below w0.heap.size w0 w) (k : Below w.heap.size w w') : Below w0.heap.size w0 w' := h.trans (k.mono h.size)
theorem zLC {w : World} {v u : Value} {xs ys : List Int} (h : Sl w.heap.size w v xs) (h' : Sl w.heap.size w u ys) (hl : xs.length < 35184372088832) (hl' : ys.length < 35184372088832) :
  Calls Try.prog 80 #[v,u] w fun e w' => ∃ zs r,e = .returned r ∧ Sl w'.heap.size w' r zs ∧ zFA zs ∧ val zs = val xs + val ys ∧ (zs.length ≤ xs.length + 1 ∨ zs.length ≤ ys.length + 1) ∧ Below w.heap.size w w' :=
 (add_any h h' hl hl').mono fun e w' hadd => by
  obtain ⟨zs,r,h1,h2,h3,h4,h5,h6⟩ := added_sl hadd;exact ⟨zs,r,h1,h2,h3,h4,by have := zIA xs;have := zIA ys;omega,h6⟩
theorem same_now {w : World} {v u : Value} {xs ys : List Int} (h : Sl w.heap.size w v xs) (h' : Sl w.heap.size w u ys) :
  Calls Try.prog 33 #[v,u] w fun e w' => e = .returned (.bool (same xs ys)) ∧ Below w.heap.size w w' :=
 (same_any h h').mono fun e w' ⟨h1,n,h2⟩ => ⟨h1,by subst h2;exact below_drewN (Below.refl _ _) n⟩
theorem zdF {w : World} {v u : Value} {xs ys : List Int} (h : Sl w.heap.size w v xs) (h' : Sl w.heap.size w u ys) (he : xs = ys) :
  Calls Try.prog 33 #[v,u] w fun e w' => e = .returned (.bool true) ∧ Below w.heap.size w w' := by
 have := same_now h h';subst he
 rwa [same_self] at this
theorem ztD {w : World} {v u : Value} {xs ys : List Int} (h : Sl w.heap.size w v xs) (h' : Sl w.heap.size w u ys) :
  Calls Try.prog 52 #[v,u] w fun e w' => e = .returned (.int .i64 (cmpI (val xs) (val ys))) ∧ Below w.heap.size w w' :=
 (zXF h h').mono fun e w' ⟨h1,n,h2⟩ => ⟨h1,by subst h2;exact below_drewN (Below.refl _ _) n⟩
theorem sub_now {w : World} {v u : Value} {xs ys : List Int} (h : Sl w.heap.size w v xs) (h' : Sl w.heap.size w u ys) (hge : val ys ≤ val xs) :
  Calls Try.prog 58 #[v,u] w fun e w' => ∃ zs a cap,e = .returned (.tuple #[.slice a zs.length cap,.int .i64 0]) ∧ Sl w'.heap.size w' (.slice a zs.length cap) zs ∧ zFA zs ∧ val zs = val xs - val ys ∧ zs.length ≤ xs.length ∧ Below w.heap.size w w' :=
 (zEG h h' hge).mono fun e w' ht => by
  obtain ⟨zs,cap,r,h1,h2,h3,h4,h5,h6,h7,h8,h9⟩ := ht;exact ⟨zs,_,cap,h1,h7.sl h2.1 (by omega) h6 h9,h2,h3,by have := zIA xs;omega,h8⟩
theorem Sl.nil (w : World) : Sl w.heap.size w (.slice Option.none 0 0) [] := Sl.nilAt w
end Go.Proofs.Ytppddlbkdoebmaa
