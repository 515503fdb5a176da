/-
 QDv12ToZFloor: Dv12, ZFloor, joined.
-/
import Derived.Test.YtkklldokdnfkgaaGreatQPrm12ToSh12
import Derived.Test.YtkklldokdnfkgaaGreatQExact0ToZDiv
import Derived.Test.YtkklldokdnfkgaaGreatQFil9ToCat9

set_option maxRecDepth 100000
set_option maxHeartbeats 6400000
set_option linter.unusedVariables false
set_option linter.unusedSimpArgs false
namespace Go.Proofs.YtkklldokdnfkgaaGreat
open Go.RowKit
def mix (ys xs : List Int) (i : Nat) : List Int := (List.range xs.length).map fun j => if j < i then ys.getD j 0 else xs.getD j 0
theorem zRB {ys xs : List Int} (i : Nat) : (mix ys xs i).length = xs.length := by simp [mix]
theorem zhD (ys xs : List Int) : mix ys xs 0 = xs := List.ext_getElem (zRB 0) fun j h1 h2 => by simp [mix,h2]
theorem zBF {ys xs : List Int} (h : ys.length = xs.length) : mix ys xs xs.length = ys := List.ext_getElem (by rw [zRB,h]) fun j h1 h2 => by
 rw [zRB] at h1;simp [mix,h1,h2]
theorem zQI {ys xs : List Int} {i : Nat} (hi : i < xs.length) : (mix ys xs i)[i]'(by rw [zRB];exact hi) = xs[i] := by simp [mix,hi]
theorem zAF {ys xs : List Int} (h : ys.length = xs.length) {i : Nat} (hi : i < xs.length) : (mix ys xs i).set i (ys[i]'(by omega)) = mix ys xs (i + 1) := by
 refine List.ext_getElem (by simp [zRB]) fun j h1 h2 => ?_
 have hj : j < xs.length := by simpa [zRB] using h1
 rw [List.getElem_set]
 by_cases e : i = j
 ·subst e
  rw [if_pos rfl];simp [mix,show i < ys.length by omega]
 ·rw [if_neg e]
  by_cases q : j < i
  ·simp [mix,q,show j < i + 1 by omega]
  ·simp [mix,q,show ¬ j < i + 1 by omega]
theorem Row.stay {w w' : World} {g : Nat} {L : List Value} (h : Row w g L) (hb : Below w.heap.size w w') : Row w' g L := Row.below h hb (Row.lt h)
theorem Row.at12 {w : World} {g : Nat} {xs : List Int} {r : List Value} (h : Row w g (ws xs ++ r)) {i : Nat} (hi : i < xs.length) : w.cell? ⟨g,i,none⟩ = some (.int .u64 xs[i]) := h.word hi
theorem Row.put12 {w : World} {g : Nat} {xs : List Int} {r : List Value} (h : Row w g (ws xs ++ r)) {i : Nat} (hi : i < xs.length) (z : Int) : Row (w.setCell ⟨g,i,none⟩ (.int .u64 z)) g (ws (xs.set i z) ++ r) := h.setWord hi z
theorem znD {i n : Nat} (h : i < n) (hn : n ≤ 1048576) : IntKind.i64.wrap ((i : Int) + 1) = ((i + 1 : Nat) : Int) := by rw [zRA] <;> omega
theorem ztH {w : World} {g b i : Nat} {T : TypeId} {L M : List Value} {u : Value} (h : Cel w b T L) (hr : Row w g M) (hT : T ≠ 25) : Cel (w.setCell ⟨g,i,none⟩ u) b T L := by
 refine h.ne fun e => ?_
 subst e;have := (show w.heap[g]? = _ from h).symm.trans (show w.heap[g]? = _ from hr);simp at this;exact hT this.2
def LinH (w : World) (sb p c : Nat) (lv : Value) (g n : Nat) (ys xs : List Int) (r : List Value) (gk : Nat) (s : Value) (wx : World) : Prop :=
 ∃ i : Nat,s = .int .i64 (i : Int) ∧ i ≤ n ∧ gk = n - i ∧ Row wx g (ws (mix ys xs i) ++ r) ∧ Cel wx sb 54 (shc p c lv) ∧ zoA (· = g) w wx
theorem zoA.drew {S : Nat → Prop} {w0 w : World} (h : zoA S w0 w) : zoA S w0 w.drew := ⟨h.os,h.tape,h.output,h.size,h.block⟩
theorem LinH.drew {w : World} {sb p c : Nat} {lv : Value} {g n : Nat} {ys xs : List Int} {r : List Value} {gk : Nat} {s : Value} {wx : World} (h : LinH w sb p c lv g n ys xs r gk s wx) : LinH w sb p c lv g n ys xs r gk s wx.drew := by
 obtain ⟨i,h1,h2,h3,h4,h5,h6⟩ := h;exact ⟨i,h1,h2,h3,h4,h5,h6.drew⟩
def zEI (w : World) (g : Nat) (ys : List Int) (r : List Value) (e : Ending) (w' : World) : Prop := e = .returned (.tuple #[]) ∧ Row w' g (ws ys ++ r) ∧ zoA (· = g) w w'
theorem zAH {w : World} {p c n cap g : Nat} {a : Option Addr} {l k : Nat} {b : Int} {xs : List Int} {r : List Value} (hp : 2 ≤ p) (hp2 : p < 2147483648) (hb : IsR p b) (hx : Res p xs) (hl : xs.length = n) (hn : n ≤ 1048576) (hcap : n ≤ cap) (hg : Row w g (ws xs ++ r)) :
  Calls Tryz.prog 54 #[shv p c (.slice a l k),.slice (some ⟨g,0,none⟩) n cap,.int .u64 b] w (zEI w g (dvL p b xs) r) := by
 obtain ⟨W0,hW⟩ : ∃ W0,w.alloc (shO p c (.slice a l k)) = W0 := ⟨_,rfl⟩
 obtain ⟨b0,sz0⟩ := zVA w (shO p c (.slice a l k));rw [hW] at b0 sz0;have P1 : Hid (Cel W0 w.heap.size 54 (shc p c (.slice a l k))) := by unfold Hid;rw [← hW];exact Cel.new w _ _
 have HS := hid (inverse12 (w := W0) (c := c) (a := a) (l := l) (k := k) hp hp2 hb);have x0 := P1.out.at (i := 0) rfl;have x1 := P1.out.at (i := 1) rfl;have x2 := P1.out.at (i := 2) rfl;rw [← hW] at x0 x1 x2;obtain ⟨ys,hys⟩ : ∃ ys,dvL p b xs = ys := ⟨_,rfl⟩
 have hyl : ys.length = xs.length := by rw [← hys,zKE]
 rw [hys];obtain ⟨v,hv⟩ : ∃ v,invP p b = v := ⟨_,rfl⟩
 rw [hv] at HS;have iv : Hid (IsR p v) := by
  unfold Hid IsR;rw [← hv];unfold invP;have := Nat.mod_lt (b.toNat ^ (p - 2)) (show 0 < p by omega);omega
 have HY : Hid (∀ i (h : i < xs.length) (h' : i < ys.length),ys[i] = xs[i] * v % (p : Int)) := fun i h h' => by
  subst hys;simp only [dvL,List.getElem_map,hv]
 have G0 := hid (zoA.ofBelow (S := (· = g)) b0);have ROW := hid (hg.stay b0);have HX := hid hx;have YL := hid hyl;have HL := hid hl;have EW := hid hW;have hp0 : ¬ (p : Int) = 0 := by omega
 clear b0 sz0 hW hg hx hyl hl hys hv hb;go_enter Tryz.func54,Tryz.ntmps54;go_wp2_with fail;rw [EW.out];refine HS.out.mono ?_;rintro e w1 ⟨rfl,b1⟩;have H0 : Hid (LinH w w.heap.size p c (.slice a l k) g n ys xs r n (.int .i64 0) w1) := ⟨0,rfl,Nat.zero_le _,rfl,by rw [zhD];exact ROW.out.stay b1,P1.out.step b1,G0.out.trans (.ofBelow b1)⟩
 clear x0 x1 x2 HS P1 G0 ROW b1 EW;generalize w.heap.size = sb at *;go_wp2_with fail
 go_loopg [14] n (fun gk s14 wx => LinH w sb p c (.slice a l k) g n ys xs r gk s14 wx)
 case atStart => exact H0.out
 case round =>
  clear H0;obtain ⟨i,rfl,hin,hgk,hrow,hcel,hT⟩ := hrel;have RW := hid hrow;have P1 := hid hcel;have TT := hid hT;have HG := hid hgk;clear hrow hcel hT hgk
  by_cases hlt : i < n
  ·have hlt' : (i : Int) < (n : Int) := by omega
   have hix : i < xs.length := by rw [HL.out];exact hlt
   have hm := zRB (ys := ys) (xs := xs) i;have k1 := RW.out.at12 (i := i) (by rw [hm];exact hix);rw [zQI hix] at k1;have f1 := RW.out.frozen i;have x0 := P1.out.at (i := 0) rfl;have ix := HX.out.at hix;have w1 := zXE hp2 ix iv.out;have nn := (zzC hp2 ix iv.out).1;have HYI := HY.out i hix (by rw [YL.out];exact hix);have HN1 : Hid (LinH w sb p c (.slice a l k) g n ys xs r (n - (i + 1)) (.int .i64 ((i + 1 : Nat) : Int)) (wr.setCell ⟨g,i,none⟩ (.int .u64 (ys[i]'(by rw [YL.out];exact hix))))) :=
    ⟨i + 1,rfl,by omega,rfl,by rw [← zAF YL.out hix];exact RW.out.put12 (by rw [hm];exact hix) _,ztH P1.out RW.out (by decide),TT.out.setCell (.inr rfl) _ _⟩
   rw [HYI] at HN1;generalize xs[i] = z at *;obtain ⟨q,hq⟩ : ∃ q,z * v = q := ⟨_,rfl⟩
   have w1' : IntKind.u64.wrap (z * v) = q := by rw [w1,hq]
   rw [hq] at nn HN1;have t1 : q.tmod (p : Int) = q % (p : Int) := zMH nn;generalize q % (p : Int) = y at *;have hw := znD hlt hn;have HMM : Hid (n - (i + 1) < gk) := by unfold Hid;rw [HG.out];omega
   clear w1 hq nn HYI ix hm hix RW P1 TT HG;go_wp2_with fail;go_roundg (n - (i + 1))
   case rel => exact HN1.out
   case measure => exact HMM.out
  ·have hlt' : ¬ (i : Int) < (n : Int) := by omega
   obtain rfl : i = n := by omega
   have FIN : Hid (zEI w g ys r (.returned (.tuple #[])) wr) := ⟨rfl,by have h1 := RW.out;have h2 := zBF YL.out;rw [HL.out] at h2;rw [h2] at h1;exact h1,TT.out⟩
   clear RW P1 TT HG;go_wp2;go_end0;exact FIN.out
theorem zeC {w : World} {p c : Nat} {a a1 a2 : Option Addr} {l k l1 k1 l2 k2 : Nat} :
  Calls Tryz.prog 27 #[shv p c (.slice a l k),.slice a1 l1 k1,.int .u64 0,.slice a2 l2 k2] w fun e w' => e = .returned (.tuple #[]) ∧ Below w.heap.size w w' := by
 obtain ⟨W0,hW⟩ : ∃ W0,w.alloc (shO p c (.slice a l k)) = W0 := ⟨_,rfl⟩
 obtain ⟨b0,sz0⟩ := zVA w (shO p c (.slice a l k));rw [hW] at b0 sz0;have G0 := hid b0;have EW := hid hW;clear b0 sz0 hW;go_enter Tryz.func27,Tryz.ntmps27;go_wp2
 ((try simp only [Exit.inBlock,Exit.then]);refine bodyPost_ret (results_none rfl _ _ _) rfl ?_)
 exact ⟨rfl,by rw [EW.out];exact G0.out⟩
theorem zfC {w : World} {p c n cap cap2 g g2 : Nat} {a : Option Addr} {l k : Nat} {t : Int} {xs os : List Int} {r r2 : List Value} (hp : 2 ≤ p) (hp2 : p < 2147483648) (ht : IsR p t) (ht0 : t ≠ 0) (hx : Res p xs) (ho : Res p os) (hl : xs.length = n) (hol : os.length = n) (hn : n ≤ 1048576) (hcap : n ≤ cap) (hcap2 : n ≤ cap2) (hg : Row w g (ws xs ++ r)) (hg2 : Row w g2 (ws os ++ r2)) (hne : g2 ≠ g) :
  Calls Tryz.prog 27 #[shv p c (.slice a l k),.slice (some ⟨g,0,none⟩) n cap,.int .u64 t,.slice (some ⟨g2,0,none⟩) n cap2] w (zEI w g (tkL p t xs os) r) := by
 obtain ⟨W0,hW⟩ : ∃ W0,w.alloc (shO p c (.slice a l k)) = W0 := ⟨_,rfl⟩
 obtain ⟨b0,sz0⟩ := zVA w (shO p c (.slice a l k));rw [hW] at b0 sz0;have P1 : Hid (Cel W0 w.heap.size 54 (shc p c (.slice a l k))) := by unfold Hid;rw [← hW];exact Cel.new w _ _
 have x0 := P1.out.at (i := 0) rfl;rw [← hW] at x0;obtain ⟨ys,hys⟩ : ∃ ys,tkL p t xs os = ys := ⟨_,rfl⟩
 have hyl : ys.length = xs.length := by rw [← hys,zuD _ _ (by omega)]
 rw [hys];obtain ⟨v,hv⟩ : ∃ v,(p : Int) - t = v := ⟨_,rfl⟩
 have iv : Hid (IsR p v) := by
  unfold Hid IsR;unfold IsR at ht;omega
 have HY : Hid (∀ i (h : i < xs.length) (h' : i < ys.length) (h'' : i < os.length),ys[i] = (xs[i] + v * os[i]) % (p : Int)) := fun i h h' h'' => by
  subst hys;simp only [tkL,if_neg ht0,List.getElem_zipWith,hv]
 have G0 := hid (zoA.ofBelow (S := (· = g)) b0);have ROW := hid (hg.stay b0);have ROW2 := hid hg2;have HX := hid hx;have HO := hid ho;have YL := hid hyl;have HL := hid hl;have HOL := hid hol;have EW := hid hW;have BW := hid b0;have hp0 : ¬ (p : Int) = 0 := by omega
 have htb : (t == 0) = false := by simpa using ht0
 have wv : IntKind.u64.wrap ((p : Int) - t) = v := by unfold IsR at ht;rw [zPF,hv] <;> omega
 have H0 : Hid (LinH w w.heap.size p c (.slice a l k) g n ys xs r n (.int .i64 0) W0) := ⟨0,rfl,Nat.zero_le _,rfl,by rw [zhD];exact ROW.out,P1.out,G0.out⟩
 have HNE : Hid (¬ g2 = g) := hne;clear b0 sz0 hW hg hg2 hx ho hyl hl hol hys hv ht ht0 hne P1;go_enter Tryz.func27,Tryz.ntmps27;go_wp2;rw [EW.out];clear x0 G0 ROW EW BW;generalize w.heap.size = sb at *
 go_loopg [19] n (fun gk s19 wx => LinH w sb p c (.slice a l k) g n ys xs r gk s19 wx)
 case atStart => exact H0.out
 case round =>
  clear H0;obtain ⟨i,rfl,hin,hgk,hrow,hcel,hT⟩ := hrel;have RW := hid hrow;have P1 := hid hcel;have TT := hid hT;have HG := hid hgk;clear hrow hcel hT hgk
  by_cases hlt : i < n
  ·have hlt' : (i : Int) < (n : Int) := by omega
   have hix : i < xs.length := by rw [HL.out];exact hlt
   have hio : i < os.length := by rw [HOL.out];exact hlt
   have hm := zRB (ys := ys) (xs := xs) i;have k1 := RW.out.at12 (i := i) (by rw [hm];exact hix);rw [zQI hix] at k1;have k2 := (TT.out.row ROW2.out HNE.out).at12 (i := i) hio;have f1 := RW.out.frozen i;have x0 := P1.out.at (i := 0) rfl;have ix := HX.out.at hix;have io := HO.out.at hio;have w1 := zXE hp2 iv.out io;have nn := zzC hp2 iv.out io;have HYI := HY.out i hix (by rw [YL.out];exact hix) hio;have HN1 : Hid (LinH w sb p c (.slice a l k) g n ys xs r (n - (i + 1)) (.int .i64 ((i + 1 : Nat) : Int)) (wr.setCell ⟨g,i,none⟩ (.int .u64 (ys[i]'(by rw [YL.out];exact hix))))) :=
    ⟨i + 1,rfl,by omega,rfl,by rw [← zAF YL.out hix];exact RW.out.put12 (by rw [hm];exact hix) _,ztH P1.out RW.out (by decide),TT.out.setCell (.inr rfl) _ _⟩
   rw [HYI] at HN1;generalize xs[i] = z at *;generalize os[i] = y at *;obtain ⟨q,hq⟩ : ∃ q,v * y = q := ⟨_,rfl⟩
   have w1' : IntKind.u64.wrap (v * y) = q := by rw [w1,hq]
   rw [hq] at nn HN1;obtain ⟨s,hs⟩ : ∃ s,z + q = s := ⟨_,rfl⟩
   have w2 : IntKind.u64.wrap (z + q) = s := by unfold IsR at ix;rw [zPF,hs] <;> omega
   rw [hs] at HN1;have t1 : s.tmod (p : Int) = s % (p : Int) := zMH (by unfold IsR at ix;omega);generalize s % (p : Int) = m at *;have hw := znD hlt hn;have HMM : Hid (n - (i + 1) < gk) := by unfold Hid;rw [HG.out];omega
   clear w1 hq hs nn HYI ix io hm hix hio RW P1 TT HG;go_wp2_with fail;go_region;go_wp2_with fail;go_roundg (n - (i + 1))
   case rel => exact HN1.out.drew
   case measure => exact HMM.out
  ·have hlt' : ¬ (i : Int) < (n : Int) := by omega
   obtain rfl : i = n := by omega
   have FIN : Hid (zEI w g ys r (.returned (.tuple #[])) wr) := ⟨rfl,by have h1 := RW.out;have h2 := zBF YL.out;rw [HL.out] at h2;rw [h2] at h1;exact h1,TT.out⟩
   clear RW P1 TT HG;go_wp2;go_end0;exact FIN.out
theorem Duo.drew {w : World} {b : Nat} {x y : Value} (h : Duo w b x y) : Duo w.drew b x y := h
theorem zFF {E : Int} {w W : World} {q r : Int} {k l : Nat} {e : Ending} (h : zyA E w q r k l e W) : zyA E w q r k l e W.drew := by
 obtain ⟨rq,rr,h1,h2,h3,h4⟩ := h;exact ⟨rq,rr,h1,h2.now (Below.refl _ _).drew,h3.now (Below.refl _ _).drew,h4.drew⟩
end Go.Proofs.YtkklldokdnfkgaaGreat
