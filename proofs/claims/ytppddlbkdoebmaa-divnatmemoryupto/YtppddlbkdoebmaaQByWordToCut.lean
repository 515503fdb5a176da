/-
 QByWordToCut: ByWord, Cut, joined.
-/
import Derived.Test.YtppddlbkdoebmaaQRight3ToTrim

set_option maxRecDepth 100000
set_option maxHeartbeats 6400000
set_option linter.unusedVariables false
set_option linter.unusedSimpArgs false
namespace Go.Proofs.Ytppddlbkdoebmaa
open Go.RowKit
theorem zrC {zs : List Int} {n j : Nat} (h : zs.drop n = List.replicate (j + 1) 0) : ∃ hn : n < zs.length,zs[n] = 0 := by
 have hl := congrArg List.length h;simp only [List.length_drop,List.length_replicate] at hl;refine ⟨by omega,?_⟩;have e : zs.drop n = zs[n]'(by omega) :: zs.drop (n + 1) := List.drop_eq_getElem_cons (by omega);rw [e,List.replicate_succ] at h;exact (List.cons.inj h).1
theorem zeros_tail {zs : List Int} {n j : Nat} (h : zs.drop n = List.replicate (j + 1) 0) : zs.drop (n + 1) = List.replicate j 0 := by
 rw [show n + 1 = 1 + n by omega,Nat.add_comm 1 n,← List.drop_drop,h,List.replicate_succ]
 rfl
theorem trim_mine {B w' : _} {g : Nat} {zs : List Int} (hB : B ≤ g) (hw : WF zs) (hl : zs.length ≤ 35184372088832) (hr : Row w' g (ws zs)) : Mine B w' (.slice (some ⟨g,0,none⟩) (wid zs) (wid zs)) (lst zs) := by
 have := zIA zs;refine ⟨(canon_lst hw).1,.inr ⟨g,ws (zs.drop (wid zs)),wid zs,hB,by rw [length_lst];omega,by rw [length_lst];exact Nat.le_refl _,by rw [length_lst];omega,by rw [length_lst],?_⟩⟩;have e : ws (lst zs) ++ ws (zs.drop (wid zs)) = ws zs := by
  unfold lst ws;rw [← List.map_append,List.take_append_drop]
 rw [e];exact hr
def zMB (w : World) (s : Int) (e : Ending) (w' : World) : Prop :=
 ∃ zs r,e = .returned r ∧ Mine w.heap.size w' r zs ∧ zFA zs ∧ val zs = s ∧ Below w.heap.size w w'
theorem byWord_any {w : World} {v u : Value} {xs ys : List Int} (h : Sl w.heap.size w v xs) (h' : Sl w.heap.size w u ys) (hl : xs.length + ys.length ≤ 35184372088832) :
  Calls Try.prog 87 #[v,u] w (zMB w (val xs * val ys)) := by
 have HS := hid h;have hwx := h.1;obtain ⟨_,a,capx,rfl,hlc,hcm,_⟩ := h;obtain ⟨hwy,b,capy,rfl,hlc',hcm',hm'⟩ := h';have HM' := hid hm';have HTL : Hid (ys.take ys.length = ys) := by unfold Hid;simp
 have HV0 : Hid (∀ k,val (List.replicate k 0) = val xs * val (ys.take 0)) := fun k => by rw [zBC];simp [val]
 obtain ⟨n,hn⟩ : ∃ n,n = xs.length := ⟨_,rfl⟩
 obtain ⟨m,hm⟩ : ∃ m,m = ys.length := ⟨_,rfl⟩
 rw [← hn] at HS hl hlc;rw [← hm] at hl hlc' HTL;rw [← hn,← hm];have HN := hid hn;have HMM := hid hm;clear hn hm hm';go_enter Try.func87,Try.ntmps87;go_wp2_with (at_make;refine wpList_make_words _ rfl _ _ rfl _ _ (n + m) (n + m) rfl rfl (by omega) (by omega) (Nat.le_refl _) (by omega) ?_)
 intro w2 hrow hb2 hsz2;have hhs : w.heap.size < w2.heap.size := by have := hsz2.out;omega
 go_wp2_with fail
 go_loopw [16] (fun i wr => ∃ (k : Nat) (zs : List Int),k ≤ m ∧ i = .int .i64 k ∧ Hid (zs.length = n + m) ∧ WF zs ∧ Hid (val zs = val xs * val (ys.take k)) ∧ Hid (zs.drop (k + n) = List.replicate (m - k) 0) ∧ Row wr w.heap.size (ws zs) ∧ Below w.heap.size w wr) (fun i _ => m - (intOf i).toNat)
 case atStart => exact ⟨0,List.replicate (n + m) 0,Nat.zero_le _,rfl,(by unfold Hid;simp),zOC _,HV0.out _,(by unfold Hid;simp),hrow,hb2⟩
 case round =>
  clear hrow hb2 hsz2 hhs;obtain ⟨k,zs,hk,rfl,HL,hwz,HV,HD,hr,hb⟩ := hrel
  by_cases hlt : k < m
  ·have hk2 : k < ys.length := by have := HMM.out;omega
   obtain ⟨j,hj⟩ : ∃ j,m - k = j + 1 := ⟨m - k - 1,by omega⟩
   have HD2 := hid HD.out;rw [hj] at HD2;have hk1 := (zrC HD2.out).1;rcases HM'.out with e | ⟨bb,off,rfl,hbg,hcy⟩
   ·subst e;simp at hk2
   have c2 : wr.cell? ⟨bb,off + k,none⟩ = some (.int .u64 ys[k]) := (hb.cell (p := ⟨bb,off + k,none⟩) hbg).trans (hcy k hk2);have HA := hid (zHD (o := k) (len := n + m - k) (cap := n + m - k) (r := []) hwz (by simpa using hr) (by rw [HL.out];omega) (HS.out.below hb (Nat.le_refl _)) (hwy.get hk2) (by rw [← HN.out,HL.out];omega) (by rw [← HN.out];omega));rw [← HN.out] at HA;have HY : Hid (∃ y,y = ys[k]) := ⟨_,rfl⟩
   have HW2 := hid (hwy.get hk2);have HST : Hid (∀ zs' c,val zs' + pw (k + n) * c = val zs + pw k * (val xs * ys[k]) → ∀ hz : k + n < zs'.length,zs'[k + n] = 0 → val (zs'.set (k + n) c) = val xs * val (ys.take (k + 1))) := fun zs' c h1 hz h2 => rows_step hk2 rfl HV.out h1 hz h2
   generalize ys[k] = y at *;clear hcy;go_wp2_with fail;refine HA.out.mono ?_;rintro e w3 ⟨zs',c,rfl,hzl,hwz',hc,hv,hd,hr3,hb3⟩;have D3 := hd.trans HD2.out;obtain ⟨hk3,hz3⟩ := zrC D3;have hr4 : Row w3 w.heap.size (ws zs' ++ []) := hr3;have c3 : w3.cell? ⟨w.heap.size,k + n,none⟩ = some (.int .u64 zs'[k + n]) := hr4.word hk3;have cf : w3.frozen? ⟨w.heap.size,k + n,none⟩ = false := hr4.frozen _;have HV4 := hid (HST.out zs' c hv hk3 hz3);have HR4 := hid (hr4.setWord hk3 c);have HB4 := hid ((hb.trans hb3).setCell (p := ⟨w.heap.size,k + n,none⟩) (Nat.le_refl _) (.int .u64 c));have HW4 := hid (hwz'.set (k + n) hc);have HL4 : Hid ((zs'.set (k + n) c).length = n + m) := by unfold Hid;rw [List.length_set,hzl];exact HL.out
   have HD4 : Hid ((zs'.set (k + n) c).drop (k + 1 + n) = List.replicate (m - (k + 1)) 0) := by
    unfold Hid;rw [show k + 1 + n = k + n + 1 by omega,zoD _ (by omega),zeros_tail D3]
    congr 1
    omega
   generalize zs'[k + n] = z at *;generalize zs'.set (k + n) c = zs'' at *;clear hd D3 hr4 hr3 hb3 hv hzl hwz' HST HA hr hb HV HD HD2 hwz HL;go_wp2;go_roundw
   case rel => exact ⟨k + 1,zs'',by omega,by go_num,HL4,HW4.out,HV4,HD4,(by simpa using HR4.out),HB4.out⟩
   case measure => simp [intOf];omega
  ·obtain rfl : k = m := by omega
   rw [HTL.out] at HV;go_wp2_with fail;have hsl := Row.sl (r := []) (by simpa using hr) hwz (cap := n + k) (by rw [HL.out];exact Nat.le_refl _) (by omega) hr.lt;rw [HL.out] at hsl;refine (zTB hsl).mono ?_;rintro e w3 ⟨rfl,rfl⟩;go_wp2;go_ret;exact ⟨lst zs,_,rfl,trim_mine (Nat.le_refl _) hwz (by rw [HL.out];omega) hr,canon_lst hwz,by rw [val_lst];exact HV.out,hb⟩
theorem Sl.taken {B : Nat} {w : World} {a : Option Addr} {len cap : Nat} {xs : List Int} (h : Sl B w (.slice a len cap) xs) {n : Nat} (hn : n ≤ xs.length) : Sl B w (.slice a n n) (xs.take n) := by
 obtain ⟨hw,a',cap',he,hlc,hcm,hm⟩ := h;simp only [Value.slice.injEq] at he;obtain ⟨rfl,rfl,rfl⟩ := he;have e : (xs.take n).length = n := by simp;omega
 exact ⟨hw.take n,a,n,by rw [e],by omega,by omega,Sl.source hm⟩
theorem Sl.dropped {B : Nat} {w : World} {b off : Nat} {len cap : Nat} {xs : List Int} (h : Sl B w (.slice (some ⟨b,off,none⟩) len cap) xs) {n : Nat} (hn : n ≤ xs.length) : Sl B w (.slice (some ⟨b,off + n,none⟩) (len - n) (len - n)) (xs.drop n) := by
 obtain ⟨hw,a',cap',he,hlc,hcm,hm⟩ := h;simp only [Value.slice.injEq] at he;obtain ⟨rfl,rfl,rfl⟩ := he;have e : (xs.drop n).length = xs.length - n := by simp
 refine ⟨hw.rest n,_,_,by rw [e],by omega,by omega,?_⟩;rcases hm with rfl | ⟨b',off',h1,h2,h3⟩
 ·exact .inl (by simp)
 ·simp only [Option.some.injEq,Addr.mk.injEq,and_true] at h1
  obtain ⟨rfl,rfl⟩ := h1;refine .inr ⟨b,off + n,rfl,h2,fun j hj => ?_⟩;rw [e] at hj;rw [Nat.add_assoc,h3 (n + j) (by omega)]
  simp
theorem Sl.none {B : Nat} {w : World} (a : Option Addr) (xs : List Int) (h : xs = []) : Sl B w (.slice a 0 0) xs := by
 subst h;exact ⟨WF.nil,a,0,rfl,Nat.le_refl _,Nat.zero_le _,.inl rfl⟩
def Splits (w : World) (xs : List Int) (n : Nat) (e : Ending) (w' : World) : Prop :=
 ∃ l r,e = .returned (.tuple #[l,r]) ∧ Sl w'.heap.size w' l (xs.take n) ∧ Sl w'.heap.size w' r (xs.drop n) ∧ Below w.heap.size w w'
theorem ziB {w : World} {v : Value} {xs : List Int} (h : Sl w.heap.size w v xs) {n : Nat} (hn : n ≤ 35184372088832) :
  Calls Try.prog 94 #[v,.int .i64 (n : Int)] w (Splits w xs n) := by
 have HS := hid h;obtain ⟨hw,a,cap,rfl,hlc,hcm,hm⟩ := h
 by_cases hle : n ≤ xs.length
 ·by_cases hlt : n < xs.length
  ·rcases hm with e | ⟨b,off,rfl,hbg,hcc⟩
   ·subst e;simp at hlt
   have HT := hid (HS.out.taken hle);have HD := hid (HS.out.dropped hle);clear hcc HS;generalize xs.length = L at *;have hmin : min (n : Int) (L : Int) = (n : Int) := by omega
   go_enter Try.func94,Try.ntmps94;go_wp2;go_quiet (fail);go_wp2;go_ret2;exact ⟨_,_,rfl,HT.out.drewN nq,HD.out.drewN nq,below_drewN (Below.refl _ _) nq⟩
  ·have e : n = xs.length := by omega
   have HT := hid (HS.out.taken (Nat.le_refl _));have HX : Hid (xs.take n = xs ∧ xs.drop n = []) := ⟨by rw [e];simp,by rw [e];simp⟩
   clear hm HS;generalize xs.length = L at *;subst e;go_enter Try.func94,Try.ntmps94;go_wp2;go_quiet (fail);go_wp2;go_ret2;exact ⟨_,_,rfl,HT.out.drewN nq,Sl.none _ _ HX.out.2,below_drewN (Below.refl _ _) nq⟩
 ·have HT := hid (HS.out.taken (Nat.le_refl _))
  rw [List.take_length] at HT;have HX : Hid (xs.take n = xs ∧ xs.drop n = []) := ⟨by rw [List.take_of_length_le (by omega)],by rw [List.drop_of_length_le (by omega)]⟩
  clear hm HS;generalize xs.length = L at *;have hmin : min (n : Int) (L : Int) = (L : Int) := by omega
  go_enter Try.func94,Try.ntmps94;go_wp2;go_quiet (fail);go_wp2;go_ret2;refine ⟨_,_,rfl,?_,Sl.none _ _ HX.out.2,below_drewN (Below.refl _ _) nq⟩;rw [HX.out.1];exact HT.out.drewN nq
theorem ws_splice (zs src : List Int) (o : Nat) : splice (ws zs) o (ws src) = ws (splice zs o src) := by
 unfold splice ws
 simp
theorem zpA (w : World) {ops : Array Oper} {rest : List Oper} {o : Oper} {a : Act} {Q : Exit → Act → World → Prop}
  (hgd : o.guard = none) (d s : Operand) (hop : o.op = .call { callee := .builtin .copy,args := #[d,s],argTypes := #[25,25] })
  (g off : Nat) (dp sp : Option Addr) (dLen dCap sLen sCap : Nat) (zs src : List Int) (hrow : Row w g (ws zs)) (hd : a.eval d = .slice dp dLen dCap) (hs : a.eval s = .slice sp sLen sCap)
  (hlen : src.length = sLen) (hle : sLen ≤ dLen) (hdp : 0 < sLen → dp = some ⟨g,off,none⟩) (hfit : off + sLen ≤ zs.length)
  (hsl : src = [] ∨ ∃ b off,sp = some ⟨b,off,none⟩ ∧ b < g ∧ ∀ j (h : j < src.length),w.cell? ⟨b,off + j,none⟩ = some (.int .u64 src[j]))
  (hK : ∀ w',Hid (Row w' g (ws (splice zs off src))) → Below g w w' → wpList Try.prog ops Q rest (a.put o.dst (goInt sLen)) w') :
  wpList Try.prog ops Q (o :: rest) a w := by
 have hmin : Nat.min sLen dLen = sLen := Nat.min_eq_left hle;refine wpList_copy_splice hgd d s 25 25 hop 26 Try.underlying25 Try.sizeW _ _ dLen dCap sLen sCap hd hs g off (ws zs) 26 hrow (ws src) (by rw [zGA,hlen,hmin]) ?_ (by rw [zGA,zGA,hlen];exact hfit) ?_ g w (Below.refl _ _) (Nat.le_refl _) ?_
 ·intro hpos
  rcases hsl with rfl | ⟨b,so,hsp,_,hc⟩
  ·simp [ws] at hpos
  ·rw [zGA,hlen] at hpos
   refine ⟨hdp hpos,_,hsp,fun j v hj => ?_⟩;have hj' : j < src.length := by
    have := (List.getElem?_eq_some_iff.1 hj).1
    simpa [zGA] using this
   have : (ws src)[j]? = some (.int .u64 src[j]) := by simp [ws,hj']
   rw [this] at hj;rw [← hj];have e : (⟨b,so,none⟩ : Addr).add j = ⟨b,so + j,none⟩ := by unfold Addr.add;split <;> simp_all
   rw [e];exact hc j hj'
 ·intro v hv
  simp only [ws,List.mem_map] at hv;obtain ⟨x,_,rfl⟩ := hv
  rfl
 ·intro w' h1 h2
  have := hK w' (by unfold Hid Row;rw [← ws_splice];exact h1.out) h2
  simpa [zGA,hlen] using this
theorem zHE (N : Nat) (xs : List Int) : splice (List.replicate N 0) 0 xs = xs ++ List.replicate (N - xs.length) 0 := by
 simp [splice]
theorem splice_high (n m : Nat) (xs ys : List Int) (hx : xs.length ≤ n) (hy : ys.length = m) : splice (xs ++ List.replicate (n + m - xs.length) 0) n ys = xs ++ List.replicate (n - xs.length) 0 ++ ys := by
 subst hy;unfold splice;rw [List.take_append,List.drop_append,List.take_of_length_le hx,List.drop_of_length_le (by omega)]
 simp
 omega
theorem zcE {w : World} {v u : Value} {xs ys : List Int} (h : Sl w.heap.size w v xs) (h' : Sl w.heap.size w u ys) {n : Nat} (hx : xs.length ≤ n) (hl : n + ys.length ≤ 35184372088832) :
  Calls Try.prog 95 #[v,u,.int .i64 (n : Int)] w fun e w' => e = .returned (.slice (some ⟨w.heap.size,0,none⟩) (n + ys.length) (n + ys.length)) ∧ Row w' w.heap.size (ws (xs ++ List.replicate (n - xs.length) 0 ++ ys)) ∧ Below w.heap.size w w' := by
 obtain ⟨hwx,a,capx,rfl,hlc,hcm,hm⟩ := h;obtain ⟨hwy,b,capy,rfl,hlc',hcm',hm'⟩ := h';have HM := hid hm;have HM' := hid hm';have H1 : Hid (splice (List.replicate (n + ys.length) 0) 0 xs = xs ++ List.replicate (n + ys.length - xs.length) 0) := zHE _ _;have H2 : Hid (splice (xs ++ List.replicate (n + ys.length - xs.length) 0) n ys = xs ++ List.replicate (n - xs.length) 0 ++ ys) := splice_high n _ xs ys hx rfl;have H3 : Hid ((xs ++ List.replicate (n + ys.length - xs.length) 0).length = n + ys.length) := by unfold Hid;simp;omega
 generalize xs ++ List.replicate (n + ys.length - xs.length) 0 = S1 at *;generalize xs ++ List.replicate (n - xs.length) 0 ++ ys = S2 at *;obtain ⟨k,hk⟩ : ∃ k,k = xs.length := ⟨_,rfl⟩
 obtain ⟨m,hmm⟩ : ∃ m,m = ys.length := ⟨_,rfl⟩
 rw [← hk] at hx hlc;rw [← hmm] at hl hlc' H1 H3;rw [← hk,← hmm];have HK := hid hk;have HMM := hid hmm;clear hm hm' hk hmm hwx hwy
 by_cases h0 : m = 0
 ·subst h0
  rw [Nat.add_zero] at H1 H3;simp only [Nat.add_zero];go_enter Try.func95,Try.ntmps95;go_wp2_with (at_make;refine wpList_make_words _ rfl _ _ rfl _ _ (n) (n) rfl rfl (by omega) (by omega) (Nat.le_refl _) (by omega) ?_)
  intro w2 hrow hb2 hsz2;have hs1 := hid (Sl.sourceB HM.out hb2 (Nat.le_refl _));have HR2 := hid hrow;have HB2 := hid hb2;clear hrow hsz2 hb2;go_wp2_with (refine zpA _ rfl (.tmp 13) (.tmp 14) rfl w.heap.size 0 _ _ _ _ _ _ _ xs HR2.out rfl rfl HK.out.symm (by omega) (fun _ => rfl) (by simp;omega) hs1.out ?_)
  intro w3 HR3 hb3;have HB3 := hid (HB2.out.trans hb3);clear hb3 HR2 HB2 hs1;rw [H1.out] at HR3;have hs2 := hid (Sl.sourceB HM'.out HB3.out (Nat.le_refl _));go_wp2_with (refine zpA _ rfl (.tmp 18) (.tmp 19) rfl w.heap.size n _ _ _ _ _ _ _ ys HR3.out rfl rfl HMM.out.symm (by omega) (fun _ => by omega) (by rw [H3.out];omega) hs2.out ?_)
  intro w4 HR4 hb4;have HB4 := hid (HB3.out.trans hb4);clear hb4 HR3 HB3 hs2;rw [H2.out] at HR4;go_wp2;go_ret;exact ⟨rfl,HR4.out,HB4.out⟩
 ·have hpos : n < n + m := by omega
  clear h0;go_enter Try.func95,Try.ntmps95;go_wp2_with (at_make;refine wpList_make_words _ rfl _ _ rfl _ _ (n + m) (n + m) rfl rfl (by omega) (by omega) (Nat.le_refl _) (by omega) ?_)
  intro w2 hrow hb2 hsz2;have hs1 := hid (Sl.sourceB HM.out hb2 (Nat.le_refl _));have HR2 := hid hrow;have HB2 := hid hb2;clear hrow hsz2 hb2;go_wp2_with (refine zpA _ rfl (.tmp 13) (.tmp 14) rfl w.heap.size 0 _ _ _ _ _ _ _ xs HR2.out rfl rfl HK.out.symm (by omega) (fun _ => rfl) (by simp;omega) hs1.out ?_)
  intro w3 HR3 hb3;have HB3 := hid (HB2.out.trans hb3);clear hb3 HR2 HB2 hs1;rw [H1.out] at HR3;have hs2 := hid (Sl.sourceB HM'.out HB3.out (Nat.le_refl _));go_wp2_with (refine zpA _ rfl (.tmp 18) (.tmp 19) rfl w.heap.size n _ _ _ _ _ _ _ ys HR3.out rfl rfl HMM.out.symm (by omega) (fun _ => rfl) (by rw [H3.out];omega) hs2.out ?_)
  intro w4 HR4 hb4;have HB4 := hid (HB3.out.trans hb4);clear hb4 HR3 HB3 hs2;rw [H2.out] at HR4;go_wp2;go_ret;exact ⟨rfl,HR4.out,HB4.out⟩
end Go.Proofs.Ytppddlbkdoebmaa
