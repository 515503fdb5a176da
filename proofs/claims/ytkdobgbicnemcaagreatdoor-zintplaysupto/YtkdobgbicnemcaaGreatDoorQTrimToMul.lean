/-
 QTrimToMul: Trim, ByWord, Cut, Mul, joined.
-/
import Derived.Test.YtkdobgbicnemcaaGreatDoorQByteRowToLen2
import Derived.Test.YtkdobgbicnemcaaGreatDoorQMadeToAdd
import Derived.Test.YtkdobgbicnemcaaGreatDoorQLitsToTouch

set_option maxRecDepth 100000
set_option maxHeartbeats 6400000
set_option linter.unusedVariables false
set_option linter.unusedSimpArgs false
namespace Go.Proofs.YtkdobgbicnemcaaGreatDoor
open Go.RowKit
theorem wid_of_len {xs : List Int} (hw : WF xs) : ∃ b : Nat,bitLen (vn xs) = b ∧ (b + 63) / 64 = wid xs ∧ b ≤ 64 * xs.length := by
 refine ⟨_,rfl,?_⟩
 by_cases h0 : wid xs = 0
 ·rw [zzC hw h0,h0]
  exact ⟨rfl,by rw [show bitLen 0 = 0 from rfl];omega⟩
 ·obtain ⟨n,hn⟩ : ∃ n,wid xs = n + 1 := ⟨wid xs - 1,by omega⟩
  obtain ⟨hl,hne⟩ := zeD hn;have h1 := zxD hw hn hl;have h2 := zjC (toNat_lt (hw.get hl));have h3 : 0 < bitLen xs[n].toNat := by
   unfold bitLen
   split
   ·rename_i e
    have := (hw.get hl).1;omega
   ·omega
  rw [h1,hn];exact ⟨by omega,by omega⟩
def Mine (B : Nat) (w : World) (v : Value) (zs : List Int) : Prop :=
 WF zs ∧ ((v = .slice none 0 0 ∧ zs = []) ∨ ∃ g r cap,B ≤ g ∧ zs.length ≤ 35184372088832 ∧ zs.length ≤ cap ∧ (cap = zs.length ∨ (cap = zs.length + r.length ∧ cap ≤ maxLen)) ∧ v = .slice (some ⟨g,0,none⟩) zs.length cap ∧ Row w g (ws zs ++ r))
theorem Mine.form {B : Nat} {w : World} {v : Value} {zs : List Int} (h : Mine B w v zs) : ∃ a cap,v = .slice a zs.length cap := by
 obtain ⟨_,⟨h1,h2⟩ | ⟨g,r,cap,_,_,_,_,h1,_⟩⟩ := h
 ·subst h2;exact ⟨none,0,h1⟩
 ·exact ⟨_,_,h1⟩
theorem Mine.sl {B : Nat} {w : World} {v : Value} {zs : List Int} (h : Mine B w v zs) : Sl w.heap.size w v zs := by
 obtain ⟨hw,⟨h1,h2⟩ | ⟨g,r,cap,h1,h2,h3,h4,h5,h6⟩⟩ := h
 ·subst h1 h2;exact Sl.nilAt w
 ·subst h5
  exact ⟨hw,_,cap,rfl,h3,h2,.inr ⟨g,0,rfl,h6.lt,fun j hj => by rw [Nat.zero_add];exact h6.word hj⟩⟩
theorem Mine.nil (B : Nat) (w : World) : Mine B w (.slice none 0 0) [] := ⟨WF.nil,.inl ⟨rfl,rfl⟩⟩
theorem Mine.mono {B B' : Nat} {w : World} {v : Value} {zs : List Int} (h : Mine B w v zs) (hB : B' ≤ B) : Mine B' w v zs := by
 obtain ⟨hw,h | ⟨g,r,cap,h1,h2⟩⟩ := h
 ·exact ⟨hw,.inl h⟩
 ·exact ⟨hw,.inr ⟨g,r,cap,by omega,h2⟩⟩
theorem Mine.below {B : Nat} {w w' : World} {v : Value} {zs : List Int} (h : Mine B w v zs) (hb : Below w.heap.size w w') : Mine B w' v zs := by
 obtain ⟨hw,h | ⟨g,r,cap,h1,h2,h3,h4,h5,h6⟩⟩ := h
 ·exact ⟨hw,.inl h⟩
 ·exact ⟨hw,.inr ⟨g,r,cap,h1,h2,h3,h4,h5,h6.below hb h6.lt⟩⟩
theorem zAD {B : Nat} {w : World} {a : Option Addr} {len cap : Nat} {xs : List Int} (h : Sl B w (.slice a len cap) xs) :
  Calls Tryz.prog 92 #[.slice a len cap] w fun e w' => e = .returned (.slice a (wid xs) (wid xs)) ∧ w' = w := by
 have HB := zhF h;obtain ⟨b,hb1,hb2,hb3⟩ := wid_of_len h.1;rw [hb1] at HB;have l1 := zRA xs;obtain ⟨hw,a',cap',he,hlc,hcm,hm⟩ := h;simp only [Value.slice.injEq] at he;obtain ⟨rfl,rfl,rfl⟩ := he;clear hm hw hb1;generalize wid xs = n at *;generalize xs.length = L at *;go_enter Tryz.func92,Tryz.ntmps92;go_wp2_with fail;refine HB.mono ?_;rintro e w1 ⟨rfl,rfl⟩;clear HB;go_wp2;go_ret;exact ⟨by rw [show (b + 64 - 1) / 64 = n by omega];rfl,rfl⟩
theorem zGF {zs : List Int} {n j : Nat} (h : zs.drop n = List.replicate (j + 1) 0) : ∃ hn : n < zs.length,zs[n] = 0 := by
 have hl := congrArg List.length h;simp only [List.length_drop,List.length_replicate] at hl;refine ⟨by omega,?_⟩;have e : zs.drop n = zs[n]'(by omega) :: zs.drop (n + 1) := List.drop_eq_getElem_cons (by omega);rw [e,List.replicate_succ] at h;exact (List.cons.inj h).1
theorem zeros_tail {zs : List Int} {n j : Nat} (h : zs.drop n = List.replicate (j + 1) 0) : zs.drop (n + 1) = List.replicate j 0 := by
 rw [show n + 1 = 1 + n by omega,Nat.add_comm 1 n,← List.drop_drop,h,List.replicate_succ]
 rfl
theorem trim_mine {B w' : _} {g : Nat} {zs : List Int} (hB : B ≤ g) (hw : WF zs) (hl : zs.length ≤ 35184372088832) (hr : Row w' g (ws zs)) : Mine B w' (.slice (some ⟨g,0,none⟩) (wid zs) (wid zs)) (lst zs) := by
 have := zRA zs;refine ⟨(canon_lst hw).1,.inr ⟨g,ws (zs.drop (wid zs)),wid zs,hB,by rw [length_lst];omega,by rw [length_lst];exact Nat.le_refl _,by rw [length_lst];omega,by rw [length_lst],?_⟩⟩;have e : ws (lst zs) ++ ws (zs.drop (wid zs)) = ws zs := by
  unfold lst ws;rw [← List.map_append,List.take_append_drop]
 rw [e];exact hr
def zQB (w : World) (s : Int) (e : Ending) (w' : World) : Prop :=
 ∃ zs r,e = .returned r ∧ Mine w.heap.size w' r zs ∧ zHA zs ∧ val zs = s ∧ Below w.heap.size w w'
theorem byWord_any {w : World} {v u : Value} {xs ys : List Int} (h : Sl w.heap.size w v xs) (h' : Sl w.heap.size w u ys) (hl : xs.length + ys.length ≤ 35184372088832) :
  Calls Tryz.prog 93 #[v,u] w (zQB w (val xs * val ys)) := by
 have HS := hid h;have hwx := h.1;obtain ⟨_,a,capx,rfl,hlc,hcm,_⟩ := h;obtain ⟨hwy,b,capy,rfl,hlc',hcm',hm'⟩ := h';have HM' := hid hm';have HTL : Hid (ys.take ys.length = ys) := by unfold Hid;simp
 have HV0 : Hid (∀ k,val (List.replicate k 0) = val xs * val (ys.take 0)) := fun k => by rw [zRE];simp [val]
 obtain ⟨n,hn⟩ : ∃ n,n = xs.length := ⟨_,rfl⟩
 obtain ⟨m,hm⟩ : ∃ m,m = ys.length := ⟨_,rfl⟩
 rw [← hn] at HS hl hlc;rw [← hm] at hl hlc' HTL;rw [← hn,← hm];have HN := hid hn;have HMM := hid hm;clear hn hm hm';go_enter Tryz.func93,Tryz.ntmps93;go_wp2_with (at_make;refine wpList_make_words _ rfl _ _ rfl _ _ (n + m) (n + m) rfl rfl (by omega) (by omega) (Nat.le_refl _) (by omega) ?_)
 intro w2 hrow hb2 hsz2;have hhs : w.heap.size < w2.heap.size := by have := hsz2.out;omega
 go_wp2_with fail
 go_loopw [16] (fun i wr => ∃ (k : Nat) (zs : List Int),k ≤ m ∧ i = .int .i64 k ∧ Hid (zs.length = n + m) ∧ WF zs ∧ Hid (val zs = val xs * val (ys.take k)) ∧ Hid (zs.drop (k + n) = List.replicate (m - k) 0) ∧ Row wr w.heap.size (ws zs) ∧ Below w.heap.size w wr) (fun i _ => m - (intOf i).toNat)
 case atStart => exact ⟨0,List.replicate (n + m) 0,Nat.zero_le _,rfl,(by unfold Hid;simp),zjF _,HV0.out _,(by unfold Hid;simp),hrow,hb2⟩
 case round =>
  clear hrow hb2 hsz2 hhs;obtain ⟨k,zs,hk,rfl,HL,hwz,HV,HD,hr,hb⟩ := hrel
  by_cases hlt : k < m
  ·have hk2 : k < ys.length := by have := HMM.out;omega
   obtain ⟨j,hj⟩ : ∃ j,m - k = j + 1 := ⟨m - k - 1,by omega⟩
   have HD2 := hid HD.out;rw [hj] at HD2;have hk1 := (zGF HD2.out).1;rcases HM'.out with e | ⟨bb,off,rfl,hbg,hcy⟩
   ·subst e;simp at hk2
   have c2 : wr.cell? ⟨bb,off + k,none⟩ = some (.int .u64 ys[k]) := (hb.cell (p := ⟨bb,off + k,none⟩) hbg).trans (hcy k hk2);have HA := hid (addTimes_any (o := k) (len := n + m - k) (cap := n + m - k) (r := []) hwz (by simpa using hr) (by rw [HL.out];omega) (HS.out.below hb (Nat.le_refl _)) (hwy.get hk2) (by rw [← HN.out,HL.out];omega) (by rw [← HN.out];omega));rw [← HN.out] at HA;have HY : Hid (∃ y,y = ys[k]) := ⟨_,rfl⟩
   have HW2 := hid (hwy.get hk2);have HST : Hid (∀ zs' c,val zs' + pw (k + n) * c = val zs + pw k * (val xs * ys[k]) → ∀ hz : k + n < zs'.length,zs'[k + n] = 0 → val (zs'.set (k + n) c) = val xs * val (ys.take (k + 1))) := fun zs' c h1 hz h2 => rows_step hk2 rfl HV.out h1 hz h2
   generalize ys[k] = y at *;clear hcy;go_wp2_with fail;refine HA.out.mono ?_;rintro e w3 ⟨zs',c,rfl,hzl,hwz',hc,hv,hd,hr3,hb3⟩;have D3 := hd.trans HD2.out;obtain ⟨hk3,hz3⟩ := zGF D3;have hr4 : Row w3 w.heap.size (ws zs' ++ []) := hr3;have c3 : w3.cell? ⟨w.heap.size,k + n,none⟩ = some (.int .u64 zs'[k + n]) := hr4.word hk3;have cf : w3.frozen? ⟨w.heap.size,k + n,none⟩ = false := hr4.frozen _;have HV4 := hid (HST.out zs' c hv hk3 hz3);have HR4 := hid (hr4.setWord hk3 c);have HB4 := hid ((hb.trans hb3).setCell (p := ⟨w.heap.size,k + n,none⟩) (Nat.le_refl _) (.int .u64 c));have HW4 := hid (hwz'.set (k + n) hc);have HL4 : Hid ((zs'.set (k + n) c).length = n + m) := by unfold Hid;rw [List.length_set,hzl];exact HL.out
   have HD4 : Hid ((zs'.set (k + n) c).drop (k + 1 + n) = List.replicate (m - (k + 1)) 0) := by
    unfold Hid;rw [show k + 1 + n = k + n + 1 by omega,zrE _ (by omega),zeros_tail D3]
    congr 1
    omega
   generalize zs'[k + n] = z at *;generalize zs'.set (k + n) c = zs'' at *;clear hd D3 hr4 hr3 hb3 hv hzl hwz' HST HA hr hb HV HD HD2 hwz HL;go_wp2;go_roundw
   case rel => exact ⟨k + 1,zs'',by omega,by go_num,HL4,HW4.out,HV4,HD4,(by simpa using HR4.out),HB4.out⟩
   case measure => simp [intOf];omega
  ·obtain rfl : k = m := by omega
   rw [HTL.out] at HV;go_wp2_with fail;have hsl := Row.sl (r := []) (by simpa using hr) hwz (cap := n + k) (by rw [HL.out];exact Nat.le_refl _) (by omega) hr.lt;rw [HL.out] at hsl;refine (zAD hsl).mono ?_;rintro e w3 ⟨rfl,rfl⟩;go_wp2;go_ret;exact ⟨lst zs,_,rfl,trim_mine (Nat.le_refl _) hwz (by rw [HL.out];omega) hr,canon_lst hwz,by rw [val_lst];exact HV.out,hb⟩
theorem Sl.taken {B : Nat} {w : World} {a : Option Addr} {len cap : Nat} {xs : List Int} (h : Sl B w (.slice a len cap) xs) {n : Nat} (hn : n ≤ xs.length) : Sl B w (.slice a n n) (xs.take n) := by
 obtain ⟨hw,a',cap',he,hlc,hcm,hm⟩ := h;simp only [Value.slice.injEq] at he;obtain ⟨rfl,rfl,rfl⟩ := he;have e : (xs.take n).length = n := by simp;omega
 exact ⟨hw.take n,a,n,by rw [e],by omega,by omega,Sl.source hm⟩
theorem Sl.dropped {B : Nat} {w : World} {b off : Nat} {len cap : Nat} {xs : List Int} (h : Sl B w (.slice (some ⟨b,off,none⟩) len cap) xs) {n : Nat} (hn : n ≤ xs.length) : Sl B w (.slice (some ⟨b,off + n,none⟩) (len - n) (len - n)) (xs.drop n) := by
 obtain ⟨hw,a',cap',he,hlc,hcm,hm⟩ := h;simp only [Value.slice.injEq] at he;obtain ⟨rfl,rfl,rfl⟩ := he;have e : (xs.drop n).length = xs.length - n := by simp
 refine ⟨hw.rest n,_,_,by rw [e],by omega,by omega,?_⟩;rcases hm with rfl | ⟨b',off',h1,h2,h3⟩
 ·exact .inl (by simp)
 ·simp only [Option.some.injEq,Addr.mk.injEq,and_true] at h1
  obtain ⟨rfl,rfl⟩ := h1;refine .inr ⟨b,off + n,rfl,h2,fun j hj => ?_⟩;rw [e] at hj;rw [Nat.add_assoc,h3 (n + j) (by omega)]
  simp
theorem Sl.none {B : Nat} {w : World} (a : Option Addr) (xs : List Int) (h : xs = []) : Sl B w (.slice a 0 0) xs := by
 subst h;exact ⟨WF.nil,a,0,rfl,Nat.le_refl _,Nat.zero_le _,.inl rfl⟩
def Splits (w : World) (xs : List Int) (n : Nat) (e : Ending) (w' : World) : Prop :=
 ∃ l r,e = .returned (.tuple #[l,r]) ∧ Sl w'.heap.size w' l (xs.take n) ∧ Sl w'.heap.size w' r (xs.drop n) ∧ Below w.heap.size w w'
theorem zIC {w : World} {v : Value} {xs : List Int} (h : Sl w.heap.size w v xs) {n : Nat} (hn : n ≤ 35184372088832) :
  Calls Tryz.prog 120 #[v,.int .i64 (n : Int)] w (Splits w xs n) := by
 have HS := hid h;obtain ⟨hw,a,cap,rfl,hlc,hcm,hm⟩ := h
 by_cases hle : n ≤ xs.length
 ·by_cases hlt : n < xs.length
  ·rcases hm with e | ⟨b,off,rfl,hbg,hcc⟩
   ·subst e;simp at hlt
   have HT := hid (HS.out.taken hle);have HD := hid (HS.out.dropped hle);clear hcc HS;generalize xs.length = L at *;have hmin : min (n : Int) (L : Int) = (n : Int) := by omega
   go_enter Tryz.func120,Tryz.ntmps120;go_wp2;go_quiet (fail);go_wp2;go_ret2;exact ⟨_,_,rfl,HT.out.drewN nq,HD.out.drewN nq,below_drewN (Below.refl _ _) nq⟩
  ·have e : n = xs.length := by omega
   have HT := hid (HS.out.taken (Nat.le_refl _));have HX : Hid (xs.take n = xs ∧ xs.drop n = []) := ⟨by rw [e];simp,by rw [e];simp⟩
   clear hm HS;generalize xs.length = L at *;subst e;go_enter Tryz.func120,Tryz.ntmps120;go_wp2;go_quiet (fail);go_wp2;go_ret2;exact ⟨_,_,rfl,HT.out.drewN nq,Sl.none _ _ HX.out.2,below_drewN (Below.refl _ _) nq⟩
 ·have HT := hid (HS.out.taken (Nat.le_refl _))
  rw [List.take_length] at HT;have HX : Hid (xs.take n = xs ∧ xs.drop n = []) := ⟨by rw [List.take_of_length_le (by omega)],by rw [List.drop_of_length_le (by omega)]⟩
  clear hm HS;generalize xs.length = L at *;have hmin : min (n : Int) (L : Int) = (L : Int) := by omega
  go_enter Tryz.func120,Tryz.ntmps120;go_wp2;go_quiet (fail);go_wp2;go_ret2;refine ⟨_,_,rfl,?_,Sl.none _ _ HX.out.2,below_drewN (Below.refl _ _) nq⟩;rw [HX.out.1];exact HT.out.drewN nq
theorem ws_splice (zs src : List Int) (o : Nat) : splice (ws zs) o (ws src) = ws (splice zs o src) := by
 unfold splice ws
 simp
theorem zRB (w : World) {ops : Array Oper} {rest : List Oper} {o : Oper} {a : Act} {Q : Exit → Act → World → Prop}
  (hgd : o.guard = none) (d s : Operand) (hop : o.op = .call { callee := .builtin .copy,args := #[d,s],argTypes := #[24,24] })
  (g off : Nat) (dp sp : Option Addr) (dLen dCap sLen sCap : Nat) (zs src : List Int) (hrow : Row w g (ws zs)) (hd : a.eval d = .slice dp dLen dCap) (hs : a.eval s = .slice sp sLen sCap)
  (hlen : src.length = sLen) (hle : sLen ≤ dLen) (hdp : 0 < sLen → dp = some ⟨g,off,none⟩) (hfit : off + sLen ≤ zs.length)
  (hsl : src = [] ∨ ∃ b off,sp = some ⟨b,off,none⟩ ∧ b < g ∧ ∀ j (h : j < src.length),w.cell? ⟨b,off + j,none⟩ = some (.int .u64 src[j]))
  (hK : ∀ w',Hid (Row w' g (ws (splice zs off src))) → Below g w w' → wpList Tryz.prog ops Q rest (a.put o.dst (goInt sLen)) w') :
  wpList Tryz.prog ops Q (o :: rest) a w := by
 have hmin : Nat.min sLen dLen = sLen := Nat.min_eq_left hle;refine wpList_copy_splice hgd d s 24 24 hop 53 Tryz.underlying24 Tryz.sizeW _ _ dLen dCap sLen sCap hd hs g off (ws zs) 53 hrow (ws src) (by rw [zNA,hlen,hmin]) ?_ (by rw [zNA,zNA,hlen];exact hfit) ?_ g w (Below.refl _ _) (Nat.le_refl _) ?_
 ·intro hpos
  rcases hsl with rfl | ⟨b,so,hsp,_,hc⟩
  ·simp [ws] at hpos
  ·rw [zNA,hlen] at hpos
   refine ⟨hdp hpos,_,hsp,fun j v hj => ?_⟩;have hj' : j < src.length := by
    have := (List.getElem?_eq_some_iff.1 hj).1
    simpa [zNA] using this
   have : (ws src)[j]? = some (.int .u64 src[j]) := by simp [ws,hj']
   rw [this] at hj;rw [← hj];have e : (⟨b,so,none⟩ : Addr).add j = ⟨b,so + j,none⟩ := by unfold Addr.add;split <;> simp_all
   rw [e];exact hc j hj'
 ·intro v hv
  simp only [ws,List.mem_map] at hv;obtain ⟨x,_,rfl⟩ := hv
  rfl
 ·intro w' h1 h2
  have := hK w' (by unfold Hid Row;rw [← ws_splice];exact h1.out) h2
  simpa [zNA,hlen] using this
theorem splice_low (N : Nat) (xs : List Int) : splice (List.replicate N 0) 0 xs = xs ++ List.replicate (N - xs.length) 0 := by
 simp [splice]
theorem splice_high (n m : Nat) (xs ys : List Int) (hx : xs.length ≤ n) (hy : ys.length = m) : splice (xs ++ List.replicate (n + m - xs.length) 0) n ys = xs ++ List.replicate (n - xs.length) 0 ++ ys := by
 subst hy;unfold splice;rw [List.take_append,List.drop_append,List.take_of_length_le hx,List.drop_of_length_le (by omega)]
 simp
 omega
theorem zuF {w : World} {v u : Value} {xs ys : List Int} (h : Sl w.heap.size w v xs) (h' : Sl w.heap.size w u ys) {n : Nat} (hx : xs.length ≤ n) (hl : n + ys.length ≤ 35184372088832) :
  Calls Tryz.prog 121 #[v,u,.int .i64 (n : Int)] w fun e w' => e = .returned (.slice (some ⟨w.heap.size,0,none⟩) (n + ys.length) (n + ys.length)) ∧ Row w' w.heap.size (ws (xs ++ List.replicate (n - xs.length) 0 ++ ys)) ∧ Below w.heap.size w w' := by
 obtain ⟨hwx,a,capx,rfl,hlc,hcm,hm⟩ := h;obtain ⟨hwy,b,capy,rfl,hlc',hcm',hm'⟩ := h';have HM := hid hm;have HM' := hid hm';have H1 : Hid (splice (List.replicate (n + ys.length) 0) 0 xs = xs ++ List.replicate (n + ys.length - xs.length) 0) := splice_low _ _;have H2 : Hid (splice (xs ++ List.replicate (n + ys.length - xs.length) 0) n ys = xs ++ List.replicate (n - xs.length) 0 ++ ys) := splice_high n _ xs ys hx rfl;have H3 : Hid ((xs ++ List.replicate (n + ys.length - xs.length) 0).length = n + ys.length) := by unfold Hid;simp;omega
 generalize xs ++ List.replicate (n + ys.length - xs.length) 0 = S1 at *;generalize xs ++ List.replicate (n - xs.length) 0 ++ ys = S2 at *;obtain ⟨k,hk⟩ : ∃ k,k = xs.length := ⟨_,rfl⟩
 obtain ⟨m,hmm⟩ : ∃ m,m = ys.length := ⟨_,rfl⟩
 rw [← hk] at hx hlc;rw [← hmm] at hl hlc' H1 H3;rw [← hk,← hmm];have HK := hid hk;have HMM := hid hmm;clear hm hm' hk hmm hwx hwy
 by_cases h0 : m = 0
 ·subst h0
  rw [Nat.add_zero] at H1 H3;simp only [Nat.add_zero];go_enter Tryz.func121,Tryz.ntmps121;go_wp2_with (at_make;refine wpList_make_words _ rfl _ _ rfl _ _ (n) (n) rfl rfl (by omega) (by omega) (Nat.le_refl _) (by omega) ?_)
  intro w2 hrow hb2 hsz2;have hs1 := hid (Sl.sourceB HM.out hb2 (Nat.le_refl _));have HR2 := hid hrow;have HB2 := hid hb2;clear hrow hsz2 hb2;go_wp2_with (refine zRB _ rfl (.tmp 13) (.tmp 14) rfl w.heap.size 0 _ _ _ _ _ _ _ xs HR2.out rfl rfl HK.out.symm (by omega) (fun _ => rfl) (by simp;omega) hs1.out ?_)
  intro w3 HR3 hb3;have HB3 := hid (HB2.out.trans hb3);clear hb3 HR2 HB2 hs1;rw [H1.out] at HR3;have hs2 := hid (Sl.sourceB HM'.out HB3.out (Nat.le_refl _));go_wp2_with (refine zRB _ rfl (.tmp 18) (.tmp 19) rfl w.heap.size n _ _ _ _ _ _ _ ys HR3.out rfl rfl HMM.out.symm (by omega) (fun _ => by omega) (by rw [H3.out];omega) hs2.out ?_)
  intro w4 HR4 hb4;have HB4 := hid (HB3.out.trans hb4);clear hb4 HR3 HB3 hs2;rw [H2.out] at HR4;go_wp2;go_ret;exact ⟨rfl,HR4.out,HB4.out⟩
 ·have hpos : n < n + m := by omega
  clear h0;go_enter Tryz.func121,Tryz.ntmps121;go_wp2_with (at_make;refine wpList_make_words _ rfl _ _ rfl _ _ (n + m) (n + m) rfl rfl (by omega) (by omega) (Nat.le_refl _) (by omega) ?_)
  intro w2 hrow hb2 hsz2;have hs1 := hid (Sl.sourceB HM.out hb2 (Nat.le_refl _));have HR2 := hid hrow;have HB2 := hid hb2;clear hrow hsz2 hb2;go_wp2_with (refine zRB _ rfl (.tmp 13) (.tmp 14) rfl w.heap.size 0 _ _ _ _ _ _ _ xs HR2.out rfl rfl HK.out.symm (by omega) (fun _ => rfl) (by simp;omega) hs1.out ?_)
  intro w3 HR3 hb3;have HB3 := hid (HB2.out.trans hb3);clear hb3 HR2 HB2 hs1;rw [H1.out] at HR3;have hs2 := hid (Sl.sourceB HM'.out HB3.out (Nat.le_refl _));go_wp2_with (refine zRB _ rfl (.tmp 18) (.tmp 19) rfl w.heap.size n _ _ _ _ _ _ _ ys HR3.out rfl rfl HMM.out.symm (by omega) (fun _ => rfl) (by rw [H3.out];omega) hs2.out ?_)
  intro w4 HR4 hb4;have HB4 := hid (HB3.out.trans hb4);clear hb4 HR3 HB3 hs2;rw [H2.out] at HR4;go_wp2;go_ret;exact ⟨rfl,HR4.out,HB4.out⟩
theorem ztA (xs : List Int) (n : Nat) : val xs = val (xs.take n) + pw n * val (xs.drop n) := by
 by_cases h : n ≤ xs.length
 ·exact val_halves xs h
 ·rw [List.take_of_length_le (by omega),List.drop_of_length_le (by omega)]
  simp [val]
theorem zdG {l S : Int} {n N : Nat} (h : l + pw n * S < pw (n + N)) (hl : 0 ≤ l) : S < pw N := by
 rw [zjD] at h;exact Int.lt_of_mul_lt_mul_left (show pw n * S < pw n * pw N by omega) (Int.le_of_lt (zVB n))
theorem zQD {xs ys zs : List Int} (hx : WF xs) (hy : WF ys) (hz : zHA zs) (h : val zs = val xs * val ys) : zs.length ≤ xs.length + ys.length :=
 zSA hz (by rw [h];exact zIB hx hy)
theorem zTD {B : Nat} {w : World} {g k : Nat} {zs : List Int} (hB : B ≤ g) (hw : WF zs) (hk : zs.length = k) (hl : k ≤ 35184372088832) (hr : Row w g (ws zs)) : Mine B w (.slice (some ⟨g,0,none⟩) k k) zs := by
 subst hk;exact ⟨hw,.inr ⟨g,[],zs.length,hB,hl,Nat.le_refl _,by simp,rfl,by simpa using hr⟩⟩
theorem znC (xs ys : List Int) {n : Nat} (h : xs.length ≤ n) : (xs ++ List.replicate (n - xs.length) 0 ++ ys).length = n + ys.length := by
 simp
 omega
def ziG (N : Nat) : Prop := ∀ (w : World) (v u : Value) (xs ys : List Int),Sl w.heap.size w v xs → Sl w.heap.size w u ys → xs.length + ys.length ≤ 35184372088832 → xs.length + ys.length < N →
 Calls Tryz.prog 59 #[v,u] w (zQB w (val xs * val ys))
theorem two_end {xs ys P Q S : List Int} {n : Nat} (hx : zHA xs) (hy : zHA ys) (hn : n < xs.length) (hy0 : ys ≠ []) (hP : zHA P) (vP : val P = val (xs.take n) * val ys) (vQ : val Q = val (xs.drop n) * val ys) (hS : zHA S) (vS : val S = val Q + val (P.drop n)) :
  (P.take n).length ≤ n ∧ n + S.length ≤ xs.length + ys.length ∧ zHA (P.take n ++ List.replicate (n - (P.take n).length) 0 ++ S) ∧ val (P.take n ++ List.replicate (n - (P.take n).length) 0 ++ S) = val xs * val ys := by
 have hl : (P.take n).length ≤ n := by simp;omega
 have hj := zlF (P.take n) S hl;have hv : val (P.take n) + pw n * val S = val xs * val ys := two_halves (n := n) (ztA xs n) vP (ztA P n) (by rw [vS,vQ]) rfl;have hlt := zIB hx.1 hy.1;rw [← hv] at hlt;have h0 := zEA (hP.1.take n);have hS0 : S ≠ [] := by
  refine zWH ?_;have h1 : 0 < val (xs.drop n) := zaD (zuC n hx) (by intro e;have := congrArg List.length e;simp at this;omega);have h2 := zaD hy hy0;have h3 := Int.mul_pos h1 h2;have h4 := zEA (hP.1.rest n);rw [vS,vQ];omega
 refine ⟨hl,?_,zrD n (hP.1.take n) hS hS0,by rw [hj,hv]⟩;have h5 : xs.length + ys.length = n + (xs.length + ys.length - n) := by omega
 rw [h5] at hlt;have := zSA hS (zdG hlt h0);omega
theorem four_end {xs ys LL HH SA SB SS T X Y Z : List Int} {n : Nat} (hx : zHA xs) (hy : zHA ys) (hn : n < xs.length) (hn' : n < ys.length)
  (hLL : zHA LL) (vLL : val LL = val (xs.take n) * val (ys.take n)) (hHH : zHA HH) (vHH : val HH = val (xs.drop n) * val (ys.drop n))
  (vSA : val SA = val (xs.take n) + val (xs.drop n)) (vSB : val SB = val (ys.take n) + val (ys.drop n)) (vSS : val SS = val SA * val SB) (vT : val T = val LL + val HH) (vX : val X = val SS - val T)
  (hY : zHA Y) (vY : val Y = val X + val (LL.drop n)) (hZ : zHA Z) (vZ : val Z = val HH + val (Y.drop n)) :
  (LL.take n).length ≤ n ∧ (Y.take n).length ≤ n ∧ n + (n + Z.length) ≤ xs.length + ys.length ∧
  zHA (LL.take n ++ List.replicate (n - (LL.take n).length) 0 ++ (Y.take n ++ List.replicate (n - (Y.take n).length) 0 ++ Z)) ∧
  val (LL.take n ++ List.replicate (n - (LL.take n).length) 0 ++ (Y.take n ++ List.replicate (n - (Y.take n).length) 0 ++ Z)) = val xs * val ys := by
 have hl : (LL.take n).length ≤ n := by simp;omega
 have hm : (Y.take n).length ≤ n := by simp;omega
 have hj1 := zlF (Y.take n) Z hm;have hj := zlF (LL.take n) (Y.take n ++ List.replicate (n - (Y.take n).length) 0 ++ Z) hl;rw [hj1] at hj;have hv : val (LL.take n) + pw n * (val (Y.take n) + pw n * val Z) = val xs * val ys :=
  four_halves (n := n) (ztA xs n) (ztA ys n) vLL vHH vSA vSB vSS vT vX (ztA LL n) vY (ztA Y n) vZ rfl
 have hlt := zIB hx.1 hy.1;rw [← hv] at hlt;have h0 := zEA (hLL.1.take n);have h0' := zEA (hY.1.take n);have hZ0 : Z ≠ [] := by
  refine zWH ?_;have h1 : 0 < val (xs.drop n) := zaD (zuC n hx) (by intro e;have := congrArg List.length e;simp at this;omega);have h2 : 0 < val (ys.drop n) := zaD (zuC n hy) (by intro e;have := congrArg List.length e;simp at this;omega);have h3 := Int.mul_pos h1 h2;have h4 := zEA (hY.1.rest n);rw [vZ,vHH];omega
 have c1 := zrD n (hY.1.take n) hZ hZ0;have c1' : Y.take n ++ List.replicate (n - (Y.take n).length) 0 ++ Z ≠ [] := by
  intro e;exact hZ0 (List.append_eq_nil_iff.1 e).2
 refine ⟨hl,hm,?_,zrD n (hLL.1.take n) c1 c1',by rw [hj,hv]⟩;have h5 : xs.length + ys.length = n + (n + (xs.length + ys.length - n - n)) := by omega
 rw [h5] at hlt;have h6 := zdG hlt h0;have := zSA hZ (zdG h6 h0');omega
theorem byTwo_any {w : World} {va vb : Value} {xs ys : List Int} (ha : Sl w.heap.size w va xs) (hb : Sl w.heap.size w vb ys) (cx : zHA xs) (cy : zHA ys) (hl : xs.length + ys.length ≤ 35184372088832) {n : Nat} (hn0 : 0 < n) (hn : n < xs.length) (hy0 : ys ≠ []) (IH : ziG (xs.length + ys.length)) :
  Calls Tryz.prog 94 #[va,vb,.int .i64 (n : Int)] w (zQB w (val xs * val ys)) := by
 have LT := hid (show (xs.take n).length = n by simp;omega);have LD := hid (show (xs.drop n).length = xs.length - n by simp);have CX := hid cx;have CY := hid cy;have Y0 := hid hy0;have IH' := hid IH;clear IH cx cy hy0;go_enter Tryz.func94,Tryz.ntmps94;go_wp2_with fail;refine (zIC ha (by omega)).mono ?_;rintro e w1 ⟨vl,vr,rfl,hl1,hr1,k1⟩;have b1 := hb.now k1;have g1 := k1;clear ha hb k1;go_wp2_with fail;refine (IH'.out _ _ _ _ _ hl1 b1 (by rw [LT.out];omega) (by rw [LT.out];omega)).mono ?_;rintro e w2 ⟨P,vp,rfl,mp,cp,HP,k2⟩;have b2 := b1.now k2;have ra2 := hr1.now k2;have g2 := below_step g1 k2;replace cp := hid cp;replace HP := hid HP;clear hl1 b1 hr1 g1 k2;have p0 := mp.sl;clear mp;have LP := hid (zQD (CX.out.1.take n) CY.out.1 cp.out HP.out);go_wp2_with fail;refine (zIC p0 (by omega)).mono ?_;rintro e w3 ⟨wl,wr,rfl,hl3,hr3,k3⟩;have b3 := b2.now k3;have ra3 := ra2.now k3;have g3 := below_step g2 k3;clear p0 b2 ra2 g2 k3;go_wp2_with fail;refine (IH'.out _ _ _ _ _ ra3 b3 (by rw [LD.out];omega) (by rw [LD.out];omega)).mono ?_;rintro e w4 ⟨Q,vq,rfl,mq,cq,HQ,k4⟩;have pl4 := hl3.now k4;have pr4 := hr3.now k4;have g4 := below_step g3 k4;replace cq := hid cq;replace HQ := hid HQ;clear ra3 b3 hl3 hr3 g3 k4;have q0 := mq.sl;clear mq;have LQ := hid (zQD (CX.out.1.rest n) CY.out.1 cq.out HQ.out);have LPD := hid (show (P.drop n).length ≤ P.length by simp);go_wp2_with fail;refine (zsD q0 pr4 (by have := LQ.out;have := LD.out;omega) (by have := LPD.out;have := LP.out;have := LT.out;omega)).mono ?_;rintro e w5 ⟨S,vs,rfl,s0,cs,HS,ls,k5⟩;have pl5 := pl4.now k5;have g5 := below_step g4 k5;replace cs := hid cs;replace HS := hid HS;clear q0 pr4 pl4 g4 k5;clear ls;have E := hid (two_end CX.out CY.out hn Y0.out cp.out HP.out HQ.out cs.out HS.out);clear cp HP HQ cs HS cq CX CY LP LQ LPD;go_wp2_with fail;refine (zuF pl5 s0 E.out.1 (by have := E.out.2.1;omega)).mono ?_;rintro e w6 ⟨rfl,hr,k6⟩;have g6 := below_step g5 k6;go_wp2;go_ret;exact ⟨_,_,rfl,zTD g5.size E.out.2.2.1.1 (znC _ _ E.out.1) (by have := E.out.2.1;omega) hr,E.out.2.2.1,E.out.2.2.2,g6⟩
theorem byFour_any {w : World} {va vb : Value} {xs ys : List Int} (ha : Sl w.heap.size w va xs) (hb : Sl w.heap.size w vb ys) (cx : zHA xs) (cy : zHA ys) (hl : xs.length + ys.length ≤ 35184372088832) {n : Nat} (hn0 : 0 < n) (hn : n < xs.length) (hn' : n < ys.length) (hx2 : xs.length ≤ 2 * n) (h2n : 2 * n ≤ xs.length + 1) (h64 : 64 ≤ ys.length) (hyx : ys.length ≤ xs.length) (IH : ziG (xs.length + ys.length)) :
  Calls Tryz.prog 95 #[va,vb,.int .i64 (n : Int)] w (zQB w (val xs * val ys)) := by
 have LT := hid (show (xs.take n).length = n by simp;omega);have LD := hid (show (xs.drop n).length = xs.length - n by simp);have LT' := hid (show (ys.take n).length = n by simp;omega);have LD' := hid (show (ys.drop n).length = ys.length - n by simp);have CX := hid cx;have CY := hid cy;have IH' := hid IH;clear IH cx cy;go_enter Tryz.func95,Tryz.ntmps95;go_wp2_with fail;refine (zIC ha (by omega)).mono ?_;rintro e w1 ⟨vl,vr,rfl,hl1,hr1,k1⟩;have b1 := hb.now k1;have g1 := k1;clear ha hb k1;go_wp2_with fail;refine (zIC b1 (by omega)).mono ?_;rintro e w2 ⟨ul,ur,rfl,hl2,hr2,k2⟩;have la2 := hl1.now k2;have ra2 := hr1.now k2;have g2 := below_step g1 k2;clear b1 hl1 hr1 g1 k2;go_wp2_with fail;refine (IH'.out _ _ _ _ _ la2 hl2 (by rw [LT.out,LT'.out];omega) (by rw [LT.out,LT'.out];omega)).mono ?_;rintro e w3 ⟨LL,vp,rfl,mp,cLL,VLL,k3⟩;have la3 := la2.now k3;have ra3 := ra2.now k3;have lb3 := hl2.now k3;have rb3 := hr2.now k3;have g3 := below_step g2 k3;replace cLL := hid cLL;replace VLL := hid VLL;clear la2 ra2 hl2 hr2 g2 k3;have ll0 := mp.sl;clear mp;have NLL := hid (zQD (CX.out.1.take n) (CY.out.1.take n) cLL.out VLL.out);go_wp2_with fail;refine (IH'.out _ _ _ _ _ ra3 rb3 (by rw [LD.out,LD'.out];omega) (by rw [LD.out,LD'.out];omega)).mono ?_;rintro e w4 ⟨HH,vq,rfl,mq,cHH,VHH,k4⟩;have la4 := la3.now k4;have ra4 := ra3.now k4;have lb4 := lb3.now k4;have rb4 := rb3.now k4;have ll4 := ll0.now k4;have g4 := below_step g3 k4;replace cHH := hid cHH;replace VHH := hid VHH;clear la3 ra3 lb3 rb3 ll0 g3 k4;have hh0 := mq.sl;clear mq;have NHH := hid (zQD (CX.out.1.rest n) (CY.out.1.rest n) cHH.out VHH.out);go_wp2_with fail;refine (zsD la4 ra4 (by rw [LT.out];omega) (by rw [LD.out];omega)).mono ?_;rintro e w5 ⟨SA,vsa,rfl,sa0,cSA,VSA,lsa,k5⟩;have lb5 := lb4.now k5;have rb5 := rb4.now k5;have ll5 := ll4.now k5;have hh5 := hh0.now k5;have g5 := below_step g4 k5;replace cSA := hid cSA;replace VSA := hid VSA;replace lsa := hid lsa;clear la4 ra4 lb4 rb4 ll4 hh0 g4 k5;have NSA : Hid (SA.length ≤ n + 1) := by unfold Hid;have := lsa.out;rw [LT.out,LD.out] at this;omega
 clear lsa;go_wp2_with fail;refine (zsD lb5 rb5 (by rw [LT'.out];omega) (by rw [LD'.out];omega)).mono ?_;rintro e w6 ⟨SB,vsb,rfl,sb0,cSB,VSB,lsb,k6⟩;have ll6 := ll5.now k6;have hh6 := hh5.now k6;have sa6 := sa0.now k6;have g6 := below_step g5 k6;replace cSB := hid cSB;replace VSB := hid VSB;replace lsb := hid lsb;clear lb5 rb5 ll5 hh5 sa0 g5 k6;have NSB : Hid (SB.length ≤ n + 1) := by unfold Hid;have := lsb.out;rw [LT'.out,LD'.out] at this;omega
 clear lsb;go_wp2_with fail;refine (IH'.out _ _ _ _ _ sa6 sb0 (by have := NSA.out;have := NSB.out;omega) (by have := NSA.out;have := NSB.out;omega)).mono ?_;rintro e w7 ⟨SS,vss,rfl,ms,cSS,VSS,k7⟩;have ll7 := ll6.now k7;have hh7 := hh6.now k7;have g7 := below_step g6 k7;replace cSS := hid cSS;replace VSS := hid VSS;clear sa6 sb0 ll6 hh6 g6 k7;have ss0 := ms.sl;clear ms;have NSS := hid (zQD cSA.out.1 cSB.out.1 cSS.out VSS.out);go_wp2_with fail;refine (zsD ll7 hh7 (by have := NLL.out;rw [LT.out,LT'.out] at this;omega) (by have := NHH.out;rw [LD.out,LD'.out] at this;omega)).mono ?_;rintro e w8 ⟨T,vt,rfl,t0,cT,VT,lt,k8⟩;have ll8 := ll7.now k8;have hh8 := hh7.now k8;have ss8 := ss0.now k8;have g8 := below_step g7 k8;replace cT := hid cT;replace VT := hid VT;clear ll7 hh7 ss0 g7 k8;clear lt;have GE : Hid (val T ≤ val SS) := by unfold Hid;rw [VT.out,VSS.out,VSA.out,VSB.out,VLL.out,VHH.out];exact cross_nonneg (zEA (CX.out.1.take n)) (zEA (CX.out.1.rest n)) (zEA (CY.out.1.take n)) (zEA (CY.out.1.rest n))
 go_wp2_with fail;refine (sub_now ss8 t0 GE.out).mono ?_;rintro e w9 ⟨X,xa,xc,rfl,x0,cXX,VX,lx,k9⟩;have ll9 := ll8.now k9;have hh9 := hh8.now k9;have g9 := below_step g8 k9;replace cXX := hid cXX;replace VX := hid VX;replace lx := hid lx;clear ss8 t0 ll8 hh8 g8 k9;have NX : Hid (X.length ≤ n + 1 + (n + 1)) := by unfold Hid;have := lx.out;have := NSS.out;have := NSA.out;have := NSB.out;omega
 clear lx;go_wp2_with fail;refine (zIC ll9 (by omega)).mono ?_;rintro e w10 ⟨wl,wr,rfl,hl9,hr9,k10⟩;have hh10 := hh9.now k10;have x10 := x0.now k10;have g10 := below_step g9 k10;clear ll9 hh9 x0 g9 k10;have NC := hid (show (LL.drop n).length ≤ LL.length by simp);go_wp2_with fail;refine (zsD x10 hr9 (by have := NX.out;omega) (by have := NC.out;have := NLL.out;rw [LT.out,LT'.out] at this;omega)).mono ?_;rintro e w11 ⟨Y,vy,rfl,y0,cYY,VY,ly,k11⟩;have hh11 := hh10.now k11;have l11 := hl9.now k11;have g11 := below_step g10 k11;replace cYY := hid cYY;replace VY := hid VY;replace ly := hid ly;clear x10 hr9 hh10 hl9 g10 k11;have NY : Hid (Y.length < 35184372088832) := by unfold Hid;have := ly.out;have := NX.out;have := NC.out;have := NLL.out;rw [LT.out,LT'.out] at this;omega
 clear ly;go_wp2_with fail;refine (zIC y0 (by omega)).mono ?_;rintro e w12 ⟨zl,zr,rfl,hl11,hr11,k12⟩;have hh12 := hh11.now k12;have l12 := l11.now k12;have g12 := below_step g11 k12;clear y0 hh11 l11 g11 k12;have ND := hid (show (Y.drop n).length ≤ Y.length by simp);go_wp2_with fail;refine (zsD hh12 hr11 (by have := NHH.out;rw [LD.out,LD'.out] at this;omega) (by have := ND.out;have := NY.out;omega)).mono ?_;rintro e w13 ⟨Z,vz,rfl,z0,cZ,VZ,lz,k13⟩;have l13 := l12.now k13;have m13 := hl11.now k13;have g13 := below_step g12 k13;replace cZ := hid cZ;replace VZ := hid VZ;clear hh12 hr11 l12 hl11 g12 k13;clear lz;have E := hid (four_end CX.out CY.out hn hn' cLL.out VLL.out cHH.out VHH.out VSA.out VSB.out VSS.out VT.out VX.out cYY.out VY.out cZ.out VZ.out);have WZ := hid ((cYY.out.1.take n).append (zjF (n - (Y.take n).length)) |>.append cZ.out.1);clear cLL VLL cHH VHH VSA VSB VSS VT VX cYY VY cZ VZ cXX cT cSS cSA cSB GE NLL NHH NSA NSB NSS NX NC NY ND CX CY IH' ;go_wp2_with fail;refine (zuF m13 z0 E.out.2.1 (by have := E.out.2.2.1;omega)).mono ?_;rintro e w14 ⟨rfl,hr,k14⟩;have l14 := l13.now k14;have g14 := below_step g13 k14;have hj := (zTD (Nat.le_refl _) WZ.out (znC _ _ E.out.2.1) (by have := E.out.2.2.1;omega) hr).sl;clear m13 z0 l13 g13 k14 hr;go_wp2_with fail;have HJ := zuF l14 hj E.out.1 (by rw [znC _ _ E.out.2.1];have := E.out.2.2.1;omega);rw [znC _ _ E.out.2.1] at HJ;refine HJ.mono ?_;rintro e w15 ⟨rfl,hr,k15⟩;have g15 := below_step g14 k15;clear HJ hj;go_wp2;go_ret;exact ⟨_,_,rfl,zTD g14.size E.out.2.2.2.1.1 (by rw [znC _ _ E.out.1,znC _ _ E.out.2.1]) (by have := E.out.2.2.1;omega) hr,E.out.2.2.2.1,E.out.2.2.2.2,g15⟩
end Go.Proofs.YtkdobgbicnemcaaGreatDoor
