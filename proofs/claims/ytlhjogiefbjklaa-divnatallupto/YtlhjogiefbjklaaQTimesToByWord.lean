/-
 QTimesToByWord: Times, Trim, ByWord, joined.
-/
import Derived.Test.YtlhjogiefbjklaaQProdToMulw
import Derived.Test.YtlhjogiefbjklaaQCarryToMade
import Derived.Test.YtlhjogiefbjklaaQDWordsToJoin

set_option maxRecDepth 100000
set_option maxHeartbeats 6400000
set_option linter.unusedVariables false
set_option linter.unusedSimpArgs false
namespace Go.Proofs.Ytlhjogiefbjklaa
open Go.RowKit
theorem zED {α : Type} (L : List α) {i n : Nat} (h : i < n) (x : α) : (L.set i x).drop n = L.drop n := by
 rw [List.drop_set,if_pos h]
theorem zYC {g : Nat} {w : World} {u : Value} {zs0 xs : List Int} {r : List Value} {o len cap : Nat} {W : Int} (hz0 : WF zs0) (hrow : Row w g (ws zs0 ++ r)) (hlz : zs0.length ≤ 35184372088832) (hx : Sl g w u xs) (hW : IsW W) (hl : o + xs.length ≤ zs0.length) (hlen : xs.length ≤ len) :
  Calls Try.prog 93 #[.slice (some ⟨g,o,none⟩) len cap,u,.int .u64 W] w fun e w' =>
   ∃ zs c,e = .returned (.int .u64 c) ∧ zs.length = zs0.length ∧ WF zs ∧ IsW c ∧ val zs + pw (o + xs.length) * c = val zs0 + pw o * (val xs * W) ∧ zs.drop (o + xs.length) = zs0.drop (o + xs.length) ∧ Row w' g (ws zs ++ r) ∧ Below g w w' := by
 obtain ⟨hwx,a,capx,rfl,hlc,hcm,hm⟩ := hx;have HV0 : Hid (val zs0 + pw (o + 0) * 0 = val zs0 + pw o * (val (xs.take 0) * W)) := by unfold Hid;simp [val]
 have HTL : Hid (xs.take xs.length = xs) := by unfold Hid;simp
 obtain ⟨m,hmz⟩ : ∃ m,m = zs0.length := ⟨_,rfl⟩
 obtain ⟨n,hnx⟩ : ∃ n,n = xs.length := ⟨_,rfl⟩
 rw [← hmz] at hl hlz;rw [← hnx] at hl hlc HTL hlen;rw [← hmz,← hnx];have HM : Hid (m = zs0.length) := hmz;have HN : Hid (n = xs.length) := hnx;clear hmz hnx;have hW' := hW;unfold IsW wB at hW';go_enter Try.func93,Try.ntmps93;go_wp2_with fail
 go_loopw [7,15] (fun c i wr => ∃ (k : Nat) (zs : List Int) (cc : Int),k ≤ n ∧ i = .int .i64 k ∧ c = .int .u64 cc ∧ IsW cc ∧ Hid (zs.length = m) ∧ WF zs ∧ Hid (val zs + pw (o + k) * cc = val zs0 + pw o * (val (xs.take k) * W)) ∧ Hid (zs.drop (o + n) = zs0.drop (o + n)) ∧ Row wr g (ws zs ++ r) ∧ Below g w wr) (fun _ i _ => n - (intOf i).toNat)
 case atStart => exact ⟨0,zs0,0,Nat.zero_le _,rfl,rfl,by unfold IsW wB;omega,HM.out.symm,hz0,HV0,rfl,hrow,Below.refl _ _⟩
 case round =>
  obtain ⟨k,zs,cc,hk,rfl,rfl,hc,HL,hwz,HV,HD,hr,hb⟩ := hrel
  by_cases hlt : k < n
  ·have hk1 : o + k < zs.length := by have := HL.out;omega
   have hk2 : k < xs.length := by have := HN.out;omega
   rcases hm with e | ⟨b,off,rfl,hbg,hcy⟩
   ·subst e;simp at hk2
   have c1 : wr.cell? ⟨g,o + k,none⟩ = some (.int .u64 zs[o + k]) := hr.word hk1;have c2 : wr.cell? ⟨b,off + k,none⟩ = some (.int .u64 xs[k]) := (hb.cell (p := ⟨b,off + k,none⟩) hbg).trans (hcy k hk2);have cf : wr.frozen? ⟨g,o + k,none⟩ = false := hr.frozen (o + k);obtain ⟨hi,lo,hhi,hlo,hmm,hmul⟩ := zwD (hwx.get hk2) hW;obtain ⟨l1,o1,hl1,ho10,ho11,hs1,hadd1⟩ := zIB hlo (hwz.get hk1) (Int.le_refl 0) (by omega);obtain ⟨l2,o2,hl2,ho20,ho21,hs2,hadd2⟩ := zIB hl1 hc (Int.le_refl 0) (by omega);obtain ⟨hb1,hb2,hsum⟩ := word_step (hwx.get hk2) hW (hwz.get hk1) hc hhi.1 hlo hmm hl1 ho10 hs1 hl2 ho20 hs2;have HV' : Hid (val (zs.set (o + k) l2) + pw (o + (k + 1)) * (hi + o1 + o2) = val zs0 + pw o * (val (xs.take (k + 1)) * W)) := times_step hk1 rfl hk2 rfl HV.out hsum;have HD' : Hid ((zs.set (o + k) l2).drop (o + n) = zs0.drop (o + n)) := by unfold Hid;rw [zED _ (by omega)];exact HD.out
   have hwz' : WF (zs.set (o + k) l2) := hwz.set (o + k) hl2;have HR := hr.setWord hk1 l2;have HB := hb.setCell (p := ⟨g,o + k,none⟩) (Nat.le_refl _) (.int .u64 l2);have hc' : IsW (hi + o1 + o2) := ⟨by have := hhi.1;omega,hb2⟩
   have hi0 := hhi.1;unfold wB at hb1 hb2;clear hsum hs1 hs2 hmm hl1 hl2 hlo hhi;generalize zs[o + k] = x at *;generalize xs[k] = y at *;have HL' : Hid ((zs.set (o + k) l2).length = m) := by unfold Hid;rw [List.length_set];exact HL.out
   generalize zs.set (o + k) l2 = zs' at *;clear hcy hr hb hwz HV hrow HL HD hc;go_wp2_with fail;refine (hmul _).mono ?_;rintro e w1 ⟨rfl,rfl⟩;go_wp2;go_roundw
   case rel => exact ⟨k + 1,zs',hi + o1 + o2,by omega,by go_num,rfl,hc',HL',hwz',HV',HD',HR,HB⟩
   case measure => simp [intOf];omega
  ·obtain rfl : k = n := by omega
   rw [HTL.out] at HV;go_wp2;go_ret;exact ⟨zs,cc,rfl,HL.out,hwz,hc,HV.out,HD.out,hr,hb⟩
theorem wid_of_len {xs : List Int} (hw : WF xs) : ∃ b : Nat,bitLen (vn xs) = b ∧ (b + 63) / 64 = wid xs ∧ b ≤ 64 * xs.length := by
 refine ⟨_,rfl,?_⟩
 by_cases h0 : wid xs = 0
 ·rw [zvB hw h0,h0]
  exact ⟨rfl,by rw [show bitLen 0 = 0 from rfl];omega⟩
 ·obtain ⟨n,hn⟩ : ∃ n,wid xs = n + 1 := ⟨wid xs - 1,by omega⟩
  obtain ⟨hl,hne⟩ := zMC hn;have h1 := zXC hw hn hl;have h2 := zkB (zNB (hw.get hl));have h3 : 0 < bitLen xs[n].toNat := by
   unfold bitLen
   split
   ·rename_i e
    have := (hw.get hl).1;omega
   ·omega
  rw [h1,hn];exact ⟨by omega,by omega⟩
def Mine (B : Nat) (w : World) (v : Value) (zs : List Int) : Prop :=
 WF zs ∧ ((v = .slice none 0 0 ∧ zs = []) ∨ ∃ g r cap,B ≤ g ∧ zs.length ≤ 35184372088832 ∧ zs.length ≤ cap ∧ (cap = zs.length ∨ (cap = zs.length + r.length ∧ cap ≤ maxLen)) ∧ v = .slice (some ⟨g,0,none⟩) zs.length cap ∧ Row w g (ws zs ++ r))
theorem Mine.form {B : Nat} {w : World} {v : Value} {zs : List Int} (h : Mine B w v zs) : ∃ a cap,v = .slice a zs.length cap := by
 obtain ⟨_,⟨h1,h2⟩ | ⟨g,r,cap,_,_,_,_,h1,_⟩⟩ := h
 ·subst h2;exact ⟨none,0,h1⟩
 ·exact ⟨_,_,h1⟩
theorem Mine.sl {B : Nat} {w : World} {v : Value} {zs : List Int} (h : Mine B w v zs) : Sl w.heap.size w v zs := by
 obtain ⟨hw,⟨h1,h2⟩ | ⟨g,r,cap,h1,h2,h3,h4,h5,h6⟩⟩ := h
 ·subst h1 h2;exact Sl.nilAt w
 ·subst h5
  exact ⟨hw,_,cap,rfl,h3,h2,.inr ⟨g,0,rfl,h6.lt,fun j hj => by rw [Nat.zero_add];exact h6.word hj⟩⟩
theorem Mine.nil (B : Nat) (w : World) : Mine B w (.slice none 0 0) [] := ⟨WF.nil,.inl ⟨rfl,rfl⟩⟩
theorem Mine.mono {B B' : Nat} {w : World} {v : Value} {zs : List Int} (h : Mine B w v zs) (hB : B' ≤ B) : Mine B' w v zs := by
 obtain ⟨hw,h | ⟨g,r,cap,h1,h2⟩⟩ := h
 ·exact ⟨hw,.inl h⟩
 ·exact ⟨hw,.inr ⟨g,r,cap,by omega,h2⟩⟩
theorem Mine.below {B : Nat} {w w' : World} {v : Value} {zs : List Int} (h : Mine B w v zs) (hb : Below w.heap.size w w') : Mine B w' v zs := by
 obtain ⟨hw,h | ⟨g,r,cap,h1,h2,h3,h4,h5,h6⟩⟩ := h
 ·exact ⟨hw,.inl h⟩
 ·exact ⟨hw,.inr ⟨g,r,cap,h1,h2,h3,h4,h5,h6.below hb h6.lt⟩⟩
theorem zFB {B : Nat} {w : World} {a : Option Addr} {len cap : Nat} {xs : List Int} (h : Sl B w (.slice a len cap) xs) :
  Calls Try.prog 86 #[.slice a len cap] w fun e w' => e = .returned (.slice a (wid xs) (wid xs)) ∧ w' = w := by
 have HB := znA h;obtain ⟨b,hb1,hb2,hb3⟩ := wid_of_len h.1;rw [hb1] at HB;have l1 := zGA xs;obtain ⟨hw,a',cap',he,hlc,hcm,hm⟩ := h;simp only [Value.slice.injEq] at he;obtain ⟨rfl,rfl,rfl⟩ := he;clear hm hw hb1;generalize wid xs = n at *;generalize xs.length = L at *;go_enter Try.func86,Try.ntmps86;go_wp2_with fail;refine HB.mono ?_;rintro e w1 ⟨rfl,rfl⟩;clear HB;go_wp2;go_ret;exact ⟨by rw [show (b + 64 - 1) / 64 = n by omega];rfl,rfl⟩
theorem zLC {zs : List Int} {n j : Nat} (h : zs.drop n = List.replicate (j + 1) 0) : ∃ hn : n < zs.length,zs[n] = 0 := by
 have hl := congrArg List.length h;simp only [List.length_drop,List.length_replicate] at hl;refine ⟨by omega,?_⟩;have e : zs.drop n = zs[n]'(by omega) :: zs.drop (n + 1) := List.drop_eq_getElem_cons (by omega);rw [e,List.replicate_succ] at h;exact (List.cons.inj h).1
theorem zeros_tail {zs : List Int} {n j : Nat} (h : zs.drop n = List.replicate (j + 1) 0) : zs.drop (n + 1) = List.replicate j 0 := by
 rw [show n + 1 = 1 + n by omega,Nat.add_comm 1 n,← List.drop_drop,h,List.replicate_succ]
 rfl
theorem trim_mine {B w' : _} {g : Nat} {zs : List Int} (hB : B ≤ g) (hw : WF zs) (hl : zs.length ≤ 35184372088832) (hr : Row w' g (ws zs)) : Mine B w' (.slice (some ⟨g,0,none⟩) (wid zs) (wid zs)) (lst zs) := by
 have := zGA zs;refine ⟨(canon_lst hw).1,.inr ⟨g,ws (zs.drop (wid zs)),wid zs,hB,by rw [length_lst];omega,by rw [length_lst];exact Nat.le_refl _,by rw [length_lst];omega,by rw [length_lst],?_⟩⟩;have e : ws (lst zs) ++ ws (zs.drop (wid zs)) = ws zs := by
  unfold lst ws;rw [← List.map_append,List.take_append_drop]
 rw [e];exact hr
def zzA (w : World) (s : Int) (e : Ending) (w' : World) : Prop :=
 ∃ zs r,e = .returned r ∧ Mine w.heap.size w' r zs ∧ zEA zs ∧ val zs = s ∧ Below w.heap.size w w'
theorem byWord_any {w : World} {v u : Value} {xs ys : List Int} (h : Sl w.heap.size w v xs) (h' : Sl w.heap.size w u ys) (hl : xs.length + ys.length ≤ 35184372088832) :
  Calls Try.prog 87 #[v,u] w (zzA w (val xs * val ys)) := by
 have HS := hid h;have hwx := h.1;obtain ⟨_,a,capx,rfl,hlc,hcm,_⟩ := h;obtain ⟨hwy,b,capy,rfl,hlc',hcm',hm'⟩ := h';have HM' := hid hm';have HTL : Hid (ys.take ys.length = ys) := by unfold Hid;simp
 have HV0 : Hid (∀ k,val (List.replicate k 0) = val xs * val (ys.take 0)) := fun k => by rw [zeB];simp [val]
 obtain ⟨n,hn⟩ : ∃ n,n = xs.length := ⟨_,rfl⟩
 obtain ⟨m,hm⟩ : ∃ m,m = ys.length := ⟨_,rfl⟩
 rw [← hn] at HS hl hlc;rw [← hm] at hl hlc' HTL;rw [← hn,← hm];have HN := hid hn;have HMM := hid hm;clear hn hm hm';go_enter Try.func87,Try.ntmps87;go_wp2_with (at_make;refine wpList_make_words _ rfl _ _ rfl _ _ (n + m) (n + m) rfl rfl (by omega) (by omega) (Nat.le_refl _) (by omega) ?_)
 intro w2 hrow hb2 hsz2;have hhs : w.heap.size < w2.heap.size := by have := hsz2.out;omega
 go_wp2_with fail
 go_loopw [16] (fun i wr => ∃ (k : Nat) (zs : List Int),k ≤ m ∧ i = .int .i64 k ∧ Hid (zs.length = n + m) ∧ WF zs ∧ Hid (val zs = val xs * val (ys.take k)) ∧ Hid (zs.drop (k + n) = List.replicate (m - k) 0) ∧ Row wr w.heap.size (ws zs) ∧ Below w.heap.size w wr) (fun i _ => m - (intOf i).toNat)
 case atStart => exact ⟨0,List.replicate (n + m) 0,Nat.zero_le _,rfl,(by unfold Hid;simp),zmB _,HV0.out _,(by unfold Hid;simp),hrow,hb2⟩
 case round =>
  clear hrow hb2 hsz2 hhs;obtain ⟨k,zs,hk,rfl,HL,hwz,HV,HD,hr,hb⟩ := hrel
  by_cases hlt : k < m
  ·have hk2 : k < ys.length := by have := HMM.out;omega
   obtain ⟨j,hj⟩ : ∃ j,m - k = j + 1 := ⟨m - k - 1,by omega⟩
   have HD2 := hid HD.out;rw [hj] at HD2;have hk1 := (zLC HD2.out).1;rcases HM'.out with e | ⟨bb,off,rfl,hbg,hcy⟩
   ·subst e;simp at hk2
   have c2 : wr.cell? ⟨bb,off + k,none⟩ = some (.int .u64 ys[k]) := (hb.cell (p := ⟨bb,off + k,none⟩) hbg).trans (hcy k hk2);have HA := hid (zYC (o := k) (len := n + m - k) (cap := n + m - k) (r := []) hwz (by simpa using hr) (by rw [HL.out];omega) (HS.out.below hb (Nat.le_refl _)) (hwy.get hk2) (by rw [← HN.out,HL.out];omega) (by rw [← HN.out];omega));rw [← HN.out] at HA;have HY : Hid (∃ y,y = ys[k]) := ⟨_,rfl⟩
   have HW2 := hid (hwy.get hk2);have HST : Hid (∀ zs' c,val zs' + pw (k + n) * c = val zs + pw k * (val xs * ys[k]) → ∀ hz : k + n < zs'.length,zs'[k + n] = 0 → val (zs'.set (k + n) c) = val xs * val (ys.take (k + 1))) := fun zs' c h1 hz h2 => rows_step hk2 rfl HV.out h1 hz h2
   generalize ys[k] = y at *;clear hcy;go_wp2_with fail;refine HA.out.mono ?_;rintro e w3 ⟨zs',c,rfl,hzl,hwz',hc,hv,hd,hr3,hb3⟩;have D3 := hd.trans HD2.out;obtain ⟨hk3,hz3⟩ := zLC D3;have hr4 : Row w3 w.heap.size (ws zs' ++ []) := hr3;have c3 : w3.cell? ⟨w.heap.size,k + n,none⟩ = some (.int .u64 zs'[k + n]) := hr4.word hk3;have cf : w3.frozen? ⟨w.heap.size,k + n,none⟩ = false := hr4.frozen _;have HV4 := hid (HST.out zs' c hv hk3 hz3);have HR4 := hid (hr4.setWord hk3 c);have HB4 := hid ((hb.trans hb3).setCell (p := ⟨w.heap.size,k + n,none⟩) (Nat.le_refl _) (.int .u64 c));have HW4 := hid (hwz'.set (k + n) hc);have HL4 : Hid ((zs'.set (k + n) c).length = n + m) := by unfold Hid;rw [List.length_set,hzl];exact HL.out
   have HD4 : Hid ((zs'.set (k + n) c).drop (k + 1 + n) = List.replicate (m - (k + 1)) 0) := by
    unfold Hid;rw [show k + 1 + n = k + n + 1 by omega,zED _ (by omega),zeros_tail D3]
    congr 1
    omega
   generalize zs'[k + n] = z at *;generalize zs'.set (k + n) c = zs'' at *;clear hd D3 hr4 hr3 hb3 hv hzl hwz' HST HA hr hb HV HD HD2 hwz HL;go_wp2;go_roundw
   case rel => exact ⟨k + 1,zs'',by omega,by go_num,HL4,HW4.out,HV4,HD4,(by simpa using HR4.out),HB4.out⟩
   case measure => simp [intOf];omega
  ·obtain rfl : k = m := by omega
   rw [HTL.out] at HV;go_wp2_with fail;have hsl := Row.sl (r := []) (by simpa using hr) hwz (cap := n + k) (by rw [HL.out];exact Nat.le_refl _) (by omega) hr.lt;rw [HL.out] at hsl;refine (zFB hsl).mono ?_;rintro e w3 ⟨rfl,rfl⟩;go_wp2;go_ret;exact ⟨lst zs,_,rfl,trim_mine (Nat.le_refl _) hwz (by rw [HL.out];omega) hr,canon_lst hwz,by rw [val_lst];exact HV.out,hb⟩
end Go.Proofs.Ytlhjogiefbjklaa
