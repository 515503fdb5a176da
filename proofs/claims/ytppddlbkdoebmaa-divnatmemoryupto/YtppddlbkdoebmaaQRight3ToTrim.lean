/-
 QRight3ToTrim: Right3, Times, Trim, joined.
-/
import Derived.Test.YtppddlbkdoebmaaQPlays3
import Derived.Test.YtppddlbkdoebmaaQDivWordToMulw
import Derived.Test.YtppddlbkdoebmaaQHWordsToMade
import Derived.Test.YtppddlbkdoebmaaQLen2ToRowsI

set_option maxRecDepth 100000
set_option maxHeartbeats 6400000
set_option linter.unusedVariables false
set_option linter.unusedSimpArgs false
namespace Go.Proofs.Ytppddlbkdoebmaa
open Go.RowKit
def Five (w : World) (b : Nat) (x0 x1 x2 x3 x4 : Value) : Prop :=
 w.cell? ⟨b,0,none⟩ = some x0 ∧ w.cell? ⟨b,1,none⟩ = some x1 ∧ w.cell? ⟨b,2,none⟩ = some x2 ∧ w.cell? ⟨b,3,none⟩ = some x3 ∧ w.cell? ⟨b,4,none⟩ = some x4
theorem Five.below {w w' : World} {b B : Nat} {x0 x1 x2 x3 x4 : Value} (h : Five w b x0 x1 x2 x3 x4) (hb : Below B w w') (hB : b < B) : Five w' b x0 x1 x2 x3 x4 :=
 ⟨(hb.cell (p := ⟨b,0,none⟩) hB).trans h.1,(hb.cell (p := ⟨b,1,none⟩) hB).trans h.2.1,(hb.cell (p := ⟨b,2,none⟩) hB).trans h.2.2.1,(hb.cell (p := ⟨b,3,none⟩) hB).trans h.2.2.2.1,(hb.cell (p := ⟨b,4,none⟩) hB).trans h.2.2.2.2⟩
theorem zNG {W : World} {b : Nat} {x0 x1 x2 x3 x4 : Value} {t : TypeId} (e : W.heap[b]? = some (.cells #[x0,x1,x2,x3,x4] t)) : Five W b x0 x1 x2 x3 x4 := by
 refine ⟨?_,?_,?_,?_,?_⟩ <;> simp [World.cell?,e]
theorem Five.new (w : World) (x0 x1 x2 x3 x4 : Value) (t : TypeId) : Five (w.alloc (.cells #[x0,x1,x2,x3,x4] t)) w.heap.size x0 x1 x2 x3 x4 := zNG (heap_alloc_new w (.cells #[x0,x1,x2,x3,x4] t))
theorem same3_yes {w : World} {q1 r1 q2 r2 : Value} {qs rs : List Int} {W N E : Int} (h1 : Sl w.heap.size w q1 qs) (h2 : Sl w.heap.size w r1 rs) (h3 : Sl w.heap.size w q2 qs) (h4 : Sl w.heap.size w r2 rs) :
  Calls Try.prog 11 #[.agg #[q1,r1,.int .u64 W,.int .i64 N,.int .i64 E],.agg #[q2,r2,.int .u64 W,.int .i64 N,.int .i64 E]] w fun e w' => e = .returned (.bool true) ∧ Below w.heap.size w w' := by
 have FA := Five.new w q1 r1 (.int .u64 W) (.int .i64 N) (.int .i64 E) 35;have BA : Below w.heap.size w (w.alloc (.cells #[q1,r1,.int .u64 W,.int .i64 N,.int .i64 E] 35)) := (Below.refl _ _).alloc (Nat.le_refl _) _;obtain ⟨wA,hwA⟩ : ∃ wA,w.alloc (.cells #[q1,r1,.int .u64 W,.int .i64 N,.int .i64 E] 35) = wA := ⟨_,rfl⟩
 have FB := Five.new wA q2 r2 (.int .u64 W) (.int .i64 N) (.int .i64 E) 35;have BB : Below wA.heap.size wA (wA.alloc (.cells #[q2,r2,.int .u64 W,.int .i64 N,.int .i64 E] 35)) := (Below.refl _ _).alloc (Nat.le_refl _) _;have hsA : wA.heap.size = w.heap.size + 1 := by rw [← hwA];simp
 rw [hwA] at FA BA;have FA2 := FA.below BB (by omega);have BAB := hid (zAA BA BB);rw [hsA] at FB;have HQ := hid (zdF (h1.now BAB.out) (h3.now BAB.out) rfl);have S2 := hid (h2.now BAB.out);have S4 := hid (h4.now BAB.out);have sB : (wA.alloc (.cells #[q2,r2,.int .u64 W,.int .i64 N,.int .i64 E] 35)).heap.size = w.heap.size + 1 + 1 := by simp [hsA]
 have HKA : Hid (∀ w',Below (wA.alloc (.cells #[q2,r2,.int .u64 W,.int .i64 N,.int .i64 E] 35)).heap.size (wA.alloc (.cells #[q2,r2,.int .u64 W,.int .i64 N,.int .i64 E] 35)) w' → Five w' w.heap.size q1 r1 (.int .u64 W) (.int .i64 N) (.int .i64 E) ∧ Five w' (w.heap.size + 1) q2 r2 (.int .u64 W) (.int .i64 N) (.int .i64 E)) := fun w' h => ⟨FA2.below h (by omega),FB.below h (by omega)⟩
 subst hwA;obtain ⟨WB,hWB⟩ : ∃ WB,(w.alloc (.cells #[q1,r1,.int .u64 W,.int .i64 N,.int .i64 E] 35)).alloc (.cells #[q2,r2,.int .u64 W,.int .i64 N,.int .i64 E] 35) = WB := ⟨_,rfl⟩
 rw [hWB] at HQ S2 S4 BAB HKA;have EW := hid hWB;obtain ⟨⟨a0,a1,a2,a3,a4⟩,⟨b0,b1,b2,b3,b4⟩⟩ := HKA.out WB (Below.refl _ _);clear h1 h2 h3 h4 FA FB FA2 BA BB hsA sB hWB;have wq : (W == W) = true := by simp
 have nq : (N == N) = true := by simp
 have eq : (E == E) = true := by simp
 go_enter Try.func11,Try.ntmps11;go_wp2_with fail;rw [EW.out];refine HQ.out.mono ?_;rintro e w3 ⟨rfl,k3⟩;obtain ⟨⟨c0,c1,c2,c3,c4⟩,⟨d0,d1,d2,d3,d4⟩⟩ := HKA.out w3 k3;have HR := hid (zdF (S2.out.now k3) (S4.out.now k3) rfl);have K3 := hid k3;clear HQ k3 a0 a1 a2 a3 a4 b0 b1 b2 b3 b4;go_wp2_with fail;refine HR.out.mono ?_;rintro e w4 ⟨rfl,k4⟩;obtain ⟨⟨e0,e1,e2,e3,e4⟩,⟨f0,f1,f2,f3,f4⟩⟩ := HKA.out w4 (zAA K3.out k4);have K4 := hid k4;clear HR k4 c0 c1 c2 c3 c4 d0 d1 d2 d3 d4;go_wp2;go_ret;exact ⟨by first | rfl | simp,zAA (zAA BAB.out K3.out) K4.out⟩
abbrev zMC := List Int → List Int → Int → Int → Int → Prop
def zAE (S : zMC) (w : World) (e : Ending) (w' : World) : Prop := ∃ qs rs W N E,S qs rs W N E ∧ Ans3 w qs rs W N E e w'
def zzA (S : zMC) : Prop := ∀ qs rs W N E qs' rs' W' N' E',S qs rs W N E → S qs' rs' W' N' E' → qs' = qs ∧ rs' = rs ∧ W' = W ∧ N' = N ∧ E' = E
theorem zoD {α : Type} (L : List α) {i n : Nat} (h : i < n) (x : α) : (L.set i x).drop n = L.drop n := by
 rw [List.drop_set,if_pos h]
theorem zHD {g : Nat} {w : World} {u : Value} {zs0 xs : List Int} {r : List Value} {o len cap : Nat} {W : Int} (hz0 : WF zs0) (hrow : Row w g (ws zs0 ++ r)) (hlz : zs0.length ≤ 35184372088832) (hx : Sl g w u xs) (hW : IsW W) (hl : o + xs.length ≤ zs0.length) (hlen : xs.length ≤ len) :
  Calls Try.prog 93 #[.slice (some ⟨g,o,none⟩) len cap,u,.int .u64 W] w fun e w' =>
   ∃ zs c,e = .returned (.int .u64 c) ∧ zs.length = zs0.length ∧ WF zs ∧ IsW c ∧ val zs + pw (o + xs.length) * c = val zs0 + pw o * (val xs * W) ∧ zs.drop (o + xs.length) = zs0.drop (o + xs.length) ∧ Row w' g (ws zs ++ r) ∧ Below g w w' := by
 obtain ⟨hwx,a,capx,rfl,hlc,hcm,hm⟩ := hx;have HV0 : Hid (val zs0 + pw (o + 0) * 0 = val zs0 + pw o * (val (xs.take 0) * W)) := by unfold Hid;simp [val]
 have HTL : Hid (xs.take xs.length = xs) := by unfold Hid;simp
 obtain ⟨m,hmz⟩ : ∃ m,m = zs0.length := ⟨_,rfl⟩
 obtain ⟨n,hnx⟩ : ∃ n,n = xs.length := ⟨_,rfl⟩
 rw [← hmz] at hl hlz;rw [← hnx] at hl hlc HTL hlen;rw [← hmz,← hnx];have HM : Hid (m = zs0.length) := hmz;have HN : Hid (n = xs.length) := hnx;clear hmz hnx;have hW' := hW;unfold IsW wB at hW';go_enter Try.func93,Try.ntmps93;go_wp2_with fail
 go_loopw [7,15] (fun c i wr => ∃ (k : Nat) (zs : List Int) (cc : Int),k ≤ n ∧ i = .int .i64 k ∧ c = .int .u64 cc ∧ IsW cc ∧ Hid (zs.length = m) ∧ WF zs ∧ Hid (val zs + pw (o + k) * cc = val zs0 + pw o * (val (xs.take k) * W)) ∧ Hid (zs.drop (o + n) = zs0.drop (o + n)) ∧ Row wr g (ws zs ++ r) ∧ Below g w wr) (fun _ i _ => n - (intOf i).toNat)
 case atStart => exact ⟨0,zs0,0,Nat.zero_le _,rfl,rfl,by unfold IsW wB;omega,HM.out.symm,hz0,HV0,rfl,hrow,Below.refl _ _⟩
 case round =>
  obtain ⟨k,zs,cc,hk,rfl,rfl,hc,HL,hwz,HV,HD,hr,hb⟩ := hrel
  by_cases hlt : k < n
  ·have hk1 : o + k < zs.length := by have := HL.out;omega
   have hk2 : k < xs.length := by have := HN.out;omega
   rcases hm with e | ⟨b,off,rfl,hbg,hcy⟩
   ·subst e;simp at hk2
   have c1 : wr.cell? ⟨g,o + k,none⟩ = some (.int .u64 zs[o + k]) := hr.word hk1;have c2 : wr.cell? ⟨b,off + k,none⟩ = some (.int .u64 xs[k]) := (hb.cell (p := ⟨b,off + k,none⟩) hbg).trans (hcy k hk2);have cf : wr.frozen? ⟨g,o + k,none⟩ = false := hr.frozen (o + k);obtain ⟨hi,lo,hhi,hlo,hmm,hmul⟩ := zxE (hwx.get hk2) hW;obtain ⟨l1,o1,hl1,ho10,ho11,hs1,hadd1⟩ := zXB hlo (hwz.get hk1) (Int.le_refl 0) (by omega);obtain ⟨l2,o2,hl2,ho20,ho21,hs2,hadd2⟩ := zXB hl1 hc (Int.le_refl 0) (by omega);obtain ⟨hb1,hb2,hsum⟩ := word_step (hwx.get hk2) hW (hwz.get hk1) hc hhi.1 hlo hmm hl1 ho10 hs1 hl2 ho20 hs2;have HV' : Hid (val (zs.set (o + k) l2) + pw (o + (k + 1)) * (hi + o1 + o2) = val zs0 + pw o * (val (xs.take (k + 1)) * W)) := times_step hk1 rfl hk2 rfl HV.out hsum;have HD' : Hid ((zs.set (o + k) l2).drop (o + n) = zs0.drop (o + n)) := by unfold Hid;rw [zoD _ (by omega)];exact HD.out
   have hwz' : WF (zs.set (o + k) l2) := hwz.set (o + k) hl2;have HR := hr.setWord hk1 l2;have HB := hb.setCell (p := ⟨g,o + k,none⟩) (Nat.le_refl _) (.int .u64 l2);have hc' : IsW (hi + o1 + o2) := ⟨by have := hhi.1;omega,hb2⟩
   have hi0 := hhi.1;unfold wB at hb1 hb2;clear hsum hs1 hs2 hmm hl1 hl2 hlo hhi;generalize zs[o + k] = x at *;generalize xs[k] = y at *;have HL' : Hid ((zs.set (o + k) l2).length = m) := by unfold Hid;rw [List.length_set];exact HL.out
   generalize zs.set (o + k) l2 = zs' at *;clear hcy hr hb hwz HV hrow HL HD hc;go_wp2_with fail;refine (hmul _).mono ?_;rintro e w1 ⟨rfl,rfl⟩;go_wp2;go_roundw
   case rel => exact ⟨k + 1,zs',hi + o1 + o2,by omega,by go_num,rfl,hc',HL',hwz',HV',HD',HR,HB⟩
   case measure => simp [intOf];omega
  ·obtain rfl : k = n := by omega
   rw [HTL.out] at HV;go_wp2;go_ret;exact ⟨zs,cc,rfl,HL.out,hwz,hc,HV.out,HD.out,hr,hb⟩
theorem wid_of_len {xs : List Int} (hw : WF xs) : ∃ b : Nat,bitLen (vn xs) = b ∧ (b + 63) / 64 = wid xs ∧ b ≤ 64 * xs.length := by
 refine ⟨_,rfl,?_⟩
 by_cases h0 : wid xs = 0
 ·rw [zYC hw h0,h0]
  exact ⟨rfl,by rw [show bitLen 0 = 0 from rfl];omega⟩
 ·obtain ⟨n,hn⟩ : ∃ n,wid xs = n + 1 := ⟨wid xs - 1,by omega⟩
  obtain ⟨hl,hne⟩ := zsC hn;have h1 := zGD hw hn hl;have h2 := zKC (zeB (hw.get hl));have h3 : 0 < bitLen xs[n].toNat := by
   unfold bitLen
   split
   ·rename_i e
    have := (hw.get hl).1;omega
   ·omega
  rw [h1,hn];exact ⟨by omega,by omega⟩
def Mine (B : Nat) (w : World) (v : Value) (zs : List Int) : Prop :=
 WF zs ∧ ((v = .slice none 0 0 ∧ zs = []) ∨ ∃ g r cap,B ≤ g ∧ zs.length ≤ 35184372088832 ∧ zs.length ≤ cap ∧ (cap = zs.length ∨ (cap = zs.length + r.length ∧ cap ≤ maxLen)) ∧ v = .slice (some ⟨g,0,none⟩) zs.length cap ∧ Row w g (ws zs ++ r))
theorem Mine.form {B : Nat} {w : World} {v : Value} {zs : List Int} (h : Mine B w v zs) : ∃ a cap,v = .slice a zs.length cap := by
 obtain ⟨_,⟨h1,h2⟩ | ⟨g,r,cap,_,_,_,_,h1,_⟩⟩ := h
 ·subst h2;exact ⟨none,0,h1⟩
 ·exact ⟨_,_,h1⟩
theorem Mine.sl {B : Nat} {w : World} {v : Value} {zs : List Int} (h : Mine B w v zs) : Sl w.heap.size w v zs := by
 obtain ⟨hw,⟨h1,h2⟩ | ⟨g,r,cap,h1,h2,h3,h4,h5,h6⟩⟩ := h
 ·subst h1 h2;exact Sl.nilAt w
 ·subst h5
  exact ⟨hw,_,cap,rfl,h3,h2,.inr ⟨g,0,rfl,h6.lt,fun j hj => by rw [Nat.zero_add];exact h6.word hj⟩⟩
theorem Mine.nil (B : Nat) (w : World) : Mine B w (.slice none 0 0) [] := ⟨WF.nil,.inl ⟨rfl,rfl⟩⟩
theorem Mine.mono {B B' : Nat} {w : World} {v : Value} {zs : List Int} (h : Mine B w v zs) (hB : B' ≤ B) : Mine B' w v zs := by
 obtain ⟨hw,h | ⟨g,r,cap,h1,h2⟩⟩ := h
 ·exact ⟨hw,.inl h⟩
 ·exact ⟨hw,.inr ⟨g,r,cap,by omega,h2⟩⟩
theorem Mine.below {B : Nat} {w w' : World} {v : Value} {zs : List Int} (h : Mine B w v zs) (hb : Below w.heap.size w w') : Mine B w' v zs := by
 obtain ⟨hw,h | ⟨g,r,cap,h1,h2,h3,h4,h5,h6⟩⟩ := h
 ·exact ⟨hw,.inl h⟩
 ·exact ⟨hw,.inr ⟨g,r,cap,h1,h2,h3,h4,h5,h6.below hb h6.lt⟩⟩
theorem zTB {B : Nat} {w : World} {a : Option Addr} {len cap : Nat} {xs : List Int} (h : Sl B w (.slice a len cap) xs) :
  Calls Try.prog 86 #[.slice a len cap] w fun e w' => e = .returned (.slice a (wid xs) (wid xs)) ∧ w' = w := by
 have HB := ztA h;obtain ⟨b,hb1,hb2,hb3⟩ := wid_of_len h.1;rw [hb1] at HB;have l1 := zIA xs;obtain ⟨hw,a',cap',he,hlc,hcm,hm⟩ := h;simp only [Value.slice.injEq] at he;obtain ⟨rfl,rfl,rfl⟩ := he;clear hm hw hb1;generalize wid xs = n at *;generalize xs.length = L at *;go_enter Try.func86,Try.ntmps86;go_wp2_with fail;refine HB.mono ?_;rintro e w1 ⟨rfl,rfl⟩;clear HB;go_wp2;go_ret;exact ⟨by rw [show (b + 64 - 1) / 64 = n by omega];rfl,rfl⟩
end Go.Proofs.Ytppddlbkdoebmaa
