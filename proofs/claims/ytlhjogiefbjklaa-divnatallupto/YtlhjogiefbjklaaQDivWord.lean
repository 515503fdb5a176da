import Derived.Test.YtlhjogiefbjklaaQDiv64
import Derived.Test.YtlhjogiefbjklaaQCarryToMade
set_option maxRecDepth 100000
set_option maxHeartbeats 6400000
set_option linter.unusedVariables false
set_option linter.unusedSimpArgs false
namespace Go.Proofs.Ytlhjogiefbjklaa
open Go.RowKit
def zHC (L zs : List Int) (k : Nat) (W r : Int) : Prop :=
 zs.length = L.length ∧ WF zs ∧ (∀ j (h : j < zs.length) (h' : j < L.length),j < k → zs[j] = L[j]) ∧ val L = val (L.take k) + pw k * (W * val (zs.drop k) + r)
theorem zHC.start {L : List Int} (hL : WF L) (W : Int) : zHC L L L.length W 0 :=
 ⟨rfl,hL,fun j _ _ _ => rfl,by simp [val]⟩
theorem zFD {zs : List Int} {k : Nat} (h : k < zs.length) (x : Int) : (zs.set k x).drop k = x :: zs.drop (k + 1) := by
 rw [List.drop_eq_getElem_cons (by simpa using h)];rw [List.getElem_set_self,List.drop_set,if_pos (by omega)]
theorem word_sum (a p x W V r q r' : Int) (h : q * W + r' = r * wB + x) : a + x * p + wB * p * (W * V + r) = a + p * (W * (q + wB * V) + r') := by
 have e : r' = r * wB + x - q * W := by omega
 subst e;simp only [Int.mul_add,Int.mul_sub,Int.mul_comm,Int.mul_left_comm];omega
theorem zHC.step {L zs : List Int} {k : Nat} {W r q r' : Int} (h : zHC L zs (k + 1) W r) (hk : k < L.length) (hq : IsW q) (he : q * W + r' = r * wB + L[k]) : zHC L (zs.set k q) k W r' := by
 obtain ⟨h1,h2,h3,h4⟩ := h;refine ⟨by rw [List.length_set];exact h1,h2.set k hq,fun j hj hj' hjk => ?_,?_⟩
 ·rw [List.getElem_set_ne (by omega)];exact h3 j (by simpa using hj) hj' (by omega)
 ·rw [h4,zFD (by omega),zOA L k hk]
  show _ = _ + pw k * (W * (q + wB * val (zs.drop (k + 1))) + r')
  exact word_sum _ _ _ _ _ _ _ _ he
theorem zHC.done {L zs : List Int} {W r : Int} (h : zHC L zs 0 W r) : val L = W * val zs + r := by
 have := h.2.2.2
 simpa [val,pw] using this
def znE (w : World) (xs : List Int) (W : Int) (e : Ending) (w' : World) : Prop :=
 ∃ zs q r,e = .returned (.tuple #[q,.int .u64 r,.int .i64 0]) ∧ Own w.heap.size w' q zs ∧ zEA zs ∧ IsW r ∧ r < W ∧ val xs = W * val zs + r ∧ zs.length ≤ wid xs ∧ Below w.heap.size w w'
theorem zvA {w : World} {v : Value} {xs : List Int} (h : Sl w.heap.size w v xs) :
  Calls Try.prog 18 #[v] w fun e w' => ∃ r,e = .returned r ∧ Own w.heap.size w' r (lst xs) ∧ Below w.heap.size w w' :=
 (least_any h).mono fun e w' ⟨h1,h2,h3,h4⟩ => by
  have hx := h.1;obtain ⟨_,a,cap,_,h6,h7,_⟩ := h;have := zGA xs;refine ⟨_,h1,⟨(canon_lst hx).1,.inr ⟨w.heap.size,[],Nat.le_refl _,?_,?_,?_⟩⟩,h3⟩
  ·simp [length_lst];omega
  ·simp [length_lst]
  ·simpa using h2
theorem divWord_zero (v : Value) (w : World) :
  Calls Try.prog 8 #[v,.int .u64 0] w fun e w' => e = .returned (.tuple #[.slice none 0 0,.int .u64 0,.int .i64 4]) ∧ w' = w := by
 go_enter Try.func8,Try.ntmps8;go_wp2;go_ret3;exact ⟨rfl,rfl⟩
theorem zsA {w : World} {v : Value} {xs : List Int} {W : Int} (h : Sl w.heap.size w v xs) (hW : IsW W) (h0 : 0 < W) :
  Calls Try.prog 8 #[v,.int .u64 W] w (znE w xs W) := by
 have HLE := least_any h;have hx := h.1;have hwb : (W == 0) = false := by rw [beq_eq_false_iff_ne];omega
 have HLL := hid (length_lst xs);have HWL := hid (canon_lst hx).1;have HVL := hid (val_lst xs);have l1 := zGA xs;have hcm : wid xs ≤ 35184372088832 := by
  obtain ⟨_,a,cap,_,_,h7,_⟩ := h;omega
 have HST := hid (zHC.start (canon_lst hx).1 W);rw [length_lst] at HST;have HX := hid (show znE w xs W = znE w xs W from rfl);generalize lst xs = L at *;obtain ⟨n,hn⟩ : ∃ n,n = wid xs := ⟨_,rfl⟩
 rw [← hn] at HLE HLL HST hcm l1;have HN := hid hn;clear h hx hn HX;go_enter Try.func8,Try.ntmps8;go_wp2_with fail;refine HLE.mono ?_;rintro e w1 ⟨rfl,hrow,hb1,hsz1⟩;clear HLE;have hr1 := hid hrow;have hb1' := hid hb1;clear hrow hb1;go_wp2_with fail
 go_loopw [8,9] (fun c i wr => ∃ (k : Nat) (zs : List Int) (r : Int),k ≤ n ∧ i = .int .i64 ((k : Int) - 1) ∧ c = .int .u64 r ∧ 0 ≤ r ∧ r < W ∧ Hid (zHC L zs k W r) ∧ Row wr w.heap.size (ws zs) ∧ Below w.heap.size w wr) (fun _ i _ => (intOf i + 1).toNat)
 case atStart => exact ⟨n,L,0,Nat.le_refl _,rfl,rfl,by omega,h0,HST,hr1.out,hb1'.out⟩
 case round =>
  clear HST hr1 hb1' hsz1;obtain ⟨k,zs,r,hk,rfl,rfl,hr0,hrW,HA,hr,hb⟩ := hrel;have hzl : zs.length = n := HA.out.1.trans HLL.out
  by_cases hk0 : k = 0
  ·subst hk0
   have hwz := HA.out.2.1;have hsl := Row.sl (r := []) (by simpa using hr) hwz (cap := n) (by rw [hzl];exact Nat.le_refl _) (by omega) hr.lt;rw [hzl] at hsl;have HL2 := hid (zvA hsl);clear hsl;go_wp2_with fail;refine HL2.out.mono ?_;rintro e w2 ⟨v2,rfl,ho,hb2⟩;have HO := hid ho;have HB := hid hb2;clear ho hb2;go_wp2;go_ret3;refine ⟨lst zs,v2,r,rfl,?_,canon_lst hwz,⟨hr0,Int.lt_trans hrW hW.2⟩,hrW,?_,?_,hb.trans (HB.out.mono hb.size)⟩
   ·obtain ⟨a1,a2 | ⟨g,rr,a2,a3⟩⟩ := HO.out
    ·exact ⟨a1,.inl a2⟩
    ·exact ⟨a1,.inr ⟨g,rr,Nat.le_trans hb.size a2,a3⟩⟩
   ·rw [← HVL.out,val_lst];exact HA.out.done
   ·rw [length_lst,← HN.out,← hzl];exact zGA _
  ·obtain ⟨j,rfl⟩ : ∃ j,k = j + 1 := ⟨k - 1,by omega⟩
   have hj1 : j < zs.length := by omega
   have hj2 : j < L.length := by have := HLL.out;omega
   have hzj : zs[j] = L[j] := HA.out.2.2.1 j hj1 hj2 (by omega);have c1 : ∀ q,(wr.drewN q).cell? ⟨w.heap.size,j,none⟩ = some (.int .u64 L[j]) := fun q => by
    have := Row.word (r := []) (by simpa using hr.drewN q) hj1;rw [hzj] at this;exact this
   have c1' : wr.cell? ⟨w.heap.size,j,none⟩ = some (.int .u64 L[j]) := c1 0;have cf : ∀ q,(wr.drewN q).frozen? ⟨w.heap.size,j,none⟩ = false := fun q => (hr.drewN q).frozen j
   obtain ⟨q,r',hq,hr0',hrW',he,hdiv⟩ := zEE ⟨hr0,Int.lt_trans hrW hW.2⟩ (HWL.out.get hj2) hW hrW;have HA' := hid (HA.out.step hj2 hq he);have HR : Hid (∀ m,Row ((wr.drewN m).setCell ⟨w.heap.size,j,none⟩ (.int .u64 q)) w.heap.size (ws (zs.set j q))) := fun m => by
    have := Row.setWord (r := []) (by simpa using hr.drewN m) hj1 q
    simpa using this
   have HB : Hid (∀ m,Below w.heap.size w ((wr.drewN m).setCell ⟨w.heap.size,j,none⟩ (.int .u64 q))) := fun m =>
    (below_drewN hb m).setCell (p := ⟨w.heap.size,j,none⟩) (Nat.le_refl _) (.int .u64 q)
   have ej : ((j + 1 : Nat) : Int) - 1 = (j : Int) := by omega
   have i0 : (0 : Int) ≤ (j : Int) := by omega
   have i2 : (j : Int) < (n : Int) := by omega
   clear hzj hr hb HA hj1 he;generalize L[j] = x at *;generalize zs.set j q = zs' at *;go_wp2_with fail;refine (hdiv _).mono ?_;rintro e w2 ⟨rfl,m,rfl⟩;go_wp2;go_roundw
   case rel => exact ⟨j,zs',r',by omega,by go_num,rfl,hr0',hrW',HA',HR.out _,HB.out _⟩
   case measure => simp [intOf]
end Go.Proofs.Ytlhjogiefbjklaa
