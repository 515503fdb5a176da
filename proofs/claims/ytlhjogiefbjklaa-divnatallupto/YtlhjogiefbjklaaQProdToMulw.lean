/-
 QProdToMulw: Prod, Mulw, joined.
-/
import Derived.Test.YtlhjogiefbjklaaQWords
import Derived.Test.YtlhjogiefbjklaaQCarryToMade
import Derived.Shelf.Bits.Mul64

set_option maxRecDepth 100000
set_option maxHeartbeats 6400000
set_option linter.unusedVariables false
set_option linter.unusedSimpArgs false
namespace Go.Proofs.Ytlhjogiefbjklaa
theorem zOC : ∀ m n : Nat,pw (m + n) = pw m * pw n
 | 0,n => by simp [pw]
 | m + 1,n => by rw [show m + 1 + n = (m + n) + 1 by omega,pw,pw,zOC m n,Int.mul_assoc]
theorem pw_up {m n : Nat} (h : m ≤ n) : pw m ≤ pw n := by
 obtain ⟨k,rfl⟩ : ∃ k,n = m + k := ⟨n - m,by omega⟩
 rw [zOC];have h1 := zhA m;have h2 := zhA k;have := Int.mul_le_mul_of_nonneg_left (show 1 ≤ pw k by omega) (Int.le_of_lt h1);omega
theorem ztD : ∀ {xs : List Int} {n : Nat},WF xs → wid xs = n + 1 → pw n ≤ val xs
 | [],n,_,h => by simp [wid] at h
 | x :: r,n,hw,h => by
  have h1 := hw.head;have h2 := val_nonneg hw.tail;unfold IsW wB at h1;unfold wid at h
  split at h
  ·split at h
   ·omega
   ·have : n = 0 := by omega
    subst this;unfold val pw wB;omega
  ·obtain ⟨m,rfl⟩ : ∃ m,n = m + 1 := ⟨n - 1,by omega⟩
   have := ztD (n := m) hw.tail (by omega);unfold val pw wB;omega
theorem wid_len {xs : List Int} (h : WF xs) {n : Nat} (hv : val xs < pw n) : wid xs ≤ n := by
 by_cases q : wid xs ≤ n
 ·exact q
 ·exfalso
  obtain ⟨m,hm⟩ : ∃ m,wid xs = m + 1 := ⟨wid xs - 1,by omega⟩
  have := ztD h hm;have := pw_up (show n ≤ m by omega);omega
theorem zRB {xs : List Int} (h : zEA xs) {n : Nat} (hv : val xs < pw n) : xs.length ≤ n := by
 have := wid_len h.1 hv;rw [h.2] at this;exact this
theorem zjB : ∀ {xs ys : List Int},WF xs → zEA ys → ys ≠ [] → zEA (xs ++ ys)
 | [],ys,_,hy,_ => hy
 | x :: r,ys,hx,hy,hne => by
  have ih := zjB hx.tail hy hne;refine ⟨WF.cons hx.head ih.1,?_⟩;have h0 : wid (r ++ ys) ≠ 0 := by
   rw [ih.2];cases ys
   ·exact absurd rfl hne
   ·simp
  rw [List.cons_append,wid,if_neg h0,ih.2]
  simp
theorem canon_nil : zEA [] := ⟨WF.nil,rfl⟩
theorem zjD {xs : List Int} (h : 0 < val xs) : xs ≠ [] := by
 intro e;subst e;simp [val] at h
theorem zGC {xs : List Int} (h : zEA xs) (hne : xs ≠ []) : 0 < val xs := by
 refine zZA h.1 ?_;rw [h.2];cases xs
 ·exact absurd rfl hne
 ·simp
theorem WF.rest {xs : List Int} (h : WF xs) (n : Nat) : WF (xs.drop n) := fun x hx => h x (List.mem_of_mem_drop hx)
theorem zmB (n : Nat) : WF (List.replicate n 0) := by
 intro x hx;rw [(List.mem_replicate.1 hx).2];unfold IsW wB;omega
theorem zeB : ∀ n : Nat,val (List.replicate n 0) = 0
 | 0 => rfl
 | n + 1 => by rw [List.replicate_succ,val,zeB n];omega
theorem val_halves (xs : List Int) {n : Nat} (h : n ≤ xs.length) : val xs = val (xs.take n) + pw n * val (xs.drop n) := by
 have := zbA (xs.take n) (xs.drop n);rw [List.take_append_drop,List.length_take,Nat.min_eq_left h] at this;exact this
theorem zsB : ∀ {xs : List Int} (n : Nat),zEA xs → zEA (xs.drop n)
 | xs,0,h => by simpa using h
 | [],n + 1,h => by simpa using h
 | x :: r,n + 1,h => by simpa using zsB n (zSC h)
theorem zgD (xs ys : List Int) {n : Nat} (h : xs.length ≤ n) : val (xs ++ List.replicate (n - xs.length) 0 ++ ys) = val xs + pw n * val ys := by
 rw [zbA,zbA,zeB,List.length_append,List.length_replicate,show xs.length + (n - xs.length) = n by omega];omega
theorem zTC {xs ys : List Int} (n : Nat) (hx : WF xs) (hy : zEA ys) (hne : ys ≠ []) : zEA (xs ++ List.replicate (n - xs.length) 0 ++ ys) :=
 zjB (hx.append (zmB _)) hy hne
theorem zOB {xs ys : List Int} (hx : WF xs) (hy : WF ys) : val xs * val ys < pw (xs.length + ys.length) := by
 rw [zOC];have h1 := zVA hx;have h2 := zVA hy;have h3 := val_nonneg hx;have h4 := val_nonneg hy;have h5 := Int.mul_le_mul (Int.le_of_lt h1) (Int.le_of_lt h2) h4 (Int.le_trans h3 (Int.le_of_lt h1))
 by_cases q : val ys = 0
 ·rw [q]
  have := zhA xs.length;have := zhA ys.length;have := Int.mul_pos (zhA xs.length) (zhA ys.length);omega
 ·have := Int.mul_lt_mul_of_pos_right h1 (show 0 < val ys by omega)
  have h6 := Int.mul_le_mul_of_nonneg_left (Int.le_of_lt h2) (Int.le_of_lt (zhA xs.length));omega
theorem zuB {v w : Int} (hv : IsW v) (hw : IsW w) : 0 ≤ v * w ∧ v * w ≤ 340282366920938463426481119284349108225 := by
 unfold IsW wB at hv hw;refine ⟨Int.mul_nonneg hv.1 hw.1,?_⟩;have := Int.mul_le_mul (show v ≤ 18446744073709551615 by omega) (show w ≤ 18446744073709551615 by omega) hw.1 (by omega);omega
theorem word_step {v w s c hi lo l1 o1 l2 o2 : Int} (hv : IsW v) (hw : IsW w) (hs : IsW s) (hc : IsW c) (h0 : 0 ≤ hi) (hlo : IsW lo) (hm : lo + wB * hi = v * w)
  (hl1 : IsW l1) (ho1 : 0 ≤ o1) (e1 : l1 + wB * o1 = lo + s + 0) (hl2 : IsW l2) (ho2 : 0 ≤ o2) (e2 : l2 + wB * o2 = l1 + c + 0) :
  hi + o1 < wB ∧ hi + o1 + o2 < wB ∧ l2 + wB * (hi + o1 + o2) = v * w + s + c := by
 have := zuB hv hw;generalize v * w = p at *;unfold IsW wB at *;refine ⟨by omega,by omega,by omega⟩
theorem times_step {xs zs : List Int} {V v w s c l h : Int} {o k : Nat} (hk : o + k < zs.length) (hs : zs[o + k] = s) (hx : k < xs.length) (hxv : xs[k] = v)
  (hv : val zs + pw (o + k) * c = V + pw o * (val (xs.take k) * w)) (hl : l + wB * h = v * w + s + c) :
  val (zs.set (o + k) l) + pw (o + (k + 1)) * h = V + pw o * (val (xs.take (k + 1)) * w) := by
 rw [zwA zs (o + k) l hk,hs,zOA xs k hx,hxv,show o + (k + 1) = (o + k) + 1 by omega,pw];rw [zOC] at hv ⊢;generalize pw o = P at *;generalize pw k = K at *;generalize val zs = Z at *;generalize val (xs.take k) = X at *;have e : l = v * w + s + c - wB * h := by omega
 subst e
 grind
theorem rows_step {xs ys zs zs' : List Int} {w c : Int} {i n : Nat} (hi : i < ys.length) (hw : ys[i] = w) (hz : val zs = val xs * val (ys.take i)) (h' : val zs' + pw (i + n) * c = val zs + pw i * (val xs * w))
  (hk : i + n < zs'.length) (h0 : zs'[i + n] = 0) : val (zs'.set (i + n) c) = val xs * val (ys.take (i + 1)) := by
 rw [zwA zs' (i + n) c hk,h0,zOA ys i hi,hw]
 grind
theorem two_halves {a b la ha p l c z h : Int} {n : Nat} (ea : a = la + pw n * ha) (ep : p = la * b) (es : p = l + pw n * c) (ez : z = ha * b + c) (eh : h = l + pw n * z) : h = a * b := by
 subst ea ez eh
 grind
theorem four_halves {a b la ha lb hb ll hh sa sb ss t x l c y m c' z r : Int} {n : Nat} (ea : a = la + pw n * ha) (eb : b = lb + pw n * hb) (ell : ll = la * lb) (ehh : hh = ha * hb)
  (esa : sa = la + ha) (esb : sb = lb + hb) (ess : ss = sa * sb) (et : t = ll + hh) (ex : x = ss - t) (el : ll = l + pw n * c) (ey : y = x + c) (em : y = m + pw n * c') (ez : z = hh + c')
  (er : r = l + pw n * (m + pw n * z)) : r = a * b := by
 generalize pw n = P at *;subst ea eb ehh esa esb ess et ex ez er
 grind
theorem cross_nonneg {la ha lb hb : Int} (h1 : 0 ≤ la) (h2 : 0 ≤ ha) (h3 : 0 ≤ lb) (h4 : 0 ≤ hb) : la * lb + ha * hb ≤ (la + ha) * (lb + hb) := by
 have := Int.mul_nonneg h1 h4;have := Int.mul_nonneg h2 h3;rw [Int.add_mul,Int.mul_add,Int.mul_add];omega
open Go.RowKit
theorem mul64_nat (x y : Nat) (hx : x < 18446744073709551616) (hy : y < 18446744073709551616) (w : World) :
  Calls Try.prog 82 #[.int .u64 x,.int .u64 y] w fun e w' => e = .returned (.tuple #[.int .u64 ((x * y / 18446744073709551616 : Nat) : Int),.int .u64 ((x * y % 18446744073709551616 : Nat) : Int)]) ∧ w' = w := by
 obtain ⟨bd,bt,bw,hhi⟩ := Lib.mul64_hi x y hx hy;have ba := Lib.half_mul_le (a := x / 4294967296) (b := y / 4294967296) (by omega) (by omega);have bb := Lib.half_mul_le (a := x / 4294967296) (b := y % 4294967296) (by omega) (by omega);have bc := Lib.half_mul_le (a := x % 4294967296) (b := y / 4294967296) (by omega) (by omega);have ba' : x / 4294967296 * (y / 4294967296) < 18446744073709551616 := by omega
 have bb' : x / 4294967296 * (y % 4294967296) < 18446744073709551616 := by omega
 have bc' : x % 4294967296 * (y / 4294967296) < 18446744073709551616 := by omega
 have bh1 : x / 4294967296 * (y / 4294967296) + (x / 4294967296 * (y % 4294967296) + x % 4294967296 * (y % 4294967296) / 4294967296) / 4294967296 < 18446744073709551616 := by omega
 have bh : x / 4294967296 * (y / 4294967296) + (x / 4294967296 * (y % 4294967296) + x % 4294967296 * (y % 4294967296) / 4294967296) / 4294967296 + ((x / 4294967296 * (y % 4294967296) + x % 4294967296 * (y % 4294967296) / 4294967296) % 4294967296 + x % 4294967296 * (y / 4294967296)) / 4294967296 < 18446744073709551616 := by omega
 go_enter Try.func82,Try.ntmps82;go_wp2;simp only [Mul64.maskN x hx,Mul64.maskN y hy,Mul64.divN,Mul64.mulN,Mul64.addN,Mul64.wrapN _ bd,Mul64.wrapN _ bb',Mul64.wrapN _ bt,Mul64.maskN _ bt,Mul64.wrapN _ bc',Mul64.wrapN _ bw,Mul64.wrapN _ ba',Mul64.wrapN _ bh1,Mul64.wrapN _ bh,Mul64.wrapM (x * y)];rw [hhi];go_ret2;exact ⟨rfl,rfl⟩
theorem zwD {x y : Int} (hx : IsW x) (hy : IsW y) :
  ∃ hi lo,IsW hi ∧ IsW lo ∧ lo + wB * hi = x * y ∧
   ∀ w : World,Calls Try.prog 82 #[.int .u64 x,.int .u64 y] w fun e w' => e = .returned (.tuple #[.int .u64 hi,.int .u64 lo]) ∧ w' = w := by
 have hle := zuB hx hy;unfold IsW wB at hx hy;obtain ⟨X,rfl⟩ := Int.eq_ofNat_of_zero_le hx.1;obtain ⟨Y,rfl⟩ := Int.eq_ofNat_of_zero_le hy.1;rw [← Int.natCast_mul] at hle;refine ⟨((X * Y / 18446744073709551616 : Nat) : Int),((X * Y % 18446744073709551616 : Nat) : Int),?_,?_,?_,fun w => mul64_nat X Y (by omega) (by omega) w⟩
 ·unfold IsW wB;omega
 ·unfold IsW wB;omega
 ·rw [← Int.natCast_mul]
  unfold wB;omega
end Go.Proofs.Ytlhjogiefbjklaa
