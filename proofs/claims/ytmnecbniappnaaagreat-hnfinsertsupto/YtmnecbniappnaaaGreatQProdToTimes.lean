/-
 QProdToTimes: Prod, Mulw, Times, joined.
-/
import Derived.Test.YtmnecbniappnaaaGreatQWordsToCarry
import Derived.Shelf.Bits.Mul64

set_option maxRecDepth 100000
set_option maxHeartbeats 6400000
set_option linter.unusedVariables false
set_option linter.unusedSimpArgs false
namespace Go.Proofs.YtmnecbniappnaaaGreat
theorem zLB : ∀ m n : Nat,pw (m + n) = pw m * pw n
 | 0,n => by simp [pw]
 | m + 1,n => by rw [show m + 1 + n = (m + n) + 1 by omega,pw,pw,zLB m n,Int.mul_assoc]
theorem zqG {m n : Nat} (h : m ≤ n) : pw m ≤ pw n := by
 obtain ⟨k,rfl⟩ : ∃ k,n = m + k := ⟨n - m,by omega⟩
 rw [zLB];have h1 := zjA m;have h2 := zjA k;have := Int.mul_le_mul_of_nonneg_left (show 1 ≤ pw k by omega) (Int.le_of_lt h1);omega
theorem zIF : ∀ {xs : List Int} {n : Nat},WF xs → wid xs = n + 1 → pw n ≤ val xs
 | [],n,_,h => by simp [wid] at h
 | x :: r,n,hw,h => by
  have h1 := hw.head;have h2 := zIA hw.tail;unfold IsW wB at h1;unfold wid at h
  split at h
  ·split at h
   ·omega
   ·have : n = 0 := by omega
    subst this;unfold val pw wB;omega
  ·obtain ⟨m,rfl⟩ : ∃ m,n = m + 1 := ⟨n - 1,by omega⟩
   have := zIF (n := m) hw.tail (by omega);unfold val pw wB;omega
theorem wid_len {xs : List Int} (h : WF xs) {n : Nat} (hv : val xs < pw n) : wid xs ≤ n := by
 by_cases q : wid xs ≤ n
 ·exact q
 ·exfalso
  obtain ⟨m,hm⟩ : ∃ m,wid xs = m + 1 := ⟨wid xs - 1,by omega⟩
  have := zIF h hm;have := zqG (show n ≤ m by omega);omega
theorem zrA {xs : List Int} (h : zLA xs) {n : Nat} (hv : val xs < pw n) : xs.length ≤ n := by
 have := wid_len h.1 hv;rw [h.2] at this;exact this
theorem zID : ∀ {xs ys : List Int},WF xs → zLA ys → ys ≠ [] → zLA (xs ++ ys)
 | [],ys,_,hy,_ => hy
 | x :: r,ys,hx,hy,hne => by
  have ih := zID hx.tail hy hne;refine ⟨WF.cons hx.head ih.1,?_⟩;have h0 : wid (r ++ ys) ≠ 0 := by
   rw [ih.2];cases ys
   ·exact absurd rfl hne
   ·simp
  rw [List.cons_append,wid,if_neg h0,ih.2]
  simp
theorem zaF : zLA [] := ⟨WF.nil,rfl⟩
theorem zQG {xs : List Int} (h : 0 < val xs) : xs ≠ [] := by
 intro e;subst e;simp [val] at h
theorem zpC {xs : List Int} (h : zLA xs) (hne : xs ≠ []) : 0 < val xs := by
 refine zvA h.1 ?_;rw [h.2];cases xs
 ·exact absurd rfl hne
 ·simp
theorem WF.rest {xs : List Int} (h : WF xs) (n : Nat) : WF (xs.drop n) := fun x hx => h x (List.mem_of_mem_drop hx)
theorem zhE (n : Nat) : WF (List.replicate n 0) := by
 intro x hx;rw [(List.mem_replicate.1 hx).2];unfold IsW wB;omega
theorem zYD : ∀ n : Nat,val (List.replicate n 0) = 0
 | 0 => rfl
 | n + 1 => by rw [List.replicate_succ,val,zYD n];omega
theorem val_halves (xs : List Int) {n : Nat} (h : n ≤ xs.length) : val xs = val (xs.take n) + pw n * val (xs.drop n) := by
 have := znA (xs.take n) (xs.drop n);rw [List.take_append_drop,List.length_take,Nat.min_eq_left h] at this;exact this
theorem zIC : ∀ {xs : List Int} (n : Nat),zLA xs → zLA (xs.drop n)
 | xs,0,h => by simpa using h
 | [],n + 1,h => by simpa using h
 | x :: r,n + 1,h => by simpa using zIC n (zCD h)
theorem zjE (xs ys : List Int) {n : Nat} (h : xs.length ≤ n) : val (xs ++ List.replicate (n - xs.length) 0 ++ ys) = val xs + pw n * val ys := by
 rw [znA,znA,zYD,List.length_append,List.length_replicate,show xs.length + (n - xs.length) = n by omega];omega
theorem zDD {xs ys : List Int} (n : Nat) (hx : WF xs) (hy : zLA ys) (hne : ys ≠ []) : zLA (xs ++ List.replicate (n - xs.length) 0 ++ ys) :=
 zID (hx.append (zhE _)) hy hne
theorem zeB {xs ys : List Int} (hx : WF xs) (hy : WF ys) : val xs * val ys < pw (xs.length + ys.length) := by
 rw [zLB];have h1 := zUA hx;have h2 := zUA hy;have h3 := zIA hx;have h4 := zIA hy;have h5 := Int.mul_le_mul (Int.le_of_lt h1) (Int.le_of_lt h2) h4 (Int.le_trans h3 (Int.le_of_lt h1))
 by_cases q : val ys = 0
 ·rw [q]
  have := zjA xs.length;have := zjA ys.length;have := Int.mul_pos (zjA xs.length) (zjA ys.length);omega
 ·have := Int.mul_lt_mul_of_pos_right h1 (show 0 < val ys by omega)
  have h6 := Int.mul_le_mul_of_nonneg_left (Int.le_of_lt h2) (Int.le_of_lt (zjA xs.length));omega
theorem zLC {v w : Int} (hv : IsW v) (hw : IsW w) : 0 ≤ v * w ∧ v * w ≤ 340282366920938463426481119284349108225 := by
 unfold IsW wB at hv hw;refine ⟨Int.mul_nonneg hv.1 hw.1,?_⟩;have := Int.mul_le_mul (show v ≤ 18446744073709551615 by omega) (show w ≤ 18446744073709551615 by omega) hw.1 (by omega);omega
theorem word_step {v w s c hi lo l1 o1 l2 o2 : Int} (hv : IsW v) (hw : IsW w) (hs : IsW s) (hc : IsW c) (h0 : 0 ≤ hi) (hlo : IsW lo) (hm : lo + wB * hi = v * w)
  (hl1 : IsW l1) (ho1 : 0 ≤ o1) (e1 : l1 + wB * o1 = lo + s + 0) (hl2 : IsW l2) (ho2 : 0 ≤ o2) (e2 : l2 + wB * o2 = l1 + c + 0) :
  hi + o1 < wB ∧ hi + o1 + o2 < wB ∧ l2 + wB * (hi + o1 + o2) = v * w + s + c := by
 have := zLC hv hw;generalize v * w = p at *;unfold IsW wB at *;refine ⟨by omega,by omega,by omega⟩
theorem times_step {xs zs : List Int} {V v w s c l h : Int} {o k : Nat} (hk : o + k < zs.length) (hs : zs[o + k] = s) (hx : k < xs.length) (hxv : xs[k] = v)
  (hv : val zs + pw (o + k) * c = V + pw o * (val (xs.take k) * w)) (hl : l + wB * h = v * w + s + c) :
  val (zs.set (o + k) l) + pw (o + (k + 1)) * h = V + pw o * (val (xs.take (k + 1)) * w) := by
 rw [zQB zs (o + k) l hk,hs,zKA xs k hx,hxv,show o + (k + 1) = (o + k) + 1 by omega,pw];rw [zLB] at hv ⊢;generalize pw o = P at *;generalize pw k = K at *;generalize val zs = Z at *;generalize val (xs.take k) = X at *;have e : l = v * w + s + c - wB * h := by omega
 subst e
 grind
theorem rows_step {xs ys zs zs' : List Int} {w c : Int} {i n : Nat} (hi : i < ys.length) (hw : ys[i] = w) (hz : val zs = val xs * val (ys.take i)) (h' : val zs' + pw (i + n) * c = val zs + pw i * (val xs * w))
  (hk : i + n < zs'.length) (h0 : zs'[i + n] = 0) : val (zs'.set (i + n) c) = val xs * val (ys.take (i + 1)) := by
 rw [zQB zs' (i + n) c hk,h0,zKA ys i hi,hw]
 grind
theorem two_halves {a b la ha p l c z h : Int} {n : Nat} (ea : a = la + pw n * ha) (ep : p = la * b) (es : p = l + pw n * c) (ez : z = ha * b + c) (eh : h = l + pw n * z) : h = a * b := by
 subst ea ez eh
 grind
theorem four_halves {a b la ha lb hb ll hh sa sb ss t x l c y m c' z r : Int} {n : Nat} (ea : a = la + pw n * ha) (eb : b = lb + pw n * hb) (ell : ll = la * lb) (ehh : hh = ha * hb)
  (esa : sa = la + ha) (esb : sb = lb + hb) (ess : ss = sa * sb) (et : t = ll + hh) (ex : x = ss - t) (el : ll = l + pw n * c) (ey : y = x + c) (em : y = m + pw n * c') (ez : z = hh + c')
  (er : r = l + pw n * (m + pw n * z)) : r = a * b := by
 generalize pw n = P at *;subst ea eb ehh esa esb ess et ex ez er
 grind
theorem cross_nonneg {la ha lb hb : Int} (h1 : 0 ≤ la) (h2 : 0 ≤ ha) (h3 : 0 ≤ lb) (h4 : 0 ≤ hb) : la * lb + ha * hb ≤ (la + ha) * (lb + hb) := by
 have := Int.mul_nonneg h1 h4;have := Int.mul_nonneg h2 h3;rw [Int.add_mul,Int.mul_add,Int.mul_add];omega
open Go.RowKit
theorem mul64_nat (x y : Nat) (hx : x < 18446744073709551616) (hy : y < 18446744073709551616) (w : World) :
  Calls Tryz.prog 131 #[.int .u64 x,.int .u64 y] w fun e w' => e = .returned (.tuple #[.int .u64 ((x * y / 18446744073709551616 : Nat) : Int),.int .u64 ((x * y % 18446744073709551616 : Nat) : Int)]) ∧ w' = w := by
 obtain ⟨bd,bt,bw,hhi⟩ := Lib.mul64_hi x y hx hy;have ba := Lib.half_mul_le (a := x / 4294967296) (b := y / 4294967296) (by omega) (by omega);have bb := Lib.half_mul_le (a := x / 4294967296) (b := y % 4294967296) (by omega) (by omega);have bc := Lib.half_mul_le (a := x % 4294967296) (b := y / 4294967296) (by omega) (by omega);have ba' : x / 4294967296 * (y / 4294967296) < 18446744073709551616 := by omega
 have bb' : x / 4294967296 * (y % 4294967296) < 18446744073709551616 := by omega
 have bc' : x % 4294967296 * (y / 4294967296) < 18446744073709551616 := by omega
 have bh1 : x / 4294967296 * (y / 4294967296) + (x / 4294967296 * (y % 4294967296) + x % 4294967296 * (y % 4294967296) / 4294967296) / 4294967296 < 18446744073709551616 := by omega
 have bh : x / 4294967296 * (y / 4294967296) + (x / 4294967296 * (y % 4294967296) + x % 4294967296 * (y % 4294967296) / 4294967296) / 4294967296 + ((x / 4294967296 * (y % 4294967296) + x % 4294967296 * (y % 4294967296) / 4294967296) % 4294967296 + x % 4294967296 * (y / 4294967296)) / 4294967296 < 18446744073709551616 := by omega
 go_enter Tryz.func131,Tryz.ntmps131;go_wp2;simp only [Mul64.maskN x hx,Mul64.maskN y hy,Mul64.divN,Mul64.mulN,Mul64.addN,Mul64.wrapN _ bd,Mul64.wrapN _ bb',Mul64.wrapN _ bt,Mul64.maskN _ bt,Mul64.wrapN _ bc',Mul64.wrapN _ bw,Mul64.wrapN _ ba',Mul64.wrapN _ bh1,Mul64.wrapN _ bh,Mul64.wrapM (x * y)];rw [hhi];go_ret2;exact ⟨rfl,rfl⟩
theorem zKF {x y : Int} (hx : IsW x) (hy : IsW y) :
  ∃ hi lo,IsW hi ∧ IsW lo ∧ lo + wB * hi = x * y ∧
   ∀ w : World,Calls Tryz.prog 131 #[.int .u64 x,.int .u64 y] w fun e w' => e = .returned (.tuple #[.int .u64 hi,.int .u64 lo]) ∧ w' = w := by
 have hle := zLC hx hy;unfold IsW wB at hx hy;obtain ⟨X,rfl⟩ := Int.eq_ofNat_of_zero_le hx.1;obtain ⟨Y,rfl⟩ := Int.eq_ofNat_of_zero_le hy.1;rw [← Int.natCast_mul] at hle;refine ⟨((X * Y / 18446744073709551616 : Nat) : Int),((X * Y % 18446744073709551616 : Nat) : Int),?_,?_,?_,fun w => mul64_nat X Y (by omega) (by omega) w⟩
 ·unfold IsW wB;omega
 ·unfold IsW wB;omega
 ·rw [← Int.natCast_mul]
  unfold wB;omega
theorem zwD {α : Type} (L : List α) {i n : Nat} (h : i < n) (x : α) : (L.set i x).drop n = L.drop n := by
 rw [List.drop_set,if_pos h]
theorem addTimes_any {g : Nat} {w : World} {u : Value} {zs0 xs : List Int} {r : List Value} {o len cap : Nat} {W : Int} (hz0 : WF zs0) (hrow : Row w g (ws zs0 ++ r)) (hlz : zs0.length ≤ 35184372088832) (hx : Sl g w u xs) (hW : IsW W) (hl : o + xs.length ≤ zs0.length) (hlen : xs.length ≤ len) :
  Calls Tryz.prog 123 #[.slice (some ⟨g,o,none⟩) len cap,u,.int .u64 W] w fun e w' =>
   ∃ zs c,e = .returned (.int .u64 c) ∧ zs.length = zs0.length ∧ WF zs ∧ IsW c ∧ val zs + pw (o + xs.length) * c = val zs0 + pw o * (val xs * W) ∧ zs.drop (o + xs.length) = zs0.drop (o + xs.length) ∧ Row w' g (ws zs ++ r) ∧ Below g w w' := by
 obtain ⟨hwx,a,capx,rfl,hlc,hcm,hm⟩ := hx;have HV0 : Hid (val zs0 + pw (o + 0) * 0 = val zs0 + pw o * (val (xs.take 0) * W)) := by unfold Hid;simp [val]
 have HTL : Hid (xs.take xs.length = xs) := by unfold Hid;simp
 obtain ⟨m,hmz⟩ : ∃ m,m = zs0.length := ⟨_,rfl⟩
 obtain ⟨n,hnx⟩ : ∃ n,n = xs.length := ⟨_,rfl⟩
 rw [← hmz] at hl hlz;rw [← hnx] at hl hlc HTL hlen;rw [← hmz,← hnx];have HM : Hid (m = zs0.length) := hmz;have HN : Hid (n = xs.length) := hnx;clear hmz hnx;have hW' := hW;unfold IsW wB at hW';go_enter Tryz.func123,Tryz.ntmps123;go_wp2_with fail
 go_loopw [7,15] (fun c i wr => ∃ (k : Nat) (zs : List Int) (cc : Int),k ≤ n ∧ i = .int .i64 k ∧ c = .int .u64 cc ∧ IsW cc ∧ Hid (zs.length = m) ∧ WF zs ∧ Hid (val zs + pw (o + k) * cc = val zs0 + pw o * (val (xs.take k) * W)) ∧ Hid (zs.drop (o + n) = zs0.drop (o + n)) ∧ Row wr g (ws zs ++ r) ∧ Below g w wr) (fun _ i _ => n - (intOf i).toNat)
 case atStart => exact ⟨0,zs0,0,Nat.zero_le _,rfl,rfl,by unfold IsW wB;omega,HM.out.symm,hz0,HV0,rfl,hrow,Below.refl _ _⟩
 case round =>
  obtain ⟨k,zs,cc,hk,rfl,rfl,hc,HL,hwz,HV,HD,hr,hb⟩ := hrel
  by_cases hlt : k < n
  ·have hk1 : o + k < zs.length := by have := HL.out;omega
   have hk2 : k < xs.length := by have := HN.out;omega
   rcases hm with e | ⟨b,off,rfl,hbg,hcy⟩
   ·subst e;simp at hk2
   have c1 : wr.cell? ⟨g,o + k,none⟩ = some (.int .u64 zs[o + k]) := hr.word hk1;have c2 : wr.cell? ⟨b,off + k,none⟩ = some (.int .u64 xs[k]) := (hb.cell (p := ⟨b,off + k,none⟩) hbg).trans (hcy k hk2);have cf : wr.frozen? ⟨g,o + k,none⟩ = false := hr.frozen (o + k);obtain ⟨hi,lo,hhi,hlo,hmm,hmul⟩ := zKF (hwx.get hk2) hW;obtain ⟨l1,o1,hl1,ho10,ho11,hs1,hadd1⟩ := zVB hlo (hwz.get hk1) (Int.le_refl 0) (by omega);obtain ⟨l2,o2,hl2,ho20,ho21,hs2,hadd2⟩ := zVB hl1 hc (Int.le_refl 0) (by omega);obtain ⟨hb1,hb2,hsum⟩ := word_step (hwx.get hk2) hW (hwz.get hk1) hc hhi.1 hlo hmm hl1 ho10 hs1 hl2 ho20 hs2;have HV' : Hid (val (zs.set (o + k) l2) + pw (o + (k + 1)) * (hi + o1 + o2) = val zs0 + pw o * (val (xs.take (k + 1)) * W)) := times_step hk1 rfl hk2 rfl HV.out hsum;have HD' : Hid ((zs.set (o + k) l2).drop (o + n) = zs0.drop (o + n)) := by unfold Hid;rw [zwD _ (by omega)];exact HD.out
   have hwz' : WF (zs.set (o + k) l2) := hwz.set (o + k) hl2;have HR := hr.setWord hk1 l2;have HB := hb.setCell (p := ⟨g,o + k,none⟩) (Nat.le_refl _) (.int .u64 l2);have hc' : IsW (hi + o1 + o2) := ⟨by have := hhi.1;omega,hb2⟩
   have hi0 := hhi.1;unfold wB at hb1 hb2;clear hsum hs1 hs2 hmm hl1 hl2 hlo hhi;generalize zs[o + k] = x at *;generalize xs[k] = y at *;have HL' : Hid ((zs.set (o + k) l2).length = m) := by unfold Hid;rw [List.length_set];exact HL.out
   generalize zs.set (o + k) l2 = zs' at *;clear hcy hr hb hwz HV hrow HL HD hc;go_wp2_with fail;refine (hmul _).mono ?_;rintro e w1 ⟨rfl,rfl⟩;go_wp2;go_roundw
   case rel => exact ⟨k + 1,zs',hi + o1 + o2,by omega,by go_num,rfl,hc',HL',hwz',HV',HD',HR,HB⟩
   case measure => simp [intOf];omega
  ·obtain rfl : k = n := by omega
   rw [HTL.out] at HV;go_wp2;go_ret;exact ⟨zs,cc,rfl,HL.out,hwz,hc,HV.out,HD.out,hr,hb⟩
end Go.Proofs.YtmnecbniappnaaaGreat
