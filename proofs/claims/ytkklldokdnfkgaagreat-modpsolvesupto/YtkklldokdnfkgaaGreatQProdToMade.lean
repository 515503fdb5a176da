/-
 QProdToMade: Prod, Mulw, Times, Made, joined.
-/
import Derived.Test.YtkklldokdnfkgaaGreatQWordsToCarry
import Derived.Shelf.Bits.Mul64

set_option maxRecDepth 100000
set_option maxHeartbeats 6400000
set_option linter.unusedVariables false
set_option linter.unusedSimpArgs false
namespace Go.Proofs.YtkklldokdnfkgaaGreat
theorem zDG : ∀ m n : Nat,pw (m + n) = pw m * pw n
 | 0,n => by simp [pw]
 | m + 1,n => by rw [show m + 1 + n = (m + n) + 1 by omega,pw,pw,zDG m n,Int.mul_assoc]
theorem zYI {m n : Nat} (h : m ≤ n) : pw m ≤ pw n := by
 obtain ⟨k,rfl⟩ : ∃ k,n = m + k := ⟨n - m,by omega⟩
 rw [zDG];have h1 := zaB m;have h2 := zaB k;have := Int.mul_le_mul_of_nonneg_left (show 1 ≤ pw k by omega) (Int.le_of_lt h1);omega
theorem zWF : ∀ {xs : List Int} {n : Nat},WF xs → wid xs = n + 1 → pw n ≤ val xs
 | [],n,_,h => by simp [wid] at h
 | x :: r,n,hw,h => by
  have h1 := hw.head;have h2 := zGA hw.tail;unfold IsW wB at h1;unfold wid at h
  split at h
  ·split at h
   ·omega
   ·have : n = 0 := by omega
    subst this;unfold val pw wB;omega
  ·obtain ⟨m,rfl⟩ : ∃ m,n = m + 1 := ⟨n - 1,by omega⟩
   have := zWF (n := m) hw.tail (by omega);unfold val pw wB;omega
theorem wid_len {xs : List Int} (h : WF xs) {n : Nat} (hv : val xs < pw n) : wid xs ≤ n := by
 by_cases q : wid xs ≤ n
 ·exact q
 ·exfalso
  obtain ⟨m,hm⟩ : ∃ m,wid xs = m + 1 := ⟨wid xs - 1,by omega⟩
  have := zWF h hm;have := zYI (show n ≤ m by omega);omega
theorem zPC {xs : List Int} (h : zbA xs) {n : Nat} (hv : val xs < pw n) : xs.length ≤ n := by
 have := wid_len h.1 hv;rw [h.2] at this;exact this
theorem val_mul_lt {xs ys : List Int} (hx : WF xs) (hy : WF ys) : val xs * val ys < pw (xs.length + ys.length) := by
 rw [zDG];have h1 := zTA hx;have h2 := zTA hy;have h3 := zGA hx;have h4 := zGA hy;have h5 := Int.mul_le_mul (Int.le_of_lt h1) (Int.le_of_lt h2) h4 (Int.le_trans h3 (Int.le_of_lt h1))
 by_cases q : val ys = 0
 ·rw [q]
  have := zaB xs.length;have := zaB ys.length;have := Int.mul_pos (zaB xs.length) (zaB ys.length);omega
 ·have := Int.mul_lt_mul_of_pos_right h1 (show 0 < val ys by omega)
  have h6 := Int.mul_le_mul_of_nonneg_left (Int.le_of_lt h2) (Int.le_of_lt (zaB xs.length));omega
theorem zpD {v w : Int} (hv : IsW v) (hw : IsW w) : 0 ≤ v * w ∧ v * w ≤ 340282366920938463426481119284349108225 := by
 unfold IsW wB at hv hw;refine ⟨Int.mul_nonneg hv.1 hw.1,?_⟩;have := Int.mul_le_mul (show v ≤ 18446744073709551615 by omega) (show w ≤ 18446744073709551615 by omega) hw.1 (by omega);omega
open Go.RowKit
theorem mul64_nat (x y : Nat) (hx : x < 18446744073709551616) (hy : y < 18446744073709551616) (w : World) :
  Calls Tryz.prog 119 #[.int .u64 x,.int .u64 y] w fun e w' => e = .returned (.tuple #[.int .u64 ((x * y / 18446744073709551616 : Nat) : Int),.int .u64 ((x * y % 18446744073709551616 : Nat) : Int)]) ∧ w' = w := by
 obtain ⟨bd,bt,bw,hhi⟩ := Lib.mul64_hi x y hx hy;have ba := Lib.half_mul_le (a := x / 4294967296) (b := y / 4294967296) (by omega) (by omega);have bb := Lib.half_mul_le (a := x / 4294967296) (b := y % 4294967296) (by omega) (by omega);have bc := Lib.half_mul_le (a := x % 4294967296) (b := y / 4294967296) (by omega) (by omega);have ba' : x / 4294967296 * (y / 4294967296) < 18446744073709551616 := by omega
 have bb' : x / 4294967296 * (y % 4294967296) < 18446744073709551616 := by omega
 have bc' : x % 4294967296 * (y / 4294967296) < 18446744073709551616 := by omega
 have bh1 : x / 4294967296 * (y / 4294967296) + (x / 4294967296 * (y % 4294967296) + x % 4294967296 * (y % 4294967296) / 4294967296) / 4294967296 < 18446744073709551616 := by omega
 have bh : x / 4294967296 * (y / 4294967296) + (x / 4294967296 * (y % 4294967296) + x % 4294967296 * (y % 4294967296) / 4294967296) / 4294967296 + ((x / 4294967296 * (y % 4294967296) + x % 4294967296 * (y % 4294967296) / 4294967296) % 4294967296 + x % 4294967296 * (y / 4294967296)) / 4294967296 < 18446744073709551616 := by omega
 go_enter Tryz.func119,Tryz.ntmps119;go_wp2;simp only [Mul64.maskN x hx,Mul64.maskN y hy,Mul64.divN,Mul64.mulN,Mul64.addN,Mul64.wrapN _ bd,Mul64.wrapN _ bb',Mul64.wrapN _ bt,Mul64.maskN _ bt,Mul64.wrapN _ bc',Mul64.wrapN _ bw,Mul64.wrapN _ ba',Mul64.wrapN _ bh1,Mul64.wrapN _ bh,Mul64.wrapM (x * y)];rw [hhi];go_ret2;exact ⟨rfl,rfl⟩
theorem mul64_any {x y : Int} (hx : IsW x) (hy : IsW y) :
  ∃ hi lo,IsW hi ∧ IsW lo ∧ lo + wB * hi = x * y ∧
   ∀ w : World,Calls Tryz.prog 119 #[.int .u64 x,.int .u64 y] w fun e w' => e = .returned (.tuple #[.int .u64 hi,.int .u64 lo]) ∧ w' = w := by
 have hle := zpD hx hy;unfold IsW wB at hx hy;obtain ⟨X,rfl⟩ := Int.eq_ofNat_of_zero_le hx.1;obtain ⟨Y,rfl⟩ := Int.eq_ofNat_of_zero_le hy.1;rw [← Int.natCast_mul] at hle;refine ⟨((X * Y / 18446744073709551616 : Nat) : Int),((X * Y % 18446744073709551616 : Nat) : Int),?_,?_,?_,fun w => mul64_nat X Y (by omega) (by omega) w⟩
 ·unfold IsW wB;omega
 ·unfold IsW wB;omega
 ·rw [← Int.natCast_mul]
  unfold wB;omega

theorem Tryz.infoW : (Tryz.prog.info? 25).map (fun i => (i.zero,i.size,i.bytes)) = some (some (.int .u64 0),1,8) := by kernel_rfl
theorem Tryz.sizeW : (Tryz.prog.info? 25).map (·.size) = some 1 := by kernel_rfl
theorem madeCells_words (m : Nat) : madeCells (Value.int .u64 0).cells m = (ws (List.replicate m 0)).toArray := by
 apply Array.ext
 ·simp [size_madeCells,ws]
 ·intro i h1 h2
  simp [madeCells,ws,Value.cells,Nat.mod_one]
theorem wpList_make_words (w : World) {ops : Array Oper} {rest : List Oper} {o : Oper} {a : Act} {Q : Exit → Act → World → Prop}
  (hg : o.guard = none) (l c : Operand) (hop : o.op = Op.makeSlice 42 l c)
  (L C : Int) (n m : Nat) (hl : a.eval l = .int .i64 L) (hc : a.eval c = .int .i64 C) (hL : L = (n : Int)) (hC : C = (m : Int)) (hnm : n ≤ m) (hm : m ≤ 35184372088832)
  (hK : ∀ w',Row w' w.heap.size (ws (List.replicate m 0)) → Below w.heap.size w w' → Hid (w'.heap.size = w.heap.size + 1) → wpList Tryz.prog ops Q rest (a.put o.dst (.slice (some ⟨w.heap.size,0,none⟩) n m)) w') :
  wpList Tryz.prog ops Q (o :: rest) a w := by
 refine wpList_plain hg fun K hK' => ?_
 obtain ⟨i,hi,hz,hs,hb⟩ := info_parts Tryz.infoW;have hrun := run_make (P := Tryz.prog) w 42 25 i (.int .u64 0) Tryz.underlying42 hi hz .i64 .i64 n m (by omega) (by omega) (by rw [hb];omega) (by omega);subst hL;subst hC;rw [hs,Nat.mul_one,Int.toNat_natCast,Int.toNat_natCast,madeCells_words] at hrun;unfold Oper.wp;simp [execOp,hop,hl,hc,hrun,Result.andThen];refine hK' _ _ (hK _ ?_ ((Below.refl _ _).alloc (Nat.le_refl _) _) ?_)
 ·unfold Row;exact heap_alloc_new w _
 ·unfold Hid;simp
theorem zTD (N n : Nat) (src : List Int) (h : src.length = n) : splice (ws (List.replicate N 0)) 0 (ws src) = ws (src ++ List.replicate (N - n) 0) := by
 subst h;simp [splice,ws]
theorem zjA (w : World) {ops : Array Oper} {rest : List Oper} {o : Oper} {a : Act} {Q : Exit → Act → World → Prop}
  (hgd : o.guard = none) (d s : Operand) (hop : o.op = .call { callee := .builtin .copy,args := #[d,s],argTypes := #[42,42] })
  (g N n capD capS : Nat) (sp : Option Addr) (src : List Int) (hrow : Row w g (ws (List.replicate N 0))) (hd : a.eval d = .slice (some ⟨g,0,none⟩) n capD) (hs : a.eval s = .slice sp n capS)
  (hlen : src.length = n) (hnN : n ≤ N)
  (hsl : src = [] ∨ ∃ b off,sp = some ⟨b,off,none⟩ ∧ b < g ∧ ∀ j (h : j < src.length),w.cell? ⟨b,off + j,none⟩ = some (.int .u64 src[j]))
  (hK : ∀ w',Row w' g (ws (src ++ List.replicate (N - n) 0)) → Below g w w' → wpList Tryz.prog ops Q rest (a.put o.dst (goInt n)) w') :
  wpList Tryz.prog ops Q (o :: rest) a w := by
 refine wpList_copy_splice hgd d s 42 42 hop 25 Tryz.underlying42 Tryz.sizeW _ _ n capD n capS hd hs g 0 (ws (List.replicate N 0)) 25 hrow (ws src) (by simp [zIA,hlen]) ?_ (by simp [zIA];omega) ?_ g w (Below.refl _ _) (Nat.le_refl _) ?_
 ·intro hpos
  rcases hsl with rfl | ⟨b,off,hsp,_,hc⟩
  ·simp [ws] at hpos
  ·refine ⟨rfl,_,hsp,fun j v hj => ?_⟩
   have hj' : j < src.length := by
    have := (List.getElem?_eq_some_iff.1 hj).1
    simpa [zIA] using this
   have : (ws src)[j]? = some (.int .u64 src[j]) := by simp [ws,hj']
   rw [this] at hj;rw [← hj];have e : (⟨b,off,none⟩ : Addr).add j = ⟨b,off + j,none⟩ := by unfold Addr.add;split <;> simp_all
   rw [e];exact hc j hj'
 ·intro v hv
  simp only [ws,List.mem_map] at hv;obtain ⟨x,_,rfl⟩ := hv
  rfl
 ·intro w' h1 h2
  have := hK w' (by unfold Row;rw [← zTD N n src hlen];exact h1.out) h2
  simpa [zIA,hlen] using this
theorem Sl.source {B : Nat} {w : World} {a : Option Addr} {xs : List Int} {n : Nat} (hm : xs = [] ∨ ∃ b off,a = some ⟨b,off,none⟩ ∧ b < B ∧ ∀ j (h : j < xs.length),w.cell? ⟨b,off + j,none⟩ = some (.int .u64 xs[j])) :
  xs.take n = [] ∨ ∃ b off,a = some ⟨b,off,none⟩ ∧ b < B ∧ ∀ j (h : j < (xs.take n).length),w.cell? ⟨b,off + j,none⟩ = some (.int .u64 (xs.take n)[j]) := by
 rcases hm with rfl | ⟨b,off,h1,h2,h3⟩
 ·exact .inl (by simp)
 ·refine .inr ⟨b,off,h1,h2,fun j hj => ?_⟩
  simp only [List.length_take] at hj;rw [h3 j (by omega)]
  simp
theorem Sl.sourceB {B B' : Nat} {w w' : World} {a : Option Addr} {xs : List Int} (hm : xs = [] ∨ ∃ b off,a = some ⟨b,off,none⟩ ∧ b < B ∧ ∀ j (h : j < xs.length),w.cell? ⟨b,off + j,none⟩ = some (.int .u64 xs[j])) (hb : Below B' w w') (hB : B ≤ B') :
  xs = [] ∨ ∃ b off,a = some ⟨b,off,none⟩ ∧ b < B' ∧ ∀ j (h : j < xs.length),w'.cell? ⟨b,off + j,none⟩ = some (.int .u64 xs[j]) := by
 rcases hm with h | ⟨b,off,h1,h2,h3⟩
 ·exact .inl h
 ·exact .inr ⟨b,off,h1,by omega,fun j hj => (hb.cell (p := ⟨b,off + j,none⟩) (by show b < B';omega)).trans (h3 j hj)⟩
theorem least_any {w : World} {v : Value} {xs : List Int} (h : Sl w.heap.size w v xs) :
  Calls Tryz.prog 66 #[v] w fun e w' => e = .returned (.slice (some ⟨w.heap.size,0,none⟩) (wid xs) (wid xs)) ∧ Row w' w.heap.size (ws (lst xs)) ∧ Below w.heap.size w w' ∧ w.heap.size < w'.heap.size := by
 have hs := h;obtain ⟨hw,a,cap,rfl,hlc,hcm,hm⟩ := h;have HW1 := zcA hs;have l1 := zOA xs;have HL : Hid ((lst xs).length = wid xs) := length_lst xs;have hsrc := Sl.source (n := wid xs) hm
 change lst xs = [] ∨ ∃ b off,a = some ⟨b,off,none⟩ ∧ b < w.heap.size ∧ ∀ j (h : j < (lst xs).length),w.cell? ⟨b,off + j,none⟩ = some (.int .u64 (lst xs)[j]) at hsrc
 have HSRC := hid hsrc;generalize lst xs = L at *;generalize wid xs = n at *;clear hm hsrc hs hw;go_enter Tryz.func66,Tryz.ntmps66;go_wp2_with fail;refine HW1.mono ?_;rintro e w1 ⟨rfl,rfl⟩;clear HW1;go_wp2_with (at_make;refine wpList_make_words _ rfl _ _ rfl _ _ n n rfl rfl rfl rfl (Nat.le_refl _) (by omega) ?_)
 intro w2 hrow hb2 hsz2;have hsrc2 := hid (Sl.sourceB HSRC.out hb2 (Nat.le_refl _));have hhs : w1.heap.size < w2.heap.size := by have := hsz2.out;omega
 clear HSRC;go_wp2_with (refine zjA _ rfl (.tmp 9) (.tmp 12) rfl w1.heap.size n n _ _ _ L hrow rfl rfl HL.out (Nat.le_refl _) hsrc2.out ?_)
 intro w3 hrow3 hb3;have hrow4 : Hid (Row w3 w1.heap.size (ws L)) := by unfold Hid;simpa using hrow3
 clear hrow3 hrow hsrc2;go_wp2;go_ret;exact ⟨rfl,hrow4.out,hb2.trans hb3,Nat.lt_of_lt_of_le hhs hb3.size⟩
end Go.Proofs.YtkklldokdnfkgaaGreat
