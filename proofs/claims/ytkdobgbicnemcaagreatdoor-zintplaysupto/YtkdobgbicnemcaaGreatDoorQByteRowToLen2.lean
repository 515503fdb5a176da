/-
 QByteRowToLen2: ByteRow, OpenT, Prod, Mulw, Times, Bits, Len2, joined.
-/
import Derived.Test.YtkdobgbicnemcaaGreatDoorQLitsToTouch
import Derived.Test.YtkdobgbicnemcaaGreatDoorRows
import Derived.Test.YtkdobgbicnemcaaGreatDoorQWordsToCarry
import Derived.Lib.LaidTab
import Derived.ShutString
import Derived.ChangeMaps5
import Derived.Shelf.Bits.Mul64
import Derived.Laws.MathBits
import Derived.Lib.TrailingZeros
import Derived.Shelf.Strconv.Itoa0

set_option maxRecDepth 100000
set_option maxHeartbeats 6400000
set_option linter.unusedVariables false
set_option linter.unusedSimpArgs false
namespace Go.Proofs.YtkdobgbicnemcaaGreatDoor
open Go.RowKit
abbrev bs (L : List Int) : List Value := L.map (Value.int .u8)
def RowB (w : World) (g : Nat) (L : List Int) : Prop := w.heap[g]? = some (.cells (bs L).toArray 5 (0,0))
theorem RowB.lt {w : World} {g : Nat} {L : List Int} (h : RowB w g L) : g < w.heap.size := (Array.getElem?_eq_some_iff.1 h).1
theorem RowB.cell {w : World} {g : Nat} {L : List Int} (h : RowB w g L) {i : Nat} (hi : i < L.length) : w.cell? ⟨g,i,none⟩ = some (.int .u8 L[i]) := by
 unfold RowB at h;simp [World.cell?,h,hi]
theorem RowB.frozen {w : World} {g : Nat} {L : List Int} (h : RowB w g L) (i : Nat) : w.frozen? ⟨g,i,none⟩ = false := by
 unfold RowB at h;simp [World.frozen?,h]
theorem RowB.set {w : World} {g : Nat} {L : List Int} (h : RowB w g L) (i : Nat) (x : Int) : RowB (w.setCell ⟨g,i,none⟩ (.int .u8 x)) g (L.set i x) := by
 unfold RowB at h ⊢;simp [World.setCell,Array.getElem?_modify,h,List.map_set]
theorem RowB.now {w w' : World} {g : Nat} {L : List Int} (h : RowB w g L) (hb : Below w.heap.size w w') : RowB w' g L := (hb.block g h.lt).trans h
theorem Tryz.infoB : (Tryz.prog.info? 5).map (fun i => (i.zero,i.size,i.bytes)) = some (some (.int .u8 0),1,1) := by kernel_rfl
theorem madeCells_bytes (m : Nat) : madeCells (Value.int .u8 0).cells m = (bs (List.replicate m 0)).toArray := by
 apply Array.ext
 ·simp [size_madeCells,bs]
 ·intro i h1 h2
  simp [madeCells,Value.cells,Nat.mod_one,bs]
theorem zFC (w : World) {ops : Array Oper} {rest : List Oper} {o : Oper} {a : Act} {Q : Exit → Act → World → Prop}
  (hg : o.guard = none) (l c : Operand) (hop : o.op = Op.makeSlice 110 l c)
  (L C : Int) (n : Nat) (hl : a.eval l = .int .i64 L) (hc : a.eval c = .int .i64 C) (hL : L = (n : Int)) (hC : C = (n : Int)) (hm : n ≤ 35184372088832)
  (hK : ∀ w',Hid (RowB w' w.heap.size (List.replicate n 0)) → Hid (Below w.heap.size w w') → wpList Tryz.prog ops Q rest (a.put o.dst (.slice (some ⟨w.heap.size,0,none⟩) n n)) w') :
  wpList Tryz.prog ops Q (o :: rest) a w := by
 refine wpList_plain hg fun K hK' => ?_
 obtain ⟨i,hi,hz,hs,hb⟩ := info_parts Tryz.infoB;have hrun := run_make (P := Tryz.prog) w 110 5 i (.int .u8 0) Tryz.underlying110 hi hz .i64 .i64 n n (by omega) (by omega) (by rw [hb];omega) (by omega);subst hL;subst hC;rw [hs,Nat.mul_one,Int.toNat_natCast,madeCells_bytes] at hrun;unfold Oper.wp;simp [execOp,hop,hl,hc,hrun,Result.andThen];refine hK' _ _ (hK _ ?_ ((Below.refl _ _).alloc (Nat.le_refl _) _));unfold Hid RowB
 simpa [bs] using heap_alloc_new w _
def Sg (w : World) : Prop := ∀ d : Nat,d < 36 → w.cell? ⟨0,d,none⟩ = some (.int .u8 (sgn d))
theorem Sg.pos {w : World} (h : Sg w) : 0 < w.heap.size := World.block_lt_of_cell? w _ (h 0 (by decide))
theorem Sg.now {w w' : World} (h : Sg w) (hb : Below w.heap.size w w') : Sg w' := fun d hd => (hb.cell (p := ⟨0,d,none⟩) h.pos).trans (h d hd)
theorem Sg.touch {w w' : World} {S : Nat → Prop} (h : Sg w) (ht : znA S w w') (hS : ¬ S 0) : Sg w' := fun d hd => (ht.cell h.pos hS d).trans (h d hd)
theorem zsG {A X : List Int} {n : Nat} {s : Int} (h : A.length = n + 1) : (A ++ X).set n s = A.take n ++ (s :: X) := by
 have e : A = A.take n ++ A.drop n := (List.take_append_drop n A).symm;have hd : (A.drop n).length = 1 := by simp [h]
 obtain ⟨y,hy⟩ : ∃ y,A.drop n = [y] := by
  match hA : A.drop n,hd with
  | [y],_ => exact ⟨y,rfl⟩
 have hl : (A.take n).length = n := by simp [h]
 conv => lhs;rw [e,hy,List.append_assoc,List.set_append_right _ _ (by omega),hl,Nat.sub_self]
 rfl
theorem digF_mod (B : Nat) (b n : Nat) : digF B b (n % B ^ b) = digF B b n := by
 have h := zKC B 0 b n
 simpa [digF] using h.symm
theorem zwE (B b n : Nat) : digF B (b + 1) n = n / B ^ b % B :: digF B b n := by
 rw [Nat.add_comm,zKC B 1 b n,digF_mod]
 rfl
def part (L : List Int) (off m B n k : Nat) : List Int := L.take (off + (m - k)) ++ ((digF B k n).map sgn ++ L.drop (off + m))
theorem part_zero {L : List Int} {off m : Nat} (B n : Nat) : part L off m B n 0 = L := by simp [part,digF]
theorem zoF {L : List Int} {off m B n k : Nat} (h : off + m ≤ L.length) (hk : k ≤ m) : (part L off m B n k).length = L.length := by simp [part,zAB];omega
theorem zHG {L : List Int} {off m B n k : Nat} (h : off + m ≤ L.length) (hk : k < m) : (part L off m B n k).set (off + (m - (k + 1))) (sgn (n / B ^ k % B)) = part L off m B n (k + 1) := by
 unfold part;rw [zsG (n := off + (m - (k + 1))) (by simp;omega),zwE,List.map_cons,List.take_take,Nat.min_eq_left (by omega)]
 rfl
def zCC (L : List Int) (off m B n : Nat) : List Int := L.take off ++ ((digF B m n).map sgn ++ L.drop (off + m))
theorem zpF (L : List Int) (off m B n : Nat) : part L off m B n m = zCC L off m B n := by simp [part,zCC]
theorem wrote_len {L : List Int} {off m B n : Nat} (h : off + m ≤ L.length) : (zCC L off m B n).length = L.length := by rw [← zpF,zoF h (Nat.le_refl _)]
theorem wrote_two {L : List Int} {off a b B n : Nat} (h : off + (a + b) ≤ L.length) : zCC (zCC L off a B (n / B ^ b)) (off + a) b B (n % B ^ b) = zCC L off (a + b) B n := by
 have l1 : (L.take off).length = off := by simp;omega
 have l2 : ((digF B a (n / B ^ b)).map sgn).length = a := by simp [zAB]
 unfold zCC;have e1 : (L.take off ++ ((digF B a (n / B ^ b)).map sgn ++ L.drop (off + a))).take (off + a) = L.take off ++ (digF B a (n / B ^ b)).map sgn := by
  rw [← List.append_assoc,List.take_append_of_le_length (by simp [zAB];omega),List.take_of_length_le (by simp [zAB];omega)]
 have e2 : (L.take off ++ ((digF B a (n / B ^ b)).map sgn ++ L.drop (off + a))).drop (off + a + b) = L.drop (off + (a + b)) := by
  rw [← List.append_assoc,List.drop_append,List.drop_of_length_le (by simp [zAB];omega),List.nil_append,List.length_append,l1,l2,List.drop_drop,show off + a + (off + a + b - (off + a)) = off + (a + b) by omega]
 rw [e1,e2,zKC,List.map_append,List.append_assoc,List.append_assoc]
open Go.ChangeShapes Go.WideShapes Go.ChangeAt Go.RowKit
theorem text_bulk {H : Type} {s : ByteArray} (h : Rows.uptoBulk (.lit (.string s.data.toList) : DataW H) ≤ 1048576) : s.size ≤ 1048576 := by
 simp only [Rows.uptoBulk] at h;have : s.data.toList.length = s.size := by simp
 omega
abbrev zSI : List Int := (List.range 36).map sgn
theorem zgI : Tryz.prog.globalNamed "trellis/radix.signs" = some 0 := by kernel_rfl
theorem gSignsType : (Tryz.prog.globals[0]?).map (·.type) = some 141 := by kernel_rfl
theorem cells36 : Tryz.prog.cellsOf 141 = 36 := by kernel_rfl
theorem cellsU8 : Tryz.prog.cellsOf 5 = 1 := by kernel_rfl
theorem tab_second {W : World} {x : String × DataW Unit} {rest : List (String × DataW Unit)} {zs : List Int} (h : laidMet Tryz.prog (x :: ("trellis/radix.signs",Lib.tabData .u8 zs) :: rest) W) : Lib.TabIs Tryz.prog W "trellis/radix.signs" .u8 zs := by
 obtain ⟨ps,⟨_,_,_,_,_,_,_,_,_,_,⟨g',t',cs,fuel,p,q,hg',ht',hvar,hd,_,_⟩,_⟩,_⟩ := h;obtain rfl := Option.some.inj (zgI.symm.trans hg');obtain rfl := Option.some.inj (gSignsType.symm.trans ht');unfold Lib.TabIs;rw [hvar,← Lib.cells_of_tab Tryz.underlying141 Tryz.underlying5 cellsU8 cells36 hd]
theorem signs_tab : (Rows.laid_trellis_radix_signs : DataW Unit) = Lib.tabData .u8 zSI := by rfl
theorem signs_sg {W : World} (h : Lib.TabIs Tryz.prog W "trellis/radix.signs" .u8 zSI) : Sg W := fun d hd => by
 rw [h.cell zgI d (by simp [zSI];exact hd)];simp [zSI,List.getD,hd]
theorem signs_of {W : World} (h : laidMetH Tryz.prog [("unicode/utf8.acceptRanges",Rows.laid_unicode_utf8_acceptRanges),("trellis/radix.signs",Rows.laid_trellis_radix_signs),("unicode/utf8.first",Rows.laid_unicode_utf8_first)] W) : Sg W := by
 have h1 : laidMet Tryz.prog [("unicode/utf8.acceptRanges",Rows.laid_unicode_utf8_acceptRanges),("trellis/radix.signs",Rows.laid_trellis_radix_signs),("unicode/utf8.first",Rows.laid_unicode_utf8_first)] W := h;rw [signs_tab] at h1;exact signs_sg (tab_second h1)
def zUI : DataW Unit → List Value
 | .agg l => numsL l
 | .lit (.int k z) => [.int k z]
 | _ => []
where numsL : List (DataW Unit) → List Value
 | [] => []
 | d :: r => zUI d ++ numsL r
def ztH (h : Array Obj) (i : Nat) (l : List Value) : Array Obj := h.modify i fun
 | .cells _ t frozen => .cells l.toArray t frozen
 | o => o
def laidWorld4 (P : Program) (os : Os) : World :=
 { World.holding P os ⟨#[],#[],[]⟩ with heap := ztH (ztH (ztH (World.holding P os ⟨#[],#[],[]⟩).heap 0 (zUI Rows.laid_trellis_radix_signs)) 3 (zUI Rows.laid_unicode_utf8_first)) 4 (zUI Rows.laid_unicode_utf8_acceptRanges) }
end Go.Proofs.YtkdobgbicnemcaaGreatDoor
namespace Go.Proofs.YtkdobgbicnemcaaGreatDoor
theorem zjD : ∀ m n : Nat,pw (m + n) = pw m * pw n
 | 0,n => by simp [pw]
 | m + 1,n => by rw [show m + 1 + n = (m + n) + 1 by omega,pw,pw,zjD m n,Int.mul_assoc]
theorem zmI {m n : Nat} (h : m ≤ n) : pw m ≤ pw n := by
 obtain ⟨k,rfl⟩ : ∃ k,n = m + k := ⟨n - m,by omega⟩
 rw [zjD];have h1 := zVB m;have h2 := zVB k;have := Int.mul_le_mul_of_nonneg_left (show 1 ≤ pw k by omega) (Int.le_of_lt h1);omega
theorem zEG : ∀ {xs : List Int} {n : Nat},WF xs → wid xs = n + 1 → pw n ≤ val xs
 | [],n,_,h => by simp [wid] at h
 | x :: r,n,hw,h => by
  have h1 := hw.head;have h2 := zEA hw.tail;unfold IsW wB at h1;unfold wid at h
  split at h
  ·split at h
   ·omega
   ·have : n = 0 := by omega
    subst this;unfold val pw wB;omega
  ·obtain ⟨m,rfl⟩ : ∃ m,n = m + 1 := ⟨n - 1,by omega⟩
   have := zEG (n := m) hw.tail (by omega);unfold val pw wB;omega
theorem wid_len {xs : List Int} (h : WF xs) {n : Nat} (hv : val xs < pw n) : wid xs ≤ n := by
 by_cases q : wid xs ≤ n
 ·exact q
 ·exfalso
  obtain ⟨m,hm⟩ : ∃ m,wid xs = m + 1 := ⟨wid xs - 1,by omega⟩
  have := zEG h hm;have := zmI (show n ≤ m by omega);omega
theorem zSA {xs : List Int} (h : zHA xs) {n : Nat} (hv : val xs < pw n) : xs.length ≤ n := by
 have := wid_len h.1 hv;rw [h.2] at this;exact this
theorem zwD : ∀ {xs ys : List Int},WF xs → zHA ys → ys ≠ [] → zHA (xs ++ ys)
 | [],ys,_,hy,_ => hy
 | x :: r,ys,hx,hy,hne => by
  have ih := zwD hx.tail hy hne;refine ⟨WF.cons hx.head ih.1,?_⟩;have h0 : wid (r ++ ys) ≠ 0 := by
   rw [ih.2];cases ys
   ·exact absurd rfl hne
   ·simp
  rw [List.cons_append,wid,if_neg h0,ih.2]
  simp
theorem zUG : zHA [] := ⟨WF.nil,rfl⟩
theorem zWH {xs : List Int} (h : 0 < val xs) : xs ≠ [] := by
 intro e;subst e;simp [val] at h
theorem zaD {xs : List Int} (h : zHA xs) (hne : xs ≠ []) : 0 < val xs := by
 refine zwA h.1 ?_;rw [h.2];cases xs
 ·exact absurd rfl hne
 ·simp
theorem WF.rest {xs : List Int} (h : WF xs) (n : Nat) : WF (xs.drop n) := fun x hx => h x (List.mem_of_mem_drop hx)
theorem zjF (n : Nat) : WF (List.replicate n 0) := by
 intro x hx;rw [(List.mem_replicate.1 hx).2];unfold IsW wB;omega
theorem zRE : ∀ n : Nat,val (List.replicate n 0) = 0
 | 0 => rfl
 | n + 1 => by rw [List.replicate_succ,val,zRE n];omega
theorem val_halves (xs : List Int) {n : Nat} (h : n ≤ xs.length) : val xs = val (xs.take n) + pw n * val (xs.drop n) := by
 have := zuA (xs.take n) (xs.drop n);rw [List.take_append_drop,List.length_take,Nat.min_eq_left h] at this;exact this
theorem zuC : ∀ {xs : List Int} (n : Nat),zHA xs → zHA (xs.drop n)
 | xs,0,h => by simpa using h
 | [],n + 1,h => by simpa using h
 | x :: r,n + 1,h => by simpa using zuC n (zqD h)
theorem zlF (xs ys : List Int) {n : Nat} (h : xs.length ≤ n) : val (xs ++ List.replicate (n - xs.length) 0 ++ ys) = val xs + pw n * val ys := by
 rw [zuA,zuA,zRE,List.length_append,List.length_replicate,show xs.length + (n - xs.length) = n by omega];omega
theorem zrD {xs ys : List Int} (n : Nat) (hx : WF xs) (hy : zHA ys) (hne : ys ≠ []) : zHA (xs ++ List.replicate (n - xs.length) 0 ++ ys) :=
 zwD (hx.append (zjF _)) hy hne
theorem zIB {xs ys : List Int} (hx : WF xs) (hy : WF ys) : val xs * val ys < pw (xs.length + ys.length) := by
 rw [zjD];have h1 := zUA hx;have h2 := zUA hy;have h3 := zEA hx;have h4 := zEA hy;have h5 := Int.mul_le_mul (Int.le_of_lt h1) (Int.le_of_lt h2) h4 (Int.le_trans h3 (Int.le_of_lt h1))
 by_cases q : val ys = 0
 ·rw [q]
  have := zVB xs.length;have := zVB ys.length;have := Int.mul_pos (zVB xs.length) (zVB ys.length);omega
 ·have := Int.mul_lt_mul_of_pos_right h1 (show 0 < val ys by omega)
  have h6 := Int.mul_le_mul_of_nonneg_left (Int.le_of_lt h2) (Int.le_of_lt (zVB xs.length));omega
theorem zyC {v w : Int} (hv : IsW v) (hw : IsW w) : 0 ≤ v * w ∧ v * w ≤ 340282366920938463426481119284349108225 := by
 unfold IsW wB at hv hw;refine ⟨Int.mul_nonneg hv.1 hw.1,?_⟩;have := Int.mul_le_mul (show v ≤ 18446744073709551615 by omega) (show w ≤ 18446744073709551615 by omega) hw.1 (by omega);omega
theorem word_step {v w s c hi lo l1 o1 l2 o2 : Int} (hv : IsW v) (hw : IsW w) (hs : IsW s) (hc : IsW c) (h0 : 0 ≤ hi) (hlo : IsW lo) (hm : lo + wB * hi = v * w)
  (hl1 : IsW l1) (ho1 : 0 ≤ o1) (e1 : l1 + wB * o1 = lo + s + 0) (hl2 : IsW l2) (ho2 : 0 ≤ o2) (e2 : l2 + wB * o2 = l1 + c + 0) :
  hi + o1 < wB ∧ hi + o1 + o2 < wB ∧ l2 + wB * (hi + o1 + o2) = v * w + s + c := by
 have := zyC hv hw;generalize v * w = p at *;unfold IsW wB at *;refine ⟨by omega,by omega,by omega⟩
theorem times_step {xs zs : List Int} {V v w s c l h : Int} {o k : Nat} (hk : o + k < zs.length) (hs : zs[o + k] = s) (hx : k < xs.length) (hxv : xs[k] = v)
  (hv : val zs + pw (o + k) * c = V + pw o * (val (xs.take k) * w)) (hl : l + wB * h = v * w + s + c) :
  val (zs.set (o + k) l) + pw (o + (k + 1)) * h = V + pw o * (val (xs.take (k + 1)) * w) := by
 rw [zhB zs (o + k) l hk,hs,zPA xs k hx,hxv,show o + (k + 1) = (o + k) + 1 by omega,pw];rw [zjD] at hv ⊢;generalize pw o = P at *;generalize pw k = K at *;generalize val zs = Z at *;generalize val (xs.take k) = X at *;have e : l = v * w + s + c - wB * h := by omega
 subst e
 grind
theorem rows_step {xs ys zs zs' : List Int} {w c : Int} {i n : Nat} (hi : i < ys.length) (hw : ys[i] = w) (hz : val zs = val xs * val (ys.take i)) (h' : val zs' + pw (i + n) * c = val zs + pw i * (val xs * w))
  (hk : i + n < zs'.length) (h0 : zs'[i + n] = 0) : val (zs'.set (i + n) c) = val xs * val (ys.take (i + 1)) := by
 rw [zhB zs' (i + n) c hk,h0,zPA ys i hi,hw]
 grind
theorem two_halves {a b la ha p l c z h : Int} {n : Nat} (ea : a = la + pw n * ha) (ep : p = la * b) (es : p = l + pw n * c) (ez : z = ha * b + c) (eh : h = l + pw n * z) : h = a * b := by
 subst ea ez eh
 grind
theorem four_halves {a b la ha lb hb ll hh sa sb ss t x l c y m c' z r : Int} {n : Nat} (ea : a = la + pw n * ha) (eb : b = lb + pw n * hb) (ell : ll = la * lb) (ehh : hh = ha * hb)
  (esa : sa = la + ha) (esb : sb = lb + hb) (ess : ss = sa * sb) (et : t = ll + hh) (ex : x = ss - t) (el : ll = l + pw n * c) (ey : y = x + c) (em : y = m + pw n * c') (ez : z = hh + c')
  (er : r = l + pw n * (m + pw n * z)) : r = a * b := by
 generalize pw n = P at *;subst ea eb ehh esa esb ess et ex ez er
 grind
theorem cross_nonneg {la ha lb hb : Int} (h1 : 0 ≤ la) (h2 : 0 ≤ ha) (h3 : 0 ≤ lb) (h4 : 0 ≤ hb) : la * lb + ha * hb ≤ (la + ha) * (lb + hb) := by
 have := Int.mul_nonneg h1 h4;have := Int.mul_nonneg h2 h3;rw [Int.add_mul,Int.mul_add,Int.mul_add];omega
open Go.RowKit
theorem mul64_nat (x y : Nat) (hx : x < 18446744073709551616) (hy : y < 18446744073709551616) (w : World) :
  Calls Tryz.prog 143 #[.int .u64 x,.int .u64 y] w fun e w' => e = .returned (.tuple #[.int .u64 ((x * y / 18446744073709551616 : Nat) : Int),.int .u64 ((x * y % 18446744073709551616 : Nat) : Int)]) ∧ w' = w := by
 obtain ⟨bd,bt,bw,hhi⟩ := Lib.mul64_hi x y hx hy;have ba := Lib.half_mul_le (a := x / 4294967296) (b := y / 4294967296) (by omega) (by omega);have bb := Lib.half_mul_le (a := x / 4294967296) (b := y % 4294967296) (by omega) (by omega);have bc := Lib.half_mul_le (a := x % 4294967296) (b := y / 4294967296) (by omega) (by omega);have ba' : x / 4294967296 * (y / 4294967296) < 18446744073709551616 := by omega
 have bb' : x / 4294967296 * (y % 4294967296) < 18446744073709551616 := by omega
 have bc' : x % 4294967296 * (y / 4294967296) < 18446744073709551616 := by omega
 have bh1 : x / 4294967296 * (y / 4294967296) + (x / 4294967296 * (y % 4294967296) + x % 4294967296 * (y % 4294967296) / 4294967296) / 4294967296 < 18446744073709551616 := by omega
 have bh : x / 4294967296 * (y / 4294967296) + (x / 4294967296 * (y % 4294967296) + x % 4294967296 * (y % 4294967296) / 4294967296) / 4294967296 + ((x / 4294967296 * (y % 4294967296) + x % 4294967296 * (y % 4294967296) / 4294967296) % 4294967296 + x % 4294967296 * (y / 4294967296)) / 4294967296 < 18446744073709551616 := by omega
 go_enter Tryz.func143,Tryz.ntmps143;go_wp2;simp only [Mul64.maskN x hx,Mul64.maskN y hy,Mul64.divN,Mul64.mulN,Mul64.addN,Mul64.wrapN _ bd,Mul64.wrapN _ bb',Mul64.wrapN _ bt,Mul64.maskN _ bt,Mul64.wrapN _ bc',Mul64.wrapN _ bw,Mul64.wrapN _ ba',Mul64.wrapN _ bh1,Mul64.wrapN _ bh,Mul64.wrapM (x * y)];rw [hhi];go_ret2;exact ⟨rfl,rfl⟩
theorem zIG {x y : Int} (hx : IsW x) (hy : IsW y) :
  ∃ hi lo,IsW hi ∧ IsW lo ∧ lo + wB * hi = x * y ∧
   ∀ w : World,Calls Tryz.prog 143 #[.int .u64 x,.int .u64 y] w fun e w' => e = .returned (.tuple #[.int .u64 hi,.int .u64 lo]) ∧ w' = w := by
 have hle := zyC hx hy;unfold IsW wB at hx hy;obtain ⟨X,rfl⟩ := Int.eq_ofNat_of_zero_le hx.1;obtain ⟨Y,rfl⟩ := Int.eq_ofNat_of_zero_le hy.1;rw [← Int.natCast_mul] at hle;refine ⟨((X * Y / 18446744073709551616 : Nat) : Int),((X * Y % 18446744073709551616 : Nat) : Int),?_,?_,?_,fun w => mul64_nat X Y (by omega) (by omega) w⟩
 ·unfold IsW wB;omega
 ·unfold IsW wB;omega
 ·rw [← Int.natCast_mul]
  unfold wB;omega
theorem zrE {α : Type} (L : List α) {i n : Nat} (h : i < n) (x : α) : (L.set i x).drop n = L.drop n := by
 rw [List.drop_set,if_pos h]
theorem addTimes_any {g : Nat} {w : World} {u : Value} {zs0 xs : List Int} {r : List Value} {o len cap : Nat} {W : Int} (hz0 : WF zs0) (hrow : Row w g (ws zs0 ++ r)) (hlz : zs0.length ≤ 35184372088832) (hx : Sl g w u xs) (hW : IsW W) (hl : o + xs.length ≤ zs0.length) (hlen : xs.length ≤ len) :
  Calls Tryz.prog 119 #[.slice (some ⟨g,o,none⟩) len cap,u,.int .u64 W] w fun e w' =>
   ∃ zs c,e = .returned (.int .u64 c) ∧ zs.length = zs0.length ∧ WF zs ∧ IsW c ∧ val zs + pw (o + xs.length) * c = val zs0 + pw o * (val xs * W) ∧ zs.drop (o + xs.length) = zs0.drop (o + xs.length) ∧ Row w' g (ws zs ++ r) ∧ Below g w w' := by
 obtain ⟨hwx,a,capx,rfl,hlc,hcm,hm⟩ := hx;have HV0 : Hid (val zs0 + pw (o + 0) * 0 = val zs0 + pw o * (val (xs.take 0) * W)) := by unfold Hid;simp [val]
 have HTL : Hid (xs.take xs.length = xs) := by unfold Hid;simp
 obtain ⟨m,hmz⟩ : ∃ m,m = zs0.length := ⟨_,rfl⟩
 obtain ⟨n,hnx⟩ : ∃ n,n = xs.length := ⟨_,rfl⟩
 rw [← hmz] at hl hlz;rw [← hnx] at hl hlc HTL hlen;rw [← hmz,← hnx];have HM : Hid (m = zs0.length) := hmz;have HN : Hid (n = xs.length) := hnx;clear hmz hnx;have hW' := hW;unfold IsW wB at hW';go_enter Tryz.func119,Tryz.ntmps119;go_wp2_with fail
 go_loopw [7,15] (fun c i wr => ∃ (k : Nat) (zs : List Int) (cc : Int),k ≤ n ∧ i = .int .i64 k ∧ c = .int .u64 cc ∧ IsW cc ∧ Hid (zs.length = m) ∧ WF zs ∧ Hid (val zs + pw (o + k) * cc = val zs0 + pw o * (val (xs.take k) * W)) ∧ Hid (zs.drop (o + n) = zs0.drop (o + n)) ∧ Row wr g (ws zs ++ r) ∧ Below g w wr) (fun _ i _ => n - (intOf i).toNat)
 case atStart => exact ⟨0,zs0,0,Nat.zero_le _,rfl,rfl,by unfold IsW wB;omega,HM.out.symm,hz0,HV0,rfl,hrow,Below.refl _ _⟩
 case round =>
  obtain ⟨k,zs,cc,hk,rfl,rfl,hc,HL,hwz,HV,HD,hr,hb⟩ := hrel
  by_cases hlt : k < n
  ·have hk1 : o + k < zs.length := by have := HL.out;omega
   have hk2 : k < xs.length := by have := HN.out;omega
   rcases hm with e | ⟨b,off,rfl,hbg,hcy⟩
   ·subst e;simp at hk2
   have c1 : wr.cell? ⟨g,o + k,none⟩ = some (.int .u64 zs[o + k]) := hr.word hk1;have c2 : wr.cell? ⟨b,off + k,none⟩ = some (.int .u64 xs[k]) := (hb.cell (p := ⟨b,off + k,none⟩) hbg).trans (hcy k hk2);have cf : wr.frozen? ⟨g,o + k,none⟩ = false := hr.frozen (o + k);obtain ⟨hi,lo,hhi,hlo,hmm,hmul⟩ := zIG (hwx.get hk2) hW;obtain ⟨l1,o1,hl1,ho10,ho11,hs1,hadd1⟩ := zkB hlo (hwz.get hk1) (Int.le_refl 0) (by omega);obtain ⟨l2,o2,hl2,ho20,ho21,hs2,hadd2⟩ := zkB hl1 hc (Int.le_refl 0) (by omega);obtain ⟨hb1,hb2,hsum⟩ := word_step (hwx.get hk2) hW (hwz.get hk1) hc hhi.1 hlo hmm hl1 ho10 hs1 hl2 ho20 hs2;have HV' : Hid (val (zs.set (o + k) l2) + pw (o + (k + 1)) * (hi + o1 + o2) = val zs0 + pw o * (val (xs.take (k + 1)) * W)) := times_step hk1 rfl hk2 rfl HV.out hsum;have HD' : Hid ((zs.set (o + k) l2).drop (o + n) = zs0.drop (o + n)) := by unfold Hid;rw [zrE _ (by omega)];exact HD.out
   have hwz' : WF (zs.set (o + k) l2) := hwz.set (o + k) hl2;have HR := hr.setWord hk1 l2;have HB := hb.setCell (p := ⟨g,o + k,none⟩) (Nat.le_refl _) (.int .u64 l2);have hc' : IsW (hi + o1 + o2) := ⟨by have := hhi.1;omega,hb2⟩
   have hi0 := hhi.1;unfold wB at hb1 hb2;clear hsum hs1 hs2 hmm hl1 hl2 hlo hhi;generalize zs[o + k] = x at *;generalize xs[k] = y at *;have HL' : Hid ((zs.set (o + k) l2).length = m) := by unfold Hid;rw [List.length_set];exact HL.out
   generalize zs.set (o + k) l2 = zs' at *;clear hcy hr hb hwz HV hrow HL HD hc;go_wp2_with fail;refine (hmul _).mono ?_;rintro e w1 ⟨rfl,rfl⟩;go_wp2;go_roundw
   case rel => exact ⟨k + 1,zs',hi + o1 + o2,by omega,by go_num,rfl,hc',HL',hwz',HV',HD',HR,HB⟩
   case measure => simp [intOf];omega
  ·obtain rfl : k = n := by omega
   rw [HTL.out] at HV;go_wp2;go_ret;exact ⟨zs,cc,rfl,HL.out,hwz,hc,HV.out,HD.out,hr,hb⟩
end Go.Proofs.YtkdobgbicnemcaaGreatDoor
namespace Go.Proofs.YtkdobgbicnemcaaGreatDoor
def vn : List Int → Nat
 | [] => 0
 | x :: r => x.toNat + 2 ^ 64 * vn r
theorem zJA : ∀ {xs : List Int},WF xs → val xs = (vn xs : Int)
 | [],_ => rfl
 | x :: r,h => by
  have h1 := h.head;unfold IsW wB at h1;rw [val,vn,zJA h.tail];unfold wB;omega
theorem zuI {xs ys : List Int} (hx : WF xs) (hy : WF ys) : vn xs = vn ys ↔ val xs = val ys := by
 rw [zJA hx,zJA hy];omega
theorem toNat_lt {x : Int} (h : IsW x) : x.toNat < 2 ^ 64 := by unfold IsW wB at h;omega
theorem zfH : ∀ {xs : List Int},WF xs → vn xs < 2 ^ (64 * xs.length)
 | [],_ => by simp [vn]
 | x :: r,h => by
  have h1 := toNat_lt h.head;have h2 := zfH h.tail;rw [vn,List.length_cons,show 64 * (r.length + 1) = 64 + 64 * r.length by omega,Nat.pow_add];have := Nat.mul_le_mul_left (2 ^ 64) (Nat.succ_le_of_lt h2);rw [Nat.mul_succ] at this;omega
theorem zPE : ∀ (xs ys : List Int),vn (xs ++ ys) = vn xs + 2 ^ (64 * xs.length) * vn ys
 | [],ys => by simp [vn]
 | x :: r,ys => by
  rw [List.cons_append,vn,vn,zPE r ys,List.length_cons,show 64 * (r.length + 1) = 64 + 64 * r.length by omega,Nat.pow_add,Nat.mul_add,Nat.mul_assoc];omega
theorem zmG {xs : List Int} (h : ∀ x ∈ xs,x = 0) : vn xs = 0 := by
 induction xs with
 | nil => rfl
 | cons x r ih => rw [vn,h x (by simp),ih (fun y hy => h y (by simp [hy]))];simp
theorem bitLen_top {lo top s : Nat} (h : lo < 2 ^ s) (ht : top ≠ 0) : bitLen (lo + 2 ^ s * top) = s + bitLen top := by
 have hp : 0 < 2 ^ s := Nat.two_pow_pos s;have e : (lo + 2 ^ s * top) / 2 ^ s = top := by
  rw [Nat.add_mul_div_left _ _ hp,Nat.div_eq_of_lt h];omega
 rw [bitLen_shift _ s (by rw [e];exact ht),e]
theorem zLG {xs : List Int} {n : Nat} (hn : wid xs = n + 1) (h : n < xs.length) : lst xs = xs.take n ++ [xs[n]] := by
 unfold lst;rw [hn,List.take_succ_eq_append_getElem h]
theorem zeD : ∀ {xs : List Int} {n : Nat},wid xs = n + 1 → ∃ h : n < xs.length,xs[n] ≠ 0
 | [],n,h => by simp [wid] at h
 | x :: r,n,h => by
  unfold wid at h
  split at h
  ·split at h
   ·cases h
   ·have : n = 0 := by omega
    subst this;exact ⟨by simp,by simpa⟩
  ·rename_i hr
   obtain ⟨m,hm⟩ : ∃ m,wid r = m + 1 := ⟨wid r - 1,by omega⟩
   obtain ⟨h1,h2⟩ := zeD hm;have : n = m + 1 := by omega
   subst this;exact ⟨by simpa using h1,by simpa using h2⟩
theorem znG {xs : List Int} (h : WF xs) : vn (lst xs) = vn xs := (zuI (canon_lst h).1 h).2 (val_lst xs)
theorem zxD {xs : List Int} (hw : WF xs) {n : Nat} (hn : wid xs = n + 1) (h : n < xs.length) : bitLen (vn xs) = 64 * n + bitLen xs[n].toNat := by
 obtain ⟨_,hne⟩ := zeD hn;rw [← znG hw,zLG hn h,zPE];have hl : (xs.take n).length = n := by simp;omega
 have h1 := zfH (hw.take n);rw [hl] at h1 ⊢;have e : vn [xs[n]] = xs[n].toNat := by simp [vn]
 rw [e];refine bitLen_top h1 ?_;have := (hw.get h).1;omega
theorem zzC {xs : List Int} (hw : WF xs) (h : wid xs = 0) : vn xs = 0 := by
 have := zvA xs h;rw [zJA hw] at this;omega
open Go.RowKit
theorem zTF : ∀ (f v : Nat),v < 2 ^ f → Lib.bitLenAux f v = bitLen v
 | 0,v,h => by simp at h;subst h;rfl
 | f + 1,v,h => by
  unfold Lib.bitLenAux
  split
  ·rename_i h0;subst h0;rfl
  ·rename_i h0
   rw [zTF f (v / 2) (by rw [Nat.pow_succ] at h;omega)]
   by_cases h1 : v / 2 = 0
   ·have : v = 1 := by omega
    subst this;rfl
   ·rw [bitLen_shift v 1 (by simpa using h1)]
def lays129_ren : Go.Shelf.Ren := ⟨fun | 129 => 108 | n => n,fun | 53 => 53 | 3 => 3 | 4 => 4 | 46 => 101 | 5 => 5 | 9 => 9 | n => n,fun | n => n⟩
theorem lays129 : Go.Proofs.Lays.n129 Tryz.prog lays129_ren := {
 mixed := by kernel_rfl
 f129 := Tryz.func108.trans (congrArg some (by kernel_rfl))
 t3 := Tryz.underlying3
 a3 := Tryz.isAgg3
 z3 := Tryz.sizeOf3
 v3 := Tryz.zeroValue3
 t4 := Tryz.underlying4
 a4 := Tryz.isAgg4
 z4 := Tryz.sizeOf4
 v4 := Tryz.zeroValue4
 t5 := Tryz.underlying5
 a5 := Tryz.isAgg5
 z5 := Tryz.sizeOf5
 v5 := Tryz.zeroValue5
 t9 := Tryz.underlying9
 a9 := Tryz.isAgg9
 z9 := Tryz.sizeOf9
 v9 := Tryz.zeroValue9
 t46 := Tryz.underlying101
 a46 := Tryz.isAgg101
 z46 := Tryz.sizeOf101
 v46 := Tryz.zeroValue101
 t53 := Tryz.underlying53
 a53 := Tryz.isAgg53
 z53 := Tryz.sizeOf53
 v53 := Tryz.zeroValue53 }
theorem zjE {x : Int} (hx : IsW x) (w : World) : Calls Tryz.prog 108 #[.int .u64 x] w fun e w' => e = .returned (.int .i64 (bitLen x.toNat : Int)) ∧ w' = w := by
 have h := toNat_lt hx;have hb : x ≤ 18446744073709551615 := by unfold IsW wB at hx;omega
 have := Any.bits_Len64 lays129 x w hx.1 hb;rw [show Lib.bitLen x.toNat = bitLen x.toNat from zTF 64 _ h] at this;exact this
theorem zjC {x : Nat} (h : x < 2 ^ 64) : bitLen x ≤ 64 := by
 unfold bitLen
 split
 ·omega
 ·rename_i h0
  have := (Nat.log2_lt h0).2 h;omega
theorem zhF {B : Nat} {w : World} {v : Value} {xs : List Int} (h : Sl B w v xs) :
  Calls Tryz.prog 76 #[v] w fun e w' => e = .returned (.int .i64 (bitLen (vn xs) : Int)) ∧ w' = w := by
 have hs := h;obtain ⟨hw,a,cap,rfl,hlc,hcm,hm⟩ := h;have HW := zmA hs;have l1 := zRA xs
 by_cases h0 : wid xs = 0
 ·rw [zzC hw h0]
  rw [h0] at HW;have hz : ((0 : Int) == 0) = true := rfl;go_enter Tryz.func76,Tryz.ntmps76;go_wp2_with fail;refine HW.mono ?_;rintro e w1 ⟨rfl,rfl⟩;clear HW;go_wp2;go_ret;exact ⟨rfl,rfl⟩
 ·obtain ⟨n,hn⟩ : ∃ n,wid xs = n + 1 := ⟨wid xs - 1,by omega⟩
  obtain ⟨hl,hne⟩ := zeD hn;rcases hm with e | ⟨b,off,rfl,hb,hc⟩
  ·subst e;simp at hl
  have c1 := hc n hl;have hx := hw.get hl;have HB : Hid (bitLen (vn xs) = 64 * n + bitLen xs[n].toNat) := zxD hw hn hl;have hbs := zjC (toNat_lt hx);have HLn := hid (zjE hx w);rw [hn] at HW l1;generalize xs[n] = x at *;generalize bitLen x.toNat = bx at *;generalize bitLen (vn xs) = r at *;have hz : (((n + 1 : Nat) : Int) == 0) = false := by rw [beq_eq_false_iff_ne];omega
  clear hc hw h0 hn hne hs;go_enter Tryz.func76,Tryz.ntmps76;go_wp2_with fail;refine HW.mono ?_;rintro e w1 ⟨rfl,rfl⟩;clear HW;go_wp2_with fail;refine HLn.out.mono ?_;rintro e w2 ⟨rfl,rfl⟩;go_wp2;go_ret;refine ⟨congrArg Ending.returned (congrArg (Value.int IntKind.i64) ?_),rfl⟩;rw [HB.out];omega
end Go.Proofs.YtkdobgbicnemcaaGreatDoor
