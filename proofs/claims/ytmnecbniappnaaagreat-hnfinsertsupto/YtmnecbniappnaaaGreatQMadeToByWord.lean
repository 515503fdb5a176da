/-
 QMadeToByWord: Made, Bits, Len2, Trim, ByWord, joined.
-/
import Derived.Test.YtmnecbniappnaaaGreatQWordsToCarry
import Derived.Laws.MathBits
import Derived.Lib.TrailingZeros
import Derived.Shelf.Strconv.Itoa0
import Derived.Test.YtmnecbniappnaaaGreatQProdToTimes

set_option maxRecDepth 100000
set_option maxHeartbeats 6400000
set_option linter.unusedVariables false
set_option linter.unusedSimpArgs false
namespace Go.Proofs.YtmnecbniappnaaaGreat
open Go.RowKit
theorem Tryz.infoW : (Tryz.prog.info? 42).map (fun i => (i.zero,i.size,i.bytes)) = some (some (.int .u64 0),1,8) := by kernel_rfl
theorem Tryz.sizeW : (Tryz.prog.info? 42).map (·.size) = some 1 := by kernel_rfl
theorem madeCells_words (m : Nat) : madeCells (Value.int .u64 0).cells m = (ws (List.replicate m 0)).toArray := by
 apply Array.ext
 ·simp [size_madeCells,ws]
 ·intro i h1 h2
  simp [madeCells,ws,Value.cells,Nat.mod_one]
theorem wpList_make_words (w : World) {ops : Array Oper} {rest : List Oper} {o : Oper} {a : Act} {Q : Exit → Act → World → Prop}
  (hg : o.guard = none) (l c : Operand) (hop : o.op = Op.makeSlice 38 l c)
  (L C : Int) (n m : Nat) (hl : a.eval l = .int .i64 L) (hc : a.eval c = .int .i64 C) (hL : L = (n : Int)) (hC : C = (m : Int)) (hnm : n ≤ m) (hm : m ≤ 35184372088832)
  (hK : ∀ w',Row w' w.heap.size (ws (List.replicate m 0)) → Below w.heap.size w w' → Hid (w'.heap.size = w.heap.size + 1) → wpList Tryz.prog ops Q rest (a.put o.dst (.slice (some ⟨w.heap.size,0,none⟩) n m)) w') :
  wpList Tryz.prog ops Q (o :: rest) a w := by
 refine wpList_plain hg fun K hK' => ?_
 obtain ⟨i,hi,hz,hs,hb⟩ := info_parts Tryz.infoW;have hrun := run_make (P := Tryz.prog) w 38 42 i (.int .u64 0) Tryz.underlying38 hi hz .i64 .i64 n m (by omega) (by omega) (by rw [hb];omega) (by omega);subst hL;subst hC;rw [hs,Nat.mul_one,Int.toNat_natCast,Int.toNat_natCast,madeCells_words] at hrun;unfold Oper.wp;simp [execOp,hop,hl,hc,hrun,Result.andThen];refine hK' _ _ (hK _ ?_ ((Below.refl _ _).alloc (Nat.le_refl _) _) ?_)
 ·unfold Row;exact heap_alloc_new w _
 ·unfold Hid;simp
theorem splice_words (N n : Nat) (src : List Int) (h : src.length = n) : splice (ws (List.replicate N 0)) 0 (ws src) = ws (src ++ List.replicate (N - n) 0) := by
 subst h;simp [splice,ws]
theorem zsA (w : World) {ops : Array Oper} {rest : List Oper} {o : Oper} {a : Act} {Q : Exit → Act → World → Prop}
  (hgd : o.guard = none) (d s : Operand) (hop : o.op = .call { callee := .builtin .copy,args := #[d,s],argTypes := #[38,38] })
  (g N n capD capS : Nat) (sp : Option Addr) (src : List Int) (hrow : Row w g (ws (List.replicate N 0))) (hd : a.eval d = .slice (some ⟨g,0,none⟩) n capD) (hs : a.eval s = .slice sp n capS)
  (hlen : src.length = n) (hnN : n ≤ N)
  (hsl : src = [] ∨ ∃ b off,sp = some ⟨b,off,none⟩ ∧ b < g ∧ ∀ j (h : j < src.length),w.cell? ⟨b,off + j,none⟩ = some (.int .u64 src[j]))
  (hK : ∀ w',Row w' g (ws (src ++ List.replicate (N - n) 0)) → Below g w w' → wpList Tryz.prog ops Q rest (a.put o.dst (goInt n)) w') :
  wpList Tryz.prog ops Q (o :: rest) a w := by
 refine wpList_copy_splice hgd d s 38 38 hop 42 Tryz.underlying38 Tryz.sizeW _ _ n capD n capS hd hs g 0 (ws (List.replicate N 0)) 42 hrow (ws src) (by simp [zJA,hlen]) ?_ (by simp [zJA];omega) ?_ g w (Below.refl _ _) (Nat.le_refl _) ?_
 ·intro hpos
  rcases hsl with rfl | ⟨b,off,hsp,_,hc⟩
  ·simp [ws] at hpos
  ·refine ⟨rfl,_,hsp,fun j v hj => ?_⟩
   have hj' : j < src.length := by
    have := (List.getElem?_eq_some_iff.1 hj).1
    simpa [zJA] using this
   have : (ws src)[j]? = some (.int .u64 src[j]) := by simp [ws,hj']
   rw [this] at hj;rw [← hj];have e : (⟨b,off,none⟩ : Addr).add j = ⟨b,off + j,none⟩ := by unfold Addr.add;split <;> simp_all
   rw [e];exact hc j hj'
 ·intro v hv
  simp only [ws,List.mem_map] at hv;obtain ⟨x,_,rfl⟩ := hv
  rfl
 ·intro w' h1 h2
  have := hK w' (by unfold Row;rw [← splice_words N n src hlen];exact h1.out) h2
  simpa [zJA,hlen] using this
theorem Sl.source {B : Nat} {w : World} {a : Option Addr} {xs : List Int} {n : Nat} (hm : xs = [] ∨ ∃ b off,a = some ⟨b,off,none⟩ ∧ b < B ∧ ∀ j (h : j < xs.length),w.cell? ⟨b,off + j,none⟩ = some (.int .u64 xs[j])) :
  xs.take n = [] ∨ ∃ b off,a = some ⟨b,off,none⟩ ∧ b < B ∧ ∀ j (h : j < (xs.take n).length),w.cell? ⟨b,off + j,none⟩ = some (.int .u64 (xs.take n)[j]) := by
 rcases hm with rfl | ⟨b,off,h1,h2,h3⟩
 ·exact .inl (by simp)
 ·refine .inr ⟨b,off,h1,h2,fun j hj => ?_⟩
  simp only [List.length_take] at hj;rw [h3 j (by omega)]
  simp
theorem Sl.sourceB {B B' : Nat} {w w' : World} {a : Option Addr} {xs : List Int} (hm : xs = [] ∨ ∃ b off,a = some ⟨b,off,none⟩ ∧ b < B ∧ ∀ j (h : j < xs.length),w.cell? ⟨b,off + j,none⟩ = some (.int .u64 xs[j])) (hb : Below B' w w') (hB : B ≤ B') :
  xs = [] ∨ ∃ b off,a = some ⟨b,off,none⟩ ∧ b < B' ∧ ∀ j (h : j < xs.length),w'.cell? ⟨b,off + j,none⟩ = some (.int .u64 xs[j]) := by
 rcases hm with h | ⟨b,off,h1,h2,h3⟩
 ·exact .inl h
 ·exact .inr ⟨b,off,h1,by omega,fun j hj => (hb.cell (p := ⟨b,off + j,none⟩) (by show b < B';omega)).trans (h3 j hj)⟩
theorem least_any {w : World} {v : Value} {xs : List Int} (h : Sl w.heap.size w v xs) :
  Calls Tryz.prog 61 #[v] w fun e w' => e = .returned (.slice (some ⟨w.heap.size,0,none⟩) (wid xs) (wid xs)) ∧ Row w' w.heap.size (ws (lst xs)) ∧ Below w.heap.size w w' ∧ w.heap.size < w'.heap.size := by
 have hs := h;obtain ⟨hw,a,cap,rfl,hlc,hcm,hm⟩ := h;have HW1 := zgA hs;have l1 := zRA xs;have HL : Hid ((lst xs).length = wid xs) := zGA xs;have hsrc := Sl.source (n := wid xs) hm
 change lst xs = [] ∨ ∃ b off,a = some ⟨b,off,none⟩ ∧ b < w.heap.size ∧ ∀ j (h : j < (lst xs).length),w.cell? ⟨b,off + j,none⟩ = some (.int .u64 (lst xs)[j]) at hsrc
 have HSRC := hid hsrc;generalize lst xs = L at *;generalize wid xs = n at *;clear hm hsrc hs hw;go_enter Tryz.func61,Tryz.ntmps61;go_wp2_with fail;refine HW1.mono ?_;rintro e w1 ⟨rfl,rfl⟩;clear HW1;go_wp2_with (at_make;refine wpList_make_words _ rfl _ _ rfl _ _ n n rfl rfl rfl rfl (Nat.le_refl _) (by omega) ?_)
 intro w2 hrow hb2 hsz2;have hsrc2 := hid (Sl.sourceB HSRC.out hb2 (Nat.le_refl _));have hhs : w1.heap.size < w2.heap.size := by have := hsz2.out;omega
 clear HSRC;go_wp2_with (refine zsA _ rfl (.tmp 9) (.tmp 12) rfl w1.heap.size n n _ _ _ L hrow rfl rfl HL.out (Nat.le_refl _) hsrc2.out ?_)
 intro w3 hrow3 hb3;have hrow4 : Hid (Row w3 w1.heap.size (ws L)) := by unfold Hid;simpa using hrow3
 clear hrow3 hrow hsrc2;go_wp2;go_ret;exact ⟨rfl,hrow4.out,hb2.trans hb3,Nat.lt_of_lt_of_le hhs hb3.size⟩
end Go.Proofs.YtmnecbniappnaaaGreat
namespace Go.Proofs.YtmnecbniappnaaaGreat
def vn : List Int → Nat
 | [] => 0
 | x :: r => x.toNat + 2 ^ 64 * vn r
theorem zhA : ∀ {xs : List Int},WF xs → val xs = (vn xs : Int)
 | [],_ => rfl
 | x :: r,h => by
  have h1 := h.head;unfold IsW wB at h1;rw [val,vn,zhA h.tail];unfold wB;omega
theorem zYI {xs ys : List Int} (hx : WF xs) (hy : WF ys) : vn xs = vn ys ↔ val xs = val ys := by
 rw [zhA hx,zhA hy];omega
theorem zaB {x : Int} (h : IsW x) : x.toNat < 2 ^ 64 := by unfold IsW wB at h;omega
theorem zWH : ∀ {xs : List Int},WF xs → vn xs < 2 ^ (64 * xs.length)
 | [],_ => by simp [vn]
 | x :: r,h => by
  have h1 := zaB h.head;have h2 := zWH h.tail;rw [vn,List.length_cons,show 64 * (r.length + 1) = 64 + 64 * r.length by omega,Nat.pow_add];have := Nat.mul_le_mul_left (2 ^ 64) (Nat.succ_le_of_lt h2);rw [Nat.mul_succ] at this;omega
theorem zXD : ∀ (xs ys : List Int),vn (xs ++ ys) = vn xs + 2 ^ (64 * xs.length) * vn ys
 | [],ys => by simp [vn]
 | x :: r,ys => by
  rw [List.cons_append,vn,vn,zXD r ys,List.length_cons,show 64 * (r.length + 1) = 64 + 64 * r.length by omega,Nat.pow_add,Nat.mul_add,Nat.mul_assoc];omega
theorem zwF {xs : List Int} (h : ∀ x ∈ xs,x = 0) : vn xs = 0 := by
 induction xs with
 | nil => rfl
 | cons x r ih => rw [vn,h x (by simp),ih (fun y hy => h y (by simp [hy]))];simp
theorem bitLen_top {lo top s : Nat} (h : lo < 2 ^ s) (ht : top ≠ 0) : bitLen (lo + 2 ^ s * top) = s + bitLen top := by
 have hp : 0 < 2 ^ s := Nat.two_pow_pos s;have e : (lo + 2 ^ s * top) / 2 ^ s = top := by
  rw [Nat.add_mul_div_left _ _ hp,Nat.div_eq_of_lt h];omega
 rw [bitLen_shift _ s (by rw [e];exact ht),e]
theorem zOF {xs : List Int} {n : Nat} (hn : wid xs = n + 1) (h : n < xs.length) : lst xs = xs.take n ++ [xs[n]] := by
 unfold lst;rw [hn,List.take_succ_eq_append_getElem h]
theorem zrC : ∀ {xs : List Int} {n : Nat},wid xs = n + 1 → ∃ h : n < xs.length,xs[n] ≠ 0
 | [],n,h => by simp [wid] at h
 | x :: r,n,h => by
  unfold wid at h
  split at h
  ·split at h
   ·cases h
   ·have : n = 0 := by omega
    subst this;exact ⟨by simp,by simpa⟩
  ·rename_i hr
   obtain ⟨m,hm⟩ : ∃ m,wid r = m + 1 := ⟨wid r - 1,by omega⟩
   obtain ⟨h1,h2⟩ := zrC hm;have : n = m + 1 := by omega
   subst this;exact ⟨by simpa using h1,by simpa using h2⟩
theorem zxF {xs : List Int} (h : WF xs) : vn (lst xs) = vn xs := (zYI (canon_lst h).1 h).2 (val_lst xs)
theorem zJD {xs : List Int} (hw : WF xs) {n : Nat} (hn : wid xs = n + 1) (h : n < xs.length) : bitLen (vn xs) = 64 * n + bitLen xs[n].toNat := by
 obtain ⟨_,hne⟩ := zrC hn;rw [← zxF hw,zOF hn h,zXD];have hl : (xs.take n).length = n := by simp;omega
 have h1 := zWH (hw.take n);rw [hl] at h1 ⊢;have e : vn [xs[n]] = xs[n].toNat := by simp [vn]
 rw [e];refine bitLen_top h1 ?_;have := (hw.get h).1;omega
theorem zMC {xs : List Int} (hw : WF xs) (h : wid xs = 0) : vn xs = 0 := by
 have := zIB xs h;rw [zhA hw] at this;omega
open Go.RowKit
theorem zQE : ∀ (f v : Nat),v < 2 ^ f → Lib.bitLenAux f v = bitLen v
 | 0,v,h => by simp at h;subst h;rfl
 | f + 1,v,h => by
  unfold Lib.bitLenAux
  split
  ·rename_i h0;subst h0;rfl
  ·rename_i h0
   rw [zQE f (v / 2) (by rw [Nat.pow_succ] at h;omega)]
   by_cases h1 : v / 2 = 0
   ·have : v = 1 := by omega
    subst this;rfl
   ·rw [bitLen_shift v 1 (by simpa using h1)]
def lays129_ren : Go.Shelf.Ren := ⟨fun | 129 => 101 | n => n,fun | 53 => 42 | 3 => 3 | 4 => 4 | 46 => 135 | 5 => 5 | 9 => 9 | n => n,fun | n => n⟩
theorem lays129 : Go.Proofs.Lays.n129 Tryz.prog lays129_ren := {
 mixed := by kernel_rfl
 f129 := Tryz.func101.trans (congrArg some (by kernel_rfl))
 t3 := Tryz.underlying3
 a3 := Tryz.isAgg3
 z3 := Tryz.sizeOf3
 v3 := Tryz.zeroValue3
 t4 := Tryz.underlying4
 a4 := Tryz.isAgg4
 z4 := Tryz.sizeOf4
 v4 := Tryz.zeroValue4
 t5 := Tryz.underlying5
 a5 := Tryz.isAgg5
 z5 := Tryz.sizeOf5
 v5 := Tryz.zeroValue5
 t9 := Tryz.underlying9
 a9 := Tryz.isAgg9
 z9 := Tryz.sizeOf9
 v9 := Tryz.zeroValue9
 t46 := Tryz.underlying135
 a46 := Tryz.isAgg135
 z46 := Tryz.sizeOf135
 v46 := Tryz.zeroValue135
 t53 := Tryz.underlying42
 a53 := Tryz.isAgg42
 z53 := Tryz.sizeOf42
 v53 := Tryz.zeroValue42 }
theorem zQF {x : Int} (hx : IsW x) (w : World) : Calls Tryz.prog 101 #[.int .u64 x] w fun e w' => e = .returned (.int .i64 (bitLen x.toNat : Int)) ∧ w' = w := by
 have h := zaB hx;have hb : x ≤ 18446744073709551615 := by unfold IsW wB at hx;omega
 have := Any.bits_Len64 lays129 x w hx.1 hb;rw [show Lib.bitLen x.toNat = bitLen x.toNat from zQE 64 _ h] at this;exact this
theorem zyB {x : Nat} (h : x < 2 ^ 64) : bitLen x ≤ 64 := by
 unfold bitLen
 split
 ·omega
 ·rename_i h0
  have := (Nat.log2_lt h0).2 h;omega
theorem zdE {B : Nat} {w : World} {v : Value} {xs : List Int} (h : Sl B w v xs) :
  Calls Tryz.prog 80 #[v] w fun e w' => e = .returned (.int .i64 (bitLen (vn xs) : Int)) ∧ w' = w := by
 have hs := h;obtain ⟨hw,a,cap,rfl,hlc,hcm,hm⟩ := h;have HW := zgA hs;have l1 := zRA xs
 by_cases h0 : wid xs = 0
 ·rw [zMC hw h0]
  rw [h0] at HW;have hz : ((0 : Int) == 0) = true := rfl;go_enter Tryz.func80,Tryz.ntmps80;go_wp2_with fail;refine HW.mono ?_;rintro e w1 ⟨rfl,rfl⟩;clear HW;go_wp2;go_ret;exact ⟨rfl,rfl⟩
 ·obtain ⟨n,hn⟩ : ∃ n,wid xs = n + 1 := ⟨wid xs - 1,by omega⟩
  obtain ⟨hl,hne⟩ := zrC hn;rcases hm with e | ⟨b,off,rfl,hb,hc⟩
  ·subst e;simp at hl
  have c1 := hc n hl;have hx := hw.get hl;have HB : Hid (bitLen (vn xs) = 64 * n + bitLen xs[n].toNat) := zJD hw hn hl;have hbs := zyB (zaB hx);have HLn := hid (zQF hx w);rw [hn] at HW l1;generalize xs[n] = x at *;generalize bitLen x.toNat = bx at *;generalize bitLen (vn xs) = r at *;have hz : (((n + 1 : Nat) : Int) == 0) = false := by rw [beq_eq_false_iff_ne];omega
  clear hc hw h0 hn hne hs;go_enter Tryz.func80,Tryz.ntmps80;go_wp2_with fail;refine HW.mono ?_;rintro e w1 ⟨rfl,rfl⟩;clear HW;go_wp2_with fail;refine HLn.out.mono ?_;rintro e w2 ⟨rfl,rfl⟩;go_wp2;go_ret;refine ⟨congrArg Ending.returned (congrArg (Value.int IntKind.i64) ?_),rfl⟩;rw [HB.out];omega
theorem wid_of_len {xs : List Int} (hw : WF xs) : ∃ b : Nat,bitLen (vn xs) = b ∧ (b + 63) / 64 = wid xs ∧ b ≤ 64 * xs.length := by
 refine ⟨_,rfl,?_⟩
 by_cases h0 : wid xs = 0
 ·rw [zMC hw h0,h0]
  exact ⟨rfl,by rw [show bitLen 0 = 0 from rfl];omega⟩
 ·obtain ⟨n,hn⟩ : ∃ n,wid xs = n + 1 := ⟨wid xs - 1,by omega⟩
  obtain ⟨hl,hne⟩ := zrC hn;have h1 := zJD hw hn hl;have h2 := zyB (zaB (hw.get hl));have h3 : 0 < bitLen xs[n].toNat := by
   unfold bitLen
   split
   ·rename_i e
    have := (hw.get hl).1;omega
   ·omega
  rw [h1,hn];exact ⟨by omega,by omega⟩
def Mine (B : Nat) (w : World) (v : Value) (zs : List Int) : Prop :=
 WF zs ∧ ((v = .slice none 0 0 ∧ zs = []) ∨ ∃ g r cap,B ≤ g ∧ zs.length ≤ 35184372088832 ∧ zs.length ≤ cap ∧ (cap = zs.length ∨ (cap = zs.length + r.length ∧ cap ≤ maxLen)) ∧ v = .slice (some ⟨g,0,none⟩) zs.length cap ∧ Row w g (ws zs ++ r))
theorem Mine.form {B : Nat} {w : World} {v : Value} {zs : List Int} (h : Mine B w v zs) : ∃ a cap,v = .slice a zs.length cap := by
 obtain ⟨_,⟨h1,h2⟩ | ⟨g,r,cap,_,_,_,_,h1,_⟩⟩ := h
 ·subst h2;exact ⟨none,0,h1⟩
 ·exact ⟨_,_,h1⟩
theorem Mine.sl {B : Nat} {w : World} {v : Value} {zs : List Int} (h : Mine B w v zs) : Sl w.heap.size w v zs := by
 obtain ⟨hw,⟨h1,h2⟩ | ⟨g,r,cap,h1,h2,h3,h4,h5,h6⟩⟩ := h
 ·subst h1 h2;exact Sl.nilAt w
 ·subst h5
  exact ⟨hw,_,cap,rfl,h3,h2,.inr ⟨g,0,rfl,h6.lt,fun j hj => by rw [Nat.zero_add];exact h6.word hj⟩⟩
theorem Mine.nil (B : Nat) (w : World) : Mine B w (.slice none 0 0) [] := ⟨WF.nil,.inl ⟨rfl,rfl⟩⟩
theorem Mine.mono {B B' : Nat} {w : World} {v : Value} {zs : List Int} (h : Mine B w v zs) (hB : B' ≤ B) : Mine B' w v zs := by
 obtain ⟨hw,h | ⟨g,r,cap,h1,h2⟩⟩ := h
 ·exact ⟨hw,.inl h⟩
 ·exact ⟨hw,.inr ⟨g,r,cap,by omega,h2⟩⟩
theorem Mine.below {B : Nat} {w w' : World} {v : Value} {zs : List Int} (h : Mine B w v zs) (hb : Below w.heap.size w w') : Mine B w' v zs := by
 obtain ⟨hw,h | ⟨g,r,cap,h1,h2,h3,h4,h5,h6⟩⟩ := h
 ·exact ⟨hw,.inl h⟩
 ·exact ⟨hw,.inr ⟨g,r,cap,h1,h2,h3,h4,h5,h6.below hb h6.lt⟩⟩
theorem zNC {B : Nat} {w : World} {a : Option Addr} {len cap : Nat} {xs : List Int} (h : Sl B w (.slice a len cap) xs) :
  Calls Tryz.prog 107 #[.slice a len cap] w fun e w' => e = .returned (.slice a (wid xs) (wid xs)) ∧ w' = w := by
 have HB := zdE h;obtain ⟨b,hb1,hb2,hb3⟩ := wid_of_len h.1;rw [hb1] at HB;have l1 := zRA xs;obtain ⟨hw,a',cap',he,hlc,hcm,hm⟩ := h;simp only [Value.slice.injEq] at he;obtain ⟨rfl,rfl,rfl⟩ := he;clear hm hw hb1;generalize wid xs = n at *;generalize xs.length = L at *;go_enter Tryz.func107,Tryz.ntmps107;go_wp2_with fail;refine HB.mono ?_;rintro e w1 ⟨rfl,rfl⟩;clear HB;go_wp2;go_ret;exact ⟨by rw [show (b + 64 - 1) / 64 = n by omega];rfl,rfl⟩
theorem zGE {zs : List Int} {n j : Nat} (h : zs.drop n = List.replicate (j + 1) 0) : ∃ hn : n < zs.length,zs[n] = 0 := by
 have hl := congrArg List.length h;simp only [List.length_drop,List.length_replicate] at hl;refine ⟨by omega,?_⟩;have e : zs.drop n = zs[n]'(by omega) :: zs.drop (n + 1) := List.drop_eq_getElem_cons (by omega);rw [e,List.replicate_succ] at h;exact (List.cons.inj h).1
theorem zeros_tail {zs : List Int} {n j : Nat} (h : zs.drop n = List.replicate (j + 1) 0) : zs.drop (n + 1) = List.replicate j 0 := by
 rw [show n + 1 = 1 + n by omega,Nat.add_comm 1 n,← List.drop_drop,h,List.replicate_succ]
 rfl
theorem trim_mine {B w' : _} {g : Nat} {zs : List Int} (hB : B ≤ g) (hw : WF zs) (hl : zs.length ≤ 35184372088832) (hr : Row w' g (ws zs)) : Mine B w' (.slice (some ⟨g,0,none⟩) (wid zs) (wid zs)) (lst zs) := by
 have := zRA zs;refine ⟨(canon_lst hw).1,.inr ⟨g,ws (zs.drop (wid zs)),wid zs,hB,by rw [zGA];omega,by rw [zGA];exact Nat.le_refl _,by rw [zGA];omega,by rw [zGA],?_⟩⟩;have e : ws (lst zs) ++ ws (zs.drop (wid zs)) = ws zs := by
  unfold lst ws;rw [← List.map_append,List.take_append_drop]
 rw [e];exact hr
def zYC (w : World) (s : Int) (e : Ending) (w' : World) : Prop :=
 ∃ zs r,e = .returned r ∧ Mine w.heap.size w' r zs ∧ zLA zs ∧ val zs = s ∧ Below w.heap.size w w'
theorem byWord_any {w : World} {v u : Value} {xs ys : List Int} (h : Sl w.heap.size w v xs) (h' : Sl w.heap.size w u ys) (hl : xs.length + ys.length ≤ 35184372088832) :
  Calls Tryz.prog 108 #[v,u] w (zYC w (val xs * val ys)) := by
 have HS := hid h;have hwx := h.1;obtain ⟨_,a,capx,rfl,hlc,hcm,_⟩ := h;obtain ⟨hwy,b,capy,rfl,hlc',hcm',hm'⟩ := h';have HM' := hid hm';have HTL : Hid (ys.take ys.length = ys) := by unfold Hid;simp
 have HV0 : Hid (∀ k,val (List.replicate k 0) = val xs * val (ys.take 0)) := fun k => by rw [zYD];simp [val]
 obtain ⟨n,hn⟩ : ∃ n,n = xs.length := ⟨_,rfl⟩
 obtain ⟨m,hm⟩ : ∃ m,m = ys.length := ⟨_,rfl⟩
 rw [← hn] at HS hl hlc;rw [← hm] at hl hlc' HTL;rw [← hn,← hm];have HN := hid hn;have HMM := hid hm;clear hn hm hm';go_enter Tryz.func108,Tryz.ntmps108;go_wp2_with (at_make;refine wpList_make_words _ rfl _ _ rfl _ _ (n + m) (n + m) rfl rfl (by omega) (by omega) (Nat.le_refl _) (by omega) ?_)
 intro w2 hrow hb2 hsz2;have hhs : w.heap.size < w2.heap.size := by have := hsz2.out;omega
 go_wp2_with fail
 go_loopw [16] (fun i wr => ∃ (k : Nat) (zs : List Int),k ≤ m ∧ i = .int .i64 k ∧ Hid (zs.length = n + m) ∧ WF zs ∧ Hid (val zs = val xs * val (ys.take k)) ∧ Hid (zs.drop (k + n) = List.replicate (m - k) 0) ∧ Row wr w.heap.size (ws zs) ∧ Below w.heap.size w wr) (fun i _ => m - (intOf i).toNat)
 case atStart => exact ⟨0,List.replicate (n + m) 0,Nat.zero_le _,rfl,(by unfold Hid;simp),zhE _,HV0.out _,(by unfold Hid;simp),hrow,hb2⟩
 case round =>
  clear hrow hb2 hsz2 hhs;obtain ⟨k,zs,hk,rfl,HL,hwz,HV,HD,hr,hb⟩ := hrel
  by_cases hlt : k < m
  ·have hk2 : k < ys.length := by have := HMM.out;omega
   obtain ⟨j,hj⟩ : ∃ j,m - k = j + 1 := ⟨m - k - 1,by omega⟩
   have HD2 := hid HD.out;rw [hj] at HD2;have hk1 := (zGE HD2.out).1;rcases HM'.out with e | ⟨bb,off,rfl,hbg,hcy⟩
   ·subst e;simp at hk2
   have c2 : wr.cell? ⟨bb,off + k,none⟩ = some (.int .u64 ys[k]) := (hb.cell (p := ⟨bb,off + k,none⟩) hbg).trans (hcy k hk2);have HA := hid (addTimes_any (o := k) (len := n + m - k) (cap := n + m - k) (r := []) hwz (by simpa using hr) (by rw [HL.out];omega) (HS.out.below hb (Nat.le_refl _)) (hwy.get hk2) (by rw [← HN.out,HL.out];omega) (by rw [← HN.out];omega));rw [← HN.out] at HA;have HY : Hid (∃ y,y = ys[k]) := ⟨_,rfl⟩
   have HW2 := hid (hwy.get hk2);have HST : Hid (∀ zs' c,val zs' + pw (k + n) * c = val zs + pw k * (val xs * ys[k]) → ∀ hz : k + n < zs'.length,zs'[k + n] = 0 → val (zs'.set (k + n) c) = val xs * val (ys.take (k + 1))) := fun zs' c h1 hz h2 => rows_step hk2 rfl HV.out h1 hz h2
   generalize ys[k] = y at *;clear hcy;go_wp2_with fail;refine HA.out.mono ?_;rintro e w3 ⟨zs',c,rfl,hzl,hwz',hc,hv,hd,hr3,hb3⟩;have D3 := hd.trans HD2.out;obtain ⟨hk3,hz3⟩ := zGE D3;have hr4 : Row w3 w.heap.size (ws zs' ++ []) := hr3;have c3 : w3.cell? ⟨w.heap.size,k + n,none⟩ = some (.int .u64 zs'[k + n]) := hr4.word hk3;have cf : w3.frozen? ⟨w.heap.size,k + n,none⟩ = false := hr4.frozen _;have HV4 := hid (HST.out zs' c hv hk3 hz3);have HR4 := hid (hr4.setWord hk3 c);have HB4 := hid ((hb.trans hb3).setCell (p := ⟨w.heap.size,k + n,none⟩) (Nat.le_refl _) (.int .u64 c));have HW4 := hid (hwz'.set (k + n) hc);have HL4 : Hid ((zs'.set (k + n) c).length = n + m) := by unfold Hid;rw [List.length_set,hzl];exact HL.out
   have HD4 : Hid ((zs'.set (k + n) c).drop (k + 1 + n) = List.replicate (m - (k + 1)) 0) := by
    unfold Hid;rw [show k + 1 + n = k + n + 1 by omega,zwD _ (by omega),zeros_tail D3]
    congr 1
    omega
   generalize zs'[k + n] = z at *;generalize zs'.set (k + n) c = zs'' at *;clear hd D3 hr4 hr3 hb3 hv hzl hwz' HST HA hr hb HV HD HD2 hwz HL;go_wp2;go_roundw
   case rel => exact ⟨k + 1,zs'',by omega,by go_num,HL4,HW4.out,HV4,HD4,(by simpa using HR4.out),HB4.out⟩
   case measure => simp [intOf];omega
  ·obtain rfl : k = m := by omega
   rw [HTL.out] at HV;go_wp2_with fail;have hsl := Row.sl (r := []) (by simpa using hr) hwz (cap := n + k) (by rw [HL.out];exact Nat.le_refl _) (by omega) hr.lt;rw [HL.out] at hsl;refine (zNC hsl).mono ?_;rintro e w3 ⟨rfl,rfl⟩;go_wp2;go_ret;exact ⟨lst zs,_,rfl,trim_mine (Nat.le_refl _) hwz (by rw [HL.out];omega) hr,canon_lst hwz,by rw [val_lst];exact HV.out,hb⟩
end Go.Proofs.YtmnecbniappnaaaGreat
