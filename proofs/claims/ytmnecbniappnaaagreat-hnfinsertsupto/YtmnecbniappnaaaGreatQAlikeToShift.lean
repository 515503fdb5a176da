/-
 QAlikeToShift: Alike, OpenZ, OpenV8, DivPure, Shift, joined.
-/
import Derived.Test.YtmnecbniappnaaaGreatQZAdd
import Derived.Test.YtmnecbniappnaaaGreatQMulAllToOnes
import Derived.Test.YtmnecbniappnaaaGreatQWordsToCarry
import Derived.ChangeSame
import Derived.Deep.Slices
import Derived.Test.YtmnecbniappnaaaGreatQMadeToByWord
import Derived.Shelf.Spec.TrailingZeros

set_option maxRecDepth 100000
set_option maxHeartbeats 6400000
set_option linter.unusedVariables false
set_option linter.unusedSimpArgs false
namespace Go.Proofs.YtmnecbniappnaaaGreat
open Go.RowKit
def Zl (w : World) (v : Value) (zs : List Int) (k : Nat) : Prop :=
 ∃ a c,v = .slice a zs.length c ∧ zs.length ≤ c ∧ zs.length ≤ 1048576 ∧ (zs = [] ∨ ∃ b off,a = some ⟨b,off,none⟩ ∧ b < w.heap.size ∧ ∀ j (h : j < zs.length),∃ x y,w.cell? ⟨b,off + 2 * j,none⟩ = some x ∧ w.cell? ⟨b,off + 2 * j + 1,none⟩ = some y ∧ Zi w (.agg #[x,y]) zs[j] k)
theorem Zl.now {w w' : World} {v : Value} {zs : List Int} {k : Nat} (h : Zl w v zs k) (hb : Below w.heap.size w w') : Zl w' v zs k := by
 obtain ⟨a,c,h1,h2,h3,h4⟩ := h;refine ⟨a,c,h1,h2,h3,?_⟩;rcases h4 with h4 | ⟨b,off,h5,h6,h7⟩
 ·exact .inl h4
 ·refine .inr ⟨b,off,h5,Nat.lt_of_lt_of_le h6 hb.size,fun j hj => ?_⟩
  obtain ⟨x,y,q1,q2,q3⟩ := h7 j hj;exact ⟨x,y,(hb.cell (p := ⟨b,off + 2 * j,none⟩) h6).trans q1,(hb.cell (p := ⟨b,off + 2 * j + 1,none⟩) h6).trans q2,q3.now hb⟩
open Go.ChangeShapes Go.WideShapes Go.ChangeAt Go.RowKit
theorem Tryz.cellsZ : Tryz.prog.cellsOf 40 = 2 := by kernel_rfl
theorem Tryz.cellsZb : Tryz.prog.cellsOf 4 = 1 := by kernel_rfl
theorem Tryz.cellsZs : Tryz.prog.cellsOf 38 = 1 := by kernel_rfl
theorem trod_struct2 {H : Type} {enc : TypeId × Value → H} {P : Program} {w : World} {base : Nat} {spare : Nat → Bool} {held : Bool} {t : TypeId} {f0 f1 : Field} {fuel : Nat} {cs : List Value} {x : DataW H × List MemPlace} (ht : P.underlying t = some (.struct #[f0,f1]))
  (h : DataW.trod enc P w base spare held fuel t cs = some x) :
  ∃ y0 y1 n,x.1 = .agg [y0.1,y1.1] ∧ cs.length = P.cellsOf t ∧ DataW.trod enc P w base spare held n f0.type ((cs.drop f0.offset).take (P.cellsOf f0.type)) = some y0 ∧ DataW.trod enc P w base spare held n f1.type ((cs.drop f1.offset).take (P.cellsOf f1.type)) = some y1 := by
 obtain ⟨xs,n,_,rfl,hl,hlen,hf⟩ := DataW.trod_struct ht h
 match xs,hlen with
 | [y0,y1],_ => exact ⟨y0,y1,n,by simp,hl,by simpa using hf 0 f0 rfl,by simpa using hf 1 f1 rfl⟩
def Zw (w : World) (v : Value) (zs : List Int) (ks : List Nat) : Prop :=
 ks.length = zs.length ∧ ∃ a c,v = .slice a zs.length c ∧ zs.length ≤ c ∧ zs.length ≤ 1048576 ∧ (zs = [] ∨ ∃ b off,a = some ⟨b,off,none⟩ ∧ b < w.heap.size ∧ ∀ j z k,zs[j]? = some z → ks[j]? = some k → ∃ x y,w.cell? ⟨b,off + 2 * j,none⟩ = some x ∧ w.cell? ⟨b,off + 2 * j + 1,none⟩ = some y ∧ Zi w (.agg #[x,y]) z k)
def ksum (ks : List Nat) : Nat := ks.foldr (· + ·) 0
theorem zmD (k : Nat) (ks : List Nat) : ksum (k :: ks) = k + ksum ks := rfl
theorem zvG : ∀ {ks : List Nat} {j k : Nat},ks[j]? = some k → k ≤ ksum ks
 | [],j,k,h => by simp at h
 | x :: r,0,k,h => by
  simp only [List.getElem?_cons_zero,Option.some.injEq] at h;rw [zmD];omega
 | x :: r,j + 1,k,h => by
  simp only [List.getElem?_cons_succ] at h;have := zvG h;rw [zmD];omega
theorem Zw.zl {w : World} {v : Value} {zs : List Int} {ks : List Nat} {K : Nat} (h : Zw w v zs ks) (hK : ksum ks ≤ K) : Zl w v zs K := by
 obtain ⟨h0,a,c,h1,h2,h3,h4⟩ := h;refine ⟨a,c,h1,h2,h3,?_⟩;rcases h4 with h4 | ⟨b,off,h5,h6,h7⟩
 ·exact .inl h4
 ·refine .inr ⟨b,off,h5,h6,fun j hj => ?_⟩
  have hk : ks[j]? = some ks[j] := List.getElem?_eq_getElem (by omega);obtain ⟨x,y,q1,q2,q3⟩ := h7 j _ _ (List.getElem?_eq_getElem hj) hk;exact ⟨x,y,q1,q2,q3.more (Nat.le_trans (zvG hk) hK)⟩
theorem zRF {H : Type} {D : Nat → DataW H} {q : Nat → Nat} : ∀ l : List Nat,(∀ i ∈ l,q i + 1 ≤ Rows.uptoBulk (D i)) → ksum (l.map q) + l.length ≤ Rows.uptoBulkAll (l.map D)
 | [],_ => by simp [ksum]
 | i :: r,h => by
  have h1 := h i (by simp);have h2 := zRF r (fun j hj => h j (by simp [hj]));simp only [List.map_cons,zmD,Rows.uptoBulkAll,List.length_cons];omega
theorem open_int3 {H : Type} {enc : TypeId × Value → H} {W : World} {fuel : Nat} {cs : List Value} {x : DataW H × List MemPlace}
  (hf : DataW.trod enc Tryz.prog W 0 (fun _ => true) true fuel 40 cs = some x) (hb : Rows.uptoBulk x.1 ≤ 1048576) :
  ∃ x0 x1 z k,cs = [x0,x1] ∧ Zi W (.agg #[x0,x1]) z k ∧ k + 1 ≤ Rows.uptoBulk x.1 := by
 obtain ⟨y0,y1,n,hx,hl,t0,t1⟩ := trod_struct2 Tryz.underlying40 hf;rw [Tryz.cellsZ] at hl;rw [hx] at hb ⊢;simp only [Rows.uptoBulk,Rows.uptoBulkAll] at hb ⊢;obtain ⟨c0,c1,rfl⟩ : ∃ c0 c1,cs = [c0,c1] := by
  match cs,hl with
  | [c0,c1],_ => exact ⟨c0,c1,rfl⟩
 simp only [Tryz.cellsZb,Tryz.cellsZs,List.drop_zero,List.drop_succ_cons,List.take_succ_cons,List.take_zero] at t0 t1;obtain ⟨k,e0,_⟩ := DataW.trod_bool Tryz.underlying4 t0;obtain ⟨xs,sx,lx,fx⟩ := open_words3 t1 (by omega);simp only [List.cons.injEq,and_true] at e0;subst e0;obtain ⟨a,c,rfl⟩ : ∃ a c,c1 = .slice a xs.length c := by obtain ⟨_,a,c,e,_⟩ := sx;exact ⟨a,c,e⟩
 have := zSD y0.1;exact ⟨_,_,iv k xs,xs.length,rfl,⟨k,xs,a,c,rfl,sx,rfl,Nat.le_refl _⟩,by omega⟩
theorem zOE {H : Type} {enc : TypeId × Value → H} {W : World} {fuel : Nat} {v : Value} {y : DataW H × List MemPlace}
  (hf : DataW.trod enc Tryz.prog W 0 (fun _ => true) true fuel 22 [v] = some y) (hb : Rows.uptoBulk y.1 ≤ 1048576) :
  ∃ zs ks,Zw W v zs ks ∧ zs.length + ksum ks + 1 ≤ Rows.uptoBulk y.1 := by
 rcases Deep.open_slice Tryz.underlying22 hf with ⟨hcs,_⟩ | ⟨x,len,cap,m,n,D,Pl,hcs,_,hl,hm,hmm,hx,hel⟩
 ·simp only [List.cons.injEq,and_true] at hcs
  subst hcs;exact ⟨[],[],⟨rfl,none,0,rfl,Nat.le_refl _,Nat.zero_le _,.inl rfl⟩,zSD _⟩
 ·simp only [List.cons.injEq,and_true] at hcs
  subst hcs;simp only [if_true] at hmm;subst hmm;rw [hx] at hb ⊢;simp only [Rows.uptoBulk] at hb ⊢;have e1 := zTD ((List.range len).map D);simp only [List.length_map,List.length_range] at e1;rw [Tryz.cellsZ] at hel;obtain ⟨q,hq⟩ := Deep.choose_lt (α := Value × Value × Int × Nat) (n := len) (p := fun i q => W.cells? 0 (x.add (i * 2)) 2 = some [q.1,q.2.1] ∧ Zi W (.agg #[q.1,q.2.1]) q.2.2.1 q.2.2.2 ∧ q.2.2.2 + 1 ≤ Rows.uptoBulk (D i)) (fun i hi => by
    obtain ⟨cs',h1,h2⟩ := hel i (by omega);have hbi : Rows.uptoBulk (D i) ≤ 1048576 := by
     have := bulk_in (List.mem_map_of_mem (f := D) (List.mem_range.2 hi));omega
    obtain ⟨x0,x1,z,k,rfl,s1,s2⟩ := open_int3 (x := (D i,Pl i)) h2 hbi;exact ⟨(x0,x1,z,k),h1,s1,s2⟩)
  have ht := zRF (D := D) (q := fun i => (q i).2.2.2) (List.range len) (fun i hi => (hq i (List.mem_range.1 hi)).2.2);simp only [List.length_range] at ht;refine ⟨(List.range len).map fun i => (q i).2.2.1,(List.range len).map fun i => (q i).2.2.2,⟨by simp,some x,m,by simp,by simpa using hl,by simp;omega,?_⟩,by simp;omega⟩
  by_cases he : len = 0
  ·exact .inl (by simp [he])
  ·obtain ⟨b,off,spot⟩ := x
   have hc := (World.cells?_some (hq 0 (by omega)).1).2.2 0 (by omega);rw [Deep.add_add] at hc;simp only [Nat.zero_mul,Nat.add_zero,List.getElem?_cons_zero] at hc;have hspot : spot = none := by simpa [Addr.add] using World.cell?_spot hc
   subst hspot;refine .inr ⟨b,off,rfl,?_,fun j z k hz hk => ?_⟩
   ·have := World.block_lt_of_cell? W _ hc
    simpa [Addr.add] using this
   ·have hj : j < len := by
     have := (List.getElem?_eq_some_iff.1 hz).1
     simpa using this
    have ea : ∀ j,(⟨b,off,none⟩ : Addr).add j = ⟨b,off + j,none⟩ := fun j => by unfold Addr.add;split <;> simp_all
    have k0 := (World.cells?_some (hq j hj).1).2.2 0 (by omega);have k1 := (World.cells?_some (hq j hj).1).2.2 1 (by omega);rw [Deep.add_add,ea] at k0 k1;simp only [Nat.add_zero,List.getElem?_cons_zero,List.getElem?_cons_succ] at k0 k1;simp only [List.getElem?_map,List.getElem?_range hj,Option.map_some,Option.some.injEq] at hz hk;subst hz hk;refine ⟨(q j).1,(q j).2.1,?_,?_,(hq j hj).2.1⟩
    ·rw [Nat.mul_comm 2 j];exact k0
    ·rw [Nat.mul_comm 2 j,Nat.add_assoc];exact k1
theorem open_ints {H : Type} {enc : TypeId × Value → H} {W : World} {a : Option Addr} {len cap : Nat} {d : DataW H} {p : List MemPlace}
  (h0 : DataW.Trod enc Tryz.prog W 0 (fun _ => true) true 22 (.slice a len cap) d p) (hb : Rows.uptoBulk d ≤ 1048576) :
  ∃ zs ks,Zw W (.slice a len cap) zs ks ∧ zs.length + ksum ks ≤ 1048576 := by
 obtain ⟨fuel,hf⟩ := h0;obtain ⟨zs,ks,h1,h2⟩ := zOE (y := (d,p)) hf hb;have h2' : zs.length + ksum ks + 1 ≤ Rows.uptoBulk d := h2;exact ⟨zs,ks,h1,by omega⟩
end Go.Proofs.YtmnecbniappnaaaGreat
namespace Go.Proofs.YtmnecbniappnaaaGreat
open Go.RowKit
def zXB (y1 y0 u d q r : Nat) : Prop := q * y1 + r = u ∧ u * 4294967296 + d < (q + 1) * (y1 * 4294967296 + y0)
def zjH (y1 y0 u d q : Nat) : Prop := q < 4294967296 ∧ q * (y1 * 4294967296 + y0) ≤ u * 4294967296 + d ∧ u * 4294967296 + d < (q + 1) * (y1 * 4294967296 + y0)
theorem mul_two (q y1 y0 : Nat) : q * (y1 * 4294967296 + y0) = q * y1 * 4294967296 + q * y0 := by rw [Nat.mul_add,Nat.mul_assoc]
theorem over_aux {B y1 y0 u d q r : Nat} (h1 : q * y1 + r = u) (ht : r * B + d < q * y0) : u * B + d < q * (y1 * B + y0) := by
 subst h1;rw [Nat.mul_add,← Nat.mul_assoc,Nat.add_mul];omega
theorem zzF {B y1 y0 u d q r : Nat} (h1 : q * y1 + r = u) (ht : q * y0 ≤ r * B + d) : q * (y1 * B + y0) ≤ u * B + d := by
 subst h1;rw [Nat.mul_add,← Nat.mul_assoc,Nat.add_mul];omega
theorem zXB.start {y1 y0 u d : Nat} (hy : 0 < y1) (hd : d < 4294967296) : zXB y1 y0 u d (u / y1) (u % y1) := by
 have h1 := Nat.div_add_mod u y1;have h2 := Nat.mod_lt u hy;rw [Nat.mul_comm] at h1;refine ⟨h1,?_⟩;rw [mul_two,Nat.add_mul,Nat.one_mul];omega
theorem zXB.over {y1 y0 u d q r : Nat} (h : zXB y1 y0 u d q r) (hu : u < y1 * 4294967296 + y0) (hd : d < 4294967296) (ht : 4294967296 ≤ q ∨ r * 4294967296 + d < q * y0) :
  ∃ k,q = k + 1 ∧ zXB y1 y0 u d k (r + y1) := by
 obtain ⟨h1,h2⟩ := h;have h3 : u * 4294967296 + d < q * (y1 * 4294967296 + y0) := by
  rcases ht with ht | ht
  ·obtain ⟨Y,hY⟩ : ∃ Y,Y = y1 * 4294967296 + y0 := ⟨_,rfl⟩
   rw [← hY] at hu ⊢;have h5 := Nat.mul_le_mul_right Y ht;obtain ⟨m,hm⟩ : ∃ m,m = q * Y := ⟨_,rfl⟩
   rw [← hm] at h5 ⊢;have h6 : 4294967296 * (u + 1) ≤ 4294967296 * Y := Nat.mul_le_mul_left _ hu;have h7 := Nat.le_trans h6 h5;clear hm h2 h1 hY h5 h6 hu ht;omega
  ·exact over_aux h1 ht
 have h4 : q ≠ 0 := fun e => by subst e;simp at h3
 obtain ⟨k,rfl⟩ := Nat.exists_eq_succ_of_ne_zero h4;refine ⟨k,rfl,?_,h3⟩;rw [Nat.succ_mul] at h1;omega
theorem zXB.small {y1 y0 u d q r : Nat} (h : zXB y1 y0 u d q r) (hu : u < y1 * 4294967296 + y0) (hy0 : y0 < 4294967296) (hr : 4294967296 ≤ r) : zjH y1 y0 u d q := by
 obtain ⟨h1,h2⟩ := h;have hq : q < 4294967296 := by
  refine Nat.lt_of_not_le fun hq => ?_
  have := Nat.mul_le_mul_right y1 hq;omega
 refine ⟨hq,zzF h1 ?_,h2⟩;have h5 : q * y0 ≤ 4294967295 * 4294967295 := Nat.mul_le_mul (by omega) (by omega);exact Nat.le_trans h5 (by clear h5 h1 h2;omega)
theorem zXB.stop {y1 y0 u d q r : Nat} (h : zXB y1 y0 u d q r) (hq : q < 4294967296) (ht : q * y0 ≤ r * 4294967296 + d) : zjH y1 y0 u d q := by
 obtain ⟨h1,h2⟩ := h;exact ⟨hq,zzF h1 ht,h2⟩
theorem zjH.rest {y1 y0 u d q : Nat} (h : zjH y1 y0 u d q) : ∃ v,q * (y1 * 4294967296 + y0) + v = u * 4294967296 + d ∧ v < y1 * 4294967296 + y0 := by
 obtain ⟨h1,h2,h3⟩ := h;rw [Nat.add_mul,Nat.one_mul] at h3;exact ⟨u * 4294967296 + d - q * (y1 * 4294967296 + y0),by omega,by omega⟩
theorem zXB.mul_fits {y0 q : Nat} (hq : q < 4294967296) (hy0 : y0 < 4294967296) : q * y0 < 18446744073709551616 := by
 have : q * y0 ≤ 4294967295 * 4294967295 := Nat.mul_le_mul (by omega) (by omega);omega
theorem zqB {x lo y P Y u un q1 q0 v z : Nat} (hP : 0 < P) (hY : Y = y * P) (hu : u * 18446744073709551616 + un = (x * 18446744073709551616 + lo) * P)
  (h1 : q1 * Y + v = u * 4294967296 + un / 4294967296) (h0 : q0 * Y + z = v * 4294967296 + un % 4294967296) (hz : z < Y) :
  ∃ r,z = r * P ∧ r < y ∧ (q1 * 4294967296 + q0) * y + r = x * 18446744073709551616 + lo := by
 have e1 : (q1 * 4294967296 + q0) * Y + z = (x * 18446744073709551616 + lo) * P := by
  rw [Nat.add_mul,Nat.mul_right_comm,← hu];clear hu hY;obtain ⟨a,ha⟩ : ∃ a,a = q1 * Y := ⟨_,rfl⟩
  obtain ⟨b,hb⟩ : ∃ b,b = q0 * Y := ⟨_,rfl⟩
  rw [← ha] at h1 ⊢;rw [← hb] at h0 ⊢;clear ha hb;omega
 subst hY;rw [← Nat.mul_assoc] at e1;obtain ⟨A,hA⟩ : ∃ A,A = (q1 * 4294967296 + q0) * y := ⟨_,rfl⟩
 obtain ⟨T,hT⟩ : ∃ T,T = x * 18446744073709551616 + lo := ⟨_,rfl⟩
 rw [← hA,← hT] at e1;rw [← hA,← hT];clear hA hT h1 h0 hu;have hle : A ≤ T := by
  refine Nat.le_of_mul_le_mul_right (c := P) ?_ hP;omega
 obtain ⟨r,rfl⟩ := Nat.exists_eq_add_of_le hle;rw [Nat.add_mul] at e1;refine ⟨r,by omega,?_,rfl⟩;have : z = r * P := by omega
 rw [this] at hz;exact Nat.lt_of_mul_lt_mul_right hz
theorem lead_up {y : Nat} (h0 : y ≠ 0) (h : y < 2 ^ 64) : bitLen y ≤ 64 ∧ 0 < bitLen y ∧ y * 2 ^ (64 - bitLen y) < 18446744073709551616 ∧ 9223372036854775808 ≤ y * 2 ^ (64 - bitLen y) := by
 have e : bitLen y = Nat.log2 y + 1 := by unfold bitLen;rw [if_neg h0]
 have h1 : Nat.log2 y < 64 := (Nat.log2_lt h0).2 h;have h2 : y < 2 ^ (Nat.log2 y + 1) := Nat.lt_log2_self;have h3 : 2 ^ Nat.log2 y ≤ y := Nat.log2_self_le h0;have h4 := Nat.mul_lt_mul_of_pos_right h2 (Nat.two_pow_pos (64 - (Nat.log2 y + 1)));have h5 := Nat.mul_le_mul_right (2 ^ (64 - (Nat.log2 y + 1))) h3;rw [← Nat.pow_add,show Nat.log2 y + 1 + (64 - (Nat.log2 y + 1)) = 64 by omega] at h4;rw [← Nat.pow_add,show Nat.log2 y + (64 - (Nat.log2 y + 1)) = 63 by omega] at h5;rw [e];exact ⟨by omega,by omega,by omega,by omega⟩
theorem zHF : ∀ k,pw k = 2 ^ (64 * k)
 | 0 => by simp [pw]
 | k + 1 => by rw [pw,zHF k,show 64 * (k + 1) = 64 + 64 * k by omega,Int.pow_add];rfl
theorem zJF (a b : Nat) : pw (a + b) = pw a * pw b := by rw [zHF,zHF,zHF,Nat.mul_add,Int.pow_add]
theorem two_split (n : Nat) : (2 : Int) ^ n = pw (n / 64) * 2 ^ (n % 64) := by rw [zHF,← Int.pow_add,show 64 * (n / 64) + n % 64 = n by omega]
theorem zVC (a b : Nat) (ha : a < 18446744073709551616) (hb : b < 18446744073709551616) : bits .or .u64 (a : Int) (b : Int) = ((a ||| b : Nat) : Int) := by
 have hx : a ||| b < 2 ^ 64 := Nat.or_lt_two_pow ha hb;have h1 : (BitVec.ofInt 64 (a : Int)).toNat = a := by
  rw [BitVec.ofInt_natCast,BitVec.toNat_ofNat];exact Nat.mod_eq_of_lt (by omega)
 have h2 : (BitVec.ofInt 64 (b : Int)).toNat = b := by
  rw [BitVec.ofInt_natCast,BitVec.toNat_ofNat];exact Nat.mod_eq_of_lt (by omega)
 show IntKind.u64.wrap ((BitVec.ofInt 64 (a : Int) ||| BitVec.ofInt 64 (b : Int)).toNat : Int) = _
 rw [BitVec.toNat_or,h1,h2,IntKind.wrap_u64];omega
theorem zfD {p : Nat} (hp : p ≤ 64) : 2 ^ p * 2 ^ (64 - p) = 18446744073709551616 := by rw [← Nat.pow_add,show p + (64 - p) = 64 by omega]
theorem zWA (p : Nat) : (2 : Int) ^ p = ((2 ^ p : Nat) : Int) := by simp
theorem shl_word {x c : Int} {p : Nat} (hx : IsW x) (hp : p < 64) (hc0 : 0 ≤ c) (hc : c < 2 ^ p) :
  IsW (bits BinOp.or IntKind.u64 (IntKind.u64.wrap (x * 2 ^ p)) c) ∧ 0 ≤ x / 2 ^ (64 - p) ∧ x / 2 ^ (64 - p) < 2 ^ p ∧
   bits BinOp.or IntKind.u64 (IntKind.u64.wrap (x * 2 ^ p)) c + wB * (x / 2 ^ (64 - p)) = 0 + x * 2 ^ p + c := by
 have hl := zaB hx;obtain ⟨X,rfl⟩ := Int.eq_ofNat_of_zero_le hx.1;obtain ⟨C,rfl⟩ := Int.eq_ofNat_of_zero_le hc0;simp only [Int.toNat_natCast] at hl;have hs := zfD (p := p) (by omega);have hpp := Nat.two_pow_pos p;have hqp := Nat.two_pow_pos (64 - p);rw [zWA p,zWA (64 - p)] at *;generalize hP : 2 ^ p = P at *;generalize hQ : 2 ^ (64 - p) = Q at *;have hC : C < P := by omega
 have hm : X * P % 18446744073709551616 = P * (X % Q) := by rw [← hs,Nat.mul_comm X P,Nat.mul_mod_mul_left]
 have hXQ : X % Q < Q := Nat.mod_lt _ hqp;have hle : P * (X % Q) + P ≤ 18446744073709551616 := by
  rw [← hs,← Nat.mul_succ];exact Nat.mul_le_mul_left _ hXQ
 have hw : IntKind.u64.wrap ((X : Int) * (P : Int)) = ((P * (X % Q) : Nat) : Int) := by
  rw [IntKind.wrap_u64,← hm];simp
 have ho : P * (X % Q) ||| C = P * (X % Q) + C := by
  subst hP;exact (Nat.two_pow_add_eq_or_of_lt (by omega) _).symm
 have hd : (X : Int) / (Q : Int) = ((X / Q : Nat) : Int) := by simp
 rw [hw,zVC _ _ (by omega) (by omega),ho,hd];have hXd : X / Q < P := by rw [Nat.div_lt_iff_lt_mul hqp,hs];exact hl
 have hmain : P * (X % Q) + 18446744073709551616 * (X / Q) = X * P := by
  have := Nat.mod_add_div X Q;rw [← hs,Nat.mul_assoc,← Nat.mul_add,this,Nat.mul_comm]
 refine ⟨by unfold IsW wB;omega,by omega,by omega,?_⟩;have : ((P * (X % Q) + 18446744073709551616 * (X / Q) : Nat) : Int) = ((X * P : Nat) : Int) := by rw [hmain]
 unfold wB;rw [← Int.natCast_mul];omega
theorem shr_word {x y : Int} {p : Nat} (hx : IsW x) (hy : IsW y) (hp : p < 64) :
  IsW (bits BinOp.or IntKind.u64 (x / 2 ^ p) (IntKind.u64.wrap (y * 2 ^ (64 - p)))) ∧
   2 ^ p * bits BinOp.or IntKind.u64 (x / 2 ^ p) (IntKind.u64.wrap (y * 2 ^ (64 - p))) = x - x % 2 ^ p + wB * (y % 2 ^ p) := by
 have hl := zaB hx;have hl' := zaB hy;obtain ⟨X,rfl⟩ := Int.eq_ofNat_of_zero_le hx.1;obtain ⟨Y,rfl⟩ := Int.eq_ofNat_of_zero_le hy.1;simp only [Int.toNat_natCast] at hl hl';have hs := zfD (p := p) (by omega);have hpp := Nat.two_pow_pos p;have hqp := Nat.two_pow_pos (64 - p);rw [zWA p,zWA (64 - p)] at *;generalize hP : 2 ^ p = P at *;generalize hQ : 2 ^ (64 - p) = Q at *;have hm : Y * Q % 18446744073709551616 = Q * (Y % P) := by rw [← hs,Nat.mul_comm P Q,Nat.mul_comm Y Q,Nat.mul_mod_mul_left]
 have hYP : Y % P < P := Nat.mod_lt _ hpp;have hle : Q * (Y % P) + Q ≤ 18446744073709551616 := by
  rw [← hs,Nat.mul_comm P Q,← Nat.mul_succ];exact Nat.mul_le_mul_left _ hYP
 have hw : IntKind.u64.wrap ((Y : Int) * (Q : Int)) = ((Q * (Y % P) : Nat) : Int) := by
  rw [IntKind.wrap_u64,← hm];simp
 have hXd : X / P < Q := by rw [Nat.div_lt_iff_lt_mul hpp,Nat.mul_comm,hs];exact hl
 have ho : X / P ||| Q * (Y % P) = Q * (Y % P) + X / P := by
  rw [Nat.or_comm];subst hQ;exact (Nat.two_pow_add_eq_or_of_lt hXd _).symm
 have hd : (X : Int) / (P : Int) = ((X / P : Nat) : Int) := by simp
 rw [hw,hd,zVC _ _ (by omega) (by omega),ho];refine ⟨by unfold IsW wB;omega,?_⟩;have h1 := Nat.div_add_mod X P;have h2 : P * (Q * (Y % P) + X / P) = 18446744073709551616 * (Y % P) + P * (X / P) := by rw [Nat.mul_add,← Nat.mul_assoc,hs]
 have h3 : (X : Int) % (P : Int) = ((X % P : Nat) : Int) := by simp
 have h4 : (Y : Int) % (P : Int) = ((Y % P : Nat) : Int) := by simp
 rw [h3,h4,← Int.natCast_mul,h2];unfold wB;omega
def Own (B : Nat) (w : World) (v : Value) (zs : List Int) : Prop :=
 WF zs ∧ ((v = .slice none 0 0 ∧ zs = []) ∨ ∃ g r,B ≤ g ∧ zs.length + r.length ≤ 35184372088832 ∧ v = .slice (some ⟨g,0,none⟩) zs.length (zs.length + r.length) ∧ Row w g (ws zs ++ r))
theorem Own.form {B : Nat} {w : World} {v : Value} {zs : List Int} (h : Own B w v zs) : ∃ a cap,v = .slice a zs.length cap := by
 obtain ⟨_,⟨h1,h2⟩ | ⟨g,r,_,_,h1,_⟩⟩ := h
 ·subst h2;exact ⟨none,0,h1⟩
 ·exact ⟨_,_,h1⟩
theorem Own.sl {B : Nat} {w : World} {v : Value} {zs : List Int} (h : Own B w v zs) : Sl w.heap.size w v zs := by
 obtain ⟨hw,⟨h1,h2⟩ | ⟨g,r,h1,h2,h3,h4⟩⟩ := h
 ·subst h1 h2;exact Sl.nilAt w
 ·subst h3
  exact h4.sl hw (by omega) h2 h4.lt
end Go.Proofs.YtmnecbniappnaaaGreat
