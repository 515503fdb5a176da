/-
 QRz18ToSr18: Rz18, Rn18, Va16, Vm18, Fresh, Far, Cpy16, Tp18, Sm18, Sr18, joined.
-/
import Derived.Test.YtdeomkkpainakaaGreatQRt18
import Derived.Test.YtdeomkkpainakaaGreatQDo11ToVm12
import Derived.Test.YtdeomkkpainakaaGreatQWj18ToRk18
import Derived.Test.YtdeomkkpainakaaGreatQCat9ToOpenM9
import Derived.Test.YtdeomkkpainakaaGreatQPure9ToLeastA9
import Derived.Test.YtdeomkkpainakaaGreatQMadeToByWord
import Derived.Laws.AppendOwn
import Derived.Laws.AppendOwnNone
import Derived.Test.YtdeomkkpainakaaGreatQWordsToCarry
import Derived.Deep.RegionLaw
import Derived.Deep.RegionHeldLaw
import Derived.Test.YtdeomkkpainakaaGreatQTailLToTo18
import Derived.Deep.Cut

set_option maxRecDepth 100000
set_option maxHeartbeats 6400000
set_option linter.unusedVariables false
set_option linter.unusedSimpArgs false
namespace Go.Proofs.YtdeomkkpainakaaGreat
open Go.RowKit
theorem zIG {T k : Nat} (h : ((T : Nat) : Int) < pw k) : ∀ i,(((T + 1) ^ i : Nat) : Int) ≤ pw (k * i)
 | 0 => by rw [Nat.pow_zero,Nat.mul_zero];decide
 | i + 1 => by
  have ih := zIG h i;rw [Nat.pow_succ,show k * (i + 1) = k * i + k from rfl,zzA,Int.natCast_mul];exact Int.mul_le_mul ih (by omega) (by omega) (Int.le_of_lt (zfA _))
theorem pw_up18 {x y : Nat} (h : x ≤ y) : pw x ≤ pw y := by
 obtain ⟨d,rfl⟩ := Nat.exists_eq_add_of_le h;rw [zzA];have h1 := zfA x;have h2 := zfA d;have := Int.mul_le_mul_of_nonneg_left (show 1 ≤ pw d by omega) (show 0 ≤ pw x by omega);omega
theorem Zl.lt18 {w : World} {v : Value} {zs : List Int} {k : Nat} (h : Zl w v zs k) : ∀ j,((zs.getD j 0).natAbs : Int) < pw k := fun j => by
 have hp := zfA k;obtain ⟨a,c,h1,h2,h3,h4⟩ := h
 by_cases q : j < zs.length
 ·rcases h4 with e | ⟨b,off,e,e1,e2⟩
  ·rw [e] at q;simp at q
  ·obtain ⟨x,y,_,_,z⟩ := e2 j q
   rw [List.getD_eq_getElem?_getD,List.getElem?_eq_getElem q];exact z.lt
 ·rw [List.getD_eq_getElem?_getD,List.getElem?_eq_none (by omega)]
  simpa using hp
theorem zWF {Y T l k i : Nat} {z : Int} (hY : ((Y : Nat) : Int) < pw l) (hT : ((T : Nat) : Int) < pw k) (hi : i ≤ 64) (hz : z.natAbs ≤ Y * (T + 1) ^ i) : (z.natAbs : Int) < pw (l + 64 * k) := by
 have h1 := zIG hT i;have h2 : pw (k * i) ≤ pw (64 * k) := pw_up18 (by rw [Nat.mul_comm];exact Nat.mul_le_mul_right _ hi);have h3 : ((Y * (T + 1) ^ i : Nat) : Int) ≤ (Y : Int) * pw (64 * k) := by
  rw [Int.natCast_mul];exact Int.mul_le_mul_of_nonneg_left (by omega) (by omega)
 have h4 := Int.mul_lt_mul_of_pos_right hY (zfA (64 * k));rw [zzA];have h5 : (z.natAbs : Int) ≤ ((Y * (T + 1) ^ i : Nat) : Int) := by exact_mod_cast hz
 omega
theorem zJF {w : World} {v xv : Value} {m n k l r : Nat} {γ : Nat → Nat} {zs vs : List Int} (h : Mx w v m n zs k) (hE : Ec18 n m r id γ (en18 n zs)) (hR : Rd18 0 r id γ (en18 n zs)) (hx : Zl w xv vs l) (hxl : vs.length = n) (hk1 : 1 ≤ k) (hK : l + 64 * k ≤ 549755813888) :
  Calls Tryz.prog 9 #[v,xv] w (zMH w m n r (zRB γ (en18 n zs) fun j => vs.getD j 0) (zhB γ (en18 n zs) fun j => vs.getD j 0) (l + 64 * k)) := by
 obtain ⟨_,_,_,hm,hn⟩ := h.form;have hzl : zs.length = m * n := by obtain ⟨_,_,_,_,_,q,_⟩ := h;exact q
 have hrn : r ≤ 64 := by
  rcases Nat.eq_zero_or_pos r with q | q
  ·omega
  ·have := hE.rl (r - 1) (by omega);simp only [id] at this;omega
 have hX : ∀ i j,i < r → j < n → (en18 n zs i j).natAbs ≤ (pw k - 1).toNat := fun i j hi hj => by
  have hrm := hE.rl i hi;simp only [id] at hrm;have e := zjF hzl hrm hj;have hin : en18 n zs i j ∈ zs ∨ en18 n zs i j = 0 := by
   unfold en18;rw [List.getD_eq_getElem?_getD];cases q : zs[i * n + j]? with
   | none => exact .inr rfl
   | some x => exact .inl (List.mem_of_getElem? q)
  have hp := zfA k;rcases hin with q | q
  ·have := h.lt _ q;omega
  ·rw [q];simp
 have hV : ∀ j,j < n → ((fun j => vs.getD j 0) j : Int).natAbs ≤ (pw l - 1).toNat := fun j _ => by
  have := hx.lt18 j
  show (vs.getD j 0).natAbs ≤ _
  omega
 have hY : (((pw l - 1).toNat : Nat) : Int) < pw l := by have := zfA l;omega
 have hT : (((pw k - 1).toNat : Nat) : Int) < pw k := by have := zfA k;omega
 have sz := fun i hi => zIF hE hX hV i hi
 exact reduce_fit18 h hE hR hx hxl (by omega) (by omega) (fun i hi j hj => zWF hY hT (by omega) ((sz i hi).1 j hj)) (fun a ha => zWF hY hT (by omega) ((sz r (Nat.le_refl _)).2 a ha)) hK
theorem reduceNoFit18 {w : World} {v : Value} {m n k l c : Nat} {a : Option Addr} {zs : List Int} (h : Mx w v m n zs k) (hl : l ≠ n) :
  Calls Tryz.prog 9 #[v,.slice a l c] w fun e w' => e = .returned (.tuple #[.slice none 0 0,.slice none 0 0,.int .i64 2]) ∧ Below w.heap.size w w' := by
 have M0 := hid h;obtain ⟨aa,ca,rfl,hr,hcc⟩ := h.form;obtain ⟨la,hla⟩ : ∃ la,m * n = la := ⟨_,rfl⟩
 rw [hla] at M0 ⊢;obtain ⟨W0,hW⟩ : ∃ W0,w.alloc (matO m n (.slice aa la ca)) = W0 := ⟨_,rfl⟩
 obtain ⟨b0,sz0⟩ := alo1 w (matO m n (.slice aa la ca));rw [hW] at b0 sz0;have pa : Cel W0 w.heap.size 24 (matc m n (.slice aa la ca)) := by rw [← hW];exact Cel.new w _ _
 have HF := hid (formNoFit18 (c := (l : Int)) (M0.out.now b0) (by omega));have x0 := pa.at (i := 0) rfl;have x1 := pa.at (i := 1) rfl;have x2 := pa.at (i := 2) rfl;rw [← hW] at x0 x1 x2;have G := hid b0;have EW := hid hW;clear h b0 sz0 hW pa M0 hla;go_enter Tryz.func9,Tryz.ntmps9;go_wp2_with fail;rw [EW.out];clear EW x0 x1 x2;refine HF.out.mono ?_;rintro e w1 ⟨rfl,b⟩;replace G := hid (below_step G.out b);clear HF b;go_wp2;go_ret3;exact ⟨rfl,G.out⟩





instance (r c : Int) (l : Nat) : Decidable (Snd r c l) := by unfold Snd;infer_instance

theorem Rw17.zl18 {w : World} {g n k : Nat} {F : Nat → Int} (h : Rw17 w g n F k) (hn : n ≤ 64) : Zl w (.slice (some ⟨g,0,none⟩) n n) ((List.range n).map F) k := by
 obtain ⟨ps,h1,h2⟩ := h;have hl : ps.length = n := by rw [h2.1];simp
 have hp := h1.prs (B := 0) (Nat.zero_le _) (by omega) (Nat.le_refl _);rw [hl] at hp;exact zWH hp ⟨h2.1,fun j p z hpj hzj => (h2.2 j p z hpj hzj).zi⟩
theorem Rw17.zcs18 {w : World} {g n k : Nat} {F : Nat → Int} (h : Rw17 w g n F k) (hn : n ≤ 64) : ∃ ps,Prs 0 w (.slice (some ⟨g,0,none⟩) n n) ps ∧ Zcs w ps ((List.range n).map F) k := by
 obtain ⟨ps,h1,h2⟩ := h;have hl : ps.length = n := by rw [h2.1];simp
 have hp := h1.prs (B := 0) (Nat.zero_le _) (by omega) (Nat.le_refl _);rw [hl] at hp;exact ⟨ps,hp,h2.zcs⟩
end Go.Proofs.YtdeomkkpainakaaGreat
