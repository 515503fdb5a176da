/-
 QBaseToBulk: Base, Open, Bulk, joined.
-/
import Derived.Test.YtlhjogiefbjklaaRows
import Derived.Test.YtlhjogiefbjklaaQWords
import Derived.WalkKit
import Derived.WalkSpells
import Derived.WalkLawsBesides
import Derived.Deep.QuietTactic
import Derived.BigQuiet
import Derived.ProofKit
import Derived.SizedLaws
import Derived.ChangeOld
import Derived.OpenShut

set_option maxRecDepth 100000
set_option maxHeartbeats 6400000
set_option linter.unusedVariables false
set_option linter.unusedSimpArgs false
namespace Go.Proofs.Ytlhjogiefbjklaa
open Go.RowKit
theorem hid {p : Prop} (h : p) : Hid p := h
def Sl (B : Nat) (w : World) (v : Value) (xs : List Int) : Prop :=
 WF xs ∧ ∃ a cap,v = .slice a xs.length cap ∧ xs.length ≤ cap ∧ xs.length ≤ 35184372088832 ∧
  (xs = [] ∨ ∃ b off,a = some ⟨b,off,none⟩ ∧ b < B ∧ ∀ j (h : j < xs.length),w.cell? ⟨b,off + j,none⟩ = some (.int .u64 xs[j]))
theorem Sl.nilAt (w : World) : Sl w.heap.size w (.slice none 0 0) [] := ⟨WF.nil,none,0,rfl,Nat.le_refl _,Nat.zero_le _,.inl rfl⟩
theorem Sl.mono {B B' : Nat} {w : World} {v : Value} {xs : List Int} (h : Sl B w v xs) (hB : B ≤ B') : Sl B' w v xs := by
 obtain ⟨h1,a,cap,h2,h3,h4,h5⟩ := h;refine ⟨h1,a,cap,h2,h3,h4,?_⟩;rcases h5 with h5 | ⟨b,off,h6,h7,h8⟩
 ·exact .inl h5
 ·exact .inr ⟨b,off,h6,by omega,h8⟩
theorem Sl.below {B B' : Nat} {w w' : World} {v : Value} {xs : List Int} (h : Sl B w v xs) (hb : Below B' w w') (hB : B ≤ B') : Sl B w' v xs := by
 obtain ⟨h1,a,cap,h2,h3,h4,h5⟩ := h;refine ⟨h1,a,cap,h2,h3,h4,?_⟩;rcases h5 with h5 | ⟨b,off,h6,h7,h8⟩
 ·exact .inl h5
 ·exact .inr ⟨b,off,h6,h7,fun j hj => (hb.cell (p := ⟨b,off + j,none⟩) (by show b < B';omega)).trans (h8 j hj)⟩
theorem zcA {x : Int} (h0 : -9223372036854775808 ≤ x) (h1 : x ≤ 9223372036854775807) : IntKind.i64.wrap x = x := by rw [IntKind.wrap_i64];omega
theorem zCD {xs : List Int} {j : Nat} (h : j < xs.length) : xs.getD j 0 = xs[j] := by simp [h]
theorem zYA {B : Nat} {w : World} {v : Value} {xs : List Int} (h : Sl B w v xs) :
  Calls Try.prog 39 #[v] w fun e w' => e = .returned (.int .i64 (wid xs)) ∧ w' = w := by
 obtain ⟨hw,a,cap,rfl,hlc,hcm,hm⟩ := h;have HW : Hid (∀ n : Nat,n ≤ xs.length → (∀ j (h : j < xs.length),n ≤ j → xs[j] = 0) → (0 < n → ∀ h' : n - 1 < xs.length,xs[n - 1] ≠ 0) → wid xs = n) := fun n h1 h2 h3 => wid_is h1 h2 h3
 generalize wid xs = W at *;go_enter Try.func39,Try.ntmps39;go_wp2
 go_loop [3] (fun i => ∃ n : Nat,n ≤ xs.length ∧ i = .int .i64 n ∧ ∀ j (h : j < xs.length),n ≤ j → xs[j] = 0) (fun i => (intOf i).toNat)
 case atStart => exact ⟨xs.length,Nat.le_refl _,rfl,fun j h h' => by omega⟩
 case round =>
  obtain ⟨n,hn,rfl,hz⟩ := hrel;have HZ : Hid (∀ j (h : j < xs.length),n ≤ j → xs[j] = 0) := hz;clear hz
  by_cases h0 : n = 0
  ·subst h0
   go_wp2;go_ret;exact ⟨by rw [HW.out 0 (by omega) HZ.out (by omega)];rfl,rfl⟩
  ·obtain ⟨k,rfl⟩ : ∃ k,n = k + 1 := ⟨n - 1,by omega⟩
   rcases hm with rfl | ⟨b,off,rfl,hb,hc⟩
   ·simp at hn
   ·have hk : k < xs.length := by omega
    have hck := hc k hk;obtain ⟨x,hx⟩ : ∃ x,x = xs[k] := ⟨_,rfl⟩
    rw [← hx] at hck;have HX : Hid (x = xs[k]) := hx;clear hx hc h0
    by_cases hx0 : x = 0
    ·have ht : (x == 0) = true := by simp [hx0]
     go_wp2;go_round
     case rel =>
      refine ⟨k,by omega,rfl,fun j h hj => ?_⟩
      by_cases e : j = k
      ·subst e;rw [← HX.out];exact hx0
      ·exact HZ.out j h (by omega)
     case measure => simp [intOf]
    ·have ht : (x == 0) = false := by simp [hx0]
     go_wp2;go_ret;refine ⟨?_,rfl⟩;rw [HW.out (k + 1) hn HZ.out (fun _ h' => by have := HX.out;simp at h' ⊢;rw [← this];exact hx0)]
     rfl
theorem order_any (x y : Int) (w : World) :
  Calls Try.prog 69 #[.int .u64 x,.int .u64 y] w fun e w' => e = .returned (.int .i64 (cmpI x y)) ∧ w' = w := by
 rcases Int.lt_trichotomy x y with q | q | q
 ·rw [zqA q]
  go_enter Try.func69,Try.ntmps69;go_wp2;go_ret;exact ⟨rfl,rfl⟩
 ·subst q
  rw [cmpI_self];go_enter Try.func69,Try.ntmps69;go_wp2;go_ret;exact ⟨rfl,rfl⟩
 ·rw [zrA q]
  have q' : ¬ x < y := by omega
  go_enter Try.func69,Try.ntmps69;go_wp2;go_ret;exact ⟨rfl,rfl⟩
def same (xs ys : List Int) : Bool := decide (xs = ys)
theorem same_self (xs : List Int) : same xs xs = true := by simp [same]
theorem same_any {B : Nat} {w : World} {v u : Value} {xs ys : List Int} (h : Sl B w v xs) (h' : Sl B w u ys) :
  Calls Try.prog 33 #[v,u] w fun e w' => e = .returned (.bool (same xs ys)) ∧ ∃ n,w' = w.drewN n := by
 obtain ⟨hw,a,cap,rfl,hlc,hcm,hm⟩ := h;obtain ⟨hw',a',cap',rfl,hlc',hcm',hm'⟩ := h'
 by_cases hl : xs.length = ys.length
 ·have HS1 : Hid ((∀ j (h : j < xs.length),xs[j] = ys[j]'(by omega)) → same xs ys = true) := fun h => by
   unfold same;exact decide_eq_true (List.ext_getElem hl (fun j h1 h2 => h j h1))
  have HS2 : Hid (∀ j (h : j < xs.length),xs[j] ≠ ys[j]'(by omega) → same xs ys = false) := fun j h hne => by
   unfold same;exact decide_eq_false (fun e => hne (by subst e;rfl))
  generalize same xs ys = S at *;have HL : Hid (xs.length = ys.length) := hl;obtain ⟨n,hn⟩ : ∃ n,n = ys.length := ⟨_,rfl⟩
  rw [← hn] at hl hlc' HL;rw [hl,← hn];rw [hl] at hlc;have hne : ((n : Int) != (n : Int)) = false := by simp
  have HN : Hid (n = ys.length) := hn;clear hn hl;go_enter Try.func33,Try.ntmps33;go_wp2
  go_loopw [5] (fun i wr => ∃ k q : Nat,k ≤ n ∧ i = .int .i64 k ∧ wr = w.drewN q ∧ ∀ j (h : j < xs.length),j < k → xs[j] = ys[j]'(by have := HL.out;have := HN.out;omega)) (fun i _ => n - (intOf i).toNat)
  case atStart => exact ⟨0,0,Nat.zero_le _,rfl,rfl,fun j h h' => by omega⟩
  case round =>
   obtain ⟨k,q,hk,rfl,rfl,he⟩ := hrel;have HE : Hid (∀ j (h : j < xs.length),j < k → xs[j] = ys[j]'(by have := HL.out;have := HN.out;omega)) := he;clear he
   by_cases hlt : k < n
   ·have hk1 : k < xs.length := by have := HL.out;omega
    have hk2 : k < ys.length := by have := HN.out;omega
    rcases hm with e | ⟨b,off,rfl,hb,hc⟩
    ·subst e;simp at hk1
    rcases hm' with e | ⟨b',off',rfl,hb',hc'⟩
    ·subst e;simp at hk2
    have c1 : ∀ q,(w.drewN q).cell? ⟨b,off + k,none⟩ = some (.int .u64 xs[k]) := fun q => by simpa using hc k hk1
    have c2 : ∀ q,(w.drewN q).cell? ⟨b',off' + k,none⟩ = some (.int .u64 ys[k]) := fun q => by simpa using hc' k hk2
    obtain ⟨x,hx⟩ : ∃ x,x = xs[k] := ⟨_,rfl⟩
    obtain ⟨y,hy⟩ : ∃ y,y = ys[k] := ⟨_,rfl⟩
    rw [← hx] at c1;rw [← hy] at c2;have HX : Hid (x = xs[k]) := hx;have HY : Hid (y = ys[k]) := hy;clear hx hy hc hc'
    by_cases hxy : x = y
    ·have ht : (x != y) = false := by simp [hxy]
     go_wp2;go_quiet (fail);go_wp2;go_roundw
     case rel =>
      refine ⟨k + 1,_,by omega,by go_num,rfl,fun j h hj => ?_⟩
      by_cases e : j = k
      ·subst e;rw [← HX.out,← HY.out];exact hxy
      ·exact HE.out j h (by omega)
     case measure => simp [intOf];omega
    ·have ht : (x != y) = true := by simp [hxy]
     go_wp2;go_quiet (fail);go_wp2;go_ret;refine ⟨?_,q + nq,by simp⟩;rw [HS2.out k hk1 (by rw [← HX.out,← HY.out];exact hxy)]
     rfl
   ·go_wp2
    go_ret;refine ⟨?_,q,rfl⟩;rw [HS1.out (fun j h => HE.out j h (by have := HL.out;omega))]
    rfl
 ·have HS : Hid (same xs ys = false) := by unfold same;exact decide_eq_false (fun e => hl (by rw [e]))
  have hne : ((xs.length : Int) != (ys.length : Int)) = true := by simp;omega
  rw [HS.out];go_enter Try.func33,Try.ntmps33;go_wp2;go_ret;exact ⟨rfl,0,rfl⟩
theorem Sl.drewN {B : Nat} {w : World} {v : Value} {xs : List Int} (h : Sl B w v xs) (n : Nat) : Sl B (w.drewN n) v xs := by
 obtain ⟨h1,a,cap,h2,h3,h4,h5⟩ := h;refine ⟨h1,a,cap,h2,h3,h4,?_⟩;rcases h5 with h5 | ⟨b,off,h6,h7,h8⟩
 ·exact .inl h5
 ·exact .inr ⟨b,off,h6,h7,fun j hj => by simpa using h8 j hj⟩
open Go.ChangeShapes Go.WideShapes Go.ChangeAt Go.RowKit
theorem Try.own : ownKnob Try.prog.godebug = none := by kernel_rfl
theorem Try.laidOut : laidOutB Try.prog = true := by kernel_rfl
theorem Try.cellsW : Try.prog.cellsOf 26 = 1 := by kernel_rfl
theorem zSD {n : Int} (h : (Lit.int .u64 n).wf = true) : IsW n := by
 have h1 : IntKind.u64.min = 0 := rfl;have h2 : IntKind.u64.max = 18446744073709551615 := rfl;simp only [Lit.wf,Bool.and_eq_true,decide_eq_true_eq] at h;unfold IsW wB;omega
def zRF (v : Value) : Prop := v = .slice none 0 0 ∨ ∃ ad n c,v = .slice (some ad) n c
theorem zmE {H : Type} (d : DataW H) : 1 ≤ Rows.uptoBulk d := by
 cases d
 case lit l => cases l <;> simp [Rows.uptoBulk]
 all_goals simp [Rows.uptoBulk]
theorem bulk_in {H : Type} {d : DataW H} : ∀ {l : List (DataW H)},d ∈ l → Rows.uptoBulk d ≤ Rows.uptoBulkAll l
 | [],h => by cases h
 | x :: r,h => by
  simp only [Rows.uptoBulkAll];rcases List.mem_cons.1 h with rfl | h'
  ·omega
  ·have := bulk_in h';omega
theorem zkC {H : Type} : ∀ l : List (DataW H),l.length ≤ Rows.uptoBulkAll l
 | [] => Nat.zero_le _
 | x :: r => by
  have h1 := zmE x;have h2 := zkC r;simp only [Rows.uptoBulkAll,List.length_cons];omega
theorem open_words3 {H : Type} {enc : TypeId × Value → H} {W : World} {fuel : Nat} {v : Value} {x : DataW H × List MemPlace}
  (hf : DataW.trod enc Try.prog W 0 (fun _ => true) true fuel 25 [v] = some x) (hb : Rows.uptoBulk x.1 ≤ 1048576) :
  ∃ xs,Sl W.heap.size W v xs ∧ xs.length + 1 ≤ Rows.uptoBulk x.1 ∧ zRF v := by
 rcases open_ints Try.underlying25 Try.underlying26 Try.cellsW hf with ⟨hcs,_⟩ | ⟨x',len,cap,zs,hcs,_,hl,hm,hz,hx,hcell,hwz⟩
 ·simp only [List.cons.injEq,and_true] at hcs
  subst hcs;exact ⟨[],Sl.nilAt W,zmE _,.inl rfl⟩
 ·simp only [List.cons.injEq,and_true] at hcs
  subst hcs;simp only [if_true] at hz;rw [hx] at hb ⊢;simp only [Rows.uptoBulk] at hb ⊢;have e1 := zkC (lits (H := H) .u64 (zs.take len));have e2 := zkC (lits (H := H) .u64 (zs.drop len));simp only [lits,List.length_map,List.length_take,List.length_drop] at e1 e2;have hlen : (zs.take len).length = len := by simp;omega
  have hzl : zs.length ≤ 1048576 := by simp only [lits] at hb;omega
  refine ⟨zs.take len,⟨fun y hy => zSD (hwz y (List.mem_of_mem_take hy)),some x',cap,by rw [hlen],by rw [hlen];exact hl,by omega,?_⟩,by rw [hlen];simp only [lits];omega,.inr ⟨x',len,cap,rfl⟩⟩
  by_cases he : len = 0
  ·exact .inl (by simp [he])
  ·obtain ⟨b,off,spot⟩ := x'
   have hc := hcell 0 (by omega);have hspot : spot = none := by simpa [Addr.add] using World.cell?_spot hc
   subst hspot;refine .inr ⟨b,off,rfl,?_,fun j hj => ?_⟩
   ·have := World.block_lt_of_cell? W _ hc
    simpa [Addr.add] using this
   ·rw [hlen] at hj
    have hcj := hcell j (by omega);have e : (⟨b,off,none⟩ : Addr).add j = ⟨b,off + j,none⟩ := by unfold Addr.add;split <;> simp_all
    rw [e] at hcj;rw [hcj];simp [show j < zs.length by omega]
theorem zxC {H : Type} {enc : TypeId × Value → H} {W : World} {fuel : Nat} {v : Value} {x : DataW H × List MemPlace}
  (hf : DataW.trod enc Try.prog W 0 (fun _ => true) true fuel 25 [v] = some x) (hb : Rows.uptoBulk x.1 ≤ 1048576) :
  ∃ xs,Sl W.heap.size W v xs ∧ xs.length ≤ 1048576 ∧ zRF v := by
 obtain ⟨xs,h1,h2,h3⟩ := open_words3 hf hb;exact ⟨xs,h1,by omega,h3⟩
end Go.Proofs.Ytlhjogiefbjklaa
