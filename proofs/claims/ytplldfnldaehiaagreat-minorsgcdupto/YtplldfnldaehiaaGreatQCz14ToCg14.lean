/-
 QCz14ToCg14: Cz14, Cg14, joined.
-/
import Derived.Test.YtplldfnldaehiaaGreatQRn14ToIt14
import Derived.Test.YtplldfnldaehiaaGreatQFil9ToRowsOf9
import Derived.Test.YtplldfnldaehiaaGreatQSr13ToUq13
import Derived.Test.YtplldfnldaehiaaGreatQEachM11ToPr12
import Derived.Test.YtplldfnldaehiaaGreatQPure9ToLeastA9

set_option maxRecDepth 100000
set_option maxHeartbeats 6400000
set_option linter.unusedVariables false
set_option linter.unusedSimpArgs false
namespace Go.Proofs.YtplldfnldaehiaaGreat
open Go.RowKit
theorem zWB : ∀ d k, cho d k + cho d (k + 1) ≤ 2 ^ d
 | 0, 0 => by simp [cho]
 | 0, k + 1 => by simp [cho]
 | d + 1, 0 => by
  have : cho d 0 + cho d 1 ≤ 2 ^ d := zWB d 0
  show 1 + (cho d 0 + cho d 1) ≤ 2 ^ (d + 1)
  have h := Nat.two_pow_pos d; rw [Nat.pow_succ]; omega
 | d + 1, k + 1 => by
  have h1 := zWB d k; have h2 := zWB d (k + 1)
  show (cho d k + cho d (k + 1)) + (cho d (k + 1) + cho d (k + 1 + 1)) ≤ 2 ^ (d + 1)
  rw [Nat.pow_succ]; omega
def wu (k : Nat) (F : Nat → Int) : List Value := (List.range k).map fun t => .int .u64 (F t)
theorem zSF {k i : Nat} {F : Nat → Int} (hi : i < k) : (wu k F)[i]? = some (.int .u64 (F i)) := by simp [wu, hi]
theorem zXD {k : Nat} {F G : Nat → Int} (h : ∀ t, t < k → F t = G t) : wu k F = wu k G := List.map_congr_left fun t ht => by rw [h t (by simpa using ht)]
theorem zjI {k i : Nat} {F : Nat → Int} (hi : i < k) (z : Int) : (wu k F).set i (.int .u64 z) = wu k (upF F i z) := by
 apply List.ext_getElem?
 intro t
 by_cases q : t < k
 ·by_cases e : t = i
  ·subst e
   rw [List.getElem?_set_self (by simpa [wu] using hi), zSF q]; simp [upF]
  ·rw [List.getElem?_set_ne (by omega), zSF q, zSF q]; simp [upF, e]
 ·rw [List.getElem?_eq_none (by simp [wu]; omega), List.getElem?_eq_none (by simp [wu]; omega)]
theorem madeCells_uf (m : Nat) : madeCells (Value.int .u64 0).cells m = (wu m fun _ => 0).toArray := by
 apply Array.ext
 ·simp [size_madeCells, wu]
 ·intro i h1 h2
  simp [madeCells, wu, Value.cells, Nat.mod_one]
theorem Tryz.infoU14 : (Tryz.prog.info? 54).map (fun i => (i.zero, i.size, i.bytes)) = some (some (.int .u64 0), 1, 8) := by kernel_rfl
theorem wpList_make_uf (w : World) {ops : Array Oper} {rest : List Oper} {o : Oper} {a : Act} {Q : Exit → Act → World → Prop}
  (hg : o.guard = none) (l c : Operand) (hop : o.op = Op.makeSlice 35 l c)
  (L C : Int) (n m : Nat) (hl : a.eval l = .int .i64 L) (hc : a.eval c = .int .i64 C) (hL : L = (n : Int)) (hC : C = (m : Int)) (hnm : n ≤ m) (hm : m ≤ 2000000)
  (hK : ∀ w', Hid (Cel w' w.heap.size 54 (wu m fun _ => 0)) → Hid (Below w.heap.size w w') → Hid (w'.heap.size = w.heap.size + 1) → wpList Tryz.prog ops Q rest (a.put o.dst (.slice (some ⟨w.heap.size, 0, none⟩) n m)) w') :
  wpList Tryz.prog ops Q (o :: rest) a w := by
 refine wpList_plain hg fun K hK' => ?_
 obtain ⟨i, hi, hz, hs, hb⟩ := info_parts Tryz.infoU14; have hrun := run_make (P := Tryz.prog) w 35 54 i (.int .u64 0) Tryz.underlying35 hi hz .i64 .i64 n m (by omega) (by omega) (by rw [hb]; omega) (by omega); subst hL; subst hC; rw [hs, Nat.mul_one, Int.toNat_natCast, Int.toNat_natCast, madeCells_uf] at hrun; unfold Oper.wp; simp [execOp, hop, hl, hc, hrun, Result.andThen]; refine hK' _ _ (hK _ ?_ ((Below.refl _ _).alloc (Nat.le_refl _) _) ?_)
 ·unfold Hid Cel; exact heap_alloc_new w _
 ·unfold Hid; simp
def chF (t i j : Nat) : Int := if i < j then (cho (t + 1) j : Nat) else (cho t j : Nat)
def CoH (w : World) (g n k gk : Nat) (s : Value) (wx : World) : Prop := ∃ t : Nat, s = .int .i64 (t : Int) ∧ t ≤ n ∧ gk = n - t ∧ Cel wx g 54 (wu (k + 1) fun j => (cho t j : Nat)) ∧ Below w.heap.size w wx
def CiH (w : World) (g t k gk : Nat) (s : Value) (wx : World) : Prop := ∃ i : Nat, s = .int .i64 (i : Int) ∧ i ≤ k ∧ gk = i ∧ Cel wx g 54 (wu (k + 1) (chF t i)) ∧ Below w.heap.size w wx
theorem zJI {t i j : Nat} : upF (chF t (i + 1)) (i + 1) ((cho t (i + 1) + cho t i : Nat) : Int) j = chF t i j := by
 unfold upF chF
 by_cases e : j = i + 1
 ·subst e
  rw [if_pos rfl, if_pos (by omega)]
  show _ = ((cho t i + cho t (i + 1) : Nat) : Int)
  rw [Nat.add_comm]
 ·rw [if_neg e]
  by_cases q : i + 1 < j
  ·rw [if_pos q, if_pos (by omega)]
  ·rw [if_neg q, if_neg (by omega)]
theorem zHH : ∀ d, cho d 0 = 1
 | 0 => rfl
 | _ + 1 => rfl
theorem zKI {t j : Nat} : chF t 0 j = (cho (t + 1) j : Nat) := by
 unfold chF
 by_cases q : 0 < j
 ·rw [if_pos q]
 ·have : j = 0 := by omega
  subst this; rw [if_neg q, zHH, zHH]
theorem zsA {w : World} {n k : Nat} (hn : n ≤ 64) (hk : k ≤ n) : Calls Tryz.prog 24 #[.int .i64 (n : Int), .int .i64 (k : Int)] w fun e w' => e = .returned (.int .u64 (cho n k : Nat)) ∧ Below w.heap.size w w' := by
 have q1 : ¬ (k : Int) < 0 := by omega
 have q2 : ¬ (n : Int) < (k : Int) := by omega
 have q1d : decide ((k : Int) < 0) = false := decide_eq_false q1; have q2d : decide ((n : Int) < (k : Int)) = false := decide_eq_false q2; have hw := zSA (i := k) (by omega); go_enter Tryz.func24, Tryz.ntmps24; go_wp2_with (at_make; refine wpList_make_uf _ rfl _ _ rfl _ _ (k + 1) (k + 1) rfl rfl rfl rfl (Nat.le_refl _) (by omega) ?_)
 intro w1 hrow hb1 hsz1; obtain ⟨g, hgg⟩ : ∃ g, w.heap.size = g := ⟨_, rfl⟩
 have EGG := hid hgg; rw [hgg] at hrow; have e0 := hrow.out.at (zSF (i := 0) (by omega)); have e1 := hrow.out.fz 0; have h0k : (0 : Int) < (k : Int) + 1 := by omega
 have H0 : Hid (CoH w g n k n (.int .i64 0) (w1.setCell ⟨g, 0, none⟩ (.int .u64 1))) := by
  refine ⟨0, rfl, Nat.zero_le _, rfl, ?_, bset hb1.out (by omega)⟩; have := hrow.out.set 0 (.int .u64 1); rw [zjI (by omega), zXD (G := fun j => (cho 0 j : Nat)) fun j hj => ?_] at this
  ·exact this
  ·match j with
   | 0 => rfl
   | j + 1 => simp [upF, cho]
 rw [hgg]; clear hrow hb1 hsz1 q1 q2 q1d q2d hgg; go_wp2_with fail; clear e0 e1
 go_loopg [20] n (fun gk s20 wx => CoH w g n k gk s20 wx)
 case atStart => exact H0.out
 case round =>
  clear H0; obtain ⟨t, rfl, htn, hgk, hc, hb⟩ := hrel; have CC := hid hc; have BB := hid hb; have HG := hid hgk; clear hc hb hgk
  by_cases hlt : t < n
  ·have hlt' : (t : Int) < (n : Int) := by omega
   have hwt := zSA (i := t) (by omega); have HMM : Hid (n - (t + 1) < gk) := by unfold Hid; rw [HG.out]; omega
   have H1 : Hid (CiH w g t k k (.int .i64 (k : Int)) wr) := ⟨k, rfl, Nat.le_refl _, rfl, by
    have := CC.out; rw [zXD (G := chF t k) fun j hj => by unfold chF; rw [if_neg (by omega)]] at this; exact this, BB.out⟩
   clear HG CC BB; go_wp2_with fail
   go_loopg [6] k (fun gk s6 wx => CiH w g t k gk s6 wx)
   case atStart => exact H1.out
   case round =>
    clear H1; obtain ⟨i, rfl, hik, hgk, hc, hb⟩ := hrel; have CC := hid hc; have BB := hid hb; have HG := hid hgk; clear hc hb hgk
    by_cases hi : 0 < i
    ·obtain ⟨i, rfl⟩ : ∃ j, i = j + 1 := ⟨i - 1, by omega⟩
     have hi' : (0 : Int) < ((i + 1 : Nat) : Int) := by omega
     have hws : IntKind.i64.wrap (((i + 1 : Nat) : Int) - 1) = (i : Int) := by rw [zKA] <;> omega
     have hws2 : IntKind.i64.wrap ((i : Int) + 1 - 1) = (i : Int) := by rw [zKA] <;> omega
     have c0 := CC.out.at (zSF (i := i + 1) (by omega)); have c1 := CC.out.at (zSF (i := i) (by omega)); have c2 := CC.out.fz (i + 1); have b1 : cho t i + cho t (i + 1) ≤ 9223372036854775808 := by
      have h1 := zWB t i; have h2 : 2 ^ t ≤ 2 ^ 63 := Nat.pow_le_pow_right (by omega) (by omega); omega
     have E0 : chF t (i + 1) (i + 1) = ((cho t (i + 1) : Nat) : Int) := if_neg (by omega); have E1 : chF t (i + 1) i = ((cho t i : Nat) : Int) := if_neg (by omega); rw [E0] at c0; rw [E1] at c1; have HN1 : Hid (∀ wx, Below wr.heap.size wr wx → CiH w g t k i (.int .i64 (i : Int)) (wx.setCell ⟨g, i + 1, none⟩ (.int .u64 ((cho t (i + 1) + cho t i : Nat) : Int)))) := fun wx hb => ⟨i, rfl, by omega, rfl, by
      have := (CC.out.step hb).set (i + 1) (.int .u64 ((cho t (i + 1) + cho t i : Nat) : Int)); rw [zjI (by omega), zXD fun j _ => zJI] at this; exact this, bset (below_step BB.out hb) (by have := EGG.out; omega)⟩
     have HM2 : Hid (i < gk) := by unfold Hid; rw [HG.out]; omega
     have CX := hid CC.out; obtain ⟨ca, hca⟩ : ∃ ca, cho t (i + 1) = ca := ⟨_, rfl⟩
     obtain ⟨cb, hcb⟩ : ∃ cb, cho t i = cb := ⟨_, rfl⟩
     rw [hca] at c0 b1 HN1; rw [hcb] at c1 b1 HN1; have hwu : IntKind.u64.wrap ((ca : Int) + (cb : Int)) = ((ca + cb : Nat) : Int) := by rw [IntKind.wrap_u64]; omega
     obtain ⟨i1, hi1⟩ : ∃ i1, i + 1 = i1 := ⟨_, rfl⟩
     obtain ⟨cs, hcs⟩ : ∃ cs, ca + cb = cs := ⟨_, rfl⟩
     rw [hcs] at hwu HN1; rw [hi1] at hws c0 c2 HN1 hi' ⊢; have hik1 : (i1 : Int) < (k : Int) + 1 := by omega
     have hik0 : (i : Int) < (k : Int) + 1 := by omega
     clear HG CC BB hca hcb E0 E1 b1 hcs hws2; go_wp2_with fail; have KB : Hid (∀ w', Below wr.heap.size wr w' → w'.cell? ⟨g, i1, none⟩ = some (.int .u64 (ca : Int)) ∧ w'.cell? ⟨g, i, none⟩ = some (.int .u64 (cb : Int))) := fun w' h => ⟨cnow h c0, cnow h c1⟩
     refine zCA (fun w' => w'.cell? ⟨g, i1, none⟩ = some (.int .u64 (ca : Int)) ∧ w'.cell? ⟨g, i, none⟩ = some (.int .u64 (cb : Int))) 11 (by kernel_rfl) ?_; obtain ⟨D1, hD⟩ : ∃ D1, wr.drew = D1 := ⟨_, rfl⟩
     have GB : Hid (Below wr.heap.size wr D1) := by unfold Hid; rw [← hD]; exact (Below.refl _ _).drew
     rw [hD]; clear hD; refine zBA [(0, (.slice (some ⟨g, 0, none⟩) (k + 1) (k + 1))), (1, (.int .i64 (i1 : Int))), (2, (.pointer (some ⟨g, i1, none⟩))), (3, (.int .u64 (ca : Int))), (4, (.slice (some ⟨g, 0, none⟩) (k + 1) (k + 1))), (5, (.int .i64 (i1 : Int))), (6, (.int .i64 (i : Int))), (7, (.pointer (some ⟨g, i, none⟩))), (8, (.int .u64 (cb : Int))), (9, (.int .u64 (cs : Int))), (10, (.pointer (some ⟨g, i1, none⟩)))] 11 ?_ (KB.out _ GB.out) ?_
     ·simp only [zJA, gA9, g09, g19, Act.put, sI9, s09, s19]; (repeat' (first | exact trivial | refine And.intro (Or.inl ⟨by rfl, ?_⟩) ?_)) <;> (intro w hSw; (try dsimp only at hSw); go_simp)
     simp only [actV, gA9, g09, g19, Act.put, sI9, s09, s19]; refine zAA (i := 11) (o := ⟨none, .store 54 (.tmp 37) (.tmp 36), 0, "sets.go:62", #[⟨10, .data⟩, ⟨9, .data⟩, ⟨0, .phase⟩, ⟨1, .phase⟩, ⟨2, .phase⟩, ⟨3, .phase⟩, ⟨4, .phase⟩, ⟨5, .phase⟩, ⟨6, .phase⟩, ⟨7, .phase⟩, ⟨8, .phase⟩, ⟨9, .phase⟩], none⟩) (by kernel_rfl) rfl (fun K hK => ?_); have h0 := (CX.out.step GB.out).at (zSF (i := i1) (by omega)); have h1 := (CX.out.step GB.out).fz i1; go_simp; clear h0 h1; obtain ⟨V2, hW⟩ : ∃ V2, (D1.setCell ⟨g, i1, none⟩ (.int .u64 (cs : Int))) = V2 := ⟨_, rfl⟩
     have HN2 : Hid (CiH w g t k i (.int .i64 (i : Int)) V2) := by unfold Hid; rw [← hW]; exact HN1.out _ GB.out
     rw [hW]; clear hW; refine hK.out _ _ (fun h => absurd h (by decide)) ?_; clear hK
     try simp only [Act.put]
     refine zDA (by kernel_rfl) ?_ _; clear GB KB HN1 c0 c1 c2 CX; go_wp2_with fail; go_roundg i
     case rel => exact HN2.out
     case measure => exact HM2.out
    ·have hi' : ¬ (0 : Int) < (i : Int) := by omega
     obtain rfl : i = 0 := by omega
     have HN1 : Hid (CoH w g n k (n - (t + 1)) (.int .i64 ((t + 1 : Nat) : Int)) wr) := ⟨t + 1, rfl, by omega, rfl, by
      have := CC.out; rw [zXD fun j _ => zKI] at this; exact this, BB.out⟩
     clear HG CC BB; go_wp2_with fail; go_roundg (n - (t + 1))
     case rel => exact HN1.out
     case measure => exact HMM.out
  ·have hlt' : ¬ (t : Int) < (n : Int) := by omega
   obtain rfl : t = n := by omega
   have c0 := CC.out.at (zSF (i := k) (by omega)); have hkk : (k : Int) < (k : Int) + 1 := by omega
   clear HG CC; go_wp2; go_ret; exact ⟨rfl, BB.out⟩
def zLJ (w : World) (n k : Nat) (e : Ending) (w' : World) : Prop := ∃ bn bk, e = .returned (.func (.func 74) #[] #[.pointer (some ⟨bn, 0, none⟩), .pointer (some ⟨bk, 0, none⟩)]) ∧ Cel w' bn 3 [.int .i64 (n : Int)] ∧ Cel w' bk 3 [.int .i64 (k : Int)] ∧ w.heap.size ≤ bn ∧ w.heap.size ≤ bk ∧ Below w.heap.size w w'
theorem zaD {w : World} {n k : Nat} : Calls Tryz.prog 44 #[.int .i64 (n : Int), .int .i64 (k : Int)] w (zLJ w n k) := by
 have b0 := (zeA w (.cells #[.int .i64 (n : Int)] 3) (.cells #[.int .i64 (k : Int)] 3)).1; have FIN : Hid (zLJ w n k (.returned (.func (.func 74) #[] #[.pointer (some ⟨w.heap.size, 0, none⟩), .pointer (some ⟨w.heap.size + 1, 0, none⟩)])) ((w.alloc (.cells #[.int .i64 (n : Int)] 3)).alloc (.cells #[.int .i64 (k : Int)] 3))) := by
  refine ⟨_, _, rfl, (Cel.new w 3 [.int .i64 (n : Int)]).step ((Below.refl _ _).alloc (Nat.le_refl _) _), ?_, Nat.le_refl _, by omega, b0⟩; have := Cel.new (w.alloc (.cells #[.int .i64 (n : Int)] 3)) 3 [.int .i64 (k : Int)]
  simpa using this
 clear b0; go_enter Tryz.func44, Tryz.ntmps44; go_wp2; go_ret; exact FIN.out
open Go.RowKit Go.Shelf
theorem zNA.tyg {T : TypeId} {g : Nat} {A B : World} {L : Array Value} {fr : Nat × Nat} (h : zNA (· = g) A B) (hg : A.heap[g]? = some (.cells L T fr)) : Ty T A B := ⟨h.size, fun b L' T' fr' e hne => by
 refine (h.block b (Array.getElem?_eq_some_iff.1 e).1 (fun q => ?_)).trans e; subst q; rw [hg, Option.some.injEq, Obj.cells.injEq] at e; exact hne e.2.1.symm⟩
theorem Ivs.kc14 {B : Nat} {w w' : World} {v : Value} {l : List Nat} (h : Ivs B w v l) (hk : Kc w w') : Ivs B w' v l := h.keep fun b L _ e => hk.2 b _ e rfl
theorem Ty.kc14 {T : TypeId} {a w w' : World} (h : Ty T a w) (hk : Kc w w') : Ty T a w' := ⟨Nat.le_trans h.1 hk.1, fun b L T' fr e hne => hk.2 b _ (h.2 b L T' fr e hne) rfl⟩
theorem KpL.kc14 {S : Nat → Prop} {B : Nat} {X Y Z : World} (h : KpL S B X Y) (hk : Kc Y Z) : KpL S B X Z := ⟨Nat.le_trans h.1 hk.1, fun b o h1 h2 e q => hk.2 b o (h.2 b o h1 h2 e q) q⟩
end Go.Proofs.YtplldfnldaehiaaGreat
