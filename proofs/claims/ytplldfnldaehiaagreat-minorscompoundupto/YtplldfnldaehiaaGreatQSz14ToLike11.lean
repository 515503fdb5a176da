/-
 QSz14ToLike11: Sz14, Like11, joined.
-/
import Derived.Test.YtplldfnldaehiaaGreatQCz14ToCg14
import Derived.Test.YtplldfnldaehiaaGreatQNs14ToSm14
import Derived.Test.YtplldfnldaehiaaGreatQChk9ToRound8
import Derived.Test.YtplldfnldaehiaaGreatQTurn9ToChkN9
import Derived.Test.YtplldfnldaehiaaGreatQFil9ToRowsOf9

set_option maxRecDepth 100000
set_option maxHeartbeats 6400000
set_option linter.unusedVariables false
set_option linter.unusedSimpArgs false
namespace Go.Proofs.YtplldfnldaehiaaGreat
open Go.RowKit
theorem cho_pair2 : ∀ d k, cho (d + 2) k + cho (d + 2) (k + 1) + 1 ≤ 2 ^ (d + 2)
 | 0, 0 => by decide
 | 0, 1 => by decide
 | 0, 2 => by decide
 | 0, k + 3 => by
  have h1 : cho 2 (k + 3) = 0 := by simp [cho]
  have h2 : cho 2 (k + 3 + 1) = 0 := by simp [cho]
  rw [h1, h2]
  decide
 | d + 1, 0 => by
  have h : cho (d + 2) 0 + cho (d + 2) 1 + 1 ≤ 2 ^ (d + 2) := cho_pair2 d 0
  show 1 + (cho (d + 2) 0 + cho (d + 2) 1) + 1 ≤ 2 ^ (d + 2 + 1)
  rw [Nat.pow_succ]
  have : 1 ≤ 2 ^ (d + 2) := Nat.one_le_two_pow
  omega
 | d + 1, k + 1 => by
  have h1 := cho_pair2 d k
  have h2 := cho_pair2 d (k + 1)
  show (cho (d + 2) k + cho (d + 2) (k + 1)) + (cho (d + 2) (k + 1) + cho (d + 2) (k + 1 + 1)) + 1 ≤ 2 ^ (d + 2 + 1)
  rw [Nat.pow_succ]
  omega
theorem cho_two14 {t i : Nat} (h : t ≤ 63) : cho t i + cho t (i + 1) < 9223372036854775808 := by
 match t with
 | 0 => have := cho_pair 0 i; omega
 | 1 => have := cho_pair 1 i; omega
 | t + 2 =>
  have h1 := cho_pair2 t i
  have h2 : 2 ^ (t + 2) ≤ 2 ^ 63 := Nat.pow_le_pow_right (by omega) (by omega)
  omega
def SoH (w : World) (g n k gk : Nat) (s : Value) (wx : World) : Prop := ∃ t : Nat, s = .int .i64 (t : Int) ∧ t ≤ n ∧ gk = n - t ∧ Cel wx g 3 (wf (k + 1) fun j => (cho t j : Nat)) ∧ Below w.heap.size w wx
def SiZ (w : World) (g t k gk : Nat) (s : Value) (wx : World) : Prop := ∃ i : Nat, s = .int .i64 (i : Int) ∧ i ≤ k ∧ gk = i ∧ Cel wx g 3 (wf (k + 1) (chF t i)) ∧ Below w.heap.size w wx
theorem size_any {w : World} {n k : Nat} (hn : n ≤ 64) (hk : k ≤ n) : Calls Tryz.prog 8 #[.int .i64 (n : Int), .int .i64 (k : Int)] w fun e w' => e = .returned (.int .i64 (cho n k : Nat)) ∧ Below w.heap.size w w' := by
 have q1 : ¬ (k : Int) < 0 := by omega
 have q2 : ¬ (n : Int) < (k : Int) := by omega
 have q1d : decide ((k : Int) < 0) = false := decide_eq_false q1
 have q2d : decide ((n : Int) < (k : Int)) = false := decide_eq_false q2
 have q3d : decide ((64 : Int) < (n : Int)) = false := decide_eq_false (by omega)
 have hw := wrapI9 (i := k) (by omega)
 go_enter Tryz.func8, Tryz.ntmps8
 go_wp2_with (at_make; refine wpList_make_nf _ rfl _ _ rfl _ _ (k + 1) (k + 1) rfl rfl rfl rfl (Nat.le_refl _) (by omega) ?_)
 intro w1 hrow hb1 hsz1
 obtain ⟨g, hgg⟩ : ∃ g, w.heap.size = g := ⟨_, rfl⟩
 have EGG := hid hgg
 rw [hgg] at hrow
 have e0 := hrow.out.at (wf_at (i := 0) (by omega))
 have e1 := hrow.out.fz 0
 have h0k : (0 : Int) < (k : Int) + 1 := by omega
 have H0 : Hid (SoH w g n k n (.int .i64 0) (w1.setCell ⟨g, 0, none⟩ (.int .i64 1))) := by
  refine ⟨0, rfl, Nat.zero_le _, rfl, ?_, bset hb1.out (by omega)⟩
  have := hrow.out.set 0 (.int .i64 1)
  rw [wf_set (by omega), wf_congr (G := fun j => (cho 0 j : Nat)) fun j hj => ?_] at this
  ·exact this
  ·match j with
   | 0 => rfl
   | j + 1 => simp [upF, cho]
 rw [hgg]
 clear hrow hb1 hsz1 q1 q2 q1d q2d q3d hgg
 go_wp2_with fail
 clear e0 e1
 go_loopg [6] n (fun gk s6 wx => SoH w g n k gk s6 wx)
 case atStart => exact H0.out
 case round =>
  clear H0
  obtain ⟨t, rfl, htn, hgk, hc, hb⟩ := hrel
  have CC := hid hc
  have BB := hid hb
  have HG := hid hgk
  clear hc hb hgk
  by_cases hlt : t < n
  ·have hlt' : (t : Int) < (n : Int) := by omega
   have hwt := wrapI9 (i := t) (by omega)
   have HMM : Hid (n - (t + 1) < gk) := by unfold Hid; rw [HG.out]; omega
   have H1 : Hid (SiZ w g t k k (.int .i64 (k : Int)) wr) := ⟨k, rfl, Nat.le_refl _, rfl, by
    have := CC.out
    rw [wf_congr (G := chF t k) fun j hj => by unfold chF; rw [if_neg (by omega)]] at this
    exact this, BB.out⟩
   clear HG CC BB
   go_wp2_with fail
   go_loopg [7] k (fun gk s7 wx => SiZ w g t k gk s7 wx)
   case atStart => exact H1.out
   case round =>
    clear H1
    obtain ⟨i, rfl, hik, hgk, hc, hb⟩ := hrel
    have CC := hid hc
    have BB := hid hb
    have HG := hid hgk
    clear hc hb hgk
    by_cases hi : 0 < i
    ·obtain ⟨i, rfl⟩ : ∃ j, i = j + 1 := ⟨i - 1, by omega⟩
     have hi' : (0 : Int) < ((i + 1 : Nat) : Int) := by omega
     have hws : IntKind.i64.wrap (((i + 1 : Nat) : Int) - 1) = (i : Int) := by rw [wrap_is] <;> omega
     have hws2 : IntKind.i64.wrap ((i : Int) + 1 - 1) = (i : Int) := by rw [wrap_is] <;> omega
     have c0 := CC.out.at (wf_at (i := i + 1) (by omega))
     have c1 := CC.out.at (wf_at (i := i) (by omega))
     have c2 := CC.out.fz (i + 1)
     have b1 : cho t i + cho t (i + 1) < 9223372036854775808 := cho_two14 (by omega)
     have E0 : chF t (i + 1) (i + 1) = ((cho t (i + 1) : Nat) : Int) := if_neg (by omega)
     have E1 : chF t (i + 1) i = ((cho t i : Nat) : Int) := if_neg (by omega)
     rw [E0] at c0
     rw [E1] at c1
     have HN1 : Hid (∀ wx, Below wr.heap.size wr wx → SiZ w g t k i (.int .i64 (i : Int)) (wx.setCell ⟨g, i + 1, none⟩ (.int .i64 ((cho t (i + 1) + cho t i : Nat) : Int)))) := fun wx hb => ⟨i, rfl, by omega, rfl, by
      have := (CC.out.step hb).set (i + 1) (.int .i64 ((cho t (i + 1) + cho t i : Nat) : Int))
      rw [wf_set (by omega), wf_congr fun j _ => chF_put] at this
      exact this, bset (below_step BB.out hb) (by have := EGG.out; omega)⟩
     have HM2 : Hid (i < gk) := by unfold Hid; rw [HG.out]; omega
     have CX := hid CC.out
     obtain ⟨ca, hca⟩ : ∃ ca, cho t (i + 1) = ca := ⟨_, rfl⟩
     obtain ⟨cb, hcb⟩ : ∃ cb, cho t i = cb := ⟨_, rfl⟩
     rw [hca] at c0 b1 HN1
     rw [hcb] at c1 b1 HN1
     have hwu : IntKind.i64.wrap ((ca : Int) + (cb : Int)) = ((ca + cb : Nat) : Int) := by rw [wrap_is] <;> omega
     obtain ⟨i1, hi1⟩ : ∃ i1, i + 1 = i1 := ⟨_, rfl⟩
     obtain ⟨cs, hcs⟩ : ∃ cs, ca + cb = cs := ⟨_, rfl⟩
     rw [hcs] at hwu HN1
     rw [hi1] at hws c0 c2 HN1 hi' ⊢
     have hik1 : (i1 : Int) < (k : Int) + 1 := by omega
     have hik0 : (i : Int) < (k : Int) + 1 := by omega
     clear HG CC BB hca hcb E0 E1 b1 hcs hws2
     go_wp2_with fail
     have KB : Hid (∀ w', Below wr.heap.size wr w' → w'.cell? ⟨g, i1, none⟩ = some (.int .i64 (ca : Int)) ∧ w'.cell? ⟨g, i, none⟩ = some (.int .i64 (cb : Int))) := fun w' h => ⟨cnow h c0, cnow h c1⟩
     refine wp_region_tail (fun w' => w'.cell? ⟨g, i1, none⟩ = some (.int .i64 (ca : Int)) ∧ w'.cell? ⟨g, i, none⟩ = some (.int .i64 (cb : Int))) 13 (by kernel_rfl) ?_
     obtain ⟨D1, hD⟩ : ∃ D1, wr.drew = D1 := ⟨_, rfl⟩
     have GB : Hid (Below wr.heap.size wr D1) := by unfold Hid; rw [← hD]; exact (Below.refl _ _).drew
     rw [hD]
     clear hD
     refine wpAnyT_take (i := 0) (oi := { dst := some 34, op := Op.move (Operand.tmp 5), type := 34, pos := "outright.go:117", after := #[], guard := none }) (v := (.slice (some ⟨g, 0, none⟩) (k + 1) (k + 1))) rfl (by kernel_rfl) (fun _ _ _ h => h) (Or.inl ⟨by rfl, ?_⟩) (KB.out _ GB.out) ?_
     ·intro w hSw
      (try dsimp only at hSw)
      go_simp
     simp only [Act.put, List.setIfInBounds_toArray, List.set_cons_zero, List.set_cons_succ]
     refine wpAnyT_take (i := 1) (oi := { dst := some 35, op := Op.move (Operand.tmp 7), type := 3, pos := "outright.go:117", after := #[], guard := none }) (v := (.int .i64 (i1 : Int))) rfl (by kernel_rfl) (fun _ _ _ h => h) (Or.inl ⟨by rfl, ?_⟩) (KB.out _ GB.out) ?_
     ·intro w hSw
      (try dsimp only at hSw)
      go_simp
     simp only [Act.put, List.setIfInBounds_toArray, List.set_cons_zero, List.set_cons_succ]
     refine wpAnyT_take (i := 2) (oi := { dst := some 36, op := Op.move (Operand.tmp 5), type := 34, pos := "outright.go:117", after := #[], guard := none }) (v := (.slice (some ⟨g, 0, none⟩) (k + 1) (k + 1))) rfl (by kernel_rfl) (fun _ _ _ h => h) (Or.inl ⟨by rfl, ?_⟩) (KB.out _ GB.out) ?_
     ·intro w hSw
      (try dsimp only at hSw)
      go_simp
     simp only [Act.put, List.setIfInBounds_toArray, List.set_cons_zero, List.set_cons_succ]
     refine wpAnyT_take (i := 3) (oi := { dst := some 37, op := Op.move (Operand.tmp 7), type := 3, pos := "outright.go:117", after := #[], guard := none }) (v := (.int .i64 (i1 : Int))) rfl (by kernel_rfl) (fun _ _ _ h => h) (Or.inl ⟨by rfl, ?_⟩) (KB.out _ GB.out) ?_
     ·intro w hSw
      (try dsimp only at hSw)
      go_simp
     simp only [Act.put, List.setIfInBounds_toArray, List.set_cons_zero, List.set_cons_succ]
     refine wpAnyT_take (i := 4) (oi := { dst := some 38, op := Op.indexAddr 34 (Operand.tmp 36) (Operand.tmp 37), type := 0, pos := "outright.go:117", after := #[{ on := 2, ground := Ground.data }, { on := 3, ground := Ground.data }], guard := none }) (v := (.pointer (some ⟨g, i1, none⟩))) rfl (by kernel_rfl) (fun _ _ _ h => h) (Or.inl ⟨by rfl, ?_⟩) (KB.out _ GB.out) ?_
     ·intro w hSw
      (try dsimp only at hSw)
      go_simp
     simp only [Act.put, List.setIfInBounds_toArray, List.set_cons_zero, List.set_cons_succ]
     refine wpAnyT_take (i := 5) (oi := { dst := some 39, op := Op.load 3 (Operand.tmp 38), type := 3, pos := "outright.go:117", after := #[{ on := 4, ground := Ground.data }], guard := none }) (v := (.int .i64 (ca : Int))) rfl (by kernel_rfl) (fun _ _ _ h => h) (Or.inl ⟨by rfl, ?_⟩) (KB.out _ GB.out) ?_
     ·intro w hSw
      (try dsimp only at hSw)
      go_simp
     simp only [Act.put, List.setIfInBounds_toArray, List.set_cons_zero, List.set_cons_succ]
     refine wpAnyT_take (i := 6) (oi := { dst := some 40, op := Op.move (Operand.tmp 5), type := 34, pos := "outright.go:117", after := #[], guard := none }) (v := (.slice (some ⟨g, 0, none⟩) (k + 1) (k + 1))) rfl (by kernel_rfl) (fun _ _ _ h => h) (Or.inl ⟨by rfl, ?_⟩) (KB.out _ GB.out) ?_
     ·intro w hSw
      (try dsimp only at hSw)
      go_simp
     simp only [Act.put, List.setIfInBounds_toArray, List.set_cons_zero, List.set_cons_succ]
     refine wpAnyT_take (i := 7) (oi := { dst := some 41, op := Op.move (Operand.tmp 7), type := 3, pos := "outright.go:117", after := #[], guard := none }) (v := (.int .i64 (i1 : Int))) rfl (by kernel_rfl) (fun _ _ _ h => h) (Or.inl ⟨by rfl, ?_⟩) (KB.out _ GB.out) ?_
     ·intro w hSw
      (try dsimp only at hSw)
      go_simp
     simp only [Act.put, List.setIfInBounds_toArray, List.set_cons_zero, List.set_cons_succ]
     refine wpAnyT_take (i := 8) (oi := { dst := some 42, op := Op.binOp BinOp.sub 3 (Operand.tmp 41) (Operand.const (Value.int IntKind.i64 1)) 3, type := 3, pos := "outright.go:117", after := #[{ on := 7, ground := Ground.data }], guard := none }) (v := (.int .i64 (i : Int))) rfl (by kernel_rfl) (fun _ _ _ h => h) (Or.inl ⟨by rfl, ?_⟩) (KB.out _ GB.out) ?_
     ·intro w hSw
      (try dsimp only at hSw)
      go_simp
     simp only [Act.put, List.setIfInBounds_toArray, List.set_cons_zero, List.set_cons_succ]
     refine wpAnyT_take (i := 9) (oi := { dst := some 43, op := Op.indexAddr 34 (Operand.tmp 40) (Operand.tmp 42), type := 0, pos := "outright.go:117", after := #[{ on := 6, ground := Ground.data }, { on := 8, ground := Ground.data }], guard := none }) (v := (.pointer (some ⟨g, i, none⟩))) rfl (by kernel_rfl) (fun _ _ _ h => h) (Or.inl ⟨by rfl, ?_⟩) (KB.out _ GB.out) ?_
     ·intro w hSw
      (try dsimp only at hSw)
      go_simp
     simp only [Act.put, List.setIfInBounds_toArray, List.set_cons_zero, List.set_cons_succ]
     refine wpAnyT_take (i := 10) (oi := { dst := some 44, op := Op.load 3 (Operand.tmp 43), type := 3, pos := "outright.go:117", after := #[{ on := 9, ground := Ground.data }], guard := none }) (v := (.int .i64 (cb : Int))) rfl (by kernel_rfl) (fun _ _ _ h => h) (Or.inl ⟨by rfl, ?_⟩) (KB.out _ GB.out) ?_
     ·intro w hSw
      (try dsimp only at hSw)
      go_simp
     simp only [Act.put, List.setIfInBounds_toArray, List.set_cons_zero, List.set_cons_succ]
     refine wpAnyT_take (i := 11) (oi := { dst := some 45, op := Op.binOp BinOp.add 3 (Operand.tmp 39) (Operand.tmp 44) 3, type := 3, pos := "outright.go:117", after := #[{ on := 5, ground := Ground.data }, { on := 10, ground := Ground.data }], guard := none }) (v := (.int .i64 (cs : Int))) rfl (by kernel_rfl) (fun _ _ _ h => h) (Or.inl ⟨by rfl, ?_⟩) (KB.out _ GB.out) ?_
     ·intro w hSw
      (try dsimp only at hSw)
      go_simp
     simp only [Act.put, List.setIfInBounds_toArray, List.set_cons_zero, List.set_cons_succ]
     refine wpAnyT_take (i := 12) (oi := { dst := some 46, op := Op.indexAddr 34 (Operand.tmp 34) (Operand.tmp 35), type := 0, pos := "outright.go:117", after := #[{ on := 0, ground := Ground.data }, { on := 1, ground := Ground.data }, { on := 0, ground := Ground.phase }, { on := 1, ground := Ground.phase }, { on := 2, ground := Ground.phase }, { on := 3, ground := Ground.phase }, { on := 4, ground := Ground.phase }, { on := 5, ground := Ground.phase }, { on := 6, ground := Ground.phase }, { on := 7, ground := Ground.phase }, { on := 8, ground := Ground.phase }, { on := 9, ground := Ground.phase }, { on := 10, ground := Ground.phase }, { on := 11, ground := Ground.phase }], guard := none }) (v := (.pointer (some ⟨g, i1, none⟩))) rfl (by kernel_rfl) (fun _ _ _ h => h) (Or.inl ⟨by rfl, ?_⟩) (KB.out _ GB.out) ?_
     ·intro w hSw
      (try dsimp only at hSw)
      go_simp
     simp only [Act.put, List.setIfInBounds_toArray, List.set_cons_zero, List.set_cons_succ]
     refine wpAnyT_one (i := 13) (o := { dst := none, op := Op.store 3 (Operand.tmp 46) (Operand.tmp 45), type := 0, pos := "outright.go:117", after := #[{ on := 12, ground := Ground.data }, { on := 11, ground := Ground.data }, { on := 0, ground := Ground.phase }, { on := 1, ground := Ground.phase }, { on := 2, ground := Ground.phase }, { on := 3, ground := Ground.phase }, { on := 4, ground := Ground.phase }, { on := 5, ground := Ground.phase }, { on := 6, ground := Ground.phase }, { on := 7, ground := Ground.phase }, { on := 8, ground := Ground.phase }, { on := 9, ground := Ground.phase }, { on := 10, ground := Ground.phase }, { on := 11, ground := Ground.phase }], guard := none }) (by kernel_rfl) rfl (fun K hK => ?_)
     have h0 := (CX.out.step GB.out).at (wf_at (i := i1) (by omega))
     have h1 := (CX.out.step GB.out).fz i1
     go_simp
     clear h0 h1
     obtain ⟨V2, hW⟩ : ∃ V2, (D1.setCell ⟨g, i1, none⟩ (.int .i64 (cs : Int))) = V2 := ⟨_, rfl⟩
     have HN2 : Hid (SiZ w g t k i (.int .i64 (i : Int)) V2) := by unfold Hid; rw [← hW]; exact HN1.out _ GB.out
     rw [hW]
     clear hW
     refine hK.out _ _ (fun h => absurd h (by decide)) ?_
     clear hK
     try simp only [Act.put]
     refine wpAnyT_done (by kernel_rfl) ?_ _
     clear GB KB HN1 c0 c1 c2 CX
     go_wp2_with fail
     go_roundg i
     case rel => exact HN2.out
     case measure => exact HM2.out
    ·have hi' : ¬ (0 : Int) < (i : Int) := by omega
     obtain rfl : i = 0 := by omega
     have HN1 : Hid (SoH w g n k (n - (t + 1)) (.int .i64 ((t + 1 : Nat) : Int)) wr) := ⟨t + 1, rfl, by omega, rfl, by
      have := CC.out
      rw [wf_congr fun j _ => chF_end] at this
      exact this, BB.out⟩
     clear HG CC BB
     go_wp2_with fail
     go_roundg (n - (t + 1))
     case rel => exact HN1.out
     case measure => exact HMM.out
  ·have hlt' : ¬ (t : Int) < (n : Int) := by omega
   obtain rfl : t = n := by omega
   have c0 := CC.out.at (wf_at (i := k) (by omega))
   have hkk : (k : Int) < (k : Int) + 1 := by omega
   clear HG CC
   go_wp2
   go_ret
   exact ⟨rfl, BB.out⟩
theorem rsets_any {w : World} {n k : Nat} (hn : n ≤ 64) (hk : k ≤ n) (hc : cho n k ≤ 1000000) : Calls Tryz.prog 10 #[.int .i64 (n : Int), .int .i64 (k : Int)] w fun e w' => ∃ v, e = .returned v ∧ LLs w.heap.size w.heap.size w' v (sts14 n k) ∧ Below w.heap.size w w' := by
 have HS := hid (some_any (w := w) (m := 1000000) hn hk (by decide) (by decide))
 have hlen : (sts14 n k).length ≤ 1000000 := by rw [show (sts14 n k).length = cho n k from lx_len n n k]; exact hc
 rw [List.take_of_length_le hlen] at HS
 clear hlen
 go_enter Tryz.func10, Tryz.ntmps10
 go_wp2_with fail
 refine HS.out.mono ?_
 rintro e w1 ⟨v, rfl, hll, b⟩
 obtain ⟨a, cap, hv, -, -⟩ := hll.form
 obtain ⟨l, hl⟩ : ∃ l, (sts14 n k).length = l := ⟨_, rfl⟩
 rw [hl] at hv
 subst hv
 have FIN := hid (⟨hll, b⟩ : LLs w.heap.size w.heap.size w1 (.slice a l cap) (sts14 n k) ∧ Below w.heap.size w w1)
 clear hll b HS hl
 go_wp2
 go_ret
 exact ⟨_, rfl, FIN.out⟩
theorem like_yes {w : World} {v u : Value} {z y : Int} {k l : Nat} (h : Zc w v z k) (h' : Zc w u y l) (hzy : z = y) :
  Calls Tryz.prog 12 #[v, u] w fun e w' => e = .returned (.bool true) ∧ Below w.heap.size w w' := by
 subst hzy
 obtain ⟨n, xs, a, c, rfl, s0, q0, e0, z0, k0⟩ := h
 obtain ⟨m, ys, b, d, rfl, s1, q1, e1, z1, k1⟩ := h'
 obtain ⟨rfl, rfl⟩ := iv_one (z0.trans z1.symm) q0 q1 e0 e1
 obtain ⟨W0, hW⟩ : ∃ W0, (w.alloc (duo (.bool n) (.slice a xs.length c))).alloc (duo (.bool n) (.slice b xs.length d)) = W0 := ⟨_, rfl⟩
 have b0 := (alloc2 w (duo (.bool n) (.slice a xs.length c)) (duo (.bool n) (.slice b xs.length d))).1
 rw [hW] at b0
 have P2 : Hid (Duo W0 w.heap.size (.bool n) (.slice a xs.length c)) := by unfold Hid; rw [← hW]; exact (Duo.new w _ _).later (by simp) _
 have P3 : Hid (Duo W0 (w.heap.size + 1) (.bool n) (.slice b xs.length d)) := by
  unfold Hid
  rw [← hW]
  have := Duo.new (w.alloc (duo (.bool n) (.slice a xs.length c))) (.bool n) (.slice b xs.length d)
  simpa using this
 have HC := hid (same_yes (s0.now b0) (s1.now b0) rfl)
 have B0 := hid b0
 have x0 := P2.out.c0
 have y0 := P3.out.c0
 have x1 := P2.out.c1
 have y1 := P3.out.c1
 rw [← hW] at x0 y0 x1 y1
 have EW := hid hW
 have hq : (n == n) = true := by simp
 clear s0 s1 z0 z1 b0 q0 q1 e0 e1 hW
 go_enter Tryz.func12, Tryz.ntmps12
 go_wp2_with fail
 rw [EW.out]
 refine HC.out.mono ?_
 rintro e w1 ⟨rfl, b1⟩
 have B1 := hid (below_step B0.out b1)
 clear b1 HC x0 y0 x1 y1 EW
 go_wp2
 go_ret
 exact ⟨rfl, B1.out⟩
theorem likeRow_yes {w : World} {va vb : Value} {ps qs : List (Value × Value)} {k l : Nat} {zs ys : List Int} (ha : Prs 0 w va ps) (hza : Zcs w ps zs k) (hb : Prs 0 w vb qs) (hzb : Zcs w qs ys l) (he : zs = ys) :
  Calls Tryz.prog 35 #[va, vb] w fun e w' => e = .returned (.bool true) ∧ Below w.heap.size w w' := by
 subst he
 obtain ⟨aa, ca, rfl, hca, hna, -, hfa⟩ := ha.form
 obtain ⟨ab, cb, rfl, hcb, hnb, -, hfb⟩ := hb.form
 obtain ⟨n, hn⟩ : ∃ n, zs.length = n := ⟨_, rfl⟩
 have ea : ps.length = n := hza.1.trans hn
 have eb : qs.length = n := hzb.1.trans hn
 have A0 := hid ha
 have B0 := hid hb
 rw [ea] at A0 hna hca ⊢
 rw [eb] at B0 hnb hcb ⊢
 have q2 : ((n : Int) != (n : Int)) = false := by simp
 have ZA := hid hza
 have ZB := hid hzb
 have FA : Hid (n ≠ 0 → ∃ b off, aa = some ⟨b, off, none⟩) := fun h => by
  obtain ⟨b, off, e, -⟩ := hfa (fun e => h (by rw [← ea, e]; rfl))
  exact ⟨b, off, e⟩
 have FB : Hid (n ≠ 0 → ∃ b off, ab = some ⟨b, off, none⟩) := fun h => by
  obtain ⟨b, off, e, -⟩ := hfb (fun e => h (by rw [← eb, e]; rfl))
  exact ⟨b, off, e⟩
 have HN := hid hn
 have H0 : Hid (SameH w n n (.int .i64 0) w) := ⟨0, rfl, Nat.zero_le _, by omega, Below.refl _ _⟩
 clear ha hza hb hzb hfa hfb hn ea eb
 go_enter Tryz.func35, Tryz.ntmps35
 go_wp2_with fail
 go_loopg [5] n (fun gk s5 wx => SameH w n gk s5 wx)
 case atStart => exact H0.out
 case round =>
  clear H0
  obtain ⟨i, rfl, hin, hg, hG⟩ := hrel
  have G := hid hG
  have HG := hid hg
  clear hG hg
  by_cases hlt : i < n
  ·have hlt' : (i : Int) < (n : Int) := by omega
   obtain ⟨b1, o1, rfl⟩ := FA.out (by omega)
   obtain ⟨b2, o2, rfl⟩ := FB.out (by omega)
   obtain ⟨nf, xf, adf, qf, k0, k1, zf⟩ := Zcs.at9 (A0.out.now G.out) (ZA.out.now G.out) (i := i) (by rw [HN.out]; exact hlt)
   obtain ⟨ng, xg, adg, qg, k2, k3, zg⟩ := Zcs.at9 (B0.out.now G.out) (ZB.out.now G.out) (i := i) (by rw [HN.out]; exact hlt)
   have HS : Hid (∀ w', Below wr.heap.size wr w' → Calls Tryz.prog 12 #[.agg #[.bool nf, .slice adf xf.length qf], .agg #[.bool ng, .slice adg xg.length qg]] w' fun e w'' => e = .returned (.bool true) ∧ Below w'.heap.size w' w'') := fun w' h => like_yes (zf.now h) (zg.now h) rfl
   clear zf zg
   have hw := wrapI9 (i := i) (by omega)
   go_wp2_with fail
   have KB : Hid (∀ w', Below wr.heap.size wr w' → w'.cell? ⟨b1, o1 + i * 2, none⟩ = some (.bool nf) ∧ w'.cell? ⟨b1, o1 + i * 2 + 1, none⟩ = some (.slice adf xf.length qf) ∧ w'.cell? ⟨b2, o2 + i * 2, none⟩ = some (.bool ng) ∧ w'.cell? ⟨b2, o2 + i * 2 + 1, none⟩ = some (.slice adg xg.length qg)) := fun w' h => ⟨cnow h k0, cnow h k1, cnow h k2, cnow h k3⟩
   refine wp_region_tail (fun w' => w'.cell? ⟨b1, o1 + i * 2, none⟩ = some (.bool nf) ∧ w'.cell? ⟨b1, o1 + i * 2 + 1, none⟩ = some (.slice adf xf.length qf) ∧ w'.cell? ⟨b2, o2 + i * 2, none⟩ = some (.bool ng) ∧ w'.cell? ⟨b2, o2 + i * 2 + 1, none⟩ = some (.slice adg xg.length qg)) 9 (by kernel_rfl) ?_
   obtain ⟨D1, hD⟩ : ∃ D1, wr.drew = D1 := ⟨_, rfl⟩
   have GB : Hid (Below wr.heap.size wr D1) := by unfold Hid; rw [← hD]; exact (Below.refl _ _).drew
   rw [hD]
   clear hD
   refine wpAnyT_take (i := 0) (oi := { dst := some 17, op := Op.move (Operand.tmp 0), type := 22, pos := "keep.go:21", after := #[], guard := none }) (v := (.slice (some ⟨b1, o1, none⟩) n ca)) rfl (by kernel_rfl) (fun _ _ _ h => h) (Or.inl ⟨by rfl, ?_⟩) (KB.out _ GB.out) ?_
   ·intro w hSw
    (try dsimp only at hSw)
    go_simp
   simp only [Act.put, List.setIfInBounds_toArray, List.set_cons_zero, List.set_cons_succ]
   refine wpAnyT_take (i := 1) (oi := { dst := some 18, op := Op.move (Operand.tmp 5), type := 3, pos := "keep.go:21", after := #[], guard := none }) (v := (.int .i64 (i : Int))) rfl (by kernel_rfl) (fun _ _ _ h => h) (Or.inl ⟨by rfl, ?_⟩) (KB.out _ GB.out) ?_
   ·intro w hSw
    (try dsimp only at hSw)
    go_simp
   simp only [Act.put, List.setIfInBounds_toArray, List.set_cons_zero, List.set_cons_succ]
   refine wpAnyT_take (i := 2) (oi := { dst := some 19, op := Op.indexAddr 22 (Operand.tmp 17) (Operand.tmp 18), type := 0, pos := "keep.go:21", after := #[{ on := 0, ground := Ground.data }, { on := 1, ground := Ground.data }], guard := none }) (v := (.pointer (some ⟨b1, o1 + i * 2, none⟩))) rfl (by kernel_rfl) (fun _ _ _ h => h) (Or.inl ⟨by rfl, ?_⟩) (KB.out _ GB.out) ?_
   ·intro w hSw
    (try dsimp only at hSw)
    go_simp
   simp only [Act.put, List.setIfInBounds_toArray, List.set_cons_zero, List.set_cons_succ]
   refine wpAnyT_take (i := 3) (oi := { dst := some 20, op := Op.load 37 (Operand.tmp 19), type := 37, pos := "keep.go:21", after := #[{ on := 2, ground := Ground.data }], guard := none }) (v := (.agg #[.bool nf, .slice adf xf.length qf])) rfl (by kernel_rfl) (fun _ _ _ h => h) (Or.inl ⟨by rfl, ?_⟩) (KB.out _ GB.out) ?_
   ·intro w hSw
    (try dsimp only at hSw)
    go_simp
   simp only [Act.put, List.setIfInBounds_toArray, List.set_cons_zero, List.set_cons_succ]
   refine wpAnyT_take (i := 4) (oi := { dst := some 21, op := Op.move (Operand.tmp 1), type := 22, pos := "keep.go:21", after := #[], guard := none }) (v := (.slice (some ⟨b2, o2, none⟩) n cb)) rfl (by kernel_rfl) (fun _ _ _ h => h) (Or.inl ⟨by rfl, ?_⟩) (KB.out _ GB.out) ?_
   ·intro w hSw
    (try dsimp only at hSw)
    go_simp
   simp only [Act.put, List.setIfInBounds_toArray, List.set_cons_zero, List.set_cons_succ]
   refine wpAnyT_take (i := 5) (oi := { dst := some 22, op := Op.move (Operand.tmp 5), type := 3, pos := "keep.go:21", after := #[], guard := none }) (v := (.int .i64 (i : Int))) rfl (by kernel_rfl) (fun _ _ _ h => h) (Or.inl ⟨by rfl, ?_⟩) (KB.out _ GB.out) ?_
   ·intro w hSw
    (try dsimp only at hSw)
    go_simp
   simp only [Act.put, List.setIfInBounds_toArray, List.set_cons_zero, List.set_cons_succ]
   refine wpAnyT_take (i := 6) (oi := { dst := some 23, op := Op.indexAddr 22 (Operand.tmp 21) (Operand.tmp 22), type := 0, pos := "keep.go:21", after := #[{ on := 4, ground := Ground.data }, { on := 5, ground := Ground.data }], guard := none }) (v := (.pointer (some ⟨b2, o2 + i * 2, none⟩))) rfl (by kernel_rfl) (fun _ _ _ h => h) (Or.inl ⟨by rfl, ?_⟩) (KB.out _ GB.out) ?_
   ·intro w hSw
    (try dsimp only at hSw)
    go_simp
   simp only [Act.put, List.setIfInBounds_toArray, List.set_cons_zero, List.set_cons_succ]
   refine wpAnyT_take (i := 7) (oi := { dst := some 24, op := Op.load 37 (Operand.tmp 23), type := 37, pos := "keep.go:21", after := #[{ on := 6, ground := Ground.data }], guard := none }) (v := (.agg #[.bool ng, .slice adg xg.length qg])) rfl (by kernel_rfl) (fun _ _ _ h => h) (Or.inl ⟨by rfl, ?_⟩) (KB.out _ GB.out) ?_
   ·intro w hSw
    (try dsimp only at hSw)
    go_simp
   simp only [Act.put, List.setIfInBounds_toArray, List.set_cons_zero, List.set_cons_succ]
   refine wpAnyT_one (i := 8) (o := { dst := some 25, op := Op.call { callee := Callee.value (Operand.func 12), args := #[Operand.tmp 20, Operand.tmp 24], argTypes := #[37, 37] }, type := 4, pos := "keep.go:21", after := #[{ on := 3, ground := Ground.data }, { on := 7, ground := Ground.data }], guard := none }) (by kernel_rfl) rfl (fun K hK => ?_)
   go_simp
   go_at_call 12
   refine (HS.out _ GB.out).mono ?_
   rintro e w2 ⟨rfl, b⟩
   have lz2 := (show Below _ _ _ from b).size
   replace GB := hid (below_step GB.out b)
   have G1 := hid (below_step G.out GB.out)
   clear b
   refine hK.out _ _ (fun _ => KB.out _ GB.out) ?_
   clear hK
   refine wpAnyT_one (i := 9) (o := { dst := some 26, op := Op.unOp UnOp.not 4 (Operand.tmp 25), type := 4, pos := "keep.go:21", after := #[{ on := 8, ground := Ground.data }], guard := none }) (by kernel_rfl) rfl (fun K hK => ?_)
   go_simp
   refine hK.out _ _ (fun h => absurd h (by decide)) ?_
   clear hK
   try simp only [Act.put]
   refine wpAnyT_done (by kernel_rfl) ?_ _
   have HN1 : Hid (SameH w n (n - (i + 1)) (.int .i64 ((i + 1 : Nat) : Int)) w2) := ⟨i + 1, rfl, by omega, rfl, G1.out⟩
   have HMM : Hid (n - (i + 1) < gk) := by unfold Hid; rw [HG.out]; omega
   clear HS G HG G1 GB KB k0 k1 k2 k3
   go_wp2_with fail
   go_roundg (n - (i + 1))
   case rel => exact HN1.out
   case measure => exact HMM.out
  ·have hlt' : ¬ (i : Int) < (n : Int) := by omega
   have FIN := hid G.out
   clear HG G
   go_wp2
   go_ret
   exact ⟨rfl, FIN.out⟩
theorem likeMat_yes {w : World} {va vb : Value} {r c k l : Nat} {zs ys : List Int} (ha : Mc w va r c zs k) (hb : Mc w vb r c ys l) (he : zs = ys) :
  Calls Tryz.prog 15 #[va, vb] w fun e w' => e = .returned (.bool true) ∧ Below w.heap.size w w' := by
 obtain ⟨ata, ps, rfl, pa1, pa2, -, -, -⟩ := ha
 obtain ⟨atb, qs, rfl, pb1, pb2, -, -, -⟩ := hb
 obtain ⟨W0, hW⟩ : ∃ W0, (w.alloc (matO r c ata)).alloc (matO r c atb) = W0 := ⟨_, rfl⟩
 obtain ⟨b0, sz0⟩ := alloc2 w (matO r c ata) (matO r c atb)
 rw [hW] at b0 sz0
 have HR := hid (likeRow_yes (pa1.now b0) (pa2.now b0) (pb1.now b0) (pb2.now b0) he)
 obtain ⟨aa, ca, rfl, -, -, -, -⟩ := pa1.form
 obtain ⟨ab, cb, rfl, -, -, -, -⟩ := pb1.form
 generalize ps.length = na at *
 generalize qs.length = nb at *
 have pa : Cel W0 w.heap.size 24 (matc r c (.slice aa na ca)) := by
  rw [← hW]
  exact (Cel.new w 24 (matc r c (.slice aa na ca))).step ((Below.refl _ _).alloc (Nat.le_refl _) _)
 have pb : Cel W0 (w.heap.size + 1) 24 (matc r c (.slice ab nb cb)) := by
  rw [← hW]
  have := Cel.new (w.alloc (matO r c (.slice aa na ca))) 24 (matc r c (.slice ab nb cb))
  simpa using this
 have x0 := pa.at (i := 0) rfl
 have x1 := pa.at (i := 1) rfl
 have x2 := pa.at (i := 2) rfl
 have y0 := pb.at (i := 0) rfl
 have y1 := pb.at (i := 1) rfl
 have y2 := pb.at (i := 2) rfl
 rw [← hW] at x0 x1 x2 y0 y1 y2
 have q0 : ((r : Int) == (r : Int)) = true := by simp
 have q1 : ((c : Int) == (c : Int)) = true := by simp
 have G0 := hid b0
 have EW := hid hW
 clear pa1 pa2 pb1 pb2 b0 sz0 hW pa pb
 go_enter Tryz.func15, Tryz.ntmps15
 go_wp2_with fail
 rw [EW.out]
 refine HR.out.mono ?_
 rintro e w1 ⟨rfl, b⟩
 have FIN := hid (below_step G0.out b)
 clear x0 x1 x2 y0 y1 y2 EW b HR G0
 go_wp2
 go_ret
 exact ⟨rfl, FIN.out⟩
instance snd11 (r c : Int) (l : Nat) : Decidable (Snd r c l) := by unfold Snd; infer_instance
theorem rcheck11 {w : World} {r c : Int} {a : Option Addr} {l cap : Nat} : Calls Tryz.prog 7 #[.agg #[.int .i64 r, .int .i64 c, .slice a l cap]] w fun e w' => e = .returned (.int .i64 (if Snd r c l then 0 else 1)) ∧ Below w.heap.size w w' := by
 obtain ⟨W0, hW⟩ : ∃ W0, w.alloc (.cells #[.int .i64 r, .int .i64 c, .slice a l cap] 24) = W0 := ⟨_, rfl⟩
 obtain ⟨b0, sz0⟩ := alo1 w (.cells #[.int .i64 r, .int .i64 c, .slice a l cap] 24)
 rw [hW] at b0 sz0
 have P1 : Hid (Cel W0 w.heap.size 24 [.int .i64 r, .int .i64 c, .slice a l cap]) := by unfold Hid; rw [← hW]; exact Cel.new w _ _
 have x0 := P1.out.at (i := 0) rfl
 have x1 := P1.out.at (i := 1) rfl
 have x2 := P1.out.at (i := 2) rfl
 rw [← hW] at x0 x1 x2
 have G0 := hid b0
 have EW := hid hW
 clear b0 sz0 hW P1
 by_cases h1 : r < 0
 ·have e : (if Snd r c l then (0 : Int) else 1) = 1 := if_neg (fun h => by have := h.1; omega)
  rw [e]
  clear e
  go_enter Tryz.func7, Tryz.ntmps7
  go_wp2
  rw [EW.out]
  go_ret
  exact ⟨rfl, G0.out⟩
 by_cases h2 : 64 < r
 ·have e : (if Snd r c l then (0 : Int) else 1) = 1 := if_neg (fun h => by have := h.2.1; omega)
  rw [e]
  clear e
  go_enter Tryz.func7, Tryz.ntmps7
  go_wp2
  rw [EW.out]
  go_ret
  exact ⟨rfl, G0.out⟩
 by_cases h3 : c < 0
 ·have e : (if Snd r c l then (0 : Int) else 1) = 1 := if_neg (fun h => by have := h.2.2.1; omega)
  rw [e]
  clear e
  go_enter Tryz.func7, Tryz.ntmps7
  go_wp2
  rw [EW.out]
  go_ret
  exact ⟨rfl, G0.out⟩
 by_cases h4 : 64 < c
 ·have e : (if Snd r c l then (0 : Int) else 1) = 1 := if_neg (fun h => by have := h.2.2.2.1; omega)
  rw [e]
  clear e
  go_enter Tryz.func7, Tryz.ntmps7
  go_wp2
  rw [EW.out]
  go_ret
  exact ⟨rfl, G0.out⟩
 have hm : 0 ≤ r * c ∧ r * c ≤ 64 * 64 := ⟨Int.mul_nonneg (by omega) (by omega), Int.mul_le_mul (by omega) (by omega) (by omega) (by omega)⟩
 have hw : IntKind.i64.wrap (r * c) = r * c := by rw [wrap_is] <;> omega
 obtain ⟨q, hq⟩ : ∃ q, r * c = q := ⟨_, rfl⟩
 replace hw : IntKind.i64.wrap (r * c) = q := hw.trans hq
 have hw2 := hw
 rw [IntKind.wrap_i64] at hw2
 by_cases h5 : (l : Int) = q
 ·have e : (if Snd r c l then (0 : Int) else 1) = 0 := if_pos ⟨by omega, by omega, by omega, by omega, h5.trans hq.symm⟩
  rw [e]
  have q0 : ((l : Int) != q) = false := by simpa using h5
  clear e hm hq
  go_enter Tryz.func7, Tryz.ntmps7
  go_wp2
  rw [EW.out]
  go_ret
  exact ⟨rfl, G0.out⟩
 ·have e : (if Snd r c l then (0 : Int) else 1) = 1 := if_neg (fun h => h5 (h.2.2.2.2.trans hq))
  rw [e]
  have q0 : ((l : Int) != q) = true := by simpa using h5
  clear e hm hq
  go_enter Tryz.func7, Tryz.ntmps7
  go_wp2
  rw [EW.out]
  go_ret
  exact ⟨rfl, G0.out⟩
end Go.Proofs.YtplldfnldaehiaaGreat
