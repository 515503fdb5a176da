/-
  Holds: the marks of a book's list; rows that are written in place while others stay.
-/
import Derived.Test.YtnbjlpeclaieeaaKeep
import Derived.Laws.AppendOwn
namespace Go.Proofs.Ytnbjlpeclaieeaa
open Go.RowKit

/-- The marks of the list with the number i, n places long. -/
def signs (i n : Nat) : List Int := (List.range n).map (signW i)
theorem signs_len (i n : Nat) : (signs i n).length = n := by simp [signs]
theorem signs_get {i n k : Nat} (h : k < (signs i n).length) : (signs i n)[k] = signW i k := by simp [signs]
theorem signs_succ (i n : Nat) : signs i (n + 1) = signs i n ++ [signW i n] := by simp [signs, List.range_succ]
theorem signs_wf {i n : Nat} (hi : i ≤ 2097152) (hn : n ≤ 35184372088832) : WF (signs i n) := fun x hx => by
  obtain ⟨j, hj, rfl⟩ := List.mem_map.1 hx
  exact signW_is hi (by have := List.mem_range.1 hj; omega)

/-- The slice value v holds the words xs, whatever room is behind them. -/
def Sw (w : World) (v : Value) (xs : List Int) : Prop :=
  ∃ a cap, v = .slice a xs.length cap ∧ (xs = [] ∨ ∃ b off, a = some ⟨b, off, none⟩ ∧ ∀ j (h : j < xs.length), w.cell? ⟨b, off + j, none⟩ = some (.int .u64 xs[j]))

set_option maxHeartbeats 1600000 in
theorem holds_yes {w : World} {v u : Value} {i n : Nat} (hi : i ≤ 2097152) (hn : n ≤ 35184372000000) (h : Sw w v (signs i n)) (h' : Sw w u (signs i (n + 80))) :
    Calls Try.prog 46 #[.int .i64 (i : Int), v, u] w fun e w' => e = .returned (.bool true) ∧ ∃ q, w' = w.drewN q := by
  obtain ⟨a, cap, rfl, hm⟩ := h
  obtain ⟨a', cap', rfl, hm'⟩ := h'
  have H1 : Hid (∀ k (h : k < (signs i n).length), (signs i n)[k] = signW i k) := fun k h => signs_get h
  have H2 : Hid (∀ k (h : k < (signs i (n + 80)).length), (signs i (n + 80))[k] = signW i k) := fun k h => signs_get h
  have HM := hid hm
  have HM' := hid hm'
  have l1 := signs_len i n
  have l2 := signs_len i (n + 80)
  generalize signs i n = T at *
  generalize signs i (n + 80) = T' at *
  have L1 := hid l1
  have L2 := hid l2
  rw [l1, l2]
  clear hm hm' l1 l2
  have hne2 : ((n : Int) + 80 != (n : Int) + 80) = false := by simp
  go_enter Try.func46, Try.ntmps46
  go_wp2_with fail
  go_loopw [7] (fun j wr => ∃ k : Nat, k ≤ n ∧ j = .int .i64 k ∧ ∃ q, wr = w.drewN q) (fun j _ => n - (intOf j).toNat)
  case atStart => exact ⟨0, Nat.zero_le _, rfl, 0, rfl⟩
  case round =>
    obtain ⟨k, hk, rfl, hq⟩ := hrel
    have HQ := hid hq
    have hcw : ∀ a, wr.cell? a = w.cell? a := by obtain ⟨q, rfl⟩ := hq; intro a; rfl
    by_cases hlt : k < n
    · clear hq
      have hkT : k < T.length := by have := L1.out; omega
      rcases HM.out with e | ⟨b, off, rfl, hcy⟩
      · subst e; simp at hkT
      have c1 : wr.cell? ⟨b, off + k, none⟩ = some (.int .u64 (signW i k)) := by rw [hcw, ← H1.out k hkT]; exact hcy k hkT
      have HS : ∀ w, Calls Try.prog 45 #[.int .i64 (i : Int), .int .i64 (k : Int)] w fun e w' => e = .returned (.int .u64 (signW i k)) ∧ w' = w := sign_any i k hi (by omega)
      generalize signW i k = t at *
      have ht : (t != t) = false := by simp
      clear hcy hcw
      go_wp2_with fail
      go_quiet ((go_at_call 45; exact Calls.quiet_of_same (HS _)))
      go_wp2
      go_roundw
      case rel => exact ⟨k + 1, by omega, by go_num, (by obtain ⟨q, hq⟩ := HQ.out; exact ⟨q + nq, by rw [hq, World.drewN_drewN]⟩)⟩
      case measure => simp [intOf]; omega
    · clear hcw hq
      obtain ⟨q0, hq0⟩ := HQ.out
      have HQ0 := hid hq0
      clear hq0
      go_wp2_with fail
      go_loopw [8] (fun j wr => ∃ k : Nat, k ≤ n + 80 ∧ j = .int .i64 k ∧ ∃ q, wr = w.drewN q) (fun j _ => n + 80 - (intOf j).toNat)
      case atStart => exact ⟨0, Nat.zero_le _, rfl, q0, HQ0.out⟩
      case round =>
        clear HQ HQ0
        obtain ⟨k, hk, rfl, hq⟩ := hrel
        have HQ := hid hq
        rename World => wq
        have hcw : ∀ a, wq.cell? a = w.cell? a := by obtain ⟨q, e⟩ := hq; intro a; rw [e]; rfl
        clear hq
        by_cases hlt : k < n + 80
        · have hkT : k < T'.length := by have := L2.out; omega
          rcases HM'.out with e | ⟨b, off, rfl, hcy⟩
          · subst e; simp at hkT
          have c1 : wq.cell? ⟨b, off + k, none⟩ = some (.int .u64 (signW i k)) := by rw [hcw, ← H2.out k hkT]; exact hcy k hkT
          have HS : ∀ w, Calls Try.prog 45 #[.int .i64 (i : Int), .int .i64 (k : Int)] w fun e w' => e = .returned (.int .u64 (signW i k)) ∧ w' = w := sign_any i k hi (by omega)
          generalize signW i k = t at *
          have ht : (t != t) = false := by simp
          clear hcy hcw
          go_wp2_with fail
          go_quiet ((go_at_call 45; exact Calls.quiet_of_same (HS _)))
          go_wp2
          go_roundw
          case rel => exact ⟨k + 1, by omega, by go_num, (by obtain ⟨q, hq⟩ := HQ.out; exact ⟨q + nq, by rw [hq, World.drewN_drewN]⟩)⟩
          case measure => simp [intOf]; omega
        · go_wp2
          go_ret
          exact ⟨rfl, HQ.out⟩

/-- Only blocks of S have turned; new ones may be there. -/
structure Touch (S : Nat → Prop) (w w' : World) : Prop where
  os : w'.os = w.os
  tape : w'.tape = w.tape
  output : w'.output = w.output
  size : w.heap.size ≤ w'.heap.size
  block : ∀ k, k < w.heap.size → ¬ S k → w'.heap[k]? = w.heap[k]?
theorem Touch.refl (S : Nat → Prop) (w : World) : Touch S w w := ⟨rfl, rfl, rfl, Nat.le_refl _, fun _ _ _ => rfl⟩
theorem Touch.trans {S : Nat → Prop} {a b c : World} (h : Touch S a b) (k : Touch S b c) : Touch S a c :=
  ⟨k.os.trans h.os, k.tape.trans h.tape, k.output.trans h.output, Nat.le_trans h.size k.size, fun i hi hS => (k.block i (Nat.lt_of_lt_of_le hi h.size) hS).trans (h.block i hi hS)⟩
theorem Touch.ofBelow {S : Nat → Prop} {w w' : World} (h : Below w.heap.size w w') : Touch S w w' := ⟨h.os, h.tape, h.output, h.size, fun k hk _ => h.block k hk⟩
theorem Touch.alloc {S : Nat → Prop} {w0 w : World} (h : Touch S w0 w) (o : Obj) : Touch S w0 (w.alloc o) :=
  h.trans (.ofBelow ((Below.refl _ _).alloc (Nat.le_refl _) o))
theorem Touch.drewN {S : Nat → Prop} {w0 w : World} (h : Touch S w0 w) (n : Nat) : Touch S w0 (w.drewN n) := ⟨h.os, h.tape, h.output, h.size, h.block⟩
theorem Touch.setCell {S : Nat → Prop} {w0 w : World} (h : Touch S w0 w) {g : Nat} (hg : w0.heap.size ≤ g ∨ S g) (j : Nat) (x : Value) : Touch S w0 (w.setCell ⟨g, j, none⟩ x) := by
  have b := (Below.refl g w).setCell (p := ⟨g, j, none⟩) (Nat.le_refl _) x
  refine ⟨b.os.trans h.os, b.tape.trans h.tape, b.output.trans h.output, Nat.le_trans h.size b.size, fun k hk hS => ?_⟩
  rw [Below.heap_setCell w _ x k (fun e => by subst e; rcases hg with q | q; (· exact absurd hk (by omega)); exact hS q)]
  exact h.block k hk hS
theorem Touch.grown {S : Nat → Prop} {w0 w w' : World} {row : Option Nat} (h : Touch S w0 w) (hg : w.grownBy w' row) (hr : ∀ k, row = some k → w0.heap.size ≤ k ∨ S k) : Touch S w0 w' :=
  ⟨hg.os.trans h.os, hg.tape.trans h.tape, hg.output.trans h.output, Nat.le_trans h.size hg.size, fun k hk hS => by
    rw [hg.block k (Nat.lt_of_lt_of_le hk h.size) (fun e => by rcases hr k e.symm with q | q; (· omega); exact hS q)]
    exact h.block k hk hS⟩
theorem Touch.cell {S : Nat → Prop} {w w' : World} (h : Touch S w w') {b : Nat} (hb : b < w.heap.size) (hS : ¬ S b) (j : Nat) : w'.cell? ⟨b, j, none⟩ = w.cell? ⟨b, j, none⟩ :=
  World.cell?_of_block (h.block b hb hS)
theorem Touch.row {S : Nat → Prop} {w w' : World} (h : Touch S w w') {g : Nat} {L : List Value} (hr : Row w g L) (hS : ¬ S g) : Row w' g L := (h.block g hr.lt hS).trans hr

/-- The slice value v is nil, or lies at the head of a row of its own, and holds the words zs; its room is the row's, or it has none. -/
def Ow (w : World) (v : Value) (zs : List Int) : Prop :=
  w.ownsRow 0 32 1 v zs.length (ws zs) ∨ ∃ g r, v = .slice (some ⟨g, 0, none⟩) zs.length zs.length ∧ Row w g (ws zs ++ r) ∧ zs.length ≤ 35184372088832
theorem Ow.nil (w : World) : Ow w (.slice none 0 0) [] := .inl (World.ownsRow_nil w 0 _ 1)
theorem Ow.keep {w w' : World} {v : Value} {zs : List Int} (h : Ow w v zs) (hk : ∀ g, v.ownBlock = some g → w'.heap[g]? = w.heap[g]?) : Ow w' v zs := by
  rcases h with ⟨h1, h2 | ⟨g, cap, cur, h2, h3, h4, h5⟩⟩ | ⟨g, r, h2, h3, h4⟩
  · exact .inl ⟨h1, .inl h2⟩
  · exact .inl ⟨h1, .inr ⟨g, cap, cur, h2, h3, (hk g (by rw [h2]; rfl)).trans h4, h5⟩⟩
  · exact .inr ⟨g, r, h2, (hk g (by rw [h2]; rfl)).trans h3, h4⟩
theorem Ow.lt {w : World} {v : Value} {zs : List Int} (h : Ow w v zs) {g : Nat} (hg : v.ownBlock = some g) : g < w.heap.size := by
  rcases h with h | ⟨g', r, h2, h3, _⟩
  · exact (World.ownsRow.lt h g hg).2
  · rw [h2] at hg
    simp [Value.ownBlock] at hg
    subst hg
    exact h3.lt
theorem Ow.form {w : World} {v : Value} {zs : List Int} (h : Ow w v zs) :
    (v = .slice none 0 0 ∧ zs = []) ∨ ∃ g cap, v = .slice (some ⟨g, 0, none⟩) zs.length cap ∧ g < w.heap.size ∧ (∀ j (h : j < zs.length), w.cell? ⟨g, j, none⟩ = some (.int .u64 zs[j])) ∧ ∀ j, w.frozen? ⟨g, j, none⟩ = false := by
  rcases h with h | ⟨g, r, h2, h3, _⟩
  · have h' := h
    obtain ⟨h1, ⟨h2, h3⟩ | ⟨g, cap, cur, h2, h3, h4, h5, h6, h7, h8⟩⟩ := h
    · exact .inl ⟨h2, List.eq_nil_of_length_eq_zero h3⟩
    · refine .inr ⟨g, cap, h2, (World.ownsRow.lt h' g (by rw [h2]; rfl)).2, fun j hj => ?_, fun j => by simp [World.frozen?, h4]⟩
      have := World.ownsRow.cells h' (g := g) (by rw [h2]; rfl) j (.int .u64 zs[j]) (by simp [ws, hj])
      have e : (⟨g, 0, none⟩ : Addr).add j = ⟨g, j, none⟩ := by unfold Addr.add; split <;> simp_all
      rwa [e] at this
  · exact .inr ⟨g, _, h2, h3.lt, fun j hj => h3.word hj, fun j => h3.frozen j⟩
theorem Ow.sw {w : World} {v : Value} {zs : List Int} (h : Ow w v zs) : Sw w v zs := by
  rcases h.form with ⟨rfl, rfl⟩ | ⟨g, cap, rfl, _, hc, _⟩
  · exact ⟨none, 0, rfl, .inl rfl⟩
  · exact ⟨_, cap, rfl, .inr ⟨g, 0, rfl, fun j hj => by rw [Nat.zero_add]; exact hc j hj⟩⟩
theorem ws_set_any (zs : List Int) (r : List Value) (j : Nat) (x : Int) : ∃ r', (ws zs ++ r).set j (.int .u64 x) = ws (zs.set j x) ++ r' := by
  by_cases h : j < zs.length
  · exact ⟨r, ws_set zs r j h x⟩
  · refine ⟨r.set (j - zs.length) (.int .u64 x), ?_⟩
    have e : zs.set j x = zs := List.set_eq_of_length_le (by omega)
    rw [List.set_append_right _ _ (by rw [length_ws]; omega), length_ws, e]
theorem Ow.set {w : World} {v : Value} {zs : List Int} (h : Ow w v zs) {g : Nat} (hg : v.ownBlock = some g) (j : Nat) (x : Int) : Ow (w.setCell ⟨g, j, none⟩ (.int .u64 x)) v (zs.set j x) := by
  rcases h with ⟨h1, ⟨h2, h3⟩ | ⟨g', cap, cur, h2, h3, h4, h5, h6, h7, h8⟩⟩ | ⟨g', r, h2, h3, h4⟩
  · rw [h2] at hg; cases hg
  · obtain rfl : g' = g := by rw [h2] at hg; simpa [Value.ownBlock] using hg
    refine .inl ⟨by simp [length_ws], .inr ⟨g', cap, cur.setIfInBounds j (.int .u64 x), by simpa using h2, h3, ?_, by simpa using h5, h6, by simpa using h7, ?_⟩⟩
    · simp [World.setCell, Array.getElem?_modify, h4]
    · rw [Array.toList_setIfInBounds, List.length_set, List.take_set, Nat.mul_one]
      rw [Nat.mul_one] at h8
      rw [h8]
      simp [ws, List.map_set]
  · obtain rfl : g' = g := by rw [h2] at hg; simpa [Value.ownBlock] using hg
    obtain ⟨r', e⟩ := ws_set_any zs r j x
    refine .inr ⟨g', r', by simpa using h2, ?_, by simpa using h4⟩
    rw [← e]
    exact h3.set j _
theorem Row.ow {w : World} {g : Nat} {zs : List Int} {r : List Value} (h : Row w g (ws zs ++ r)) (hm : zs.length + r.length ≤ 35184372088832) : Ow w (.slice (some ⟨g, 0, none⟩) zs.length (zs.length + r.length)) zs :=
  .inl ⟨by simp [length_ws], .inr ⟨g, _, _, rfl, Nat.zero_le _, h, by omega, by unfold maxLen; omega, by simp [length_ws], by simp [length_ws]⟩⟩
theorem Row.owTight {w : World} {g : Nat} {zs : List Int} {r : List Value} (h : Row w g (ws zs ++ r)) (hm : zs.length ≤ 35184372088832) : Ow w (.slice (some ⟨g, 0, none⟩) zs.length zs.length) zs := .inr ⟨g, r, rfl, h, hm⟩
theorem Own.ow {B : Nat} {w : World} {v : Value} {zs : List Int} (h : Own B w v zs) : Ow w v zs := by
  obtain ⟨hw, ⟨h1, h2⟩ | ⟨g, r, h1, h2, h3, h4⟩⟩ := h
  · subst h1 h2; exact Ow.nil w
  · subst h3; exact h4.ow h2
theorem Own.atLeast {B : Nat} {w : World} {v : Value} {zs : List Int} (h : Own B w v zs) {g : Nat} (hg : v.ownBlock = some g) : B ≤ g := by
  obtain ⟨hw, ⟨h1, h2⟩ | ⟨g', r, h1, h2, h3, h4⟩⟩ := h
  · subst h1; cases hg
  · subst h3; simp [Value.ownBlock] at hg; omega
end Go.Proofs.Ytnbjlpeclaieeaa
