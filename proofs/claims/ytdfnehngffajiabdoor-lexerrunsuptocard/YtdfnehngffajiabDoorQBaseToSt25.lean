/-
  QBaseToSt25: Base, Opt25, St25, joined.
-/
import Derived.Test.YtdfnehngffajiabDoorRows
import Derived.Test.YtdfnehngffajiabDoorQWords
import Derived.WalkKit
import Derived.WalkSpells
import Derived.WalkLawsBesides
import Derived.Deep.QuietTactic
import Derived.BigQuiet
import Derived.ProofKit
import Derived.SizedLaws
import Derived.ChangeOld
import Derived.OpenShut
import Derived.ChangeAt
import Derived.ShutString
import Derived.ChangeMaps5
import Derived.WideShapes
import Derived.ChangeShapes
import Derived.Deep.AppendLies
import Derived.Below

/- Base -/
namespace Go.Proofs.YtdfnehngffajiabDoor
open Go.RowKit

theorem hid {p : Prop} (h : p) : Hid p := h

/-- In the world w the slice value v holds the words xs; its memory lies below block B. -/
def Sl (B : Nat) (w : World) (v : Value) (xs : List Int) : Prop :=
  WF xs ∧ ∃ a cap, v = .slice a xs.length cap ∧ xs.length ≤ cap ∧ xs.length ≤ 35184372088832 ∧
    (xs = [] ∨ ∃ b off, a = some ⟨b, off, none⟩ ∧ b < B ∧ ∀ j (h : j < xs.length), w.cell? ⟨b, off + j, none⟩ = some (.int .u64 xs[j]))

theorem Sl.nilAt (w : World) : Sl w.heap.size w (.slice none 0 0) [] := ⟨WF.nil, none, 0, rfl, Nat.le_refl _, Nat.zero_le _, .inl rfl⟩
theorem Sl.mono {B B' : Nat} {w : World} {v : Value} {xs : List Int} (h : Sl B w v xs) (hB : B ≤ B') : Sl B' w v xs := by
  obtain ⟨h1, a, cap, h2, h3, h4, h5⟩ := h
  refine ⟨h1, a, cap, h2, h3, h4, ?_⟩
  rcases h5 with h5 | ⟨b, off, h6, h7, h8⟩
  · exact .inl h5
  · exact .inr ⟨b, off, h6, by omega, h8⟩
theorem Sl.below {B B' : Nat} {w w' : World} {v : Value} {xs : List Int} (h : Sl B w v xs) (hb : Below B' w w') (hB : B ≤ B') : Sl B w' v xs := by
  obtain ⟨h1, a, cap, h2, h3, h4, h5⟩ := h
  refine ⟨h1, a, cap, h2, h3, h4, ?_⟩
  rcases h5 with h5 | ⟨b, off, h6, h7, h8⟩
  · exact .inl h5
  · exact .inr ⟨b, off, h6, h7, fun j hj => (hb.cell (p := ⟨b, off + j, none⟩) (by show b < B'; omega)).trans (h8 j hj)⟩

theorem wrap_is {x : Int} (h0 : -9223372036854775808 ≤ x) (h1 : x ≤ 9223372036854775807) : IntKind.i64.wrap x = x := by rw [IntKind.wrap_i64]; omega
theorem getD_lt {xs : List Int} {j : Nat} (h : j < xs.length) : xs.getD j 0 = xs[j] := by simp [h]

set_option maxHeartbeats 400000 in
theorem width_any {B : Nat} {w : World} {v : Value} {xs : List Int} (h : Sl B w v xs) :
    Calls Tryd.prog 56 #[v] w fun e w' => e = .returned (.int .i64 (wid xs)) ∧ w' = w := by
  obtain ⟨hw, a, cap, rfl, hlc, hcm, hm⟩ := h
  have HW : Hid (∀ n : Nat, n ≤ xs.length → (∀ j (h : j < xs.length), n ≤ j → xs[j] = 0) → (0 < n → ∀ h' : n - 1 < xs.length, xs[n - 1] ≠ 0) → wid xs = n) := fun n h1 h2 h3 => wid_is h1 h2 h3
  generalize wid xs = W at *
  go_enter Tryd.func56, Tryd.ntmps56
  go_wp2
  go_loop [3] (fun i => ∃ n : Nat, n ≤ xs.length ∧ i = .int .i64 n ∧ ∀ j (h : j < xs.length), n ≤ j → xs[j] = 0) (fun i => (intOf i).toNat)
  case atStart => exact ⟨xs.length, Nat.le_refl _, rfl, fun j h h' => by omega⟩
  case round =>
    obtain ⟨n, hn, rfl, hz⟩ := hrel
    have HZ : Hid (∀ j (h : j < xs.length), n ≤ j → xs[j] = 0) := hz
    clear hz
    by_cases h0 : n = 0
    · subst h0
      go_wp2
      go_ret
      exact ⟨by rw [HW.out 0 (by omega) HZ.out (by omega)]; rfl, rfl⟩
    · obtain ⟨k, rfl⟩ : ∃ k, n = k + 1 := ⟨n - 1, by omega⟩
      rcases hm with rfl | ⟨b, off, rfl, hb, hc⟩
      · simp at hn
      · have hk : k < xs.length := by omega
        have hck := hc k hk
        obtain ⟨x, hx⟩ : ∃ x, x = xs[k] := ⟨_, rfl⟩
        rw [← hx] at hck
        have HX : Hid (x = xs[k]) := hx
        clear hx hc h0
        by_cases hx0 : x = 0
        · have ht : (x == 0) = true := by simp [hx0]
          go_wp2
          go_round
          case rel =>
            refine ⟨k, by omega, rfl, fun j h hj => ?_⟩
            by_cases e : j = k
            · subst e; rw [← HX.out]; exact hx0
            · exact HZ.out j h (by omega)
          case measure => simp [intOf]
        · have ht : (x == 0) = false := by simp [hx0]
          go_wp2
          go_ret
          refine ⟨?_, rfl⟩
          rw [HW.out (k + 1) hn HZ.out (fun _ h' => by have := HX.out; simp at h' ⊢; rw [← this]; exact hx0)]
          rfl

theorem order_any (x y : Int) (w : World) :
    Calls Tryd.prog 69 #[.int .u64 x, .int .u64 y] w fun e w' => e = .returned (.int .i64 (cmpI x y)) ∧ w' = w := by
  rcases Int.lt_trichotomy x y with q | q | q
  · rw [cmpI_lt q]
    go_enter Tryd.func69, Tryd.ntmps69
    go_wp2
    go_ret
    exact ⟨rfl, rfl⟩
  · subst q
    rw [cmpI_self]
    go_enter Tryd.func69, Tryd.ntmps69
    go_wp2
    go_ret
    exact ⟨rfl, rfl⟩
  · rw [cmpI_gt q]
    have q' : ¬ x < y := by omega
    go_enter Tryd.func69, Tryd.ntmps69
    go_wp2
    go_ret
    exact ⟨rfl, rfl⟩

/-- Are two lists one? -/
def same (xs ys : List Int) : Bool := decide (xs = ys)
theorem same_self (xs : List Int) : same xs xs = true := by simp [same]

theorem Sl.drewN {B : Nat} {w : World} {v : Value} {xs : List Int} (h : Sl B w v xs) (n : Nat) : Sl B (w.drewN n) v xs := by
  obtain ⟨h1, a, cap, h2, h3, h4, h5⟩ := h
  refine ⟨h1, a, cap, h2, h3, h4, ?_⟩
  rcases h5 with h5 | ⟨b, off, h6, h7, h8⟩
  · exact .inl h5
  · exact .inr ⟨b, off, h6, h7, fun j hj => by simpa using h8 j hj⟩
end Go.Proofs.YtdfnehngffajiabDoor

/- Opt25 -/
namespace Go.Proofs.YtdfnehngffajiabDoor
open Go.ChangeShapes Go.WideShapes Go.ChangeAt Go.RowKit
set_option linter.unusedVariables false

theorem Tryd.own : ownKnob Tryd.prog.godebug = none := by kernel_rfl
theorem Tryd.laidOut : laidOutB Tryd.prog = true := by kernel_rfl
theorem bulk_pos {H : Type} (d : DataW H) : 1 ≤ Rows.uptoBulk d := by
  cases d
  case lit l => cases l <;> simp [Rows.uptoBulk]
  all_goals simp [Rows.uptoBulk]
theorem bulk_in {H : Type} {d : DataW H} : ∀ {l : List (DataW H)}, d ∈ l → Rows.uptoBulk d ≤ Rows.uptoBulkAll l
  | [], h => by cases h
  | x :: r, h => by
    simp only [Rows.uptoBulkAll]
    rcases List.mem_cons.1 h with rfl | h'
    · omega
    · have := bulk_in h'; omega
theorem bulk_len {H : Type} : ∀ l : List (DataW H), l.length ≤ Rows.uptoBulkAll l
  | [] => Nat.zero_le _
  | x :: r => by
    have h1 := bulk_pos x
    have h2 := bulk_len r
    simp only [Rows.uptoBulkAll, List.length_cons]
    omega
set_option maxRecDepth 100000 in
theorem open_text {H : Type} {enc : TypeId × Value → H} {W : World} {r : Reach} {b0 base : Nat} {sp : Nat → Bool} {held : Bool} {v : Value} {d : DataW H} {p : List MemPlace}
    (hv : Value.okWide Tryd.prog W r b0 9 v) (h : DataW.Trod enc Tryd.prog W base sp held 9 v d p) : ∃ s : ByteArray, v = .string s ∧ d = .lit (.string s.data.toList) ∧ p = [] ∧ s.size ≤ maxLen := by
  obtain ⟨s, rfl⟩ := okWide_string Tryd.underlying9 hv
  obtain ⟨fuel, hf⟩ := h
  obtain ⟨s', h1, h2, h3⟩ := DataW.trod_string Tryd.underlying9 hf
  simp [Value.cells] at h1
  subst h1
  exact ⟨s, rfl, congrArg Prod.fst h2, congrArg Prod.snd h2, h3⟩
theorem text_bulk {H : Type} {s : ByteArray} (h : Rows.uptoBulk (.lit (.string s.data.toList) : DataW H) ≤ 1048576) : s.size ≤ 1048576 := by
  simp only [Rows.uptoBulk] at h
  have : s.data.toList.length = s.size := by simp
  omega
end Go.Proofs.YtdfnehngffajiabDoor

/- St25 -/
namespace Go.Proofs.YtdfnehngffajiabDoor
open Go.RowKit
set_option linter.unusedVariables false

theorem Tryd.infoSt25 : (Tryd.prog.info? 9).map (fun i => (i.zero, i.size, i.bytes)) = some (some (.string ⟨#[]⟩), 1, 16) := by kernel_rfl
theorem head_add25 (g j : Nat) : (⟨g, 0, none⟩ : Addr).add j = ⟨g, j, none⟩ := by unfold Addr.add; split <;> simp_all
def strV (L : List ByteArray) : List Value := L.map Value.string
theorem strV_len (L : List ByteArray) : (strV L).length = L.length := by simp [strV]
/-- The slice value v gathers the texts L; its row lies from block B on. -/
def Strs (B : Nat) (w : World) (v : Value) (L : List ByteArray) : Prop := w.ownsRow B 9 1 v L.length (strV L)
theorem Strs.nil (B : Nat) (w : World) : Strs B w (.slice none 0 0) [] := World.ownsRow_nil _ _ _ _
theorem Strs.keep {B : Nat} {w w' : World} {v : Value} {L : List ByteArray} (h : Strs B w v L) (hb : ∀ g, B ≤ g → g < w.heap.size → w'.heap[g]? = w.heap[g]?) : Strs B w' v L := by
  obtain ⟨q1, q2 | ⟨g, cap, cur, q2, q3, q4, q5⟩⟩ := h
  · exact ⟨q1, .inl q2⟩
  · exact ⟨q1, .inr ⟨g, cap, cur, q2, q3, (hb g q3 (Array.getElem?_eq_some_iff.1 q4).1).trans q4, q5⟩⟩
theorem Strs.now {B : Nat} {w w' : World} {v : Value} {L : List ByteArray} (h : Strs B w v L) (hb : Below w.heap.size w w') : Strs B w' v L := h.keep fun g _ hg => hb.block g hg
theorem Strs.form {B : Nat} {w : World} {v : Value} {L : List ByteArray} (h : Strs B w v L) : ∃ a cap, v = .slice a L.length cap := by
  obtain ⟨q1, ⟨q2, q3⟩ | ⟨g, cap, cur, q2, _⟩⟩ := h
  · exact ⟨none, 0, by rw [q2, q3]⟩
  · exact ⟨_, cap, q2⟩
theorem Strs.at {B : Nat} {w : World} {a : Option Addr} {n cap : Nat} {L : List ByteArray} (h : Strs B w (.slice a n cap) L) {j : Nat} (hj : j < L.length) : ∃ g, a = some ⟨g, 0, none⟩ ∧ B ≤ g ∧ w.cell? ⟨g, j, none⟩ = some (.string L[j]) := by
  have h' := h
  obtain ⟨q1, ⟨q2, q3⟩ | ⟨g, cap', cur, q2, q3, q4, q5⟩⟩ := h
  · omega
  · simp only [Value.slice.injEq] at q2
    obtain ⟨rfl, rfl, rfl⟩ := q2
    have := World.ownsRow.cells h' (g := g) rfl j (.string L[j]) (by simp [strV, hj])
    rw [head_add25] at this
    exact ⟨g, rfl, q3, this⟩
theorem wpList_append_str25 (w : World) {ops : Array Oper} {rest : List Oper} {o : Oper} {a : Act} {Q : Exit → Act → World → Prop}
    (hgd : o.guard = none) (s x : Operand) (hop : o.op = .call { callee := .builtin .append, args := #[s, x], argTypes := #[40, 40] })
    (B : Nat) (v : Value) (L : List ByteArray) (c : ByteArray) (hs : a.eval s = v) (hB : Strs B w v L) (g : Nat) (hx : a.eval x = .slice (some ⟨g, 0, none⟩) 1 1) (hc : w.cell? ⟨g, 0, none⟩ = some (.string c)) (hlen : L.length ≤ 1000000000000) (hBs : B ≤ w.heap.size)
    (hK : ∀ m a' cap' w', Hid (m = L.length + 1) → Hid (Strs B w' (.slice a' m cap') (L ++ [c])) → Hid (Below B w w') → wpList Tryd.prog ops Q rest (a.put o.dst (.slice a' m cap')) w') :
    wpList Tryd.prog ops Q (o :: rest) a w := by
  obtain ⟨i, hi, hz, hsz, hby⟩ := info_parts Tryd.infoSt25
  refine wpList_append_lies w hgd s x 40 hop B 9 i (.string ⟨#[]⟩) 1 16 Tryd.underlying40 hi hz hsz hby rfl (by omega) v L.length (strV L) hs hB ⟨g, 0, none⟩ 1 1 [.string c] hx rfl ?_ ?_ (by omega) (by unfold maxLen; omega) (by omega) hBs w.heap.size rfl ?_
  · intro j u' hj
    match j, hj with
    | 0, hj => simp at hj; subst hj; rw [head_add25]; exact hc
  · intro u' hu'
    simp at hu'
    subst hu'
    rfl
  · intro g' cap' w' k1 k2 k3 k4
    refine hK _ _ _ w' rfl ?_ ?_
    · unfold Hid Strs
      have e : strV (L ++ [c]) = strV L ++ [.string c] := by simp [strV]
      rw [e, List.length_append, List.length_singleton]
      exact k1
    · refine ⟨k2.os, k2.tape, k2.output, k2.size, fun k hk => k2.block k (by omega) (fun e => ?_)⟩
      obtain ⟨_, ⟨q, _⟩ | ⟨g1, cap1, cur, q, q3, _⟩⟩ := hB
      · rw [q] at e; cases e
      · rw [q] at e
        obtain rfl : k = g1 := by simpa [Value.ownBlock] using e
        omega
end Go.Proofs.YtdfnehngffajiabDoor
