/-
  QCp25ToLib25: Cp25, Lw25, Lib25, joined.
-/
import Derived.Test.YtdfnehngffajiabDoorQLn25ToTo25
import Derived.Deep.LoopGhost
import Derived.Laws.Concat
import Derived.Below
import Derived.Test.YtdfnehngffajiabDoorQBaseToSt25
import Derived.Shelf.Strings.Prefix
import Derived.Shelf.Strings.Search3
import Derived.Shelf.Vars

/- Cp25 -/
namespace Go.Proofs.YtdfnehngffajiabDoor
open Go.RowKit
set_option linter.unusedVariables false

theorem app_size (a b : ByteArray) : (a ++ b).size = a.size + b.size := ByteArray.size_append
theorem byS_left {a b : ByteArray} {i : Nat} (h : i < a.size) : byS (a ++ b) i = byS a i := by
  unfold byS
  show ((a ++ b).data[i]!).toNat = (a.data[i]!).toNat
  have h1 : i < a.data.size := h
  have h2 : i < (a ++ b).data.size := by rw [ByteArray.data_append, Array.size_append]; omega
  rw [getElem!_pos (a ++ b).data i h2, getElem!_pos a.data i h1]
  congr 1
  simp only [ByteArray.data_append]
  exact Array.getElem_append_left h1
theorem byS_right {a b : ByteArray} {i : Nat} : byS (a ++ b) (a.size + i) = byS b i := by
  unfold byS
  show ((a ++ b).data[a.size + i]!).toNat = (b.data[i]!).toNat
  have hs : a.size = a.data.size := rfl
  by_cases h : i < b.data.size
  · have h2 : a.size + i < (a ++ b).data.size := by rw [ByteArray.data_append, Array.size_append]; omega
    rw [getElem!_pos (a ++ b).data (a.size + i) h2, getElem!_pos b.data i h]
    congr 1
    simp only [ByteArray.data_append]
    rw [Array.getElem_append_right (by omega)]
    congr 1
    omega
  · have h2 : ¬ a.size + i < (a ++ b).data.size := by rw [ByteArray.data_append, Array.size_append]; omega
    rw [getElem!_neg (a ++ b).data (a.size + i) h2, getElem!_neg b.data i h]
theorem acS_congr {s t : ByteArray} {i j : Nat} : ∀ n, (∀ k, k < n → byS s (i + k) = byS t (j + k)) → acS s i n = acS t j n
  | 0, _ => rfl
  | 1, h => by
    have e := h 0 (by omega)
    simp only [Nat.add_zero] at e
    show (nxS (byS s i)).2.1 = (nxS (byS t j)).2.1
    rw [e]
  | n + 2, h => by
    have ih := acS_congr (n + 1) (fun k hk => h k (by omega))
    have e := h (n + 1) (by omega)
    show 64 * acS s i (n + 1) + (byS s (i + (n + 1)) : Int) - 128 = 64 * acS t j (n + 1) + (byS t (j + (n + 1)) : Int) - 128
    rw [ih, e]
/-- What a character's beginning tells: none, or one of n bytes. -/
theorem chS_form {s : ByteArray} {i : Nat} (hi : i < s.size) : (chS s i = (0, 0)) ∨ ((nxS (byS s i)).1 ≠ 0 ∧ i + (nxS (byS s i)).1 ≤ s.size ∧ (∀ k, 1 ≤ k → k < (nxS (byS s i)).1 → conS s (i + k)) ∧ acS s i (nxS (byS s i)).1 = ((chS s i).1 : Int) ∧ (chS s i).2 = (nxS (byS s i)).1 ∧ ¬ offS (acS s i (nxS (byS s i)).1) (nxS (byS s i)).2.2) := by
  by_cases h0 : (nxS (byS s i)).1 = 0
  · exact .inl (chS_none (.inl h0) hi)
  by_cases h1 : s.size < i + (nxS (byS s i)).1
  · exact .inl (chS_none (.inr (.inl h1)) hi)
  by_cases h2 : ∃ k, 1 ≤ k ∧ k < (nxS (byS s i)).1 ∧ ¬ conS s (i + k)
  · exact .inl (chS_none (.inr (.inr h2)) hi)
  have h2' : ∀ k, 1 ≤ k → k < (nxS (byS s i)).1 → conS s (i + k) := fun k a b => Classical.byContradiction fun q => h2 ⟨k, a, b, q⟩
  obtain ⟨a, b⟩ := chS_some h0 (by omega) h2'
  by_cases h3 : offS (acS s i (nxS (byS s i)).1) (nxS (byS s i)).2.2
  · exact .inl (a h3)
  · exact .inr ⟨h0, by omega, h2', (b h3).1, (b h3).2, h3⟩
theorem chS_same {s t : ByteArray} {i j : Nat} (hi : i < s.size) (hj : j < t.size) (h : ∀ k, k < (nxS (byS s i)).1 → byS s (i + k) = byS t (j + k)) (h0 : byS s i = byS t j) (hz : (i + (nxS (byS s i)).1 ≤ s.size) → (j + (nxS (byS s i)).1 ≤ t.size)) (hc : (chS s i).2 ≠ 0) : chS t j = chS s i := by
  rcases chS_form hi with q | ⟨q1, q2, q3, q4, q5, q6⟩
  · rw [q] at hc; exact absurd rfl hc
  have e := acS_congr _ h
  have g := @chS_some t j (by rw [← h0]; exact q1) (by rw [← h0]; exact hz q2) (by
    rw [← h0]
    intro k k1 k2
    have := q3 k k1 k2
    unfold conS at this ⊢
    rw [← h k k2]
    exact this)
  rw [← h0] at g
  rw [← e] at g
  have g2 := g.2 q6
  refine Prod.ext ?_ (g2.2.trans q5.symm)
  have := g2.1
  rw [q4] at this
  omega
theorem chS_left {a b : ByteArray} {i : Nat} (hi : i < a.size) (hc : (chS a i).2 ≠ 0) : chS (a ++ b) i = chS a i := by
  have hin := chS_in hi
  rcases chS_form hi with q | ⟨q1, q2, q3, q4, q5, q6⟩
  · rw [q] at hc; exact absurd rfl hc
  exact chS_same hi (by rw [app_size]; omega) (fun k hk => (byS_left (by omega)).symm) (byS_left hi).symm (fun q => by rw [app_size]; omega) hc
theorem chS_right {a b : ByteArray} {i : Nat} (hi : i < b.size) : chS (a ++ b) (a.size + i) = chS b i := by
  have hj : a.size + i < (a ++ b).size := by rw [app_size]; omega
  have e : ∀ k, byS b (i + k) = byS (a ++ b) (a.size + i + k) := fun k => by rw [Nat.add_assoc]; exact byS_right.symm
  have e0 : byS b i = byS (a ++ b) (a.size + i) := byS_right.symm
  by_cases hc : (chS b i).2 = 0
  · by_cases hd : (chS (a ++ b) (a.size + i)).2 = 0
    · have z : ∀ {s : ByteArray} {x : Nat}, x < s.size → (chS s x).2 = 0 → chS s x = (0, 0) := fun {s x} hx h => by
        rcases chS_form hx with q | ⟨q1, q2, q3, q4, q5, q6⟩
        · exact q
        · rw [q5] at h; exact absurd h q1
      rw [z hj hd, z hi hc]
    · have := chS_same (t := b) (j := i) hj hi (fun k _ => (e k).symm) e0.symm (fun q => by rw [app_size] at q; omega) hd
      rw [this] at hc
      exact absurd hc hd
  · exact chS_same hi hj (fun k _ => e k) e0 (fun q => by rw [app_size]; omega) hc
theorem ps_left {a b : ByteArray} {k : Nat} (h : gdS a 0 k) : ∀ j, j ≤ k → ps (a ++ b) 0 j = ps a 0 j
  | 0, _ => rfl
  | j + 1, hj => by
    have ih := ps_left (b := b) h j (by omega)
    show ps (a ++ b) 0 j + (chS (a ++ b) (ps (a ++ b) 0 j)).2 = ps a 0 j + (chS a (ps a 0 j)).2
    rw [ih, chS_left (h j (by omega)).1 (h j (by omega)).2]
theorem ps_right {a b : ByteArray} {k l : Nat} (hk : ps (a ++ b) 0 k = a.size) (h : gdS b 0 l) : ∀ j, j ≤ l → ps (a ++ b) 0 (k + j) = a.size + ps b 0 j
  | 0, _ => hk
  | j + 1, hj => by
    have ih := ps_right hk h j (by omega)
    show ps (a ++ b) 0 (k + j) + (chS (a ++ b) (ps (a ++ b) 0 (k + j))).2 = a.size + (ps b 0 j + (chS b (ps b 0 j)).2)
    rw [ih, chS_right (h j (by omega)).1]
    omega
/-- Characters add up. -/
theorem colE_app {a b : ByteArray} {k l : Nat} {f : Int} (h : ColE a 0 k 0) (g : ColE b 0 l f) : ColE (a ++ b) 0 (k + l) f := by
  obtain ⟨h1, h2⟩ := h
  obtain ⟨g1, g2⟩ := g
  have hsz : ps a 0 k = a.size := by rcases h2 with ⟨_, q⟩ | ⟨q, _⟩ <;> omega
  have pl := ps_left (b := b) h1
  have pk : ps (a ++ b) 0 k = a.size := (pl k (Nat.le_refl _)).trans hsz
  have pr := ps_right pk g1
  refine ⟨fun j hj => ?_, ?_⟩
  · by_cases q : j < k
    · rw [pl j (by omega), chS_left (h1 j q).1 (h1 j q).2, app_size]
      exact ⟨by have := (h1 j q).1; omega, (h1 j q).2⟩
    · obtain ⟨i, rfl⟩ : ∃ i, j = k + i := ⟨j - k, by omega⟩
      have := g1 i (by omega)
      rw [pr i (by omega), chS_right this.1, app_size]
      exact ⟨by omega, this.2⟩
  · rw [pr l (Nat.le_refl _), app_size]
    rcases g2 with ⟨q1, q2⟩ | ⟨q1, q2, q3⟩
    · exact .inl ⟨q1, by omega⟩
    · exact .inr ⟨q1, by omega, by rw [chS_right q2]; exact q3⟩
/-- Of the first i bytes those that begin a character. -/
def cnB (s : ByteArray) : Nat → Nat
  | 0 => 0
  | i + 1 => cnB s i + (if 128 ≤ byS s i ∧ byS s i < 192 then 0 else 1)
theorem cnB_cons {s : ByteArray} {i : Nat} : ∀ n, (∀ k, k < n → conS s (i + k)) → cnB s (i + n) = cnB s i
  | 0, _ => rfl
  | n + 1, h => by
    have ih := cnB_cons n (fun k hk => h k (by omega))
    show cnB s (i + n) + (if 128 ≤ byS s (i + n) ∧ byS s (i + n) < 192 then 0 else 1) = _
    rw [ih]
    exact congrArg (cnB s i + ·) (if_pos (h n (by omega)))
theorem cnB_char {s : ByteArray} {i : Nat} (hi : i < s.size) (hc : (chS s i).2 ≠ 0) : cnB s (i + (chS s i).2) = cnB s i + 1 := by
  rcases chS_form hi with q | ⟨q1, q2, q3, q4, q5, q6⟩
  · rw [q] at hc; exact absurd rfl hc
  rw [q5]
  obtain ⟨n, hn⟩ : ∃ n, (nxS (byS s i)).1 = n + 1 := ⟨(nxS (byS s i)).1 - 1, by omega⟩
  rw [hn] at q3 ⊢
  rw [show i + (n + 1) = (i + 1) + n by omega, cnB_cons n (fun k hk => by rw [show i + 1 + k = i + (k + 1) by omega]; exact q3 (k + 1) (by omega) (by omega))]
  show cnB s i + _ = _
  rw [if_neg]
  intro q
  rcases nxS_cases (byS s i) with ⟨z, e⟩ | ⟨z, z', e⟩ | ⟨z, z', e⟩ | ⟨z, z', e⟩ | ⟨z, e⟩
  · omega
  · omega
  · omega
  · omega
  · rw [e] at q1; exact absurd rfl q1
theorem cnB_ps {s : ByteArray} : ∀ {k : Nat}, gdS s 0 k → cnB s (ps s 0 k) = k
  | 0, _ => rfl
  | k + 1, h => by
    have ih := cnB_ps (h.low k (Nat.le_succ k))
    have := h k (Nat.lt_succ_self k)
    show cnB s (ps s 0 k + (chS s (ps s 0 k)).2) = _
    rw [cnB_char this.1 this.2, ih]
theorem cnB_all {s : ByteArray} {k : Nat} (h : ColE s 0 k 0) : cnB s s.size = k := by
  obtain ⟨h1, h2⟩ := h
  have hsz : ps s 0 k = s.size := by rcases h2 with ⟨_, q⟩ | ⟨q, _⟩ <;> omega
  rw [← hsz]
  exact cnB_ps h1
end Go.Proofs.YtdfnehngffajiabDoor

/- Lw25 -/
namespace Go.Proofs.YtdfnehngffajiabDoor
open Go.RowKit
set_option linter.unusedVariables false

/-- A law's answer. -/
def Well25 (w : World) (e : Ending) (w' : World) : Prop := e = .returned (.bool true) ∧ Below w.heap.size w w'
/-- What the program's Columns answers. -/
def ColP (s : ByteArray) (w : World) (e : Ending) (w' : World) : Prop := ∃ n f, e = .returned (.tuple #[.int .i64 n, .int .i64 f]) ∧ ColD s n f ∧ Below w.heap.size w w'
theorem cnB_le (s : ByteArray) : ∀ i, cnB s i ≤ i
  | 0 => Nat.le_refl _
  | i + 1 => by
    have := cnB_le s i
    unfold cnB
    split <;> omega
theorem colE_le {s : ByteArray} {k : Nat} {f : Int} (h : ColE s 0 k f) : k ≤ s.size := by
  have := h.1.le (Nat.zero_le _)
  omega
theorem colE_err {s : ByteArray} {i k : Nat} {f : Int} (h : ColE s i k f) : f = 0 ∨ f = 12 := by
  rcases h.2 with ⟨q, _⟩ | ⟨q, _⟩
  · exact .inl q
  · exact .inr q
theorem chS_zet : chS ⟨#[197, 188]⟩ 0 = (380, 2) := by decide +kernel
theorem colD_zet : ColD ⟨#[197, 188]⟩ 1 0 := by
  refine ⟨1, ⟨fun j hj => ?_, .inl ⟨rfl, ?_⟩⟩, rfl⟩
  · obtain rfl : j = 0 := by omega
    show 0 < 2 ∧ (chS ⟨#[197, 188]⟩ 0).2 ≠ 0
    rw [chS_zet]
    exact ⟨by omega, by simp⟩
  · show 0 + (chS ⟨#[197, 188]⟩ 0).2 = 2
    rw [chS_zet]
    rfl
theorem cols_law {a b : ByteArray} {m n k e f g : Int} (h1 : ColD a m e) (h2 : ColD b n f) (h3 : ColD (a ++ b) k g) :
    (e = 12 ∧ m = 0) ∨ (e = 0 ∧ f = 12 ∧ n = 0 ∧ g = 12 ∧ k = 0) ∨ (e = 0 ∧ f = 0 ∧ g = 0 ∧ ∃ x y : Nat, m = (x : Int) ∧ n = (y : Int) ∧ k = ((x + y : Nat) : Int) ∧ x = cnB a a.size ∧ x ≤ a.size ∧ y ≤ b.size) := by
  obtain ⟨x, hx, rfl⟩ := h1
  obtain ⟨y, hy, rfl⟩ := h2
  obtain ⟨z, hz, rfl⟩ := h3
  rcases colE_err hx with rfl | rfl
  · obtain ⟨e1, e2⟩ := colE_one (colE_app hx hy) hz
    subst e1 e2
    rcases colE_err hy with rfl | rfl
    · exact .inr (.inr ⟨rfl, rfl, rfl, x, y, rfl, rfl, rfl, (cnB_all hx).symm, colE_le hx, colE_le hy⟩)
    · exact .inr (.inl ⟨rfl, rfl, rfl, rfl, rfl⟩)
  · exact .inl ⟨rfl, rfl⟩
end Go.Proofs.YtdfnehngffajiabDoor

/- Lib25 -/
namespace Go.Proofs.YtdfnehngffajiabDoor
open Go.RowKit
set_option linter.unusedVariables false

def ren25 : Go.Shelf.Ren := ⟨fun | 99 => 23 | 100 => 21 | 143 => 30 | 144 => 22 | 206 => 31 | 207 => 29 | 217 => 43 | 219 => 38 | 224 => 45 | 225 => 44 | 266 => 49 | 267 => 46 | 314 => 50 | n => n, fun | 3 => 3 | 4 => 4 | 5 => 5 | 9 => 9 | 46 => 77 | 51 => 69 | 146 => 88 | n => n, fun | 1 => 0 | n => n⟩
theorem ren25lays99 : Go.Proofs.Lays.n99 Tryd.prog ren25 := {
  mixed := by kernel_rfl
  f99 := Tryd.func23.trans (congrArg some (by kernel_rfl))
  f206 := Tryd.func31.trans (congrArg some (by kernel_rfl))
  t3 := Tryd.underlying3
  a3 := Tryd.isAgg3
  z3 := Tryd.sizeOf3
  v3 := Tryd.zeroValue3
  t4 := Tryd.underlying4
  a4 := Tryd.isAgg4
  z4 := Tryd.sizeOf4
  v4 := Tryd.zeroValue4
  t9 := Tryd.underlying9
  a9 := Tryd.isAgg9
  z9 := Tryd.sizeOf9
  v9 := Tryd.zeroValue9 }
theorem ren25lays100 : Go.Proofs.Lays.n100 Tryd.prog ren25 := {
  mixed := by kernel_rfl
  f100 := Tryd.func21.trans (congrArg some (by kernel_rfl))
  f207 := Tryd.func29.trans (congrArg some (by kernel_rfl))
  t3 := Tryd.underlying3
  a3 := Tryd.isAgg3
  z3 := Tryd.sizeOf3
  v3 := Tryd.zeroValue3
  t4 := Tryd.underlying4
  a4 := Tryd.isAgg4
  z4 := Tryd.sizeOf4
  v4 := Tryd.zeroValue4
  t9 := Tryd.underlying9
  a9 := Tryd.isAgg9
  z9 := Tryd.sizeOf9
  v9 := Tryd.zeroValue9 }
theorem ren25lays144 : Go.Proofs.Lays.n144 Tryd.prog ren25 := {
  mixed := by kernel_rfl
  f143 := Tryd.func30.trans (congrArg some (by kernel_rfl))
  f144 := Tryd.func22.trans (congrArg some (by kernel_rfl))
  f217 := Tryd.func43.trans (congrArg some (by kernel_rfl))
  f219 := Tryd.func38.trans (congrArg some (by kernel_rfl))
  f224 := Tryd.func45.trans (congrArg some (by kernel_rfl))
  f225 := Tryd.func44.trans (congrArg some (by kernel_rfl))
  f266 := Tryd.func49.trans (congrArg some (by kernel_rfl))
  f267 := Tryd.func46.trans (congrArg some (by kernel_rfl))
  f314 := Tryd.func50.trans (congrArg some (by kernel_rfl))
  t3 := Tryd.underlying3
  a3 := Tryd.isAgg3
  z3 := Tryd.sizeOf3
  v3 := Tryd.zeroValue3
  t4 := Tryd.underlying4
  a4 := Tryd.isAgg4
  z4 := Tryd.sizeOf4
  v4 := Tryd.zeroValue4
  t5 := Tryd.underlying5
  a5 := Tryd.isAgg5
  z5 := Tryd.sizeOf5
  v5 := Tryd.zeroValue5
  t9 := Tryd.underlying9
  a9 := Tryd.isAgg9
  z9 := Tryd.sizeOf9
  v9 := Tryd.zeroValue9
  t46 := Tryd.underlying77
  a46 := Tryd.isAgg77
  z46 := Tryd.sizeOf77
  v46 := Tryd.zeroValue77
  t51 := Tryd.underlying69
  a51 := Tryd.isAgg69
  z51 := Tryd.sizeOf69
  v51 := Tryd.zeroValue69
  t146 := Tryd.underlying88
  a146 := Tryd.isAgg88
  z146 := Tryd.sizeOf88
  v146 := Tryd.zeroValue88
  g1 := by kernel_rfl }
/-- The library's variable holds an int. -/
def MaxL (w : World) : Prop := ∃ m, w.cell? ⟨0, 0, none⟩ = some (.int .i64 m)
theorem MaxL.on {w w' : World} (h : MaxL w) (hb : Below w.heap.size w w') : MaxL w' := by
  obtain ⟨m, hm⟩ := h
  exact ⟨m, (hb.cell (World.block_lt_of_cell? _ _ hm)).trans hm⟩
theorem MaxL.of {w : World} (h : w.ShapedOpen Tryd.prog) : MaxL w :=
  cell_of_shapedOpen_int (g := 0) (t := 3) (zero := #[.int .i64 0]) h (by decide +kernel) (by kernel_rfl) rfl (by kernel_rfl) (by kernel_rfl) Tryd.underlying3
theorem hasPrefix25 (s p : ByteArray) (w : World) : Calls Tryd.prog 23 #[.string s, .string p] w fun e w' => e = .returned (.bool (Lib.hasPrefix s.data.toList p.data.toList)) ∧ w' = w := Any.strings_HasPrefix ren25lays99 s p w
theorem hasSuffix25 (s p : ByteArray) (w : World) (hs : s.size ≤ 9223372036854775807) : Calls Tryd.prog 21 #[.string s, .string p] w fun e w' => e = .returned (.bool (Lib.hasSuffix s.data.toList p.data.toList)) ∧ w' = w := Any.strings_HasSuffix ren25lays100 s p w hs
theorem contains25 (s p : ByteArray) (w : World) (hs : s.size < 4294967281) (hm : MaxL w) : Calls Tryd.prog 22 #[.string s, .string p] w fun e w' => e = .returned (.bool (Lib.contains s.data.toList p.data.toList)) ∧ w' = w := by
  obtain ⟨m, hm⟩ := hm
  exact Any.strings_Contains ren25lays144 s p m w hs hm
end Go.Proofs.YtdfnehngffajiabDoor
