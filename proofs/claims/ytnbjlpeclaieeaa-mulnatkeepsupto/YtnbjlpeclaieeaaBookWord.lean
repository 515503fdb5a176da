/-
  BookWord: a book that is being filled: one list more.
-/
import Derived.Test.YtnbjlpeclaieeaaApart
import Derived.Deep.AppendLies
namespace Go.Proofs.Ytnbjlpeclaieeaa
open Go.RowKit
set_option linter.unusedVariables false

/-- The book in block bb holds the lists Us; it and its row lie at B or above. -/
def Bw (B : Nat) (w : World) (bb : Nat) (Us : List Value) : Prop :=
  B ≤ bb ∧ ∃ v, w.heap[bb]? = some (.cells #[v, .slice none 0 0, .slice none 0 0] 39 (0, 0)) ∧ w.ownsRow B 22 1 v Us.length Us
theorem Bw.lt {B : Nat} {w : World} {bb : Nat} {Us : List Value} (h : Bw B w bb Us) : bb < w.heap.size := by
  obtain ⟨_, v, h1, _⟩ := h
  exact (Array.getElem?_eq_some_iff.1 h1).1
/-- Behind the append: the row, and the book's first field written anew. -/
theorem Bw.more {B : Nat} {w w1 w2 : World} {bb g cap : Nat} {Us : List Value} {v u : Value} (hb : B ≤ bb) (hv : w.heap[bb]? = some (.cells #[v, .slice none 0 0, .slice none 0 0] 39 (0, 0)))
    (ho : w.ownsRow B 22 1 v Us.length Us) (h1 : Below w.heap.size w w1) (h2 : w2.ownsRow B 22 1 (.slice (some ⟨g, 0, none⟩) (Us.length + 1) cap) (Us.length + 1) (Us ++ [u])) (h3 : w1.grownBy w2 v.ownBlock) :
    w2.cell? ⟨bb, 0, none⟩ = some v ∧ w2.frozen? ⟨bb, 0, none⟩ = false ∧ Bw B (w2.setCell ⟨bb, 0, none⟩ (.slice (some ⟨g, 0, none⟩) (Us.length + 1) cap)) bb (Us ++ [u]) ∧ Below B w (w2.setCell ⟨bb, 0, none⟩ (.slice (some ⟨g, 0, none⟩) (Us.length + 1) cap)) := by
  have hlt : bb < w.heap.size := (Array.getElem?_eq_some_iff.1 hv).1
  have hne : some bb ≠ v.ownBlock := fun e => by
    obtain ⟨_, ⟨k1, _⟩ | ⟨g', cap', cur, k1, _, k3, _⟩⟩ := ho
    · rw [k1] at e; cases e
    · rw [k1] at e
      obtain rfl : bb = g' := by simpa [Value.ownBlock] using e
      have := hv.symm.trans k3
      simp at this
  have hv1 := (h1.block bb hlt).trans hv
  have hv2 := (h3.block bb (Nat.lt_of_lt_of_le hlt h1.size) hne).trans hv1
  have hgb : g ≠ bb := fun e => by
    subst e
    obtain ⟨_, ⟨k1, _⟩ | ⟨g', cap', cur, k1, _, k3, _⟩⟩ := h2
    · cases k1
    · obtain rfl : g = g' := by simp at k1; exact k1.1
      have := hv2.symm.trans k3
      simp at this
  refine ⟨by simp [World.cell?, hv2], by simp [World.frozen?, hv2], ⟨hb, .slice (some ⟨g, 0, none⟩) (Us.length + 1) cap, ?_, ?_⟩, ?_⟩
  · rw [heap_setCell_same w2 bb 0 _ _ _ hv2]; simp
  · obtain ⟨k0, ⟨k1, _⟩ | ⟨g', cap', cur, k1, k2, k3, k4⟩⟩ := h2
    · cases k1
    · obtain rfl : g = g' := by simp at k1; exact k1.1
      refine ⟨by simp, .inr ⟨g, cap', cur, by simpa using k1, k2, ?_, by simpa using k4⟩⟩
      rw [heap_setCell_other w2 _ g _ hgb]; exact k3
  · refine Below.setCell (p := ⟨bb, 0, none⟩) ?_ hb _
    refine ⟨h3.os.trans h1.os, h3.tape.trans h1.tape, h3.output.trans h1.output, Nat.le_trans h1.size h3.size, fun k hk => ?_⟩
    have hBw : B ≤ w.heap.size := Nat.le_trans hb (Nat.le_of_lt hlt)
    rw [h3.block k (Nat.lt_of_lt_of_le (Nat.lt_of_lt_of_le hk hBw) h1.size) (fun e => ?_)]
    · exact h1.block k (Nat.lt_of_lt_of_le hk hBw)
    · obtain ⟨_, ⟨k1, _⟩ | ⟨g', cap', cur, k1, k2, _⟩⟩ := ho
      · rw [k1] at e; cases e
      · rw [k1] at e
        obtain rfl : k = g' := by simpa [Value.ownBlock] using e
        omega

set_option maxHeartbeats 1600000 in
theorem bookWord_any {B : Nat} {w : World} {bb : Nat} {Us : List Value} {a : Option Addr} {n c : Nat} (h : Bw B w bb Us) (hl : Us.length ≤ 2000000) :
    Calls Try.prog 12 #[.pointer (some ⟨bb, 0, none⟩), .slice a n c] w fun e w' => e = .returned (.tuple #[]) ∧ Bw B w' bb (Us ++ [.slice a n c]) ∧ Below B w w' := by
  have hlt := h.lt
  obtain ⟨hb, v, hv, ho⟩ := h
  obtain ⟨i, hi, hz, hsz, hby⟩ := info_parts Try.infoS
  have HB := hid hb
  have HV := hid hv
  have HO := hid ho
  have hc0 : w.cell? ⟨bb, 0, none⟩ = some v := by simp [World.cell?, hv]
  have HB1 := hid ((Below.refl w.heap.size w).alloc (Nat.le_refl _) (.cells #[.slice a n c] 22))
  have HO1 : Hid ((w.alloc (.cells #[.slice a n c] 22)).ownsRow B 22 1 v Us.length Us) := by
    obtain ⟨k0, k1 | ⟨g', cap', cur, k1, k2, k3, k4⟩⟩ := ho
    · exact ⟨k0, .inl k1⟩
    · exact ⟨k0, .inr ⟨g', cap', cur, k1, k2, (HB1.out.block g' ((Array.getElem?_eq_some_iff.1 k3).1)).trans k3, k4⟩⟩
  have HML : Hid (Us.length + 1 ≤ maxLen) := by unfold Hid maxLen; omega
  have HBY : Hid ((Us.length + 1) * 24 ≤ 140737488355328) := by unfold Hid; omega
  have HBS : Hid (B ≤ (w.alloc (.cells #[.slice a n c] 22)).heap.size) := by unfold Hid; simp; omega
  have HN : Hid (∀ j u, ([.slice a n c] : List Value)[j]? = some u → (w.alloc (.cells #[.slice a n c] 22)).cell? ((⟨w.heap.size, 0, none⟩ : Addr).add j) = some u) := fun j u hj => by
    match j, hj with
    | 0, hj =>
      simp at hj
      subst hj
      have e : (⟨w.heap.size, 0, none⟩ : Addr).add 0 = ⟨w.heap.size, 0, none⟩ := rfl
      rw [e]
      unfold World.cell?
      rw [heap_alloc_new]
      rfl
  clear hb hv ho hlt
  go_enter Try.func12, Try.ntmps12
  go_wp2_with (at_builtin; refine wpList_append_lies _ rfl (.tmp 8) (.tmp 10) 23 rfl B 22 i (.slice none 0 0) 1 24 Try.underlying23 hi hz hsz hby rfl (by omega) v Us.length Us rfl HO1.out ⟨w.heap.size, 0, none⟩ 1 1 [.slice a n c] rfl rfl HN.out (fun u hu => by simp at hu; subst hu; rfl) (by omega) HML.out HBY.out HBS.out (w.heap.size + 1) (by simp) ?_)
  intro g cap w2 h2 h3 h4 h5
  obtain ⟨m1, m2, m3, m4⟩ := Bw.more HB.out HV.out HO.out HB1.out h2 h3
  have M3 := hid m3
  have M4 := hid m4
  clear m3 m4 h2 h3 h4 h5
  go_wp2
  go_end0
  exact ⟨rfl, M3.out, M4.out⟩
theorem add_head (g j : Nat) : (⟨g, 0, none⟩ : Addr).add j = ⟨g, j, none⟩ := by unfold Addr.add; split <;> simp_all
/-- A book that is filled, as its reader wants it. -/
theorem Bw.bk {B : Nat} {w : World} {bb : Nat} {Us : List Value} (h : Bw B w bb Us) (hn : 0 < Us.length) (hl : Us.length ≤ 2000000) (L : Nat → Nat)
    (own : ∀ i (hi : i < Us.length), ∃ zs, zs.length = L i ∧ Ow w Us[i] zs) (len : ∀ i, i < Us.length → L i ≤ 1000000000)
    (low : ∀ i (hi : i < Us.length) g, Us[i].ownBlock = some g → g < B)
    (apart : ∀ i j (hi : i < Us.length) (hj : j < Us.length), i ≠ j → ∀ g, Us[i].ownBlock = some g → Us[j].ownBlock ≠ some g) :
    ∃ gb, Bk w bb gb Us.length (fun i => Us.getD i (.slice none 0 0)) L ∧ w.cell? ⟨bb, 1, none⟩ = some (.slice none 0 0) ∧ w.cell? ⟨bb, 2, none⟩ = some (.slice none 0 0) := by
  have hlt := h.lt
  obtain ⟨hb, v, hv, ho⟩ := h
  have ho' := ho
  obtain ⟨k0, ⟨k1, k2⟩ | ⟨g, cap, cur, k1, k2, k3, k4, k5, k6, k7⟩⟩ := ho
  · omega
  have eg : ∀ i (hi : i < Us.length), Us.getD i (.slice none 0 0) = Us[i] := fun i hi => by simp [hi]
  have free : ∀ b, B ≤ b → ¬ Blk Us.length (fun i => Us.getD i (.slice none 0 0)) b := fun b hB ⟨i, hi, e⟩ => by
    dsimp only at e
    rw [eg i hi] at e
    have := low i hi b e
    omega
  refine ⟨g, ⟨hl, hlt, (Array.getElem?_eq_some_iff.1 k3).1, ⟨cap, ?_⟩, fun i hi => ?_, fun i hi => ?_, len, fun i j hi hj hij g' e => ?_, free _ hb, free _ k2⟩, ?_, ?_⟩
  · rw [← k1]; simp [World.cell?, hv]
  · have := World.ownsRow.cells ho' (g := g) (by rw [k1]; rfl) i Us[i] (by simp [hi])
    rw [add_head] at this
    rw [this, eg i hi]
  · rw [eg i hi]
    exact own i hi
  · rw [eg i hi] at e
    rw [eg j hj]
    exact apart i j hi hj hij g' e
  · simp [World.cell?, hv]
  · simp [World.cell?, hv]
end Go.Proofs.Ytnbjlpeclaieeaa
