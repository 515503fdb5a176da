/-
  QOpenToInts: Open, Bulk, Ints, joined.
-/
import Derived.Test.YtaflidiokhaljaaDoorQBase
import Derived.ProofKit
import Derived.SizedLaws
import Derived.ChangeOld
import Derived.OpenShut
import Derived.Test.YtaflidiokhaljaaDoorRows

/- Open -/
namespace Go.Proofs.YtaflidiokhaljaaDoor
open Go.ChangeShapes Go.WideShapes Go.ChangeAt Go.RowKit

theorem Tryd.own : ownKnob Tryd.prog.godebug = none := by kernel_rfl
theorem Tryd.laidOut : laidOutB Tryd.prog = true := by kernel_rfl
theorem Tryd.cellsW : Tryd.prog.cellsOf 33 = 1 := by kernel_rfl
theorem Tryd.bytesW : Tryd.prog.bytesOf 33 = 8 := by kernel_rfl

theorem word_of_wf {n : Int} (h : (Lit.int .u64 n).wf = true) : IsW n := by
  have h1 : IntKind.u64.min = 0 := rfl
  have h2 : IntKind.u64.max = 18446744073709551615 := rfl
  simp only [Lit.wf, Bool.and_eq_true, decide_eq_true_eq] at h
  unfold IsW wB
  omega

theorem open_words {H : Type} {enc : TypeId × Value → H} {W : World} {a : Option Addr} {len cap : Nat} {d : DataW H} {p : List MemPlace}
    (h0 : DataW.Trod enc Tryd.prog W 0 (fun _ => true) true 26 (.slice a len cap) d p)
    (hsz : ∀ elems spare, d = .slice elems spare → (elems.length + spare.length) * Tryd.prog.bytesOf 33 ≤ reachBytes) :
    ∃ xs, Sl W.heap.size W (.slice a len cap) xs ∧ xs.length ≤ 17592186043904 := by
  obtain ⟨fuel, hf⟩ := h0
  rcases open_ints Tryd.underlying26 Tryd.underlying33 Tryd.cellsW hf with ⟨hcs, _⟩ | ⟨x, l, c, zs, hcs, _, hl, hm, hz, hx, hcell, hwz⟩
  · simp [Value.cells] at hcs
    obtain ⟨rfl, rfl, rfl⟩ := hcs
    exact ⟨[], Sl.nilAt W, by simp⟩
  · simp [Value.cells] at hcs
    obtain ⟨rfl, rfl, rfl⟩ := hcs
    simp only [if_true] at hz
    have hd : d = .slice (lits .u64 (zs.take len)) (lits .u64 (zs.drop len)) := congrArg Prod.fst hx
    have hr := hsz _ _ hd
    rw [Tryd.bytesW] at hr
    simp only [lits, List.length_map, List.length_take, List.length_drop, reachBytes] at hr
    have hlen : (zs.take len).length = len := by simp; omega
    refine ⟨zs.take len, ⟨fun y hy => word_of_wf (hwz y (List.mem_of_mem_take hy)), some x, cap, by rw [hlen], by rw [hlen]; exact hl, by rw [hlen]; omega, ?_⟩, by omega⟩
    by_cases he : len = 0
    · exact .inl (by simp [he])
    · obtain ⟨b, off, spot⟩ := x
      have hc := hcell 0 (by omega)
      have hspot : spot = none := by simpa [Addr.add] using World.cell?_spot hc
      subst hspot
      refine .inr ⟨b, off, rfl, ?_, fun j hj => ?_⟩
      · have := World.block_lt_of_cell? W _ hc
        simpa [Addr.add] using this
      · rw [hlen] at hj
        have hcj := hcell j (by omega)
        have e : (⟨b, off, none⟩ : Addr).add j = ⟨b, off + j, none⟩ := by unfold Addr.add; split <;> simp_all
        rw [e] at hcj
        rw [hcj]
        simp [show j < zs.length by omega]
end Go.Proofs.YtaflidiokhaljaaDoor

/- Bulk -/
namespace Go.Proofs.YtaflidiokhaljaaDoor
open Go.ChangeShapes Go.WideShapes Go.ChangeAt Go.RowKit

/-- A slice value as it comes in: nil, or at a place. -/
def Formed (v : Value) : Prop := v = .slice none 0 0 ∨ ∃ ad n c, v = .slice (some ad) n c
theorem bulk_pos {H : Type} (d : DataW H) : 1 ≤ Rows.uptoBulk d := by
  cases d
  case lit l => cases l <;> simp [Rows.uptoBulk]
  all_goals simp [Rows.uptoBulk]
theorem bulk_in {H : Type} {d : DataW H} : ∀ {l : List (DataW H)}, d ∈ l → Rows.uptoBulk d ≤ Rows.uptoBulkAll l
  | [], h => by cases h
  | x :: r, h => by
    simp only [Rows.uptoBulkAll]
    rcases List.mem_cons.1 h with rfl | h'
    · omega
    · have := bulk_in h'; omega
theorem bulk_len {H : Type} : ∀ l : List (DataW H), l.length ≤ Rows.uptoBulkAll l
  | [] => Nat.zero_le _
  | x :: r => by
    have h1 := bulk_pos x
    have h2 := bulk_len r
    simp only [Rows.uptoBulkAll, List.length_cons]
    omega

theorem open_words3 {H : Type} {enc : TypeId × Value → H} {W : World} {fuel : Nat} {v : Value} {x : DataW H × List MemPlace}
    (hf : DataW.trod enc Tryd.prog W 0 (fun _ => true) true fuel 26 [v] = some x) (hb : Rows.uptoBulk x.1 ≤ 1048576) :
    ∃ xs, Sl W.heap.size W v xs ∧ xs.length + 1 ≤ Rows.uptoBulk x.1 ∧ Formed v := by
  rcases open_ints Tryd.underlying26 Tryd.underlying33 Tryd.cellsW hf with ⟨hcs, _⟩ | ⟨x', len, cap, zs, hcs, _, hl, hm, hz, hx, hcell, hwz⟩
  · simp only [List.cons.injEq, and_true] at hcs
    subst hcs
    exact ⟨[], Sl.nilAt W, bulk_pos _, .inl rfl⟩
  · simp only [List.cons.injEq, and_true] at hcs
    subst hcs
    simp only [if_true] at hz
    rw [hx] at hb ⊢
    simp only [Rows.uptoBulk] at hb ⊢
    have e1 := bulk_len (lits (H := H) .u64 (zs.take len))
    have e2 := bulk_len (lits (H := H) .u64 (zs.drop len))
    simp only [lits, List.length_map, List.length_take, List.length_drop] at e1 e2
    have hlen : (zs.take len).length = len := by simp; omega
    have hzl : zs.length ≤ 1048576 := by simp only [lits] at hb; omega
    refine ⟨zs.take len, ⟨fun y hy => word_of_wf (hwz y (List.mem_of_mem_take hy)), some x', cap, by rw [hlen], by rw [hlen]; exact hl, by omega, ?_⟩, by rw [hlen]; simp only [lits]; omega, .inr ⟨x', len, cap, rfl⟩⟩
    by_cases he : len = 0
    · exact .inl (by simp [he])
    · obtain ⟨b, off, spot⟩ := x'
      have hc := hcell 0 (by omega)
      have hspot : spot = none := by simpa [Addr.add] using World.cell?_spot hc
      subst hspot
      refine .inr ⟨b, off, rfl, ?_, fun j hj => ?_⟩
      · have := World.block_lt_of_cell? W _ hc
        simpa [Addr.add] using this
      · rw [hlen] at hj
        have hcj := hcell j (by omega)
        have e : (⟨b, off, none⟩ : Addr).add j = ⟨b, off + j, none⟩ := by unfold Addr.add; split <;> simp_all
        rw [e] at hcj
        rw [hcj]
        simp [show j < zs.length by omega]

theorem open_words2 {H : Type} {enc : TypeId × Value → H} {W : World} {fuel : Nat} {v : Value} {x : DataW H × List MemPlace}
    (hf : DataW.trod enc Tryd.prog W 0 (fun _ => true) true fuel 26 [v] = some x) (hb : Rows.uptoBulk x.1 ≤ 1048576) :
    ∃ xs, Sl W.heap.size W v xs ∧ xs.length ≤ 1048576 ∧ Formed v := by
  obtain ⟨xs, h1, h2, h3⟩ := open_words3 hf hb
  exact ⟨xs, h1, by omega, h3⟩
theorem open_words1 {H : Type} {enc : TypeId × Value → H} {W : World} {fuel : Nat} {v : Value} {x : DataW H × List MemPlace}
    (hf : DataW.trod enc Tryd.prog W 0 (fun _ => true) true fuel 26 [v] = some x) (hb : Rows.uptoBulk x.1 ≤ 1048576) :
    ∃ xs, Sl W.heap.size W v xs ∧ xs.length ≤ 1048576 := by
  obtain ⟨xs, h1, h2, _⟩ := open_words2 hf hb
  exact ⟨xs, h1, h2⟩
theorem open_small {H : Type} {enc : TypeId × Value → H} {W : World} {a : Option Addr} {len cap : Nat} {d : DataW H} {p : List MemPlace}
    (h0 : DataW.Trod enc Tryd.prog W 0 (fun _ => true) true 26 (.slice a len cap) d p) (hb : Rows.uptoBulk d ≤ 1048576) :
    ∃ xs, Sl W.heap.size W (.slice a len cap) xs ∧ xs.length ≤ 1048576 ∧ Formed (.slice a len cap) := by
  obtain ⟨fuel, hf⟩ := h0
  exact open_words2 (x := (d, p)) hf hb
end Go.Proofs.YtaflidiokhaljaaDoor

/- Ints -/
namespace Go.Proofs.YtaflidiokhaljaaDoor
open Go.ChangeShapes Go.WideShapes Go.ChangeAt Go.RowKit

theorem Tryd.cellsI : Tryd.prog.cellsOf 3 = 1 := by kernel_rfl
theorem Tryd.bytesI : Tryd.prog.bytesOf 3 = 8 := by kernel_rfl
theorem int_bounds {n : Int} (h : (Lit.int .i64 n).wf = true) : -9223372036854775808 ≤ n ∧ n ≤ 9223372036854775807 := by
  have h1 : IntKind.i64.min = -9223372036854775808 := rfl
  have h2 : IntKind.i64.max = 9223372036854775807 := rfl
  simp only [Lit.wf, Bool.and_eq_true, decide_eq_true_eq] at h
  omega

end Go.Proofs.YtaflidiokhaljaaDoor
