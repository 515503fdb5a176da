/-
  Keep: Roomy, turned, Kept: lists with marked spare room.
-/
import Derived.Test.YtnbjlpeclaieeaaShift
import Derived.Test.YtnbjlpeclaieeaaSubToNow
namespace Go.Proofs.Ytnbjlpeclaieeaa
open Go.RowKit

/-- A row that is filled from its head on: the first k words of T are there. -/
def filled (T : List Int) (k : Nat) : List Int := T.take k ++ List.replicate (T.length - k) 0
theorem filled_len (T : List Int) {k : Nat} (h : k ≤ T.length) : (filled T k).length = T.length := by simp [filled]; omega
theorem filled_zero (T : List Int) {n : Nat} (h : T.length = n) : List.replicate n 0 = filled T 0 := by simp [filled, h]
theorem filled_all (T : List Int) {n : Nat} (h : T.length = n) : filled T n = T := by subst h; simp [filled]
theorem filled_set (T : List Int) {k : Nat} (h : k < T.length) : (filled T k).set k T[k] = filled T (k + 1) := by
  obtain ⟨m, hm⟩ : ∃ m, T.length - k = m + 1 := ⟨T.length - k - 1, by omega⟩
  have hm' : T.length - (k + 1) = m := by omega
  unfold filled
  rw [hm, hm', List.set_append_right _ _ (by simp; omega), List.length_take, Nat.min_eq_left (by omega), Nat.sub_self, List.replicate_succ, List.set_cons_zero, ← List.take_append_getElem h, List.append_assoc]
  rfl

/-- What Roomy lays: the words, then the marks. -/
def roomy (xs : List Int) : List Int := xs ++ (List.range 80).map fun j => 6510516211317473280 + ((xs.length + j : Nat) : Int)
theorem roomy_len (xs : List Int) : (roomy xs).length = xs.length + 80 := by simp [roomy]
theorem roomy_low {xs : List Int} {k : Nat} (h : k < (roomy xs).length) (h' : k < xs.length) : (roomy xs)[k] = xs[k] := by
  exact List.getElem_append_left h'
theorem roomy_high {xs : List Int} {k : Nat} (h : k < (roomy xs).length) (h' : xs.length ≤ k) : (roomy xs)[k] = 6510516211317473280 + (k : Int) := by
  have e : (xs ++ (List.range 80).map fun j => 6510516211317473280 + ((xs.length + j : Nat) : Int))[k]'h = _ := List.getElem_append_right h'
  refine Eq.trans e ?_
  simp
  omega
theorem roomy_wf {xs : List Int} (hw : WF xs) (hl : xs.length ≤ 35184372000000) : WF (roomy xs) := fun x hx => by
  unfold roomy at hx
  rcases List.mem_append.1 hx with h | h
  · exact hw x h
  · obtain ⟨j, hj, rfl⟩ := List.mem_map.1 h
    have := List.mem_range.1 hj
    unfold IsW wB
    omega

set_option maxHeartbeats 1600000 in
theorem roomy_any {w : World} {v : Value} {xs : List Int} (h : Sl w.heap.size w v xs) (hlen : xs.length ≤ 35184372000000) :
    Calls Try.prog 7 #[v] w fun e w' => e = .returned (.slice (some ⟨w.heap.size, 0, none⟩) (xs.length + 80) (xs.length + 80)) ∧ Row w' w.heap.size (ws (roomy xs)) ∧ Below w.heap.size w w' := by
  obtain ⟨hw, a, cap, rfl, hlc, hcm, hm⟩ := h
  have HM := hid hm
  have HL := hid (roomy_len xs)
  have H1 : Hid (∀ k (h : k < (roomy xs).length) (h' : k < xs.length), (roomy xs)[k] = xs[k]) := fun k h h' => roomy_low h h'
  have H2 : Hid (∀ k (h : k < (roomy xs).length), xs.length ≤ k → (roomy xs)[k] = 6510516211317473280 + (k : Int)) := fun k h h' => roomy_high h h'
  generalize roomy xs = T at *
  clear hm hw
  go_enter Try.func7, Try.ntmps7
  go_wp2_with (at_make; refine wpList_make_words _ rfl _ _ rfl _ _ (xs.length + 80) (xs.length + 80) rfl rfl (by omega) (by omega) (Nat.le_refl _) (by omega) ?_)
  intro w2 hrow hb2 hsz2
  have hrow2 : Row w2 w.heap.size (ws (filled T 0)) := by rw [← filled_zero T HL.out]; exact hrow
  clear hrow hsz2
  go_wp2_with fail
  go_loopw [4] (fun i wr => ∃ k : Nat, k ≤ xs.length + 80 ∧ i = .int .i64 k ∧ Row wr w.heap.size (ws (filled T k)) ∧ Below w.heap.size w wr) (fun i _ => xs.length + 80 - (intOf i).toNat)
  case atStart => exact ⟨0, Nat.zero_le _, rfl, hrow2, hb2⟩
  case round =>
    clear hrow2 hb2
    obtain ⟨k, hk, rfl, hr, hb⟩ := hrel
    by_cases hlt : k < xs.length + 80
    · have hkT : k < T.length := by have := HL.out; omega
      have hkF : k < (filled T k).length := by rw [filled_len T (Nat.le_of_lt hkT)]; exact hkT
      have c1 : wr.cell? ⟨w.heap.size, k, none⟩ = some (.int .u64 (filled T k)[k]) := Row.word (r := []) (by simpa using hr) hkF
      have cf : wr.frozen? ⟨w.heap.size, k, none⟩ = false := hr.frozen _
      have HR := Row.setWord (r := []) (by simpa using hr) hkF T[k]
      rw [filled_set T hkT] at HR
      have HB := hb.setCell (p := ⟨w.heap.size, k, none⟩) (Nat.le_refl _) (.int .u64 T[k])
      generalize (filled T k)[k] = z at *
      by_cases hx : k < xs.length
      · rcases HM.out with e | ⟨b, off, rfl, hbg, hcy⟩
        · subst e; simp at hx
        have c2 : wr.cell? ⟨b, off + k, none⟩ = some (.int .u64 T[k]) := by rw [H1.out k hkT hx]; exact (hb.cell (p := ⟨b, off + k, none⟩) hbg).trans (hcy k hx)
        generalize T[k] = t at *
        clear hcy hr hb
        go_wp2
        go_roundw
        case rel => exact ⟨k + 1, by omega, by go_num, (by simpa using HR), HB⟩
        case measure => simp [intOf]; omega
      · have ht := H2.out k hkT (by omega)
        rw [ht] at HR HB
        clear hr hb ht
        go_wp2
        go_roundw
        case rel => exact ⟨k + 1, by omega, by go_num, (by simpa using HR), HB⟩
        case measure => simp [intOf]; omega
    · obtain rfl : k = xs.length + 80 := by omega
      rw [filled_all T HL.out] at hr
      go_wp2
      go_ret
      exact ⟨rfl, hr, hb⟩

set_option maxHeartbeats 1600000 in
theorem kept_yes {B : Nat} {w : World} {v u : Value} {ls xs : List Int} (h : Sl B w v ls) (h' : Sl B w u xs) (he : ls = roomy xs) :
    Calls Try.prog 10 #[v, u] w fun e w' => e = .returned (.bool true) ∧ ∃ n, w' = w.drewN n := by
  subst he
  obtain ⟨hw, a, cap, rfl, hlc, hcm, hm⟩ := h
  obtain ⟨hw', a', cap', rfl, hlc', hcm', hm'⟩ := h'
  have H1 : Hid (∀ k (h : k < (roomy xs).length) (h' : k < xs.length), (roomy xs)[k] = xs[k]) := fun k h h' => roomy_low h h'
  have H2 : Hid (∀ k (h : k < (roomy xs).length), xs.length ≤ k → (roomy xs)[k] = 6510516211317473280 + (k : Int)) := fun k h h' => roomy_high h h'
  have HM := hid hm
  have HM' := hid hm'
  have hl := roomy_len xs
  generalize roomy xs = T at *
  have HL := hid hl
  rw [hl] at hlc ⊢
  clear hm hm' hw hw' hl
  have hne : (((xs.length + 80 : Nat) : Int) != (xs.length : Int) + 80) = false := by simp
  have hne2 : ((xs.length : Int) + 80 != (xs.length : Int) + 80) = false := by simp
  go_enter Try.func10, Try.ntmps10
  go_wp2
  go_loopw [5] (fun i wr => ∃ k : Nat, k ≤ xs.length + 80 ∧ i = .int .i64 k ∧ ∃ q, wr = w.drewN q) (fun i _ => xs.length + 80 - (intOf i).toNat)
  case atStart => exact ⟨0, Nat.zero_le _, rfl, 0, rfl⟩
  case round =>
    obtain ⟨k, hk, rfl, hq⟩ := hrel
    have HQ := hid hq
    have hcw : ∀ a, wr.cell? a = w.cell? a := by obtain ⟨q, rfl⟩ := hq; intro a; rfl
    clear hq
    by_cases hlt : k < xs.length + 80
    · have hkT : k < T.length := by have := HL.out; omega
      rcases HM.out with e | ⟨b, off, rfl, hbg, hcy⟩
      · subst e; simp at hkT
      have c1 : wr.cell? ⟨b, off + k, none⟩ = some (.int .u64 T[k]) := by rw [hcw]; exact hcy k hkT
      by_cases hx : k < xs.length
      · rcases HM'.out with e | ⟨b', off', rfl, hbg', hcy'⟩
        · subst e; simp at hx
        have c2 : wr.cell? ⟨b', off' + k, none⟩ = some (.int .u64 T[k]) := by rw [hcw, H1.out k hkT hx]; exact hcy' k hx
        generalize T[k] = t at *
        have ht : (t != t) = false := by simp
        clear hcy hcy' hcw
        go_wp2
        go_quiet (fail)
        go_wp2
        go_roundw
        case rel => exact ⟨k + 1, by omega, by go_num, (by obtain ⟨q, hq⟩ := HQ.out; exact ⟨q + nq, by rw [hq, World.drewN_drewN]⟩)⟩
        case measure => simp [intOf]; omega
      · rw [H2.out k hkT (by omega)] at c1
        have ht : ((6510516211317473280 + (k : Int)) != (6510516211317473280 + (k : Int))) = false := by simp
        clear hcy hcw
        go_wp2
        go_quiet (fail)
        go_wp2
        go_roundw
        case rel => exact ⟨k + 1, by omega, by go_num, (by obtain ⟨q, hq⟩ := HQ.out; exact ⟨q + nq, by rw [hq, World.drewN_drewN]⟩)⟩
        case measure => simp [intOf]; omega
    · go_wp2
      go_ret
      exact ⟨rfl, HQ.out⟩

/-- The mark of place j of the list with the number i. -/
def signW (i j : Nat) : Int := 4323455642275676160 + (i : Int) * 1048576 + (j : Int)
theorem signW_is {i j : Nat} (hi : i ≤ 2097152) (hj : j ≤ 35184372088832) : IsW (signW i j) := by unfold signW IsW wB; omega
theorem sign_any (i j : Nat) (hi : i ≤ 2097152) (hj : j ≤ 35184372088832) (w : World) :
    Calls Try.prog 45 #[.int .i64 (i : Int), .int .i64 (j : Int)] w fun e w' => e = .returned (.int .u64 (signW i j)) ∧ w' = w := by
  unfold signW
  go_enter Try.func45, Try.ntmps45
  go_wp2
  go_ret
  exact ⟨rfl, rfl⟩
end Go.Proofs.Ytnbjlpeclaieeaa
