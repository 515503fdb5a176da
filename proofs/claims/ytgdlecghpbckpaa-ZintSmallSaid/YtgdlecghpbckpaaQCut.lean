/-
  Cut: the contracts of split and join.
-/
import Derived.Test.YtgdlecghpbckpaaQByWord
namespace Go.Proofs.Ytgdlecghpbckpaa
open Go.RowKit
set_option linter.unusedVariables false

theorem Sl.taken {B : Nat} {w : World} {a : Option Addr} {len cap : Nat} {xs : List Int} (h : Sl B w (.slice a len cap) xs) {n : Nat} (hn : n ≤ xs.length) : Sl B w (.slice a n n) (xs.take n) := by
  obtain ⟨hw, a', cap', he, hlc, hcm, hm⟩ := h
  simp only [Value.slice.injEq] at he
  obtain ⟨rfl, rfl, rfl⟩ := he
  have e : (xs.take n).length = n := by simp; omega
  exact ⟨hw.take n, a, n, by rw [e], by omega, by omega, Sl.source hm⟩
theorem Sl.dropped {B : Nat} {w : World} {b off : Nat} {len cap : Nat} {xs : List Int} (h : Sl B w (.slice (some ⟨b, off, none⟩) len cap) xs) {n : Nat} (hn : n ≤ xs.length) : Sl B w (.slice (some ⟨b, off + n, none⟩) (len - n) (len - n)) (xs.drop n) := by
  obtain ⟨hw, a', cap', he, hlc, hcm, hm⟩ := h
  simp only [Value.slice.injEq] at he
  obtain ⟨rfl, rfl, rfl⟩ := he
  have e : (xs.drop n).length = xs.length - n := by simp
  refine ⟨hw.rest n, _, _, by rw [e], by omega, by omega, ?_⟩
  rcases hm with rfl | ⟨b', off', h1, h2, h3⟩
  · exact .inl (by simp)
  · simp only [Option.some.injEq, Addr.mk.injEq, and_true] at h1
    obtain ⟨rfl, rfl⟩ := h1
    refine .inr ⟨b, off + n, rfl, h2, fun j hj => ?_⟩
    rw [e] at hj
    rw [Nat.add_assoc, h3 (n + j) (by omega)]
    simp
theorem Sl.none {B : Nat} {w : World} (a : Option Addr) (xs : List Int) (h : xs = []) : Sl B w (.slice a 0 0) xs := by
  subst h
  exact ⟨WF.nil, a, 0, rfl, Nat.le_refl _, Nat.zero_le _, .inl rfl⟩

/-- What split answers. -/
def Splits (w : World) (xs : List Int) (n : Nat) (e : Ending) (w' : World) : Prop :=
  ∃ l r, e = .returned (.tuple #[l, r]) ∧ Sl w'.heap.size w' l (xs.take n) ∧ Sl w'.heap.size w' r (xs.drop n) ∧ Below w.heap.size w w'

theorem ws_splice (zs src : List Int) (o : Nat) : splice (ws zs) o (ws src) = ws (splice zs o src) := by
  unfold splice ws
  simp
theorem wpList_copy_at (w : World) {ops : Array Oper} {rest : List Oper} {o : Oper} {a : Act} {Q : Exit → Act → World → Prop}
    (hgd : o.guard = none) (d s : Operand) (hop : o.op = .call { callee := .builtin .copy, args := #[d, s], argTypes := #[22, 22] })
    (g off : Nat) (dp sp : Option Addr) (dLen dCap sLen sCap : Nat) (zs src : List Int) (hrow : Row w g (ws zs)) (hd : a.eval d = .slice dp dLen dCap) (hs : a.eval s = .slice sp sLen sCap)
    (hlen : src.length = sLen) (hle : sLen ≤ dLen) (hdp : 0 < sLen → dp = some ⟨g, off, none⟩) (hfit : off + sLen ≤ zs.length)
    (hsl : src = [] ∨ ∃ b off, sp = some ⟨b, off, none⟩ ∧ b < g ∧ ∀ j (h : j < src.length), w.cell? ⟨b, off + j, none⟩ = some (.int .u64 src[j]))
    (hK : ∀ w', Hid (Row w' g (ws (splice zs off src))) → Below g w w' → wpList Try.prog ops Q rest (a.put o.dst (goInt sLen)) w') :
    wpList Try.prog ops Q (o :: rest) a w := by
  have hmin : Nat.min sLen dLen = sLen := Nat.min_eq_left hle
  refine wpList_copy_splice hgd d s 22 22 hop 35 Try.underlying22 Try.sizeW _ _ dLen dCap sLen sCap hd hs g off (ws zs) 35 hrow (ws src) (by rw [length_ws, hlen, hmin]) ?_ (by rw [length_ws, length_ws, hlen]; exact hfit) ?_ g w (Below.refl _ _) (Nat.le_refl _) ?_
  · intro hpos
    rcases hsl with rfl | ⟨b, so, hsp, _, hc⟩
    · simp [ws] at hpos
    · rw [length_ws, hlen] at hpos
      refine ⟨hdp hpos, _, hsp, fun j v hj => ?_⟩
      have hj' : j < src.length := by
        have := (List.getElem?_eq_some_iff.1 hj).1
        simpa [length_ws] using this
      have : (ws src)[j]? = some (.int .u64 src[j]) := by simp [ws, hj']
      rw [this] at hj
      rw [← hj]
      have e : (⟨b, so, none⟩ : Addr).add j = ⟨b, so + j, none⟩ := by unfold Addr.add; split <;> simp_all
      rw [e]
      exact hc j hj'
  · intro v hv
    simp only [ws, List.mem_map] at hv
    obtain ⟨x, _, rfl⟩ := hv
    rfl
  · intro w' h1 h2
    have := hK w' (by unfold Hid Row; rw [← ws_splice]; exact h1.out) h2
    simpa [length_ws, hlen] using this

theorem splice_low (N : Nat) (xs : List Int) : splice (List.replicate N 0) 0 xs = xs ++ List.replicate (N - xs.length) 0 := by
  simp [splice]
theorem splice_high (n m : Nat) (xs ys : List Int) (hx : xs.length ≤ n) (hy : ys.length = m) : splice (xs ++ List.replicate (n + m - xs.length) 0) n ys = xs ++ List.replicate (n - xs.length) 0 ++ ys := by
  subst hy
  unfold splice
  rw [List.take_append, List.drop_append, List.take_of_length_le hx, List.drop_of_length_le (by omega)]
  simp
  omega

end Go.Proofs.Ytgdlecghpbckpaa
