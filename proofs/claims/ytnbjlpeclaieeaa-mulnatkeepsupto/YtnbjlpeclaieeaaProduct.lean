/-
  Product: lists of lists; the contract of Product.
-/
import Derived.Test.YtnbjlpeclaieeaaMulAllToSteps
import Derived.Test.YtnbjlpeclaieeaaOpenToBulk
import Derived.Deep.RegionWith
namespace Go.Proofs.Ytnbjlpeclaieeaa
open Go.RowKit
set_option linter.unusedVariables false

def prodv : List (List Int) → Int
  | [] => 1
  | x :: r => val x * prodv r
def tot : List (List Int) → Nat
  | [] => 0
  | x :: r => x.length + tot r
theorem prodv_append : ∀ (Xs Ys : List (List Int)), prodv (Xs ++ Ys) = prodv Xs * prodv Ys
  | [], Ys => by simp [prodv]
  | x :: r, Ys => by rw [List.cons_append, prodv, prodv, prodv_append r Ys, Int.mul_assoc]
theorem tot_append : ∀ (Xs Ys : List (List Int)), tot (Xs ++ Ys) = tot Xs + tot Ys
  | [], Ys => by simp [tot]
  | x :: r, Ys => by rw [List.cons_append, tot, tot, tot_append r Ys]; omega
theorem prodv_halves (Xs : List (List Int)) (n : Nat) : prodv (Xs.take n) * prodv (Xs.drop n) = prodv Xs := by rw [← prodv_append, List.take_append_drop]
theorem tot_halves (Xs : List (List Int)) (n : Nat) : tot (Xs.take n) + tot (Xs.drop n) = tot Xs := by rw [← tot_append, List.take_append_drop]
theorem prodv_le : ∀ {Xs : List (List Int)}, (∀ x ∈ Xs, WF x) → 0 ≤ prodv Xs ∧ prodv Xs ≤ pw (tot Xs)
  | [], _ => by simp [prodv, tot, pw]
  | x :: r, h => by
    obtain ⟨h1, h2⟩ := prodv_le (Xs := r) (fun y hy => h y (by simp [hy]))
    have hx := h x (by simp)
    rw [prodv, tot, pw_plus]
    exact ⟨Int.mul_nonneg (val_nonneg hx) h1, Int.mul_le_mul (Int.le_of_lt (val_lt_pw hx)) h2 h1 (Int.le_of_lt (pw_pos _))⟩
theorem prodv_lt {Xs : List (List Int)} (h : ∀ x ∈ Xs, WF x) : prodv Xs < pw (tot Xs + 1) := by
  have h1 := (prodv_le h).2
  have h2 := pw_pos (tot Xs)
  rw [pw]
  unfold wB
  omega

/-- In the world w the slice value v holds the lists Xs; all of it lies below block B. -/
def Ls (B : Nat) (w : World) (v : Value) (Xs : List (List Int)) : Prop :=
  ∃ a cap, v = .slice a Xs.length cap ∧ Xs.length ≤ cap ∧ Xs.length ≤ 2097152 ∧
    (Xs = [] ∨ ∃ b off, a = some ⟨b, off, none⟩ ∧ b < B ∧ ∀ j (h : j < Xs.length), ∃ u, w.cell? ⟨b, off + j, none⟩ = some u ∧ Sl B w u Xs[j] ∧ Formed u)
theorem Ls.wf {B : Nat} {w : World} {v : Value} {Xs : List (List Int)} (h : Ls B w v Xs) : ∀ x ∈ Xs, WF x := by
  obtain ⟨a, cap, _, _, _, rfl | ⟨b, off, _, _, h3⟩⟩ := h
  · intro x hx; cases hx
  · intro x hx
    obtain ⟨j, hj, rfl⟩ := List.getElem_of_mem hx
    obtain ⟨u, _, h4, _⟩ := h3 j hj
    exact h4.1
theorem Ls.now {w w' : World} {v : Value} {Xs : List (List Int)} (h : Ls w.heap.size w v Xs) (hb : Below w.heap.size w w') : Ls w'.heap.size w' v Xs := by
  obtain ⟨a, cap, h1, h2, h2', h3⟩ := h
  refine ⟨a, cap, h1, h2, h2', ?_⟩
  rcases h3 with h3 | ⟨b, off, h4, h5, h6⟩
  · exact .inl h3
  · refine .inr ⟨b, off, h4, Nat.lt_of_lt_of_le h5 hb.size, fun j hj => ?_⟩
    obtain ⟨u, h7, h8, h9⟩ := h6 j hj
    exact ⟨u, (hb.cell (p := ⟨b, off + j, none⟩) h5).trans h7, h8.now hb, h9⟩
theorem Ls.taken {B : Nat} {w : World} {a : Option Addr} {len cap : Nat} {Xs : List (List Int)} (h : Ls B w (.slice a len cap) Xs) {n : Nat} (hn : n ≤ Xs.length) : Ls B w (.slice a n cap) (Xs.take n) := by
  obtain ⟨a', cap', he, h2, h2', h3⟩ := h
  simp only [Value.slice.injEq] at he
  obtain ⟨rfl, rfl, rfl⟩ := he
  have e : (Xs.take n).length = n := by simp; omega
  refine ⟨a, cap, by rw [e], by omega, by omega, ?_⟩
  rcases h3 with rfl | ⟨b, off, h4, h5, h6⟩
  · exact .inl (by simp)
  · refine .inr ⟨b, off, h4, h5, fun j hj => ?_⟩
    rw [e] at hj
    have := h6 j (by omega)
    simpa using this
theorem Ls.dropped {B : Nat} {w : World} {b off : Nat} {len cap : Nat} {Xs : List (List Int)} (h : Ls B w (.slice (some ⟨b, off, none⟩) len cap) Xs) {n : Nat} (hn : n ≤ Xs.length) : Ls B w (.slice (some ⟨b, off + n, none⟩) (len - n) (cap - n)) (Xs.drop n) := by
  obtain ⟨a', cap', he, h2, h2', h3⟩ := h
  simp only [Value.slice.injEq] at he
  obtain ⟨rfl, rfl, rfl⟩ := he
  have e : (Xs.drop n).length = Xs.length - n := by simp
  refine ⟨_, _, by rw [e], by omega, by omega, ?_⟩
  rcases h3 with rfl | ⟨b', off', h4, h5, h6⟩
  · exact .inl (by simp)
  · simp only [Option.some.injEq, Addr.mk.injEq, and_true] at h4
    obtain ⟨rfl, rfl⟩ := h4
    refine .inr ⟨b, off + n, rfl, h5, fun j hj => ?_⟩
    rw [e] at hj
    have := h6 (n + j) (by omega)
    rw [← Nat.add_assoc] at this
    simpa using this

/-- Product is right wherever there are fewer than N lists. -/
def ProdOk (N : Nat) : Prop := ∀ (w : World) (v : Value) (Xs : List (List Int)), Ls w.heap.size w v Xs → tot Xs ≤ 1099511627776 → Xs.length < N → Calls Try.prog 28 #[v] w (Makes w (prodv Xs))

theorem prod_none {w : World} {v : Value} (h : Ls w.heap.size w v []) : Calls Try.prog 28 #[v] w (Makes w (prodv [])) := by
  obtain ⟨a, cap, rfl, h2, _, _⟩ := h
  have hz : ((0 : Int) == 0) = true := rfl
  have hnew := hid (mine_row (B := w.heap.size) (zs := [1]) (k := 1) (Nat.le_refl _) (wf_word (by omega) WF.nil) rfl (by omega) (Row.new w [1]))
  have hbel := hid ((Below.refl w.heap.size w).alloc (Nat.le_refl _) (.cells #[.int .u64 1] 32))
  go_enter Try.func28, Try.ntmps28
  go_wp2
  go_ret
  exact ⟨[1], _, rfl, hnew.out, ⟨wf_word (by omega) WF.nil, rfl⟩, by simp [val, prodv], hbel.out⟩
theorem prod_one {w : World} {v : Value} {x : List Int} (h : Ls w.heap.size w v [x]) : Calls Try.prog 28 #[v] w (Makes w (prodv [x])) := by
  obtain ⟨a, cap, rfl, h2, _, e | ⟨b, off, rfl, h5, h6⟩⟩ := h
  · cases e
  obtain ⟨u, h7, h8, h9⟩ := h6 0 (by simp)
  have c0 : w.cell? ⟨b, off, none⟩ = some u := h7
  have hs : Sl w.heap.size w u x := h8
  have hz : ((1 : Int) == 0) = false := rfl
  have hz1 : ((1 : Int) == 1) = true := rfl
  have HL := hid (least_any hs)
  have hlx := hs.1
  have hll : x.length ≤ 35184372088832 := by obtain ⟨_, _, _, _, _, q, _⟩ := hs; exact q
  obtain ⟨ua, uc, rfl⟩ : ∃ ua uc, u = .slice ua x.length uc := by obtain ⟨_, a, ca, e, _⟩ := hs; exact ⟨a, ca, e⟩
  clear h6 h7 h8 h9 hs
  go_enter Try.func28, Try.ntmps28
  go_wp2_with fail
  refine HL.out.mono ?_
  rintro e w1 ⟨rfl, hr, hb, hsz⟩
  go_wp2
  go_ret
  have hw := wid_le x
  refine ⟨lst x, _, rfl, mine_row (Nat.le_refl _) (canon_lst hlx).1 (length_lst x) (by omega) hr, canon_lst hlx, by rw [val_lst]; simp [prodv], hb⟩

set_option maxHeartbeats 3200000 in
theorem prod_more {w : World} {v : Value} {Xs : List (List Int)} (h : Ls w.heap.size w v Xs) (ht : tot Xs ≤ 1099511627776) (hn : 2 ≤ Xs.length) (IH : ProdOk Xs.length) : Calls Try.prog 28 #[v] w (Makes w (prodv Xs)) := by
  have HL := hid h
  have hwf := hid h.wf
  obtain ⟨a, cap, rfl, h2, h2', e | ⟨b, off, rfl, h5, h6⟩⟩ := h
  · subst e; simp at hn
  obtain ⟨n, hnn⟩ : ∃ n, Xs.length = n := ⟨_, rfl⟩
  have HT := hid (HL.out.taken (n := Xs.length / 2) (by omega))
  have HD := hid (HL.out.dropped (n := Xs.length / 2) (by omega))
  have LT : Hid ((Xs.take (Xs.length / 2)).length = n / 2) := by unfold Hid; rw [List.length_take, hnn]; omega
  have LD : Hid ((Xs.drop (Xs.length / 2)).length = n - n / 2) := by unfold Hid; rw [List.length_drop, hnn]
  have PV := hid (prodv_halves Xs (Xs.length / 2))
  have TT := hid (tot_halves Xs (Xs.length / 2))
  have WT : Hid (∀ x ∈ Xs.take (Xs.length / 2), WF x) := fun x hx => hwf.out x (List.mem_of_mem_take hx)
  have WD : Hid (∀ x ∈ Xs.drop (Xs.length / 2), WF x) := fun x hx => hwf.out x (List.mem_of_mem_drop hx)
  generalize Xs.take (Xs.length / 2) = X1 at *
  generalize Xs.drop (Xs.length / 2) = X2 at *
  have HI : Hid (∀ w', Below w.heap.size w w' → Calls Try.prog 28 #[.slice (some ⟨b, off, none⟩) (Xs.length / 2) cap] w' (Makes w' (prodv X1))) := fun w' hb => IH w' _ _ (HT.out.now hb) (by have := TT.out; omega) (by rw [LT.out]; omega)
  have HJ : Hid (∀ w', Below w.heap.size w w' → Calls Try.prog 28 #[.slice (some ⟨b, off + Xs.length / 2, none⟩) (Xs.length - Xs.length / 2) (cap - Xs.length / 2)] w' (Makes w' (prodv X2))) := fun w' hb => IH w' _ _ (HD.out.now hb) (by have := TT.out; omega) (by rw [LD.out]; omega)
  have HM : Hid (∀ w1 r1 z1, Below w.heap.size w w1 → ∀ w2 r2 z2, Mine w.heap.size w1 r1 z1 → Canon z1 → val z1 = prodv X1 → Mine w1.heap.size w2 r2 z2 → Canon z2 → val z2 = prodv X2 → Below w1.heap.size w1 w2 → Calls Try.prog 14 #[r1, r2] w2 (Makes w (prodv Xs))) := fun w1 r1 z1 b1 w2 r2 z2 m1 c1 v1 m2 c2 v2 b2 => by
    have l1 := canon_len c1 (by rw [v1]; exact prodv_lt WT.out)
    have l2 := canon_len c2 (by rw [v2]; exact prodv_lt WD.out)
    refine (mul_any (m1.sl.now b2) m2.sl (by have := TT.out; omega)).mono fun e w' q => ?_
    rw [v1, v2, PV.out] at q
    exact q.step (below_step b1 b2)
  rw [hnn] at h2 h2' hn HI HJ ⊢
  have hz : ((n : Int) == 0) = false := by rw [beq_eq_false_iff_ne]; omega
  have hz1 : ((n : Int) == 1) = false := by rw [beq_eq_false_iff_ne]; omega
  have hh : (n : Int) / 2 = ((n / 2 : Nat) : Int) := by omega
  have hlt : n / 2 < n := by omega
  have hpos : 0 < n / 2 := by omega
  generalize n / 2 = mid at *
  clear h6 HL HT HD IH LT LD TT PV
  go_enter Try.func28, Try.ntmps28
  go_wp2
  go_region_with (first
    | (go_at_call_of 28 (Value.slice (some ⟨b, off, none⟩) mid cap); refine (HI.out _ ?_).mono ?_; exact (Below.refl _ _).drew; rintro e w1 ⟨z1, r1, rfl, m1, c1, v1, b1⟩)
    | (go_at_call_of 28 (Value.slice (some ⟨b, off + mid, none⟩) (n - mid) (cap - mid)); refine (HJ.out _ ?_).mono ?_; exact below_step ((Below.refl _ _).drew) b1; rintro e w2 ⟨z2, r2, rfl, m2, c2, v2, b2⟩)
    | (go_at_call 14; refine (HM.out w1 r1 z1 ?_ w2 r2 z2 m1 c1 v1 m2 c2 v2 b2).mono ?_; exact below_step ((Below.refl _ _).drew) b1; rintro e w3 ⟨zs, r, rfl, q1, q2, q3, q4⟩))
  all_goals (try go_wp2)
  all_goals go_ret
  all_goals exact ⟨zs, r, rfl, q1, q2, q3, q4⟩

theorem prod_ok : ∀ N, ProdOk N
  | 0 => fun w v Xs _ _ h => absurd h (Nat.not_lt_zero _)
  | N + 1 => fun w v Xs h ht hN => by
    match Xs, h, ht, hN with
    | [], h, _, _ => exact prod_none h
    | [x], h, _, _ => exact prod_one h
    | x :: y :: r, h, ht, hN => exact prod_more h ht (by simp) (fun w v Xs h1 h2 h3 => prod_ok N w v Xs h1 h2 (by omega))
theorem prod_any {w : World} {v : Value} {Xs : List (List Int)} (h : Ls w.heap.size w v Xs) (ht : tot Xs ≤ 1099511627776) : Calls Try.prog 28 #[v] w (Makes w (prodv Xs)) := prod_ok _ w v Xs h ht (Nat.lt_succ_self _)
theorem prod_now {w : World} {v : Value} {Xs : List (List Int)} (h : Ls w.heap.size w v Xs) (ht : tot Xs ≤ 1099511627776) : Calls Try.prog 28 #[v] w (Gives w (prodv Xs) (tot Xs + 1)) := (prod_any h ht).mono fun _ _ q => q.gives (prodv_lt h.wf)
end Go.Proofs.Ytnbjlpeclaieeaa
