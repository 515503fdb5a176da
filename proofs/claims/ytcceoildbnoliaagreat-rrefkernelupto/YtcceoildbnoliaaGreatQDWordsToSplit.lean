/-
  QDWordsToSplit: DWords, SlInts, Ref, RowsI, Split, joined.
-/
import Derived.Test.YtcceoildbnoliaaGreatQWordsToCarry
import Derived.Test.YtcceoildbnoliaaGreatQCmpToMul
import Derived.Test.YtcceoildbnoliaaGreatQMadeToByWord

/- DWords -/
namespace Go.Proofs.YtcceoildbnoliaaGreat

/-- 2^16. -/
def dwB : Int := 65536
/-- A word. -/
def IsD (x : Int) : Prop := 0 ≤ x ∧ x < dwB
/-- A list of words. -/
def DF (xs : List Int) : Prop := ∀ x ∈ xs, IsD x
/-- The number that a list of words is. -/
def dval : List Int → Int
  | [] => 0
  | x :: r => x + dwB * dval r
/-- How many words are left without zero words at the high end. -/
def dwid : List Int → Nat
  | [] => 0
  | x :: r => if dwid r = 0 then (if x = 0 then 0 else 1) else dwid r + 1
/-- The place value of word i. -/
def dpw : Nat → Int
  | 0 => 1
  | n + 1 => dwB * dpw n
/-- In least form. -/
def DCanon (xs : List Int) : Prop := DF xs ∧ dwid xs = xs.length
theorem DF.nil : DF [] := fun x h => by cases h
theorem DF.cons {x : Int} {r : List Int} (hx : IsD x) (hr : DF r) : DF (x :: r) := by
  intro y hy; rcases List.mem_cons.1 hy with rfl | h
  · exact hx
  · exact hr y h
theorem DF.head {x : Int} {r : List Int} (h : DF (x :: r)) : IsD x := h x (by simp)
theorem DF.tail {x : Int} {r : List Int} (h : DF (x :: r)) : DF r := fun y hy => h y (by simp [hy])
theorem DF.take {xs : List Int} (h : DF xs) (n : Nat) : DF (xs.take n) := fun x hx => h x (List.mem_of_mem_take hx)
theorem DF.append {xs ys : List Int} (h : DF xs) (k : DF ys) : DF (xs ++ ys) := by
  intro x hx; rcases List.mem_append.1 hx with q | q
  · exact h x q
  · exact k x q
theorem DF.get {xs : List Int} (h : DF xs) {i : Nat} (hi : i < xs.length) : IsD xs[i] := h _ (List.getElem_mem hi)
theorem dval_nonneg : ∀ {xs : List Int}, DF xs → 0 ≤ dval xs
  | [], _ => by simp [dval]
  | x :: r, h => by
    have h1 := h.head; have h2 := dval_nonneg h.tail
    unfold IsD dwB at h1; unfold dval dwB; omega
theorem dwid_le : ∀ xs : List Int, dwid xs ≤ xs.length
  | [] => by simp [dwid]
  | x :: r => by
    have := dwid_le r
    unfold dwid; split
    · split <;> simp
    · simp; omega
theorem dwid_zero_val : ∀ xs : List Int, dwid xs = 0 → dval xs = 0
  | [], _ => rfl
  | x :: r, h => by
    unfold dwid at h
    split at h
    · rename_i h0
      have := dwid_zero_val r h0
      split at h
      · rename_i hx; simp [dval, hx, this]
      · cases h
    · cases h
/-- What is left of a list without zero words at the high end. -/
def dlst (xs : List Int) : List Int := xs.take (dwid xs)
theorem dlength_lst (xs : List Int) : (dlst xs).length = dwid xs := by unfold dlst; have := dwid_le xs; simp; omega
theorem dlst_cons (x : Int) (r : List Int) : dlst (x :: r) = if dwid r = 0 then (if x = 0 then [] else [x]) else x :: dlst r := by
  have e : dwid (x :: r) = if dwid r = 0 then (if x = 0 then 0 else 1) else dwid r + 1 := by rw [dwid]
  unfold dlst
  rw [e]
  split
  · split <;> simp
  · simp
theorem dval_lst : ∀ xs : List Int, dval (dlst xs) = dval xs
  | [] => rfl
  | x :: r => by
    rw [dlst_cons]
    split
    · rename_i h0
      have := dwid_zero_val r h0
      split
      · rename_i hx; simp [dval, hx, this]
      · simp [dval, this]
    · simp [dval, dval_lst r]
theorem dwid_lst : ∀ xs : List Int, dwid (dlst xs) = dwid xs
  | [] => rfl
  | x :: r => by
    rw [dlst_cons, dwid]
    split
    · split
      · rfl
      · rename_i hx; simp [dwid, hx]
    · rename_i h0
      rw [dwid, dwid_lst r, if_neg h0]
theorem dcanon_lst {xs : List Int} (h : DF xs) : DCanon (dlst xs) := ⟨h.take _, by rw [dwid_lst, dlength_lst]⟩
/-- The width is found from the top: zeros above n, and the word below n not 0. -/
theorem dwid_is : ∀ {xs : List Int} {n : Nat}, n ≤ xs.length → (∀ j (h : j < xs.length), n ≤ j → xs[j] = 0) → (0 < n → ∀ h' : n - 1 < xs.length, xs[n - 1] ≠ 0) → dwid xs = n
  | [], n, hn, _, _ => by simp at hn; simp [dwid, hn]
  | x :: r, 0, _, hz, _ => by
    have h0 : dwid r = 0 := dwid_is (Nat.zero_le _) (fun j h _ => by have := hz (j + 1) (by simpa using h) (by omega); simpa using this) (fun h => by omega)
    have hx : x = 0 := hz 0 (by simp) (by omega)
    simp [dwid, h0, hx]
  | x :: r, 1, _, hz, ht => by
    have h0 : dwid r = 0 := dwid_is (Nat.zero_le _) (fun j h _ => by have := hz (j + 1) (by simpa using h) (by omega); simpa using this) (fun h => by omega)
    have hx : x ≠ 0 := by simpa using ht (by omega) (by simp)
    simp [dwid, h0, hx]
  | x :: r, n + 2, hn, hz, ht => by
    have h0 : dwid r = n + 1 := by
      refine dwid_is (by simpa using hn) (fun j h hj => ?_) (fun _ h' => ?_)
      · have := hz (j + 1) (by simpa using h) (by omega); simpa using this
      · have := ht (by omega) (by simpa using h'); simpa using this
    simp [dwid, h0]

theorem dpw_pos : ∀ n, 0 < dpw n
  | 0 => by simp [dpw]
  | n + 1 => by have := dpw_pos n; unfold dpw dwB; omega
theorem dval_append : ∀ (xs ys : List Int), dval (xs ++ ys) = dval xs + dpw xs.length * dval ys
  | [], ys => by simp [dval, dpw]
  | x :: r, ys => by
    simp only [List.cons_append, List.length_cons, dval, dpw, dval_append r ys]
    rw [Int.mul_add, Int.mul_assoc]; omega
theorem dlst_get {xs : List Int} {j : Nat} (h : j < dwid xs) : (dlst xs)[j]'(by rw [dlength_lst]; exact h) = xs[j]'(by have := dwid_le xs; omega) := by simp [dlst]
theorem dwid_top : ∀ {xs : List Int} {n : Nat}, dwid xs = n + 1 → ∃ h : n < xs.length, xs[n] ≠ 0
  | [], n, h => by simp [dwid] at h
  | x :: r, n, h => by
    unfold dwid at h
    split at h
    · split at h
      · cases h
      · have : n = 0 := by omega
        subst this
        exact ⟨by simp, by simpa⟩
    · rename_i hr
      obtain ⟨m, hm⟩ : ∃ m, dwid r = m + 1 := ⟨dwid r - 1, by omega⟩
      obtain ⟨h1, h2⟩ := dwid_top hm
      have : n = m + 1 := by omega
      subst this
      exact ⟨by simpa using h1, by simpa using h2⟩
end Go.Proofs.YtcceoildbnoliaaGreat

/- SlInts -/
namespace Go.Proofs.YtcceoildbnoliaaGreat
open Go.RowKit

/-- A slice of numbers. -/
def SlI (B : Nat) (w : World) (v : Value) (ps : List Int) : Prop :=
  (∀ p ∈ ps, -9223372036854775808 ≤ p ∧ p ≤ 9223372036854775807) ∧ ∃ a cap, v = .slice a ps.length cap ∧ ps.length ≤ cap ∧ cap ≤ 35184372088832 ∧
    (ps = [] ∨ ∃ b off, a = some ⟨b, off, none⟩ ∧ b < B ∧ ∀ j (h : j < ps.length), w.cell? ⟨b, off + j, none⟩ = some (.int .i64 ps[j]))
end Go.Proofs.YtcceoildbnoliaaGreat

/- Ref -/
namespace Go.Proofs.YtcceoildbnoliaaGreat
open Go.RowKit

set_option maxHeartbeats 400000 in
theorem trim_any {B : Nat} {w : World} {v : Value} {xs : List Int} (h : SlI B w v xs) :
    Calls Tryz.prog 179 #[v] w fun e w' => ∃ r, e = .returned r ∧ SlI B w r (dlst xs) ∧ w' = w := by
  have hs := h
  obtain ⟨hw, a, cap, rfl, hlc, hcm, hm⟩ := h
  have HW : Hid (∀ n : Nat, n ≤ xs.length → (∀ j (h : j < xs.length), n ≤ j → xs[j] = 0) → (0 < n → ∀ h' : n - 1 < xs.length, xs[n - 1] ≠ 0) → dwid xs = n) := fun n h1 h2 h3 => dwid_is h1 h2 h3
  have HF : Hid (∀ n, dwid xs = n → SlI B w (.slice a n cap) (dlst xs)) := fun n hn => by
    subst hn
    have l := dwid_le xs
    refine ⟨fun p hp => hw p (List.mem_of_mem_take hp), a, cap, by rw [dlength_lst], by rw [dlength_lst]; omega, hcm, ?_⟩
    rcases hm with rfl | ⟨b, off, h1, h2, h3⟩
    · exact .inl rfl
    · refine .inr ⟨b, off, h1, h2, fun j hj => ?_⟩
      rw [dlength_lst] at hj
      rw [h3 j (by omega), dlst_get hj]
  have HM := hid hm
  clear hs
  go_enter Tryz.func179, Tryz.ntmps179
  go_wp2
  go_loop [3] (fun i => ∃ n : Nat, n ≤ xs.length ∧ i = .int .i64 n ∧ ∀ j (h : j < xs.length), n ≤ j → xs[j] = 0) (fun i => (intOf i).toNat)
  case atStart => exact ⟨xs.length, Nat.le_refl _, rfl, fun j h h' => by omega⟩
  case round =>
    obtain ⟨n, hn, rfl, hz⟩ := hrel
    have HZ := hid hz
    clear hz hm
    by_cases h0 : n = 0
    · subst h0
      go_wp2
      go_ret
      exact ⟨_, rfl, HF.out 0 (HW.out 0 (by omega) HZ.out (by omega)), rfl⟩
    · obtain ⟨k, rfl⟩ : ∃ k, n = k + 1 := ⟨n - 1, by omega⟩
      rcases HM.out with rfl | ⟨b, off, rfl, hb, hc⟩
      · simp at hn
      · have hk : k < xs.length := by omega
        have hck := hc k hk
        obtain ⟨x, hx⟩ : ∃ x, x = xs[k] := ⟨_, rfl⟩
        rw [← hx] at hck
        have HX : Hid (x = xs[k]) := hx
        clear hx hc h0
        by_cases hx0 : x = 0
        · have ht : (x == 0) = true := by simp [hx0]
          go_wp2
          go_round
          case rel =>
            refine ⟨k, by omega, rfl, fun j h hj => ?_⟩
            by_cases e : j = k
            · subst e; rw [← HX.out]; exact hx0
            · exact HZ.out j h (by omega)
          case measure => simp [intOf]
        · have ht : (x == 0) = false := by simp [hx0]
          go_wp2
          go_ret
          exact ⟨_, rfl, HF.out (k + 1) (HW.out (k + 1) hn HZ.out (fun _ h' => by have := HX.out; simp at h' ⊢; rw [← this]; exact hx0)), rfl⟩

end Go.Proofs.YtcceoildbnoliaaGreat

/- RowsI -/
namespace Go.Proofs.YtcceoildbnoliaaGreat
open Go.RowKit

/-- Block g holds the cells L, none of them frozen. -/
def RowI (w : World) (g : Nat) (L : List Value) : Prop := w.heap[g]? = some (.cells L.toArray 3 (0, 0))
theorem RowI.lt {w : World} {g : Nat} {L : List Value} (h : RowI w g L) : g < w.heap.size := (Array.getElem?_eq_some_iff.1 h).1
theorem RowI.cell {w : World} {g : Nat} {L : List Value} (h : RowI w g L) {i : Nat} (hi : i < L.length) : w.cell? ⟨g, i, none⟩ = some L[i] := by
  unfold RowI at h
  simp [World.cell?, h, hi]
theorem RowI.alloc {w : World} {g : Nat} {L : List Value} (h : RowI w g L) (o : Obj) : RowI (w.alloc o) g L := (Below.heap_alloc w o g h.lt).trans h
/-- The ints as cells. -/
def wi (xs : List Int) : List Value := xs.map (Value.int .i64)
theorem length_wi (xs : List Int) : (wi xs).length = xs.length := by simp [wi]
theorem RowI.num {w : World} {g : Nat} {xs : List Int} {r : List Value} (h : RowI w g (wi xs ++ r)) {i : Nat} (hi : i < xs.length) : w.cell? ⟨g, i, none⟩ = some (.int .i64 xs[i]) := by
  rw [h.cell (i := i) (by simp [length_wi]; omega)]
  simp [wi, hi]
theorem Tryz.infoI : (Tryz.prog.info? 3).map (fun i => (i.zero, i.size, i.bytes)) = some (some (.int .i64 0), 1, 8) := by kernel_rfl

theorem madeCells_ints (m : Nat) : madeCells (Value.int .i64 0).cells m = (wi (List.replicate m 0)).toArray := by
  apply Array.ext
  · simp [size_madeCells, wi]
  · intro i h1 h2
    simp [madeCells, wi, Value.cells, Nat.mod_one]

theorem wpList_make_ints (w : World) {ops : Array Oper} {rest : List Oper} {o : Oper} {a : Act} {Q : Exit → Act → World → Prop}
    (hg : o.guard = none) (l c : Operand) (hop : o.op = Op.makeSlice 26 l c)
    (L C : Int) (n m : Nat) (hl : a.eval l = .int .i64 L) (hc : a.eval c = .int .i64 C) (hL : L = (n : Int)) (hC : C = (m : Int)) (hnm : n ≤ m) (hm : m ≤ 35184372088832)
    (hK : ∀ w', RowI w' w.heap.size (wi (List.replicate m 0)) → Below w.heap.size w w' → Hid (w'.heap.size = w.heap.size + 1) → wpList Tryz.prog ops Q rest (a.put o.dst (.slice (some ⟨w.heap.size, 0, none⟩) n m)) w') :
    wpList Tryz.prog ops Q (o :: rest) a w := by
  refine wpList_plain hg fun K hK' => ?_
  obtain ⟨i, hi, hz, hs, hb⟩ := info_parts Tryz.infoI
  have hrun := run_make (P := Tryz.prog) w 26 3 i (.int .i64 0) Tryz.underlying26 hi hz .i64 .i64 n m (by omega) (by omega) (by rw [hb]; omega) (by omega)
  subst hL
  subst hC
  rw [hs, Nat.mul_one, Int.toNat_natCast, Int.toNat_natCast, madeCells_ints] at hrun
  unfold Oper.wp
  simp [execOp, hop, hl, hc, hrun, Result.andThen]
  refine hK' _ _ (hK _ ?_ ((Below.refl _ _).alloc (Nat.le_refl _) _) ?_)
  · unfold RowI; exact heap_alloc_new w _
  · unfold Hid; simp


/-- A row's head as a slice of ints. -/
theorem RowI.sl {w : World} {g : Nat} {xs : List Int} {r : List Value} (h : RowI w g (wi xs ++ r)) (hw : ∀ p ∈ xs, -9223372036854775808 ≤ p ∧ p ≤ 9223372036854775807) {cap : Nat} (hc : xs.length ≤ cap) (hm : cap ≤ 35184372088832) {B : Nat} (hB : g < B) :
    SlI B w (.slice (some ⟨g, 0, none⟩) xs.length cap) xs :=
  ⟨hw, _, cap, rfl, hc, hm, .inr ⟨g, 0, rfl, hB, fun j hj => by rw [Nat.zero_add]; exact h.num hj⟩⟩

theorem wpList_append_intN (w : World) {ops : Array Oper} {rest : List Oper} {o : Oper} {a : Act} {Q : Exit → Act → World → Prop}
    (hg : o.guard = none) (s x : Operand) (hop : o.op = Op.call { callee := Callee.builtin Builtin.append, args := #[s, x], argTypes := #[26, 26] })
    (g n cap : Nat) (zs : List Int) (r : List Value) (c : Int) (hrow : RowI w g (wi zs ++ r)) (hn : zs.length = n) (hr : 0 < r.length) (hcap : cap = n + r.length) (hs : a.eval s = .slice (some ⟨g, 0, none⟩) n cap)
    (ad : Addr) (hx : a.eval x = .slice (some ad) 1 1) (hc : w.cell? ad = some (.int .i64 c))
    (hK : ∀ w', RowI w' g (wi (zs ++ [c]) ++ r.tail) → Below g w w' → wpList Tryz.prog ops Q rest (a.put o.dst (.slice (some ⟨g, 0, none⟩) (n + 1) cap)) w') :
    wpList Tryz.prog ops Q (o :: rest) a w := by
  obtain ⟨i, hi, hz, hsz, hb⟩ := info_parts Tryz.infoI
  subst hn
  have hlw : (wi zs).length = zs.length := by simp [wi]
  have hrun := run_append_room (P := Tryz.prog) w 26 o.type 3 i Tryz.underlying26 hi g zs.length cap (wi zs ++ r).toArray hrow ad 1 1 [.int .i64 c] (by simp [hsz])
    (by intro j u hj; match j, hj with | 0, hj => simp at hj; subst hj; simpa [Addr.add] using hc) (by intro u hu; simp at hu; subst hu; rfl) (by omega) (by simp [hsz, hlw]; omega)
  have e : (wi zs ++ r).take (zs.length * i.size) ++ [Value.int .i64 c] ++ (wi zs ++ r).drop (zs.length * i.size + 1) = wi (zs ++ [c]) ++ r.tail := by
    rw [hsz, Nat.mul_one, List.take_append_of_le_length (by omega), List.take_of_length_le (by omega), List.drop_append, List.drop_of_length_le (by omega), hlw, show zs.length + 1 - zs.length = 1 by omega]
    simp [wi]
  rw [List.toList_toArray, show [Value.int .i64 c].length = 1 from rfl, e] at hrun
  refine wpList_plain hg fun K hK' => ?_
  unfold Oper.wp
  simp [execOp, hop, resolve, invoke, builtin, hs, hx, hrun, Result.andThen]
  refine hK' _ _ (hK _ ?_ (below_setRow (Below.refl _ _) (Nat.le_refl _) _))
  unfold RowI
  exact setRow_heap w g _ _ _ _ hrow

theorem wpList_append_more (w : World) {ops : Array Oper} {rest : List Oper} {o : Oper} {a : Act} {Q : Exit → Act → World → Prop}
    (hg : o.guard = none) (s x : Operand) (hop : o.op = Op.call { callee := Callee.builtin Builtin.append, args := #[s, x], argTypes := #[43, 43] })
    (g n cap : Nat) (zs : List Int) (r : List Value) (c : Int) (hrow : Row w g (ws zs ++ r)) (hn : zs.length = n) (hr : 0 < r.length) (hcap : cap = n + r.length) (hs : a.eval s = .slice (some ⟨g, 0, none⟩) n cap)
    (ad : Addr) (hx : a.eval x = .slice (some ad) 1 1) (hc : w.cell? ad = some (.int .u64 c))
    (hK : ∀ w', Row w' g (ws (zs ++ [c]) ++ r.tail) → Below g w w' → wpList Tryz.prog ops Q rest (a.put o.dst (.slice (some ⟨g, 0, none⟩) (n + 1) cap)) w') :
    wpList Tryz.prog ops Q (o :: rest) a w := by
  obtain ⟨i, hi, hz, hsz, hb⟩ := info_parts Tryz.infoW
  subst hn
  have hlw : (ws zs).length = zs.length := by simp [ws]
  have hrun := run_append_room (P := Tryz.prog) w 43 o.type 125 i Tryz.underlying43 hi g zs.length cap (ws zs ++ r).toArray hrow ad 1 1 [.int .u64 c] (by simp [hsz])
    (by intro j u hj; match j, hj with | 0, hj => simp at hj; subst hj; simpa [Addr.add] using hc) (by intro u hu; simp at hu; subst hu; rfl) (by omega) (by simp [hsz, hlw]; omega)
  have e : (ws zs ++ r).take (zs.length * i.size) ++ [Value.int .u64 c] ++ (ws zs ++ r).drop (zs.length * i.size + 1) = ws (zs ++ [c]) ++ r.tail := by
    rw [hsz, Nat.mul_one, List.take_append_of_le_length (by omega), List.take_of_length_le (by omega), List.drop_append, List.drop_of_length_le (by omega), hlw, show zs.length + 1 - zs.length = 1 by omega]
    simp [ws]
  rw [List.toList_toArray, show [Value.int .u64 c].length = 1 from rfl, e] at hrun
  refine wpList_plain hg fun K hK' => ?_
  unfold Oper.wp
  simp [execOp, hop, resolve, invoke, builtin, hs, hx, hrun, Result.andThen]
  refine hK' _ _ (hK _ ?_ (below_setRow (Below.refl _ _) (Nat.le_refl _) _))
  unfold Row
  exact setRow_heap w g _ _ _ _ hrow
end Go.Proofs.YtcceoildbnoliaaGreat

/- Split -/
namespace Go.Proofs.YtcceoildbnoliaaGreat
open Go.RowKit

theorem dpw_four : ∀ k, dpw (4 * k) = pw k
  | 0 => rfl
  | k + 1 => by
    rw [show 4 * (k + 1) = 4 * k + 1 + 1 + 1 + 1 by omega, dpw, dpw, dpw, dpw, dpw_four k, pw]
    unfold dwB wB; omega

theorem split_step {zs : List Int} {n : Nat} {y T : Int} (hn : zs.length = n) (hd : DF zs) (hv : dval zs + dpw n * y = T) : DF (zs ++ [y % 65536]) ∧ dval (zs ++ [y % 65536]) + dpw (n + 1) * (y / 65536) = T := by
  refine ⟨hd.append (DF.cons (by unfold IsD dwB; omega) DF.nil), ?_⟩
  rw [dval_append, hn, dpw, ← hv]
  have h := Int.mul_ediv_add_emod y 65536
  have e : dpw n * y = dpw n * (y % 65536) + dwB * dpw n * (y / 65536) := by
    conv => lhs; rw [← h]
    rw [Int.mul_add, Int.mul_comm dwB, Int.mul_assoc, Int.add_comm]; rfl
  simp [dval]
  omega
theorem split_bound {y : Int} {j : Nat} (h : y * 65536 ^ j ≤ 18446744073709551615) : y / 65536 * 65536 ^ (j + 1) ≤ 18446744073709551615 := by
  have h1 : y / 65536 * 65536 ≤ y := Int.ediv_mul_le y (by omega)
  have h2 : (0 : Int) ≤ 65536 ^ j := Int.pow_nonneg (by omega)
  have h3 := Int.mul_le_mul_of_nonneg_right h1 h2
  rw [Int.pow_succ, Int.mul_comm (65536 ^ j), ← Int.mul_assoc]
  omega

set_option maxHeartbeats 1600000 in
theorem split_any {w : World} {v : Value} {xs : List Int} (h : Sl w.heap.size w v xs) (hlen : xs.length ≤ 8796093022208) :
    Calls Tryz.prog 167 #[v] w fun e w' => ∃ ds r, e = .returned r ∧ SlI w'.heap.size w' r ds ∧ DCanon ds ∧ dval ds = val xs ∧ ds.length ≤ 4 * xs.length ∧ Below w.heap.size w w' := by
  obtain ⟨hw, a, cap, rfl, hlc, hcm, hm⟩ := h
  have HW := hid hw
  have HM := hid hm
  clear hm hw
  go_enter Tryz.func167, Tryz.ntmps167
  go_wp2_with (at_make; refine wpList_make_ints _ rfl _ _ rfl _ _ 0 (4 * xs.length) rfl rfl rfl (by omega) (by omega) (by omega) ?_)
  intro w2 hrow hb2 hsz2
  have hhs : w.heap.size < w2.heap.size := by have := hsz2.out; omega
  clear hsz2
  go_wp2_with fail
  go_loopw [3, 4] (fun d i wr => ∃ (k : Nat) (zs : List Int) (r : List Value), k ≤ xs.length ∧ i = .int .i64 k ∧ d = .slice (some ⟨w.heap.size, 0, none⟩) (4 * k) (4 * xs.length) ∧ Hid (zs.length = 4 * k) ∧ Hid (r.length + 4 * k = 4 * xs.length) ∧ Hid (DF zs) ∧ Hid (dval zs = val (xs.take k)) ∧
      RowI wr w.heap.size (wi zs ++ r) ∧ Below w.heap.size w wr ∧ w.heap.size < wr.heap.size) (fun _ i _ => xs.length - (intOf i).toNat)
  case atStart => exact ⟨0, [], wi (List.replicate (4 * xs.length) 0), Nat.zero_le _, rfl, rfl, rfl, (by unfold Hid; simp [length_wi]), DF.nil, rfl, (by simpa [wi] using hrow), hb2, hhs⟩
  case round =>
    clear hrow hb2 hhs
    obtain ⟨k, zs, r, hk, rfl, rfl, HL, HR, HD, HV, hr, hb, hhs⟩ := hrel
    by_cases hlt : k < xs.length
    · rcases HM.out with e | ⟨b, off, rfl, hbg, hc⟩
      · subst e; simp at hlt
      have c1 : wr.cell? ⟨b, off + k, none⟩ = some (.int .u64 xs[k]) := (hb.cell (p := ⟨b, off + k, none⟩) hbg).trans (hc k hlt)
      have hx := HW.out.get hlt
      have HTK := hid (val_take_succ xs k hlt)
      clear hc
      generalize xs[k] = x at *
      unfold IsW wB at hx
      obtain ⟨hx0, hx1⟩ := hx
      have HV1 : Hid (dval zs + dpw (4 * k + 0) * x = val (xs.take k) + x * pw k) := by
        unfold Hid; rw [HV.out, Nat.add_zero, dpw_four, Int.mul_comm]
      have HB1 : Hid (x * 65536 ^ 0 ≤ 18446744073709551615) := by unfold Hid; simp; omega
      go_wp2_with fail
      go_loopw [3, 5, 6] (fun d y i wr => ∃ (j : Nat) (zs : List Int) (r : List Value) (yy : Int), j ≤ 4 ∧ i = .int .i64 j ∧ y = .int .u64 yy ∧ 0 ≤ yy ∧ yy ≤ 18446744073709551615 ∧ d = .slice (some ⟨w.heap.size, 0, none⟩) (4 * k + j) (4 * xs.length) ∧ Hid (zs.length = 4 * k + j) ∧ Hid (r.length + 4 * k + j = 4 * xs.length) ∧ Hid (DF zs) ∧
          Hid (yy * 65536 ^ j ≤ 18446744073709551615) ∧ Hid (dval zs + dpw (4 * k + j) * yy = val (xs.take k) + x * pw k) ∧ RowI wr w.heap.size (wi zs ++ r) ∧ Below w.heap.size w wr ∧ w.heap.size < wr.heap.size) (fun _ _ i _ => 4 - (intOf i).toNat)
      case atStart => exact ⟨0, zs, r, x, by omega, rfl, rfl, hx0, by omega, rfl, HL, HR, HD, HB1, HV1, hr, hb, hhs⟩
      case round =>
        clear HL HR HD HB1 HV1 hr hb hhs HV
        obtain ⟨j, zs, r, yy, hj, rfl, rfl, hy0, hy1, rfl, HL, HR, HD, HB, HV, hr, hb, hhs⟩ := hrel
        by_cases hj4 : j < 4
        · have hrp : 0 < r.length := by have := HR.out; omega
          have hst := hid (split_step HL.out HD.out HV.out)
          have hbd := hid (split_bound HB.out)
          go_wp2_with (at_builtin; refine wpList_append_intN _ rfl (.tmp 25) (.tmp 29) rfl w.heap.size (4 * k + j) (4 * xs.length) zs r (yy % 65536) (hr.alloc _) HL.out hrp (by have := HR.out; omega) rfl ⟨wr.heap.size, 0, none⟩ rfl (by simp) ?_)
          intro w5 hr5 hb5
          have hb15 := hid ((hb.alloc (Nat.le_of_lt hhs) _).trans hb5)
          have hhs5 : w.heap.size < w5.heap.size := by have := hb5.size; simp at this; omega
          have HL5 : Hid ((zs ++ [yy % 65536]).length = 4 * k + (j + 1)) := by unfold Hid; simp; have := HL.out; omega
          have HR5 : Hid (r.tail.length + 4 * k + (j + 1) = 4 * xs.length) := by unfold Hid; simp; have := HR.out; omega
          clear hb5 hr hb HL HR HD HB HV
          go_wp2
          go_roundw
          case rel => exact ⟨j + 1, _, r.tail, yy / 65536, by omega, by go_num, rfl, by omega, by omega, rfl, HL5, HR5, hst.out.1, hbd, hst.out.2, hr5, hb15.out, hhs5⟩
          case measure => simp [intOf]; omega
        · obtain rfl : j = 4 := by omega
          have hy : yy = 0 := by
            have := HB.out
            rw [show (65536 : Int) ^ 4 = 18446744073709551616 from by decide] at this
            omega
          have HV5 : Hid (dval zs = val (xs.take (k + 1))) := by
            unfold Hid
            have := HV.out
            rw [hy] at this
            rw [HTK.out]; simpa using this
          clear hy HB HV
          go_wp2
          go_roundw
          case rel => exact ⟨k + 1, zs, r, by omega, by go_num, rfl, HL, (by unfold Hid; have := HR.out; omega), HD, HV5, hr, hb, hhs⟩
          case measure => simp [intOf]; omega
    · obtain rfl : k = xs.length := by omega
      have hsz := RowI.sl hr (fun p hp => by have := HD.out p hp; unfold IsD dwB at this; omega) (cap := 4 * xs.length) (by rw [HL.out]; exact Nat.le_refl _) (by omega) hhs
      rw [HL.out] at hsz
      have HT := hid (trim_any hsz)
      clear hsz hr
      go_wp2_with fail
      refine HT.out.mono ?_
      rintro e w4 ⟨rv, rfl, hs4, rfl⟩
      go_wp2
      go_ret
      refine ⟨dlst zs, rv, rfl, hs4, dcanon_lst HD.out, ?_, ?_, hb⟩
      · rw [dval_lst, HV.out, List.take_length]
      · rw [dlength_lst]; have := dwid_le zs; have := HL.out; omega
end Go.Proofs.YtcceoildbnoliaaGreat
