/-
  QSlIntsToRowsI: SlInts, Ref, RowsI, joined.
-/
import Derived.Test.YtonmlmdnjjafhaaGreatQWordsToBase
import Derived.Test.YtonmlmdnjjafhaaGreatQLs12ToDWords
import Derived.Test.YtonmlmdnjjafhaaGreatQSubToZed
import Derived.Test.YtonmlmdnjjafhaaGreatQBitsToByWord
import Derived.Test.YtonmlmdnjjafhaaGreatQProdToMade

/- SlInts -/
namespace Go.Proofs.YtonmlmdnjjafhaaGreat
open Go.RowKit

/-- A slice of numbers. -/
def SlI (B : Nat) (w : World) (v : Value) (ps : List Int) : Prop :=
  (∀ p ∈ ps, -9223372036854775808 ≤ p ∧ p ≤ 9223372036854775807) ∧ ∃ a cap, v = .slice a ps.length cap ∧ ps.length ≤ cap ∧ cap ≤ 35184372088832 ∧
    (ps = [] ∨ ∃ b off, a = some ⟨b, off, none⟩ ∧ b < B ∧ ∀ j (h : j < ps.length), w.cell? ⟨b, off + j, none⟩ = some (.int .i64 ps[j]))
theorem SlI.now {w w' : World} {v : Value} {xs : List Int} (h : SlI w.heap.size w v xs) (hb : Below w.heap.size w w') : SlI w'.heap.size w' v xs := by
  obtain ⟨h1, a, cap, h2, h3, h4, h5⟩ := h
  refine ⟨h1, a, cap, h2, h3, h4, ?_⟩
  rcases h5 with h5 | ⟨b, off, h6, h7, h8⟩
  · exact .inl h5
  · exact .inr ⟨b, off, h6, Nat.lt_of_lt_of_le h7 hb.size, fun j hj => (hb.cell (p := ⟨b, off + j, none⟩) h7).trans (h8 j hj)⟩
end Go.Proofs.YtonmlmdnjjafhaaGreat

/- Ref -/
namespace Go.Proofs.YtonmlmdnjjafhaaGreat
open Go.RowKit

theorem SlI.below {B : Nat} {w w' : World} {v : Value} {xs : List Int} (h : SlI B w v xs) (hb : Below B w w') : SlI B w' v xs := by
  obtain ⟨h1, a, cap, h2, h3, h4, h5⟩ := h
  refine ⟨h1, a, cap, h2, h3, h4, ?_⟩
  rcases h5 with h5 | ⟨b, off, h6, h7, h8⟩
  · exact .inl h5
  · exact .inr ⟨b, off, h6, h7, fun j hj => (hb.cell (p := ⟨b, off + j, none⟩) h7).trans (h8 j hj)⟩

set_option maxHeartbeats 400000 in
theorem trim_any {B : Nat} {w : World} {v : Value} {xs : List Int} (h : SlI B w v xs) :
    Calls Tryz.prog 100 #[v] w fun e w' => ∃ r, e = .returned r ∧ SlI B w r (dlst xs) ∧ w' = w := by
  have hs := h
  obtain ⟨hw, a, cap, rfl, hlc, hcm, hm⟩ := h
  have HW : Hid (∀ n : Nat, n ≤ xs.length → (∀ j (h : j < xs.length), n ≤ j → xs[j] = 0) → (0 < n → ∀ h' : n - 1 < xs.length, xs[n - 1] ≠ 0) → dwid xs = n) := fun n h1 h2 h3 => dwid_is h1 h2 h3
  have HF : Hid (∀ n, dwid xs = n → SlI B w (.slice a n cap) (dlst xs)) := fun n hn => by
    subst hn
    have l := dwid_le xs
    refine ⟨fun p hp => hw p (List.mem_of_mem_take hp), a, cap, by rw [dlength_lst], by rw [dlength_lst]; omega, hcm, ?_⟩
    rcases hm with rfl | ⟨b, off, h1, h2, h3⟩
    · exact .inl rfl
    · refine .inr ⟨b, off, h1, h2, fun j hj => ?_⟩
      rw [dlength_lst] at hj
      rw [h3 j (by omega), dlst_get hj]
  have HM := hid hm
  clear hs
  go_enter Tryz.func100, Tryz.ntmps100
  go_wp2
  go_loop [3] (fun i => ∃ n : Nat, n ≤ xs.length ∧ i = .int .i64 n ∧ ∀ j (h : j < xs.length), n ≤ j → xs[j] = 0) (fun i => (intOf i).toNat)
  case atStart => exact ⟨xs.length, Nat.le_refl _, rfl, fun j h h' => by omega⟩
  case round =>
    obtain ⟨n, hn, rfl, hz⟩ := hrel
    have HZ := hid hz
    clear hz hm
    by_cases h0 : n = 0
    · subst h0
      go_wp2
      go_ret
      exact ⟨_, rfl, HF.out 0 (HW.out 0 (by omega) HZ.out (by omega)), rfl⟩
    · obtain ⟨k, rfl⟩ : ∃ k, n = k + 1 := ⟨n - 1, by omega⟩
      rcases HM.out with rfl | ⟨b, off, rfl, hb, hc⟩
      · simp at hn
      · have hk : k < xs.length := by omega
        have hck := hc k hk
        obtain ⟨x, hx⟩ : ∃ x, x = xs[k] := ⟨_, rfl⟩
        rw [← hx] at hck
        have HX : Hid (x = xs[k]) := hx
        clear hx hc h0
        by_cases hx0 : x = 0
        · have ht : (x == 0) = true := by simp [hx0]
          go_wp2
          go_round
          case rel =>
            refine ⟨k, by omega, rfl, fun j h hj => ?_⟩
            by_cases e : j = k
            · subst e; rw [← HX.out]; exact hx0
            · exact HZ.out j h (by omega)
          case measure => simp [intOf]
        · have ht : (x == 0) = false := by simp [hx0]
          go_wp2
          go_ret
          exact ⟨_, rfl, HF.out (k + 1) (HW.out (k + 1) hn HZ.out (fun _ h' => by have := HX.out; simp at h' ⊢; rw [← this]; exact hx0)), rfl⟩

theorem at_any {B : Nat} {w : World} {v : Value} {xs : List Int} (h : SlI B w v xs) (k : Nat) :
    Calls Tryz.prog 84 #[v, .int .i64 (k : Int)] w fun e w' => e = .returned (.int .i64 (xs.getD k 0)) ∧ w' = w := by
  obtain ⟨hw, a, cap, rfl, hlc, hcm, hm⟩ := h
  by_cases hk : k < xs.length
  · rcases hm with rfl | ⟨b, off, rfl, hb, hc⟩
    · simp at hk
    have c1 := hc k hk
    have e : xs.getD k 0 = xs[k] := by simp [hk]
    rw [e]
    generalize xs[k] = x at *
    clear hc e
    go_enter Tryz.func84, Tryz.ntmps84
    go_wp2
    go_ret
    exact ⟨rfl, rfl⟩
  · have e : xs.getD k 0 = 0 := by simp [show xs.length ≤ k by omega]
    rw [e]
    clear hm e
    go_enter Tryz.func84, Tryz.ntmps84
    go_wp2
    go_ret
    exact ⟨rfl, rfl⟩

theorem drew_ex {w wr : World} (h : ∃ q, wr = w.drewN q) (n : Nat) : ∃ q, wr.drewN n = w.drewN q := by obtain ⟨q, rfl⟩ := h; exact ⟨q + n, by rw [World.drewN_drewN]⟩

end Go.Proofs.YtonmlmdnjjafhaaGreat

/- RowsI -/
namespace Go.Proofs.YtonmlmdnjjafhaaGreat
open Go.RowKit

/-- Block g holds the cells L, none of them frozen. -/
def RowI (w : World) (g : Nat) (L : List Value) : Prop := w.heap[g]? = some (.cells L.toArray 3 (0, 0))
theorem RowI.lt {w : World} {g : Nat} {L : List Value} (h : RowI w g L) : g < w.heap.size := (Array.getElem?_eq_some_iff.1 h).1
theorem RowI.cell {w : World} {g : Nat} {L : List Value} (h : RowI w g L) {i : Nat} (hi : i < L.length) : w.cell? ⟨g, i, none⟩ = some L[i] := by
  unfold RowI at h
  simp [World.cell?, h, hi]
theorem RowI.frozen {w : World} {g : Nat} {L : List Value} (h : RowI w g L) (i : Nat) : w.frozen? ⟨g, i, none⟩ = false := by
  unfold RowI at h
  simp [World.frozen?, h]
theorem RowI.set {w : World} {g : Nat} {L : List Value} (h : RowI w g L) (i : Nat) (u : Value) : RowI (w.setCell ⟨g, i, none⟩ u) g (L.set i u) := by
  unfold RowI at h ⊢
  simp [World.setCell, Array.getElem?_modify, h]
theorem RowI.alloc {w : World} {g : Nat} {L : List Value} (h : RowI w g L) (o : Obj) : RowI (w.alloc o) g L := (Below.heap_alloc w o g h.lt).trans h
theorem RowI.drewN {w : World} {g : Nat} {L : List Value} (h : RowI w g L) (n : Nat) : RowI (w.drewN n) g L := h
theorem RowI.below {w w' : World} {g B : Nat} {L : List Value} (h : RowI w g L) (hb : Below B w w') (hg : g < B) : RowI w' g L := (hb.block g hg).trans h
/-- The ints as cells. -/
def wi (xs : List Int) : List Value := xs.map (Value.int .i64)
theorem length_wi (xs : List Int) : (wi xs).length = xs.length := by simp [wi]
theorem wi_set (xs : List Int) (r : List Value) (i : Nat) (h : i < xs.length) (z : Int) : (wi xs ++ r).set i (.int .i64 z) = wi (xs.set i z) ++ r := by
  rw [List.set_append_left _ _ (by rw [length_wi]; exact h), wi, wi, List.map_set]
theorem RowI.num {w : World} {g : Nat} {xs : List Int} {r : List Value} (h : RowI w g (wi xs ++ r)) {i : Nat} (hi : i < xs.length) : w.cell? ⟨g, i, none⟩ = some (.int .i64 xs[i]) := by
  rw [h.cell (i := i) (by simp [length_wi]; omega)]
  simp [wi, hi]
theorem RowI.setNum {w : World} {g : Nat} {xs : List Int} {r : List Value} (h : RowI w g (wi xs ++ r)) {i : Nat} (hi : i < xs.length) (z : Int) : RowI (w.setCell ⟨g, i, none⟩ (.int .i64 z)) g (wi (xs.set i z) ++ r) := by
  rw [← wi_set xs r i hi]; exact h.set i _
theorem Tryz.infoI : (Tryz.prog.info? 3).map (fun i => (i.zero, i.size, i.bytes)) = some (some (.int .i64 0), 1, 8) := by kernel_rfl

theorem madeCells_ints (m : Nat) : madeCells (Value.int .i64 0).cells m = (wi (List.replicate m 0)).toArray := by
  apply Array.ext
  · simp [size_madeCells, wi]
  · intro i h1 h2
    simp [madeCells, wi, Value.cells, Nat.mod_one]

theorem wpList_make_ints (w : World) {ops : Array Oper} {rest : List Oper} {o : Oper} {a : Act} {Q : Exit → Act → World → Prop}
    (hg : o.guard = none) (l c : Operand) (hop : o.op = Op.makeSlice 47 l c)
    (L C : Int) (n m : Nat) (hl : a.eval l = .int .i64 L) (hc : a.eval c = .int .i64 C) (hL : L = (n : Int)) (hC : C = (m : Int)) (hnm : n ≤ m) (hm : m ≤ 35184372088832)
    (hK : ∀ w', RowI w' w.heap.size (wi (List.replicate m 0)) → Below w.heap.size w w' → Hid (w'.heap.size = w.heap.size + 1) → wpList Tryz.prog ops Q rest (a.put o.dst (.slice (some ⟨w.heap.size, 0, none⟩) n m)) w') :
    wpList Tryz.prog ops Q (o :: rest) a w := by
  refine wpList_plain hg fun K hK' => ?_
  obtain ⟨i, hi, hz, hs, hb⟩ := info_parts Tryz.infoI
  have hrun := run_make (P := Tryz.prog) w 47 3 i (.int .i64 0) Tryz.underlying47 hi hz .i64 .i64 n m (by omega) (by omega) (by rw [hb]; omega) (by omega)
  subst hL
  subst hC
  rw [hs, Nat.mul_one, Int.toNat_natCast, Int.toNat_natCast, madeCells_ints] at hrun
  unfold Oper.wp
  simp [execOp, hop, hl, hc, hrun, Result.andThen]
  refine hK' _ _ (hK _ ?_ ((Below.refl _ _).alloc (Nat.le_refl _) _) ?_)
  · unfold RowI; exact heap_alloc_new w _
  · unfold Hid; simp


/-- A row's head as a slice of ints. -/
theorem RowI.sl {w : World} {g : Nat} {xs : List Int} {r : List Value} (h : RowI w g (wi xs ++ r)) (hw : ∀ p ∈ xs, -9223372036854775808 ≤ p ∧ p ≤ 9223372036854775807) {cap : Nat} (hc : xs.length ≤ cap) (hm : cap ≤ 35184372088832) {B : Nat} (hB : g < B) :
    SlI B w (.slice (some ⟨g, 0, none⟩) xs.length cap) xs :=
  ⟨hw, _, cap, rfl, hc, hm, .inr ⟨g, 0, rfl, hB, fun j hj => by rw [Nat.zero_add]; exact h.num hj⟩⟩

theorem wpList_append_int (w : World) {ops : Array Oper} {rest : List Oper} {o : Oper} {a : Act} {Q : Exit → Act → World → Prop}
    (hg : o.guard = none) (s x : Operand) (hop : o.op = Op.call { callee := Callee.builtin Builtin.append, args := #[s, x], argTypes := #[47, 47] })
    (g n cap : Nat) (zs : List Int) (r : List Value) (c : Int) (hrow : RowI w g (wi zs ++ r)) (hn : zs.length = n) (hr : 0 < r.length) (hcap : cap = n + r.length) (hs : a.eval s = .slice (some ⟨g, 0, none⟩) n cap)
    (ad : Addr) (hx : a.eval x = .slice (some ad) 1 1) (hc : w.cell? ad = some (.int .i64 c))
    (hK : ∀ w', RowI w' g (wi (zs ++ [c]) ++ r.tail) → Below g w w' → wpList Tryz.prog ops Q rest (a.put o.dst (.slice (some ⟨g, 0, none⟩) (n + 1) cap)) w') :
    wpList Tryz.prog ops Q (o :: rest) a w := by
  obtain ⟨i, hi, hz, hsz, hb⟩ := info_parts Tryz.infoI
  subst hn
  have hlw : (wi zs).length = zs.length := by simp [wi]
  have hrun := run_append_room (P := Tryz.prog) w 47 o.type 3 i Tryz.underlying47 hi g zs.length cap (wi zs ++ r).toArray hrow ad 1 1 [.int .i64 c] (by simp [hsz])
    (by intro j u hj; match j, hj with | 0, hj => simp at hj; subst hj; simpa [Addr.add] using hc) (by intro u hu; simp at hu; subst hu; rfl) (by omega) (by simp [hsz, hlw]; omega)
  have e : (wi zs ++ r).take (zs.length * i.size) ++ [Value.int .i64 c] ++ (wi zs ++ r).drop (zs.length * i.size + 1) = wi (zs ++ [c]) ++ r.tail := by
    rw [hsz, Nat.mul_one, List.take_append_of_le_length (by omega), List.take_of_length_le (by omega), List.drop_append, List.drop_of_length_le (by omega), hlw, show zs.length + 1 - zs.length = 1 by omega]
    simp [wi]
  rw [List.toList_toArray, show [Value.int .i64 c].length = 1 from rfl, e] at hrun
  refine wpList_plain hg fun K hK' => ?_
  unfold Oper.wp
  simp [execOp, hop, resolve, invoke, builtin, hs, hx, hrun, Result.andThen]
  refine hK' _ _ (hK _ ?_ (below_setRow (Below.refl _ _) (Nat.le_refl _) _))
  unfold RowI
  exact setRow_heap w g _ _ _ _ hrow

theorem wpList_append_more (w : World) {ops : Array Oper} {rest : List Oper} {o : Oper} {a : Act} {Q : Exit → Act → World → Prop}
    (hg : o.guard = none) (s x : Operand) (hop : o.op = Op.call { callee := Callee.builtin Builtin.append, args := #[s, x], argTypes := #[34, 34] })
    (g n cap : Nat) (zs : List Int) (r : List Value) (c : Int) (hrow : Row w g (ws zs ++ r)) (hn : zs.length = n) (hr : 0 < r.length) (hcap : cap = n + r.length) (hs : a.eval s = .slice (some ⟨g, 0, none⟩) n cap)
    (ad : Addr) (hx : a.eval x = .slice (some ad) 1 1) (hc : w.cell? ad = some (.int .u64 c))
    (hK : ∀ w', Row w' g (ws (zs ++ [c]) ++ r.tail) → Below g w w' → wpList Tryz.prog ops Q rest (a.put o.dst (.slice (some ⟨g, 0, none⟩) (n + 1) cap)) w') :
    wpList Tryz.prog ops Q (o :: rest) a w := by
  obtain ⟨i, hi, hz, hsz, hb⟩ := info_parts Tryz.infoW
  subst hn
  have hlw : (ws zs).length = zs.length := by simp [ws]
  have hrun := run_append_room (P := Tryz.prog) w 34 o.type 25 i Tryz.underlying34 hi g zs.length cap (ws zs ++ r).toArray hrow ad 1 1 [.int .u64 c] (by simp [hsz])
    (by intro j u hj; match j, hj with | 0, hj => simp at hj; subst hj; simpa [Addr.add] using hc) (by intro u hu; simp at hu; subst hu; rfl) (by omega) (by simp [hsz, hlw]; omega)
  have e : (ws zs ++ r).take (zs.length * i.size) ++ [Value.int .u64 c] ++ (ws zs ++ r).drop (zs.length * i.size + 1) = ws (zs ++ [c]) ++ r.tail := by
    rw [hsz, Nat.mul_one, List.take_append_of_le_length (by omega), List.take_of_length_le (by omega), List.drop_append, List.drop_of_length_le (by omega), hlw, show zs.length + 1 - zs.length = 1 by omega]
    simp [ws]
  rw [List.toList_toArray, show [Value.int .u64 c].length = 1 from rfl, e] at hrun
  refine wpList_plain hg fun K hK' => ?_
  unfold Oper.wp
  simp [execOp, hop, resolve, invoke, builtin, hs, hx, hrun, Result.andThen]
  refine hK' _ _ (hK _ ?_ (below_setRow (Below.refl _ _) (Nat.le_refl _) _))
  unfold Row
  exact setRow_heap w g _ _ _ _ hrow
end Go.Proofs.YtonmlmdnjjafhaaGreat
