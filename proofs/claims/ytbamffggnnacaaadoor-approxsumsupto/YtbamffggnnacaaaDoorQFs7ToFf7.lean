/-
  QFs7ToFf7: Fs7, Ff7, joined.
-/
import Derived.Test.YtbamffggnnacaaaDoorQWs7
import Derived.Test.YtbamffggnnacaaaDoorQZFloorToZMet
import Derived.Test.YtbamffggnnacaaaDoorQTailX
import Derived.Test.YtbamffggnnacaaaDoorQMade

/- Fs7 -/
namespace Go.Proofs.YtbamffggnnacaaaDoor
open Go.RowKit
set_option linter.unusedVariables false

/-- A list of float64 that lies below block B. -/
def Fs (B : Nat) (w : World) (v : Value) (fs : List Nat) : Prop :=
  (∀ f ∈ fs, f < 2 ^ 64) ∧ ∃ a cap, v = .slice a fs.length cap ∧ fs.length ≤ cap ∧ fs.length ≤ 8388608 ∧ (fs = [] ∨ ∃ b off, a = some ⟨b, off, none⟩ ∧ b < B ∧ ∀ j (h : j < fs.length), w.cell? ⟨b, off + j, none⟩ = some (.float .f64 fs[j]))
theorem Fs.below {B C : Nat} {w w' : World} {v : Value} {fs : List Nat} (h : Fs B w v fs) (hb : Below C w w') (hC : B ≤ C) : Fs B w' v fs := by
  obtain ⟨h1, a, cap, h2, h3, h4, h5⟩ := h
  refine ⟨h1, a, cap, h2, h3, h4, ?_⟩
  rcases h5 with e | ⟨b, off, e1, e2, e3⟩
  · exact .inl e
  · exact .inr ⟨b, off, e1, e2, fun j hj => (hb.cell (p := ⟨b, off + j, none⟩) (Nat.lt_of_lt_of_le e2 hC)).trans (e3 j hj)⟩
theorem Fs.mono {B C : Nat} {w : World} {v : Value} {fs : List Nat} (h : Fs B w v fs) (hC : B ≤ C) : Fs C w v fs := by
  obtain ⟨h1, a, cap, h2, h3, h4, h5⟩ := h
  refine ⟨h1, a, cap, h2, h3, h4, ?_⟩
  rcases h5 with e | ⟨b, off, e1, e2, e3⟩
  · exact .inl e
  · exact .inr ⟨b, off, e1, by omega, e3⟩
theorem Fs.now {w w' : World} {v : Value} {fs : List Nat} (h : Fs w.heap.size w v fs) (hb : Below w.heap.size w w') : Fs w'.heap.size w' v fs := (h.below hb (Nat.le_refl _)).mono hb.size

/-- The sum, in steps. -/
def ssum : List Nat → Int
  | [] => 0
  | f :: l => sv f + ssum l
theorem ssum_append : ∀ (l r : List Nat), ssum (l ++ r) = ssum l + ssum r
  | [], r => by simp [ssum]
  | f :: l, r => by simp only [List.cons_append, ssum]; rw [ssum_append l r]; omega
theorem ssum_take {fs : List Nat} {k : Nat} (h : k < fs.length) : ssum (fs.take (k + 1)) = ssum (fs.take k) + sv fs[k] := by
  rw [List.take_succ_eq_append_getElem h, ssum_append]
  simp [ssum]
theorem swn_sv (b : Nat) : swn b 1074 = sv b := by
  unfold swn sv
  have : mv (fv (rg b)) (1074 - 1074) = fv (rg b) := by
    unfold mv
    rw [if_neg (by omega)]
    simp
  rw [this]
theorem whole_steps {b : Nat} (h : b < 2 ^ 64) (hf : Fin7 b) (w : World) : Calls Tryd.prog 34 #[.float .f64 b, .int .i64 1074] w (GivesZ w (sv b) 16386) := by
  have := whole_any h hf (n := 1074) (by omega) (by omega) w
  rw [swn_sv] at this
  exact this
theorem isFinite_b {b : Nat} (h : b < 2 ^ 64) (w : World) {R : Bool} (e : decide (Fin7 b) = R) : Calls Tryd.prog 33 #[.float .f64 b] w fun e w' => e = .returned (.bool R) ∧ Below w.heap.size w w' :=
  (isFinite_any h w).mono fun e' w' ⟨h1, h2⟩ => ⟨by rw [h1, e], by rw [h2]; exact Below.refl _ _⟩
theorem Zm.comp7 {B : Nat} {w : World} {v0 v1 : Value} {z : Int} {k : Nat} (h : Zm B w (.agg #[v0, v1]) z k) : ∃ n, ∃ xs : List Int, ∃ a c, v0 = .bool n ∧ v1 = .slice a xs.length c := by
  obtain ⟨n, xs, a, c, h1, h2⟩ := h
  simp only [Value.agg.injEq, Array.mk.injEq, List.cons.injEq, and_true] at h1
  exact ⟨n, xs, a, c, h1.1, h1.2⟩
theorem nearest_zm {B : Nat} {w : World} {n : Bool} {xs : List Int} {a : Option Addr} {c k : Nat} {z : Int} (h : Zm B w (.agg #[.bool n, .slice a xs.length c]) z k) (hT : Tab w) (hk : k ≤ 1099511627776) :
    Calls Tryd.prog 29 #[.bool n, .slice a xs.length c, .int .i64 (-1074)] w fun e w' => e = .returned (.float .f64 (zw z (-1074))) ∧ Below w.heap.size w w' := by
  obtain ⟨n', xs', a', c', h1, h2, h3, h4, h5, h6⟩ := h
  simp only [Value.agg.injEq, Array.mk.injEq, List.cons.injEq, Value.bool.injEq, Value.slice.injEq, and_true] at h1
  obtain ⟨rfl, rfl, h7, rfl⟩ := h1
  have := nearest_any h2.sl hT (by omega) (n := -1074) (by omega) (by omega) n
  rw [fw_iv h3.1 h5, ← h7] at this
  exact this
/-- What the loop of Total keeps. -/
def TotH (w : World) (fs : List Nat) (n g : Nat) (s : Value) (wx : World) : Prop :=
  ∃ i : Nat, ∃ r0 r1 : Value, s = .int .i64 (i : Int) ∧ i ≤ n ∧ g = n - i ∧ (∀ j (h : j < fs.length), j < i → Fin7 fs[j]) ∧ Duo wx w.heap.size r0 r1 ∧ Zm w.heap.size wx (.agg #[r0, r1]) (ssum (fs.take i)) (16386 + i) ∧ Below w.heap.size w wx
theorem wrapI7 {i : Nat} (h : i ≤ 8388608) : IntKind.i64.wrap ((i : Int) + 1) = ((i + 1 : Nat) : Int) := by rw [wrap_is] <;> omega
/-- What Total answers. -/
def Totaled (w : World) (fs : List Nat) (e : Ending) (w' : World) : Prop :=
  ((∀ f ∈ fs, Fin7 f) ∧ e = .returned (.tuple #[.float .f64 (zw (ssum fs) (-1074)), .int .i64 0]) ∧ Below w.heap.size w w') ∨ ((∃ f ∈ fs, ¬ Fin7 f) ∧ e = .returned (.tuple #[.float .f64 0, .int .i64 3]) ∧ Below w.heap.size w w')
end Go.Proofs.YtbamffggnnacaaaDoor

/- Ff7 -/
namespace Go.Proofs.YtbamffggnnacaaaDoor
open Go.RowKit
set_option linter.unusedVariables false

/-- float64 as cells. -/
def fws (fs : List Nat) : List Value := fs.map (fun f => Value.float .f64 f)
theorem length_fws (fs : List Nat) : (fws fs).length = fs.length := by simp [fws]
/-- Block g holds the cells L, float64, none of them frozen. -/
def RowF (w : World) (g : Nat) (L : List Value) : Prop := w.heap[g]? = some (.cells L.toArray 26 (0, 0))
theorem RowF.lt {w : World} {g : Nat} {L : List Value} (h : RowF w g L) : g < w.heap.size := (Array.getElem?_eq_some_iff.1 h).1
theorem RowF.frozen {w : World} {g : Nat} {L : List Value} (h : RowF w g L) (i : Nat) : w.frozen? ⟨g, i, none⟩ = false := by
  simp [World.frozen?, show w.heap[g]? = _ from h]
theorem RowF.cell {w : World} {g : Nat} {fs : List Nat} (h : RowF w g (fws fs)) {i : Nat} (hi : i < fs.length) : w.cell? ⟨g, i, none⟩ = some (.float .f64 fs[i]) := by
  simp [World.cell?, show w.heap[g]? = _ from h, fws, hi]
theorem RowF.set {w : World} {g : Nat} {fs : List Nat} (h : RowF w g (fws fs)) (i : Nat) (x : Nat) : RowF (w.setCell ⟨g, i, none⟩ (.float .f64 x)) g (fws (fs.set i x)) := by
  unfold RowF at h ⊢
  simp [World.setCell, Array.getElem?_modify, h, fws, List.map_set]
theorem RowF.below {w w' : World} {g B : Nat} {L : List Value} (h : RowF w g L) (hb : Below B w w') (hg : g < B) : RowF w' g L := (hb.block g hg).trans h
theorem RowF.now {w w' : World} {g : Nat} {L : List Value} (h : RowF w g L) (hb : Below w.heap.size w w') : RowF w' g L := h.below hb h.lt
/-- A row as a list. -/
theorem RowF.fs {w : World} {g n cap : Nat} {fs : List Nat} (h : RowF w g (fws fs)) (hw : ∀ f ∈ fs, f < 2 ^ 64) (hn : fs.length = n) (hc : n ≤ cap) (hl : n ≤ 8388608) : Fs w.heap.size w (.slice (some ⟨g, 0, none⟩) n cap) fs := by
  subst hn
  exact ⟨hw, _, cap, rfl, hc, hl, .inr ⟨g, 0, rfl, h.lt, fun j hj => by rw [Nat.zero_add]; exact h.cell hj⟩⟩
theorem Tryd.infoF : (Tryd.prog.info? 26).map (fun i => (i.zero, i.size, i.bytes)) = some (some (.float .f64 0), 1, 8) := by kernel_rfl
theorem madeCells_floats (m : Nat) : madeCells (Value.float .f64 0).cells m = (fws (List.replicate m 0)).toArray := by
  apply Array.ext
  · simp [size_madeCells, fws]
  · intro i h1 h2
    simp [madeCells, fws, Value.cells, Nat.mod_one]
theorem wpList_make_floats (w : World) {ops : Array Oper} {rest : List Oper} {o : Oper} {a : Act} {Q : Exit → Act → World → Prop}
    (hg : o.guard = none) (l c : Operand) (hop : o.op = Op.makeSlice 55 l c)
    (L C : Int) (n m : Nat) (hl : a.eval l = .int .i64 L) (hc : a.eval c = .int .i64 C) (hL : L = (n : Int)) (hC : C = (m : Int)) (hnm : n ≤ m) (hm : m ≤ 35184372088832)
    (hK : ∀ w', RowF w' w.heap.size (fws (List.replicate m 0)) → Below w.heap.size w w' → Hid (w'.heap.size = w.heap.size + 1) → wpList Tryd.prog ops Q rest (a.put o.dst (.slice (some ⟨w.heap.size, 0, none⟩) n m)) w') :
    wpList Tryd.prog ops Q (o :: rest) a w := by
  refine wpList_plain hg fun K hK' => ?_
  obtain ⟨i, hi, hz, hs, hb⟩ := info_parts Tryd.infoF
  have hrun := run_make (P := Tryd.prog) w 55 26 i (.float .f64 0) Tryd.underlying55 hi hz .i64 .i64 n m (by omega) (by omega) (by rw [hb]; omega) (by omega)
  subst hL
  subst hC
  rw [hs, Nat.mul_one, Int.toNat_natCast, Int.toNat_natCast, madeCells_floats] at hrun
  unfold Oper.wp
  simp [execOp, hop, hl, hc, hrun, Result.andThen]
  refine hK' _ _ (hK _ ?_ ((Below.refl _ _).alloc (Nat.le_refl _) _) ?_)
  · unfold RowF; exact heap_alloc_new w _
  · unfold Hid; simp
theorem store_float {P : Program} {w : World} {g i x : Nat} {y : Value} (hc : w.cell? ⟨g, i, none⟩ = some y) (hf : w.frozen? ⟨g, i, none⟩ = false) : (store ⟨g, i, none⟩ (.float .f64 x)).run P w = .ok () (w.setCell ⟨g, i, none⟩ (.float .f64 x)) := by
  rw [run_store P w _ _ _ rfl]
  simp [hc, hf]
/-- The float64 of the words. -/
def fl7 (xs : List Int) : List Nat := xs.map Int.toNat
theorem fl7_len (xs : List Int) : (fl7 xs).length = xs.length := by simp [fl7]
theorem fl7_lt {xs : List Int} (h : WF xs) : ∀ f ∈ fl7 xs, f < 2 ^ 64 := fun f hf => by
  obtain ⟨x, hx, rfl⟩ := List.mem_map.1 hf
  exact toNat_lt (h x hx)
set_option maxHeartbeats 1600000 in
theorem floats_any {w : World} {v : Value} {xs : List Int} (h : Sl w.heap.size w v xs) (hl : xs.length ≤ 1048576) :
    Calls Tryd.prog 25 #[v] w fun e w' => ∃ g, e = .returned (.slice (some ⟨g, 0, none⟩) xs.length xs.length) ∧ RowF w' g (fws (fl7 xs)) ∧ w.heap.size ≤ g ∧ Below w.heap.size w w' := by
  obtain ⟨hw, a, cap, rfl, hlc, hcm, hm⟩ := h
  obtain ⟨n, hn⟩ : ∃ n, xs.length = n := ⟨_, rfl⟩
  have HN := hid hn
  have HM := hid hm
  have HW := hid hw
  rw [hn] at hlc hcm hl ⊢
  clear hm hw hn
  go_enter Tryd.func25, Tryd.ntmps25
  go_wp2_with (at_make; refine wpList_make_floats _ rfl _ _ rfl _ _ n n rfl rfl rfl rfl (Nat.le_refl _) (by omega) ?_)
  intro w2 hrow hb2 hsz2
  go_wp2_with fail
  go_loopw [4] (fun i wr => ∃ (k : Nat) (zs : List Nat), k ≤ n ∧ i = .int .i64 k ∧ Hid (zs.length = n) ∧ Hid (∀ j (h : j < zs.length) (h' : j < xs.length), j < k → zs[j] = xs[j].toNat) ∧ Hid (RowF wr w.heap.size (fws zs)) ∧ Hid (Below w.heap.size w wr)) (fun i _ => n - (intOf i).toNat)
  case atStart => exact ⟨0, List.replicate n 0, Nat.zero_le _, rfl, by unfold Hid; simp, fun j _ _ hj => absurd hj (Nat.not_lt_zero _), hrow, hb2⟩
  case round =>
    clear hrow hb2 hsz2
    obtain ⟨k, zs, hk, rfl, HL, HZ, HR, HB⟩ := hrel
    by_cases hlt : k < n
    · have hkz : k < zs.length := by have := HL.out; omega
      have hkx : k < xs.length := by have := HN.out; omega
      rcases HM.out with e | ⟨b, off, rfl, hbB, hc⟩
      · rw [e] at hkx; simp at hkx
      have c1 : wr.cell? ⟨b, off + k, none⟩ = some (.int .u64 xs[k]) := (HB.out.cell (p := ⟨b, off + k, none⟩) hbB).trans (hc k hkx)
      have c2 : wr.cell? ⟨w.heap.size, k, none⟩ = some (.float .f64 zs[k]) := HR.out.cell hkz
      have cf : wr.frozen? ⟨w.heap.size, k, none⟩ = false := HR.out.frozen _
      have hx := HW.out.get hkx
      obtain ⟨X, hX⟩ := Int.eq_ofNat_of_zero_le hx.1
      have k1 := ffrom_run X
      have HX := hid hX
      rw [hX] at c1
      have ks := store_float (P := Tryd.prog) (x := X) c2 cf
      clear hc hX hx
      go_wp2_with (simp only [ks, Result.andThen])
      go_round
      case rel =>
        refine ⟨k + 1, zs.set k X, by omega, by go_num, by unfold Hid; simp; exact HL.out, ?_, HR.out.set k X, HB.out.setCell (p := ⟨w.heap.size, k, none⟩) (Nat.le_refl _) _⟩
        intro j hj hj' hlt2
        rw [List.getElem_set]
        by_cases q : k = j
        · subst q
          rw [if_pos rfl]
          have := HX.out
          omega
        · rw [if_neg q]
          exact HZ.out j (by simpa using hj) hj' (by omega)
      case measure => simp [intOf]; omega
    · go_wp2
      go_ret
      have e : zs = fl7 xs := by
        apply List.ext_getElem
        · rw [HL.out, fl7_len, HN.out]
        · intro j h1 h2
          rw [HZ.out j h1 (by rw [fl7_len] at h2; exact h2) (by have := HL.out; omega)]
          simp [fl7]
      refine ⟨w.heap.size, rfl, ?_, Nat.le_refl _, HB.out⟩
      rw [← e]; exact HR.out
end Go.Proofs.YtbamffggnnacaaaDoor
