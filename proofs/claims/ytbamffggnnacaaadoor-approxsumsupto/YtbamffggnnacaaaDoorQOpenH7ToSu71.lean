/-
  QOpenH7ToSu71: OpenH7, Su71, joined.
-/
import Derived.Test.YtbamffggnnacaaaDoorQBaseToInts
import Derived.Test.YtbamffggnnacaaaDoorQNz7ToSu70
import Derived.Lib.SmallJoins

/- OpenH7 -/
namespace Go.Proofs.YtbamffggnnacaaaDoor
open Go.ChangeShapes Go.WideShapes Go.ChangeAt Go.RowKit
set_option linter.unusedVariables false

theorem Tryd.cellsH : Tryd.prog.cellsOf 54 = 4 := by kernel_rfl
theorem Tryd.cellsI7 : Tryd.prog.cellsOf 3 = 1 := by kernel_rfl
theorem Tryd.cells32 : Tryd.prog.cellsOf 21 = 1 := by kernel_rfl
theorem int32_bounds {n : Int} (h : (Lit.int .i32 n).wf = true) : -2147483648 ≤ n ∧ n ≤ 2147483647 := by
  have h1 : IntKind.i32.min = -2147483648 := rfl
  have h2 : IntKind.i32.max = 2147483647 := rfl
  simp only [Lit.wf, Bool.and_eq_true, decide_eq_true_eq] at h
  omega
theorem open_i64 {H : Type} {enc : TypeId × Value → H} {W : World} {fuel : Nat} {v : Value} {x : DataW H × List MemPlace}
    (hf : DataW.trod enc Tryd.prog W 0 (fun _ => true) true fuel 51 [v] = some x) (hb : Rows.uptoBulk x.1 ≤ 1048576) :
    ∃ xs, SlI W.heap.size W v xs ∧ xs.length ≤ 1048576 := by
  rcases open_ints Tryd.underlying51 Tryd.underlying3 Tryd.cellsI7 hf with ⟨hcs, _⟩ | ⟨x', len, cap, zs, hcs, _, hl, hm, hz, hx, hcell, hwz⟩
  · simp only [List.cons.injEq, and_true] at hcs
    subst hcs
    exact ⟨[], ⟨fun p h => (by cases h), none, 0, rfl, Nat.le_refl _, Nat.zero_le _, .inl rfl⟩, by simp⟩
  · simp only [List.cons.injEq, and_true] at hcs
    subst hcs
    simp only [if_true] at hz
    rw [hx] at hb
    simp only [Rows.uptoBulk] at hb
    have e1 := bulk_len (lits (H := H) .i64 (zs.take len))
    have e2 := bulk_len (lits (H := H) .i64 (zs.drop len))
    simp only [lits, List.length_map, List.length_take, List.length_drop] at e1 e2
    have hlen : (zs.take len).length = len := by simp; omega
    have hzl : zs.length ≤ 1048576 := by simp only [lits] at hb; omega
    refine ⟨zs.take len, ⟨fun y hy => int_bounds (hwz y (List.mem_of_mem_take hy)), some x', cap, by rw [hlen], by rw [hlen]; exact hl, by omega, ?_⟩, by omega⟩
    by_cases he : len = 0
    · exact .inl (by simp [he])
    · obtain ⟨b, off, spot⟩ := x'
      have hc := hcell 0 (by omega)
      have hspot : spot = none := by simpa [Addr.add] using World.cell?_spot hc
      subst hspot
      refine .inr ⟨b, off, rfl, ?_, fun j hj => ?_⟩
      · have := World.block_lt_of_cell? W _ hc
        simpa [Addr.add] using this
      · rw [hlen] at hj
        have hcj := hcell j (by omega)
        have e : (⟨b, off, none⟩ : Addr).add j = ⟨b, off + j, none⟩ := by unfold Addr.add; split <;> simp_all
        rw [e] at hcj
        rw [hcj]
        simp [show j < zs.length by omega]
theorem open_i32 {H : Type} {enc : TypeId × Value → H} {W : World} {fuel : Nat} {v : Value} {x : DataW H × List MemPlace}
    (hf : DataW.trod enc Tryd.prog W 0 (fun _ => true) true fuel 52 [v] = some x) (hb : Rows.uptoBulk x.1 ≤ 1048576) :
    ∃ xs, Sl32 W.heap.size W v xs ∧ xs.length ≤ 1048576 := by
  rcases open_ints Tryd.underlying52 Tryd.underlying21 Tryd.cells32 hf with ⟨hcs, _⟩ | ⟨x', len, cap, zs, hcs, _, hl, hm, hz, hx, hcell, hwz⟩
  · simp only [List.cons.injEq, and_true] at hcs
    subst hcs
    exact ⟨[], ⟨fun p h => (by cases h), none, 0, rfl, Nat.le_refl _, Nat.zero_le _, .inl rfl⟩, by simp⟩
  · simp only [List.cons.injEq, and_true] at hcs
    subst hcs
    simp only [if_true] at hz
    rw [hx] at hb
    simp only [Rows.uptoBulk] at hb
    have e1 := bulk_len (lits (H := H) .i32 (zs.take len))
    have e2 := bulk_len (lits (H := H) .i32 (zs.drop len))
    simp only [lits, List.length_map, List.length_take, List.length_drop] at e1 e2
    have hlen : (zs.take len).length = len := by simp; omega
    have hzl : zs.length ≤ 1048576 := by simp only [lits] at hb; omega
    refine ⟨zs.take len, ⟨fun y hy => int32_bounds (hwz y (List.mem_of_mem_take hy)), some x', cap, by rw [hlen], by rw [hlen]; exact hl, by omega, ?_⟩, by omega⟩
    by_cases he : len = 0
    · exact .inl (by simp [he])
    · obtain ⟨b, off, spot⟩ := x'
      have hc := hcell 0 (by omega)
      have hspot : spot = none := by simpa [Addr.add] using World.cell?_spot hc
      subst hspot
      refine .inr ⟨b, off, rfl, ?_, fun j hj => ?_⟩
      · have := World.block_lt_of_cell? W _ hc
        simpa [Addr.add] using this
      · rw [hlen] at hj
        have hcj := hcell j (by omega)
        have e : (⟨b, off, none⟩ : Addr).add j = ⟨b, off + j, none⟩ := by unfold Addr.add; split <;> simp_all
        rw [e] at hcj
        rw [hcj]
        simp [show j < zs.length by omega]
set_option maxRecDepth 100000 in
theorem open_heap {H : Type} {enc : TypeId × Value → H} {W : World} {r : Reach} {b0 : Nat} {v : Value} {d : DataW H} {p : List MemPlace}
    (hv : Value.okWide Tryd.prog W r b0 54 v) (h0 : DataW.Trod enc Tryd.prog W 0 (fun _ => true) true 54 v d p) (hb : Rows.uptoBulk d ≤ 1048576) :
    ∃ v0 v1 v3, ∃ X : Nat, ∃ xs ps qs : List Int, v = .agg #[v0, v1, .int .u64 (X : Int), v3] ∧ Sl W.heap.size W v0 xs ∧ xs.length ≤ 1048576 ∧ SlI W.heap.size W v1 ps ∧ ps.length ≤ 1048576 ∧ X < 2 ^ 64 ∧ Sl32 W.heap.size W v3 qs := by
  obtain ⟨v0, v1, v2, v3, y0, y1, y2, y3, m, rfl, rfl, _, t0, t1, t2, t3⟩ := Joins.open_agg4 Tryd.underlying54 (by kernel_rfl) Tryd.cellsH hv h0
  simp only [Rows.uptoBulk, Rows.uptoBulkAll] at hb
  obtain ⟨k, e2, _, w2⟩ := DataW.trod_int Tryd.underlying37 t2
  obtain ⟨xs, sx, lx⟩ := open_words1 t0 (by omega)
  obtain ⟨ps, sp, lp⟩ := open_i64 t1 (by omega)
  obtain ⟨qs, sq, lq⟩ := open_i32 t3 (by omega)
  simp only [List.cons.injEq, and_true] at e2
  subst e2
  have h1 : IntKind.u64.min = 0 := rfl
  have h2 : IntKind.u64.max = 18446744073709551615 := rfl
  simp only [Lit.wf, Bool.and_eq_true, decide_eq_true_eq] at w2
  obtain ⟨X, rfl⟩ := Int.eq_ofNat_of_zero_le (show 0 ≤ k by omega)
  exact ⟨v0, v1, v3, X, xs, ps, qs, rfl, sx, lx, sp, lp, by omega, sq⟩
end Go.Proofs.YtbamffggnnacaaaDoor

/- Su71 -/
namespace Go.Proofs.YtbamffggnnacaaaDoor
open Go.RowKit
set_option linter.unusedVariables false

set_option maxHeartbeats 25600000 in
set_option maxRecDepth 100000 in
theorem sums_not {w : World} {v0 v1 v3 : Value} {xs : List Int} {X : Nat} (h0 : Sl w.heap.size w v0 xs) (hl : xs.length ≤ 1048576) (hT : Tab w) (hno : ¬ ∀ f ∈ fl7 xs, Fin7 f) :
    Calls Tryd.prog 5 #[.agg #[v0, v1, .int .u64 (X : Int), v3]] w fun e w' => e = .returned (.bool true) ∧ Below w.heap.size w w' := by
  obtain ⟨W0, hW0⟩ : ∃ W0, w.alloc (.cells #[v0, v1, .int .u64 (X : Int), v3] 54) = W0 := ⟨_, rfl⟩
  have b0 : Below w.heap.size w W0 := by rw [← hW0]; exact (Below.refl _ _).alloc (Nat.le_refl _) _
  have p0 : HpB w W0 v0 v1 X v3 := by rw [← hW0]; exact heap_alloc_new w _
  have HA := hid (awake7 (hT.now b0))
  have HS0 := hid h0
  have HT0 := hid hT
  have HNO := hid hno
  have EW := hid hW0
  have B0 := hid b0
  have P0 := hid p0
  clear h0 hT hno hW0 b0 p0
  go_enter Tryd.func5, Tryd.ntmps5
  go_wp2_with fail
  rw [EW.out]
  clear EW
  refine HA.out.mono ?_
  rintro e w1 ⟨rfl, b1⟩
  have P1 := hid (P0.out.now b1)
  have G := hid (below_step B0.out b1)
  clear b1 HA
  obtain ⟨c0, c1, c2, c3⟩ := P1.out.c
  go_wp2_with fail
  go_quiet (fail)
  obtain ⟨W2, hW2⟩ : ∃ W2, w1.drewN nq = W2 := ⟨_, rfl⟩
  have bq : Below w1.heap.size w1 W2 := by rw [← hW2]; exact below_drewN _ _ _
  rw [hW2]
  have P2 := hid (P1.out.now bq)
  have G2 := hid (below_step G.out bq)
  clear hW2 bq P1 G c0 c1 c2 c3 P0 B0
  obtain ⟨c0, c1, c2, c3⟩ := P2.out.c
  go_wp2_with fail
  refine (floats_any (HS0.out.now G2.out) hl).mono ?_
  rintro e w3 ⟨g, rfl, row, hg, b3⟩
  have P3 := hid (P2.out.now b3)
  have G3 := hid (below_step G2.out b3)
  have R3 := hid row
  have hgn : w.heap.size < g := by have := P2.out.lt; omega
  clear row b3 P2 G2 c0 c1 c2 c3
  obtain ⟨n, hn⟩ : ∃ n, xs.length = n := ⟨_, rfl⟩
  rw [hn] at hl ⊢
  have HN : Hid ((fl7 xs).length = n) := by unfold Hid; rw [fl7_len]; exact hn
  have HLT := hid (fl7_lt HS0.out.1)
  clear hn HS0
  obtain ⟨fs, hfs⟩ : ∃ fs, fl7 xs = fs := ⟨_, rfl⟩
  rw [hfs] at HNO R3 HN HLT
  clear hfs
  have HFS := hid (R3.out.fs (n := n) (cap := n) HLT.out HN.out (Nat.le_refl _) (by omega))
  go_wp2_with fail
  refine (total_any HFS.out (HT0.out.now G3.out)).mono ?_
  rintro e w4 ht
  rcases ht with ⟨q, _⟩ | ⟨hex, rfl, b4⟩
  · exact absurd q HNO.out
  clear hex
  have H0 : Hid (AllH w v0 v1 v3 X g n fs n (.bool true) (.int .i64 0) w4) := ⟨0, true, rfl, rfl, Nat.zero_le _, rfl, ⟨fun _ j _ h => absurd h (Nat.not_lt_zero _), fun _ => rfl⟩, P3.out.now b4, R3.out.now b4, below_step G3.out b4⟩
  clear b4 P3 G3 R3 HFS
  go_wp2_with fail
  go_loopg [8, 9] n (fun gg s8 s9 wx => AllH w v0 v1 v3 X g n fs gg s8 s9 wx)
  case atStart => exact H0.out
  case round =>
    clear H0
    obtain ⟨i, A, rfl, rfl, hin, hgg, hA, pp, rr, hG⟩ := hrel
    have P := hid pp
    have R := hid rr
    have G := hid hG
    have HG := hid hgg
    have HA := hid hA
    clear pp rr hG hgg hA
    by_cases hlt : i < n
    · have hlt' : (i : Int) < (n : Int) := by omega
      have hli : i < fs.length := by rw [HN.out]; exact hlt
      have hw := wrapI7 (i := i) (by omega)
      cases A
      · have HN1 : Hid (AllH w v0 v1 v3 X g n fs (n - (i + 1)) (.bool false) (.int .i64 ((i + 1 : Nat) : Int)) wr) := ⟨i + 1, false, rfl, rfl, by omega, rfl, ⟨fun e => (by cases e), fun q => HA.out.2 (fun j h hj => q j h (by omega))⟩, P.out, R.out, G.out⟩
        have HMM : Hid (n - (i + 1) < gk) := by unfold Hid; rw [HG.out]; omega
        clear P R G HG HA
        go_wp2_with fail
        go_roundg (n - (i + 1))
        case rel => exact HN1.out
        case measure => exact HMM.out
      · have cf : wr.cell? ⟨g, i, none⟩ = some (.float .f64 fs[i]) := R.out.cell hli
        obtain ⟨f, hfe⟩ : ∃ f, fs[i] = f := ⟨_, rfl⟩
        have HFE := hid hfe
        rw [hfe] at cf
        clear hfe
        go_wp2_with fail
        refine (finite_any f _).mono ?_
        rintro e w5 ⟨rfl, b5⟩
        have HN1 : Hid (AllH w v0 v1 v3 X g n fs (n - (i + 1)) (.bool (decide (Fin7 f))) (.int .i64 ((i + 1 : Nat) : Int)) w5) := ⟨i + 1, decide (Fin7 f), rfl, rfl, by omega, rfl, ⟨fun e j h hj => by
            by_cases q : j < i
            · exact HA.out.1 (by first | rfl | trivial) j h q
            · obtain rfl : j = i := by omega
              rw [HFE.out]; exact of_decide_eq_true e, fun q => decide_eq_true (by have := q i hli (by omega); rw [HFE.out] at this; exact this)⟩, P.out.now b5, R.out.now b5, below_step G.out b5⟩
        have HMM : Hid (n - (i + 1) < gk) := by unfold Hid; rw [HG.out]; omega
        clear P R G HG HA b5 cf HFE
        generalize decide (Fin7 f) = D at *
        go_wp2_with fail
        go_roundg (n - (i + 1))
        case rel => exact HN1.out
        case measure => exact HMM.out
    · have hlt' : ¬ (i : Int) < (n : Int) := by omega
      obtain rfl : i = n := by omega
      have hAf : A = false := by
        cases A
        · rfl
        · exact absurd (fun f hf => by
            obtain ⟨j, hj, rfl⟩ := List.getElem_of_mem hf
            exact HA.out.1 (by first | rfl | trivial) j hj (by rw [← HN.out]; exact hj)) HNO.out
      subst hAf
      have q3 : ((3 : Int) == 3) = true := rfl
      have q0 : ((0 : Int) == 0) = true := rfl
      clear HA P R HG
      go_wp2_with fail
      refine (bits_any 0 _).mono ?_
      rintro e w6 ⟨rfl, b6⟩
      rw [show ((bv 0 : Nat) : Int) = 0 from rfl]
      have G6 := hid (below_step G.out b6)
      clear b6 G
      go_wp2
      go_ret
      exact ⟨rfl, G6.out⟩
end Go.Proofs.YtbamffggnnacaaaDoor
