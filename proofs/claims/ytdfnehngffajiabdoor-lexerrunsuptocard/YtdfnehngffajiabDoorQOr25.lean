/-
  Or25: a list of bools, a list of bytes that came in, small in bulk; the listed table.
-/
import Derived.Test.YtdfnehngffajiabDoorQBaseToSt25
import Derived.Test.YtdfnehngffajiabDoorQRn25
import Derived.Deep.Slices
import Derived.ChangeSame
import Derived.Lib.LaidTab
namespace Go.Proofs.YtdfnehngffajiabDoor
set_option linter.unusedVariables false
open Go.ChangeShapes Go.WideShapes Go.ChangeAt Go.RowKit

theorem Tryd.cellsB1 : Tryd.prog.cellsOf 4 = 1 := by kernel_rfl
theorem Tryd.cellsU1 : Tryd.prog.cellsOf 5 = 1 := by kernel_rfl
theorem open_bools25 {H : Type} {enc : TypeId × Value → H} {W : World} {a : Option Addr} {len cap : Nat} {d : DataW H} {p : List MemPlace}
    (h0 : DataW.Trod enc Tryd.prog W 0 (fun _ => true) true 38 (.slice a len cap) d p) (hb : Rows.uptoBulk d ≤ 1048576) :
    ∃ f, Bls W a len cap f := by
  obtain ⟨fuel, hf⟩ := h0
  rcases Deep.open_slice Tryd.underlying38 hf with ⟨hcs, _⟩ | ⟨x, l, c, m, n, D, Pl, hcs, _, hl, hm, hmm, hx, hel⟩
  · simp [Value.cells] at hcs
    obtain ⟨rfl, rfl, rfl⟩ := hcs
    exact ⟨fun _ => false, Nat.le_refl _, Nat.zero_le _, .inl rfl⟩
  · simp [Value.cells] at hcs
    obtain ⟨rfl, rfl, rfl⟩ := hcs
    simp only [if_true] at hmm
    subst hmm
    have hd : d = .slice ((List.range len).map D) ((List.range (m - len)).map fun j => D (len + j)) := congrArg Prod.fst hx
    rw [hd] at hb
    simp only [Rows.uptoBulk] at hb
    have e1 := bulk_len ((List.range len).map D)
    have e2 := bulk_len ((List.range (m - len)).map fun j => D (len + j))
    simp only [List.length_map, List.length_range] at e1 e2
    rw [Tryd.cellsB1] at hel
    obtain ⟨q, hq⟩ := Deep.choose_lt (α := Bool) (n := len) (p := fun i q => W.cells? 0 (x.add (i * 1)) 1 = some [.bool q]) (fun i hi => by
        obtain ⟨cs', h1, h2⟩ := hel i (by omega)
        obtain ⟨q, rfl, _⟩ := DataW.trod_bool Tryd.underlying4 h2
        exact ⟨q, h1⟩)
    refine ⟨q, hl, by omega, ?_⟩
    by_cases he : len = 0
    · exact .inl he
    · obtain ⟨b, off, spot⟩ := x
      have hc := (World.cells?_some (hq 0 (by omega))).2.2 0 (by omega)
      rw [Deep.add_add] at hc
      simp only [Nat.zero_mul, Nat.add_zero, List.getElem?_cons_zero] at hc
      have hspot : spot = none := by simpa [Addr.add] using World.cell?_spot hc
      subst hspot
      refine .inr ⟨b, off, rfl, ?_, fun k hk => ?_⟩
      · have := World.block_lt_of_cell? W _ hc
        simpa [Addr.add] using this
      · have hk' := (World.cells?_some (hq k hk)).2.2
        have e : ∀ j, (⟨b, off, none⟩ : Addr).add j = ⟨b, off + j, none⟩ := fun j => by unfold Addr.add; split <;> simp_all
        have c0 := hk' 0 (by omega)
        rw [Deep.add_add] at c0
        simp only [e] at c0
        simpa using c0
theorem open_bytes25 {H : Type} {enc : TypeId × Value → H} {W : World} {a : Option Addr} {len cap : Nat} {d : DataW H} {p : List MemPlace}
    (h0 : DataW.Trod enc Tryd.prog W 0 (fun _ => true) true 39 (.slice a len cap) d p) (hb : Rows.uptoBulk d ≤ 1048576) :
    ∃ f, Bts W a len cap f := by
  obtain ⟨fuel, hf⟩ := h0
  rcases Deep.open_slice Tryd.underlying39 hf with ⟨hcs, _⟩ | ⟨x, l, c, m, n, D, Pl, hcs, _, hl, hm, hmm, hx, hel⟩
  · simp [Value.cells] at hcs
    obtain ⟨rfl, rfl, rfl⟩ := hcs
    exact ⟨fun _ => 0, Nat.le_refl _, Nat.zero_le _, fun _ => Nat.zero_le _, .inl rfl⟩
  · simp [Value.cells] at hcs
    obtain ⟨rfl, rfl, rfl⟩ := hcs
    simp only [if_true] at hmm
    subst hmm
    have hd : d = .slice ((List.range len).map D) ((List.range (m - len)).map fun j => D (len + j)) := congrArg Prod.fst hx
    rw [hd] at hb
    simp only [Rows.uptoBulk] at hb
    have e1 := bulk_len ((List.range len).map D)
    have e2 := bulk_len ((List.range (m - len)).map fun j => D (len + j))
    simp only [List.length_map, List.length_range] at e1 e2
    rw [Tryd.cellsU1] at hel
    obtain ⟨q, hq⟩ := Deep.choose_lt (α := Nat) (n := len) (p := fun i q => W.cells? 0 (x.add (i * 1)) 1 = some [.int .u8 (q : Int)] ∧ q ≤ 255) (fun i hi => by
        obtain ⟨cs', h1, h2⟩ := hel i (by omega)
        obtain ⟨n, rfl, _, h3⟩ := DataW.trod_int Tryd.underlying5 h2
        have hb1 : IntKind.u8.min = 0 := rfl
        have hb2 : IntKind.u8.max = 255 := rfl
        simp only [Lit.wf, Bool.and_eq_true, decide_eq_true_eq] at h3
        obtain ⟨E, rfl⟩ := Int.eq_ofNat_of_zero_le (show 0 ≤ n by omega)
        exact ⟨E, h1, by omega⟩)
    refine ⟨fun k => if k < len then q k else 0, hl, by omega, fun k => by show (if k < len then q k else 0) ≤ 255; by_cases z : k < len; rw [if_pos z]; exact (hq k z).2; rw [if_neg z]; exact Nat.zero_le _, ?_⟩
    by_cases he : len = 0
    · exact .inl he
    · obtain ⟨b, off, spot⟩ := x
      have hc := (World.cells?_some ((hq 0 (by omega)).1)).2.2 0 (by omega)
      rw [Deep.add_add] at hc
      simp only [Nat.zero_mul, Nat.add_zero, List.getElem?_cons_zero] at hc
      have hspot : spot = none := by simpa [Addr.add] using World.cell?_spot hc
      subst hspot
      refine .inr ⟨b, off, rfl, ?_, fun k hk => ?_⟩
      · have := World.block_lt_of_cell? W _ hc
        simpa [Addr.add] using this
      · have hk' := (World.cells?_some ((hq k hk).1)).2.2
        have e : ∀ j, (⟨b, off, none⟩ : Addr).add j = ⟨b, off + j, none⟩ := fun j => by unfold Addr.add; split <;> simp_all
        have c0 := hk' 0 (by omega)
        rw [Deep.add_add] at c0
        simp only [e] at c0
        simpa [hk] using c0
/-- The signs, as numbers. -/
abbrev signZ25 : List Int := (List.range 36).map sgn
theorem gSigns25 : Tryd.prog.globalNamed "trellis/radix.signs" = some 1 := by kernel_rfl
theorem gSignsT25 : (Tryd.prog.globals[1]?).map (·.type) = some 85 := by kernel_rfl
theorem cells36_25 : Tryd.prog.cellsOf 85 = 36 := by kernel_rfl
theorem signs25 {W : World} (h : laidMetH Tryd.prog [("trellis/radix.signs", Rows.laid_trellis_radix_signs)] W) : Sg W := by
  have h1 : laidMet Tryd.prog [("trellis/radix.signs", Rows.laid_trellis_radix_signs)] W := h
  rw [show (Rows.laid_trellis_radix_signs : DataW Unit) = Lib.tabData .u8 signZ25 from rfl] at h1
  have h2 : Lib.TabIs Tryd.prog W "trellis/radix.signs" .u8 signZ25 := by
    obtain ⟨ps, ⟨g', t', cs, fuel, p, q, hg', ht', hvar, hd, _, _⟩, _⟩ := h1
    obtain rfl := Option.some.inj (gSigns25.symm.trans hg')
    obtain rfl := Option.some.inj (gSignsT25.symm.trans ht')
    unfold Lib.TabIs
    rw [hvar, ← Lib.cells_of_tab Tryd.underlying85 Tryd.underlying5 Tryd.cellsU1 cells36_25 hd]
  intro d hd
  rw [h2.cell gSigns25 d (by simp [signZ25]; exact hd)]
  simp [signZ25, List.getD, hd]
/-- The numbers of a datum. -/
def numsR : DataW Unit → List Value
  | .agg l => numsL l
  | .lit (.int k z) => [.int k z]
  | _ => []
where numsL : List (DataW Unit) → List Value
  | [] => []
  | d :: r => numsR d ++ numsL r
def putRowR (h : Array Obj) (i : Nat) (l : List Value) : Array Obj := h.modify i fun
  | .cells _ t frozen => .cells l.toArray t frozen
  | o => o
/-- The settled world, the table holding what its initialiser lays. -/
def laidWorldR (P : Program) (os : Os) : World :=
  { World.holding P os ⟨#[], #[], []⟩ with heap := putRowR (World.holding P os ⟨#[], #[], []⟩).heap 1 (numsR Rows.laid_trellis_radix_signs) }
end Go.Proofs.YtdfnehngffajiabDoor
