/-
  QOpenU7ToFr7: OpenU7, OpenZ, Fr7, joined.
-/
import Derived.Test.YtdhmbalkclbhpaaGreatDoorQOpenTToTwos
import Derived.Test.YtdhmbalkclbhpaaGreatDoorQWv7
import Derived.Test.YtdhmbalkclbhpaaGreatDoorQZedToWu7
import Derived.Test.YtdhmbalkclbhpaaGreatDoorQBaseToInts
import Derived.ChangeSame

/- OpenU7 -/
namespace Go.Proofs.YtdhmbalkclbhpaaGreatDoor
open Go.ChangeShapes Go.WideShapes Go.ChangeAt Go.RowKit
set_option linter.unusedVariables false

/-- A table anywhere on the list. -/
theorem laidVars_tab {P : Program} {W : World} {name : String} {k : IntKind} {zs : List Int} {g : Nat} {t e : TypeId} {n : Nat}
    (hg : P.globalNamed name = some g) (hty : (P.globals[g]?).map (·.type) = some t) (ht : P.underlying t = some (.array n e)) (he : P.underlying e = some (.int k)) (hce : P.cellsOf e = 1) (hct : P.cellsOf t = n) :
    ∀ {laid : List (String × DataW Unit)} {ps : List MemPlace}, DataW.LaidVars P W laid ps → (name, Lib.tabData k zs) ∈ laid → Lib.TabIs P W name k zs
  | [], _, _, hm => by cases hm
  | x :: r, ps, hv, hm => by
    obtain ⟨g', t', cs, fuel, p, q, hg', ht', hvar, hd, hr, _⟩ := hv
    rcases List.mem_cons.1 hm with e | hm
    · obtain rfl := e
      obtain rfl := Option.some.inj (hg.symm.trans hg')
      obtain rfl := Option.some.inj (hty.symm.trans ht')
      unfold Lib.TabIs
      rw [hvar, ← Lib.cells_of_tab ht he hce hct hd]
    · exact laidVars_tab hg hty ht he hce hct hr hm
theorem gTab : Tryz.prog.globalNamed "math/bits.deBruijn64tab" = some 3 := by kernel_rfl
theorem gTabType : (Tryz.prog.globals[3]?).map (·.type) = some 148 := by kernel_rfl
theorem cellsT : Tryz.prog.cellsOf 148 = 64 := by kernel_rfl
abbrev tabZ : List Int := Lib.deBruijn64tab.map (fun n : Nat => (n : Int))
theorem gPow : Tryz.prog.globalNamed "internal/strconv.uint64pow10" = some 2 := by kernel_rfl
theorem gPowType : (Tryz.prog.globals[2]?).map (·.type) = some 141 := by kernel_rfl
theorem cellsP : Tryz.prog.cellsOf 141 = 20 := by kernel_rfl
theorem cells64 : Tryz.prog.cellsOf 37 = 1 := by kernel_rfl
theorem mem1 {α : Type} {a b : α} {l : List α} : a ∈ b :: a :: l := .tail _ (.head _)
theorem mem2 {α : Type} {a b c : α} {l : List α} : a ∈ b :: c :: a :: l := .tail _ (.tail _ (.head _))
theorem mem4 {α : Type} {a b c d e : α} {l : List α} : a ∈ b :: c :: d :: e :: a :: l := .tail _ (.tail _ (.tail _ (.tail _ (.head _))))
theorem tabs_of {W : World} (h : laidMetH Tryz.prog Rows.approxRoundsUptoRow.laid W) : Tab W ∧ Sg W ∧ Pw7 W := by
  have h1 : laidMet Tryz.prog Rows.approxRoundsUptoRow.laid W := h
  obtain ⟨ps, hv, -, -⟩ := h1
  refine ⟨?_, ?_, ?_⟩
  · have hT : Lib.TabIs Tryz.prog W "math/bits.deBruijn64tab" .u8 tabZ := laidVars_tab gTab gTabType Tryz.underlying148 Tryz.underlying5 cellsU8 cellsT hv (show ("math/bits.deBruijn64tab", Lib.tabData .u8 tabZ) ∈ Rows.approxRoundsUptoRow.laid from mem1)
    intro j hj
    rw [hT.cell gTab j (by simpa [tabZ] using hj)]
    simp [tabZ, List.getD, hj]
  · exact signs_sg (laidVars_tab gSigns gSignsType Tryz.underlying136 Tryz.underlying5 cellsU8 cells36 hv (show ("trellis/radix.signs", Lib.tabData .u8 signZ) ∈ Rows.approxRoundsUptoRow.laid from mem4))
  · exact laidVars_tab gPow gPowType Tryz.underlying141 Tryz.underlying37 cells64 cellsP hv (show ("internal/strconv.uint64pow10", Lib.tabData .u64 Lib.pow10Tab) ∈ Rows.approxRoundsUptoRow.laid from mem2)
/-- A world for the witness: the settled one, the tables holding what their initialisers lay. -/
def laidWorldU (P : Program) (os : Os) : World :=
  { World.holding P os ⟨#[], #[], []⟩ with heap := putRow (putRow (putRow (putRow (putRow (putRow (World.holding P os ⟨#[], #[], []⟩).heap 1 (numsD Rows.laid_trellis_radix_signs)) 7 (numsD Rows.laid_unicode_utf8_first)) 8 (numsD Rows.laid_unicode_utf8_acceptRanges)) 3 (numsD Rows.laid_math_bits_deBruijn64tab)) 9 (numsD Rows.laid_math_bits_deBruijn32tab)) 2 (numsD Rows.laid_internal_strconv_uint64pow10) }
end Go.Proofs.YtdhmbalkclbhpaaGreatDoor

/- OpenZ -/
namespace Go.Proofs.YtdhmbalkclbhpaaGreatDoor
open Go.ChangeShapes Go.WideShapes Go.ChangeAt Go.RowKit
set_option linter.unusedVariables false

theorem Tryz.cellsZ : Tryz.prog.cellsOf 24 = 2 := by kernel_rfl
theorem Tryz.cellsZb : Tryz.prog.cellsOf 4 = 1 := by kernel_rfl
theorem Tryz.cellsZs : Tryz.prog.cellsOf 22 = 1 := by kernel_rfl
theorem trod_struct2 {H : Type} {enc : TypeId × Value → H} {P : Program} {w : World} {base : Nat} {spare : Nat → Bool} {held : Bool} {t : TypeId} {f0 f1 : Field} {fuel : Nat} {cs : List Value} {x : DataW H × List MemPlace} (ht : P.underlying t = some (.struct #[f0, f1]))
    (h : DataW.trod enc P w base spare held fuel t cs = some x) :
    ∃ y0 y1 n, x.1 = .agg [y0.1, y1.1] ∧ cs.length = P.cellsOf t ∧ DataW.trod enc P w base spare held n f0.type ((cs.drop f0.offset).take (P.cellsOf f0.type)) = some y0 ∧ DataW.trod enc P w base spare held n f1.type ((cs.drop f1.offset).take (P.cellsOf f1.type)) = some y1 := by
  obtain ⟨xs, n, _, rfl, hl, hlen, hf⟩ := DataW.trod_struct ht h
  match xs, hlen with
  | [y0, y1], _ => exact ⟨y0, y1, n, by simp, hl, by simpa using hf 0 f0 rfl, by simpa using hf 1 f1 rfl⟩
set_option maxRecDepth 100000 in
/-- One integer, read. -/
theorem open_int2 {H : Type} {enc : TypeId × Value → H} {W : World} {fuel : Nat} {cs : List Value} {x : DataW H × List MemPlace}
    (hf : DataW.trod enc Tryz.prog W 0 (fun _ => true) true fuel 24 cs = some x) (hb : Rows.uptoBulk x.1 ≤ 1048576) :
    ∃ n a c xs, cs = [.bool n, .slice a xs.length c] ∧ Sl W.heap.size W (.slice a xs.length c) xs ∧ xs.length ≤ 1048576 ∧ Formed (.slice a xs.length c) := by
  obtain ⟨y0, y1, n, hx, hl, t0, t1⟩ := trod_struct2 Tryz.underlying24 hf
  rw [Tryz.cellsZ] at hl
  rw [hx] at hb
  simp only [Rows.uptoBulk, Rows.uptoBulkAll] at hb
  obtain ⟨c0, c1, rfl⟩ : ∃ c0 c1, cs = [c0, c1] := by
    match cs, hl with
    | [c0, c1], _ => exact ⟨c0, c1, rfl⟩
  simp only [Tryz.cellsZb, Tryz.cellsZs, List.drop_zero, List.drop_succ_cons, List.take_succ_cons, List.take_zero] at t0 t1
  obtain ⟨k, e0, _⟩ := DataW.trod_bool Tryz.underlying4 t0
  obtain ⟨xs, sx, lx, fx⟩ := open_words3 t1 (by omega)
  simp only [List.cons.injEq, and_true] at e0
  subst e0
  obtain ⟨a, c, rfl⟩ : ∃ a c, c1 = .slice a xs.length c := by obtain ⟨_, a, c, e, _⟩ := sx; exact ⟨a, c, e⟩
  have := bulk_pos y0.1
  exact ⟨k, a, c, xs, rfl, sx, by omega, fx⟩
set_option maxRecDepth 100000 in
theorem open_zint {H : Type} {enc : TypeId × Value → H} {W : World} {r : Reach} {b0 : Nat} {v : Value} {d : DataW H} {p : List MemPlace}
    (hv : Value.okWide Tryz.prog W r b0 24 v) (h0 : DataW.Trod enc Tryz.prog W 0 (fun _ => true) true 24 v d p) (hb : Rows.uptoBulk d ≤ 1048576) :
    ∃ z, Zi W v z 1048576 := by
  obtain ⟨cs, rfl, hsz⟩ := okWide_struct Tryz.underlying24 hv
  obtain ⟨fuel, hf⟩ := h0
  obtain ⟨n, a, c, xs, hc, h1, h2, h3⟩ := open_int2 hf hb
  refine ⟨iv n xs, n, xs, a, c, ?_, h1, rfl, h2⟩
  simp only [Value.cells] at hc
  congr 1
  apply Array.toList_inj.1
  exact hc
end Go.Proofs.YtdhmbalkclbhpaaGreatDoor

/- Fr7 -/
namespace Go.Proofs.YtdhmbalkclbhpaaGreatDoor
open Go.RowKit
set_option linter.unusedVariables false

theorem good_lt {l : List UInt8} (hg : Good 10 l) : ofD 10 (dsL l) < 10 ^ l.length := by
  have h := ofD_lt (B := 10) (by omega) (dsL l) (fun d hd => by
    obtain ⟨b, hb, rfl⟩ := List.mem_map.1 hd
    exact hg b hb)
  rw [show (dsL l).length = l.length by simp [dsL]] at h
  exact h
theorem dsL_app (a b : List UInt8) : dsL (a ++ b) = dsL a ++ dsL b := by unfold dsL; exact List.map_append
theorem ofD_cut (l : List UInt8) (n : Nat) : ofD 10 (dsL l) = ofD 10 (dsL (l.take n)) * 10 ^ (l.length - n) + ofD 10 (dsL (l.drop n)) := by
  have h := ofD_append 10 (dsL (l.take n)) (dsL (l.drop n))
  rw [← dsL_app, List.take_append_drop] at h
  rw [h, show (dsL (l.drop n)).length = l.length - n by simp [dsL]]
theorem txt_low {N : Nat} (hN : 0 < N) : 1 ≤ (txtL 10 N).length ∧ 10 ^ ((txtL 10 N).length - 1) ≤ N := by
  obtain ⟨⟨h0, _⟩, hv⟩ := txt_back (B := 10) (n := N) (by omega) (by omega)
  have hd := txt_ds (B := 10) (n := N) (by omega) (by omega) (by omega)
  generalize txtL 10 N = l at *
  match l, h0 with
  | c :: t, _ =>
    have h1 : dv c.toNat ≠ 0 := lead_head (t := dsL t) hd.symm
    refine ⟨by simp, ?_⟩
    have e : dsL (c :: t) = dv c.toNat :: dsL t := rfl
    rw [e, ofD_cons, show (dsL t).length = t.length by simp [dsL]] at hv
    have h2 : 1 * 10 ^ t.length ≤ dv c.toNat * 10 ^ t.length := Nat.mul_le_mul_right _ (by omega)
    simp only [List.length_cons, Nat.add_sub_cancel]
    omega
/-- A number of n digits does not begin with 0. -/
theorem head_ne {c : UInt8} {t : List UInt8} (hg : Good 10 (c :: t)) (h : 10 ^ t.length ≤ ofD 10 (dsL (c :: t))) : c ≠ 48 := by
  intro e
  subst e
  have e : dsL (48 :: t) = 0 :: dsL t := rfl
  have h2 := good_lt (l := t) (fun b hb => hg b (List.mem_cons_of_mem _ hb))
  rw [e, ofD_cons] at h
  omega
theorem last_odd {k : List UInt8} (hk : k ≠ []) (hg : Good 10 k) : (k.getLastD 48).toNat % 2 = ofD 10 (dsL k) % 2 := by
  obtain ⟨v, d, rfl⟩ : ∃ v d, k = v ++ [d] := ⟨k.dropLast, k.getLast hk, (List.dropLast_concat_getLast hk).symm⟩
  have hdd := dig_of (hg d (by simp))
  have e : dsL [d] = [dv d.toNat] := rfl
  rw [dsL_app, e, ofD_snoc, hdd.2.2]
  have e2 : (v ++ [d]).getLastD 48 = d := by simp
  rw [e2]
  omega
/-- Q at the step S is the nearest of N, and even where N lies halfway. -/
def Nst (N Q S : Nat) : Prop := (Q * S ≤ N ∧ (2 * (N - Q * S) < S ∨ 2 * (N - Q * S) = S ∧ Q % 2 = 0)) ∨ (N ≤ Q * S ∧ (2 * (Q * S - N) < S ∨ 2 * (Q * S - N) = S ∧ Q % 2 = 0))
theorem up_spec {k r : List UInt8} (hk : k ≠ []) (hg : Good 10 k) (hr : r ≠ []) (hgr : Good 10 r) :
    (upL k r = true → 10 ^ r.length < 2 * ofD 10 (dsL r) ∨ (2 * ofD 10 (dsL r) = 10 ^ r.length ∧ ofD 10 (dsL k) % 2 = 1)) ∧
    (¬ upL k r = true → 2 * ofD 10 (dsL r) < 10 ^ r.length ∨ (2 * ofD 10 (dsL r) = 10 ^ r.length ∧ ofD 10 (dsL k) % 2 = 0)) := by
  obtain ⟨h1, h2⟩ := half_text hgr hr
  have h3 := last_odd hk hg
  unfold upL
  by_cases h : Lib.trimRightB r 48 = [53]
  · rw [if_pos h]
    have h4 := h1.1 h
    rw [h3]
    exact ⟨fun q => .inr ⟨h4, by simpa using q⟩, fun q => .inr ⟨h4, by simpa using q⟩⟩
  · rw [if_neg h]
    have h4 := h2 h
    have h5 : ¬ 2 * ofD 10 (dsL r) = 10 ^ r.length := fun q => h (h1.2 q)
    refine ⟨fun q => .inl (h4.1 q), fun q => .inl ?_⟩
    have h6 : ¬ 10 ^ r.length < 2 * ofD 10 (dsL r) := fun x => q (h4.2 x)
    omega
theorem rdL_spec {N n : Nat} (hN : 0 < N) (hn : 1 ≤ n) : ∃ D Q ds x, (txtL 10 N).length = D ∧ rdL (txtL 10 N) n = (ds, x) ∧ ds.length = n ∧ Good 10 ds ∧ ofD 10 (dsL ds) = Q ∧ 10 ^ (n - 1) ≤ Q ∧ 1 ≤ D ∧
    ((D ≤ n ∧ x = D - 1 ∧ Q = N * 10 ^ (n - D)) ∨ (n < D ∧ x = D - 1 ∧ Nst N Q (10 ^ (D - n))) ∨ (n < D ∧ x = D ∧ Q = 10 ^ (n - 1) ∧ N ≤ 10 ^ D ∧ 2 * (10 ^ D - N) ≤ 10 ^ (D - n))) := by
  obtain ⟨⟨h0, hg⟩, hv⟩ := txt_back (B := 10) (n := N) (by omega) (by omega)
  obtain ⟨hD, hlow⟩ := txt_low hN
  unfold rdL
  generalize txtL 10 N = l at *
  by_cases hle : l.length ≤ n
  · rw [if_pos hle]
    have e : dsL (l ++ List.replicate (n - l.length) 48) = dsL l ++ List.replicate (n - l.length) 0 := by
      rw [dsL_app]
      unfold dsL
      rw [List.map_replicate]
      rfl
    have e2 : ofD 10 (dsL (l ++ List.replicate (n - l.length) 48)) = N * 10 ^ (n - l.length) := by rw [e, ofD_zeros, hv]
    refine ⟨l.length, N * 10 ^ (n - l.length), _, _, rfl, rfl, by simp; omega, fun b hb => ?_, e2, ?_, hD, .inl ⟨hle, rfl, rfl⟩⟩
    · rcases List.mem_append.1 hb with q | q
      · exact hg b q
      · rw [List.eq_of_mem_replicate q]; decide
    · rw [show n - 1 = (l.length - 1) + (n - l.length) by omega, Nat.pow_add]
      exact Nat.mul_le_mul_right _ hlow
  · rw [if_neg hle]
    have hcut := ofD_cut l n
    rw [hv] at hcut
    have hkn : (l.take n).length = n := by simp; omega
    have hrn : (l.drop n).length = l.length - n := by simp
    have hk0 : l.take n ≠ [] := fun e => by rw [e] at hkn; simp at hkn; omega
    have hr0 : l.drop n ≠ [] := fun e => by rw [e] at hrn; simp at hrn; omega
    have hgk : Good 10 (l.take n) := fun b hb => hg b (List.mem_of_mem_take hb)
    have hgr : Good 10 (l.drop n) := fun b hb => hg b (List.mem_of_mem_drop hb)
    have hup := up_spec hk0 hgk hr0 hgr
    have hC := good_lt hgk
    have hR := good_lt hgr
    rw [hkn] at hC
    rw [hrn] at hR hup
    have hS : 0 < 10 ^ (l.length - n) := Nat.pow_pos (by omega)
    have hlow2 : 10 ^ (n - 1) ≤ ofD 10 (dsL (l.take n)) := by
      rw [show l.length - 1 = (n - 1) + (l.length - n) by omega, Nat.pow_add] at hlow
      have h1 : 10 ^ (n - 1) * 10 ^ (l.length - n) < (ofD 10 (dsL (l.take n)) + 1) * 10 ^ (l.length - n) := by
        rw [Nat.add_mul, Nat.one_mul]
        omega
      have := Nat.lt_of_mul_lt_mul_right h1
      omega
    by_cases hu : upL (l.take n) (l.drop n) = true
    · rw [if_pos hu]
      have hup1 := hup.1 hu
      obtain ⟨⟨t0, tg⟩, tv⟩ := txt_back (B := 10) (n := ofD 10 (dsL (l.take n)) + 1) (by omega) (by omega)
      have tlow := txt_low (N := ofD 10 (dsL (l.take n)) + 1) (by omega)
      have tlong := txt_long (n := ofD 10 (dsL (l.take n)) + 1) (k := n - 1) (by omega)
      generalize ofD 10 (dsL (l.take n)) = C at *
      generalize ofD 10 (dsL (l.drop n)) = R at *
      have tshort : (txtL 10 (C + 1)).length ≤ n + 1 := txtL_le (B := 10) (k := n + 1) (by omega) (by rw [Nat.pow_succ]; omega) (by omega)
      have tsh : C + 1 < 10 ^ n → (txtL 10 (C + 1)).length ≤ n := fun q => txtL_le (B := 10) (k := n) (by omega) q (by omega)
      have tcut := ofD_cut (txtL 10 (C + 1)) n
      rw [tv] at tcut
      generalize txtL 10 (C + 1) = t at *
      have htk : (t.take n).length = n := by simp; omega
      have hgt : Good 10 (t.take n) := fun b hb => tg b (List.mem_of_mem_take hb)
      rcases Nat.lt_or_ge (C + 1) (10 ^ n) with hc | hc
      · have hl := tsh hc
        have htl : t.length = n := by omega
        have e1 : t.take n = t := List.take_of_length_le (by omega)
        refine ⟨l.length, C + 1, t.take n, l.length - 1 + (t.length - n), rfl, rfl, htk, hgt, by rw [e1, tv], by omega, hD, .inr (.inl ⟨by omega, by omega, .inr ?_⟩)⟩
        rw [Nat.add_mul, Nat.one_mul]
        refine ⟨by omega, ?_⟩
        rcases hup1 with q | ⟨q, q2⟩
        · left; omega
        · right; exact ⟨by omega, by omega⟩
      · have hCe : C + 1 = 10 ^ n := by omega
        have htl : t.length = n + 1 := by
          have : n < t.length := by
            have h1 := good_lt tg
            rw [tv, hCe] at h1
            exact (Nat.pow_lt_pow_iff_right (a := 10) (by omega)).1 h1
          omega
        have hd1 : ofD 10 (dsL (t.drop n)) < 10 := by
          have h1 := good_lt (l := t.drop n) (fun b hb => tg b (List.mem_of_mem_drop hb))
          rw [show (t.drop n).length = 1 by simp; omega] at h1
          omega
        have hp : 10 ^ n = 10 ^ (n - 1) * 10 := by rw [← Nat.pow_succ]; congr 1; omega
        have hq : ofD 10 (dsL (t.take n)) = 10 ^ (n - 1) := by
          rw [htl, show n + 1 - n = 1 by omega] at tcut
          omega
        have hpD : 10 ^ l.length = (C + 1) * 10 ^ (l.length - n) := by rw [hCe, ← Nat.pow_add]; congr 1; omega
        rw [Nat.add_mul, Nat.one_mul] at hpD
        refine ⟨l.length, 10 ^ (n - 1), t.take n, l.length - 1 + (t.length - n), rfl, rfl, htk, hgt, hq, Nat.le_refl _, hD, .inr (.inr ⟨by omega, by omega, rfl, by omega, ?_⟩)⟩
        rcases hup1 with q | ⟨q, q2⟩ <;> omega
    · rw [if_neg hu]
      have hup1 := hup.2 hu
      refine ⟨l.length, ofD 10 (dsL (l.take n)), l.take n, l.length - 1, rfl, rfl, hkn, hgk, rfl, hlow2, hD, .inr (.inl ⟨by omega, rfl, .inl ?_⟩)⟩
      refine ⟨by omega, ?_⟩
      rcases hup1 with q | ⟨q, q2⟩
      · left; omega
      · right; exact ⟨by omega, q2⟩
end Go.Proofs.YtdhmbalkclbhpaaGreatDoor
