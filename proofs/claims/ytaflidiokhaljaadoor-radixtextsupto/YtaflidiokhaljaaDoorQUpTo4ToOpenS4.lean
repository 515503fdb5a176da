/-
  QUpTo4ToOpenS4: UpTo4, OpenS4, joined.
-/
import Derived.Test.YtaflidiokhaljaaDoorQSign4ToTexts4
import Derived.Test.YtaflidiokhaljaaDoorRows
import Derived.Test.YtaflidiokhaljaaDoorQOpenToInts
import Derived.Test.YtaflidiokhaljaaDoorQByteRowToOpenT
import Derived.Deep.Slices
import Derived.Lib.SmallJoins

/- UpTo4 -/
namespace Go.Proofs.YtaflidiokhaljaaDoor
open Go.RowKit
set_option linter.unusedVariables false

/-- A script: its steps by their places. -/
structure Steps4 where
  kind : Nat → Int
  av : Nat → Value
  xs : Nat → List Int
  s : Nat → ByteArray
  n : Nat → Int
def Script4 (w : World) (a : Option Addr) (len cap : Nat) (s : Steps4) : Prop :=
  len ≤ cap ∧ cap ≤ 35184372088832 ∧
  (∀ k, k < len → Sl w.heap.size w (s.av k) (s.xs k) ∧ (s.xs k).length ≤ 1048576 ∧ (s.s k).size ≤ 1048576 ∧ -9223372036854775808 ≤ s.n k ∧ s.n k ≤ 9223372036854775807) ∧
  (len = 0 ∨ ∃ b off, a = some ⟨b, off, none⟩ ∧ b < w.heap.size ∧ ∀ k, k < len → w.cell? ⟨b, off + k * 4, none⟩ = some (.int .i64 (s.kind k)) ∧ w.cell? ⟨b, off + k * 4 + 1, none⟩ = some (s.av k) ∧ w.cell? ⟨b, off + k * 4 + 2, none⟩ = some (.string (s.s k)) ∧ w.cell? ⟨b, off + k * 4 + 3, none⟩ = some (.int .i64 (s.n k)))
/-- What the law's reads answers. -/
def ReadsOk (w0 : World) : Prop := ∀ (w : World) (a : Option Addr) (l c : Nat) (kind : Int) (s : ByteArray) (b : Int), Below w0.heap.size w0 w → Sg w → s.size ≤ 1048576 → -9223372036854775808 ≤ b → b ≤ 9223372036854775807 →
  Calls Tryd.prog 9 #[.agg #[.int .i64 kind, .slice a l c, .string s, .int .i64 b]] w fun e w' => e = .returned (.bool true) ∧ Below w.heap.size w w'

def UTH (w : World) (len gk : Nat) (s7 : Value) (wx : World) : Prop := ∃ k : Nat, gk = len - k ∧ s7 = .int .i64 (k : Int) ∧ k ≤ len ∧ Below w.heap.size w wx
set_option maxRecDepth 100000 in
set_option maxHeartbeats 3200000 in
theorem upTo4_any {w : World} {a : Option Addr} {len cap : Nat} {s : Steps4} (h : Script4 w a len cap s) (hT : Sg w) (lo hi : Int) (hR : hi < 5 ∨ ReadsOk w) :
    Calls Tryd.prog 6 #[.slice a len cap, .int .i64 lo, .int .i64 hi] w fun e w' => e = .returned (.bool true) ∧ Below w.heap.size w w' := by
  obtain ⟨hlc, hcm, hst, hm⟩ := h
  have HST := hid hst
  have HM := hid hm
  have HT := hid hT
  have HR := hid hR
  clear hst hm hT hR
  go_enter Tryd.func6, Tryd.ntmps6
  go_wp2_with fail
  refine (awake4_any HT.out).mono ?_
  rintro e w1 ⟨rfl, k1⟩
  have H0 : Hid (UTH w len len (.int .i64 0) w1) := ⟨0, rfl, rfl, Nat.zero_le _, k1⟩
  clear k1
  go_wp2_with fail
  go_loopg [7] len (fun gk s7 wx => UTH w len gk s7 wx)
  case atStart => exact H0.out
  case round =>
    clear H0
    obtain ⟨k, hgk, rfl, hk, hb⟩ := hrel
    have HG := hid hgk
    have HB := hid hb
    clear hgk hb
    by_cases hlt : k < len
    · have hlt' : (k : Int) < (len : Int) := by omega
      rcases HM.out with e | ⟨b, off, rfl, hbg, hc⟩
      · omega
      obtain ⟨hc0, hc1, hc2, hc3⟩ := hc k hlt
      have c0 := (HB.out.cell (p := ⟨b, off + k * 4, none⟩) hbg).trans hc0
      have c1 := (HB.out.cell (p := ⟨b, off + k * 4 + 1, none⟩) hbg).trans hc1
      have c2 := (HB.out.cell (p := ⟨b, off + k * 4 + 2, none⟩) hbg).trans hc2
      have c3 := (HB.out.cell (p := ⟨b, off + k * 4 + 3, none⟩) hbg).trans hc3
      obtain ⟨sa, la, ls, n0, n1⟩ := HST.out k hlt
      generalize s.kind k = kind at *
      generalize s.n k = n at *
      generalize s.av k = va at *
      generalize s.s k = st at *
      generalize s.xs k = xs at *
      obtain ⟨aa, ca, rfl⟩ : ∃ aa ca, va = .slice aa xs.length ca := by obtain ⟨_, aa, ca, e, _⟩ := sa; exact ⟨aa, ca, e⟩
      have SA := hid sa
      have LA := hid la
      have LS := hid ls
      have N0 := hid n0
      have N1 := hid n1
      have HMM : Hid (len - (k + 1) < gk) := by unfold Hid; rw [HG.out]; omega
      have hw3 : IntKind.i64.wrap ((k : Int) + 1) = ((k + 1 : Nat) : Int) := by rw [wrap_is] <;> omega
      clear hc hc0 hc1 hc2 hc3 sa la ls n0 n1 HG
      obtain ⟨nx, hnx⟩ : ∃ nx, xs.length = nx := ⟨_, rfl⟩
      rw [hnx] at c1 SA
      clear hnx
      obtain ⟨V, hV⟩ : ∃ V, wr.alloc (.cells #[.int .i64 kind, .slice aa nx ca, .string st, .int .i64 n] 28) = V := ⟨_, rfl⟩
      obtain ⟨bb, szb⟩ := alo4 wr (.cells #[.int .i64 kind, .slice aa nx ca, .string st, .int .i64 n] 28)
      rw [hV] at bb szb
      have GV := hid (below_step HB.out bb)
      have hcel : V.heap[wr.heap.size]? = some (.cells #[.int .i64 kind, .slice aa nx ca, .string st, .int .i64 n] 28 (0, 0)) := by rw [← hV]; exact heap_alloc_new wr _
      have hblk : wr.heap.size < V.heap.size := by omega
      have HCE : Hid (∀ w', Below V.heap.size V w' → w'.cell? ⟨wr.heap.size, 0, none⟩ = some (.int .i64 kind) ∧ w'.cell? ⟨wr.heap.size, 1, none⟩ = some (.slice aa nx ca) ∧ w'.cell? ⟨wr.heap.size, 2, none⟩ = some (.string st) ∧ w'.cell? ⟨wr.heap.size, 3, none⟩ = some (.int .i64 n)) := fun w' h => by
        have q := (h.block _ hblk).trans hcel
        exact ⟨by simp [World.cell?, q], by simp [World.cell?, q], by simp [World.cell?, q], by simp [World.cell?, q]⟩
      have EV := hid hV
      obtain ⟨d0, d1, d2, d3⟩ := HCE.out V (Below.refl _ _)
      rw [← hV] at d0 d1 d2 d3
      clear bb szb hV hcel hblk
      have HNX : Hid (∀ wx, Below w.heap.size w wx → UTH w len (len - (k + 1)) (.int .i64 ((k + 1 : Nat) : Int)) wx) := fun wx h => ⟨k + 1, rfl, rfl, by omega, h⟩
      by_cases ha : kind < lo
      · replace HNX := hid (HNX.out _ GV.out)
        rw [← EV.out] at HNX
        clear GV HCE
        go_wp2_with fail
        go_roundg (len - (k + 1))
        case rel => exact HNX.out
        case measure => exact HMM.out
      · by_cases hb : hi < kind
        · replace HNX := hid (HNX.out _ GV.out)
          rw [← EV.out] at HNX
          clear GV HCE
          go_wp2_with fail
          go_roundg (len - (k + 1))
          case rel => exact HNX.out
          case measure => exact HMM.out
        · by_cases k1 : 1 ≤ kind
          · by_cases k4 : kind ≤ 4
            · have k5 : ¬ 5 ≤ kind := by omega
              go_wp2_with fail
              rw [EV.out]
              refine (texts_any (SA.out.now GV.out) LA.out (HT.out.now GV.out) kind st N0.out N1.out).mono ?_
              rintro e w3 ⟨rfl, q⟩
              replace HNX := hid (HNX.out _ (below_step GV.out q))
              obtain ⟨f0, f1, f2, f3⟩ := HCE.out w3 q
              clear q GV HCE EV d0 d1 d2 d3 c0 c1 c2 c3
              go_wp2_with fail
              go_roundg (len - (k + 1))
              case rel => exact HNX.out
              case measure => exact HMM.out
            · by_cases k7 : kind ≤ 7
              · have k5 : 5 ≤ kind := by omega
                have hrd : ReadsOk w := HR.out.resolve_left (by omega)
                have HRD := hid hrd
                clear hrd
                go_wp2_with fail
                rw [EV.out]
                refine (HRD.out V aa nx ca kind st n GV.out (HT.out.now GV.out) LS.out N0.out N1.out).mono ?_
                rintro e w3 ⟨rfl, q⟩
                replace HNX := hid (HNX.out _ (below_step GV.out q))
                clear q GV HCE EV d0 d1 d2 d3 c0 c1 c2 c3
                go_wp2_with fail
                go_roundg (len - (k + 1))
                case rel => exact HNX.out
                case measure => exact HMM.out
              · have k5 : 5 ≤ kind := by omega
                replace HNX := hid (HNX.out _ GV.out)
                rw [← EV.out] at HNX
                clear GV HCE
                go_wp2_with fail
                go_roundg (len - (k + 1))
                case rel => exact HNX.out
                case measure => exact HMM.out
          · have k5 : ¬ 5 ≤ kind := by omega
            replace HNX := hid (HNX.out _ GV.out)
            rw [← EV.out] at HNX
            clear GV HCE
            go_wp2_with fail
            go_roundg (len - (k + 1))
            case rel => exact HNX.out
            case measure => exact HMM.out
    · have hlt' : ¬ (k : Int) < (len : Int) := by omega
      clear HG
      go_wp2
      go_ret
      exact ⟨rfl, HB.out⟩

theorem radixTexts_any {w : World} {a : Option Addr} {len cap : Nat} {s : Steps4} (h : Script4 w a len cap s) (hT : Sg w) :
    Calls Tryd.prog 3 #[.slice a len cap] w fun e w' => e = .returned (.bool true) ∧ Below w.heap.size w w' := by
  have HC := hid (upTo4_any h hT 1 4 (.inl (by decide)))
  clear h hT
  go_enter Tryd.func3, Tryd.ntmps3
  go_wp2_with fail
  refine HC.out.mono ?_
  rintro e w1 ⟨rfl, hb⟩
  go_wp2
  go_ret
  exact ⟨rfl, hb⟩
end Go.Proofs.YtaflidiokhaljaaDoor

/- OpenS4 -/
namespace Go.Proofs.YtaflidiokhaljaaDoor
set_option linter.unusedVariables false
open Go.ChangeShapes Go.WideShapes Go.ChangeAt Go.RowKit

theorem Tryd.cellsOp : Tryd.prog.cellsOf 28 = 4 := by kernel_rfl
theorem Tryd.cellsS : Tryd.prog.cellsOf 26 = 1 := by kernel_rfl

theorem Tryd.cellsStr : Tryd.prog.cellsOf 9 = 1 := by kernel_rfl
set_option maxRecDepth 100000 in
/-- One step of a script, read. -/
theorem open_step4 {H : Type} {enc : TypeId × Value → H} {W : World} {fuel : Nat} {cs : List Value} {x : DataW H × List MemPlace}
    (hf : DataW.trod enc Tryd.prog W 0 (fun _ => true) true fuel 28 cs = some x) (hb : Rows.uptoBulk x.1 ≤ 1048576) :
    ∃ q : Int × Value × List Int × ByteArray × Int, cs = [.int .i64 q.1, q.2.1, .string q.2.2.2.1, .int .i64 q.2.2.2.2] ∧
      Sl W.heap.size W q.2.1 q.2.2.1 ∧ q.2.2.1.length ≤ 1048576 ∧ q.2.2.2.1.size ≤ 1048576 ∧
      -9223372036854775808 ≤ q.2.2.2.2 ∧ q.2.2.2.2 ≤ 9223372036854775807 := by
  obtain ⟨y0, y1, y2, y3, n, rfl, hl, t0, t1, t2, t3⟩ := Joins.trod_struct4 Tryd.underlying28 hf
  rw [Tryd.cellsOp] at hl
  simp only [Rows.uptoBulk, Rows.uptoBulkAll] at hb
  match cs, hl with
  | [c0, c1, c2, c3], _ =>
    simp only [Tryd.cellsI, Tryd.cellsS, Tryd.cellsStr, List.drop_zero, List.drop_succ_cons, List.take_succ_cons, List.take_zero] at t0 t1 t2 t3
    obtain ⟨k, e0, _, _⟩ := DataW.trod_int Tryd.underlying3 t0
    obtain ⟨m, e3, _, w3⟩ := DataW.trod_int Tryd.underlying3 t3
    obtain ⟨xs, sx, lx⟩ := open_words1 t1 (by omega)
    obtain ⟨st, e2, e2', _⟩ := DataW.trod_string Tryd.underlying9 t2
    simp only [List.cons.injEq, and_true] at e0 e2 e3
    subst e0 e2 e3
    have hst : st.size ≤ 1048576 := by
      have hb2 : Rows.uptoBulk y2.1 ≤ 1048576 := by omega
      rw [e2'] at hb2
      exact text_bulk hb2
    exact ⟨(k, c1, xs, st, m), rfl, sx, lx, hst, (int_bounds w3).1, (int_bounds w3).2⟩

theorem open_script4 {H : Type} {enc : TypeId × Value → H} {W : World} {a : Option Addr} {len cap : Nat} {d : DataW H} {p : List MemPlace}
    (h0 : DataW.Trod enc Tryd.prog W 0 (fun _ => true) true 22 (.slice a len cap) d p) (hb : Rows.uptoBulk d ≤ 1048576) :
    ∃ s, Script4 W a len cap s := by
  obtain ⟨fuel, hf⟩ := h0
  rcases Deep.open_slice Tryd.underlying22 hf with ⟨hcs, _⟩ | ⟨x, l, c, m, n, D, Pl, hcs, _, hl, hm, hmm, hx, hel⟩
  · simp [Value.cells] at hcs
    obtain ⟨rfl, rfl, rfl⟩ := hcs
    exact ⟨⟨fun _ => 0, fun _ => .slice none 0 0, fun _ => [], fun _ => ⟨#[]⟩, fun _ => 0⟩, Nat.le_refl _, Nat.zero_le _, fun k hk => absurd hk (Nat.not_lt_zero _), .inl rfl⟩
  · simp [Value.cells] at hcs
    obtain ⟨rfl, rfl, rfl⟩ := hcs
    simp only [if_true] at hmm
    subst hmm
    have hd : d = .slice ((List.range len).map D) ((List.range (m - len)).map fun j => D (len + j)) := congrArg Prod.fst hx
    rw [hd] at hb
    simp only [Rows.uptoBulk] at hb
    have e1 := bulk_len ((List.range len).map D)
    have e2 := bulk_len ((List.range (m - len)).map fun j => D (len + j))
    simp only [List.length_map, List.length_range] at e1 e2
    rw [Tryd.cellsOp] at hel
    obtain ⟨q, hq⟩ := Deep.choose_lt (α := Int × Value × List Int × ByteArray × Int) (n := len) (p := fun i q => W.cells? 0 (x.add (i * 4)) 4 = some [.int .i64 q.1, q.2.1, .string q.2.2.2.1, .int .i64 q.2.2.2.2] ∧
      Sl W.heap.size W q.2.1 q.2.2.1 ∧ q.2.2.1.length ≤ 1048576 ∧ q.2.2.2.1.size ≤ 1048576 ∧
      -9223372036854775808 ≤ q.2.2.2.2 ∧ q.2.2.2.2 ≤ 9223372036854775807) (fun i hi => by
        obtain ⟨cs', h1, h2⟩ := hel i (by omega)
        have hbi : Rows.uptoBulk (D i) ≤ 1048576 := by
          have := bulk_in (List.mem_map_of_mem (f := D) (List.mem_range.2 hi))
          omega
        obtain ⟨q, rfl, hq⟩ := open_step4 h2 hbi
        exact ⟨q, h1, hq⟩)
    refine ⟨⟨fun i => (q i).1, fun i => (q i).2.1, fun i => (q i).2.2.1, fun i => (q i).2.2.2.1, fun i => (q i).2.2.2.2⟩, hl, by omega, fun k hk => (hq k hk).2, ?_⟩
    by_cases he : len = 0
    · exact .inl he
    · obtain ⟨b, off, spot⟩ := x
      have hc := (World.cells?_some (hq 0 (by omega)).1).2.2 0 (by omega)
      rw [Deep.add_add] at hc
      simp only [Nat.zero_mul, Nat.add_zero, List.getElem?_cons_zero] at hc
      have hspot : spot = none := by simpa [Addr.add] using World.cell?_spot hc
      subst hspot
      refine .inr ⟨b, off, rfl, ?_, fun k hk => ?_⟩
      · have := World.block_lt_of_cell? W _ hc
        simpa [Addr.add] using this
      · have hk' := (World.cells?_some (hq k hk).1).2.2
        have e : ∀ j, (⟨b, off, none⟩ : Addr).add j = ⟨b, off + j, none⟩ := fun j => by unfold Addr.add; split <;> simp_all
        have c0 := hk' 0 (by omega)
        have c1 := hk' 1 (by omega)
        have c2 := hk' 2 (by omega)
        have c3 := hk' 3 (by omega)
        simp only [e] at c0 c1 c2 c3
        exact ⟨c0, c1, c2, c3⟩
end Go.Proofs.YtaflidiokhaljaaDoor
