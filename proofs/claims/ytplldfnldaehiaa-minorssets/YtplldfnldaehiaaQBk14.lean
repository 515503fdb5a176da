/-
  Bk14: Num; Apart of a book that holds lists of numbers alone.
-/
import Derived.Test.YtplldfnldaehiaaQBw14ToCg14
import Derived.Test.YtplldfnldaehiaaQSk14
namespace Go.Proofs.Ytplldfnldaehiaa
open Go.RowKit
set_option linter.unusedVariables false

theorem run_make0 (w : World) {T E : TypeId} (hu : Try.prog.underlying T = some (.slice E)) {z : Value} {sz by_ : Nat} (hinfo : (Try.prog.info? E).map (fun i => (i.zero, i.size, i.bytes)) = some (some z, sz, by_)) :
    ∃ w', (Instr.makeSlice T (.int .i64 0) (.int .i64 0)).run Try.prog w = .ok (.slice (some ⟨w.heap.size, 0, none⟩) 0 0) w' ∧ Below w.heap.size w w' := by
  obtain ⟨i, hi, hz, hs, hb⟩ := info_parts hinfo
  have hrun := run_make (P := Try.prog) w T E i z hu hi hz .i64 .i64 0 0 (by omega) (by omega) (by omega) (by omega)
  exact ⟨_, hrun, (Below.refl _ _).alloc (Nat.le_refl _) _⟩
theorem wpList_make0 (w : World) {ops : Array Oper} {rest : List Oper} {o : Oper} {a : Act} {Q : Exit → Act → World → Prop} {T E : TypeId} (hu : Try.prog.underlying T = some (.slice E)) {z : Value} {sz by_ : Nat} (hinfo : (Try.prog.info? E).map (fun i => (i.zero, i.size, i.bytes)) = some (some z, sz, by_))
    (hg : o.guard = none) (l c : Operand) (hop : o.op = Op.makeSlice T l c) (hl : a.eval l = .int .i64 0) (hc : a.eval c = .int .i64 0)
    (hK : ∀ w', Hid (Below w.heap.size w w') → wpList Try.prog ops Q rest (a.put o.dst (.slice (some ⟨w.heap.size, 0, none⟩) 0 0)) w') :
    wpList Try.prog ops Q (o :: rest) a w := by
  refine wpList_plain hg fun K hK' => ?_
  obtain ⟨w', hrun, hb⟩ := run_make0 w hu hinfo
  unfold Oper.wp
  simp [execOp, hop, hl, hc, hrun, Result.andThen]
  exact hK' _ _ (hK _ hb)
theorem Try.infoLW14 : (Try.prog.info? 39).map (fun i => (i.zero, i.size, i.bytes)) = some (some (.slice none 0 0), 1, 24) := by kernel_rfl
theorem Try.infoLZ14 : (Try.prog.info? 43).map (fun i => (i.zero, i.size, i.bytes)) = some (some (.slice none 0 0), 1, 24) := by kernel_rfl
set_option maxHeartbeats 1600000 in
set_option maxRecDepth 100000 in
theorem words_none {w : World} {bb : Nat} (h : w.cell? ⟨bb, 0, none⟩ = some (.slice none 0 0)) : Calls Try.prog 20 #[.pointer (some ⟨bb, 0, none⟩)] w fun e w' => e = .returned (.bool true) ∧ Below w.heap.size w w' := by
  have hbb : bb < w.heap.size := by
    obtain ⟨o, q1, q2⟩ := cell_cells h
    exact (Array.getElem?_eq_some_iff.1 q1).1
  have H0 := hid h
  have x0 := h
  clear h
  go_enter Try.func20, Try.ntmps20
  go_wp2_with fail
  clear x0
  go_loopw [3] (fun i wr => i = .int .i64 0 ∧ Hid (wr = w)) (fun _ _ => 0)
  case atStart => exact ⟨rfl, rfl⟩
  case round =>
    obtain ⟨rfl, HW⟩ := hrel
    rw [HW.out]
    clear HW
    have x0 := H0.out
    go_wp2_with (at_make; refine wpList_make0 _ Try.underlying33 Try.infoLW14 rfl _ _ rfl rfl rfl ?_)
    intro w2 hb
    have x1 : w2.cell? ⟨bb, 0, none⟩ = some (.slice none 0 0) := (hb.out.cell (p := ⟨bb, 0, none⟩) hbb).trans H0.out
    clear x0
    have X1 := hid x1
    go_wp2_with fail
    clear x1
    go_loopw [7] (fun i wr => i = .int .i64 0 ∧ Hid (wr = w2)) (fun _ _ => 0)
    case atStart => exact ⟨rfl, rfl⟩
    case round =>
      obtain ⟨rfl, HW⟩ := hrel
      rw [HW.out]
      clear HW
      have x1 := X1.out
      go_wp2_with fail
      clear x1
      go_loopw [10] (fun i wr => i = .int .i64 0 ∧ Hid (wr = w2)) (fun _ _ => 0)
      case atStart => exact ⟨rfl, rfl⟩
      case round =>
        obtain ⟨rfl, HW⟩ := hrel
        rw [HW.out]
        clear HW
        have x1 := X1.out
        go_wp2
        go_ret
        exact ⟨rfl, hb.out⟩
set_option maxHeartbeats 1600000 in
set_option maxRecDepth 100000 in
theorem ints_none {w : World} {bb : Nat} (h : w.cell? ⟨bb, 1, none⟩ = some (.slice none 0 0)) : Calls Try.prog 21 #[.pointer (some ⟨bb, 0, none⟩)] w fun e w' => e = .returned (.bool true) ∧ Below w.heap.size w w' := by
  have hbb : bb < w.heap.size := by
    obtain ⟨o, q1, q2⟩ := cell_cells h
    exact (Array.getElem?_eq_some_iff.1 q1).1
  have H0 := hid h
  have x0 := h
  clear h
  go_enter Try.func21, Try.ntmps21
  go_wp2_with fail
  clear x0
  go_loopw [3] (fun i wr => i = .int .i64 0 ∧ Hid (wr = w)) (fun _ _ => 0)
  case atStart => exact ⟨rfl, rfl⟩
  case round =>
    obtain ⟨rfl, HW⟩ := hrel
    rw [HW.out]
    clear HW
    have x0 := H0.out
    go_wp2_with (at_make; refine wpList_make0 _ Try.underlying34 Try.infoLZ14 rfl _ _ rfl rfl rfl ?_)
    intro w2 hb
    have x1 : w2.cell? ⟨bb, 1, none⟩ = some (.slice none 0 0) := (hb.out.cell (p := ⟨bb, 1, none⟩) hbb).trans H0.out
    clear x0
    have X1 := hid x1
    go_wp2_with fail
    clear x1
    go_loopw [7] (fun i wr => i = .int .i64 0 ∧ Hid (wr = w2)) (fun _ _ => 0)
    case atStart => exact ⟨rfl, rfl⟩
    case round =>
      obtain ⟨rfl, HW⟩ := hrel
      rw [HW.out]
      clear HW
      have x1 := X1.out
      go_wp2_with fail
      clear x1
      go_loopw [10] (fun i wr => i = .int .i64 0 ∧ Hid (wr = w2)) (fun _ _ => 0)
      case atStart => exact ⟨rfl, rfl⟩
      case round =>
        obtain ⟨rfl, HW⟩ := hrel
        rw [HW.out]
        clear HW
        have x1 := X1.out
        go_wp2
        go_ret
        exact ⟨rfl, hb.out⟩
set_option maxHeartbeats 1600000 in
set_option maxRecDepth 100000 in
theorem nums_none {w : World} {bb : Nat} (h : w.cell? ⟨bb, 2, none⟩ = some (.slice none 0 0)) : Calls Try.prog 22 #[.pointer (some ⟨bb, 0, none⟩)] w fun e w' => e = .returned (.bool true) ∧ Below w.heap.size w w' := by
  have hbb : bb < w.heap.size := by
    obtain ⟨o, q1, q2⟩ := cell_cells h
    exact (Array.getElem?_eq_some_iff.1 q1).1
  have H0 := hid h
  have x0 := h
  clear h
  go_enter Try.func22, Try.ntmps22
  go_wp2_with fail
  clear x0
  go_loopw [3] (fun i wr => i = .int .i64 0 ∧ Hid (wr = w)) (fun _ _ => 0)
  case atStart => exact ⟨rfl, rfl⟩
  case round =>
    obtain ⟨rfl, HW⟩ := hrel
    rw [HW.out]
    clear HW
    have x0 := H0.out
    go_wp2_with (at_make; refine wpList_make0 _ Try.underlying27 Try.infoLI14 rfl _ _ rfl rfl rfl ?_)
    intro w2 hb
    have x1 : w2.cell? ⟨bb, 2, none⟩ = some (.slice none 0 0) := (hb.out.cell (p := ⟨bb, 2, none⟩) hbb).trans H0.out
    clear x0
    have X1 := hid x1
    go_wp2_with fail
    clear x1
    go_loopw [7] (fun i wr => i = .int .i64 0 ∧ Hid (wr = w2)) (fun _ _ => 0)
    case atStart => exact ⟨rfl, rfl⟩
    case round =>
      obtain ⟨rfl, HW⟩ := hrel
      rw [HW.out]
      clear HW
      have x1 := X1.out
      go_wp2_with fail
      clear x1
      go_loopw [10] (fun i wr => i = .int .i64 0 ∧ Hid (wr = w2)) (fun _ _ => 0)
      case atStart => exact ⟨rfl, rfl⟩
      case round =>
        obtain ⟨rfl, HW⟩ := hrel
        rw [HW.out]
        clear HW
        have x1 := X1.out
        go_wp2
        go_ret
        exact ⟨rfl, hb.out⟩
set_option maxHeartbeats 1600000 in
set_option maxRecDepth 100000 in
/-- Apart of a book of numbers alone. -/
theorem apart14 {w : World} {bb : Nat} {v : Value} (h : Cel w bb 36 [.slice none 0 0, .slice none 0 0, v]) {S : Nat → Prop} (hN : ∀ w', Below w.heap.size w w' → Calls Try.prog 22 #[.pointer (some ⟨bb, 0, none⟩)] w' fun e w'' => e = .returned (.bool true) ∧ Touch S w' w'') :
    Calls Try.prog 12 #[.pointer (some ⟨bb, 0, none⟩)] w fun e w' => e = .returned (.bool true) ∧ Touch S w w' := by
  have HC := hid h
  have HN := hid hN
  have H1 := hid (words_none (h.at (i := 0) rfl))
  clear h hN
  go_enter Try.func12, Try.ntmps12
  go_wp2_with fail
  refine H1.out.mono ?_
  rintro e w1 ⟨rfl, b1⟩
  have B1 := hid b1
  have H2 := hid (ints_none ((HC.out.step b1).at (i := 1) rfl))
  clear b1 H1
  go_wp2_with fail
  refine H2.out.mono ?_
  rintro e w2 ⟨rfl, b2⟩
  have B2 := hid (below_step B1.out b2)
  have H3 := hid (HN.out w2 B2.out)
  clear b2 H2 B1
  go_wp2_with fail
  refine H3.out.mono ?_
  rintro e w3 ⟨rfl, t3⟩
  have FIN := hid ((Touch.ofBelow B2.out).trans t3)
  clear t3 H3 B2
  go_wp2
  go_ret
  exact ⟨rfl, FIN.out⟩
/-- One list more. -/
theorem wpList_append_one14 (w : World) {ops : Array Oper} {rest : List Oper} {o : Oper} {a : Act} {Q : Exit → Act → World → Prop}
    (hgd : o.guard = none) (s x : Operand) (hop : o.op = .call { callee := .builtin .append, args := #[s, x], argTypes := #[27, 27] })
    (B : Nat) (v : Value) (m : Nat) (us : List Value) (ua : Option Addr) (ul uc : Nat) (hs : a.eval s = v) (hP : w.ownsRow B 29 1 v m us) (gx : Nat) (hx : a.eval x = .slice (some ⟨gx, 0, none⟩) 1 1) (hc : w.cell? ⟨gx, 0, none⟩ = some (.slice ua ul uc)) (hlen : m ≤ 1000000) (hBs : B ≤ w.heap.size)
    (hK : ∀ g' cap' w', Hid (w'.ownsRow B 29 1 (.slice (some ⟨g', 0, none⟩) (m + 1) cap') (m + 1) (us ++ [.slice ua ul uc])) → Hid (w.grownBy w' v.ownBlock) → Hid (v.ownBlock = some g' ∨ g' = w.heap.size) → wpList Try.prog ops Q rest (a.put o.dst (.slice (some ⟨g', 0, none⟩) (m + 1) cap')) w') :
    wpList Try.prog ops Q (o :: rest) a w := by
  obtain ⟨i, hi, hz, hsz, hby⟩ := info_parts Try.infoLI14
  refine wpList_append_lies w hgd s x 27 hop B 29 i (.slice none 0 0) 1 24 Try.underlying27 hi hz hsz hby rfl (by omega) v m _ hs hP ⟨gx, 0, none⟩ 1 1 [.slice ua ul uc] hx rfl ?_ ?_ (by omega) (by unfold maxLen; omega) (by omega) hBs w.heap.size rfl ?_
  · intro j u' hj
    match j, hj with
    | 0, hj => simp at hj; subst hj; rw [head_add13]; exact hc
  · intro u' hu'
    simp at hu'
    subst hu'
    rfl
  · intro g' cap' w' k1 k2 k3 k4
    exact hK _ _ w' k1 k2 k3
set_option maxHeartbeats 1600000 in
set_option maxRecDepth 100000 in
theorem num_any14 {w : World} {bb B m : Nat} {na : Option Addr} {nl nc : Nat} {us : List Value} {ua : Option Addr} {ul uc : Nat} (h : Cel w bb 36 [.slice none 0 0, .slice none 0 0, .slice na nl nc]) (ho : w.ownsRow B 29 1 (.slice na nl nc) m us) (hm : m ≤ 1000000) (hB : B ≤ w.heap.size) :
    Calls Try.prog 11 #[.pointer (some ⟨bb, 0, none⟩), .slice ua ul uc] w fun e w' => e = .returned (.tuple #[]) ∧ ∃ g cap, Cel w' bb 36 [.slice none 0 0, .slice none 0 0, .slice (some ⟨g, 0, none⟩) (m + 1) cap] ∧ w'.ownsRow B 29 1 (.slice (some ⟨g, 0, none⟩) (m + 1) cap) (m + 1) (us ++ [.slice ua ul uc]) ∧ Touch (fun b => b = bb ∨ (Value.slice na nl nc).ownBlock = some b) w w' := by
  have HC := hid h
  obtain ⟨V, hV⟩ : ∃ V, w.alloc (.cells #[.slice ua ul uc] 29) = V := ⟨_, rfl⟩
  obtain ⟨bv, szv⟩ := alo1 w (.cells #[.slice ua ul uc] 29)
  rw [hV] at bv szv
  have CV : Hid (V.cell? ⟨w.heap.size, 0, none⟩ = some (.slice ua ul uc)) := by unfold Hid; rw [← hV]; exact (Cel.new w 29 [.slice ua ul uc]).at (i := 0) rfl
  have OV : Hid (V.ownsRow B 29 1 (.slice na nl nc) m us) := owns_keep ho fun b _ hlt => bv.block b hlt
  have CB := hid (h.step bv)
  have BV := hid bv
  have EV := hid hV
  have hBs : B ≤ V.heap.size := by omega
  have x0 := h.at (i := 2) rfl
  clear h ho bv szv hV
  go_enter Try.func11, Try.ntmps11
  go_wp2_with (at_builtin; rw [EV.out]; refine wpList_append_one14 V rfl (.tmp 8) (.tmp 10) rfl B _ m us ua ul uc rfl OV.out w.heap.size rfl CV.out hm hBs ?_)
  intro g' cap' w3 hI hg hb
  have tg : Ty 29 V w3 := ⟨hg.out.size, fun b L T fr e hne => (hg.out.block b (Array.getElem?_eq_some_iff.1 e).1 (fun q => by
    obtain ⟨_, ⟨r2, _⟩ | ⟨g2, cap, cur, r2, r3, r4, r5⟩⟩ := OV.out
    · rw [r2] at q; cases q
    · rw [r2] at q
      simp only [Value.ownBlock, Option.some.injEq] at q
      subst q
      rw [r4, Option.some.injEq, Obj.cells.injEq] at e
      exact hne e.2.1.symm)).trans e⟩
  have C3 := hid (CB.out.ty13 tg (by decide))
  have y0 := C3.out.at (i := 2) rfl
  have y1 := C3.out.fz 2
  obtain ⟨U, hU⟩ : ∃ U, w3.setCell ⟨bb, 2, none⟩ (.slice (some ⟨g', 0, none⟩) (m + 1) cap') = U := ⟨_, rfl⟩
  have FIN : Hid (∃ g cap, Cel U bb 36 [.slice none 0 0, .slice none 0 0, .slice (some ⟨g, 0, none⟩) (m + 1) cap] ∧ U.ownsRow B 29 1 (.slice (some ⟨g, 0, none⟩) (m + 1) cap) (m + 1) (us ++ [.slice ua ul uc]) ∧ Touch (fun b => b = bb ∨ (Value.slice na nl nc).ownBlock = some b) w U) := by
    refine ⟨g', cap', by rw [← hU]; exact C3.out.set 2 _, ?_, ?_⟩
    · rw [← hU]
      have ts := Ty.set (i := 2) (u := .slice (some ⟨g', 0, none⟩) (m + 1) cap') C3.out
      refine owns_keep hI.out fun b hb2 hlt => ?_
      obtain ⟨_, ⟨r2, _⟩ | ⟨g2, cap, cur, r2, r3, r4, r5⟩⟩ := hI.out
      · cases r2
      · simp only [Value.slice.injEq, Option.some.injEq, Addr.mk.injEq, and_true] at r2
        obtain ⟨rfl, _, rfl⟩ := r2
        simp only [Value.ownBlock, Option.some.injEq] at hb2
        subst hb2
        rw [r4]
        exact ts.2 _ _ _ _ r4 (by decide)
    · rw [← hU]
      exact ((Touch.ofBelow BV.out).grown hg.out (fun q hq => .inr (.inr hq))).setCell (.inr (.inl rfl)) 2 _
  have EU := hid hU
  clear hI hg hb tg C3 CB OV CV BV EV hU
  go_wp2
  rw [EU.out]
  go_end0
  exact ⟨rfl, FIN.out⟩
theorem Ivs.owI14 {B : Nat} {w : World} {u : Value} {l : List Nat} (h : Ivs B w u l) : OwI w u (l.map fun (a : Nat) => (a : Int)) := by
  have e : wi10 (l.map fun (a : Nat) => (a : Int)) = l.map fun (a : Nat) => Value.int .i64 (a : Int) := by simp [wi10]
  refine .inl ?_
  rw [e, List.length_map]
  exact owns_mono11 h (Nat.zero_le _)
/-- The book of the choices that are kept. -/
theorem GotV.book14 {n k : Int} {B T m bb gb nc : Nat} {X6 wz : World} {gv : Value} {vs : List Value} (h : GotV n k B T X6 gv m vs) (hT : T ≤ X6.heap.size) (hm : m ≤ 400) (hl : ∀ i, i < m → ((stsI n k).getD i []).length ≤ 64) (hC : Cel wz bb 36 [.slice none 0 0, .slice none 0 0, .slice (some ⟨gb, 0, none⟩) m nc]) (hbb : X6.heap.size ≤ bb)
    (ho : wz.ownsRow X6.heap.size 29 1 (.slice (some ⟨gb, 0, none⟩) m nc) m vs) (hb : Below X6.heap.size X6 wz) : BkI wz bb gb m (fun i => vs.getD i undef) (fun i => ((stsI n k).getD i []).length) := by
  obtain ⟨h1, h2, h3, h4⟩ := h
  have hgb : X6.heap.size ≤ gb ∧ gb < wz.heap.size := by
    obtain ⟨_, ⟨r2, _⟩ | ⟨g2, cap, cur, r2, r3, r4, r5⟩⟩ := ho
    · cases r2
    · simp only [Value.slice.injEq, Option.some.injEq, Addr.mk.injEq, and_true] at r2
      obtain ⟨rfl, _⟩ := r2
      exact ⟨r3, (Array.getElem?_eq_some_iff.1 r4).1⟩
  have hget : ∀ i, i < m → vs[i]? = some (vs.getD i undef) := fun i hi => by
    have : i < vs.length := by omega
    simp [this]
  have hlt : ∀ i g, i < m → (vs.getD i undef).ownBlock = some g → g < X6.heap.size := fun i g hi hg => Nat.lt_of_lt_of_le ((h3 i _ (hget i hi)).2 g hg) hT
  refine ⟨by omega, hC.blk, hgb.2, ⟨nc, hC.at (i := 2) rfl⟩, fun i hi => ?_, fun i hi => ⟨_, by rw [List.length_map], ((h3 i _ (hget i hi)).1.keep fun b L hb2 e => (hb.block b (hlt i b hi hb2)).trans e).owI14⟩, fun i hi => by have := hl i hi; omega, fun i j hi hj hne g hg => h4 i j _ _ g hne (hget i hi) (hget j hj) hg, ?_, ?_⟩
  · rw [ho.cellAt i (by omega)]
    exact hget i hi
  · rintro ⟨i, hi, hg⟩
    have := hlt i _ hi hg
    omega
  · rintro ⟨i, hi, hg⟩
    have := hlt i _ hi hg
    omega
end Go.Proofs.Ytplldfnldaehiaa
