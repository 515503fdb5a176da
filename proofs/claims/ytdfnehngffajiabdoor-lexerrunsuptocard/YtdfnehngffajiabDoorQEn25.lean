/-
  En25: the program's end: what closes a run.
-/
import Derived.Test.YtdfnehngffajiabDoorQKo25ToCu25
import Derived.Test.YtdfnehngffajiabDoorQTail
import Derived.Deep.AppendLies
import Derived.Deep.Slices
namespace Go.Proofs.YtdfnehngffajiabDoor
open Go.RowKit
set_option linter.unusedVariables false

theorem below_step {w0 w w' : World} (h : Below w0.heap.size w0 w) (k : Below w.heap.size w w') : Below w0.heap.size w0 w' := h.trans (k.mono h.size)
theorem alo1 (w : World) (o1 : Obj) : Below w.heap.size w (w.alloc o1) ∧ (w.alloc o1).heap.size = w.heap.size + 1 := ⟨(Below.refl _ _).alloc (Nat.le_refl _) _, by simp⟩
theorem cnow {w w' : World} {p : Addr} {v : Value} (h : Below w.heap.size w w') (k : w.cell? p = some v) : w'.cell? p = some v := (h.cell (World.block_lt_of_cell? w p k)).trans k
theorem step_append_tok25 (w : World) {ops : Array Oper} {o : Oper} {a : Act} {K : Act → World → Prop} {Q : Exit → Act → World → Prop} {E : Prop}
    (hgd : o.guard = none) (s x : Operand) (hop : o.op = .call { callee := .builtin .append, args := #[s, x], argTypes := #[23, 23] })
    (B : Nat) (v : Value) (L : List Tok) (t : Tok) (hs : a.eval s = v) (hB : Toks B w v L) (g : Nat) (hx : a.eval x = .slice (some ⟨g, 0, none⟩) 1 1) (hc0 : w.cell? ⟨g, 0, none⟩ = some (.int .i64 t.k)) (hc1 : w.cell? ⟨g, 1, none⟩ = some (.string t.x)) (hc2 : w.cell? ⟨g, 2, none⟩ = some (.int .i64 t.c)) (hlen : L.length ≤ 1000000000000) (hBs : B ≤ w.heap.size)
    (hK : ∀ m a' cap' w', Hid (m = L.length + 1) → Hid (Toks B w' (.slice a' m cap') (L ++ [t])) → Hid (Below B w w') → K (a.put o.dst (.slice a' m cap')) w') :
    if Region.wanted o (yielded ops a.tmps) = true then Oper.wp Tryd.prog o a w K Q else E := by
  obtain ⟨i, hi, hz, hsz, hby⟩ := info_parts Tryd.infoTk25
  refine step_append_lies w hgd s x 23 hop B 30 i (.agg #[.int .i64 0, .string ⟨#[]⟩, .int .i64 0]) 3 32 Tryd.underlying23 hi hz hsz hby rfl (by omega) v L.length (tokV L) hs hB ⟨g, 0, none⟩ 1 1 (tokV [t]) hx rfl ?_ (tokV_one [t]) (by omega) (by unfold maxLen; omega) (by omega) hBs w.heap.size rfl ?_
  · intro j u' hj
    match j, hj with
    | 0, hj => simp [tokV] at hj; subst hj; rw [head_add25]; exact hc0
    | 1, hj => simp [tokV] at hj; subst hj; rw [head_add25]; exact hc1
    | 2, hj => simp [tokV] at hj; subst hj; rw [head_add25]; exact hc2
  · intro g' cap' w' k1 k2 k3 k4
    refine hK _ _ _ w' rfl ?_ ?_
    · unfold Hid Toks
      rw [tokV_app, List.length_append, List.length_singleton]
      exact k1
    · refine ⟨k2.os, k2.tape, k2.output, k2.size, fun k hk => k2.block k (by omega) (fun e => ?_)⟩
      obtain ⟨_, ⟨q, _⟩ | ⟨g1, cap1, cur, q, q3, _⟩⟩ := hB
      · rw [q] at e; cases e
      · rw [q] at e
        obtain rfl : k = g1 := by simpa [Value.ownBlock] using e
        omega
/-- Blocks below B stay, but for the block c; and all below c. -/
def Bc (c B : Nat) (w w' : World) : Prop := Below c w w' ∧ ∀ i, i < B → i ≠ c → w'.heap[i]? = w.heap[i]?
theorem Bc.refl (c B : Nat) (w : World) : Bc c B w w := ⟨Below.refl _ _, fun _ _ _ => rfl⟩
theorem Bc.trans {c B : Nat} {a b d : World} (h : Bc c B a b) (k : Bc c B b d) : Bc c B a d := ⟨h.1.trans k.1, fun i h1 h2 => (k.2 i h1 h2).trans (h.2 i h1 h2)⟩
theorem Bc.drew {c B : Nat} {a b : World} (h : Bc c B a b) : Bc c B a b.drew := ⟨h.1.drew, h.2⟩
theorem Bc.set {c B : Nat} {a b : World} (h : Bc c B a b) (i : Nat) (v : Value) : Bc c B a (b.setCell ⟨c, i, none⟩ v) := ⟨h.1.setCell (p := ⟨c, i, none⟩) (Nat.le_refl _) v, fun k h1 h2 => (Below.heap_setCell _ _ _ _ (fun e => h2 (by simpa using e))).trans (h.2 k h1 h2)⟩
theorem Bc.of {c B : Nat} {a b : World} (h : Below B a b) (hc : c < B) : Bc c B a b := ⟨h.mono (Nat.le_of_lt hc), fun i h1 _ => h.block i h1⟩
/-- A run of digits and '_' that is a number's. -/
def okN (x : ByteArray) : Bool := !(Lib.hasSuffix x.data.toList [95] || Lib.contains x.data.toList [95, 95])
/-- What end answers at the place p. -/
def EndD (w : World) (c B : Nat) (s : ByteArray) (lv : Value) (col op bb rc : Nat) (cm : Bool) (ft : Int) (L : List Tok) (p : Nat) (y : Ending) (w' : World) : Prop :=
  Bc c B w w' ∧ ((op = 0 ∧ y = .returned (.int .i64 0) ∧ w' = w) ∨
  (op = 1 ∧ okN (s.extract bb p) = false ∧ y = .returned (.int .i64 7) ∧ ∃ lv, Cu w' c s lv col op bb rc cm rc) ∨
  (op = 2 ∧ 32 < p - bb ∧ y = .returned (.int .i64 17) ∧ ∃ lv, Cu w' c s lv col op bb rc cm rc) ∨
  ((op = 1 ∧ okN (s.extract bb p) = true ∨ op = 2 ∧ ¬ 32 < p - bb) ∧ y = .returned (.int .i64 0) ∧ ∃ lv', Cu w' c s lv' col 0 bb rc cm ft ∧ Toks B w' lv' (L ++ [⟨(op : Int), s.extract bb p, (rc : Int)⟩])))
variable {w : World} {c B : Nat} {s : ByteArray} {lv : Value} {col op bb rc : Nat} {cm : Bool} {ft : Int} {L : List Tok} {p : Nat}
set_option maxHeartbeats 3200000 in
set_option maxRecDepth 100000 in
theorem end25 (hC : Cu w c s lv col op bb rc cm ft) (hT : Toks B w lv L) (hcB : c < B) (hBw : B ≤ w.heap.size) (hm : MaxL w) (hg : 0 < c) (hs : s.size ≤ 1000000000) (ho : op = 0 ∨ op = 1 ∨ op = 2) (hb : op ≠ 0 → bb ≤ p) (hp : p ≤ s.size) (hL : L.length ≤ 1000000000000) : Calls Tryd.prog 13 #[.pointer (some ⟨c, 0, none⟩), .int .i64 (p : Int)] w (EndD w c B s lv col op bb rc cm ft L p) := by
  obtain ⟨la, ll, lc, hlv⟩ : ∃ a n k, lv = .slice a n k := by obtain ⟨a, k, e⟩ := hT.form; exact ⟨a, _, k, e⟩
  subst hlv
  by_cases h0 : op = 0
  · subst h0
    have k3 := hC.at (i := 3) rfl
    have FIN : Hid (EndD w c B s (.slice la ll lc) col 0 bb rc cm ft L p (.returned (.int .i64 0)) w) := hid ⟨Bc.refl _ _ _, .inl ⟨rfl, rfl, rfl⟩⟩
    clear hC hT
    go_enter Tryd.func13, Tryd.ntmps13
    go_wp2
    go_ret
    exact FIN.out
  have e0 : ((op : Int) == 0) = false := by rw [beq_eq_false_iff_ne]; omega
  replace hb := hb h0
  have i1 : (0 : Int) ≤ (bb : Int) := by omega
  have i2 : (bb : Int) ≤ (p : Int) := by omega
  have i3 : (p : Int) ≤ (s.size : Int) := by omega
  have k0 := hC.at (i := 0) rfl
  have k3 := hC.at (i := 3) rfl
  have k4 := hC.at (i := 4) rfl
  have HCC := hid hC
  have HTT := hid hT
  have HMM := hid hm
  clear hC hT hm
  go_enter Tryd.func13, Tryd.ntmps13
  go_wp2_with fail
  go_region
  have HC1 : Hid (Cu w.drew c s (.slice la ll lc) col op bb rc cm ft) := hid HCC.out
  have HT1 : Hid (Toks B w.drew (.slice la ll lc) L) := hid HTT.out
  have HM1 : Hid (MaxL w.drew) := hid HMM.out
  have HB1 : Hid (Bc c B w w.drew) := hid (Bc.refl _ _ _).drew
  have HZ : Hid (B ≤ w.drew.heap.size) := hid hBw
  clear HCC HTT HMM k0 k3 k4
  generalize w.drew = w1 at *
  obtain ⟨x, hx⟩ : ∃ x, s.extract bb p = x := ⟨_, rfl⟩
  have hxs : x.size = p - bb := by rw [← hx, ByteArray.size_extract, Nat.min_eq_left hp]
  have hx9 : x.size ≤ 1000000000 := by omega
  have HX := hid hx
  have HXS := hid hxs
  rw [hx]
  clear hx hxs
  have HS := hid (hasSuffix25 x ⟨#[95]⟩ w1 (by omega))
  have HN := hid (contains25 x ⟨#[95, 95]⟩ w1 (by omega) HM1.out)
  have HW := hid (wrong25 HC1.out)
  by_cases h1 : op = 1
  · subst h1
    have HS' : Hid (Lib.hasSuffix x.data.toList [95] = true ∨ Lib.hasSuffix x.data.toList [95] = false) := hid (by cases Lib.hasSuffix x.data.toList [95]; exact .inr rfl; exact .inl rfl)
    rcases HS'.out with hq | hq
    · have hok : okN x = false := by unfold okN; rw [hq]; rfl
      have OKX : Hid (okN (s.extract bb p) = false) := hid (by rw [HX.out]; exact hok)
      change Hid (Calls _ _ _ _ fun e w' => e = .returned (.bool (Lib.hasSuffix x.data.toList [95])) ∧ w' = w1) at HS
      rw [hq] at HS
      clear hq hok HN HS'
      have k3 := HC1.out.at (i := 3) rfl
      have k5 := HC1.out.at (i := 5) rfl
      have CF : Hid (Cu (w1.setCell ⟨c, 7, none⟩ (.int .i64 (rc : Int))) c s (.slice la ll lc) col 1 bb rc cm rc) := hid (HC1.out.set 7 _)
      have BF : Hid (Bc c B w (w1.setCell ⟨c, 7, none⟩ (.int .i64 (rc : Int)))) := hid (HB1.out.set 7 _)
      clear HC1 HT1 HM1 HB1
      go_wp2_with fail
      refine HS.out.mono ?_
      rintro e w2 ⟨rfl, hw2⟩
      obtain rfl := hw2.symm
      clear HS
      go_wp2_with fail
      refine (HW.out _ _).mono ?_
      rintro e w3 ⟨rfl, hw3⟩
      obtain rfl := hw3.symm
      clear HW k3 k5
      go_wp2
      go_ret
      exact ⟨BF.out, .inr (.inl ⟨rfl, OKX.out, rfl, _, CF.out⟩)⟩
    · change Hid (Calls _ _ _ _ fun e w' => e = .returned (.bool (Lib.hasSuffix x.data.toList [95])) ∧ w' = w1) at HS
      change Hid (Calls _ _ _ _ fun e w' => e = .returned (.bool (Lib.contains x.data.toList [95, 95])) ∧ w' = w1) at HN
      rw [hq] at HS
      by_cases hn : Lib.contains x.data.toList [95, 95] = true
      · have hok : okN x = false := by unfold okN; rw [hq, hn]; rfl
        have OKX : Hid (okN (s.extract bb p) = false) := hid (by rw [HX.out]; exact hok)
        rw [hn] at HN
        clear hq hn hok HS'
        have k3 := HC1.out.at (i := 3) rfl
        have k5 := HC1.out.at (i := 5) rfl
        have CF : Hid (Cu (w1.setCell ⟨c, 7, none⟩ (.int .i64 (rc : Int))) c s (.slice la ll lc) col 1 bb rc cm rc) := hid (HC1.out.set 7 _)
        have BF : Hid (Bc c B w (w1.setCell ⟨c, 7, none⟩ (.int .i64 (rc : Int)))) := hid (HB1.out.set 7 _)
        clear HC1 HT1 HM1 HB1
        go_wp2_with fail
        refine HS.out.mono ?_
        rintro e w2 ⟨rfl, hw2⟩
        obtain rfl := hw2.symm
        clear HS
        go_wp2_with fail
        refine HN.out.mono ?_
        rintro e w2 ⟨rfl, hw2⟩
        obtain rfl := hw2.symm
        clear HN
        go_wp2_with fail
        refine (HW.out _ _).mono ?_
        rintro e w3 ⟨rfl, hw3⟩
        obtain rfl := hw3.symm
        clear HW k3 k5
        go_wp2
        go_ret
        exact ⟨BF.out, .inr (.inl ⟨rfl, OKX.out, rfl, _, CF.out⟩)⟩
      · have hn' : Lib.contains x.data.toList [95, 95] = false := by simpa using hn
        have hok : okN x = true := by unfold okN; rw [hq, hn']; rfl
        have OKX : Hid (okN (s.extract bb p) = true) := hid (by rw [HX.out]; exact hok)
        rw [hn'] at HN
        have k3 := HC1.out.at (i := 3) rfl
        clear hq hn hn' hok HS' HW
        go_wp2_with fail
        refine HS.out.mono ?_
        rintro e w2 ⟨rfl, hw2⟩
        obtain rfl := hw2.symm
        clear HS
        go_wp2_with fail
        refine HN.out.mono ?_
        rintro e w2 ⟨rfl, hw2⟩
        obtain rfl := hw2.symm
        clear HN
        go_wp2_with fail
        clear k3
        obtain ⟨u1, hu1⟩ : ∃ u, u = w1.heap.size := ⟨_, rfl⟩
        have k1 := HC1.out.at (i := 1) rfl
        have k3 : w1.cell? ⟨c, 3, none⟩ = some (.int .i64 1) := HC1.out.at (i := 3) rfl
        have k5 := HC1.out.at (i := 5) rfl
        have hcl := HC1.out.lt
        have KB : Hid (∀ w', Below w1.heap.size w1 w' → w'.cell? ⟨c, 1, none⟩ = some (.slice la ll lc) ∧ w'.cell? ⟨c, 3, none⟩ = some (.int .i64 1) ∧ w'.cell? ⟨c, 5, none⟩ = some (.int .i64 (rc : Int))) := fun w' h => ⟨cnow h k1, cnow h k3, cnow h k5⟩
        refine wp_region_tail (fun w' => w'.cell? ⟨c, 1, none⟩ = some (.slice la ll lc) ∧ w'.cell? ⟨c, 3, none⟩ = some (.int .i64 1) ∧ w'.cell? ⟨c, 5, none⟩ = some (.int .i64 (rc : Int))) 19 (by kernel_rfl) ?_
        obtain ⟨D21, hD⟩ : ∃ D21, w1.drew = D21 := ⟨_, rfl⟩
        have GB : Hid (Below w1.heap.size w1 D21) := by unfold Hid; rw [← hD]; exact (Below.refl _ _).drew
        rw [hD]
        clear hD
        have KC := hid (KB.out _ GB.out)
        refine wpAnyT_take (i := 0) (oi := { dst := some 58, op := Op.move (Operand.tmp 0), type := 57, pos := "cutter.go:79", after := #[], guard := none }) (v := (.pointer (some ⟨c, 0, none⟩))) rfl (by kernel_rfl) (fun _ _ _ h => h) (Or.inl ⟨by rfl, ?_⟩) (KC.out) ?_
        · intro w hSw
          (try dsimp only at hSw)
          go_simp
        simp only [Act.put, List.setIfInBounds_toArray, List.set_cons_zero, List.set_cons_succ]
        refine wpAnyT_take (i := 1) (oi := { dst := some 59, op := Op.move (Operand.tmp 0), type := 57, pos := "cutter.go:79", after := #[], guard := none }) (v := (.pointer (some ⟨c, 0, none⟩))) rfl (by kernel_rfl) (fun _ _ _ h => h) (Or.inl ⟨by rfl, ?_⟩) (KC.out) ?_
        · intro w hSw
          (try dsimp only at hSw)
          go_simp
        simp only [Act.put, List.setIfInBounds_toArray, List.set_cons_zero, List.set_cons_succ]
        refine wpAnyT_take (i := 2) (oi := { dst := some 60, op := Op.nilCheck (Operand.tmp 59), type := 0, pos := "cutter.go:79", after := #[{ on := 1, ground := Ground.data }], guard := none }) (v := (.pointer (some ⟨c, 0, none⟩))) rfl (by kernel_rfl) (fun _ _ _ h => h) (Or.inl ⟨by rfl, ?_⟩) (KC.out) ?_
        · intro w hSw
          (try dsimp only at hSw)
          go_simp
        simp only [Act.put, List.setIfInBounds_toArray, List.set_cons_zero, List.set_cons_succ]
        refine wpAnyT_take (i := 3) (oi := { dst := some 61, op := Op.fieldAddr 44 (Operand.tmp 60) 1, type := 0, pos := "cutter.go:79", after := #[{ on := 2, ground := Ground.data }], guard := none }) (v := (.pointer (some ⟨c, 1, none⟩))) rfl (by kernel_rfl) (fun _ _ _ h => h) (Or.inl ⟨by rfl, ?_⟩) (KC.out) ?_
        · intro w hSw
          (try dsimp only at hSw)
          go_simp
        simp only [Act.put, List.setIfInBounds_toArray, List.set_cons_zero, List.set_cons_succ]
        refine wpAnyT_take (i := 4) (oi := { dst := some 62, op := Op.load 23 (Operand.tmp 61), type := 23, pos := "cutter.go:79", after := #[{ on := 3, ground := Ground.data }], guard := none }) (v := (.slice la ll lc)) rfl (by kernel_rfl) (fun _ _ _ h => h) (Or.inl ⟨by rfl, ?_⟩) (KC.out) ?_
        · intro w hSw
          (try dsimp only at hSw)
          go_simp
        simp only [Act.put, List.setIfInBounds_toArray, List.set_cons_zero, List.set_cons_succ]
        refine wpAnyT_take (i := 5) (oi := { dst := some 63, op := Op.move (Operand.tmp 0), type := 57, pos := "cutter.go:79", after := #[], guard := none }) (v := (.pointer (some ⟨c, 0, none⟩))) rfl (by kernel_rfl) (fun _ _ _ h => h) (Or.inl ⟨by rfl, ?_⟩) (KC.out) ?_
        · intro w hSw
          (try dsimp only at hSw)
          go_simp
        simp only [Act.put, List.setIfInBounds_toArray, List.set_cons_zero, List.set_cons_succ]
        refine wpAnyT_take (i := 6) (oi := { dst := some 64, op := Op.nilCheck (Operand.tmp 63), type := 0, pos := "cutter.go:79", after := #[{ on := 5, ground := Ground.data }], guard := none }) (v := (.pointer (some ⟨c, 0, none⟩))) rfl (by kernel_rfl) (fun _ _ _ h => h) (Or.inl ⟨by rfl, ?_⟩) (KC.out) ?_
        · intro w hSw
          (try dsimp only at hSw)
          go_simp
        simp only [Act.put, List.setIfInBounds_toArray, List.set_cons_zero, List.set_cons_succ]
        refine wpAnyT_take (i := 7) (oi := { dst := some 65, op := Op.fieldAddr 44 (Operand.tmp 64) 3, type := 0, pos := "cutter.go:79", after := #[{ on := 6, ground := Ground.data }], guard := none }) (v := (.pointer (some ⟨c, 3, none⟩))) rfl (by kernel_rfl) (fun _ _ _ h => h) (Or.inl ⟨by rfl, ?_⟩) (KC.out) ?_
        · intro w hSw
          (try dsimp only at hSw)
          go_simp
        simp only [Act.put, List.setIfInBounds_toArray, List.set_cons_zero, List.set_cons_succ]
        refine wpAnyT_take (i := 8) (oi := { dst := some 66, op := Op.load 3 (Operand.tmp 65), type := 3, pos := "cutter.go:79", after := #[{ on := 7, ground := Ground.data }], guard := none }) (v := (.int .i64 1)) rfl (by kernel_rfl) (fun _ _ _ h => h) (Or.inl ⟨by rfl, ?_⟩) (KC.out) ?_
        · intro w hSw
          (try dsimp only at hSw)
          go_simp
        simp only [Act.put, List.setIfInBounds_toArray, List.set_cons_zero, List.set_cons_succ]
        refine wpAnyT_take (i := 9) (oi := { dst := some 67, op := Op.move (Operand.tmp 5), type := 9, pos := "cutter.go:79", after := #[], guard := none }) (v := (.string x)) rfl (by kernel_rfl) (fun _ _ _ h => h) (Or.inl ⟨by rfl, ?_⟩) (KC.out) ?_
        · intro w hSw
          (try dsimp only at hSw)
          go_simp
        simp only [Act.put, List.setIfInBounds_toArray, List.set_cons_zero, List.set_cons_succ]
        refine wpAnyT_take (i := 10) (oi := { dst := some 68, op := Op.move (Operand.tmp 0), type := 57, pos := "cutter.go:79", after := #[], guard := none }) (v := (.pointer (some ⟨c, 0, none⟩))) rfl (by kernel_rfl) (fun _ _ _ h => h) (Or.inl ⟨by rfl, ?_⟩) (KC.out) ?_
        · intro w hSw
          (try dsimp only at hSw)
          go_simp
        simp only [Act.put, List.setIfInBounds_toArray, List.set_cons_zero, List.set_cons_succ]
        refine wpAnyT_take (i := 11) (oi := { dst := some 69, op := Op.nilCheck (Operand.tmp 68), type := 0, pos := "cutter.go:79", after := #[{ on := 10, ground := Ground.data }], guard := none }) (v := (.pointer (some ⟨c, 0, none⟩))) rfl (by kernel_rfl) (fun _ _ _ h => h) (Or.inl ⟨by rfl, ?_⟩) (KC.out) ?_
        · intro w hSw
          (try dsimp only at hSw)
          go_simp
        simp only [Act.put, List.setIfInBounds_toArray, List.set_cons_zero, List.set_cons_succ]
        refine wpAnyT_take (i := 12) (oi := { dst := some 70, op := Op.fieldAddr 44 (Operand.tmp 69) 5, type := 0, pos := "cutter.go:79", after := #[{ on := 11, ground := Ground.data }], guard := none }) (v := (.pointer (some ⟨c, 5, none⟩))) rfl (by kernel_rfl) (fun _ _ _ h => h) (Or.inl ⟨by rfl, ?_⟩) (KC.out) ?_
        · intro w hSw
          (try dsimp only at hSw)
          go_simp
        simp only [Act.put, List.setIfInBounds_toArray, List.set_cons_zero, List.set_cons_succ]
        refine wpAnyT_take (i := 13) (oi := { dst := some 71, op := Op.load 3 (Operand.tmp 70), type := 3, pos := "cutter.go:79", after := #[{ on := 12, ground := Ground.data }], guard := none }) (v := (.int .i64 (rc : Int))) rfl (by kernel_rfl) (fun _ _ _ h => h) (Or.inl ⟨by rfl, ?_⟩) (KC.out) ?_
        · intro w hSw
          (try dsimp only at hSw)
          go_simp
        simp only [Act.put, List.setIfInBounds_toArray, List.set_cons_zero, List.set_cons_succ]
        refine wpAnyT_take (i := 14) (oi := { dst := some 72, op := Op.build 30 #[(0, Operand.tmp 66), (1, Operand.tmp 67), (2, Operand.tmp 71)], type := 30, pos := "cutter.go:79", after := #[{ on := 8, ground := Ground.data }, { on := 9, ground := Ground.data }, { on := 13, ground := Ground.data }], guard := none }) (v := (.agg #[.int .i64 1, .string x, .int .i64 (rc : Int)])) rfl (by kernel_rfl) (fun _ _ _ h => h) (Or.inl ⟨by rfl, ?_⟩) (KC.out) ?_
        · intro w hSw
          (try dsimp only at hSw)
          go_simp
        simp only [Act.put, List.setIfInBounds_toArray, List.set_cons_zero, List.set_cons_succ]
        refine wpAnyT_one (i := 15) (o := { dst := some 73, op := Op.buildSlice 23 1 #[(0, Operand.tmp 72)], type := 23, pos := "cutter.go:79", after := #[{ on := 14, ground := Ground.data }], guard := none }) (by kernel_rfl) rfl (fun K hK => ?_)
        go_simp
        obtain ⟨V22, hW⟩ : ∃ V, D21.alloc (.cells #[.int .i64 1, .string x, .int .i64 (rc : Int)] 30) = V := ⟨_, rfl⟩
        obtain ⟨b, sz0⟩ := alo1 D21 (.cells #[.int .i64 1, .string x, .int .i64 (rc : Int)] 30)
        have y0 : Hid ((D21.alloc (.cells #[.int .i64 1, .string x, .int .i64 (rc : Int)] 30)).cell? ⟨D21.heap.size, 0, none⟩ = some (.int .i64 1)) := hid (by simp)
        have y1 : Hid ((D21.alloc (.cells #[.int .i64 1, .string x, .int .i64 (rc : Int)] 30)).cell? ⟨D21.heap.size, 1, none⟩ = some (.string x)) := hid (by simp)
        have y2 : Hid ((D21.alloc (.cells #[.int .i64 1, .string x, .int .i64 (rc : Int)] 30)).cell? ⟨D21.heap.size, 2, none⟩ = some (.int .i64 (rc : Int))) := hid (by simp)
        rw [hW] at b sz0 y0 y1 y2
        replace GB := hid (below_step GB.out b)
        replace KC := hid (KB.out _ GB.out)
        rw [hW]
        clear hW b sz0
        refine hK.out _ _ (fun _ => KC.out) ?_
        clear hK
        try simp only [Act.put]
        refine wpAnyT_one (i := 16) (o := { dst := some 74, op := Op.call { callee := Callee.builtin Builtin.append, args := #[Operand.tmp 62, Operand.tmp 73], argTypes := #[23, 23] }, type := 23, pos := "cutter.go:79", after := #[{ on := 4, ground := Ground.data }, { on := 15, ground := Ground.data }], guard := none }) (by kernel_rfl) rfl (fun K hK => ?_)
        have HTX : Hid (Toks B V22 (.slice la ll lc) L) := hid (HT1.out.now GB.out)
        have CX : Hid (Cu V22 c s (.slice la ll lc) col 1 bb rc cm ft) := hid (HC1.out.keep (GB.out.block c hcl))
        refine step_append_tok25 V22 rfl (.tmp 62) (.tmp 73) rfl B (.slice la ll lc) L ⟨1, x, (rc : Int)⟩ rfl HTX.out D21.heap.size rfl y0.out y1.out y2.out hL (Nat.le_trans HZ.out GB.out.size) ?_
        intro m9 a9 cap9 w23 hm9 ht9 hb9
        have HT9 := hid ht9.out
        have HC9 : Hid (Cu w23 c s (.slice la ll lc) col 1 bb rc cm ft) := hid (CX.out.keep (hb9.out.block c hcB))
        have HB9 : Hid (Bc c B w w23) := hid (HB1.out.trans (Bc.of ((GB.out.mono HZ.out).trans hb9.out) hcB))
        replace KC := hid (⟨HC9.out.at (i := 1) rfl, HC9.out.at (i := 3) rfl, HC9.out.at (i := 5) rfl⟩ : _ ∧ _ ∧ _)
        clear ht9 hb9 hm9 y0 y1 y2 HTX CX
        refine hK.out _ _ (fun _ => KC.out) ?_
        clear hK
        refine wpAnyT_take (i := 17) (oi := { dst := some 75, op := Op.nilCheck (Operand.tmp 58), type := 0, pos := "cutter.go:79", after := #[{ on := 0, ground := Ground.data }, { on := 0, ground := Ground.phase }, { on := 1, ground := Ground.phase }, { on := 2, ground := Ground.phase }, { on := 3, ground := Ground.phase }, { on := 4, ground := Ground.phase }, { on := 5, ground := Ground.phase }, { on := 6, ground := Ground.phase }, { on := 7, ground := Ground.phase }, { on := 8, ground := Ground.phase }, { on := 9, ground := Ground.phase }, { on := 10, ground := Ground.phase }, { on := 11, ground := Ground.phase }, { on := 12, ground := Ground.phase }, { on := 13, ground := Ground.phase }, { on := 14, ground := Ground.phase }, { on := 15, ground := Ground.phase }, { on := 16, ground := Ground.phase }], guard := none }) (v := (.pointer (some ⟨c, 0, none⟩))) rfl (by kernel_rfl) (fun _ _ _ h => h) (Or.inl ⟨by rfl, ?_⟩) (KC.out) ?_
        · intro w hSw
          (try dsimp only at hSw)
          go_simp
        simp only [Act.put, List.setIfInBounds_toArray, List.set_cons_zero, List.set_cons_succ]
        refine wpAnyT_take (i := 18) (oi := { dst := some 76, op := Op.fieldAddr 44 (Operand.tmp 75) 1, type := 0, pos := "cutter.go:79", after := #[{ on := 17, ground := Ground.data }, { on := 0, ground := Ground.phase }, { on := 1, ground := Ground.phase }, { on := 2, ground := Ground.phase }, { on := 3, ground := Ground.phase }, { on := 4, ground := Ground.phase }, { on := 5, ground := Ground.phase }, { on := 6, ground := Ground.phase }, { on := 7, ground := Ground.phase }, { on := 8, ground := Ground.phase }, { on := 9, ground := Ground.phase }, { on := 10, ground := Ground.phase }, { on := 11, ground := Ground.phase }, { on := 12, ground := Ground.phase }, { on := 13, ground := Ground.phase }, { on := 14, ground := Ground.phase }, { on := 15, ground := Ground.phase }, { on := 16, ground := Ground.phase }], guard := none }) (v := (.pointer (some ⟨c, 1, none⟩))) rfl (by kernel_rfl) (fun _ _ _ h => h) (Or.inl ⟨by rfl, ?_⟩) (KC.out) ?_
        · intro w hSw
          (try dsimp only at hSw)
          go_simp
        simp only [Act.put, List.setIfInBounds_toArray, List.set_cons_zero, List.set_cons_succ]
        refine wpAnyT_one (i := 19) (o := { dst := none, op := Op.store 23 (Operand.tmp 76) (Operand.tmp 74), type := 0, pos := "cutter.go:79", after := #[{ on := 18, ground := Ground.data }, { on := 16, ground := Ground.data }, { on := 16, ground := Ground.chain }, { on := 0, ground := Ground.phase }, { on := 1, ground := Ground.phase }, { on := 2, ground := Ground.phase }, { on := 3, ground := Ground.phase }, { on := 4, ground := Ground.phase }, { on := 5, ground := Ground.phase }, { on := 6, ground := Ground.phase }, { on := 7, ground := Ground.phase }, { on := 8, ground := Ground.phase }, { on := 9, ground := Ground.phase }, { on := 10, ground := Ground.phase }, { on := 11, ground := Ground.phase }, { on := 12, ground := Ground.phase }, { on := 13, ground := Ground.phase }, { on := 14, ground := Ground.phase }, { on := 15, ground := Ground.phase }, { on := 16, ground := Ground.phase }], guard := none }) (by kernel_rfl) rfl (fun K hK => ?_)
        have h0 := HC9.out.at (i := 1) rfl
        have h1 := HC9.out.fz 1
        go_simp
        clear h0 h1
        obtain ⟨V24, hW⟩ : ∃ V24, w23.setCell ⟨c, 1, none⟩ (.slice a9 m9 cap9) = V24 := ⟨_, rfl⟩
        have CF : Hid (Cu V24 c s (.slice a9 m9 cap9) col 1 bb rc cm ft) := hid (by rw [← hW]; exact HC9.out.set 1 _)
        have TF : Hid (Toks B V24 (.slice a9 m9 cap9) (L ++ [⟨1, x, (rc : Int)⟩])) := hid (by rw [← hW]; exact HT9.out.set hcB)
        have BF : Hid (Bc c B w V24) := hid (by rw [← hW]; exact HB9.out.set 1 _)
        rw [hW]
        clear hW
        refine hK.out _ _ (fun h => absurd h (by decide)) ?_
        clear hK
        try simp only [Act.put]
        refine wpAnyT_done (by kernel_rfl) ?_ _
        (try dsimp only)
        have CG : Hid (Cu (V24.setCell ⟨c, 3, none⟩ (.int .i64 0)) c s (.slice a9 m9 cap9) col 0 bb rc cm ft) := hid (CF.out.set 3 (.int .i64 0))
        have TG : Hid (Toks B (V24.setCell ⟨c, 3, none⟩ (.int .i64 0)) (.slice a9 m9 cap9) (L ++ [⟨1, x, (rc : Int)⟩])) := hid (TF.out.set hcB)
        have BG : Hid (Bc c B w (V24.setCell ⟨c, 3, none⟩ (.int .i64 0))) := hid (BF.out.set 3 _)
        have j3 := CF.out.at (i := 3) rfl
        have z3 := CF.out.fz 3
        clear CF TF BF HC1 HT1 HC9 HT9 HB9 GB k1 k3 k5
        go_wp2
        go_ret
        exact ⟨BG.out, .inr (.inr (.inr ⟨.inl ⟨rfl, OKX.out⟩, rfl, _, CG.out, by rw [HX.out]; exact TG.out⟩))⟩
  · have h2 : op = 2 := by omega
    subst h2
    clear h0 h1 HS HN e0
    by_cases hl : 32 < p - bb
    · have hl' : (32 : Int) < (x.size : Int) := by have := HXS.out; omega
      have OKX := hid hl
      clear hl
      have k3 := HC1.out.at (i := 3) rfl
      have k5 := HC1.out.at (i := 5) rfl
      have CF : Hid (Cu (w1.setCell ⟨c, 7, none⟩ (.int .i64 (rc : Int))) c s (.slice la ll lc) col 2 bb rc cm rc) := hid (HC1.out.set 7 _)
      have BF : Hid (Bc c B w (w1.setCell ⟨c, 7, none⟩ (.int .i64 (rc : Int)))) := hid (HB1.out.set 7 _)
      clear HC1 HT1 HM1 HB1
      go_wp2_with fail
      refine (HW.out _ _).mono ?_
      rintro e w3 ⟨rfl, hw3⟩
      obtain rfl := hw3.symm
      clear HW k3 k5
      go_wp2
      go_ret
      exact ⟨BF.out, .inr (.inr (.inl ⟨rfl, OKX.out, rfl, _, CF.out⟩))⟩
    · have hl' : ¬ (32 : Int) < (x.size : Int) := by have := HXS.out; omega
      have OKX := hid hl
      have k3 := HC1.out.at (i := 3) rfl
      clear hl HW
      go_wp2_with fail
      clear k3
      obtain ⟨u1, hu1⟩ : ∃ u, u = w1.heap.size := ⟨_, rfl⟩
      have k1 := HC1.out.at (i := 1) rfl
      have k3 : w1.cell? ⟨c, 3, none⟩ = some (.int .i64 2) := HC1.out.at (i := 3) rfl
      have k5 := HC1.out.at (i := 5) rfl
      have hcl := HC1.out.lt
      have KB : Hid (∀ w', Below w1.heap.size w1 w' → w'.cell? ⟨c, 1, none⟩ = some (.slice la ll lc) ∧ w'.cell? ⟨c, 3, none⟩ = some (.int .i64 2) ∧ w'.cell? ⟨c, 5, none⟩ = some (.int .i64 (rc : Int))) := fun w' h => ⟨cnow h k1, cnow h k3, cnow h k5⟩
      refine wp_region_tail (fun w' => w'.cell? ⟨c, 1, none⟩ = some (.slice la ll lc) ∧ w'.cell? ⟨c, 3, none⟩ = some (.int .i64 2) ∧ w'.cell? ⟨c, 5, none⟩ = some (.int .i64 (rc : Int))) 19 (by kernel_rfl) ?_
      obtain ⟨D21, hD⟩ : ∃ D21, w1.drew = D21 := ⟨_, rfl⟩
      have GB : Hid (Below w1.heap.size w1 D21) := by unfold Hid; rw [← hD]; exact (Below.refl _ _).drew
      rw [hD]
      clear hD
      have KC := hid (KB.out _ GB.out)
      refine wpAnyT_take (i := 0) (oi := { dst := some 58, op := Op.move (Operand.tmp 0), type := 57, pos := "cutter.go:79", after := #[], guard := none }) (v := (.pointer (some ⟨c, 0, none⟩))) rfl (by kernel_rfl) (fun _ _ _ h => h) (Or.inl ⟨by rfl, ?_⟩) (KC.out) ?_
      · intro w hSw
        (try dsimp only at hSw)
        go_simp
      simp only [Act.put, List.setIfInBounds_toArray, List.set_cons_zero, List.set_cons_succ]
      refine wpAnyT_take (i := 1) (oi := { dst := some 59, op := Op.move (Operand.tmp 0), type := 57, pos := "cutter.go:79", after := #[], guard := none }) (v := (.pointer (some ⟨c, 0, none⟩))) rfl (by kernel_rfl) (fun _ _ _ h => h) (Or.inl ⟨by rfl, ?_⟩) (KC.out) ?_
      · intro w hSw
        (try dsimp only at hSw)
        go_simp
      simp only [Act.put, List.setIfInBounds_toArray, List.set_cons_zero, List.set_cons_succ]
      refine wpAnyT_take (i := 2) (oi := { dst := some 60, op := Op.nilCheck (Operand.tmp 59), type := 0, pos := "cutter.go:79", after := #[{ on := 1, ground := Ground.data }], guard := none }) (v := (.pointer (some ⟨c, 0, none⟩))) rfl (by kernel_rfl) (fun _ _ _ h => h) (Or.inl ⟨by rfl, ?_⟩) (KC.out) ?_
      · intro w hSw
        (try dsimp only at hSw)
        go_simp
      simp only [Act.put, List.setIfInBounds_toArray, List.set_cons_zero, List.set_cons_succ]
      refine wpAnyT_take (i := 3) (oi := { dst := some 61, op := Op.fieldAddr 44 (Operand.tmp 60) 1, type := 0, pos := "cutter.go:79", after := #[{ on := 2, ground := Ground.data }], guard := none }) (v := (.pointer (some ⟨c, 1, none⟩))) rfl (by kernel_rfl) (fun _ _ _ h => h) (Or.inl ⟨by rfl, ?_⟩) (KC.out) ?_
      · intro w hSw
        (try dsimp only at hSw)
        go_simp
      simp only [Act.put, List.setIfInBounds_toArray, List.set_cons_zero, List.set_cons_succ]
      refine wpAnyT_take (i := 4) (oi := { dst := some 62, op := Op.load 23 (Operand.tmp 61), type := 23, pos := "cutter.go:79", after := #[{ on := 3, ground := Ground.data }], guard := none }) (v := (.slice la ll lc)) rfl (by kernel_rfl) (fun _ _ _ h => h) (Or.inl ⟨by rfl, ?_⟩) (KC.out) ?_
      · intro w hSw
        (try dsimp only at hSw)
        go_simp
      simp only [Act.put, List.setIfInBounds_toArray, List.set_cons_zero, List.set_cons_succ]
      refine wpAnyT_take (i := 5) (oi := { dst := some 63, op := Op.move (Operand.tmp 0), type := 57, pos := "cutter.go:79", after := #[], guard := none }) (v := (.pointer (some ⟨c, 0, none⟩))) rfl (by kernel_rfl) (fun _ _ _ h => h) (Or.inl ⟨by rfl, ?_⟩) (KC.out) ?_
      · intro w hSw
        (try dsimp only at hSw)
        go_simp
      simp only [Act.put, List.setIfInBounds_toArray, List.set_cons_zero, List.set_cons_succ]
      refine wpAnyT_take (i := 6) (oi := { dst := some 64, op := Op.nilCheck (Operand.tmp 63), type := 0, pos := "cutter.go:79", after := #[{ on := 5, ground := Ground.data }], guard := none }) (v := (.pointer (some ⟨c, 0, none⟩))) rfl (by kernel_rfl) (fun _ _ _ h => h) (Or.inl ⟨by rfl, ?_⟩) (KC.out) ?_
      · intro w hSw
        (try dsimp only at hSw)
        go_simp
      simp only [Act.put, List.setIfInBounds_toArray, List.set_cons_zero, List.set_cons_succ]
      refine wpAnyT_take (i := 7) (oi := { dst := some 65, op := Op.fieldAddr 44 (Operand.tmp 64) 3, type := 0, pos := "cutter.go:79", after := #[{ on := 6, ground := Ground.data }], guard := none }) (v := (.pointer (some ⟨c, 3, none⟩))) rfl (by kernel_rfl) (fun _ _ _ h => h) (Or.inl ⟨by rfl, ?_⟩) (KC.out) ?_
      · intro w hSw
        (try dsimp only at hSw)
        go_simp
      simp only [Act.put, List.setIfInBounds_toArray, List.set_cons_zero, List.set_cons_succ]
      refine wpAnyT_take (i := 8) (oi := { dst := some 66, op := Op.load 3 (Operand.tmp 65), type := 3, pos := "cutter.go:79", after := #[{ on := 7, ground := Ground.data }], guard := none }) (v := (.int .i64 2)) rfl (by kernel_rfl) (fun _ _ _ h => h) (Or.inl ⟨by rfl, ?_⟩) (KC.out) ?_
      · intro w hSw
        (try dsimp only at hSw)
        go_simp
      simp only [Act.put, List.setIfInBounds_toArray, List.set_cons_zero, List.set_cons_succ]
      refine wpAnyT_take (i := 9) (oi := { dst := some 67, op := Op.move (Operand.tmp 5), type := 9, pos := "cutter.go:79", after := #[], guard := none }) (v := (.string x)) rfl (by kernel_rfl) (fun _ _ _ h => h) (Or.inl ⟨by rfl, ?_⟩) (KC.out) ?_
      · intro w hSw
        (try dsimp only at hSw)
        go_simp
      simp only [Act.put, List.setIfInBounds_toArray, List.set_cons_zero, List.set_cons_succ]
      refine wpAnyT_take (i := 10) (oi := { dst := some 68, op := Op.move (Operand.tmp 0), type := 57, pos := "cutter.go:79", after := #[], guard := none }) (v := (.pointer (some ⟨c, 0, none⟩))) rfl (by kernel_rfl) (fun _ _ _ h => h) (Or.inl ⟨by rfl, ?_⟩) (KC.out) ?_
      · intro w hSw
        (try dsimp only at hSw)
        go_simp
      simp only [Act.put, List.setIfInBounds_toArray, List.set_cons_zero, List.set_cons_succ]
      refine wpAnyT_take (i := 11) (oi := { dst := some 69, op := Op.nilCheck (Operand.tmp 68), type := 0, pos := "cutter.go:79", after := #[{ on := 10, ground := Ground.data }], guard := none }) (v := (.pointer (some ⟨c, 0, none⟩))) rfl (by kernel_rfl) (fun _ _ _ h => h) (Or.inl ⟨by rfl, ?_⟩) (KC.out) ?_
      · intro w hSw
        (try dsimp only at hSw)
        go_simp
      simp only [Act.put, List.setIfInBounds_toArray, List.set_cons_zero, List.set_cons_succ]
      refine wpAnyT_take (i := 12) (oi := { dst := some 70, op := Op.fieldAddr 44 (Operand.tmp 69) 5, type := 0, pos := "cutter.go:79", after := #[{ on := 11, ground := Ground.data }], guard := none }) (v := (.pointer (some ⟨c, 5, none⟩))) rfl (by kernel_rfl) (fun _ _ _ h => h) (Or.inl ⟨by rfl, ?_⟩) (KC.out) ?_
      · intro w hSw
        (try dsimp only at hSw)
        go_simp
      simp only [Act.put, List.setIfInBounds_toArray, List.set_cons_zero, List.set_cons_succ]
      refine wpAnyT_take (i := 13) (oi := { dst := some 71, op := Op.load 3 (Operand.tmp 70), type := 3, pos := "cutter.go:79", after := #[{ on := 12, ground := Ground.data }], guard := none }) (v := (.int .i64 (rc : Int))) rfl (by kernel_rfl) (fun _ _ _ h => h) (Or.inl ⟨by rfl, ?_⟩) (KC.out) ?_
      · intro w hSw
        (try dsimp only at hSw)
        go_simp
      simp only [Act.put, List.setIfInBounds_toArray, List.set_cons_zero, List.set_cons_succ]
      refine wpAnyT_take (i := 14) (oi := { dst := some 72, op := Op.build 30 #[(0, Operand.tmp 66), (1, Operand.tmp 67), (2, Operand.tmp 71)], type := 30, pos := "cutter.go:79", after := #[{ on := 8, ground := Ground.data }, { on := 9, ground := Ground.data }, { on := 13, ground := Ground.data }], guard := none }) (v := (.agg #[.int .i64 2, .string x, .int .i64 (rc : Int)])) rfl (by kernel_rfl) (fun _ _ _ h => h) (Or.inl ⟨by rfl, ?_⟩) (KC.out) ?_
      · intro w hSw
        (try dsimp only at hSw)
        go_simp
      simp only [Act.put, List.setIfInBounds_toArray, List.set_cons_zero, List.set_cons_succ]
      refine wpAnyT_one (i := 15) (o := { dst := some 73, op := Op.buildSlice 23 1 #[(0, Operand.tmp 72)], type := 23, pos := "cutter.go:79", after := #[{ on := 14, ground := Ground.data }], guard := none }) (by kernel_rfl) rfl (fun K hK => ?_)
      go_simp
      obtain ⟨V22, hW⟩ : ∃ V, D21.alloc (.cells #[.int .i64 2, .string x, .int .i64 (rc : Int)] 30) = V := ⟨_, rfl⟩
      obtain ⟨b, sz0⟩ := alo1 D21 (.cells #[.int .i64 2, .string x, .int .i64 (rc : Int)] 30)
      have y0 : Hid ((D21.alloc (.cells #[.int .i64 2, .string x, .int .i64 (rc : Int)] 30)).cell? ⟨D21.heap.size, 0, none⟩ = some (.int .i64 2)) := hid (by simp)
      have y1 : Hid ((D21.alloc (.cells #[.int .i64 2, .string x, .int .i64 (rc : Int)] 30)).cell? ⟨D21.heap.size, 1, none⟩ = some (.string x)) := hid (by simp)
      have y2 : Hid ((D21.alloc (.cells #[.int .i64 2, .string x, .int .i64 (rc : Int)] 30)).cell? ⟨D21.heap.size, 2, none⟩ = some (.int .i64 (rc : Int))) := hid (by simp)
      rw [hW] at b sz0 y0 y1 y2
      replace GB := hid (below_step GB.out b)
      replace KC := hid (KB.out _ GB.out)
      rw [hW]
      clear hW b sz0
      refine hK.out _ _ (fun _ => KC.out) ?_
      clear hK
      try simp only [Act.put]
      refine wpAnyT_one (i := 16) (o := { dst := some 74, op := Op.call { callee := Callee.builtin Builtin.append, args := #[Operand.tmp 62, Operand.tmp 73], argTypes := #[23, 23] }, type := 23, pos := "cutter.go:79", after := #[{ on := 4, ground := Ground.data }, { on := 15, ground := Ground.data }], guard := none }) (by kernel_rfl) rfl (fun K hK => ?_)
      have HTX : Hid (Toks B V22 (.slice la ll lc) L) := hid (HT1.out.now GB.out)
      have CX : Hid (Cu V22 c s (.slice la ll lc) col 2 bb rc cm ft) := hid (HC1.out.keep (GB.out.block c hcl))
      refine step_append_tok25 V22 rfl (.tmp 62) (.tmp 73) rfl B (.slice la ll lc) L ⟨2, x, (rc : Int)⟩ rfl HTX.out D21.heap.size rfl y0.out y1.out y2.out hL (Nat.le_trans HZ.out GB.out.size) ?_
      intro m9 a9 cap9 w23 hm9 ht9 hb9
      have HT9 := hid ht9.out
      have HC9 : Hid (Cu w23 c s (.slice la ll lc) col 2 bb rc cm ft) := hid (CX.out.keep (hb9.out.block c hcB))
      have HB9 : Hid (Bc c B w w23) := hid (HB1.out.trans (Bc.of ((GB.out.mono HZ.out).trans hb9.out) hcB))
      replace KC := hid (⟨HC9.out.at (i := 1) rfl, HC9.out.at (i := 3) rfl, HC9.out.at (i := 5) rfl⟩ : _ ∧ _ ∧ _)
      clear ht9 hb9 hm9 y0 y1 y2 HTX CX
      refine hK.out _ _ (fun _ => KC.out) ?_
      clear hK
      refine wpAnyT_take (i := 17) (oi := { dst := some 75, op := Op.nilCheck (Operand.tmp 58), type := 0, pos := "cutter.go:79", after := #[{ on := 0, ground := Ground.data }, { on := 0, ground := Ground.phase }, { on := 1, ground := Ground.phase }, { on := 2, ground := Ground.phase }, { on := 3, ground := Ground.phase }, { on := 4, ground := Ground.phase }, { on := 5, ground := Ground.phase }, { on := 6, ground := Ground.phase }, { on := 7, ground := Ground.phase }, { on := 8, ground := Ground.phase }, { on := 9, ground := Ground.phase }, { on := 10, ground := Ground.phase }, { on := 11, ground := Ground.phase }, { on := 12, ground := Ground.phase }, { on := 13, ground := Ground.phase }, { on := 14, ground := Ground.phase }, { on := 15, ground := Ground.phase }, { on := 16, ground := Ground.phase }], guard := none }) (v := (.pointer (some ⟨c, 0, none⟩))) rfl (by kernel_rfl) (fun _ _ _ h => h) (Or.inl ⟨by rfl, ?_⟩) (KC.out) ?_
      · intro w hSw
        (try dsimp only at hSw)
        go_simp
      simp only [Act.put, List.setIfInBounds_toArray, List.set_cons_zero, List.set_cons_succ]
      refine wpAnyT_take (i := 18) (oi := { dst := some 76, op := Op.fieldAddr 44 (Operand.tmp 75) 1, type := 0, pos := "cutter.go:79", after := #[{ on := 17, ground := Ground.data }, { on := 0, ground := Ground.phase }, { on := 1, ground := Ground.phase }, { on := 2, ground := Ground.phase }, { on := 3, ground := Ground.phase }, { on := 4, ground := Ground.phase }, { on := 5, ground := Ground.phase }, { on := 6, ground := Ground.phase }, { on := 7, ground := Ground.phase }, { on := 8, ground := Ground.phase }, { on := 9, ground := Ground.phase }, { on := 10, ground := Ground.phase }, { on := 11, ground := Ground.phase }, { on := 12, ground := Ground.phase }, { on := 13, ground := Ground.phase }, { on := 14, ground := Ground.phase }, { on := 15, ground := Ground.phase }, { on := 16, ground := Ground.phase }], guard := none }) (v := (.pointer (some ⟨c, 1, none⟩))) rfl (by kernel_rfl) (fun _ _ _ h => h) (Or.inl ⟨by rfl, ?_⟩) (KC.out) ?_
      · intro w hSw
        (try dsimp only at hSw)
        go_simp
      simp only [Act.put, List.setIfInBounds_toArray, List.set_cons_zero, List.set_cons_succ]
      refine wpAnyT_one (i := 19) (o := { dst := none, op := Op.store 23 (Operand.tmp 76) (Operand.tmp 74), type := 0, pos := "cutter.go:79", after := #[{ on := 18, ground := Ground.data }, { on := 16, ground := Ground.data }, { on := 16, ground := Ground.chain }, { on := 0, ground := Ground.phase }, { on := 1, ground := Ground.phase }, { on := 2, ground := Ground.phase }, { on := 3, ground := Ground.phase }, { on := 4, ground := Ground.phase }, { on := 5, ground := Ground.phase }, { on := 6, ground := Ground.phase }, { on := 7, ground := Ground.phase }, { on := 8, ground := Ground.phase }, { on := 9, ground := Ground.phase }, { on := 10, ground := Ground.phase }, { on := 11, ground := Ground.phase }, { on := 12, ground := Ground.phase }, { on := 13, ground := Ground.phase }, { on := 14, ground := Ground.phase }, { on := 15, ground := Ground.phase }, { on := 16, ground := Ground.phase }], guard := none }) (by kernel_rfl) rfl (fun K hK => ?_)
      have h0 := HC9.out.at (i := 1) rfl
      have h1 := HC9.out.fz 1
      go_simp
      clear h0 h1
      obtain ⟨V24, hW⟩ : ∃ V24, w23.setCell ⟨c, 1, none⟩ (.slice a9 m9 cap9) = V24 := ⟨_, rfl⟩
      have CF : Hid (Cu V24 c s (.slice a9 m9 cap9) col 2 bb rc cm ft) := hid (by rw [← hW]; exact HC9.out.set 1 _)
      have TF : Hid (Toks B V24 (.slice a9 m9 cap9) (L ++ [⟨2, x, (rc : Int)⟩])) := hid (by rw [← hW]; exact HT9.out.set hcB)
      have BF : Hid (Bc c B w V24) := hid (by rw [← hW]; exact HB9.out.set 1 _)
      rw [hW]
      clear hW
      refine hK.out _ _ (fun h => absurd h (by decide)) ?_
      clear hK
      try simp only [Act.put]
      refine wpAnyT_done (by kernel_rfl) ?_ _
      (try dsimp only)
      have CG : Hid (Cu (V24.setCell ⟨c, 3, none⟩ (.int .i64 0)) c s (.slice a9 m9 cap9) col 0 bb rc cm ft) := hid (CF.out.set 3 (.int .i64 0))
      have TG : Hid (Toks B (V24.setCell ⟨c, 3, none⟩ (.int .i64 0)) (.slice a9 m9 cap9) (L ++ [⟨2, x, (rc : Int)⟩])) := hid (TF.out.set hcB)
      have BG : Hid (Bc c B w (V24.setCell ⟨c, 3, none⟩ (.int .i64 0))) := hid (BF.out.set 3 _)
      have j3 := CF.out.at (i := 3) rfl
      have z3 := CF.out.fz 3
      clear CF TF BF HC1 HT1 HC9 HT9 HB9 GB k1 k3 k5
      go_wp2
      go_ret
      exact ⟨BG.out, .inr (.inr (.inr ⟨.inr ⟨rfl, OKX.out⟩, rfl, _, CG.out, by rw [HX.out]; exact TG.out⟩))⟩
end Go.Proofs.YtdfnehngffajiabDoor
