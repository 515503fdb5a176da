/-
  Ta25: the program's take: one character.
-/
import Derived.Test.YtdfnehngffajiabDoorQSa25
import Derived.Test.YtdfnehngffajiabDoorQCw25
namespace Go.Proofs.YtdfnehngffajiabDoor
open Go.RowKit
set_option linter.unusedVariables false

/-- The error that a grouped number has, as the program sees it. -/
def GrP (s : ByteArray) (g : ByteArray → Int) : Prop := ∀ b j, b < s.size → 1 ≤ j → RunE s b true j → digS (chS s b).1 = true → (g (s.extract b (ps s b j)) = 0 ↔ okN (s.extract b (ps s b j)) = true)
variable {w : World} {c B : Nat} {s : ByteArray} {g : ByteArray → Int} {lv : Value} {c1 col op bb rc : Nat} {cm : Bool} {ft : Int} {L : List Tok} {p : Nat}
theorem StS.zero {b' r' : Nat} (h : StS s g 0 bb rc cm p c1 L) : StS s g 0 b' r' cm p c1 L := by
  rcases h with h | ⟨h, _⟩ | h
  · exact .inl h
  · omega
  · exact .inr (.inr h)
/-- A fault is told. -/
def ErrD (c : Nat) (s : ByteArray) (g : ByteArray → Int) (y : Ending) (w' : World) : Prop := ∃ a e lv col op bb rc cm, y = .returned (.int .i64 e) ∧ e ≠ 0 ∧ Cu w' c s lv col op bb rc cm a ∧ Tkn s g 0 1 [] a e
/-- What end answers, told by the line. -/
def EndT (w : World) (c B : Nat) (s : ByteArray) (g : ByteArray → Int) (col c1 bb rc : Nat) (cm : Bool) (ft : Int) (L : List Tok) (p : Nat) (y : Ending) (w' : World) : Prop :=
  Bc c B w w' ∧ (ErrD c s g y w' ∨ (y = .returned (.int .i64 0) ∧ ∃ lv L', Cu w' c s lv col 0 bb rc cm ft ∧ Toks B w' lv L' ∧ StS s g 0 bb rc cm p c1 L' ∧ L'.length ≤ L.length + 1))
theorem StS.op3 (h : StS s g op bb rc cm p c1 L) : op = 0 ∨ op = 1 ∨ op = 2 := by
  rcases h with h | ⟨h, _⟩ | h
  · exact .inl h.1
  · exact .inr h
  · exact .inl h.1
theorem StS.low (h : StS s g op bb rc cm p c1 L) (ho : op ≠ 0) : bb ≤ p := by
  rcases h with h | ⟨h, _, j, hr, hp, _⟩ | h
  · exact absurd h.1 ho
  · have := hr.2.2.2.1.le (Nat.le_of_lt hr.2.1)
    omega
  · exact absurd h.1 ho
theorem endT25 (hC : Cu w c s lv col op bb rc cm ft) (hT : Toks B w lv L) (hS : StS s g op bb rc cm p c1 L) (hG : GrP s g) (hcB : c < B) (hBw : B ≤ w.heap.size) (hm : MaxL w) (hg : 0 < c) (hs : s.size ≤ 1000000000) (hp : p ≤ s.size) (hL : L.length ≤ 1000000000000)
    (hn : op ≠ 0 → ¬ (p < s.size ∧ (chS s p).2 ≠ 0 ∧ okC (op == 1) (chS s p).1 = true)) :
    Calls Tryd.prog 13 #[.pointer (some ⟨c, 0, none⟩), .int .i64 (p : Int)] w (EndT w c B s g col c1 bb rc cm ft L p) := by
  refine (end25 hC hT hcB hBw hm hg hs hS.op3 hS.low hp hL).mono ?_
  rintro y w' ⟨hb, h⟩
  refine ⟨hb, ?_⟩
  by_cases ho : op = 0
  · rcases h with ⟨h1, h2, h3⟩ | ⟨h1, _⟩ | ⟨h1, _⟩ | ⟨h1, _⟩
    · subst ho h3
      exact .inr ⟨h2, _, _, hC, hT, hS, by omega⟩
    · omega
    · omega
    · omega
  · rcases hS with q | ⟨q1, rfl, j, q2, q3, q4⟩ | q
    · exact absurd q.1 ho
    · obtain ⟨e1, e2⟩ := q2.ends q3 (hn ho)
      have hE : op = 1 → RunE s bb true j := fun e => by
        subst e
        exact ⟨q2.2.2.2.1, q2.2.2.2.2.1, by have := hn ho; rw [q3] at this; exact this⟩
      have hD : op = 1 → digS (chS s bb).1 = true := fun e => by
        rcases q2.2.2.2.2.2 with ⟨_, _, _, x⟩ | ⟨x, _⟩
        · exact x
        · omega
      rcases h with ⟨h1, _⟩ | ⟨h1, h2, h3, lv', h4⟩ | ⟨h1, h2, h3, lv', h4⟩ | ⟨h1, h2, lv', h3, h4⟩
      · exact absurd h1 ho
      · refine .inl ⟨_, _, _, _, _, _, _, _, h3, by omega, h4, (e1 h1).2 fun z => ?_⟩
        have := (hG bb j q2.2.1 q2.2.2.1 (hE h1) (hD h1)).1 (by rw [← q3]; exact z)
        rw [← q3, h2] at this
        cases this
      · exact .inl ⟨_, _, _, _, _, _, _, _, h3, by omega, h4, (e2 h1).1 h2⟩
      · refine .inr ⟨h2, lv', _, h3, h4, .inl ⟨rfl, rfl, ?_⟩, by rw [List.length_append, List.length_singleton]; omega⟩
        rcases h1 with ⟨h1, h5⟩ | ⟨h1, h5⟩
        · subst h1
          rw [q4]
          exact (e1 rfl).1 (by rw [q3]; exact (hG bb j q2.2.1 q2.2.2.1 (hE rfl) (hD rfl)).2 (by rw [← q3]; exact h5))
        · subst h1
          rw [q4]
          exact (e2 rfl).2 h5
    · exact absurd q.1 ho
/-- What take answers. -/
def TakD (w : World) (c B : Nat) (s : ByteArray) (g : ByteArray → Int) (c1 : Nat) (L : List Tok) (p : Nat) (y : Ending) (w' : World) : Prop :=
  Bc c B w w' ∧ (ErrD c s g y w' ∨ (y = .returned (.int .i64 0) ∧ (chS s p).2 ≠ 0 ∧ ∃ lv op bb rc cm ft L', Cu w' c s lv c1 op bb rc cm ft ∧ Toks B w' lv L' ∧ StS s g op bb rc cm (p + (chS s p).2) (c1 + 1) L' ∧ L'.length ≤ L.length + 2))
theorem goS_yes {op K : Nat} (h : goS op K = true) : (op = 1 ∧ (K = 4 ∨ K = 5)) ∨ (op = 2 ∧ (K = 4 ∨ K = 5 ∨ K = 6)) := by
  unfold goS at h
  split at h
  · rename_i q
    simp only [Bool.or_eq_true, beq_iff_eq] at h
    exact .inl ⟨q, h⟩
  · split at h
    · rename_i q
      simp only [Bool.or_eq_true, beq_iff_eq] at h
      exact .inr ⟨q, by omega⟩
    · cases h
theorem goS_no {op V N : Nat} (h : goS op (kdS V N) = false) (ho : op = 1 ∨ op = 2) (hN : N ≠ 0) : ¬ okC (op == 1) V = true := by
  intro q
  unfold goS at h
  rcases ho with rfl | rfl
  · have := (kd_num hN).1 q
    rw [if_pos rfl] at h
    simp only [Bool.or_eq_false_iff, beq_eq_false_iff_ne] at h
    omega
  · have := (kd_nam hN).1 q
    rw [if_neg (by omega), if_pos rfl] at h
    simp only [Bool.or_eq_false_iff, beq_eq_false_iff_ne] at h
    omega
set_option maxHeartbeats 3200000 in
set_option maxRecDepth 100000 in
theorem take25 (hC : Cu w c s lv c1 op bb rc cm ft) (hT : Toks B w lv L) (hS : StS s g op bb rc cm p c1 L) (hG : GrP s g) (hcB : c < B) (hBw : B ≤ w.heap.size) (hm : MaxL w) (hg : 0 < c) (hs : s.size ≤ 1000000000) (hp : p < s.size) (hL : L.length + 2 ≤ 1000000000000) :
    Calls Tryd.prog 12 #[.pointer (some ⟨c, 0, none⟩), .int .i64 (p : Int), .int .i32 (((Utf8.decode s p).1 : Nat) : Int)] w (TakD w c B s g c1 L p) := by
  have k0 := hC.at (i := 0) rfl
  have HK := hid (kindOf25 w hp)
  have HGO := hid (goesOn25 hC (kdS (chS s p).1 (chS s p).2) hS.op3)
  obtain ⟨R, hR⟩ : ∃ R, (Utf8.decode s p).1 = R := ⟨_, rfl⟩
  have HVR : Hid ((chS s p).2 ≠ 0 → R = (chS s p).1) := hid fun z => by rw [← hR, chS_go z]
  rw [hR] at HK ⊢
  clear hR
  by_cases hgo : goS op (kdS (chS s p).1 (chS s p).2) = true
  · have FIN : Hid (TakD w c B s g c1 L p (.returned (.int .i64 0)) w) := by
      have hy := goS_yes hgo
      have hN : (chS s p).2 ≠ 0 := fun z => by
        rw [z, kdS_bad.2 rfl] at hy
        omega
      have hok : okC (op == 1) (chS s p).1 = true := by
        rcases hy with ⟨rfl, q⟩ | ⟨rfl, q⟩
        · exact (kd_num hN).2 q
        · exact (kd_nam hN).2 q
      rcases hS with q | ⟨q1, rfl, j, q2, q3, q4⟩ | q
      · omega
      · obtain ⟨r1, r2⟩ := q2.more q3 hp hN hok
        exact ⟨Bc.refl _ _ _, .inr ⟨rfl, hN, _, _, _, _, _, _, _, hC, hT, .inr (.inl ⟨q1, rfl, j + 1, r1, r2, by omega⟩), by omega⟩⟩
      · omega
    rw [hgo] at HGO
    generalize kdS (chS s p).1 (chS s p).2 = K at *
    clear hC hT hS hG hgo hm HVR
    go_enter Tryd.func12, Tryd.ntmps12
    go_wp2_with fail
    refine HK.out.mono ?_
    rintro e w1 ⟨rfl, hw1⟩
    obtain rfl := hw1.symm
    clear hw1 HK
    go_wp2_with fail
    refine HGO.out.mono ?_
    rintro e w1 ⟨rfl, hw1⟩
    obtain rfl := hw1.symm
    clear hw1 HGO k0
    go_wp2
    go_ret
    exact FIN.out
  · have hgo' : goS op (kdS (chS s p).1 (chS s p).2) = false := by simpa using hgo
    rw [hgo'] at HGO
    have HE := hid (endT25 hC hT hS hG hcB hBw hm hg hs (Nat.le_of_lt hp) (by omega) (fun ho => fun q => goS_no hgo' (by have := hS.op3; omega) q.2.1 q.2.2))
    have hcl := hC.lt
    have HL := hid hL
    clear hgo hgo' hC hT hS hG hL hm
    have HKD : Hid (kdS (chS s p).1 (chS s p).2 = 0 ↔ (chS s p).2 = 0) := hid kdS_bad
    obtain ⟨K, hK⟩ : ∃ K, kdS (chS s p).1 (chS s p).2 = K := ⟨_, rfl⟩
    rw [hK] at HK HGO HKD
    have HKK := hid hK
    clear hK
    go_enter Tryd.func12, Tryd.ntmps12
    go_wp2_with fail
    refine HK.out.mono ?_
    rintro e w1 ⟨rfl, hw1⟩
    obtain rfl := hw1.symm
    clear hw1 HK
    go_wp2_with fail
    refine HGO.out.mono ?_
    rintro e w1 ⟨rfl, hw1⟩
    obtain rfl := hw1.symm
    clear hw1 HGO k0
    go_wp2_with fail
    refine HE.out.mono ?_
    clear HE
    rintro e w1 ⟨hb1, ⟨a, er, lv1, col1, op1, b1, rc1, cm1, rfl, he, hC1, hT1⟩ | ⟨rfl, lv1, L1, hC1, hT1, hS1, hl1⟩⟩
    · have FIN : Hid (TakD w c B s g c1 L p (.returned (.int .i64 er)) w1) := hid ⟨hb1, .inl ⟨_, _, _, _, _, _, _, _, rfl, he, hC1, hT1⟩⟩
      have he' : (er != 0) = true := by rw [bne_iff_ne]; exact he
      clear hb1 hC1 hT1 HKD HKK HL he
      go_wp2
      go_ret
      exact FIN.out
    · have HB := hid hb1
      have HC := hid hC1
      have HT := hid hT1
      have HS := hid hS1
      have HL1 := hid hl1
      clear hb1 hC1 hT1 hS1 hl1
      by_cases h0 : K = 0
      · subst h0
        have hN := HKD.out.1 rfl
        have k2 := HC.out.at (i := 2) rfl
        have HW := hid (wrong25 HC.out)
        have FIN : Hid (TakD w c B s g c1 L p (.returned (.int .i64 12)) (w1.setCell ⟨c, 7, none⟩ (.int .i64 (c1 : Int)))) := by
          refine ⟨HB.out.set 7 _, .inl ⟨_, _, _, _, _, _, _, _, rfl, by omega, HC.out.set 7 (.int .i64 (c1 : Int)), ?_⟩⟩
          rcases HS.out with q | ⟨q, _⟩ | ⟨_, _, b', c', j, q2, q3, q4⟩
          · exact (q.2.2.char hp).1 hN
          · omega
          · rw [q4]; exact q2.bad q3 hp hN
        clear HB HC HT HS HL1 HKD HKK HL hN
        go_wp2_with fail
        refine (HW.out _ _).mono ?_
        rintro e w2 ⟨rfl, hw2⟩
        obtain rfl := hw2.symm
        clear HW k2 hw2
        go_wp2
        go_ret
        exact FIN.out
      · have hN : (chS s p).2 ≠ 0 := fun z => h0 (HKD.out.2 z)
        have f0 : ((K : Int) == 0) = false := by rw [beq_eq_false_iff_ne]; omega
        have k6 := HC.out.at (i := 6) rfl
        cases cm with
        | true =>
          have FIN : Hid (TakD w c B s g c1 L p (.returned (.int .i64 0)) w1) := by
            rcases HS.out with q | ⟨q, _⟩ | ⟨_, _, b', c', j, q2, q3, q4⟩
            · exact absurd q.2.1 (by decide)
            · omega
            · obtain ⟨r1, r2⟩ := q2.more q3 hp hN
              exact ⟨HB.out, .inr ⟨rfl, hN, _, _, _, _, _, _, _, HC.out, HT.out, .inr (.inr ⟨rfl, rfl, b', c', j + 1, r1, r2, by omega⟩), by have := HL1.out; omega⟩⟩
          clear HB HC HT HS HL1 HKD HKK HL hN h0
          go_wp2
          go_ret
          exact FIN.out
        | false =>
          have TN : TkN s g p c1 L1 := by
            rcases HS.out with q | ⟨q, _⟩ | q
            · exact q.2.2
            · omega
            · exact absurd q.2.1 (by decide)
          have CH := hid ((TN.char hp).2 hN)
          rw [HKK.out] at CH
          have hk : 1 ≤ K ∧ K ≤ 7 := by
            rcases CH.out with ⟨q, _⟩ | ⟨q, _⟩ | ⟨q, _⟩ | ⟨q, _⟩ | ⟨q | q, _⟩ | ⟨q, _⟩ <;> omega
          have HST := hid (start25 (R := R) (p := p) HC.out HT.out hcB (Nat.le_trans hBw HB.out.1.size) (by have := HL.out; have := HL1.out; omega) K hk)
          have HNN := hid hN
          replace HVR := hid (HVR.out hN)
          clear TN hk HC HT HS HKD HKK h0 hN
          go_wp2_with fail
          refine HST.out.mono ?_
          clear HST
          rintro e w2 ⟨hb2, hx⟩
          have HB2 := hid (HB.out.trans hb2)
          have HX := hid hx
          have FIN : Hid (∃ er, e = .returned (.int .i64 er) ∧ TakD w c B s g c1 L p (.returned (.int .i64 er)) w2) := by
            rcases HX.out with ⟨rfl, rfl, lv2, o2, b2, r2, m2, q3⟩ | ⟨rfl, rfl, q3, q4⟩ | ⟨rfl, rfl, q3, q4⟩ | ⟨rfl, rfl, q3, q4⟩ | ⟨q, rfl, q3, q4⟩ | ⟨rfl, rfl, lv2, q3, q4⟩
            · rcases CH.out with ⟨_, z⟩ | ⟨q, _⟩ | ⟨q, _⟩ | ⟨q, _⟩ | ⟨q | q, _⟩ | ⟨q, _⟩ <;> try omega
              exact ⟨_, rfl, HB2.out, .inl ⟨_, _, _, _, _, _, _, _, rfl, by omega, q3, z⟩⟩
            · rcases CH.out with ⟨q, _⟩ | ⟨_, z⟩ | ⟨q, _⟩ | ⟨q, _⟩ | ⟨q | q, _⟩ | ⟨q, _⟩ <;> try omega
              exact ⟨_, rfl, HB2.out, .inr ⟨rfl, HNN.out, _, _, _, _, _, _, _, q3, q4, z.zero, by have := HL1.out; omega⟩⟩
            · rcases CH.out with ⟨q, _⟩ | ⟨q, _⟩ | ⟨_, z⟩ | ⟨q, _⟩ | ⟨q | q, _⟩ | ⟨q, _⟩ <;> try omega
              exact ⟨_, rfl, HB2.out, .inr ⟨rfl, HNN.out, _, _, _, _, _, _, _, q3, q4, z.zero, by have := HL1.out; omega⟩⟩
            · rcases CH.out with ⟨q, _⟩ | ⟨q, _⟩ | ⟨q, _⟩ | ⟨_, z⟩ | ⟨q | q, _⟩ | ⟨q, _⟩ <;> try omega
              exact ⟨_, rfl, HB2.out, .inr ⟨rfl, HNN.out, _, _, _, _, _, _, _, q3, q4, z, by have := HL1.out; omega⟩⟩
            · rcases CH.out with ⟨q, _⟩ | ⟨q, _⟩ | ⟨q, _⟩ | ⟨q, _⟩ | ⟨_, z⟩ | ⟨q, _⟩ <;> try omega
              exact ⟨_, rfl, HB2.out, .inr ⟨rfl, HNN.out, _, _, _, _, _, _, _, q3, q4, z, by have := HL1.out; omega⟩⟩
            · rcases CH.out with ⟨q, _⟩ | ⟨q, _⟩ | ⟨q, _⟩ | ⟨q, _⟩ | ⟨q | q, _⟩ | ⟨_, z⟩ <;> try omega
              rw [HVR.out] at q4
              exact ⟨_, rfl, HB2.out, .inr ⟨rfl, HNN.out, _, _, _, _, _, _, _, q3, q4, z.zero, by rw [List.length_append, List.length_singleton]; have := HL1.out; omega⟩⟩
          clear hb2 hx HX HB2 HB CH HL1 HL HNN HVR
          obtain ⟨er, rfl, fin⟩ := FIN.out
          have FIN2 := hid fin
          clear FIN fin
          go_wp2
          go_ret
          exact FIN2.out
end Go.Proofs.YtdfnehngffajiabDoor
