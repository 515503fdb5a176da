/-
  Mu17: Mul.
-/
import Derived.Test.YtcceoildbnoliaaGreatQCo17
import Derived.Test.YtcceoildbnoliaaGreatQFo17
import Derived.Test.YtcceoildbnoliaaGreatQLst9ToRowsOf9
import Derived.Deep.CutRange
namespace Go.Proofs.YtcceoildbnoliaaGreat
open Go.RowKit
set_option linter.unusedVariables false
set_option linter.unusedSimpArgs false

/-- The product's numbers. -/
def mlF (m c : Nat) (P Q P' Q' : Nat → Int) (i j : Nat) : Rat := Rat.divInt (dotv ((List.range m).map (whl (fun x => Rat.divInt (rwP m P i x) (rwP m Q i x)) m)) ((List.range m).map (whl (fun x => Rat.divInt (clP c P' j x) (clP c Q' j x)) m))) ((lcn (fun x => Rat.divInt (rwP m P i x) (rwP m Q i x)) m : Int) * (lcn (fun x => Rat.divInt (clP c P' j x) (clP c Q' j x)) m : Int))
theorem zsum_su : ∀ (n : Nat) (F : Nat → Int), zsum ((List.range n).map F) = su n F
  | 0, F => rfl
  | n + 1, F => by
    rw [List.range_succ, List.map_append, zsum_append, zsum_su n F]
    show _ = su n F + F n
    simp [zsum]
/-- A fraction's box. -/
def MetF (W : World) (q : Rat) (k : Nat) (s1 s2 : Value) (wx : World) : Prop := ∃ b n1 a1 l1 c1 n2 a2 l2 c2, s1 = .pointer (some ⟨b, 0, none⟩) ∧ s2 = .int .i64 0 ∧ W.heap.size ≤ b ∧ Cel wx b 47 [.bool n1, .slice a1 l1 c1, .bool n2, .slice a2 l2 c2] ∧ Zm 0 wx (.agg #[.bool n1, .slice a1 l1 c1]) q.num k ∧ Zm 0 wx (.agg #[.bool n2, .slice a2 l2 c2]) (q.den : Int) k ∧ Below W.heap.size W wx
structure MuJ (w W5 : World) (b4 b11 r c : Nat) (R : Nat → Nat → Rat) (k N : Nat) (s : Value) (C : Nat → Nat → Value) (wx : World) : Prop where
  ty : Ty 24 W5 wx
  p : Cel wx b11 24 [.int .i64 (r : Int), .int .i64 (c : Int), s]
  o : Cel wx b4 24 [.int .i64 0, .int .i64 0, .slice none 0 0]
  g : Own4 W5.heap.size wx s N C
  z : ∀ t, t < N → Zm 0 wx (.agg #[C t 0, C t 1]) (R (t / c) (t % c)).num k ∧ Zm 0 wx (.agg #[C t 2, C t 3]) ((R (t / c) (t % c)).den : Int) k
  b : Below w.heap.size w wx
theorem MuJ.now {w W5 : World} {b4 b11 r c : Nat} {R : Nat → Nat → Rat} {k N : Nat} {s : Value} {C : Nat → Nat → Value} {wx wy : World} (h : MuJ w W5 b4 b11 r c R k N s C wx) (hb : Below wx.heap.size wx wy) : MuJ w W5 b4 b11 r c R k N s C wy :=
  ⟨h.ty.trans (Ty.of hb), h.p.step hb, h.o.step hb, h.g.now hb, fun t ht => ⟨(h.z t ht).1.now hb, (h.z t ht).2.now hb⟩, below_step h.b hb⟩
def MuD (w : World) (r c : Nat) (R : Nat → Nat → Rat) (k : Nat) (e : Ending) (w' : World) : Prop := ∃ a cap C, e = .returned (.tuple #[qmv r c (.slice a (r * c) cap), .int .i64 0]) ∧ Own4 w.heap.size w' (.slice a (r * c) cap) (r * c) C ∧ (∀ t, t < r * c → Zm 0 w' (.agg #[C t 0, C t 1]) (R (t / c) (t % c)).num k ∧ Zm 0 w' (.agg #[C t 2, C t 3]) ((R (t / c) (t % c)).den : Int) k) ∧ Below w.heap.size w w'
theorem Rw17.zl {w : World} {g n k : Nat} {F : Nat → Int} (h : Rw17 w g n F k) (hn : n ≤ 1048576) : Zl w (.slice (some ⟨g, 0, none⟩) n n) ((List.range n).map F) k := by
  obtain ⟨ps, h1, h2⟩ := h
  have hl : ps.length = n := by rw [h2.1]; simp
  have hp := h1.prs (B := 0) (Nat.zero_le _) (by omega) (Nat.le_refl _)
  rw [hl] at hp
  exact zl_of hp h2.zcs.zis
set_option maxHeartbeats 6400000 in
set_option maxRecDepth 100000 in
theorem mul_yes17 {w : World} {ap aq : Option Addr} {lp cp lq cq r m c k : Nat} {P Q P' Q' : Nat → Int} (hp : Qs w (.slice ap lp cp) lp P Q k) (hq : Qs w (.slice aq lq cq) lq P' Q' k) (hlp : lp = r * m) (hlq : lq = m * c) (hr : r ≤ 64) (hm : m ≤ 64) (hc : c ≤ 64) (hQ : ∀ t, t < lp → Q t ≠ 0) (hQ' : ∀ t, t < lq → Q' t ≠ 0) (hk : k ≤ 200000000) (hk1 : 1 ≤ k) :
    Calls Tryz.prog 18 #[qmv r m (.slice ap lp cp), qmv m c (.slice aq lq cq)] w (MuD w r c (mlF m c P Q P' Q') (2 * (129 * k + 2) + 64)) := by
  have hSp : Snd (r : Int) (m : Int) lp := ⟨by omega, by omega, by omega, by omega, by rw [hlp]; exact Int.natCast_mul _ _⟩
  have hSq : Snd (m : Int) (c : Int) lq := ⟨by omega, by omega, by omega, by omega, by rw [hlq]; exact Int.natCast_mul _ _⟩
  obtain ⟨KW, hKW⟩ : ∃ KW, 129 * k + 2 = KW := ⟨_, rfl⟩
  rw [hKW]
  obtain ⟨W1, hW⟩ : ∃ W1, (((w.alloc (.cells #[.int .i64 (r : Int), .int .i64 (m : Int), .slice ap lp cp] 24)).alloc (.cells #[.int .i64 (m : Int), .int .i64 (c : Int), .slice aq lq cq] 24)).alloc (.cells #[.int .i64 0, .int .i64 0, .slice none 0 0] 24)).alloc (.cells #[.int .i64 (r : Int), .int .i64 (m : Int), .slice ap lp cp, .int .i64 (m : Int), .int .i64 (c : Int), .slice aq lq cq] 24) = W1 := ⟨_, rfl⟩
  obtain ⟨b0, sz0⟩ := alloc4 w (.cells #[.int .i64 (r : Int), .int .i64 (m : Int), .slice ap lp cp] 24) (.cells #[.int .i64 (m : Int), .int .i64 (c : Int), .slice aq lq cq] 24) (.cells #[.int .i64 0, .int .i64 0, .slice none 0 0] 24) (.cells #[.int .i64 (r : Int), .int .i64 (m : Int), .slice ap lp cp, .int .i64 (m : Int), .int .i64 (c : Int), .slice aq lq cq] 24)
  rw [hW] at b0 sz0
  have CP : Hid (Cel W1 w.heap.size 24 [.int .i64 (r : Int), .int .i64 (m : Int), .slice ap lp cp]) := by
    unfold Hid; rw [← hW]
    exact (((Cel.new w 24 [.int .i64 (r : Int), .int .i64 (m : Int), .slice ap lp cp]).step (alo1 _ _).1).step (alo1 _ _).1).step (alo1 _ _).1
  have CQ : Hid (Cel W1 (w.heap.size + 1) 24 [.int .i64 (m : Int), .int .i64 (c : Int), .slice aq lq cq]) := by
    unfold Hid; rw [← hW]
    have := ((Cel.new (w.alloc (.cells #[.int .i64 (r : Int), .int .i64 (m : Int), .slice ap lp cp] 24)) 24 [.int .i64 (m : Int), .int .i64 (c : Int), .slice aq lq cq]).step (alo1 _ (.cells #[.int .i64 0, .int .i64 0, .slice none 0 0] 24)).1).step (alo1 _ (.cells #[.int .i64 (r : Int), .int .i64 (m : Int), .slice ap lp cp, .int .i64 (m : Int), .int .i64 (c : Int), .slice aq lq cq] 24)).1
    simpa using this
  have C0 : Hid (Cel W1 (w.heap.size + 1 + 1) 24 [.int .i64 0, .int .i64 0, .slice none 0 0]) := by
    unfold Hid; rw [← hW]
    have := (Cel.new ((w.alloc (.cells #[.int .i64 (r : Int), .int .i64 (m : Int), .slice ap lp cp] 24)).alloc (.cells #[.int .i64 (m : Int), .int .i64 (c : Int), .slice aq lq cq] 24)) 24 [.int .i64 0, .int .i64 0, .slice none 0 0]).step (alo1 _ (.cells #[.int .i64 (r : Int), .int .i64 (m : Int), .slice ap lp cp, .int .i64 (m : Int), .int .i64 (c : Int), .slice aq lq cq] 24)).1
    simpa using this
  have CA : Cel W1 (w.heap.size + 1 + 1 + 1) 24 [.int .i64 (r : Int), .int .i64 (m : Int), .slice ap lp cp, .int .i64 (m : Int), .int .i64 (c : Int), .slice aq lq cq] := by
    rw [← hW]
    have := Cel.new (((w.alloc (.cells #[.int .i64 (r : Int), .int .i64 (m : Int), .slice ap lp cp] 24)).alloc (.cells #[.int .i64 (m : Int), .int .i64 (c : Int), .slice aq lq cq] 24)).alloc (.cells #[.int .i64 0, .int .i64 0, .slice none 0 0] 24)) 24 [.int .i64 (r : Int), .int .i64 (m : Int), .slice ap lp cp, .int .i64 (m : Int), .int .i64 (c : Int), .slice aq lq cq]
    simpa using this
  have HF := hid (fault17 (w := W1) (w0 := W1) (g := w.heap.size + 1 + 1 + 1) (n := 2) (k := k) (q := fun j => if j = 0 then ⟨(r : Int), (m : Int), ap, lp, cp⟩ else ⟨(m : Int), (c : Int), aq, lq, cq⟩) (P := fun j => if j = 0 then P else P') (Q := fun j => if j = 0 then Q else Q') (fits := true) (by omega) (fun j hj => by
    by_cases q : j = 0
    · subst q
      exact ⟨CA.at (i := 0) rfl, CA.at (i := 1) rfl, CA.at (i := 2) rfl⟩
    · obtain rfl : j = 1 := by omega
      exact ⟨CA.at (i := 3) rfl, CA.at (i := 4) rfl, CA.at (i := 5) rfl⟩) (fun j hj => by
    by_cases q : j = 0
    · subst q; exact hp.now b0
    · obtain rfl : j = 1 := by omega
      exact hq.now b0))
  have HNO : Hid (∀ code, FltIs (∃ j, j < 2 ∧ ¬ Snd ((if j = 0 then (⟨(r : Int), (m : Int), ap, lp, cp⟩ : Qr W1) else ⟨(m : Int), (c : Int), aq, lq, cq⟩)).r ((if j = 0 then (⟨(r : Int), (m : Int), ap, lp, cp⟩ : Qr W1) else ⟨(m : Int), (c : Int), aq, lq, cq⟩)).c ((if j = 0 then (⟨(r : Int), (m : Int), ap, lp, cp⟩ : Qr W1) else ⟨(m : Int), (c : Int), aq, lq, cq⟩)).l) (∃ j, j < 2 ∧ ∃ t, t < ((if j = 0 then (⟨(r : Int), (m : Int), ap, lp, cp⟩ : Qr W1) else ⟨(m : Int), (c : Int), aq, lq, cq⟩)).l ∧ (if j = 0 then Q else Q') t = 0) true code → code = 0) := fun code h => by
    rcases h with ⟨h1, j, hj, h2⟩ | ⟨h1, h2, h3⟩ | ⟨h1, h2, h3, j, hj, t, ht, h4⟩ | ⟨h1, h2, h3, h4⟩
    · by_cases q : j = 0
      · simp only [q, if_true] at h2; exact absurd hSp h2
      · simp only [q, if_false] at h2; exact absurd hSq h2
    · cases h3
    · by_cases q : j = 0
      · simp only [q, if_true] at ht h4; exact absurd h4 (hQ t ht)
      · simp only [q, if_false] at ht h4; exact absurd h4 (hQ' t ht)
    · exact h1
  have HRO : Hid (∀ {w' : World}, Calls Tryz.prog 30 #[.agg #[.int .i64 (r : Int), .int .i64 (m : Int), .slice ap lp cp]] w' (Rod w w' r m P Q k)) := rowsOf17 hp hlp hr hm
  have HCO : Hid (∀ {w' : World}, Below w.heap.size w w' → Calls Tryz.prog 50 #[.agg #[.int .i64 (m : Int), .int .i64 (c : Int), .slice aq lq cq]] w' (CoD w' m c P' Q' k)) := fun hb => columnsOf17 (hq.now hb) hlq hm hc
  have HWR : Hid (∀ {w' : World} {v : Value}, QLs w' v r m (rwP m P) (rwP m Q) k → Calls Tryz.prog 42 #[v] w' (WzD w' r m (fun i j => Rat.divInt (rwP m P i j) (rwP m Q i j)) KW)) := fun h => by
    rw [← hKW]
    exact wholeLines_any h (fun i j hi hj => hQ _ (by rw [hlp]; exact zF_lt17 hi hj)) hr (by omega) (by omega) hk1
  have HWC : Hid (∀ {w' : World} {v : Value}, QLs w' v c m (clP c P') (clP c Q') k → Calls Tryz.prog 42 #[v] w' (WzD w' c m (fun i j => Rat.divInt (clP c P' i j) (clP c Q' i j)) KW)) := fun h => by
    rw [← hKW]
    exact wholeLines_any h (fun i j hi hj => hQ' _ (by rw [hlq]; exact zF_lt17 hj hi)) hc (by omega) (by omega) hk1
  have HKB : Hid (KW ≤ 30000000000) := by unfold Hid; omega
  have B0 := hid b0
  have EW := hid hW
  have x0 := CP.out.at (i := 0) rfl
  have x1 := CP.out.at (i := 1) rfl
  have x2 := CP.out.at (i := 2) rfl
  have x3 := CQ.out.at (i := 0) rfl
  have x4 := CQ.out.at (i := 1) rfl
  have x5 := CQ.out.at (i := 2) rfl
  rw [← hW] at x0 x1 x2 x3 x4 x5
  clear b0 sz0 hW CA hp hq hlp hlq hQ hQ' hk hk1 hSp hSq hKW
  show Calls Tryz.prog 18 #[.agg #[.int .i64 (r : Int), .int .i64 (m : Int), .slice ap lp cp], .agg #[.int .i64 (m : Int), .int .i64 (c : Int), .slice aq lq cq]] w _
  go_enter Tryz.func18, Tryz.ntmps18
  go_wp2_with fail
  rw [EW.out]
  refine HF.out.mono ?_
  rintro e w1 ⟨code, rfl, hcode, b1⟩
  obtain rfl := HNO.out code hcode
  have CP1 := hid (CP.out.step b1)
  have CQ1 := hid (CQ.out.step b1)
  have C1 := hid (C0.out.step b1)
  have G1 := hid (below_step B0.out b1)
  have y0 := CP1.out.at (i := 0) rfl
  have y1 := CP1.out.at (i := 1) rfl
  have y2 := CP1.out.at (i := 2) rfl
  clear HF HNO hcode b1 CP CQ C0 B0 EW x0 x1 x2 x3 x4 x5
  go_wp2_with fail
  refine (HRO.out (w' := w1)).mono ?_
  rintro e w2 ⟨gr, rfl, hgr, hfil, b2⟩
  have HS := hid (HWR.out (hfil.qls (below_step G1.out b2)))
  have C2 := hid (C1.out.step b2)
  have CP2 := hid (CP1.out.step b2)
  have CQ2 := hid (CQ1.out.step b2)
  have G2 := hid (below_step G1.out b2)
  clear hgr hfil b2 C1 CP1 CQ1 G1 y0 y1 y2 HRO HWR
  go_wp2_with fail
  refine HS.out.mono ?_
  rintro e w3 ⟨lv, bv, gs, rfl, hs, hg, h0, b3⟩
  have SR := hid (hs.sh17 h0)
  have GZ1 := hid hg
  obtain ⟨lra, lrc, rfl⟩ : ∃ la lc, lv = .slice la r lc := by
    rcases SR.out.1 with ⟨rfl, h⟩ | ⟨h, Lb, cap, r, e, _⟩
    · exact ⟨_, _, h⟩
    · exact ⟨_, _, e⟩
  obtain ⟨bra, brc, hba, -⟩ := hg.form
  rw [wlB_len] at hba
  subst hba
  have C3 := hid (C2.out.step b3)
  have CP3 := hid (CP2.out.step b3)
  have CQ3 := hid (CQ2.out.step b3)
  have G3 := hid (below_step G2.out b3)
  have HCS := hid (HCO.out G3.out)
  have y0 := CQ3.out.at (i := 0) rfl
  have y1 := CQ3.out.at (i := 1) rfl
  have y2 := CQ3.out.at (i := 2) rfl
  clear HS hs hg h0 b3 C2 CP2 CQ2 G2 HCO
  go_wp2_with fail
  refine HCS.out.mono ?_
  rintro e w4 ⟨vc, rfl, hqc, b4⟩
  have HS := hid (HWC.out hqc)
  obtain ⟨vca, vcc, rfl, -, -⟩ := hqc
  replace SR := hid (SR.out.now b4)
  replace GZ1 := hid (GZ1.out.now b4)
  have C4 := hid (C3.out.step b4)
  have CP4 := hid (CP3.out.step b4)
  have CQ4 := hid (CQ3.out.step b4)
  have G4 := hid (below_step G3.out b4)
  clear HCS b4 C3 CP3 CQ3 G3 y0 y1 y2 HWC
  go_wp2_with fail
  refine HS.out.mono ?_
  rintro e w5 ⟨lv, bv, gs2, rfl, hs, hg, h0, b5⟩
  have SC := hid (hs.sh17 h0)
  have GZ2 := hid hg
  obtain ⟨lca, lcc, rfl⟩ : ∃ la lc, lv = .slice la c lc := by
    rcases SC.out.1 with ⟨rfl, h⟩ | ⟨h, Lb, cap, r, e, _⟩
    · exact ⟨_, _, h⟩
    · exact ⟨_, _, e⟩
  obtain ⟨bca, bcc, hba, -⟩ := hg.form
  rw [wlB_len] at hba
  subst hba
  replace SR := hid (SR.out.now b5)
  replace GZ1 := hid (GZ1.out.now b5)
  have C5 := hid (C4.out.step b5)
  have CP5 := hid (CP4.out.step b5)
  have CQ5 := hid (CQ4.out.step b5)
  have G5 := hid (below_step G4.out b5)
  have y0 := CP5.out.at (i := 0) rfl
  have y1 := CQ5.out.at (i := 1) rfl
  obtain ⟨W5, hW5⟩ : ∃ W5, w5.alloc (.cells #[.int .i64 (r : Int), .int .i64 (c : Int), .slice none 0 0] 24) = W5 := ⟨_, rfl⟩
  obtain ⟨b6, sz6⟩ := alo1 w5 (.cells #[.int .i64 (r : Int), .int .i64 (c : Int), .slice none 0 0] 24)
  rw [hW5] at b6 sz6
  have C11 : Cel W5 w5.heap.size 24 [.int .i64 (r : Int), .int .i64 (c : Int), .slice none 0 0] := by rw [← hW5]; exact Cel.new w5 _ _
  have KS : Hid (∀ wx, Ty 24 W5 wx → Sh17 w2.heap.size wx (.slice lra r lrc) r m (fun i => gs.getD i 0) (fun i j => whl (fun x => Rat.divInt (rwP m P i x) (rwP m Q i x)) m j) KW ∧ Sh17 w4.heap.size wx (.slice lca c lcc) c m (fun i => gs2.getD i 0) (fun i j => whl (fun x => Rat.divInt (clP c P' i x) (clP c Q' i x)) m j) KW) := fun wx ht => ⟨(SR.out.now b6).ty ht (by decide) (by decide) (by decide), (SC.out.now b6).ty ht (by decide) (by decide) (by decide)⟩
  have KB1 : Hid (∀ wx, Below W5.heap.size W5 wx → True) := fun _ _ => trivial
  obtain ⟨b11, hb11⟩ : ∃ b11, w5.heap.size = b11 := ⟨_, rfl⟩
  obtain ⟨bo, hbo⟩ : ∃ bo, w.heap.size + 1 + 1 = bo := ⟨_, rfl⟩
  rw [hb11] at C11
  have HNB : Hid (b11 ≠ bo ∧ w.heap.size ≤ b11 ∧ w.heap.size ≤ bo ∧ b11 < W5.heap.size) := by
    unfold Hid
    have h1 := C5.out.blk
    have h2 := G5.out.size
    omega
  have ZLT : Hid (∀ wx, Ty 24 W5 wx → Zl wx (.slice bra r brc) (wlB r m (fun i j => Rat.divInt (rwP m P i j) (rwP m Q i j))) KW ∧ Zl wx (.slice bca c bcc) (wlB c m (fun i j => Rat.divInt (clP c P' i j) (clP c Q' i j))) KW) := fun wx ht => ⟨((GZ1.out.now b6).ty17 ht (by decide) (by decide)).zl (by rw [wlB_len]; omega), ((GZ2.out.now b6).ty17 ht (by decide) (by decide)).zl (by rw [wlB_len]; omega)⟩
  have C56 := C5.out.step b6
  rw [hbo] at C56
  have H0 : Hid (∃ (i : Nat) (s : Value) (C : Nat → Nat → Value), Value.int .i64 0 = .int .i64 (i : Int) ∧ i ≤ r ∧ r = r - i ∧ MuJ w W5 bo b11 r c (mlF m c P Q P' Q') (2 * KW + 64) (i * c) s C W5) := ⟨0, _, fun _ _ => .bool false, rfl, Nat.zero_le _, rfl, ⟨⟨Nat.le_refl _, fun _ _ _ _ h _ => h⟩, C11, C56, by rw [Nat.zero_mul]; exact Own4.nil _ _ _, fun t ht => by omega, below_step G5.out b6⟩⟩
  have EV5 := hid hW5
  have E11 := hid hb11
  have EBO := hid hbo
  clear HS hs hg h0 b5 b6 sz6 hW5 hb11 hbo SR SC GZ1 GZ2 C4 CP4 CQ4 G4 C5 C56 CP5 CQ5 G5 C11 KB1
  go_wp2_with fail
  rw [EV5.out, E11.out, EBO.out]
  clear EV5 E11 EBO y0 y1
  go_loopg [52] r (fun gk s52 wx => ∃ (i : Nat) (s : Value) (C : Nat → Nat → Value), s52 = .int .i64 (i : Int) ∧ i ≤ r ∧ gk = r - i ∧ MuJ w W5 bo b11 r c (mlF m c P Q P' Q') (2 * KW + 64) (i * c) s C wx)
  case atStart => exact H0.out
  case round =>
    clear H0
    obtain ⟨i, s, C, rfl, hir, hgk, hJ⟩ := hrel
    have J := hid hJ
    have HG := hid hgk
    clear hJ hgk
    by_cases hlt : i < r
    · have hlt' : (i : Int) < (r : Int) := by omega
      have hwi := wrapI9 (i := i) (by omega)
      obtain ⟨Lb, hla⟩ : ∃ Lb, lra = some ⟨Lb, 0, none⟩ := by
        rcases (KS.out _ J.out.ty).1.1 with ⟨h, _⟩ | ⟨_, Lb, cap', r', e, _⟩
        · omega
        · simp only [Value.slice.injEq] at e
          exact ⟨Lb, e.1⟩
      subst hla
      have k0 := (KS.out _ J.out.ty).1.lineS hlt
      have HMO : Hid (r - (i + 1) < gk) := by unfold Hid; rw [HG.out]; omega
      have HI : Hid (∃ (j : Nat) (s : Value) (C : Nat → Nat → Value), Value.int .i64 0 = .int .i64 (j : Int) ∧ j ≤ c ∧ c = c - j ∧ MuJ w W5 bo b11 r c (mlF m c P Q P' Q') (2 * KW + 64) (i * c + j) s C wr) := ⟨0, s, C, rfl, Nat.zero_le _, rfl, J.out⟩
      obtain ⟨gi, hgi⟩ : ∃ gi, gs.getD i 0 = gi := ⟨_, rfl⟩
      have EGI := hid hgi
      rw [hgi] at k0
      clear HG J hgi
      go_wp2_with fail
      clear k0
      go_loopg [59] c (fun gk s59 wx => ∃ (j : Nat) (s : Value) (C : Nat → Nat → Value), s59 = .int .i64 (j : Int) ∧ j ≤ c ∧ gk = c - j ∧ MuJ w W5 bo b11 r c (mlF m c P Q P' Q') (2 * KW + 64) (i * c + j) s C wx)
      case atStart => exact HI.out
      case round =>
        clear HI
        obtain ⟨j, s, C, rfl, hjc, hgk, hJ⟩ := hrel
        have J := hid hJ
        have HG := hid hgk
        obtain ⟨sa, sc, rfl, -, -, -⟩ := hJ.g.form
        clear hJ hgk
        obtain ⟨sl, hsl⟩ : ∃ sl, i * c + j = sl := ⟨_, rfl⟩
        have HSL := hid hsl
        rw [hsl] at J
        clear hsl
        by_cases hlt2 : j < c
        · have hlt2' : (j : Int) < (c : Int) := by omega
          have hwj := wrapI9 (i := j) (by omega)
          obtain ⟨Lc, hla⟩ : ∃ Lc, lca = some ⟨Lc, 0, none⟩ := by
            rcases (KS.out _ J.out.ty).2.1 with ⟨h, _⟩ | ⟨_, Lb, cap', r', e, _⟩
            · omega
            · simp only [Value.slice.injEq] at e
              exact ⟨Lb, e.1⟩
          subst hla
          have k0 := (KS.out _ J.out.ty).2.lineS hlt2
          obtain ⟨gj, hgj⟩ : ∃ gj, gs2.getD j 0 = gj := ⟨_, rfl⟩
          rw [hgj] at k0
          have R1 : Zl wr (.slice (some ⟨gs.getD i 0, 0, none⟩) m m) ((List.range m).map (whl (fun x => Rat.divInt (rwP m P i x) (rwP m Q i x)) m)) KW := ((KS.out _ J.out.ty).1.2.2 i hlt).2.zl (by omega)
          have R2 : Zl wr (.slice (some ⟨gs2.getD j 0, 0, none⟩) m m) ((List.range m).map (whl (fun x => Rat.divInt (clP c P' j x) (clP c Q' j x)) m)) KW := ((KS.out _ J.out.ty).2.2.2 j hlt2).2.zl (by omega)
          rw [EGI.out] at R1
          rw [hgj] at R2
          have HDT := hid (dot_any R1 R2 (by simp) (by have := HKB.out; simp; omega))
          have HMM : Hid (c - (j + 1) < gk) := by unfold Hid; rw [HG.out]; omega
          have HSN : Hid (sl < r * c) := by unfold Hid; rw [← HSL.out]; exact zF_lt17 hlt hlt2
          have HRC : Hid (r * c ≤ 64 * 64) := Nat.mul_le_mul hr hc
          clear HG R1 R2 hgj
          go_wp2_with fail
          refine HDT.out.mono ?_
          rintro e w6 ⟨rd, rfl, md, b6⟩
          obtain ⟨nd, xd, ad, cd, rfl⟩ := md.parts
          obtain ⟨ld, hld⟩ : ∃ ld, xd.length = ld := ⟨_, rfl⟩
          rw [hld] at md ⊢
          obtain ⟨V1, hV⟩ : ∃ V1, w6.alloc (duo (.bool nd) (.slice ad ld cd)) = V1 := ⟨_, rfl⟩
          obtain ⟨b7, sz7⟩ := alo1 w6 (duo (.bool nd) (.slice ad ld cd))
          rw [hV] at b7 sz7
          have DD : Hid (Duo V1 w6.heap.size (.bool nd) (.slice ad ld cd)) := by unfold Hid; rw [← hV]; exact Duo.new w6 _ _
          have J1 := hid (J.out.now (below_step b6 b7))
          have ZD := hid ((md.mono (Nat.zero_le _)).now b7)
          have t5 : Ty 24 W5 V1 := J1.out.ty
          obtain ⟨ra2, rc2, he, -, -, hf⟩ := (ZLT.out _ t5).1
          simp only [Value.slice.injEq] at he
          obtain ⟨he1, -, -⟩ := he
          obtain ⟨rb, ro, hrb⟩ : ∃ rb ro, bra = some ⟨rb, ro, none⟩ := by
            rcases hf with h | ⟨b, off, h, _⟩
            · have := congrArg List.length h; rw [wlB_len] at this; simp at this; omega
            · exact ⟨b, off, by rw [he1]; exact h⟩
          obtain ⟨ca2, cc2, he', -, -, hf'⟩ := (ZLT.out _ t5).2
          simp only [Value.slice.injEq] at he'
          obtain ⟨he1', -, -⟩ := he'
          obtain ⟨cb, co, hcb⟩ : ∃ cb co, bca = some ⟨cb, co, none⟩ := by
            rcases hf' with h | ⟨b, off, h, _⟩
            · have := congrArg List.length h; rw [wlB_len] at this; simp at this; omega
            · exact ⟨b, off, by rw [he1']; exact h⟩
          subst hrb hcb
          obtain ⟨n1, x1, a1, c1, e1, e2, z1⟩ := (ZLT.out _ t5).1.at9 (i := i) (by rw [wlB_len]; exact hlt)
          obtain ⟨n2, x2, a2, c2, e3, e4, z2⟩ := (ZLT.out _ t5).2.at9 (i := j) (by rw [wlB_len]; exact hlt2)
          have g1 : (wlB r m (fun i j => Rat.divInt (rwP m P i j) (rwP m Q i j)))[i]'(by rw [wlB_len]; exact hlt) = (lcn (fun x => Rat.divInt (rwP m P i x) (rwP m Q i x)) m : Int) := by simp [wlB]
          have g2 : (wlB c m (fun i j => Rat.divInt (clP c P' i j) (clP c Q' i j)))[j]'(by rw [wlB_len]; exact hlt2) = (lcn (fun x => Rat.divInt (clP c P' j x) (clP c Q' j x)) m : Int) := by simp [wlB]
          rw [g1] at z1
          rw [g2] at z2
          have Z1 := hid z1
          have Z2 := hid z2
          have d0 := DD.out.c0
          have d1 := DD.out.c1
          have EV := hid hV
          have HNZ : Hid ((lcn (fun x => Rat.divInt (rwP m P i x) (rwP m Q i x)) m : Int) * (lcn (fun x => Rat.divInt (clP c P' j x) (clP c Q' j x)) m : Int) ≠ 0) := Int.mul_ne_zero (by have := lcn_pos (fun x => Rat.divInt (rwP m P i x) (rwP m Q i x)) m; omega) (by have := lcn_pos (fun x => Rat.divInt (clP c P' j x) (clP c Q' j x)) m; omega)
          clear z1 z2 g1 g2 hf hf' he1 he1' md b6 b7 sz7 hV HDT J k0 t5 hld
          go_wp2_with fail
          rw [EV.out]
          clear EV
          obtain ⟨bd, hbd⟩ : ∃ bd, w6.heap.size = bd := ⟨_, rfl⟩
          rw [hbd] at d0 d1 DD ⊢
          clear hbd
          go_cut [18, 19] from 70 to 90 (fun s1 s2 wx => MetF V1 (mlF m c P Q P' Q' i j) (2 * KW + 64) s1 s2 wx)
          case first =>
            have KB : Hid (∀ w', Below V1.heap.size V1 w' → w'.cell? ⟨bd, 0, none⟩ = some (.bool nd) ∧ w'.cell? ⟨bd, 1, none⟩ = some (.slice ad ld cd) ∧ w'.cell? ⟨rb, ro + i * 2, none⟩ = some (.bool n1) ∧ w'.cell? ⟨rb, ro + i * 2 + 1, none⟩ = some (.slice a1 x1.length c1) ∧ w'.cell? ⟨cb, co + j * 2, none⟩ = some (.bool n2) ∧ w'.cell? ⟨cb, co + j * 2 + 1, none⟩ = some (.slice a2 x2.length c2)) := fun w' h => ⟨cnow h d0, cnow h d1, cnow h e1, cnow h e2, cnow h e3, cnow h e4⟩
            refine wp_region_tail (fun w' => w'.cell? ⟨bd, 0, none⟩ = some (.bool nd) ∧ w'.cell? ⟨bd, 1, none⟩ = some (.slice ad ld cd) ∧ w'.cell? ⟨rb, ro + i * 2, none⟩ = some (.bool n1) ∧ w'.cell? ⟨rb, ro + i * 2 + 1, none⟩ = some (.slice a1 x1.length c1) ∧ w'.cell? ⟨cb, co + j * 2, none⟩ = some (.bool n2) ∧ w'.cell? ⟨cb, co + j * 2 + 1, none⟩ = some (.slice a2 x2.length c2)) 16 (by kernel_rfl) ?_
            obtain ⟨D21, hD⟩ : ∃ D21, V1.drew = D21 := ⟨_, rfl⟩
            have GB : Hid (Below V1.heap.size V1 D21) := by unfold Hid; rw [← hD]; exact (Below.refl _ _).drew
            rw [hD]
            clear hD
            have GZ : Hid (V1.heap.size ≤ D21.heap.size) := GB.out.size
            refine wpAnyT_list [(0, (.agg #[.bool nd, .slice ad ld cd])), (1, (.slice (some ⟨rb, ro, none⟩) r brc)), (2, (.int .i64 (i : Int))), (3, (.pointer (some ⟨rb, ro + i * 2, none⟩))), (4, (.agg #[.bool n1, .slice a1 x1.length c1])), (5, (.slice (some ⟨cb, co, none⟩) c bcc)), (6, (.int .i64 (j : Int))), (7, (.pointer (some ⟨cb, co + j * 2, none⟩))), (8, (.agg #[.bool n2, .slice a2 x2.length c2]))] 9 ?_ (KB.out _ GB.out) ?_
            · simp only [TakesV, gA9, g09, g19, Act.put, sI9, s09, s19]
              (repeat' (first | exact trivial | refine And.intro (Or.inl ⟨by rfl, ?_⟩) ?_)) <;> (intro w hSw; (try dsimp only at hSw); go_simp)
            simp only [actV, gA9, g09, g19, Act.put, sI9, s09, s19]
            refine wpAnyT_two (i := 9) (j := 14) (oi := { dst := some 80, op := Op.call { callee := Callee.value (Operand.func 53), args := #[Operand.tmp 75, Operand.tmp 79], argTypes := #[45, 45] }, type := 45, pos := "rref.go:39", after := #[{ on := 4, ground := Ground.data }, { on := 8, ground := Ground.data }], guard := none }) (oj := { dst := some 18, op := Op.alloc 47, type := 0, pos := "rref.go:39", after := #[], guard := none }) (by kernel_rfl) rfl rfl (fun K hK => ?_) (fun K hK => ?_)
            · skip
              go_simp
              go_at_call 53
              refine (mul_z (Z1.out.now GB.out) (Z2.out.now GB.out) (by have := HKB.out; omega)).mono ?_
              rintro e w22 ⟨rm, rfl, mm, b⟩
              have lz22 := (show Below _ _ _ from b).size
              replace GB := hid (below_step GB.out b)
              replace GZ : Hid (V1.heap.size ≤ w22.heap.size) := GB.out.size
              have MM := hid (((mm.mono (Nat.zero_le _)).more (show KW + KW ≤ 2 * KW + 64 by omega)).zi)
              obtain ⟨nm, xm, am, cm, rfl⟩ := mm.parts
              clear mm
              clear b
              refine hK.out _ _ (fun _ => KB.out _ GB.out) ?_
              clear hK
              refine wpAnyT_two (i := 10) (j := 14) (oi := { dst := some 81, op := Op.call { callee := Callee.value (Operand.func 52), args := #[Operand.tmp 71, Operand.tmp 80], argTypes := #[45, 45] }, type := 78, pos := "rref.go:39", after := #[{ on := 0, ground := Ground.data }, { on := 9, ground := Ground.data }, { on := 9, ground := Ground.chain }], guard := none }) (oj := { dst := some 18, op := Op.alloc 47, type := 0, pos := "rref.go:39", after := #[], guard := none }) (by kernel_rfl) rfl rfl (fun K hK => ?_) (fun K hK => ?_)
              · skip
                go_simp
                go_at_call 52
                refine (fof_z (k := 2 * KW + 64) ((ZD.out.now GB.out).zi.more (by simp; omega)) MM.out (by have := HKB.out; omega) HNZ.out).mono ?_
                rintro e w23 ⟨_, _, _, _, rfl, m1, m2, b⟩
                have lz23 := (show Below _ _ _ from b).size
                replace GB := hid (below_step GB.out b)
                replace GZ : Hid (V1.heap.size ≤ w23.heap.size) := GB.out.size
                obtain ⟨p1, x1, q1, o1, eP⟩ := m1.parts
                obtain ⟨p2, x2, q2, o2, eQ⟩ := m2.parts
                simp only [Value.agg.injEq, Array.mk.injEq, List.cons.injEq, and_true] at eP eQ
                obtain ⟨rfl, rfl⟩ := eP
                obtain ⟨rfl, rfl⟩ := eQ
                have MN := hid (And.intro (m1.mono (Nat.zero_le _)) (m2.mono (Nat.zero_le _)))
                clear m1 m2 MM
                clear b
                refine hK.out _ _ (fun _ => KB.out _ GB.out) ?_
                clear hK
                refine wpAnyT_list [(11, (.tuple #[(.agg #[.bool p1, .slice q1 x1.length o1, .bool p2, .slice q2 x2.length o2]), (.int .i64 0)])), (12, (.agg #[.bool p1, .slice q1 x1.length o1, .bool p2, .slice q2 x2.length o2])), (13, (.int .i64 0))] 3 ?_ (KB.out _ GB.out) ?_
                · simp only [TakesV, gA9, g09, g19, Act.put, sI9, s09, s19]
                  (repeat' (first | exact trivial | refine And.intro (Or.inl ⟨by rfl, ?_⟩) ?_)) <;> (intro w hSw; (try dsimp only at hSw); go_simp)
                simp only [actV, gA9, g09, g19, Act.put, sI9, s09, s19]
                refine wpAnyT_one (i := 14) (o := { dst := some 18, op := Op.alloc 47, type := 0, pos := "rref.go:39", after := #[], guard := none }) (by kernel_rfl) rfl (fun K hK => ?_)
                go_simp
                obtain ⟨V24, hW⟩ : ∃ V24, w23.alloc (.cells #[.bool false, .slice none 0 0, .bool false, .slice none 0 0] 47) = V24 := ⟨_, rfl⟩
                obtain ⟨b, sz24⟩ := alo1 w23 (.cells #[.bool false, .slice none 0 0, .bool false, .slice none 0 0] 47)
                rw [hW] at b sz24
                replace GB := hid (below_step GB.out b)
                have DX : Hid (Cel V24 w23.heap.size 47 [.bool false, .slice none 0 0, .bool false, .slice none 0 0]) := by unfold Hid; rw [← hW]; exact Cel.new w23 _ _
                have SX := hid (show V1.heap.size ≤ w23.heap.size from GZ.out)
                clear sz24
                replace MN := hid (⟨MN.out.1.now b, MN.out.2.now b⟩ : _ ∧ _)
                replace GZ : Hid (V1.heap.size ≤ V24.heap.size) := GB.out.size
                rw [hW]
                clear hW b
                refine hK.out _ _ (fun _ => KB.out _ GB.out) ?_
                clear hK
                try simp only [Act.put]
                refine wpAnyT_one (i := 15) (o := { dst := none, op := Op.store 47 (Operand.tmp 18) (Operand.tmp 82), type := 0, pos := "rref.go:39", after := #[{ on := 14, ground := Ground.data }, { on := 12, ground := Ground.data }, { on := 10, ground := Ground.chain }, { on := 0, ground := Ground.phase }, { on := 1, ground := Ground.phase }, { on := 2, ground := Ground.phase }, { on := 3, ground := Ground.phase }, { on := 4, ground := Ground.phase }, { on := 5, ground := Ground.phase }, { on := 6, ground := Ground.phase }, { on := 7, ground := Ground.phase }, { on := 8, ground := Ground.phase }, { on := 9, ground := Ground.phase }, { on := 10, ground := Ground.phase }, { on := 11, ground := Ground.phase }, { on := 12, ground := Ground.phase }, { on := 13, ground := Ground.textOnly Departure.lateStores }, { on := 14, ground := Ground.phase }], guard := none }) (by kernel_rfl) rfl (fun K hK => ?_)
                have h0 := DX.out.at (i := 0) rfl
                have j0 := DX.out.fz 0
                have h1 := DX.out.at (i := 1) rfl
                have j1 := DX.out.fz 1
                have h2 := DX.out.at (i := 2) rfl
                have j2 := DX.out.fz 2
                have h3 := DX.out.at (i := 3) rfl
                have j3 := DX.out.fz 3
                go_simp
                clear h0 h1 h2 h3 j0 j1 j2 j3
                obtain ⟨V25, hW⟩ : ∃ V25, ((((V24.setCell ⟨w23.heap.size, 0, none⟩ (.bool p1)).setCell ⟨w23.heap.size, 1, none⟩ (.slice q1 x1.length o1)).setCell ⟨w23.heap.size, 2, none⟩ (.bool p2)).setCell ⟨w23.heap.size, 3, none⟩ (.slice q2 x2.length o2)) = V25 := ⟨_, rfl⟩
                have FN4 : Hid (MetF V1 (mlF m c P Q P' Q' i j) (2 * KW + 64) (.pointer (some ⟨w23.heap.size, 0, none⟩)) (.int .i64 0) V25) := by
                  have ty : Ty 47 V24 V25 := by rw [← hW]; exact (((Ty.set DX.out).trans (Ty.set (DX.out.set 0 _))).trans (Ty.set ((DX.out.set 0 _).set 1 _))).trans (Ty.set (((DX.out.set 0 _).set 1 _).set 2 _))
                  refine ⟨_, p1, q1, _, o1, p2, q2, _, o2, rfl, rfl, SX.out, by rw [← hW]; exact (((DX.out.set 0 _).set 1 _).set 2 _).set 3 _, MN.out.1.ty ty (by decide), MN.out.2.ty ty (by decide), ?_⟩
                  rw [← hW]
                  exact bset (bset (bset (bset GB.out SX.out) SX.out) SX.out) SX.out
                replace GB : Hid (Below V1.heap.size V1 V25) := by unfold Hid; rw [← hW]; exact bset (bset (bset (bset GB.out SX.out) SX.out) SX.out) SX.out
                rw [hW]
                clear hW
                refine hK.out _ _ (fun _ => KB.out _ GB.out) ?_
                clear hK
                try simp only [Act.put]
                refine wpAnyT_one (i := 16) (o := { dst := some 19, op := Op.assign (Operand.tmp 83), type := 27, pos := "rref.go:39", after := #[{ on := 13, ground := Ground.data }, { on := 15, ground := Ground.chain }, { on := 0, ground := Ground.phase }, { on := 1, ground := Ground.phase }, { on := 2, ground := Ground.phase }, { on := 3, ground := Ground.phase }, { on := 4, ground := Ground.phase }, { on := 5, ground := Ground.phase }, { on := 6, ground := Ground.phase }, { on := 7, ground := Ground.phase }, { on := 8, ground := Ground.phase }, { on := 9, ground := Ground.phase }, { on := 10, ground := Ground.phase }, { on := 11, ground := Ground.phase }, { on := 12, ground := Ground.phase }, { on := 13, ground := Ground.phase }, { on := 14, ground := Ground.phase }, { on := 15, ground := Ground.phase }], guard := none }) (by kernel_rfl) rfl (fun K hK => ?_)
                go_simp
                refine hK.out _ _ (fun h => absurd h (by decide)) ?_
                clear hK
                try simp only [Act.put]
                refine wpAnyT_done (by kernel_rfl) ?_ _
                clear GB GZ DX SX MN
                go_wp2_with fail
                go_meet
                exact FN4.out
              · skip
                go_simp
                obtain ⟨V26, hW⟩ : ∃ V26, w22.alloc (.cells #[.bool false, .slice none 0 0, .bool false, .slice none 0 0] 47) = V26 := ⟨_, rfl⟩
                obtain ⟨b, sz26⟩ := alo1 w22 (.cells #[.bool false, .slice none 0 0, .bool false, .slice none 0 0] 47)
                rw [hW] at b sz26
                replace GB := hid (below_step GB.out b)
                have DX : Hid (Cel V26 w22.heap.size 47 [.bool false, .slice none 0 0, .bool false, .slice none 0 0]) := by unfold Hid; rw [← hW]; exact Cel.new w22 _ _
                have SX := hid (show V1.heap.size ≤ w22.heap.size from GZ.out)
                clear sz26
                replace MM := hid (MM.out.now b)
                replace GZ : Hid (V1.heap.size ≤ V26.heap.size) := GB.out.size
                rw [hW]
                clear hW b
                refine hK.out _ _ (fun _ => KB.out _ GB.out) ?_
                clear hK
                try simp only [Act.put]
                refine wpAnyT_one (i := 10) (o := { dst := some 81, op := Op.call { callee := Callee.value (Operand.func 52), args := #[Operand.tmp 71, Operand.tmp 80], argTypes := #[45, 45] }, type := 78, pos := "rref.go:39", after := #[{ on := 0, ground := Ground.data }, { on := 9, ground := Ground.data }, { on := 9, ground := Ground.chain }], guard := none }) (by kernel_rfl) rfl (fun K hK => ?_)
                go_simp
                go_at_call 52
                refine (fof_z (k := 2 * KW + 64) ((ZD.out.now GB.out).zi.more (by simp; omega)) MM.out (by have := HKB.out; omega) HNZ.out).mono ?_
                rintro e w27 ⟨_, _, _, _, rfl, m1, m2, b⟩
                have lz27 := (show Below _ _ _ from b).size
                replace GB := hid (below_step GB.out b)
                replace DX := hid (DX.out.step b)
                replace GZ : Hid (V1.heap.size ≤ w27.heap.size) := GB.out.size
                obtain ⟨p1, x1, q1, o1, eP⟩ := m1.parts
                obtain ⟨p2, x2, q2, o2, eQ⟩ := m2.parts
                simp only [Value.agg.injEq, Array.mk.injEq, List.cons.injEq, and_true] at eP eQ
                obtain ⟨rfl, rfl⟩ := eP
                obtain ⟨rfl, rfl⟩ := eQ
                have MN := hid (And.intro (m1.mono (Nat.zero_le _)) (m2.mono (Nat.zero_le _)))
                clear m1 m2 MM
                clear b
                refine hK.out _ _ (fun _ => KB.out _ GB.out) ?_
                clear hK
                refine wpAnyT_list [(11, (.tuple #[(.agg #[.bool p1, .slice q1 x1.length o1, .bool p2, .slice q2 x2.length o2]), (.int .i64 0)])), (12, (.agg #[.bool p1, .slice q1 x1.length o1, .bool p2, .slice q2 x2.length o2])), (13, (.int .i64 0))] 3 ?_ (KB.out _ GB.out) ?_
                · simp only [TakesV, gA9, g09, g19, Act.put, sI9, s09, s19]
                  (repeat' (first | exact trivial | refine And.intro (Or.inl ⟨by rfl, ?_⟩) ?_)) <;> (intro w hSw; (try dsimp only at hSw); go_simp)
                simp only [actV, gA9, g09, g19, Act.put, sI9, s09, s19]
                refine wpAnyT_one (i := 15) (o := { dst := none, op := Op.store 47 (Operand.tmp 18) (Operand.tmp 82), type := 0, pos := "rref.go:39", after := #[{ on := 14, ground := Ground.data }, { on := 12, ground := Ground.data }, { on := 10, ground := Ground.chain }, { on := 0, ground := Ground.phase }, { on := 1, ground := Ground.phase }, { on := 2, ground := Ground.phase }, { on := 3, ground := Ground.phase }, { on := 4, ground := Ground.phase }, { on := 5, ground := Ground.phase }, { on := 6, ground := Ground.phase }, { on := 7, ground := Ground.phase }, { on := 8, ground := Ground.phase }, { on := 9, ground := Ground.phase }, { on := 10, ground := Ground.phase }, { on := 11, ground := Ground.phase }, { on := 12, ground := Ground.phase }, { on := 13, ground := Ground.textOnly Departure.lateStores }, { on := 14, ground := Ground.phase }], guard := none }) (by kernel_rfl) rfl (fun K hK => ?_)
                have h0 := DX.out.at (i := 0) rfl
                have j0 := DX.out.fz 0
                have h1 := DX.out.at (i := 1) rfl
                have j1 := DX.out.fz 1
                have h2 := DX.out.at (i := 2) rfl
                have j2 := DX.out.fz 2
                have h3 := DX.out.at (i := 3) rfl
                have j3 := DX.out.fz 3
                go_simp
                clear h0 h1 h2 h3 j0 j1 j2 j3
                obtain ⟨V28, hW⟩ : ∃ V28, ((((w27.setCell ⟨w22.heap.size, 0, none⟩ (.bool p1)).setCell ⟨w22.heap.size, 1, none⟩ (.slice q1 x1.length o1)).setCell ⟨w22.heap.size, 2, none⟩ (.bool p2)).setCell ⟨w22.heap.size, 3, none⟩ (.slice q2 x2.length o2)) = V28 := ⟨_, rfl⟩
                have FN4 : Hid (MetF V1 (mlF m c P Q P' Q' i j) (2 * KW + 64) (.pointer (some ⟨w22.heap.size, 0, none⟩)) (.int .i64 0) V28) := by
                  have ty : Ty 47 w27 V28 := by rw [← hW]; exact (((Ty.set DX.out).trans (Ty.set (DX.out.set 0 _))).trans (Ty.set ((DX.out.set 0 _).set 1 _))).trans (Ty.set (((DX.out.set 0 _).set 1 _).set 2 _))
                  refine ⟨_, p1, q1, _, o1, p2, q2, _, o2, rfl, rfl, SX.out, by rw [← hW]; exact (((DX.out.set 0 _).set 1 _).set 2 _).set 3 _, MN.out.1.ty ty (by decide), MN.out.2.ty ty (by decide), ?_⟩
                  rw [← hW]
                  exact bset (bset (bset (bset GB.out SX.out) SX.out) SX.out) SX.out
                replace GB : Hid (Below V1.heap.size V1 V28) := by unfold Hid; rw [← hW]; exact bset (bset (bset (bset GB.out SX.out) SX.out) SX.out) SX.out
                rw [hW]
                clear hW
                refine hK.out _ _ (fun _ => KB.out _ GB.out) ?_
                clear hK
                try simp only [Act.put]
                refine wpAnyT_one (i := 16) (o := { dst := some 19, op := Op.assign (Operand.tmp 83), type := 27, pos := "rref.go:39", after := #[{ on := 13, ground := Ground.data }, { on := 15, ground := Ground.chain }, { on := 0, ground := Ground.phase }, { on := 1, ground := Ground.phase }, { on := 2, ground := Ground.phase }, { on := 3, ground := Ground.phase }, { on := 4, ground := Ground.phase }, { on := 5, ground := Ground.phase }, { on := 6, ground := Ground.phase }, { on := 7, ground := Ground.phase }, { on := 8, ground := Ground.phase }, { on := 9, ground := Ground.phase }, { on := 10, ground := Ground.phase }, { on := 11, ground := Ground.phase }, { on := 12, ground := Ground.phase }, { on := 13, ground := Ground.phase }, { on := 14, ground := Ground.phase }, { on := 15, ground := Ground.phase }], guard := none }) (by kernel_rfl) rfl (fun K hK => ?_)
                go_simp
                refine hK.out _ _ (fun h => absurd h (by decide)) ?_
                clear hK
                try simp only [Act.put]
                refine wpAnyT_done (by kernel_rfl) ?_ _
                clear GB GZ DX SX MN
                go_wp2_with fail
                go_meet
                exact FN4.out
            · skip
              go_simp
              obtain ⟨V29, hW⟩ : ∃ V29, D21.alloc (.cells #[.bool false, .slice none 0 0, .bool false, .slice none 0 0] 47) = V29 := ⟨_, rfl⟩
              obtain ⟨b, sz29⟩ := alo1 D21 (.cells #[.bool false, .slice none 0 0, .bool false, .slice none 0 0] 47)
              rw [hW] at b sz29
              replace GB := hid (below_step GB.out b)
              have DX : Hid (Cel V29 D21.heap.size 47 [.bool false, .slice none 0 0, .bool false, .slice none 0 0]) := by unfold Hid; rw [← hW]; exact Cel.new D21 _ _
              have SX := hid (show V1.heap.size ≤ D21.heap.size from GZ.out)
              clear sz29
              replace GZ : Hid (V1.heap.size ≤ V29.heap.size) := GB.out.size
              rw [hW]
              clear hW b
              refine hK.out _ _ (fun _ => KB.out _ GB.out) ?_
              clear hK
              try simp only [Act.put]
              refine wpAnyT_one (i := 9) (o := { dst := some 80, op := Op.call { callee := Callee.value (Operand.func 53), args := #[Operand.tmp 75, Operand.tmp 79], argTypes := #[45, 45] }, type := 45, pos := "rref.go:39", after := #[{ on := 4, ground := Ground.data }, { on := 8, ground := Ground.data }], guard := none }) (by kernel_rfl) rfl (fun K hK => ?_)
              go_simp
              go_at_call 53
              refine (mul_z (Z1.out.now GB.out) (Z2.out.now GB.out) (by have := HKB.out; omega)).mono ?_
              rintro e w30 ⟨rm, rfl, mm, b⟩
              have lz30 := (show Below _ _ _ from b).size
              replace GB := hid (below_step GB.out b)
              replace DX := hid (DX.out.step b)
              replace GZ : Hid (V1.heap.size ≤ w30.heap.size) := GB.out.size
              have MM := hid (((mm.mono (Nat.zero_le _)).more (show KW + KW ≤ 2 * KW + 64 by omega)).zi)
              obtain ⟨nm, xm, am, cm, rfl⟩ := mm.parts
              clear mm
              clear b
              refine hK.out _ _ (fun _ => KB.out _ GB.out) ?_
              clear hK
              refine wpAnyT_one (i := 10) (o := { dst := some 81, op := Op.call { callee := Callee.value (Operand.func 52), args := #[Operand.tmp 71, Operand.tmp 80], argTypes := #[45, 45] }, type := 78, pos := "rref.go:39", after := #[{ on := 0, ground := Ground.data }, { on := 9, ground := Ground.data }, { on := 9, ground := Ground.chain }], guard := none }) (by kernel_rfl) rfl (fun K hK => ?_)
              go_simp
              go_at_call 52
              refine (fof_z (k := 2 * KW + 64) ((ZD.out.now GB.out).zi.more (by simp; omega)) MM.out (by have := HKB.out; omega) HNZ.out).mono ?_
              rintro e w31 ⟨_, _, _, _, rfl, m1, m2, b⟩
              have lz31 := (show Below _ _ _ from b).size
              replace GB := hid (below_step GB.out b)
              replace DX := hid (DX.out.step b)
              replace GZ : Hid (V1.heap.size ≤ w31.heap.size) := GB.out.size
              obtain ⟨p1, x1, q1, o1, eP⟩ := m1.parts
              obtain ⟨p2, x2, q2, o2, eQ⟩ := m2.parts
              simp only [Value.agg.injEq, Array.mk.injEq, List.cons.injEq, and_true] at eP eQ
              obtain ⟨rfl, rfl⟩ := eP
              obtain ⟨rfl, rfl⟩ := eQ
              have MN := hid (And.intro (m1.mono (Nat.zero_le _)) (m2.mono (Nat.zero_le _)))
              clear m1 m2 MM
              clear b
              refine hK.out _ _ (fun _ => KB.out _ GB.out) ?_
              clear hK
              refine wpAnyT_list [(11, (.tuple #[(.agg #[.bool p1, .slice q1 x1.length o1, .bool p2, .slice q2 x2.length o2]), (.int .i64 0)])), (12, (.agg #[.bool p1, .slice q1 x1.length o1, .bool p2, .slice q2 x2.length o2])), (13, (.int .i64 0))] 3 ?_ (KB.out _ GB.out) ?_
              · simp only [TakesV, gA9, g09, g19, Act.put, sI9, s09, s19]
                (repeat' (first | exact trivial | refine And.intro (Or.inl ⟨by rfl, ?_⟩) ?_)) <;> (intro w hSw; (try dsimp only at hSw); go_simp)
              simp only [actV, gA9, g09, g19, Act.put, sI9, s09, s19]
              refine wpAnyT_one (i := 15) (o := { dst := none, op := Op.store 47 (Operand.tmp 18) (Operand.tmp 82), type := 0, pos := "rref.go:39", after := #[{ on := 14, ground := Ground.data }, { on := 12, ground := Ground.data }, { on := 10, ground := Ground.chain }, { on := 0, ground := Ground.phase }, { on := 1, ground := Ground.phase }, { on := 2, ground := Ground.phase }, { on := 3, ground := Ground.phase }, { on := 4, ground := Ground.phase }, { on := 5, ground := Ground.phase }, { on := 6, ground := Ground.phase }, { on := 7, ground := Ground.phase }, { on := 8, ground := Ground.phase }, { on := 9, ground := Ground.phase }, { on := 10, ground := Ground.phase }, { on := 11, ground := Ground.phase }, { on := 12, ground := Ground.phase }, { on := 13, ground := Ground.textOnly Departure.lateStores }, { on := 14, ground := Ground.phase }], guard := none }) (by kernel_rfl) rfl (fun K hK => ?_)
              have h0 := DX.out.at (i := 0) rfl
              have j0 := DX.out.fz 0
              have h1 := DX.out.at (i := 1) rfl
              have j1 := DX.out.fz 1
              have h2 := DX.out.at (i := 2) rfl
              have j2 := DX.out.fz 2
              have h3 := DX.out.at (i := 3) rfl
              have j3 := DX.out.fz 3
              go_simp
              clear h0 h1 h2 h3 j0 j1 j2 j3
              obtain ⟨V32, hW⟩ : ∃ V32, ((((w31.setCell ⟨D21.heap.size, 0, none⟩ (.bool p1)).setCell ⟨D21.heap.size, 1, none⟩ (.slice q1 x1.length o1)).setCell ⟨D21.heap.size, 2, none⟩ (.bool p2)).setCell ⟨D21.heap.size, 3, none⟩ (.slice q2 x2.length o2)) = V32 := ⟨_, rfl⟩
              have FN4 : Hid (MetF V1 (mlF m c P Q P' Q' i j) (2 * KW + 64) (.pointer (some ⟨D21.heap.size, 0, none⟩)) (.int .i64 0) V32) := by
                have ty : Ty 47 w31 V32 := by rw [← hW]; exact (((Ty.set DX.out).trans (Ty.set (DX.out.set 0 _))).trans (Ty.set ((DX.out.set 0 _).set 1 _))).trans (Ty.set (((DX.out.set 0 _).set 1 _).set 2 _))
                refine ⟨_, p1, q1, _, o1, p2, q2, _, o2, rfl, rfl, SX.out, by rw [← hW]; exact (((DX.out.set 0 _).set 1 _).set 2 _).set 3 _, MN.out.1.ty ty (by decide), MN.out.2.ty ty (by decide), ?_⟩
                rw [← hW]
                exact bset (bset (bset (bset GB.out SX.out) SX.out) SX.out) SX.out
              replace GB : Hid (Below V1.heap.size V1 V32) := by unfold Hid; rw [← hW]; exact bset (bset (bset (bset GB.out SX.out) SX.out) SX.out) SX.out
              rw [hW]
              clear hW
              refine hK.out _ _ (fun _ => KB.out _ GB.out) ?_
              clear hK
              try simp only [Act.put]
              refine wpAnyT_one (i := 16) (o := { dst := some 19, op := Op.assign (Operand.tmp 83), type := 27, pos := "rref.go:39", after := #[{ on := 13, ground := Ground.data }, { on := 15, ground := Ground.chain }, { on := 0, ground := Ground.phase }, { on := 1, ground := Ground.phase }, { on := 2, ground := Ground.phase }, { on := 3, ground := Ground.phase }, { on := 4, ground := Ground.phase }, { on := 5, ground := Ground.phase }, { on := 6, ground := Ground.phase }, { on := 7, ground := Ground.phase }, { on := 8, ground := Ground.phase }, { on := 9, ground := Ground.phase }, { on := 10, ground := Ground.phase }, { on := 11, ground := Ground.phase }, { on := 12, ground := Ground.phase }, { on := 13, ground := Ground.phase }, { on := 14, ground := Ground.phase }, { on := 15, ground := Ground.phase }], guard := none }) (by kernel_rfl) rfl (fun K hK => ?_)
              go_simp
              refine hK.out _ _ (fun h => absurd h (by decide)) ?_
              clear hK
              try simp only [Act.put]
              refine wpAnyT_done (by kernel_rfl) ?_ _
              clear GB GZ DX SX MN
              go_wp2_with fail
              go_meet
              exact FN4.out
          case rest =>
          rename World => W7
          obtain ⟨b8, p1, q1, l1, o1, p2, q2, l2, o2, rfl, rfl, hb8, f1, zn, zd, b⟩ := hcut
          have J7 := hid (J1.out.now b)
          have CF := hid f1
          have ZN := hid zn
          have ZDD := hid zd
          have u0 := f1.at (i := 0) rfl
          have u1 := f1.at (i := 1) rfl
          have u2 := f1.at (i := 2) rfl
          have u3 := f1.at (i := 3) rfl
          have v2 := J7.out.p.at (i := 2) rfl
          obtain ⟨V8, hV8⟩ : ∃ V8, W7.alloc (.cells #[.bool p1, .slice q1 l1 o1, .bool p2, .slice q2 l2 o2] 47) = V8 := ⟨_, rfl⟩
          obtain ⟨b9, sz9⟩ := alo1 W7 (.cells #[.bool p1, .slice q1 l1 o1, .bool p2, .slice q2 l2 o2] 47)
          rw [hV8] at b9 sz9
          have C8 : Cel V8 W7.heap.size 47 [.bool p1, .slice q1 l1 o1, .bool p2, .slice q2 l2 o2] := by rw [← hV8]; exact Cel.new W7 _ _
          obtain ⟨F, hF⟩ : ∃ F : Nat → Value, F = fun r => (#[Value.bool p1, .slice q1 l1 o1, .bool p2, .slice q2 l2 o2] : Array Value).getD r (.bool false) := ⟨_, rfl⟩
          have F0 : F 0 = .bool p1 := by rw [hF]; rfl
          have F1 : F 1 = .slice q1 l1 o1 := by rw [hF]; rfl
          have F2 : F 2 = .bool p2 := by rw [hF]; rfl
          have F3 : F 3 = .slice q2 l2 o2 := by rw [hF]; rfl
          have HQF : Hid (∀ t : Nat, t < 1 → IsQ ((fun _ => F) t)) := fun _ _ => ⟨p1, q1, l1, o1, p2, q2, l2, o2, F0, F1, F2, F3⟩
          have HZF : Hid (Zm 0 V8 (.agg #[F 0, F 1]) (mlF m c P Q P' Q' i j).num (2 * KW + 64) ∧ Zm 0 V8 (.agg #[F 2, F 3]) ((mlF m c P Q P' Q' i j).den : Int) (2 * KW + 64)) := by
            unfold Hid; rw [F0, F1, F2, F3]; exact ⟨zn.now b9, zd.now b9⟩
          have HCN : Hid (∀ (t x : Nat), t < 1 → x < 4 → V8.cell? ⟨W7.heap.size, 0 + t * 4 + x, none⟩ = some ((fun _ => F) t x)) := fun t x ht hx => by
            obtain rfl : t = 0 := by omega
            show _ = some (F x)
            match x, hx with
            | 0, _ => rw [F0]; exact C8.at (i := 0) rfl
            | 1, _ => rw [F1]; exact C8.at (i := 1) rfl
            | 2, _ => rw [F2]; exact C8.at (i := 2) rfl
            | 3, _ => rw [F3]; exact C8.at (i := 3) rfl
          have J8 := hid (J7.out.now b9)
          have EV8 := hid hV8
          have HB8 : Hid (W5.heap.size ≤ V8.heap.size) := J8.out.ty.1
          have HL8 : Hid (sl + 1 ≤ 1048576) := by unfold Hid; have := HSN.out; have := HRC.out; omega
          clear hF F0 F1 F2 F3 f1 zn zd b b9 sz9 hV8 C8 J1 J7 CF ZN ZDD DD ZD d0 d1 e1 e2 e3 e4 Z1 Z2 hb8
          go_wp2_with (at_builtin; rw [EV8.out]; refine wpList_append_four V8 rfl (.tmp 85) (.tmp 87) rfl W5.heap.size sl 1 1 W7.heap.size 0 _ C (fun _ => F) rfl J8.out.g rfl HCN.out HQF.out (by omega) HL8.out HB8.out ?_)
          intro g9 cap9 w9 l9 hl9 hO9 hg9 ho9
          have TG : Ty 47 V8 w9 := Ty.grown J8.out.g.1 hg9.out
          have TQ : Ty 24 W5 w9 := ⟨Nat.le_trans J8.out.ty.1 TG.1, fun b L T' fr e hne => by
            have h := J8.out.ty.2 b L T' fr e hne
            have hb := (Array.getElem?_eq_some_iff.1 e).1
            rw [hg9.out.block b (Array.getElem?_eq_some_iff.1 h).1 (fun q => by have := (J8.out.g.own q.symm).1; omega)]
            exact h⟩
          have P9 := J8.out.p.ty13 TG (by decide)
          have v0 := P9.at (i := 2) rfl
          have v1 := P9.fz 2
          have HN1 : Hid (∃ (j' : Nat) (s : Value) (C : Nat → Nat → Value), Value.int .i64 ((j + 1 : Nat) : Int) = .int .i64 (j' : Int) ∧ j' ≤ c ∧ c - (j + 1) = c - j' ∧ MuJ w W5 bo b11 r c (mlF m c P Q P' Q') (2 * KW + 64) (i * c + j') s C (w9.setCell ⟨b11, 2, none⟩ (.slice (some ⟨g9, 0, none⟩) l9 cap9))) := by
            have ts : Ty 24 w9 (w9.setCell ⟨b11, 2, none⟩ (.slice (some ⟨g9, 0, none⟩) l9 cap9)) := Ty.set P9
            have hbG : Below w.heap.size w w9 := by
              refine J8.out.b.trans ⟨hg9.out.os, hg9.out.tape, hg9.out.output, hg9.out.size, fun b hb => hg9.out.block b (by have := J8.out.b.size; omega) (fun e => ?_)⟩
              have h1 := (J8.out.g.own e.symm).1
              have h2 := HNB.out
              omega
            refine ⟨j + 1, _, cat4 sl C (fun _ => F), rfl, by omega, rfl, ⟨TQ.trans ts, P9.set 2 _, (J8.out.o.ty13 TG (by decide)).ne HNB.out.1, ?_, fun t ht => ?_, bset hbG HNB.out.2.1⟩⟩
            · rw [show i * c + (j + 1) = sl + 1 by rw [← HSL.out]; omega]
              exact hO9.out.ty ts (by decide)
            · rw [show i * c + (j + 1) = sl + 1 by rw [← HSL.out]; omega] at ht
              unfold cat4
              by_cases q : t < sl
              · simp only [q, if_true]
                have h := J8.out.z t q
                exact ⟨(h.1.ty TG (by decide)).ty ts (by decide), (h.2.ty TG (by decide)).ty ts (by decide)⟩
              · simp only [q, if_false]
                obtain rfl : t = sl := by omega
                have hcp : 0 < c := by omega
                have e1 : t / c = i := by rw [← HSL.out, Nat.mul_comm i c, Nat.mul_add_div hcp, Nat.div_eq_of_lt hlt2]; rfl
                have e2 : t % c = j := by rw [← HSL.out, Nat.mul_comm i c, Nat.mul_add_mod, Nat.mod_eq_of_lt hlt2]
                rw [e1, e2]
                exact ⟨(HZF.out.1.ty TG (by decide)).ty ts (by decide), (HZF.out.2.ty TG (by decide)).ty ts (by decide)⟩
          clear hl9 hO9 hg9 ho9 TG TQ P9 J8 HZF HCN HQF EV8 HB8 HL8 u0 u1 u2 u3 v2 HSL HSN HRC HNZ
          go_wp2_with fail
          go_roundg (c - (j + 1))
          case rel => exact HN1.out
          case measure => exact HMM.out
        · have hlt2' : ¬ (j : Int) < (c : Int) := by omega
          obtain rfl : j = c := by omega
          have HN1 : Hid (∃ (i' : Nat) (s : Value) (C : Nat → Nat → Value), Value.int .i64 ((i + 1 : Nat) : Int) = .int .i64 (i' : Int) ∧ i' ≤ r ∧ r - (i + 1) = r - i' ∧ MuJ w W5 bo b11 r j (mlF m j P Q P' Q') (2 * KW + 64) (i' * j) s C wr) := ⟨i + 1, _, C, rfl, by omega, rfl, by rw [show (i + 1) * j = sl by rw [Nat.succ_mul, HSL.out]]; exact J.out⟩
          clear J HG HSL
          go_wp2_with fail
          go_roundg (r - (i + 1))
          case rel => exact HN1.out
          case measure => exact HMO.out
    · have hlt' : ¬ (i : Int) < (r : Int) := by omega
      obtain rfl : i = r := by omega
      obtain ⟨sa, sc, rfl, -, -, -⟩ := J.out.g.form
      obtain ⟨sl, hsl⟩ : ∃ sl, i * c = sl := ⟨_, rfl⟩
      have HSL := hid hsl
      rw [hsl] at J
      have y0 := J.out.p.at (i := 0) rfl
      have y1 := J.out.p.at (i := 1) rfl
      have y2 := J.out.p.at (i := 2) rfl
      have c0 := J.out.o.at (i := 0) rfl
      have c1 := J.out.o.at (i := 1) rfl
      have c2 := J.out.o.at (i := 2) rfl
      have f0 := J.out.o.fz 0
      have f1 := J.out.o.fz 1
      have f2 := J.out.o.fz 2
      obtain ⟨V, hV⟩ : ∃ V, ((wr.setCell ⟨bo, 0, none⟩ (.int .i64 (i : Int))).setCell ⟨bo, 1, none⟩ (.int .i64 (c : Int))).setCell ⟨bo, 2, none⟩ (.slice sa sl sc) = V := ⟨_, rfl⟩
      have DR : Hid (Cel V bo 24 [.int .i64 (i : Int), .int .i64 (c : Int), .slice sa sl sc]) := by unfold Hid; rw [← hV]; exact ((J.out.o.set 0 _).set 1 _).set 2 _
      have FF : Hid (MuD w i c (mlF m c P Q P' Q') (2 * KW + 64) (.returned (.tuple #[.agg #[.int .i64 (i : Int), .int .i64 (c : Int), .slice sa sl sc], .int .i64 0])) V) := by
        have ty : Ty 24 wr V := by rw [← hV]; exact ((Ty.set J.out.o).trans (Ty.set (J.out.o.set 0 _))).trans (Ty.set ((J.out.o.set 0 _).set 1 _))
        refine ⟨sa, sc, C, by rw [HSL.out], ?_, fun t ht => ?_, ?_⟩
        · rw [HSL.out]
          have h := J.out.g.ty ty (by decide)
          exact ⟨owns_mono11 h.1 (by have := HNB.out; omega), h.2⟩
        · rw [HSL.out] at ht
          have h := J.out.z t ht
          exact ⟨h.1.ty ty (by decide), h.2.ty ty (by decide)⟩
        · rw [← hV]
          have h := HNB.out.2.2.1
          exact bset (bset (bset J.out.b h) h) h
      have EV := hid hV
      clear hV J HG hsl HSL
      go_wp2
      rw [EV.out]
      exact bodyPost_ret (qback2 Tryz.results18 DR.out _ (by rfl) (by rfl)) rfl FF.out
end Go.Proofs.YtcceoildbnoliaaGreat
