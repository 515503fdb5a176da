/-
  Trace9: checkSquare, Trace.
-/
import Derived.Test.YtojhmkkjjalonaaQTurn9
namespace Go.Proofs.Ytojhmkkjjalonaa
open Go.RowKit
set_option linter.unusedVariables false

set_option maxHeartbeats 1600000 in
set_option maxRecDepth 100000 in
theorem checkSquare_yes {w : World} {v : Value} {n : Nat} {zs : List Int} {k : Nat} (h : Mx w v n n zs k) : Calls Try.prog 39 #[v] w fun e w' => e = .returned (.int .i64 0) ∧ Below w.heap.size w w' := by
  have M0 := hid h
  obtain ⟨aa, ca, rfl, hr, hc⟩ := h.form
  obtain ⟨la, hla⟩ : ∃ la, n * n = la := ⟨_, rfl⟩
  rw [hla] at M0 ⊢
  obtain ⟨W0, hW⟩ : ∃ W0, w.alloc (matO n n (.slice aa la ca)) = W0 := ⟨_, rfl⟩
  obtain ⟨b0, sz0⟩ := alo1 w (matO n n (.slice aa la ca))
  rw [hW] at b0 sz0
  have PA : Hid (Cel W0 w.heap.size 24 (matc n n (.slice aa la ca))) := by unfold Hid; rw [← hW]; exact Cel.new w _ _
  have HCK := hid (check_yes (M0.out.now b0))
  have x0 := PA.out.at (i := 0) rfl
  have x1 := PA.out.at (i := 1) rfl
  have x2 := PA.out.at (i := 2) rfl
  rw [← hW] at x0 x1 x2
  have G0 := hid b0
  have EW := hid hW
  have q0 : ((n : Int) != (n : Int)) = false := by simp
  clear h hla b0 sz0 hW M0
  go_enter Try.func39, Try.ntmps39
  go_wp2_with fail
  rw [EW.out]
  refine HCK.out.mono ?_
  rintro e w1 ⟨rfl, b⟩
  have z0 := (PA.out.step b).at (i := 0) rfl
  have z1 := (PA.out.step b).at (i := 1) rfl
  have G1 := hid (below_step G0.out b)
  clear HCK b x0 x1 x2 EW PA G0
  go_wp2
  go_ret
  exact ⟨rfl, G1.out⟩
set_option maxHeartbeats 1600000 in
set_option maxRecDepth 100000 in
theorem checkSquare_no {w : World} {v : Value} {n m : Nat} {zs : List Int} {k : Nat} (h : Mx w v n m zs k) (hne : n ≠ m) : Calls Try.prog 39 #[v] w fun e w' => e = .returned (.int .i64 2) ∧ Below w.heap.size w w' := by
  have M0 := hid h
  obtain ⟨aa, ca, rfl, hr, hc⟩ := h.form
  obtain ⟨la, hla⟩ : ∃ la, n * m = la := ⟨_, rfl⟩
  rw [hla] at M0 ⊢
  obtain ⟨W0, hW⟩ : ∃ W0, w.alloc (matO n m (.slice aa la ca)) = W0 := ⟨_, rfl⟩
  obtain ⟨b0, sz0⟩ := alo1 w (matO n m (.slice aa la ca))
  rw [hW] at b0 sz0
  have PA : Hid (Cel W0 w.heap.size 24 (matc n m (.slice aa la ca))) := by unfold Hid; rw [← hW]; exact Cel.new w _ _
  have HCK := hid (check_yes (M0.out.now b0))
  have x0 := PA.out.at (i := 0) rfl
  have x1 := PA.out.at (i := 1) rfl
  have x2 := PA.out.at (i := 2) rfl
  rw [← hW] at x0 x1 x2
  have G0 := hid b0
  have EW := hid hW
  have q0 : ((n : Int) != (m : Int)) = true := by simp; omega
  clear h hla b0 sz0 hW M0 hne
  go_enter Try.func39, Try.ntmps39
  go_wp2_with fail
  rw [EW.out]
  refine HCK.out.mono ?_
  rintro e w1 ⟨rfl, b⟩
  have z0 := (PA.out.step b).at (i := 0) rfl
  have z1 := (PA.out.step b).at (i := 1) rfl
  have G1 := hid (below_step G0.out b)
  clear HCK b x0 x1 x2 EW PA G0
  go_wp2
  go_ret
  exact ⟨rfl, G1.out⟩
theorem mat_int_boxes {w W0 : World} {o1 : List Value} (hW : (w.alloc (.cells o1.toArray 24)).alloc zbox = W0) :
    Cel W0 w.heap.size 24 o1 ∧ Duo W0 (w.heap.size + 1) (.bool false) (.slice none 0 0) := by
  refine ⟨?_, ?_⟩
  · rw [← hW]
    exact (Cel.new w 24 o1).step ((Below.refl _ _).alloc (Nat.le_refl _) _)
  · rw [← hW]
    have := Duo.new (w.alloc (.cells o1.toArray 24)) (.bool false) (.slice none 0 0)
    simpa using this
def diagL {α : Type} (n : Nat) (ps : List α) (z : α) (i : Nat) : List α := (List.range i).map fun t => ps.getD (t * n + t) z
theorem diagL_succ {α : Type} {n i : Nat} {ps : List α} {z : α} : diagL n ps z (i + 1) = diagL n ps z i ++ [ps.getD (i * n + i) z] := by simp [diagL, List.range_succ]
theorem diagL_length {α : Type} {n i : Nat} {ps : List α} {z : α} : (diagL n ps z i).length = i := by simp [diagL]
def traceL (n : Nat) (zs : List Int) : Int := zsum (diagL n zs 0 n)
theorem zis_diag {w : World} {ps : List (Value × Value)} {zs : List Int} {k n : Nat} (h : Zis w ps zs k) (hl : zs.length = n * n) : Zis w (diagL n ps zpair n) (diagL n zs 0 n) k := by
  refine ⟨by simp [diagL_length], fun t p z hp hz => ?_⟩
  have ht : t < n := by simpa [diagL] using (List.getElem?_eq_some_iff.1 hp).1
  have h7 : t * n + t < zs.length := by rw [hl]; exact place_lt ht ht
  have h8 : t * n + t < ps.length := by rw [h.1]; exact h7
  have e3 : p = ps[t * n + t] := by simp [diagL, ht, h8] at hp; exact hp.symm
  have e4 : z = zs[t * n + t] := by simp [diagL, ht, h7] at hz; exact hz.symm
  rw [e3, e4]
  exact h.2 _ _ _ (List.getElem?_eq_getElem h8) (List.getElem?_eq_getElem h7)
def TraceH (w2 : World) (n : Nat) (ps : List (Value × Value)) (gk : Nat) (s5 s17 : Value) (wx : World) : Prop := ∃ i : Nat, s17 = .int .i64 (i : Int) ∧ i ≤ n ∧ gk = n - i ∧ OwnP w2.heap.size wx s5 (diagL n ps zpair i) ∧ Below w2.heap.size w2 wx
set_option maxHeartbeats 1600000 in
set_option maxRecDepth 100000 in
theorem trace_no {w : World} {v : Value} {n m : Nat} {zs : List Int} {k : Nat} (h : Mx w v n m zs k) (hne : n ≠ m) : Calls Try.prog 18 #[v] w fun e w' => e = .returned (.tuple #[.agg #[.bool false, .slice none 0 0], .int .i64 2]) ∧ Below w.heap.size w w' := by
  have M0 := hid h
  obtain ⟨aa, ca, rfl, hr, hc⟩ := h.form
  obtain ⟨la, hla⟩ : ∃ la, n * m = la := ⟨_, rfl⟩
  rw [hla] at M0 ⊢
  obtain ⟨W0, hW⟩ : ∃ W0, (w.alloc (matO n m (.slice aa la ca))).alloc zbox = W0 := ⟨_, rfl⟩
  obtain ⟨b0, sz0⟩ := alloc2 w (matO n m (.slice aa la ca)) zbox
  rw [hW] at b0 sz0
  obtain ⟨pa, pr⟩ := mat_int_boxes (o1 := matc n m (.slice aa la ca)) hW
  have HCK := hid (checkSquare_no (M0.out.now b0) hne)
  have x0 := pa.at (i := 0) rfl
  have x1 := pa.at (i := 1) rfl
  have x2 := pa.at (i := 2) rfl
  rw [← hW] at x0 x1 x2
  have PR := hid pr
  have G0 := hid b0
  have EW := hid hW
  clear h hla b0 sz0 hW M0 hne pa pr
  go_enter Try.func18, Try.ntmps18
  go_wp2_with fail
  rw [EW.out]
  refine HCK.out.mono ?_
  rintro e w1 ⟨rfl, b⟩
  have P41 := hid (PR.out.step b)
  have G1 := hid (below_step G0.out b)
  have r0 := P41.out.c0
  have r1 := P41.out.c1
  have f0 := P41.out.fz 0
  have f1 := P41.out.fz 1
  have FIN : Hid (Below w.heap.size w ((w1.setCell ⟨w.heap.size + 1, 0, none⟩ (.bool false)).setCell ⟨w.heap.size + 1, 1, none⟩ (.slice none 0 0))) := bset (bset G1.out (by omega)) (by omega)
  clear HCK b x0 x1 x2 EW PR G0 G1
  go_wp2
  exact bodyPost_ret (zback1 Try.results18 (P41.out.set _ _) _ (by rfl) (by rfl)) rfl ⟨rfl, FIN.out⟩
set_option maxHeartbeats 3200000 in
set_option maxRecDepth 100000 in
theorem trace_yes {w : World} {v : Value} {n : Nat} {zs : List Int} {k : Nat} (h : Mx w v n n zs k) (hk : k + n < 35184372088832) : Calls Try.prog 18 #[v] w (Dotted w (traceL n zs) (k + n)) := by
  have M0 := hid h
  obtain ⟨at_, ps, rfl, p1, p2, p3, hn, -⟩ := h
  obtain ⟨aa, ca, rfl, -, -, -, -⟩ := p1.form
  obtain ⟨W0, hW⟩ : ∃ W0, (w.alloc (matO n n (.slice aa ps.length ca))).alloc zbox = W0 := ⟨_, rfl⟩
  obtain ⟨b0, sz0⟩ := alloc2 w (matO n n (.slice aa ps.length ca)) zbox
  rw [hW] at b0 sz0
  obtain ⟨pa, pr⟩ := mat_int_boxes (o1 := matc n n (.slice aa ps.length ca)) hW
  have HCK := hid (checkSquare_yes (M0.out.now b0))
  have HL : Hid (ps.length = n * n) := by unfold Hid; rw [p2.1, p3]
  have HI := hid p2.isI
  have Q1 := hid (p1.now b0)
  have ZD : Hid (∀ w', Below w.heap.size w w' → Zis w' (diagL n ps zpair n) (diagL n zs 0 n) k) := fun w' hb => zis_diag (p2.now hb) p3
  have TL : Hid (traceL n zs = zsum (diagL n zs 0 n)) := rfl
  have HK := hid hk
  generalize traceL n zs = TZ at *
  obtain ⟨la, hla⟩ : ∃ la, ps.length = la := ⟨_, rfl⟩
  rw [hla] at HCK Q1 pa ⊢
  have x0 := pa.at (i := 0) rfl
  have x1 := pa.at (i := 1) rfl
  have x2 := pa.at (i := 2) rfl
  rw [hla] at hW
  rw [← hW] at x0 x1 x2
  have PA := hid pa
  have PR := hid pr
  have G0 := hid b0
  have EW := hid hW
  clear b0 sz0 hW M0 pa pr p1 p2 p3 hk hla
  go_enter Try.func18, Try.ntmps18
  go_wp2_with fail
  rw [EW.out]
  refine HCK.out.mono ?_
  rintro e w1 ⟨rfl, b⟩
  have HRO := hid (rowsOf_any (Q1.out.now b) HL.out hn hn)
  have PR1 := hid (PR.out.step b)
  have G1 := hid (below_step G0.out b)
  have z0 := (PA.out.step b).at (i := 0) rfl
  have z1 := (PA.out.step b).at (i := 1) rfl
  have z2 := (PA.out.step b).at (i := 2) rfl
  clear HCK b x0 x1 x2 EW PA PR G0 Q1
  go_wp2_with fail
  refine HRO.out.mono ?_
  rintro e w2 ⟨u, rfl, q1, b⟩
  have RW := hid q1
  obtain ⟨ar, cr, rfl, hcr, hnr, hfr⟩ := q1.form
  have PR2 := hid (PR1.out.step b)
  have G2 := hid (below_step G1.out b)
  have HRL : Hid ((rowsL n n ps).length = n) := by unfold Hid; simp [rowsL]
  rw [HRL.out] at RW hcr hnr ⊢
  have FR := hid hfr
  have H0 : Hid (TraceH w2 n ps n (.slice none 0 0) (.int .i64 0) w2) := ⟨0, rfl, Nat.zero_le _, by omega, by simpa [OwnP, diagL, flat] using World.ownsRow_nil w2 w2.heap.size 37 2, Below.refl _ _⟩
  clear HRO q1 b z0 z1 z2 PR1 G1 hfr
  go_wp2_with fail
  go_loopg [5, 17] n (fun gk s5 s17 wx => TraceH w2 n ps gk s5 s17 wx)
  case atStart => exact H0.out
  case round =>
    clear H0
    obtain ⟨i, rfl, hin, hg, ho, hG⟩ := hrel
    have OW := hid ho
    have G := hid hG
    have HG := hid hg
    clear ho hG hg
    by_cases hlt : i < n
    · have hlt' : (i : Int) < (n : Int) := by omega
      obtain ⟨b1, o1, rfl⟩ := FR.out (fun e => by have := HRL.out; rw [e] at this; simp at this; omega)
      obtain ⟨u, k0, pu⟩ := (RW.out.now G.out).at (i := i) (rowsL_at hlt)
      obtain ⟨hpa, hpm⟩ := piece_at (i := i) (j := i) HL.out hlt hlt
      obtain ⟨nf, af, lf, cf, epf⟩ := HI.out _ hpm
      obtain ⟨au, cu, hu, hcu, -, -, hfu⟩ := pu.form
      have hpl : ((ps.drop (i * n)).take n).length = n := by
        have h5 : (i + 1) * n ≤ n * n := Nat.mul_le_mul_right n hlt
        have h6 : (i + 1) * n = i * n + n := by rw [Nat.add_mul, Nat.one_mul]
        have h7 := HL.out
        simp
        omega
      rw [hpl] at hu
      subst hu
      obtain ⟨bi, oi, rfl, -, -⟩ := hfu (fun e => by rw [e] at hpa; simp at hpa)
      obtain ⟨l0, l1⟩ := pu.at hpa
      rw [epf] at l0 l1
      dsimp only at l0 l1
      have EP := hid epf
      have hw := wrapI9 (i := i) (by omega)
      have HNL : Hid ((diagL n ps zpair i).length + 1 ≤ 1048576) := by unfold Hid; rw [diagL_length]; omega
      clear hpa hpm epf hcu hfu hpl pu
      have PB : Hid (Prs 0 (wr.alloc (duo (.bool nf) (.slice af lf cf))) (.slice (some ⟨wr.heap.size, 0, none⟩) 1 1) [(.bool nf, .slice af lf cf)]) := by
        refine ⟨_, _, rfl, by simp, by simp, (fun q => by cases q), .inr ⟨wr.heap.size, 0, rfl, Nat.zero_le _, by simp, fun j p hp => ?_⟩⟩
        match j, hp with
        | 0, hp =>
          simp at hp
          subst hp
          exact ⟨(Duo.new wr _ _).c0, (Duo.new wr _ _).c1⟩
      have BA : Hid (Below wr.heap.size wr (wr.alloc (duo (.bool nf) (.slice af lf cf)))) := (alo1 wr _).1
      have OA := hid (OW.out.keep (fun b _ hb => BA.out.block b hb))
      go_wp2_with (at_builtin; refine wpList_append_pairs _ rfl (.tmp 22) (.tmp 27) rfl w2.heap.size _ _ (diagL n ps zpair i) [(.bool nf, .slice af lf cf)] rfl OA.out rfl 0 PB.out (by intro p hp; simp at hp; subst hp; exact ⟨nf, af, lf, cf, rfl⟩) HNL.out (below_step G.out BA.out).size ?_)
      intro v5 w5 ho5 hg5
      have HN1 : Hid (TraceH w2 n ps (n - (i + 1)) v5 (.int .i64 ((i + 1 : Nat) : Int)) w5) := ⟨i + 1, rfl, by omega, rfl, by rw [diagL_succ, EP.out]; exact ho5, grown_below (B := 0) (below_step G.out BA.out) OA.out hg5.out⟩
      have HMM : Hid (n - (i + 1) < gk) := by unfold Hid; rw [HG.out]; omega
      clear OW OA G HG ho5 hg5 PB BA EP HNL l0 l1 k0
      go_wp2_with fail
      go_roundg (n - (i + 1))
      case rel => exact HN1.out
      case measure => exact HMM.out
    · have hlt' : ¬ (i : Int) < (n : Int) := by omega
      obtain rfl : i = n := by omega
      have GW := hid (below_step G2.out G.out)
      have hpd := owns_prs OW.out (by rw [diagL_length]; omega)
      have HS := hid (sum_z (zl_of hpd (ZD.out _ GW.out)) (by rw [diagL_length]; exact HK.out))
      rw [diagL_length, ← TL.out] at HS
      have P4 := hid (PR2.out.step G.out)
      clear hpd OW G HG
      go_wp2_with fail
      refine HS.out.mono ?_
      rintro e w6 ⟨r, rfl, m1, b⟩
      have P41 := hid (P4.out.step b)
      have G1 := hid (below_step GW.out b)
      have HM := hid (m1.mono GW.out.size)
      obtain ⟨nr, xr, ar', cr', rfl⟩ := m1.parts
      have r0 := P41.out.c0
      have r1 := P41.out.c1
      have f0 := P41.out.fz 0
      have f1 := P41.out.fz 1
      have FIN : Hid (Dotted w TZ (k + i) (.returned (.tuple #[.agg #[.bool nr, .slice ar' xr.length cr'], .int .i64 0])) ((w6.setCell ⟨w.heap.size + 1, 0, none⟩ (.bool nr)).setCell ⟨w.heap.size + 1, 1, none⟩ (.slice ar' xr.length cr'))) := ⟨_, rfl, HM.out.box P41.out _ _, bset (bset G1.out (by omega)) (by omega)⟩
      clear HS P4 GW m1 b
      go_wp2
      exact bodyPost_ret (zback1 Try.results18 (P41.out.set _ _) _ (by rfl) (by rfl)) rfl FIN.out
end Go.Proofs.Ytojhmkkjjalonaa
