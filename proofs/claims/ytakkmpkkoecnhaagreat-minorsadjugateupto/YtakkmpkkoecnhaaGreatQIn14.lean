import Derived.Test.YtakkmpkkoecnhaaGreatQAy14ToLm14
import Derived.Test.YtakkmpkkoecnhaaGreatQSc14ToGcdAll6
import Derived.Test.YtakkmpkkoecnhaaGreatQDt13ToTm14
import Derived.Test.YtakkmpkkoecnhaaGreatQUnit9ToMWord
set_option maxRecDepth 100000
set_option maxHeartbeats 6400000
set_option linter.unusedVariables false
set_option linter.unusedSimpArgs false
namespace Go.Proofs.YtakkmpkkoecnhaaGreat
open Go.RowKit
theorem ztG {f : Func} {s1 s2 s3 : Nat} (hr : f.results = #[ResultVar.cell s1 24, ResultVar.cell s2 29, ResultVar.tmp s3]) {W : World} {b b' : Nat} {x0 x1 x2 y0 y1 e : Value} (h : Cel W b 24 [x0, x1, x2]) (h' : Duo W b' y0 y1) (tmps : Array Value) (ht : tmps[s1]? = some (.pointer (some ⟨b, 0, none⟩))) (ht' : tmps[s2]? = some (.pointer (some ⟨b', 0, none⟩))) (he : tmps[s3]? = some e) :
  (results f tmps).run Tryz.prog W = .ok (.tuple #[.agg #[x0, x1, x2], .agg #[y0, y1], e]) W := by
 simp [results, hr, go_sem, ht, ht', he, h.at (i := 0) rfl, h.at (i := 1) rfl, h.at (i := 2) rfl, h'.c0, h'.c1]
theorem Duo.ty13a {w : World} {b : Nat} {x y : Value} (d : Duo w b x y) (u : Value) : Ty 29 w (w.setCell ⟨b, 0, none⟩ u) := Ty.set (L := [x, y]) d
theorem Duo.ty13b {w : World} {b : Nat} {x y : Value} (d : Duo w b x y) (u u' : Value) : Ty 29 (w.setCell ⟨b, 0, none⟩ u) ((w.setCell ⟨b, 0, none⟩ u).setCell ⟨b, 1, none⟩ u') := Ty.set (L := [u, y]) (d.set0 u)
theorem Duo.ty14d {w w' : World} {b : Nat} {x y : Value} (d : Duo w b x y) (ht : Ty 24 w w') : Duo w' b x y := Cel.ty13 (L := [x, y]) d ht (by decide)
def InvE (w : World) (E : Int) (e : Ending) (w' : World) : Prop := e = .returned (.tuple #[zcF, zMH, .int .i64 E]) ∧ Below w.heap.size w w'
theorem inv_of {w : World} {r c : Int} {a : Option Addr} {l cap : Nat} {E : Int} (hE : E = 1 ∨ E = 2)
  (h : ∀ w', Below w.heap.size w w' → Calls Tryz.prog 8 #[.agg #[.int .i64 r, .int .i64 c, .slice a l cap]] w' (zDB E w' 0 0)) :
  Calls Tryz.prog 31 #[.agg #[.int .i64 r, .int .i64 c, .slice a l cap]] w (InvE w E) := by
 obtain ⟨W0, hW⟩ : ∃ W0, ((w.alloc (.cells #[.int .i64 r, .int .i64 c, .slice a l cap] 24)).alloc mbox).alloc zbox = W0 := ⟨_, rfl⟩
 obtain ⟨b0, sz0⟩ := zyA w (.cells #[.int .i64 r, .int .i64 c, .slice a l cap] 24) mbox zbox; rw [hW] at b0 sz0; have PA : Hid (Cel W0 w.heap.size 24 [.int .i64 r, .int .i64 c, .slice a l cap]) := by
  unfold Hid; rw [← hW]; exact ((Cel.new w 24 [.int .i64 r, .int .i64 c, .slice a l cap]).step ((Below.refl _ _).alloc (Nat.le_refl _) _)).step ((Below.refl _ _).alloc (Nat.le_refl _) _)
 have PR : Hid (Cel W0 (w.heap.size + 1) 24 [.int .i64 0, .int .i64 0, .slice none 0 0]) := by
  unfold Hid; rw [← hW]; have := (Cel.new (w.alloc (.cells #[.int .i64 r, .int .i64 c, .slice a l cap] 24)) 24 [.int .i64 0, .int .i64 0, .slice none 0 0]).step ((Below.refl _ _).alloc (Nat.le_refl _) zbox)
  simpa using this
 have PD : Hid (Duo W0 (w.heap.size + 1 + 1) (.bool false) (.slice none 0 0)) := by
  unfold Hid; rw [← hW]; have := Duo.new ((w.alloc (.cells #[.int .i64 r, .int .i64 c, .slice a l cap] 24)).alloc mbox) (.bool false) (.slice none 0 0)
  simpa using this
 have HC := hid (h W0 b0); have G := hid b0; have x0 := PA.out.at (i := 0) rfl; have x1 := PA.out.at (i := 1) rfl; have x2 := PA.out.at (i := 2) rfl; rw [← hW] at x0 x1 x2; have EW := hid hW; have hne : ¬ E = 0 := by omega
 have hnb : (E != 0) = true := by simp; omega
 clear h b0 sz0 hW hE PA; go_enter Tryz.func31, Tryz.ntmps31; go_wp2_with fail; rw [EW.out]; clear EW x0 x1 x2; refine HC.out.mono ?_; rintro e w1 ⟨rq, rfl, mq, b⟩; obtain ⟨nq, xq, aq, cq, rfl⟩ := mq.parts; obtain ⟨V1, hV⟩ : ∃ V1, w1.alloc (duo (.bool nq) (.slice aq xq.length cq)) = V1 := ⟨_, rfl⟩
 obtain ⟨b1, sz1⟩ := alo1 w1 (duo (.bool nq) (.slice aq xq.length cq)); rw [hV] at b1; replace PR := hid ((PR.out.step b).step b1); replace PD := hid ((PD.out.step b).step b1); replace G := hid (zAA (zAA G.out b) b1); obtain ⟨U, hU⟩ : ∃ U, put3 V1 (w.heap.size + 1) (.int .i64 0) (.int .i64 0) (.slice none 0 0) = U := ⟨_, rfl⟩
 have PRU : Hid (Cel U (w.heap.size + 1) 24 [.int .i64 0, .int .i64 0, .slice none 0 0]) := by unfold Hid; rw [← hU]; exact PR.out.put3 _ _ _
 have PDU : Hid (Duo U (w.heap.size + 1 + 1) (.bool false) (.slice none 0 0)) := by unfold Hid; rw [← hU]; exact ((PD.out.ne (by omega)).ne (by omega)).ne (by omega)
 have GU : Hid (Below w.heap.size w U) := by unfold Hid; rw [← hU]; exact zOA G.out (by omega) _ _ _
 obtain ⟨U2, hU2⟩ : ∃ U2, (U.setCell ⟨w.heap.size + 1 + 1, 0, none⟩ (.bool false)).setCell ⟨w.heap.size + 1 + 1, 1, none⟩ (.slice none 0 0) = U2 := ⟨_, rfl⟩
 have PF : Hid (Cel U2 (w.heap.size + 1) 24 [.int .i64 0, .int .i64 0, .slice none 0 0]) := by unfold Hid; rw [← hU2]; exact (PRU.out.ne (by omega)).ne (by omega)
 have PF2 : Hid (Duo U2 (w.heap.size + 1 + 1) (.bool false) (.slice none 0 0)) := by unfold Hid; rw [← hU2]; exact PDU.out.set _ _
 have FIN : Hid (InvE w E (.returned (.tuple #[zcF, zMH, .int .i64 E])) U2) := by unfold Hid; rw [← hU2]; exact ⟨rfl, bset (bset GU.out (by omega)) (by omega)⟩
 have r0 := PR.out.at (i := 0) rfl; have r1 := PR.out.at (i := 1) rfl; have r2 := PR.out.at (i := 2) rfl; have f0 := PR.out.fz 0; have f1 := PR.out.fz 1; have f2 := PR.out.fz 2; have d0 := PDU.out.c0; have d1 := PDU.out.c1; have d2 := PDU.out.fz 0; have d3 := PDU.out.fz 1; rw [← hV] at r0 r1 r2 f0 f1 f2; rw [← hU, ← hV] at d0 d1 d2 d3; have EV : Hid (((((((w1.alloc (duo (.bool nq) (.slice aq xq.length cq))).setCell ⟨w.heap.size + 1, 0, none⟩ (.int .i64 0)).setCell ⟨w.heap.size + 1, 1, none⟩ (.int .i64 0)).setCell ⟨w.heap.size + 1, 2, none⟩ (.slice none 0 0)).setCell ⟨w.heap.size + 1 + 1, 0, none⟩ (.bool false)).setCell ⟨w.heap.size + 1 + 1, 1, none⟩ (.slice none 0 0)) = U2) := by
  unfold Hid; rw [hV]; rw [← hU2, ← hU]
 clear HC b b1 mq G hV hU hU2 PR PD PRU PDU GU; go_wp2_with fail; rw [EV.out]; exact bodyPost_ret (ztG Tryz.results31 PF.out PF2.out _ (by rfl) (by rfl) (by rfl)) rfl FIN.out
theorem inv_none {w : World} {va : Value} {n kk : Nat} {zs : List Int} {A : Nat → Nat → Int} (ha : Mx w va n n zs kk) (hkk : 64 * kk + 7 ≤ 4000000000) (hA : en n zs = A) (hd : det n A = 0) :
  Calls Tryz.prog 31 #[va] w (InvE w 6) := by
 have M0 := ha; obtain ⟨aa, ca, rfl, hm64, -⟩ := ha.form; obtain ⟨nn, hnn⟩ : ∃ nn, n * n = nn := ⟨_, rfl⟩
 have hnn4 : nn ≤ 4096 := by rw [← hnn]; exact Nat.mul_le_mul hm64 hm64
 rw [hnn] at M0 ⊢; have ENN := hid hnn; obtain ⟨W0, hW⟩ : ∃ W0, ((w.alloc (.cells #[.int .i64 (n : Int), .int .i64 (n : Int), .slice aa nn ca] 24)).alloc mbox).alloc zbox = W0 := ⟨_, rfl⟩
 obtain ⟨b0, sz0⟩ := zyA w (.cells #[.int .i64 (n : Int), .int .i64 (n : Int), .slice aa nn ca] 24) mbox zbox; rw [hW] at b0 sz0; have PA : Hid (Cel W0 w.heap.size 24 [.int .i64 (n : Int), .int .i64 (n : Int), .slice aa nn ca]) := by
  unfold Hid; rw [← hW]; exact ((Cel.new w 24 [.int .i64 (n : Int), .int .i64 (n : Int), .slice aa nn ca]).step ((Below.refl _ _).alloc (Nat.le_refl _) _)).step ((Below.refl _ _).alloc (Nat.le_refl _) _)
 have PR : Hid (Cel W0 (w.heap.size + 1) 24 [.int .i64 0, .int .i64 0, .slice none 0 0]) := by
  unfold Hid; rw [← hW]; have := (Cel.new (w.alloc (.cells #[.int .i64 (n : Int), .int .i64 (n : Int), .slice aa nn ca] 24)) 24 [.int .i64 0, .int .i64 0, .slice none 0 0]).step ((Below.refl _ _).alloc (Nat.le_refl _) zbox)
  simpa using this
 have PD : Hid (Duo W0 (w.heap.size + 1 + 1) (.bool false) (.slice none 0 0)) := by
  unfold Hid; rw [← hW]; have := Duo.new ((w.alloc (.cells #[.int .i64 (n : Int), .int .i64 (n : Int), .slice aa nn ca] 24)).alloc mbox) (.bool false) (.slice none 0 0)
  simpa using this
 have HC := hid (zME (M0.now b0) (by omega)); have MA := hid (M0.now b0); have G := hid b0; have SZ := hid sz0; have x0 := PA.out.at (i := 0) rfl; have x1 := PA.out.at (i := 1) rfl; have x2 := PA.out.at (i := 2) rfl; rw [← hW] at x0 x1 x2; have EW := hid hW; have HZL : Hid (zs.length = n * n) := by obtain ⟨_, _, _, _, _, h, _⟩ := ha; exact h
 have EA := hid hA; rw [hA] at HC; clear ha M0 b0 sz0 hW hnn hA; go_enter Tryz.func31, Tryz.ntmps31; go_wp2_with fail; rw [EW.out]; clear EW x0 x1 x2; refine HC.out.mono ?_; rintro e w1 ⟨rq, rfl, mq, b⟩; obtain ⟨nq, xq, aq, cq, rfl⟩ := mq.parts; obtain ⟨lq, hlq⟩ : ∃ lq, xq.length = lq := ⟨_, rfl⟩
 rw [hlq] at mq ⊢; obtain ⟨V1, hV⟩ : ∃ V1, w1.alloc (duo (.bool nq) (.slice aq lq cq)) = V1 := ⟨_, rfl⟩
 obtain ⟨b1, sz1⟩ := alo1 w1 (duo (.bool nq) (.slice aq lq cq)); rw [hV] at b1 sz1; have PQ : Hid (Duo V1 w1.heap.size (.bool nq) (.slice aq lq cq)) := by unfold Hid; rw [← hV]; exact Duo.new w1 _ _
 have ZQ := hid ((mq.mono (Nat.zero_le _)).now b1); have L1 : Hid (w.heap.size + 1 + 1 < w1.heap.size ∧ w1.heap.size < V1.heap.size) := by unfold Hid; have := SZ.out; have := b.size; omega
 replace PA := hid ((PA.out.step b).step b1); replace MA := hid ((MA.out.now b).now b1); replace PR := hid ((PR.out.step b).step b1); replace PD := hid ((PD.out.step b).step b1); replace G := hid (zAA (zAA G.out b) b1); have HS := hid (zDC ZQ.out.zi); have y0 := PQ.out.c0; have y1 := PQ.out.c1; rw [← hV] at y0 y1; have EV := hid hV; clear HC mq b b1 sz1 hV hlq SZ; rw [hd, show cmpI 0 0 = 0 from rfl] at HS; go_wp2_with fail; rw [EV.out]; clear EV y0 y1; refine HS.out.mono ?_; rintro e w2 ⟨rfl, b⟩; replace PR := hid (PR.out.step b); replace PD := hid (PD.out.step b); replace G := hid (zAA G.out b); clear HS b PA PQ ZQ MA; obtain ⟨U, hU⟩ : ∃ U, put3 w2 (w.heap.size + 1) (.int .i64 0) (.int .i64 0) (.slice none 0 0) = U := ⟨_, rfl⟩
 have PRU : Hid (Cel U (w.heap.size + 1) 24 [.int .i64 0, .int .i64 0, .slice none 0 0]) := by unfold Hid; rw [← hU]; exact PR.out.put3 _ _ _
 have PDU : Hid (Duo U (w.heap.size + 1 + 1) (.bool false) (.slice none 0 0)) := by unfold Hid; rw [← hU]; exact ((PD.out.ne (by omega)).ne (by omega)).ne (by omega)
 have GU : Hid (Below w.heap.size w U) := by unfold Hid; rw [← hU]; exact zOA G.out (by omega) _ _ _
 obtain ⟨U2, hU2⟩ : ∃ U2, (U.setCell ⟨w.heap.size + 1 + 1, 0, none⟩ (.bool false)).setCell ⟨w.heap.size + 1 + 1, 1, none⟩ (.slice none 0 0) = U2 := ⟨_, rfl⟩
 have PF : Hid (Cel U2 (w.heap.size + 1) 24 [.int .i64 0, .int .i64 0, .slice none 0 0]) := by unfold Hid; rw [← hU2]; exact (PRU.out.ne (by omega)).ne (by omega)
 have PF2 : Hid (Duo U2 (w.heap.size + 1 + 1) (.bool false) (.slice none 0 0)) := by unfold Hid; rw [← hU2]; exact PDU.out.set _ _
 have FIN : Hid (InvE w 6 (.returned (.tuple #[zcF, zMH, .int .i64 6])) U2) := by unfold Hid; rw [← hU2]; exact ⟨rfl, bset (bset GU.out (by omega)) (by omega)⟩
 have r0 := PR.out.at (i := 0) rfl; have r1 := PR.out.at (i := 1) rfl; have r2 := PR.out.at (i := 2) rfl; have f0 := PR.out.fz 0; have f1 := PR.out.fz 1; have f2 := PR.out.fz 2; have d0 := PDU.out.c0; have d1 := PDU.out.c1; have d2 := PDU.out.fz 0; have d3 := PDU.out.fz 1; rw [← hU] at d0 d1 d2 d3; have EV : Hid ((((((w2.setCell ⟨w.heap.size + 1, 0, none⟩ (.int .i64 0)).setCell ⟨w.heap.size + 1, 1, none⟩ (.int .i64 0)).setCell ⟨w.heap.size + 1, 2, none⟩ (.slice none 0 0)).setCell ⟨w.heap.size + 1 + 1, 0, none⟩ (.bool false)).setCell ⟨w.heap.size + 1 + 1, 1, none⟩ (.slice none 0 0)) = U2) := by
  unfold Hid; rw [← hU2, ← hU]
 clear G hU hU2 PR PD PRU PDU GU; go_wp2_with fail; rw [EV.out]; exact bodyPost_ret (ztG Tryz.results31 PF.out PF2.out _ (by rfl) (by rfl) (by rfl)) rfl FIN.out
def ivF (n : Nat) (A : Nat → Nat → Int) (i r c : Nat) : Int := if r * n + c < i then ivN n A r c else adz n A r c
theorem ivF_put {n i r c : Nat} {A : Nat → Nat → Int} (hc : c < n) : up2 (ivF n A i) (i / n) (i % n) (ivN n A (i / n) (i % n)) r c = ivF n A (i + 1) r c := by
 have hn : 0 < n := by omega
 have e0 : i / n * n + i % n = i := Nat.div_add_mod' i n; unfold up2
 by_cases h : r = i / n ∧ c = i % n
 ·obtain ⟨h1, h2⟩ := h
  rw [if_pos ⟨h1, h2⟩]; unfold ivF; rw [if_pos (by rw [h1, h2, e0]; omega), h1, h2]
 ·rw [if_neg h]
  unfold ivF; have hne : r * n + c ≠ i := fun e => h (by rw [← e]; exact ⟨(zRH hc).1.symm, (zRH hc).2.symm⟩)
  by_cases q : r * n + c < i
  ·rw [if_pos q, if_pos (by omega)]
  ·rw [if_neg q, if_neg (by omega)]
def IvH (W3 : World) (gz n nn : Nat) (A : Nat → Nat → Int) (KW gk : Nat) (s : Value) (wx : World) : Prop :=
 ∃ i : Nat, s = .int .i64 (i : Int) ∧ i ≤ nn ∧ gk = nn - i ∧ AZ wx gz (zF n n (ivF n A i)) KW ∧ zPA (· = gz) W3 wx
def InvY (w : World) (n : Nat) (A : Nat → Nat → Int) (KW : Nat) (e : Ending) (w' : World) : Prop :=
 ∃ vn vd, e = .returned (.tuple #[vn, vd, .int .i64 0]) ∧ Mc w' vn n n (zF n n (ivN n A)) KW ∧ Zm 0 w' vd (ivD n A) KW ∧ Below w.heap.size w w'
def ShB (W wx : World) (s : Value) (z : Int) (K : Nat) : Prop := ∃ bk ns as_ ls cs, s = .pointer (some ⟨bk, 0, none⟩) ∧ W.heap.size ≤ bk ∧ Duo wx bk (.bool ns) (.slice as_ ls cs) ∧ Zm 0 wx (.agg #[.bool ns, .slice as_ ls cs]) z K ∧ Below W.heap.size W wx
theorem inv_yes {w : World} {va : Value} {n kk : Nat} {zs : List Int} {A : Nat → Nat → Int} (ha : Mx w va n n zs kk) (hkk : 64 * kk + 7 ≤ 4000000000) (hA : en n zs = A) (hd : det n A ≠ 0) :
  Calls Tryz.prog 31 #[va] w (InvY w n A (64 * kk + 7)) := by
 have M0 := ha; obtain ⟨aa, ca, rfl, hm64, -⟩ := ha.form; obtain ⟨nn, hnn⟩ : ∃ nn, n * n = nn := ⟨_, rfl⟩
 have hnn4 : nn ≤ 4096 := by rw [← hnn]; exact Nat.mul_le_mul hm64 hm64
 rw [hnn] at M0 ⊢; have ENN := hid hnn; obtain ⟨W0, hW⟩ : ∃ W0, ((w.alloc (.cells #[.int .i64 (n : Int), .int .i64 (n : Int), .slice aa nn ca] 24)).alloc mbox).alloc zbox = W0 := ⟨_, rfl⟩
 obtain ⟨b0, sz0⟩ := zyA w (.cells #[.int .i64 (n : Int), .int .i64 (n : Int), .slice aa nn ca] 24) mbox zbox; rw [hW] at b0 sz0; have PA : Hid (Cel W0 w.heap.size 24 [.int .i64 (n : Int), .int .i64 (n : Int), .slice aa nn ca]) := by
  unfold Hid; rw [← hW]; exact ((Cel.new w 24 [.int .i64 (n : Int), .int .i64 (n : Int), .slice aa nn ca]).step ((Below.refl _ _).alloc (Nat.le_refl _) _)).step ((Below.refl _ _).alloc (Nat.le_refl _) _)
 have PR : Hid (Cel W0 (w.heap.size + 1) 24 [.int .i64 0, .int .i64 0, .slice none 0 0]) := by
  unfold Hid; rw [← hW]; have := (Cel.new (w.alloc (.cells #[.int .i64 (n : Int), .int .i64 (n : Int), .slice aa nn ca] 24)) 24 [.int .i64 0, .int .i64 0, .slice none 0 0]).step ((Below.refl _ _).alloc (Nat.le_refl _) zbox)
  simpa using this
 have PD : Hid (Duo W0 (w.heap.size + 1 + 1) (.bool false) (.slice none 0 0)) := by
  unfold Hid; rw [← hW]; have := Duo.new ((w.alloc (.cells #[.int .i64 (n : Int), .int .i64 (n : Int), .slice aa nn ca] 24)).alloc mbox) (.bool false) (.slice none 0 0)
  simpa using this
 have HC := hid (zME (M0.now b0) (by omega)); have MA := hid (M0.now b0); have G := hid b0; have SZ := hid sz0; have x0 := PA.out.at (i := 0) rfl; have x1 := PA.out.at (i := 1) rfl; have x2 := PA.out.at (i := 2) rfl; rw [← hW] at x0 x1 x2; have EW := hid hW; have HZL : Hid (zs.length = n * n) := by obtain ⟨_, _, _, _, _, h, _⟩ := ha; exact h
 have EA := hid hA; rw [hA] at HC; clear ha M0 b0 sz0 hW hnn hA; go_enter Tryz.func31, Tryz.ntmps31; go_wp2_with fail; rw [EW.out]; clear EW x0 x1 x2; refine HC.out.mono ?_; rintro e w1 ⟨rq, rfl, mq, b⟩; obtain ⟨nq, xq, aq, cq, rfl⟩ := mq.parts; obtain ⟨lq, hlq⟩ : ∃ lq, xq.length = lq := ⟨_, rfl⟩
 rw [hlq] at mq ⊢; obtain ⟨V1, hV⟩ : ∃ V1, w1.alloc (duo (.bool nq) (.slice aq lq cq)) = V1 := ⟨_, rfl⟩
 obtain ⟨b1, sz1⟩ := alo1 w1 (duo (.bool nq) (.slice aq lq cq)); rw [hV] at b1 sz1; have PQ : Hid (Duo V1 w1.heap.size (.bool nq) (.slice aq lq cq)) := by unfold Hid; rw [← hV]; exact Duo.new w1 _ _
 have ZQ := hid ((mq.mono (Nat.zero_le _)).now b1); have L1 : Hid (w.heap.size + 1 + 1 < w1.heap.size ∧ w1.heap.size < V1.heap.size) := by unfold Hid; have := SZ.out; have := b.size; omega
 replace PA := hid ((PA.out.step b).step b1); replace MA := hid ((MA.out.now b).now b1); replace PR := hid ((PR.out.step b).step b1); replace PD := hid ((PD.out.step b).step b1); replace G := hid (zAA (zAA G.out b) b1); have HS := hid (zDC ZQ.out.zi); have y0 := PQ.out.c0; have y1 := PQ.out.c1; rw [← hV] at y0 y1; have EV := hid hV; clear HC mq b b1 sz1 hV hlq SZ; obtain ⟨cq0, hcq⟩ : ∃ cq0, cmpI (det n A) 0 = cq0 := ⟨_, rfl⟩
 have hc0 : ¬ cq0 = 0 := by
  rw [← hcq]; unfold cmpI; rcases Int.lt_trichotomy (det n A) 0 with h | h | h
  ·rw [if_pos h]; decide
  ·exact absurd h hd
  ·rw [if_neg (by omega), if_pos h]; decide
 have hc0b : (cq0 == 0) = false := by simpa using hc0
 have HCQ := hid hcq; rw [hcq] at HS; obtain ⟨KW, hKW⟩ : ∃ KW, 64 * kk + 7 = KW := ⟨_, rfl⟩
 have EKW := hid hKW; have HKK0 := hid hkk; rw [hKW] at ZQ hkk ⊢; clear hcq hKW; go_wp2_with fail; rw [EV.out]; clear EV y0 y1; refine HS.out.mono ?_; rintro e w2 ⟨rfl, b⟩; have HADJ := hid (zXD (MA.out.now b) HKK0.out); rw [EA.out, EKW.out] at HADJ; replace PA := hid (PA.out.step b); replace PR := hid (PR.out.step b); replace PD := hid (PD.out.step b); replace PQ := hid (PQ.out.step b); replace ZQ := hid (ZQ.out.now b); replace G := hid (zAA G.out b); have L2 : Hid (V1.heap.size ≤ w2.heap.size) := b.size; have x0 := PA.out.at (i := 0) rfl; have x1 := PA.out.at (i := 1) rfl; have x2 := PA.out.at (i := 2) rfl; clear HS b MA; go_wp2_with fail; clear x0 x1 x2 PA hc0 hc0b; refine HADJ.out.mono ?_; rintro e w3 ⟨gz, rfl, hgz, haz, b⟩; rw [ENN.out]; replace PR := hid (PR.out.step b); replace PD := hid (PD.out.step b); replace PQ := hid (PQ.out.step b); replace ZQ := hid (ZQ.out.now b); replace G := hid (zAA G.out b); obtain ⟨br, hbr⟩ : ∃ br, w.heap.size + 1 = br := ⟨_, rfl⟩
 obtain ⟨bd, hbd⟩ : ∃ bd, br + 1 = bd := ⟨_, rfl⟩
 obtain ⟨b5, hb5⟩ : ∃ b5, w1.heap.size = b5 := ⟨_, rfl⟩
 rw [hbr] at PR; rw [hbr, hbd] at PD; rw [hb5] at PQ; rw [hbr, hbd, hb5]; have HO : Hid (w.heap.size < br ∧ br < bd ∧ bd < b5 ∧ b5 < gz ∧ gz < w3.heap.size) := by unfold Hid; have h1 := L1.out; have h2 := L2.out; have h3 := haz.blk; omega
 obtain ⟨W3, hW3⟩ : ∃ W3, put3 w3 br (.int .i64 (n : Int)) (.int .i64 (n : Int)) (.slice (some ⟨gz, 0, none⟩) nn nn) = W3 := ⟨_, rfl⟩
 have TY3 : Ty 24 w3 W3 := by rw [← hW3]; exact PR.out.ty3 _ _ _
 have AZ3 : Hid (AZ W3 gz (zF n n (adz n A)) KW) := haz.ty TY3 (by decide) (by decide); have ZQ3 := hid (ZQ.out.ty TY3 (by decide)); have PR3 : Hid (Cel W3 br 24 [.int .i64 (n : Int), .int .i64 (n : Int), .slice (some ⟨gz, 0, none⟩) nn nn]) := by unfold Hid; rw [← hW3]; exact PR.out.put3 _ _ _
 have PD3 : Hid (Duo W3 bd (.bool false) (.slice none 0 0)) := by unfold Hid; rw [← hW3]; exact ((PD.out.ne (by have := HO.out; omega)).ne (by have := HO.out; omega)).ne (by have := HO.out; omega)
 have PQ3 : Hid (Duo W3 b5 (.bool nq) (.slice aq lq cq)) := by unfold Hid; rw [← hW3]; exact ((PQ.out.ne (by have := HO.out; omega)).ne (by have := HO.out; omega)).ne (by have := HO.out; omega)
 have G3 : Hid (Below w.heap.size w W3) := by unfold Hid; rw [← hW3]; exact zOA G.out (by have := HO.out; omega) _ _ _
 have S3 : Hid (W3.heap.size = w3.heap.size) := by unfold Hid; rw [← hW3]; simp [put3]
 have r0 := PR.out.at (i := 0) rfl; have r1 := PR.out.at (i := 1) rfl; have r2 := PR.out.at (i := 2) rfl; have f0 := PR.out.fz 0; have f1 := PR.out.fz 1; have f2 := PR.out.fz 2; have EV : Hid (((w3.setCell ⟨br, 0, none⟩ (.int .i64 (n : Int))).setCell ⟨br, 1, none⟩ (.int .i64 (n : Int))).setCell ⟨br, 2, none⟩ (.slice (some ⟨gz, 0, none⟩) nn nn) = W3) := hW3; have HGL : Hid (∀ wx, Below W3.heap.size W3 wx → Calls Tryz.prog 27 #[.slice (some ⟨gz, 0, none⟩) nn nn] wx fun e w' => ∃ r, e = .returned r ∧ Zm 0 w' r (gcdL (zF n n (adz n A))) KW ∧ Below wx.heap.size wx w') := fun wx hb => by
  have hm := (AZ3.out.step hb).mc14 hm64 hm64; rw [ENN.out] at hm; exact zJI (zKG hm.mx) (by omega)
 have q0 := PQ3.out.c0; have q1 := PQ3.out.c1; have n2 := PR3.out.at (i := 2) rfl; clear HADJ b haz hW3 PR PD PQ ZQ G L1 L2 TY3 hbr hbd hb5 hgz; go_wp2_with fail; rw [EV.out]; clear EV r0 r1 r2 f0 f1 f2
 go_cut [6] from 26 to 30 (fun s6 wx => ShB W3 wx s6 (shG n A) KW)
 case first =>
  have KB : Hid (∀ w', Below W3.heap.size W3 w' → w'.cell? ⟨b5, 0, none⟩ = some (.bool nq) ∧ w'.cell? ⟨b5, 1, none⟩ = some (.slice aq lq cq) ∧ w'.cell? ⟨br, 2, none⟩ = some (.slice (some ⟨gz, 0, none⟩) nn nn)) := fun w' h => ⟨cnow h q0, cnow h q1, cnow h n2⟩
  refine zEA (fun w' => w'.cell? ⟨b5, 0, none⟩ = some (.bool nq) ∧ w'.cell? ⟨b5, 1, none⟩ = some (.slice aq lq cq) ∧ w'.cell? ⟨br, 2, none⟩ = some (.slice (some ⟨gz, 0, none⟩) nn nn)) 6 (by kernel_rfl) ?_; obtain ⟨D21, hD⟩ : ∃ D21, W3.drew = D21 := ⟨_, rfl⟩
  have GB : Hid (Below W3.heap.size W3 D21) := by unfold Hid; rw [← hD]; exact (Below.refl _ _).drew
  rw [hD]; clear hD; have GZ : Hid (W3.heap.size ≤ D21.heap.size) := GB.out.size; refine zCA [(0, (.agg #[.bool nq, .slice aq lq cq])), (1, (.pointer (some ⟨br, 2, none⟩))), (2, (.slice (some ⟨gz, 0, none⟩) nn nn))] 3 ?_ (KB.out _ GB.out) ?_
  ·simp only [zMA, gA9, g09, g19, Act.put, sI9, s09, s19]; (repeat' (first | exact trivial | refine And.intro (Or.inl ⟨by rfl, ?_⟩) ?_)) <;> (intro w hSw; (try dsimp only at hSw); go_simp)
  simp only [actV, gA9, g09, g19, Act.put, sI9, s09, s19]; refine zdA (i := 3) (j := 5) (oi := ⟨some 29, .call { callee := .value (.func 27), args := #[.tmp 28], argTypes := #[22] }, 29, "minors.go:72", #[⟨2, .data⟩], none⟩) (oj := ⟨some 6, .alloc 29, 0, "minors.go:72", #[], none⟩) (by kernel_rfl) rfl rfl (fun K hK => ?_) (fun K hK => ?_)
  ·skip
   replace GZ : Hid (W3.heap.size ≤ D21.heap.size) := GB.out.size; go_simp; go_at_call 27; refine (HGL.out _ GB.out).mono ?_; rintro e w22 ⟨rL, rfl, mL, b⟩; have lz22 := (show Below _ _ _ from b).size; replace GB := hid (zAA GB.out b); have ML := hid mL; clear mL; clear b; refine hK.out _ _ (fun _ => KB.out _ GB.out) ?_; clear hK; refine zdA (i := 4) (j := 5) (oi := ⟨some 30, .call { callee := .value (.func 32), args := #[.tmp 26, .tmp 29], argTypes := #[29, 29] }, 29, "minors.go:72", #[⟨0, .data⟩, ⟨3, .data⟩, ⟨3, .chain⟩], none⟩) (oj := ⟨some 6, .alloc 29, 0, "minors.go:72", #[], none⟩) (by kernel_rfl) rfl rfl (fun K hK => ?_) (fun K hK => ?_)
   ·skip
    replace GZ : Hid (W3.heap.size ≤ w22.heap.size) := GB.out.size; go_simp; go_at_call 32; refine (zOG (ZQ3.out.now GB.out).zi ML.out.zi (by omega)).mono ?_; rintro e w23 ⟨rS, rfl, mS, b⟩; have lz23 := (show Below _ _ _ from b).size; replace GB := hid (zAA GB.out b); obtain ⟨ns, xs_, as_, cs, rfl⟩ := mS.parts; obtain ⟨ls, hls⟩ : ∃ ls, xs_.length = ls := ⟨_, rfl⟩
    rw [hls] at mS ⊢; have MS := hid (mS.mono (Nat.zero_le _)); clear mS hls; clear b; refine hK.out _ _ (fun _ => KB.out _ GB.out) ?_; clear hK; refine zBA (i := 5) (o := ⟨some 6, .alloc 29, 0, "minors.go:72", #[], none⟩) (by kernel_rfl) rfl (fun K hK => ?_); replace GZ : Hid (W3.heap.size ≤ w23.heap.size) := GB.out.size; go_simp; obtain ⟨V24, hW⟩ : ∃ V24, w23.alloc zbox = V24 := ⟨_, rfl⟩
    obtain ⟨b, sz24⟩ := alo1 w23 zbox; rw [hW] at b sz24; replace GB := hid (zAA GB.out b); have DX : Hid (Duo V24 w23.heap.size (.bool false) (.slice none 0 0)) := by unfold Hid; rw [← hW]; exact Duo.new w23 _ _
    have SX := hid (show W3.heap.size ≤ w23.heap.size from GZ.out); clear sz24; replace MS := hid (MS.out.now b); rw [hW]; clear hW b; refine hK.out _ _ (fun _ => KB.out _ GB.out) ?_; clear hK
    try simp only [Act.put]
    refine zBA (i := 6) (o := ⟨none, .store 29 (.tmp 6) (.tmp 30), 0, "minors.go:72", #[⟨5, .data⟩, ⟨4, .data⟩, ⟨4, .chain⟩, ⟨0, .phase⟩, ⟨1, .phase⟩, ⟨2, .phase⟩, ⟨3, .phase⟩, ⟨4, .phase⟩, ⟨5, .phase⟩], none⟩) (by kernel_rfl) rfl (fun K hK => ?_); have e0 := DX.out.c0; have e1 := DX.out.c1; have e2 := DX.out.fz 0; have e3 := DX.out.fz 1; go_simp; clear e0 e1 e2 e3; obtain ⟨V25, hW⟩ : ∃ V25, ((V24.setCell ⟨w23.heap.size, 0, none⟩ (.bool ns)).setCell ⟨w23.heap.size, 1, none⟩ (.slice as_ ls cs)) = V25 := ⟨_, rfl⟩
    have DS : Hid (Duo V25 w23.heap.size (.bool ns) (.slice as_ ls cs)) := by unfold Hid; rw [← hW]; exact DX.out.set _ _
    have ZS : Hid (Zm 0 V25 (.agg #[.bool ns, .slice as_ ls cs]) (shG n A) KW) := by unfold Hid; rw [← hW]; exact MS.out.ty (DX.out.ty13 _ _) (by decide)
    have BS : Hid (Below W3.heap.size W3 V25) := by unfold Hid; rw [← hW]; exact bset (bset GB.out SX.out) SX.out
    rw [hW]; clear hW; refine hK.out _ _ (fun h => absurd h (by decide)) ?_; clear hK
    try simp only [Act.put]
    refine zDA (by kernel_rfl) ?_ _; have FN1 : Hid (ShB W3 V25 (.pointer (some ⟨w23.heap.size, 0, none⟩)) (shG n A) KW) := ⟨_, ns, as_, ls, cs, rfl, SX.out, DS.out, ZS.out, BS.out⟩
    clear GB KB GZ MS DX ML DS ZS BS SX; go_wp2_with fail; go_meet; exact FN1.out
   ·skip
    replace GZ : Hid (W3.heap.size ≤ w22.heap.size) := GB.out.size; go_simp; obtain ⟨V26, hW⟩ : ∃ V26, w22.alloc zbox = V26 := ⟨_, rfl⟩
    obtain ⟨b, sz26⟩ := alo1 w22 zbox; rw [hW] at b sz26; replace GB := hid (zAA GB.out b); have DX : Hid (Duo V26 w22.heap.size (.bool false) (.slice none 0 0)) := by unfold Hid; rw [← hW]; exact Duo.new w22 _ _
    have SX := hid (show W3.heap.size ≤ w22.heap.size from GZ.out); clear sz26; replace ML := hid (ML.out.now b); rw [hW]; clear hW b; refine hK.out _ _ (fun _ => KB.out _ GB.out) ?_; clear hK
    try simp only [Act.put]
    refine zBA (i := 4) (o := ⟨some 30, .call { callee := .value (.func 32), args := #[.tmp 26, .tmp 29], argTypes := #[29, 29] }, 29, "minors.go:72", #[⟨0, .data⟩, ⟨3, .data⟩, ⟨3, .chain⟩], none⟩) (by kernel_rfl) rfl (fun K hK => ?_); replace GZ : Hid (W3.heap.size ≤ V26.heap.size) := GB.out.size; go_simp; go_at_call 32; refine (zOG (ZQ3.out.now GB.out).zi ML.out.zi (by omega)).mono ?_; rintro e w27 ⟨rS, rfl, mS, b⟩; have lz27 := (show Below _ _ _ from b).size; replace GB := hid (zAA GB.out b); obtain ⟨ns, xs_, as_, cs, rfl⟩ := mS.parts; obtain ⟨ls, hls⟩ : ∃ ls, xs_.length = ls := ⟨_, rfl⟩
    rw [hls] at mS ⊢; have MS := hid (mS.mono (Nat.zero_le _)); clear mS hls; replace DX := hid (DX.out.step b); clear b; refine hK.out _ _ (fun _ => KB.out _ GB.out) ?_; clear hK; refine zBA (i := 6) (o := ⟨none, .store 29 (.tmp 6) (.tmp 30), 0, "minors.go:72", #[⟨5, .data⟩, ⟨4, .data⟩, ⟨4, .chain⟩, ⟨0, .phase⟩, ⟨1, .phase⟩, ⟨2, .phase⟩, ⟨3, .phase⟩, ⟨4, .phase⟩, ⟨5, .phase⟩], none⟩) (by kernel_rfl) rfl (fun K hK => ?_); have e0 := DX.out.c0; have e1 := DX.out.c1; have e2 := DX.out.fz 0; have e3 := DX.out.fz 1; go_simp; clear e0 e1 e2 e3; obtain ⟨V28, hW⟩ : ∃ V28, ((w27.setCell ⟨w22.heap.size, 0, none⟩ (.bool ns)).setCell ⟨w22.heap.size, 1, none⟩ (.slice as_ ls cs)) = V28 := ⟨_, rfl⟩
    have DS : Hid (Duo V28 w22.heap.size (.bool ns) (.slice as_ ls cs)) := by unfold Hid; rw [← hW]; exact DX.out.set _ _
    have ZS : Hid (Zm 0 V28 (.agg #[.bool ns, .slice as_ ls cs]) (shG n A) KW) := by unfold Hid; rw [← hW]; exact MS.out.ty (DX.out.ty13 _ _) (by decide)
    have BS : Hid (Below W3.heap.size W3 V28) := by unfold Hid; rw [← hW]; exact bset (bset GB.out SX.out) SX.out
    rw [hW]; clear hW; refine hK.out _ _ (fun h => absurd h (by decide)) ?_; clear hK
    try simp only [Act.put]
    refine zDA (by kernel_rfl) ?_ _; have FN1 : Hid (ShB W3 V28 (.pointer (some ⟨w22.heap.size, 0, none⟩)) (shG n A) KW) := ⟨_, ns, as_, ls, cs, rfl, SX.out, DS.out, ZS.out, BS.out⟩
    clear GB KB GZ MS DX ML DS ZS BS SX; go_wp2_with fail; go_meet; exact FN1.out
  ·skip
   replace GZ : Hid (W3.heap.size ≤ D21.heap.size) := GB.out.size; go_simp; obtain ⟨V29, hW⟩ : ∃ V29, D21.alloc zbox = V29 := ⟨_, rfl⟩
   obtain ⟨b, sz29⟩ := alo1 D21 zbox; rw [hW] at b sz29; replace GB := hid (zAA GB.out b); have DX : Hid (Duo V29 D21.heap.size (.bool false) (.slice none 0 0)) := by unfold Hid; rw [← hW]; exact Duo.new D21 _ _
   have SX := hid (show W3.heap.size ≤ D21.heap.size from GZ.out); clear sz29; rw [hW]; clear hW b; refine hK.out _ _ (fun _ => KB.out _ GB.out) ?_; clear hK
   try simp only [Act.put]
   refine zBA (i := 3) (o := ⟨some 29, .call { callee := .value (.func 27), args := #[.tmp 28], argTypes := #[22] }, 29, "minors.go:72", #[⟨2, .data⟩], none⟩) (by kernel_rfl) rfl (fun K hK => ?_); replace GZ : Hid (W3.heap.size ≤ V29.heap.size) := GB.out.size; go_simp; go_at_call 27; refine (HGL.out _ GB.out).mono ?_; rintro e w30 ⟨rL, rfl, mL, b⟩; have lz30 := (show Below _ _ _ from b).size; replace GB := hid (zAA GB.out b); have ML := hid mL; clear mL; replace DX := hid (DX.out.step b); clear b; refine hK.out _ _ (fun _ => KB.out _ GB.out) ?_; clear hK; refine zBA (i := 4) (o := ⟨some 30, .call { callee := .value (.func 32), args := #[.tmp 26, .tmp 29], argTypes := #[29, 29] }, 29, "minors.go:72", #[⟨0, .data⟩, ⟨3, .data⟩, ⟨3, .chain⟩], none⟩) (by kernel_rfl) rfl (fun K hK => ?_); replace GZ : Hid (W3.heap.size ≤ w30.heap.size) := GB.out.size; go_simp; go_at_call 32; refine (zOG (ZQ3.out.now GB.out).zi ML.out.zi (by omega)).mono ?_; rintro e w31 ⟨rS, rfl, mS, b⟩; have lz31 := (show Below _ _ _ from b).size; replace GB := hid (zAA GB.out b); obtain ⟨ns, xs_, as_, cs, rfl⟩ := mS.parts; obtain ⟨ls, hls⟩ : ∃ ls, xs_.length = ls := ⟨_, rfl⟩
   rw [hls] at mS ⊢; have MS := hid (mS.mono (Nat.zero_le _)); clear mS hls; replace DX := hid (DX.out.step b); clear b; refine hK.out _ _ (fun _ => KB.out _ GB.out) ?_; clear hK; refine zBA (i := 6) (o := ⟨none, .store 29 (.tmp 6) (.tmp 30), 0, "minors.go:72", #[⟨5, .data⟩, ⟨4, .data⟩, ⟨4, .chain⟩, ⟨0, .phase⟩, ⟨1, .phase⟩, ⟨2, .phase⟩, ⟨3, .phase⟩, ⟨4, .phase⟩, ⟨5, .phase⟩], none⟩) (by kernel_rfl) rfl (fun K hK => ?_); have e0 := DX.out.c0; have e1 := DX.out.c1; have e2 := DX.out.fz 0; have e3 := DX.out.fz 1; go_simp; clear e0 e1 e2 e3; obtain ⟨V32, hW⟩ : ∃ V32, ((w31.setCell ⟨D21.heap.size, 0, none⟩ (.bool ns)).setCell ⟨D21.heap.size, 1, none⟩ (.slice as_ ls cs)) = V32 := ⟨_, rfl⟩
   have DS : Hid (Duo V32 D21.heap.size (.bool ns) (.slice as_ ls cs)) := by unfold Hid; rw [← hW]; exact DX.out.set _ _
   have ZS : Hid (Zm 0 V32 (.agg #[.bool ns, .slice as_ ls cs]) (shG n A) KW) := by unfold Hid; rw [← hW]; exact MS.out.ty (DX.out.ty13 _ _) (by decide)
   have BS : Hid (Below W3.heap.size W3 V32) := by unfold Hid; rw [← hW]; exact bset (bset GB.out SX.out) SX.out
   rw [hW]; clear hW; refine hK.out _ _ (fun h => absurd h (by decide)) ?_; clear hK
   try simp only [Act.put]
   refine zDA (by kernel_rfl) ?_ _; have FN1 : Hid (ShB W3 V32 (.pointer (some ⟨D21.heap.size, 0, none⟩)) (shG n A) KW) := ⟨_, ns, as_, ls, cs, rfl, SX.out, DS.out, ZS.out, BS.out⟩
   clear GB KB GZ MS DX ML DS ZS BS SX; go_wp2_with fail; go_meet; exact FN1.out
 case rest =>
 rename World => W5
 obtain ⟨b6, ns, as_, ls, cs, rfl, hb6, ds_, zs_, b⟩ := hcut; have DS := hid ds_; have ZS := hid zs_; have BS := hid b; have SX := hid hb6; have HS2 := hid (zDC (ZQ3.out.now b).zi); rw [HCQ.out] at HS2; have q2 := (PQ3.out.step b).c0; have q3 := (PQ3.out.step b).c1; clear ds_ zs_ b hb6; go_wp2_with fail; clear q2 q3; refine HS2.out.mono ?_; rintro e w30 ⟨rfl, b⟩; replace DS := hid (DS.out.step b); replace ZS := hid (ZS.out.now b); replace BS := hid (zAA BS.out b); clear HS2 b; go_upto_if 33 with fail
 go_cut [6] from 33 to 35 (fun s6 wx => ShB W3 wx s6 (shI n A) KW)
 case first =>
  by_cases hneg : det n A < 0
  ·have hcn : cq0 < 0 := by
    rw [← HCQ.out]; unfold cmpI; rw [if_pos hneg]
    decide
   have hcb : decide (cq0 < 0) = true := decide_eq_true hcn; have HSI : Hid (shI n A = - shG n A) := if_pos hneg; have HNG := hid (zxH ZS.out.zi); have d0 := DS.out.c0; have d1 := DS.out.c1; go_wp2_with fail; clear d0 d1 hcn hcb; refine HNG.out.mono ?_; rintro e w31 ⟨rn, rfl, mn, b⟩; obtain ⟨nt, xt, at_, ct, rfl⟩ := mn.parts; obtain ⟨lt, hlt_⟩ : ∃ lt, xt.length = lt := ⟨_, rfl⟩
   rw [hlt_] at mn ⊢; have DS2 := hid (DS.out.step b); have FN1 : Hid (ShB W3 ((w31.setCell ⟨b6, 0, none⟩ (.bool nt)).setCell ⟨b6, 1, none⟩ (.slice at_ lt ct)) (.pointer (some ⟨b6, 0, none⟩)) (shI n A) KW) := by
    unfold Hid; rw [HSI.out]; exact ⟨_, nt, at_, lt, ct, rfl, SX.out, DS2.out.set _ _, (mn.mono (Nat.zero_le _)).ty (DS2.out.ty13 _ _) (by decide), bset (bset (zAA BS.out b) SX.out) SX.out⟩
   have d0 := DS2.out.c0; have d1 := DS2.out.c1; have d2 := DS2.out.fz 0; have d3 := DS2.out.fz 1; clear HNG mn b DS ZS BS DS2 hlt_; go_wp2_with fail; go_meet; exact FN1.out
  ·have hcn : ¬ cq0 < 0 := by
    rw [← HCQ.out]; unfold cmpI; rw [if_neg hneg]
    split <;> decide
   have hcb : decide (cq0 < 0) = false := decide_eq_false hcn; have HSI : Hid (shI n A = shG n A) := if_neg hneg; have FN1 : Hid (ShB W3 w30 (.pointer (some ⟨b6, 0, none⟩)) (shI n A) KW) := by
    unfold Hid; rw [HSI.out]; exact ⟨_, ns, as_, ls, cs, rfl, SX.out, DS.out, ZS.out, BS.out⟩
   clear DS ZS BS; go_wp2_with fail; go_meet; exact FN1.out
 case rest =>
 clear DS ZS BS SX
 rename World => W4
 clear b6 ns as_ ls cs; obtain ⟨b6, ns, as_, ls, cs, rfl, hb6, ds_, zs_, b⟩ := hcut; have DS := hid ds_; have ZS := hid zs_; have PR4 := hid (PR3.out.step b); have PD4 := hid (PD3.out.step b); have PQ4 := hid (PQ3.out.step b); have ZQ4 := hid (ZQ3.out.now b); have AZ4 := hid (AZ3.out.step b); have G4 := hid (zAA G3.out b); have HNE : Hid (br ≠ gz ∧ bd ≠ gz ∧ b5 ≠ gz ∧ b6 ≠ gz ∧ br ≠ bd ∧ w.heap.size ≤ gz ∧ w.heap.size ≤ br ∧ w.heap.size ≤ bd) := by unfold Hid; have := HO.out; have := S3.out; omega
 have HSN := hid (zgH hd); have H0 : Hid (IvH W4 gz n nn A KW nn (.int .i64 0) W4) := ⟨0, rfl, Nat.zero_le _, by omega, by
  rw [zuA (F := ivF n A 0) (G := adz n A) fun r c _ _ => if_neg (by omega)]; exact AZ4.out, zPA.refl _ _⟩
 have n2 := PR4.out.at (i := 2) rfl; have hlen : nn ≤ 4096 := hnn4; clear ds_ zs_ b PR3 PD3 PQ3 ZQ3 AZ3 G3 S3 HGL HCQ q0 q1 hb6; go_wp2_with fail; clear n2
 go_loopg [39] nn (fun gk s39 wx => IvH W4 gz n nn A KW gk s39 wx)
 case atStart => exact H0.out
 case round =>
  clear H0; obtain ⟨i, rfl, hin, hgk, haz, htw⟩ := hrel; have AZ0 := hid haz; have TW := hid htw; have HG := hid hgk; have TY : Hid (Ty 29 W4 wr) := AZ4.out.touch TW.out; have DS1 : Hid (Duo wr b6 (.bool ns) (.slice as_ ls cs)) := (TW.out.block b6 DS.out.blk HNE.out.2.2.2.1).trans DS.out; have ZS1 := hid (ZS.out.ty TY.out (by decide)); have PR5 : Hid (Cel wr br 24 [.int .i64 (n : Int), .int .i64 (n : Int), .slice (some ⟨gz, 0, none⟩) nn nn]) := (TW.out.block br PR4.out.blk HNE.out.1).trans PR4.out; clear haz htw hgk
  by_cases hlt : i < nn
  ·have hlt' : (i : Int) < (nn : Int) := by omega
   have hwi := zQA (i := i) (by omega); have HMM : Hid (nn - (i + 1) < gk) := by unfold Hid; rw [HG.out]; omega
   have hnp : 0 < n := by
    rcases Nat.eq_zero_or_pos n with h | h
    ·subst h; have := ENN.out; omega
    ·exact h
   have hr : i / n < n := Nat.div_lt_of_lt_mul (by rw [ENN.out]; exact hlt); have hc : i % n < n := Nat.mod_lt _ hnp; have e0 : i / n * n + i % n = i := Nat.div_add_mod' i n; have HR := hid (⟨hr, hc, e0⟩ : _ ∧ _ ∧ _); obtain ⟨nx, ax, lx_, cx, u0, u1, -, -, zx⟩ := AZ0.out.at hr hc; rw [e0] at u0 u1; have hzx : ivF n A i (i / n) (i % n) = adz n A (i / n) (i % n) := if_neg (by omega); rw [hzx] at zx; obtain ⟨V5, hV⟩ : ∃ V5, wr.alloc (duo (.bool nx) (.slice ax lx_ cx)) = V5 := ⟨_, rfl⟩
   obtain ⟨b, sz1⟩ := alo1 wr (duo (.bool nx) (.slice ax lx_ cx)); rw [hV] at b sz1; have P8 : Hid (Duo V5 wr.heap.size (.bool nx) (.slice ax lx_ cx)) := by unfold Hid; rw [← hV]; exact Duo.new wr _ _
   have ZX := hid (zx.now b); have ZS2 := hid (ZS1.out.now b); have AZ1 := hid (AZ0.out.step b); have TW1 : Hid (zPA (· = gz) W4 V5) := TW.out.trans (.ofBelow b); have y2 := (PR5.out.step b).at (i := 2) rfl; have s0 := (DS1.out.step b).c0; have s1 := (DS1.out.step b).c1; have p0 := P8.out.c0; have p1 := P8.out.c1; have HDV : Hid ((adz n A (i / n) (i % n)).tmod (shI n A) = 0) := by unfold Hid; rw [zEG hr hc]; exact Int.mul_tmod_right _ _
   have EV := hid hV; clear HG zx hzx hV b sz1 AZ0 TW TY DS1 ZS1 PR5 P8 hr hc e0 hnp; go_wp2_with fail; rw [EV.out]; clear EV u0 u1; have KB : Hid (∀ w', Below V5.heap.size V5 w' → w'.cell? ⟨br, 2, none⟩ = some (.slice (some ⟨gz, 0, none⟩) nn nn) ∧ w'.cell? ⟨wr.heap.size, 0, none⟩ = some (.bool nx) ∧ w'.cell? ⟨wr.heap.size, 1, none⟩ = some (.slice ax lx_ cx) ∧ w'.cell? ⟨b6, 0, none⟩ = some (.bool ns) ∧ w'.cell? ⟨b6, 1, none⟩ = some (.slice as_ ls cs)) := fun w' h => ⟨cnow h y2, cnow h p0, cnow h p1, cnow h s0, cnow h s1⟩
   refine zYC (fun w' => w'.cell? ⟨br, 2, none⟩ = some (.slice (some ⟨gz, 0, none⟩) nn nn) ∧ w'.cell? ⟨wr.heap.size, 0, none⟩ = some (.bool nx) ∧ w'.cell? ⟨wr.heap.size, 1, none⟩ = some (.slice ax lx_ cx) ∧ w'.cell? ⟨b6, 0, none⟩ = some (.bool ns) ∧ w'.cell? ⟨b6, 1, none⟩ = some (.slice as_ ls cs)) [10] (by kernel_rfl) ?_; obtain ⟨D41, hD⟩ : ∃ D41, V5.drew = D41 := ⟨_, rfl⟩
   have GB : Hid (Below V5.heap.size V5 D41) := by unfold Hid; rw [← hD]; exact (Below.refl _ _).drew
   rw [hD]; clear hD; refine zIA (i := 0) (oi := ⟨some 45, .fieldAddr 24 (.tmp 2) 2, 0, "minors.go:77", #[], none⟩) (v := (.pointer (some ⟨br, 2, none⟩))) rfl (by kernel_rfl) (fun _ _ _ h => h) (Or.inl ⟨by rfl, ?_⟩)  ?_
   ·intro w hSw; (try dsimp only at hSw); go_simp
   simp only [Act.put, sIb, sC0, sC1]; refine zeA (i := 1) (oi := ⟨some 46, .load 22 (.tmp 45), 22, "minors.go:77", #[⟨0, .data⟩], none⟩) (v := (.slice (some ⟨gz, 0, none⟩) nn nn)) rfl (by kernel_rfl) (fun _ _ _ h => h) (Or.inl ⟨by rfl, ?_⟩) (KB.out _ GB.out) ?_
   ·intro w hSw; (try dsimp only at hSw); go_simp
   simp only [Act.put, sIb, sC0, sC1]; refine zIA (i := 2) (oi := ⟨some 47, .move (.tmp 7), 3, "minors.go:77", #[], none⟩) (v := (.int .i64 (i : Int))) rfl (by kernel_rfl) (fun _ _ _ h => h) (Or.inl ⟨by rfl, ?_⟩)  ?_
   ·intro w hSw; (try dsimp only at hSw); go_simp
   simp only [Act.put, sIb, sC0, sC1]; refine zeA (i := 3) (oi := ⟨some 48, .load 29 (.tmp 8), 29, "minors.go:77", #[], none⟩) (v := (.agg #[.bool nx, .slice ax lx_ cx])) rfl (by kernel_rfl) (fun _ _ _ h => h) (Or.inl ⟨by rfl, ?_⟩) (KB.out _ GB.out) ?_
   ·intro w hSw; (try dsimp only at hSw); go_simp
   simp only [Act.put, sIb, sC0, sC1]; refine zeA (i := 4) (oi := ⟨some 49, .load 29 (.tmp 6), 29, "minors.go:77", #[], none⟩) (v := (.agg #[.bool ns, .slice as_ ls cs])) rfl (by kernel_rfl) (fun _ _ _ h => h) (Or.inl ⟨by rfl, ?_⟩) (KB.out _ GB.out) ?_
   ·intro w hSw; (try dsimp only at hSw); go_simp
   simp only [Act.put, sIb, sC0, sC1]; refine zRB (i := 5) (o := ⟨some 50, .call { callee := .value (.func 62), args := #[.tmp 48, .tmp 49], argTypes := #[29, 29] }, 31, "minors.go:77", #[⟨3, .data⟩, ⟨4, .data⟩], none⟩) (by kernel_rfl) rfl (fun K hK => ?_); go_simp; go_at_call 62; refine (zJC (ZX.out.now GB.out).zi (ZS2.out.now GB.out).zi HSN.out (by omega) (by omega) HDV.out).mono ?_; rintro e w42 ⟨re, rfl, me, b⟩; have lz42 := (show Below _ _ _ from b).size; replace GB := hid (zAA GB.out b); obtain ⟨ne, xe, ae, ce, rfl⟩ := me.parts; have ME := hid (me.mono (Nat.zero_le _)); clear me; clear b; refine hK.out _ _ (fun _ _ => KB.out _ GB.out) ?_; clear hK; refine zIA (i := 6) (oi := ⟨some 44, .move (.tmp 50), 31, "minors.go:77", #[⟨5, .data⟩], none⟩) (v := (.tuple #[(.agg #[.bool ne, .slice ae xe.length ce]), (.int .i64 0)])) rfl (by kernel_rfl) (fun _ _ _ h => h) (Or.inl ⟨by rfl, ?_⟩)  ?_
   ·intro w hSw; (try dsimp only at hSw); go_simp
   simp only [Act.put, sIb, sC0, sC1]; refine zIA (i := 7) (oi := ⟨some 51, .extract (.tmp 44) 0, 29, "minors.go:77", #[⟨6, .data⟩], none⟩) (v := (.agg #[.bool ne, .slice ae xe.length ce])) rfl (by kernel_rfl) (fun _ _ _ h => h) (Or.inl ⟨by rfl, ?_⟩)  ?_
   ·intro w hSw; (try dsimp only at hSw); go_simp
   simp only [Act.put, sIb, sC0, sC1]; refine zIA (i := 8) (oi := ⟨some 52, .extract (.tmp 44) 1, 30, "minors.go:77", #[⟨6, .data⟩, ⟨10, .gcOnly .lateStores⟩], none⟩) (v := (.int .i64 0)) rfl (by kernel_rfl) (fun _ _ _ h => h) (Or.inl ⟨by rfl, ?_⟩)  ?_
   ·intro w hSw; (try dsimp only at hSw); go_simp
   simp only [Act.put, sIb, sC0, sC1]; refine zIA (i := 9) (oi := ⟨some 53, .indexAddr 22 (.tmp 46) (.tmp 47), 0, "minors.go:77", #[⟨1, .data⟩, ⟨2, .data⟩, ⟨0, .phase⟩, ⟨1, .phase⟩, ⟨2, .phase⟩, ⟨3, .phase⟩, ⟨4, .phase⟩, ⟨5, .phase⟩, ⟨6, .phase⟩, ⟨7, .phase⟩, ⟨8, .textOnly .lateStores⟩], none⟩) (v := (.pointer (some ⟨gz, i * 2, none⟩))) rfl (by kernel_rfl) (fun _ _ _ h => h) (Or.inl ⟨by rfl, ?_⟩)  ?_
   ·intro w hSw; (try dsimp only at hSw); go_simp
   simp only [Act.put, sIb, sC0, sC1]; refine zRB (i := 10) (o := ⟨none, .store 29 (.tmp 53) (.tmp 51), 0, "minors.go:77", #[⟨9, .data⟩, ⟨7, .data⟩, ⟨5, .chain⟩, ⟨0, .phase⟩, ⟨1, .phase⟩, ⟨2, .phase⟩, ⟨3, .phase⟩, ⟨4, .phase⟩, ⟨5, .phase⟩, ⟨6, .phase⟩, ⟨7, .phase⟩, ⟨8, .textOnly .lateStores⟩], none⟩) (by kernel_rfl) rfl (fun K hK => ?_); have AZ2 := hid (AZ1.out.step GB.out); obtain ⟨_, _, _, _, f0, f1, f2, f3, -⟩ := AZ2.out.at HR.out.1 HR.out.2.1; rw [HR.out.2.2] at f0 f1 f2 f3; go_simp; clear f0 f1 f2 f3; obtain ⟨V43, hW⟩ : ∃ V43, ((w42.setCell ⟨gz, i * 2, none⟩ (.bool ne)).setCell ⟨gz, i * 2 + 1, none⟩ (.slice ae xe.length ce)) = V43 := ⟨_, rfl⟩
   have HN1 : Hid (IvH W4 gz n nn A KW (nn - (i + 1)) (.int .i64 ((i + 1 : Nat) : Int)) V43) := by
    unfold Hid; have u1 := AZ2.out.put HR.out.1 HR.out.2.1 (z := ivN n A (i / n) (i % n)) ME.out; rw [zuA fun r c _ hc => ivF_put hc, HR.out.2.2, hW] at u1; refine ⟨i + 1, rfl, by omega, rfl, u1, ?_⟩; rw [← hW]; exact ((TW1.out.trans (.ofBelow GB.out)).setCell (.inr rfl) _ _).setCell (.inr rfl) _ _
   rw [hW]; clear hW; refine hK.out _ _ (fun h => absurd h (by decide)) ?_; clear hK
   try simp only [Act.put]
   refine zZC (by kernel_rfl) ?_ _; clear GB KB AZ2 AZ1 TW1 ME ZX ZS2 y2 s0 s1 p0 p1; go_wp2_with fail; go_roundg (nn - (i + 1))
   case rel => exact HN1.out
   case measure => exact HMM.out
  ·have hlt' : ¬ (i : Int) < (nn : Int) := by omega
   obtain rfl : i = nn := by omega
   have PD5 : Hid (Duo wr bd (.bool false) (.slice none 0 0)) := (TW.out.block bd PD4.out.blk HNE.out.2.1).trans PD4.out; have PQ5 : Hid (Duo wr b5 (.bool nq) (.slice aq lq cq)) := (TW.out.block b5 PQ4.out.blk HNE.out.2.2.1).trans PQ4.out; have ZQ5 := hid (ZQ4.out.ty TY.out (by decide)); have G5 : Hid (Below w.heap.size w wr) := zQE G4.out (Nat.le_refl _) HNE.out.2.2.2.2.2.1 TW.out; have AF : Hid (AZ wr gz (zF n n (ivN n A)) KW) := by
    unfold Hid; have u := AZ0.out; rw [zuA (F := ivF n A i) (G := ivN n A) fun r c hr hc => if_pos (by rw [← ENN.out]; exact znD hr hc)] at u; exact u
   have HE := hid (zJC ZQ5.out.zi ZS1.out.zi HSN.out (by omega) (by omega) (by rw [zoE]; exact Int.mul_tmod_right _ _)); have q0 := PQ5.out.c0; have q1 := PQ5.out.c1; have s0 := DS1.out.c0; have s1 := DS1.out.c1; clear HG AZ0 TW TY; go_wp2_with fail; clear q0 q1 s0 s1; refine HE.out.mono ?_; rintro e w9 ⟨re, rfl, me, b⟩; obtain ⟨ne, xe, ae, ce, rfl⟩ := me.parts; obtain ⟨le, hle⟩ : ∃ le, xe.length = le := ⟨_, rfl⟩
   rw [hle] at me ⊢; have PD6 := hid (PD5.out.step b); have PR6 := hid (PR5.out.step b); obtain ⟨U, hU⟩ : ∃ U, (w9.setCell ⟨bd, 0, none⟩ (.bool ne)).setCell ⟨bd, 1, none⟩ (.slice ae le ce) = U := ⟨_, rfl⟩
   have tyU : Ty 29 w9 U := by rw [← hU]; exact PD6.out.ty13 _ _
   have PD7 : Hid (Duo U bd (.bool ne) (.slice ae le ce)) := by unfold Hid; rw [← hU]; exact PD6.out.set _ _
   have PR7 : Hid (Cel U br 24 [.int .i64 (n : Int), .int .i64 (n : Int), .slice (some ⟨gz, 0, none⟩) i i]) := PR6.out.ty13 tyU (by decide); have ME7 : Hid (Zm 0 U (.agg #[.bool ne, .slice ae le ce]) (ivD n A) KW) := (me.mono (Nat.zero_le _)).ty tyU (by decide); have AF7 : Hid (AZ U gz (zF n n (ivN n A)) KW) := by
    unfold Hid; rw [← hU]; have h1 := (AF.out.step b).ne (b := bd) (i := 0) (u := .bool ne) HNE.out.2.1 (PD6.out.ty13a _); exact h1.ne HNE.out.2.1 (PD6.out.ty13b _ _)
   have G7 : Hid (Below w.heap.size w U) := by unfold Hid; rw [← hU]; exact bset (bset (zAA G5.out b) HNE.out.2.2.2.2.2.2.2) HNE.out.2.2.2.2.2.2.2
   have d0 := PD6.out.c0; have d1 := PD6.out.c1; have d2 := PD6.out.fz 0; have d3 := PD6.out.fz 1; have a0 := PR7.out.at (i := 0) rfl; have a1 := PR7.out.at (i := 1) rfl; have a2 := PR7.out.at (i := 2) rfl; have a3 := PD7.out.c0; have a4 := PD7.out.c1; have EV := hid hU; clear HE me b hle PD6 PR6 hU tyU PD5 PQ5 ZQ5 G5 AF PR5 ZS1 DS1; go_wp2_with fail; rw [EV.out]; clear EV d0 d1 d2 d3; have KB : Hid (∀ w', Below U.heap.size U w' → w'.cell? ⟨br, 0, none⟩ = some (.int .i64 (n : Int)) ∧ w'.cell? ⟨br, 1, none⟩ = some (.int .i64 (n : Int)) ∧ w'.cell? ⟨br, 2, none⟩ = some (.slice (some ⟨gz, 0, none⟩) i i) ∧ w'.cell? ⟨bd, 0, none⟩ = some (.bool ne) ∧ w'.cell? ⟨bd, 1, none⟩ = some (.slice ae le ce)) := fun w' h => ⟨cnow h a0, cnow h a1, cnow h a2, cnow h a3, cnow h a4⟩
   refine zEA (fun w' => w'.cell? ⟨br, 0, none⟩ = some (.int .i64 (n : Int)) ∧ w'.cell? ⟨br, 1, none⟩ = some (.int .i64 (n : Int)) ∧ w'.cell? ⟨br, 2, none⟩ = some (.slice (some ⟨gz, 0, none⟩) i i) ∧ w'.cell? ⟨bd, 0, none⟩ = some (.bool ne) ∧ w'.cell? ⟨bd, 1, none⟩ = some (.slice ae le ce)) 3 (by kernel_rfl) ?_; obtain ⟨D81, hD⟩ : ∃ D81, U.drew = D81 := ⟨_, rfl⟩
   have GB : Hid (Below U.heap.size U D81) := by unfold Hid; rw [← hD]; exact (Below.refl _ _).drew
   rw [hD]; clear hD; have KC := hid (KB.out _ GB.out); refine zCA [(0, (.agg #[.int .i64 (n : Int), .int .i64 (n : Int), .slice (some ⟨gz, 0, none⟩) i i]))] 1 ?_ (KC.out) ?_
   ·simp only [zMA, gA9, g09, g19, Act.put, sI9, s09, s19]; (repeat' (first | exact trivial | refine And.intro (Or.inl ⟨by rfl, ?_⟩) ?_)) <;> (intro w hSw; (try dsimp only at hSw); go_simp)
   simp only [actV, gA9, g09, g19, Act.put, sI9, s09, s19]; refine zdA (i := 1) (j := 2) (oi := ⟨some 62, .load 29 (.tmp 3), 29, "minors.go:80", #[⟨2, .gcOnly .lateStores⟩], none⟩) (oj := ⟨none, .store 24 (.tmp 2) (.tmp 61), 0, "minors.go:80", #[⟨0, .data⟩, ⟨0, .phase⟩, ⟨1, .textOnly .lateStores⟩], none⟩) (by kernel_rfl) rfl rfl (fun K hK => ?_) (fun K hK => ?_)
   ·skip
    have g3 := KC.out.2.2.2.1; have g4 := KC.out.2.2.2.2; go_simp; clear g3 g4; refine hK.out _ _ (fun _ => KC.out) ?_; clear hK
    try simp only [Act.put]
    refine zBA (i := 2) (o := ⟨none, .store 24 (.tmp 2) (.tmp 61), 0, "minors.go:80", #[⟨0, .data⟩, ⟨0, .phase⟩, ⟨1, .textOnly .lateStores⟩], none⟩) (by kernel_rfl) rfl (fun K hK => ?_); have PR8 := hid (PR7.out.step GB.out); have e0 := PR8.out.at (i := 0) rfl; have e1 := PR8.out.at (i := 1) rfl; have e2 := PR8.out.at (i := 2) rfl; have f0 := PR8.out.fz 0; have f1 := PR8.out.fz 1; have f2 := PR8.out.fz 2; go_simp; clear e0 e1 e2 f0 f1 f2; obtain ⟨V82, hW⟩ : ∃ V82, (put3 D81 br (.int .i64 (n : Int)) (.int .i64 (n : Int)) (.slice (some ⟨gz, 0, none⟩) i i)) = V82 := ⟨_, rfl⟩
    have ty8 : Ty 24 D81 V82 := by rw [← hW]; exact PR8.out.ty3 _ _ _
    have PR9 : Hid (Cel V82 br 24 [.int .i64 (n : Int), .int .i64 (n : Int), .slice (some ⟨gz, 0, none⟩) i i]) := by unfold Hid; rw [← hW]; exact PR8.out.put3 _ _ _
    have PD9 := hid ((PD7.out.step GB.out).ty14d ty8); have ME9 := hid ((ME7.out.now GB.out).ty ty8 (by decide)); have AF9 := hid ((AF7.out.step GB.out).ty ty8 (by decide) (by decide)); have G9 : Hid (Below w.heap.size w V82) := by unfold Hid; rw [← hW]; exact zOA (zAA G7.out GB.out) HNE.out.2.2.2.2.2.2.1 _ _ _
    replace hW : ((D81.setCell ⟨br, 0, none⟩ (.int .i64 (n : Int))).setCell ⟨br, 1, none⟩ (.int .i64 (n : Int))).setCell ⟨br, 2, none⟩ (.slice (some ⟨gz, 0, none⟩) i i) = V82 := hW; replace KC := hid (⟨PR9.out.at (i := 0) rfl, PR9.out.at (i := 1) rfl, PR9.out.at (i := 2) rfl, PD9.out.c0, PD9.out.c1⟩ : _ ∧ _ ∧ _ ∧ _ ∧ _); clear ty8; rw [hW]; clear hW; refine hK.out _ _ (fun _ => KC.out) ?_; clear hK
    try simp only [Act.put]
    refine zBA (i := 3) (o := ⟨none, .store 29 (.tmp 3) (.tmp 62), 0, "minors.go:80", #[⟨1, .data⟩, ⟨2, .chain⟩, ⟨0, .phase⟩, ⟨1, .phase⟩, ⟨2, .phase⟩], none⟩) (by kernel_rfl) rfl (fun K hK => ?_); have e0 := PD9.out.c0; have e1 := PD9.out.c1; have e2 := PD9.out.fz 0; have e3 := PD9.out.fz 1; go_simp; clear e0 e1 e2 e3; obtain ⟨V83, hW⟩ : ∃ V83, ((V82.setCell ⟨bd, 0, none⟩ (.bool ne)).setCell ⟨bd, 1, none⟩ (.slice ae le ce)) = V83 := ⟨_, rfl⟩
    have ty9 : Ty 29 V82 V83 := by rw [← hW]; exact PD9.out.ty13 _ _
    have PF : Hid (Cel V83 br 24 [.int .i64 (n : Int), .int .i64 (n : Int), .slice (some ⟨gz, 0, none⟩) i i]) := PR9.out.ty13 ty9 (by decide); have PF2 : Hid (Duo V83 bd (.bool ne) (.slice ae le ce)) := by unfold Hid; rw [← hW]; exact PD9.out.set _ _
    have AFF : Hid (AZ V83 gz (zF n n (ivN n A)) KW) := by
     unfold Hid; rw [← hW]; have h1 := AF9.out.ne (b := bd) (i := 0) (u := .bool ne) HNE.out.2.1 (PD9.out.ty13a _); exact h1.ne HNE.out.2.1 (PD9.out.ty13b _ _)
    have FIN : Hid (InvY w n A KW (.returned (.tuple #[(.agg #[.int .i64 (n : Int), .int .i64 (n : Int), .slice (some ⟨gz, 0, none⟩) i i]), (.agg #[.bool ne, .slice ae le ce]), .int .i64 0])) V83) := by
     refine ⟨_, _, rfl, ?_, ME9.out.ty ty9 (by decide), ?_⟩
     ·have h := AFF.out.mc14 hm64 hm64
      rw [ENN.out] at h; exact h
     ·rw [← hW]
      exact bset (bset G9.out HNE.out.2.2.2.2.2.2.2) HNE.out.2.2.2.2.2.2.2
    clear ty9; rw [hW]; clear hW; refine hK.out _ _ (fun h => absurd h (by decide)) ?_; clear hK
    try simp only [Act.put]
    refine zBA (i := 4) (o := ⟨some 4, .assign (.const (.int .i64 0)), 30, "minors.go:80", #[⟨3, .chain⟩, ⟨0, .phase⟩, ⟨1, .phase⟩, ⟨2, .phase⟩, ⟨3, .phase⟩], none⟩) (by kernel_rfl) rfl (fun K hK => ?_); go_simp; refine hK.out _ _ (fun h => absurd h (by decide)) ?_; clear hK
    try simp only [Act.put]
    refine zDA (by kernel_rfl) ?_ _; clear GB KB KC PR8 PR9 PD9 ME9 AF9 G9 AFF; go_wp2; exact bodyPost_ret (ztG Tryz.results31 PF.out PF2.out _ (by rfl) (by rfl) (by rfl)) rfl (by rw [EKW.out]; exact FIN.out)
   ·skip
    have PR8 := hid (PR7.out.step GB.out); have e0 := PR8.out.at (i := 0) rfl; have e1 := PR8.out.at (i := 1) rfl; have e2 := PR8.out.at (i := 2) rfl; have f0 := PR8.out.fz 0; have f1 := PR8.out.fz 1; have f2 := PR8.out.fz 2; go_simp; clear e0 e1 e2 f0 f1 f2; obtain ⟨V84, hW⟩ : ∃ V84, (put3 D81 br (.int .i64 (n : Int)) (.int .i64 (n : Int)) (.slice (some ⟨gz, 0, none⟩) i i)) = V84 := ⟨_, rfl⟩
    have ty8 : Ty 24 D81 V84 := by rw [← hW]; exact PR8.out.ty3 _ _ _
    have PR9 : Hid (Cel V84 br 24 [.int .i64 (n : Int), .int .i64 (n : Int), .slice (some ⟨gz, 0, none⟩) i i]) := by unfold Hid; rw [← hW]; exact PR8.out.put3 _ _ _
    have PD9 := hid ((PD7.out.step GB.out).ty14d ty8); have ME9 := hid ((ME7.out.now GB.out).ty ty8 (by decide)); have AF9 := hid ((AF7.out.step GB.out).ty ty8 (by decide) (by decide)); have G9 : Hid (Below w.heap.size w V84) := by unfold Hid; rw [← hW]; exact zOA (zAA G7.out GB.out) HNE.out.2.2.2.2.2.2.1 _ _ _
    replace hW : ((D81.setCell ⟨br, 0, none⟩ (.int .i64 (n : Int))).setCell ⟨br, 1, none⟩ (.int .i64 (n : Int))).setCell ⟨br, 2, none⟩ (.slice (some ⟨gz, 0, none⟩) i i) = V84 := hW; replace KC := hid (⟨PR9.out.at (i := 0) rfl, PR9.out.at (i := 1) rfl, PR9.out.at (i := 2) rfl, PD9.out.c0, PD9.out.c1⟩ : _ ∧ _ ∧ _ ∧ _ ∧ _); clear ty8; rw [hW]; clear hW; refine hK.out _ _ (fun _ => KC.out) ?_; clear hK
    try simp only [Act.put]
    refine zBA (i := 1) (o := ⟨some 62, .load 29 (.tmp 3), 29, "minors.go:80", #[⟨2, .gcOnly .lateStores⟩], none⟩) (by kernel_rfl) rfl (fun K hK => ?_); have g3 := KC.out.2.2.2.1; have g4 := KC.out.2.2.2.2; go_simp; clear g3 g4; refine hK.out _ _ (fun _ => KC.out) ?_; clear hK
    try simp only [Act.put]
    refine zBA (i := 3) (o := ⟨none, .store 29 (.tmp 3) (.tmp 62), 0, "minors.go:80", #[⟨1, .data⟩, ⟨2, .chain⟩, ⟨0, .phase⟩, ⟨1, .phase⟩, ⟨2, .phase⟩], none⟩) (by kernel_rfl) rfl (fun K hK => ?_); have e0 := PD9.out.c0; have e1 := PD9.out.c1; have e2 := PD9.out.fz 0; have e3 := PD9.out.fz 1; go_simp; clear e0 e1 e2 e3; obtain ⟨V85, hW⟩ : ∃ V85, ((V84.setCell ⟨bd, 0, none⟩ (.bool ne)).setCell ⟨bd, 1, none⟩ (.slice ae le ce)) = V85 := ⟨_, rfl⟩
    have ty9 : Ty 29 V84 V85 := by rw [← hW]; exact PD9.out.ty13 _ _
    have PF : Hid (Cel V85 br 24 [.int .i64 (n : Int), .int .i64 (n : Int), .slice (some ⟨gz, 0, none⟩) i i]) := PR9.out.ty13 ty9 (by decide); have PF2 : Hid (Duo V85 bd (.bool ne) (.slice ae le ce)) := by unfold Hid; rw [← hW]; exact PD9.out.set _ _
    have AFF : Hid (AZ V85 gz (zF n n (ivN n A)) KW) := by
     unfold Hid; rw [← hW]; have h1 := AF9.out.ne (b := bd) (i := 0) (u := .bool ne) HNE.out.2.1 (PD9.out.ty13a _); exact h1.ne HNE.out.2.1 (PD9.out.ty13b _ _)
    have FIN : Hid (InvY w n A KW (.returned (.tuple #[(.agg #[.int .i64 (n : Int), .int .i64 (n : Int), .slice (some ⟨gz, 0, none⟩) i i]), (.agg #[.bool ne, .slice ae le ce]), .int .i64 0])) V85) := by
     refine ⟨_, _, rfl, ?_, ME9.out.ty ty9 (by decide), ?_⟩
     ·have h := AFF.out.mc14 hm64 hm64
      rw [ENN.out] at h; exact h
     ·rw [← hW]
      exact bset (bset G9.out HNE.out.2.2.2.2.2.2.2) HNE.out.2.2.2.2.2.2.2
    clear ty9; rw [hW]; clear hW; refine hK.out _ _ (fun h => absurd h (by decide)) ?_; clear hK
    try simp only [Act.put]
    refine zBA (i := 4) (o := ⟨some 4, .assign (.const (.int .i64 0)), 30, "minors.go:80", #[⟨3, .chain⟩, ⟨0, .phase⟩, ⟨1, .phase⟩, ⟨2, .phase⟩, ⟨3, .phase⟩], none⟩) (by kernel_rfl) rfl (fun K hK => ?_); go_simp; refine hK.out _ _ (fun h => absurd h (by decide)) ?_; clear hK
    try simp only [Act.put]
    refine zDA (by kernel_rfl) ?_ _; clear GB KB KC PR8 PR9 PD9 ME9 AF9 G9 AFF; go_wp2; exact bodyPost_ret (ztG Tryz.results31 PF.out PF2.out _ (by rfl) (by rfl) (by rfl)) rfl (by rw [EKW.out]; exact FIN.out)
end Go.Proofs.YtakkmpkkoecnhaaGreat
