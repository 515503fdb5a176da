/-
  Pow9: power by squares, Pow.
-/
import Derived.Test.YtojhmkkjjalonaaQTurnP9
namespace Go.Proofs.Ytojhmkkjjalonaa
open Go.RowKit
set_option linter.unusedVariables false

/-- a to the power n, one after the other. -/
def powL (s : Nat) (zs : List Int) : Nat → List Int
  | 0 => unitL s s
  | n + 1 => prodL s s s (powL s zs n) zs
theorem powL_length {s : Nat} {zs : List Int} : ∀ n, (powL s zs n).length = s * s
  | 0 => unitL_length _ _
  | n + 1 => prodL_length
theorem prod_unit {r c : Nat} {xs : List Int} (hx : xs.length = r * c) : prodL r c c xs (unitL c c) = xs := by
  refine mat_ext (r := r) (c := c) prodL_length hx (fun i j hi hj => ?_)
  rw [prod_at hx hi hj, ← sumN_one hj (fun t => xs.getD (i * c + t) 0)]
  refine sumN_congr (fun t ht => ?_)
  rw [unit_at ht hj]
  by_cases q : t = j
  · rw [if_pos q, if_pos q.symm, Int.mul_one]
  · rw [if_neg q, if_neg (fun e => q e.symm), Int.mul_zero]
theorem powL_add {s : Nat} {zs : List Int} (hz : zs.length = s * s) (m : Nat) : ∀ n, prodL s s s (powL s zs m) (powL s zs n) = powL s zs (m + n)
  | 0 => prod_unit (powL_length m)
  | n + 1 => by
    rw [powL, ← prod_assoc (powL_length m) (powL_length n), powL_add hz m n]
    rfl
theorem powL_one {s : Nat} {zs : List Int} (hz : zs.length = s * s) : powL s zs 1 = zs := unit_prod hz
theorem powL_even {s h : Nat} {zs : List Int} (hz : zs.length = s * s) : prodL s s s (powL s zs h) (powL s zs h) = powL s zs (2 * h) := by rw [powL_add hz, Nat.two_mul]
theorem powL_odd {s h : Nat} {zs : List Int} (hz : zs.length = s * s) : prodL s s s (powL s zs (2 * h)) zs = powL s zs (2 * h + 1) := rfl
def kpow (n k : Nat) : Nat := if n = 0 then 1 else n * (k + 64) - 64
def PowOk (N : Nat) : Prop := ∀ (n : Nat) (w : World) (v : Value) (s : Nat) (zs : List Int) (k : Nat), n < N → Mx w v s s zs k → n ≤ 256 → k ≤ 1048576 → Calls Try.prog 43 #[v, .int .i64 (n : Int)] w (GivesM w s s (powL s zs n) (kpow n k))
theorem Mx.len9p {w : World} {v : Value} {r c : Nat} {zs : List Int} {k : Nat} (h : Mx w v r c zs k) : zs.length = r * c := by obtain ⟨_, _, _, _, _, h, _⟩ := h; exact h
theorem Mc.more {w : World} {v : Value} {r c : Nat} {zs : List Int} {k l : Nat} (h : Mc w v r c zs k) (hl : k ≤ l) : Mc w v r c zs l := by
  obtain ⟨a, ps, h1, h2, h3, h4⟩ := h
  exact ⟨a, ps, h1, h2, h3.more hl, h4⟩
set_option maxHeartbeats 3200000 in
set_option maxRecDepth 100000 in
theorem power_zero {w : World} {v : Value} {s : Nat} {zs : List Int} {k : Nat} (h : Mx w v s s zs k) :
    Calls Try.prog 43 #[v, .int .i64 0] w (GivesM w s s (powL s zs 0) 1) := by
  have Ma := hid h
  obtain ⟨aa, qa, rfl, s64, -⟩ := h.form
  have HLZ := hid h.len9p
  obtain ⟨W0, hV⟩ : ∃ W0, (w.alloc (matO s s (.slice aa (s * s) qa))).alloc mbox = W0 := ⟨_, rfl⟩
  obtain ⟨b0, sz0⟩ := alloc2 w (matO s s (.slice aa (s * s) qa)) mbox
  rw [hV] at b0 sz0
  obtain ⟨pa, pr⟩ := two_boxes (o1 := matc s s (.slice aa (s * s) qa)) hV
  have Pa := hid pa
  have Pr := hid pr
  replace Ma := hid (Ma.out.now b0)
  have G := hid b0
  have hz : ((0 : Int) == 0) = true := rfl
  clear b0 pa pr h
  have ca0 := Pa.out.at (i := 0) rfl
  have ca1 := Pa.out.at (i := 1) rfl
  have ca2 := Pa.out.at (i := 2) rfl
  rw [← hV] at ca0 ca1 ca2
  have EV := hid hV
  clear hV
  go_enter Try.func43, Try.ntmps43
  go_wp2_with fail
  rw [EV.out]
  clear EV ca0 ca1 ca2
  refine (unit_any (w := W0) s64).mono ?_
  rintro e w11 ⟨v, rfl, hm, b⟩
  obtain ⟨au, qu, rfl, -, -⟩ := hm.mx.form
  replace Ma := hid (Ma.out.now b)
  replace Pa := hid (Pa.out.step b)
  replace Pr := hid (Pr.out.step b)
  replace G := hid (below_step G.out b)
  have lz12 := (show Below _ _ _ from b).size
  obtain ⟨zu, hz⟩ : ∃ zu, unitL s s = zu := ⟨_, rfl⟩
  rw [hz] at hm
  have Eu := hid hz
  have Mu := hid hm
  clear hm hz b
  have EP : Hid (powL s zs 0 = zu) := Eu.out
  clear Eu
  obtain ⟨V13, hV⟩ : ∃ V13, w11.alloc (matO s s (.slice au (s * s) qu)) = V13 := ⟨_, rfl⟩
  obtain ⟨b, sz13⟩ := alo1 w11 (matO s s (.slice au (s * s) qu))
  rw [hV] at b sz13
  replace Ma := hid (Ma.out.now b)
  replace Mu := hid (Mu.out.now b)
  replace Pa := hid (Pa.out.step b)
  replace Pr := hid (Pr.out.step b)
  replace G := hid (below_step G.out b)
  have lz14 := (show Below _ _ _ from b).size
  have Pu : Hid (Cel V13 w11.heap.size 24 (matc s s (.slice au (s * s) qu))) := by unfold Hid; rw [← hV]; exact Cel.new w11 _ _
  clear b
  have FIN : Hid (GivesM w s s zu 1 (.returned (.agg #[.int .i64 (s : Int), .int .i64 (s : Int), .slice au (s * s) qu])) (put3 V13 (w.heap.size + 1) (.int .i64 (s : Int)) (.int .i64 (s : Int)) (.slice au (s * s) qu))) := ⟨_, rfl, Mu.out.wk Pr.out _ _ _, below_put3 G.out (by omega) _ _ _⟩
  rw [← EP.out] at FIN
  have PF := hid (Pr.out.put3 (.int .i64 (s : Int)) (.int .i64 (s : Int)) (.slice au (s * s) qu))
  have cu0 := Pu.out.at (i := 0) rfl
  have cu1 := Pu.out.at (i := 1) rfl
  have cu2 := Pu.out.at (i := 2) rfl
  have cr0 := Pr.out.at (i := 0) rfl
  have cr1 := Pr.out.at (i := 1) rfl
  have cr2 := Pr.out.at (i := 2) rfl
  have fr0 := Pr.out.fz 0
  have fr1 := Pr.out.fz 1
  have fr2 := Pr.out.fz 2
  rw [← hV] at cu0 cu1 cu2 cr0 cr1 cr2 fr0 fr1 fr2
  have EV := hid hV
  clear hV
  go_wp2
  rw [EV.out]
  clear EV
  exact bodyPost_ret (mback Try.results43 PF.out _ (by rfl)) rfl FIN.out
set_option maxHeartbeats 3200000 in
set_option maxRecDepth 100000 in
theorem power_one {w : World} {v : Value} {s : Nat} {zs : List Int} {k : Nat} (h : Mx w v s s zs k) :
    Calls Try.prog 43 #[v, .int .i64 1] w (GivesM w s s (powL s zs 1) k) := by
  have Ma := hid h
  obtain ⟨aa, qa, rfl, s64, -⟩ := h.form
  have HLZ := hid h.len9p
  obtain ⟨W0, hV⟩ : ∃ W0, (w.alloc (matO s s (.slice aa (s * s) qa))).alloc mbox = W0 := ⟨_, rfl⟩
  obtain ⟨b0, sz0⟩ := alloc2 w (matO s s (.slice aa (s * s) qa)) mbox
  rw [hV] at b0 sz0
  obtain ⟨pa, pr⟩ := two_boxes (o1 := matc s s (.slice aa (s * s) qa)) hV
  have Pa := hid pa
  have Pr := hid pr
  replace Ma := hid (Ma.out.now b0)
  have G := hid b0
  have hz : ((1 : Int) == 0) = false := rfl
  have hz1 : ((1 : Int) == 1) = true := rfl
  clear b0 pa pr h
  have ca0 := Pa.out.at (i := 0) rfl
  have ca1 := Pa.out.at (i := 1) rfl
  have ca2 := Pa.out.at (i := 2) rfl
  rw [← hV] at ca0 ca1 ca2
  have EV := hid hV
  clear hV
  go_enter Try.func43, Try.ntmps43
  go_wp2_with fail
  rw [EV.out]
  clear EV ca0 ca1 ca2
  refine (least9_any Ma.out).mono ?_
  rintro e w11 ⟨v, rfl, hm, b⟩
  obtain ⟨au, qu, rfl, -, -⟩ := hm.mx.form
  replace Ma := hid (Ma.out.now b)
  replace Pa := hid (Pa.out.step b)
  replace Pr := hid (Pr.out.step b)
  replace G := hid (below_step G.out b)
  have lz12 := (show Below _ _ _ from b).size
  obtain ⟨zu, hz⟩ : ∃ zu, zs = zu := ⟨_, rfl⟩
  rw [hz] at hm
  have Eu := hid hz
  have Mu := hid hm
  clear hm hz b
  have EP : Hid (powL s zs 1 = zu) := by unfold Hid; rw [powL_one HLZ.out, Eu.out]
  clear Eu
  have FIN : Hid (GivesM w s s zu k (.returned (.agg #[.int .i64 (s : Int), .int .i64 (s : Int), .slice au (s * s) qu])) (put3 w11 (w.heap.size + 1) (.int .i64 (s : Int)) (.int .i64 (s : Int)) (.slice au (s * s) qu))) := ⟨_, rfl, Mu.out.wk Pr.out _ _ _, below_put3 G.out (by omega) _ _ _⟩
  rw [← EP.out] at FIN
  have PF := hid (Pr.out.put3 (.int .i64 (s : Int)) (.int .i64 (s : Int)) (.slice au (s * s) qu))
  have cr0 := Pr.out.at (i := 0) rfl
  have cr1 := Pr.out.at (i := 1) rfl
  have cr2 := Pr.out.at (i := 2) rfl
  have fr0 := Pr.out.fz 0
  have fr1 := Pr.out.fz 1
  have fr2 := Pr.out.fz 2
  go_wp2
  exact bodyPost_ret (mback Try.results43 PF.out _ (by rfl)) rfl FIN.out
set_option maxHeartbeats 3200000 in
set_option maxRecDepth 100000 in
theorem power_more {w : World} {v : Value} {s : Nat} {zs : List Int} {k : Nat} {n : Nat} (h : Mx w v s s zs k) (h2 : 2 ≤ n) (hn : n ≤ 256) (hk : k ≤ 1048576) (IH : PowOk n) :
    Calls Try.prog 43 #[v, .int .i64 (n : Int)] w (GivesM w s s (powL s zs n) (kpow n k)) := by
  have Ma := hid h
  obtain ⟨aa, qa, rfl, s64, -⟩ := h.form
  have HLZ := hid h.len9p
  obtain ⟨W0, hV⟩ : ∃ W0, (w.alloc (matO s s (.slice aa (s * s) qa))).alloc mbox = W0 := ⟨_, rfl⟩
  obtain ⟨b0, sz0⟩ := alloc2 w (matO s s (.slice aa (s * s) qa)) mbox
  rw [hV] at b0 sz0
  obtain ⟨pa, pr⟩ := two_boxes (o1 := matc s s (.slice aa (s * s) qa)) hV
  have Pa := hid pa
  have Pr := hid pr
  replace Ma := hid (Ma.out.now b0)
  have G := hid b0
  have IHH : Hid (∀ w' v', Mx w' v' s s zs k → Calls Try.prog 43 #[v', .int .i64 ((n / 2 : Nat) : Int)] w' (GivesM w' s s (powL s zs (n / 2)) (kpow (n / 2) k))) := fun w' v' hm => IH (n / 2) w' v' s zs k (by omega) hm (by omega) hk
  have hz : ((n : Int) == 0) = false := by rw [beq_eq_false_iff_ne]; omega
  have hz1 : ((n : Int) == 1) = false := by rw [beq_eq_false_iff_ne]; omega
  have hh : (n : Int) / 2 = ((n / 2 : Nat) : Int) := by omega
  have hkh : kpow (n / 2) k = n / 2 * (k + 64) - 64 := if_neg (by omega)
  have hkn : kpow n k = n * (k + 64) - 64 := if_neg (by omega)
  rw [hkh] at IHH
  rw [hkn]
  clear hkh hkn IH
  have hmul : 64 ≤ n / 2 * (k + 64) ∧ n / 2 * (k + 64) ≤ 128 * 1048640 := ⟨by
    have := Nat.mul_le_mul (show 1 ≤ n / 2 by omega) (show 64 ≤ k + 64 by omega)
    omega, Nat.mul_le_mul (by omega) (by omega)⟩
  have hdiv : n = 2 * (n / 2) ∨ n = 2 * (n / 2) + 1 := by omega
  generalize n / 2 = hf at *
  clear b0 pa pr h
  have ca0 := Pa.out.at (i := 0) rfl
  have ca1 := Pa.out.at (i := 1) rfl
  have ca2 := Pa.out.at (i := 2) rfl
  rw [← hV] at ca0 ca1 ca2
  have EV := hid hV
  clear hV
  go_enter Try.func43, Try.ntmps43
  go_wp2_with fail
  rw [EV.out]
  clear EV ca0 ca1 ca2
  refine (IHH.out _ _ Ma.out).mono ?_
  rintro e w11 ⟨v, rfl, hm, b⟩
  obtain ⟨af, qf, rfl, -, -⟩ := hm.mx.form
  replace Ma := hid (Ma.out.now b)
  replace Pa := hid (Pa.out.step b)
  replace Pr := hid (Pr.out.step b)
  replace G := hid (below_step G.out b)
  have lz12 := (show Below _ _ _ from b).size
  obtain ⟨zf, hz⟩ : ∃ zf, powL s zs hf = zf := ⟨_, rfl⟩
  rw [hz] at hm
  have Ef := hid hz
  have Mf := hid hm
  clear hm hz b
  obtain ⟨V13, hV⟩ : ∃ V13, w11.alloc (matO s s (.slice af (s * s) qf)) = V13 := ⟨_, rfl⟩
  obtain ⟨b, sz13⟩ := alo1 w11 (matO s s (.slice af (s * s) qf))
  rw [hV] at b sz13
  replace Ma := hid (Ma.out.now b)
  replace Mf := hid (Mf.out.now b)
  replace Pa := hid (Pa.out.step b)
  replace Pr := hid (Pr.out.step b)
  replace G := hid (below_step G.out b)
  have lz14 := (show Below _ _ _ from b).size
  have Pf : Hid (Cel V13 w11.heap.size 24 (matc s s (.slice af (s * s) qf))) := by unfold Hid; rw [← hV]; exact Cel.new w11 _ _
  clear b
  have cf0 := Pf.out.at (i := 0) rfl
  have cf1 := Pf.out.at (i := 1) rfl
  have cf2 := Pf.out.at (i := 2) rfl
  rw [← hV] at cf0 cf1 cf2
  have EV := hid hV
  clear hV
  go_wp2_with fail
  rw [EV.out]
  clear EV
  clear cf0 cf1 cf2
  refine (product_any Mf.out.mx Mf.out.mx (by omega)).mono ?_
  rintro e w15 ⟨v, rfl, hm, b⟩
  obtain ⟨ap, qp, rfl, -, -⟩ := hm.mx.form
  replace Ma := hid (Ma.out.now b)
  replace Mf := hid (Mf.out.now b)
  replace Pa := hid (Pa.out.step b)
  replace Pr := hid (Pr.out.step b)
  replace Pf := hid (Pf.out.step b)
  replace G := hid (below_step G.out b)
  have lz16 := (show Below _ _ _ from b).size
  obtain ⟨zp, hz⟩ : ∃ zp, prodL s s s zf zf = zp := ⟨_, rfl⟩
  rw [hz] at hm
  have Ep := hid hz
  have Mp := hid hm
  clear hm hz b
  have EE : Hid (powL s zs (2 * hf) = zp) := by unfold Hid; rw [← Ep.out, ← Ef.out, powL_even HLZ.out]
  clear Ep Ef IHH
  obtain ⟨V17, hV⟩ : ∃ V17, w15.alloc (matO s s (.slice ap (s * s) qp)) = V17 := ⟨_, rfl⟩
  obtain ⟨b, sz17⟩ := alo1 w15 (matO s s (.slice ap (s * s) qp))
  rw [hV] at b sz17
  replace Ma := hid (Ma.out.now b)
  replace Mf := hid (Mf.out.now b)
  replace Mp := hid (Mp.out.now b)
  replace Pa := hid (Pa.out.step b)
  replace Pr := hid (Pr.out.step b)
  replace Pf := hid (Pf.out.step b)
  replace G := hid (below_step G.out b)
  have lz18 := (show Below _ _ _ from b).size
  have Pp : Hid (Cel V17 w15.heap.size 24 (matc s s (.slice ap (s * s) qp))) := by unfold Hid; rw [← hV]; exact Cel.new w15 _ _
  clear b
  clear Mf
  clear Pf
  rcases hdiv with hdiv | hdiv
  case inl =>
    have hrem : (n : Int) % 2 = 0 := by omega
    have hrem2 : ((0 : Int) == 1) = false := rfl
    have EN : Hid (powL s zs n = zp) := by unfold Hid; rw [hdiv]; exact EE.out
    have hb : hf * (k + 64) - 64 + (hf * (k + 64) - 64) + s ≤ n * (k + 64) - 64 := by
      have e : n * (k + 64) = hf * (k + 64) + hf * (k + 64) := by rw [hdiv, Nat.two_mul, Nat.add_mul]
      omega
    replace Mp := hid (Mp.out.more hb)
    clear hb EE hdiv hmul
    have FIN : Hid (GivesM w s s zp (n * (k + 64) - 64) (.returned (.agg #[.int .i64 (s : Int), .int .i64 (s : Int), .slice ap (s * s) qp])) (put3 V17 (w.heap.size + 1) (.int .i64 (s : Int)) (.int .i64 (s : Int)) (.slice ap (s * s) qp))) := ⟨_, rfl, Mp.out.wk Pr.out _ _ _, below_put3 G.out (by omega) _ _ _⟩
    rw [← EN.out] at FIN
    have PF := hid (Pr.out.put3 (.int .i64 (s : Int)) (.int .i64 (s : Int)) (.slice ap (s * s) qp))
    have cp0 := Pp.out.at (i := 0) rfl
    have cp1 := Pp.out.at (i := 1) rfl
    have cp2 := Pp.out.at (i := 2) rfl
    have cr0 := Pr.out.at (i := 0) rfl
    have cr1 := Pr.out.at (i := 1) rfl
    have cr2 := Pr.out.at (i := 2) rfl
    have fr0 := Pr.out.fz 0
    have fr1 := Pr.out.fz 1
    have fr2 := Pr.out.fz 2
    rw [← hV] at cp0 cp1 cp2 cr0 cr1 cr2 fr0 fr1 fr2
    have EV := hid hV
    clear hV
    go_wp2
    rw [EV.out]
    clear EV
    exact bodyPost_ret (mback Try.results43 PF.out _ (by rfl)) rfl FIN.out
  case inr =>
    have hrem : (n : Int) % 2 = 1 := by omega
    have hrem2 : ((1 : Int) == 1) = true := rfl
    have cp0 := Pp.out.at (i := 0) rfl
    have cp1 := Pp.out.at (i := 1) rfl
    have cp2 := Pp.out.at (i := 2) rfl
    have ca0 := Pa.out.at (i := 0) rfl
    have ca1 := Pa.out.at (i := 1) rfl
    have ca2 := Pa.out.at (i := 2) rfl
    rw [← hV] at cp0 cp1 cp2 ca0 ca1 ca2
    have EV := hid hV
    clear hV
    go_wp2_with fail
    rw [EV.out]
    clear EV
    clear cp0 cp1 cp2 ca0 ca1 ca2
    refine (product_any Mp.out.mx Ma.out (by omega)).mono ?_
    rintro e w19 ⟨v, rfl, hm, b⟩
    obtain ⟨ax, qx, rfl, -, -⟩ := hm.mx.form
    replace Ma := hid (Ma.out.now b)
    replace Mp := hid (Mp.out.now b)
    replace Pa := hid (Pa.out.step b)
    replace Pr := hid (Pr.out.step b)
    replace Pp := hid (Pp.out.step b)
    replace G := hid (below_step G.out b)
    have lz20 := (show Below _ _ _ from b).size
    obtain ⟨zx, hz⟩ : ∃ zx, prodL s s s zp zs = zx := ⟨_, rfl⟩
    rw [hz] at hm
    have Ex := hid hz
    have Mx := hid hm
    clear hm hz b
    have EN : Hid (powL s zs n = zx) := by unfold Hid; rw [hdiv, ← powL_odd HLZ.out, EE.out]; exact Ex.out
    have hb : hf * (k + 64) - 64 + (hf * (k + 64) - 64) + s + k + s ≤ n * (k + 64) - 64 := by
      have e : n * (k + 64) = hf * (k + 64) + hf * (k + 64) + (k + 64) := by rw [hdiv, Nat.add_mul, Nat.two_mul, Nat.add_mul, Nat.one_mul]
      omega
    replace Mx := hid (Mx.out.more hb)
    clear hb EE hdiv hmul Ex
    have ep0 := Pp.out.at (i := 0) rfl
    have ep1 := Pp.out.at (i := 1) rfl
    have ep2 := Pp.out.at (i := 2) rfl
    have fp0 := Pp.out.fz 0
    have fp1 := Pp.out.fz 1
    have fp2 := Pp.out.fz 2
    obtain ⟨V21, hV⟩ : ∃ V21, put3 w19 (w15.heap.size) (.int .i64 (s : Int)) (.int .i64 (s : Int)) (.slice ax (s * s) qx) = V21 := ⟨_, rfl⟩
    replace Ma := hid (Ma.out.wk Pp.out (.int .i64 (s : Int)) (.int .i64 (s : Int)) (.slice ax (s * s) qx))
    replace Mp := hid (Mp.out.wk Pp.out (.int .i64 (s : Int)) (.int .i64 (s : Int)) (.slice ax (s * s) qx))
    replace Mx := hid (Mx.out.wk Pp.out (.int .i64 (s : Int)) (.int .i64 (s : Int)) (.slice ax (s * s) qx))
    replace Pa := hid (Pa.out.away3 (b' := w15.heap.size) (by omega) (.int .i64 (s : Int)) (.int .i64 (s : Int)) (.slice ax (s * s) qx))
    replace Pr := hid (Pr.out.away3 (b' := w15.heap.size) (by omega) (.int .i64 (s : Int)) (.int .i64 (s : Int)) (.slice ax (s * s) qx))
    replace Pp := hid (Pp.out.put3 (.int .i64 (s : Int)) (.int .i64 (s : Int)) (.slice ax (s * s) qx))
    replace G := hid (below_put3 G.out (b := w15.heap.size) (by omega) (.int .i64 (s : Int)) (.int .i64 (s : Int)) (.slice ax (s * s) qx))
    rw [hV] at G Ma Mp Mx Pa Pr Pp
    have lz21 : V21.heap.size = w19.heap.size := by rw [← hV]; simp
    have FIN : Hid (GivesM w s s zx (n * (k + 64) - 64) (.returned (.agg #[.int .i64 (s : Int), .int .i64 (s : Int), .slice ax (s * s) qx])) (put3 V21 (w.heap.size + 1) (.int .i64 (s : Int)) (.int .i64 (s : Int)) (.slice ax (s * s) qx))) := ⟨_, rfl, Mx.out.wk Pr.out _ _ _, below_put3 G.out (by omega) _ _ _⟩
    rw [← EN.out] at FIN
    have PF := hid (Pr.out.put3 (.int .i64 (s : Int)) (.int .i64 (s : Int)) (.slice ax (s * s) qx))
    have cp0 := Pp.out.at (i := 0) rfl
    have cp1 := Pp.out.at (i := 1) rfl
    have cp2 := Pp.out.at (i := 2) rfl
    have cr0 := Pr.out.at (i := 0) rfl
    have cr1 := Pr.out.at (i := 1) rfl
    have cr2 := Pr.out.at (i := 2) rfl
    have fr0 := Pr.out.fz 0
    have fr1 := Pr.out.fz 1
    have fr2 := Pr.out.fz 2
    rw [← hV] at cp0 cp1 cp2 cr0 cr1 cr2 fr0 fr1 fr2
    have EV : Hid (((w19.setCell ⟨w15.heap.size, 0, none⟩ (.int .i64 (s : Int))).setCell ⟨w15.heap.size, 1, none⟩ (.int .i64 (s : Int))).setCell ⟨w15.heap.size, 2, none⟩ (.slice ax (s * s) qx) = V21) := hV
    clear hV
    go_wp2
    rw [EV.out]
    clear EV
    exact bodyPost_ret (mback Try.results43 PF.out _ (by rfl)) rfl FIN.out
theorem power_ok : ∀ N, PowOk N
  | 0 => fun n w v s zs k h => absurd h (Nat.not_lt_zero _)
  | N + 1 => fun n w v s zs k hN h hn hk => by
    match n, hN, hn with
    | 0, _, _ => exact power_zero h
    | 1, _, _ =>
      have e : kpow 1 k = k := by simp [kpow]
      rw [e]
      exact power_one h
    | n + 2, hN, hn => exact power_more h (by omega) hn hk (fun n' w' v' s' zs' k' h1 h2 h3 h4 => power_ok N n' w' v' s' zs' k' (by omega) h2 h3 h4)
theorem power_any {w : World} {v : Value} {s n k : Nat} {zs : List Int} (h : Mx w v s s zs k) (hn : n ≤ 256) (hk : k ≤ 1048576) : Calls Try.prog 43 #[v, .int .i64 (n : Int)] w (GivesM w s s (powL s zs n) (kpow n k)) := power_ok _ n w v s zs k (Nat.lt_succ_self _) h hn hk
set_option maxHeartbeats 3200000 in
set_option maxRecDepth 100000 in
theorem pow_yes {w : World} {v : Value} {s : Nat} {zs : List Int} {k : Nat} {n : Nat} (h : Mx w v s s zs k) (hn : n ≤ 256) (hk : k ≤ 1048576) :
    Calls Try.prog 20 #[v, .int .i64 (n : Int)] w (GivesMO w s s (powL s zs n) (kpow n k)) := by
  have Ma := hid h
  obtain ⟨aa, qa, rfl, s64, -⟩ := h.form
  have HLZ := hid h.len9p
  obtain ⟨W0, hV⟩ : ∃ W0, (w.alloc (matO s s (.slice aa (s * s) qa))).alloc mbox = W0 := ⟨_, rfl⟩
  obtain ⟨b0, sz0⟩ := alloc2 w (matO s s (.slice aa (s * s) qa)) mbox
  rw [hV] at b0 sz0
  obtain ⟨pa, pr⟩ := two_boxes (o1 := matc s s (.slice aa (s * s) qa)) hV
  have Pa := hid pa
  have Pr := hid pr
  replace Ma := hid (Ma.out.now b0)
  have G := hid b0
  have hz : ¬ ((n : Int) < 0) := by omega
  have hz1 : ¬ ((256 : Int) < (n : Int)) := by omega
  clear b0 pa pr h
  have ca0 := Pa.out.at (i := 0) rfl
  have ca1 := Pa.out.at (i := 1) rfl
  have ca2 := Pa.out.at (i := 2) rfl
  rw [← hV] at ca0 ca1 ca2
  have EV := hid hV
  clear hV
  go_enter Try.func20, Try.ntmps20
  go_wp2_with fail
  rw [EV.out]
  clear EV ca0 ca1 ca2
  refine (checkSquare_yes Ma.out).mono ?_
  rintro e w11 ⟨rfl, b⟩
  replace Ma := hid (Ma.out.now b)
  replace Pa := hid (Pa.out.step b)
  replace Pr := hid (Pr.out.step b)
  replace G := hid (below_step G.out b)
  have lz12 := (show Below _ _ _ from b).size
  clear b
  have ca0 := Pa.out.at (i := 0) rfl
  have ca1 := Pa.out.at (i := 1) rfl
  have ca2 := Pa.out.at (i := 2) rfl
  go_wp2_with fail
  clear ca0 ca1 ca2
  refine (power_any Ma.out hn hk).mono ?_
  rintro e w13 ⟨v, rfl, hm, b⟩
  obtain ⟨au, qu, rfl, -, -⟩ := hm.mx.form
  replace Ma := hid (Ma.out.now b)
  replace Pa := hid (Pa.out.step b)
  replace Pr := hid (Pr.out.step b)
  replace G := hid (below_step G.out b)
  have lz14 := (show Below _ _ _ from b).size
  obtain ⟨zu, hz⟩ : ∃ zu, powL s zs n = zu := ⟨_, rfl⟩
  rw [hz] at hm
  have Eu := hid hz
  have Mu := hid hm
  clear hm hz b
  have FIN : Hid (GivesMO w s s zu (kpow n k) (.returned (.tuple #[(.agg #[.int .i64 (s : Int), .int .i64 (s : Int), .slice au (s * s) qu]), .int .i64 0])) (put3 w13 (w.heap.size + 1) (.int .i64 (s : Int)) (.int .i64 (s : Int)) (.slice au (s * s) qu))) := ⟨_, rfl, Mu.out.wk Pr.out _ _ _, below_put3 G.out (by omega) _ _ _⟩
  rw [← Eu.out] at FIN
  have PF := hid (Pr.out.put3 (.int .i64 (s : Int)) (.int .i64 (s : Int)) (.slice au (s * s) qu))
  have cr0 := Pr.out.at (i := 0) rfl
  have cr1 := Pr.out.at (i := 1) rfl
  have cr2 := Pr.out.at (i := 2) rfl
  have fr0 := Pr.out.fz 0
  have fr1 := Pr.out.fz 1
  have fr2 := Pr.out.fz 2
  go_wp2
  exact bodyPost_ret (mback1 Try.results20 PF.out _ (by rfl) (by rfl)) rfl FIN.out
end Go.Proofs.Ytojhmkkjjalonaa
