/-
  QPure9ToDt12: Pure9, Wk9, Turn9, ChkN9, Dt12, joined.
-/
import Derived.Test.YtiedmlfiboalhaaGreatQColsP9ToOpenM9
import Derived.Test.YtiedmlfiboalhaaGreatQRd12

/- Pure9 -/
namespace Go.Proofs.YtiedmlfiboalhaaGreat
set_option linter.unusedVariables false

end Go.Proofs.YtiedmlfiboalhaaGreat

/- Wk9 -/
namespace Go.Proofs.YtiedmlfiboalhaaGreat
open Go.RowKit
set_option linter.unusedVariables false

theorem Mx.wk {w : World} {v : Value} {r c : Nat} {zs : List Int} {k b : Nat} (h : Mx w v r c zs k) {x0 x1 : Int} {a : Option Addr} {l n : Nat} (d : Cel w b 24 [.int .i64 x0, .int .i64 x1, .slice a l n]) (y0 y1 y2 : Value) : Mx (put3 w b y0 y1 y2) v r c zs k := by
  obtain ⟨at_, ps, h1, h2, h3, h4⟩ := h
  refine ⟨at_, ps, h1, ?_, h3.wk (d.wk3 _ _ _), h4⟩
  obtain ⟨a', c', e1, e2, e3, e4, e5⟩ := h2
  refine ⟨a', c', e1, e2, e3, e4, ?_⟩
  rcases e5 with e5 | ⟨b', off, e6, e7, e8, e9⟩
  · exact .inl e5
  · refine .inr ⟨b', off, e6, e7, by simpa using e8, fun j p hp => ?_⟩
    have hne : b ≠ b' := by
      intro e
      subst e
      obtain ⟨n1, a1, l1, c1, q⟩ := h3.isI p (List.mem_of_getElem? hp)
      have q1 := (e9 j p hp).1
      rw [show p.1 = .bool n1 by rw [q]] at q1
      have q2 : w.heap[b]? = some (.cells #[.int .i64 x0, .int .i64 x1, .slice a l n] 24 (0, 0)) := d
      simp only [World.cell?, q2] at q1
      simp at q1
      generalize off + j * 2 = o at q1
      match o, q1 with
      | 0, q1 => simp at q1
      | 1, q1 => simp at q1
      | 2, q1 => simp at q1
      | o + 3, q1 => simp at q1
    have e : ∀ o, (put3 w b y0 y1 y2).cell? ⟨b', o, none⟩ = w.cell? ⟨b', o, none⟩ := fun o => by
      rw [World.cell?_setCell_other _ _ _ _ (by simp <;> omega), World.cell?_setCell_other _ _ _ _ (by simp <;> omega), World.cell?_setCell_other _ _ _ _ (by simp <;> omega)]
    rw [e, e]
    exact e9 j p hp
end Go.Proofs.YtiedmlfiboalhaaGreat

/- Turn9 -/
namespace Go.Proofs.YtiedmlfiboalhaaGreat
open Go.RowKit
set_option linter.unusedVariables false

theorem Zis.append {w : World} {ps qs : List (Value × Value)} {zs ys : List Int} {k : Nat} (h : Zis w ps zs k) (h' : Zis w qs ys k) : Zis w (ps ++ qs) (zs ++ ys) k := by
  refine ⟨by simp [h.1, h'.1], fun j p z hp hz => ?_⟩
  by_cases q : j < ps.length
  · rw [List.getElem?_append_left q] at hp
    rw [List.getElem?_append_left (by rw [← h.1]; exact q)] at hz
    exact h.2 j p z hp hz
  · rw [List.getElem?_append_right (by omega)] at hp
    rw [List.getElem?_append_right (by rw [← h.1]; omega), ← h.1] at hz
    exact h'.2 _ p z hp hz
theorem Ziss.flat {w : World} {k : Nat} : ∀ {pss : List (List (Value × Value))} {zss : List (List Int)}, Ziss w pss zss k → Zis w pss.flatten zss.flatten k
  | [], [], _ => ⟨rfl, fun j p z hp => by simp at hp⟩
  | [], z :: zss, h => by have := h.1; simp at this
  | p :: pss, [], h => by have := h.1; simp at this
  | p :: pss, z :: zss, h => by
    have h1 := h.2 0 p rfl
    have h2 : Ziss w pss zss k := ⟨by have := h.1; simpa using this, fun j ps hp => by simpa using h.2 (j + 1) ps (by simpa using hp)⟩
    simpa using Zis.append h1 (Ziss.flat h2)
end Go.Proofs.YtiedmlfiboalhaaGreat

/- ChkN9 -/
namespace Go.Proofs.YtiedmlfiboalhaaGreat
open Go.RowKit
set_option linter.unusedVariables false

end Go.Proofs.YtiedmlfiboalhaaGreat

/- Dt12 -/
namespace Go.Proofs.YtiedmlfiboalhaaGreat
open Go.RowKit
set_option linter.unusedVariables false

abbrev mrV (r c : Int) (a : Option Addr) (l cap : Nat) : Value := .agg #[.int .i64 r, .int .i64 c, .slice a l cap]
abbrev mrO (r c : Int) (a : Option Addr) (l cap : Nat) : Obj := .cells #[.int .i64 r, .int .i64 c, .slice a l cap] 24
abbrev mrC (r c : Int) (a : Option Addr) (l cap : Nat) : List Value := [.int .i64 r, .int .i64 c, .slice a l cap]
set_option maxHeartbeats 800000 in
set_option maxRecDepth 100000 in
theorem isSquare12 {w : World} {r c : Int} {a : Option Addr} {l cap : Nat} : Calls Tryz.prog 24 #[mrV r c a l cap] w fun e w' => e = .returned (.bool (r == c)) ∧ Below w.heap.size w w' := by
  obtain ⟨W0, hW⟩ : ∃ W0, w.alloc (mrO r c a l cap) = W0 := ⟨_, rfl⟩
  obtain ⟨b0, sz0⟩ := alo12 w (mrO r c a l cap)
  rw [hW] at b0 sz0
  have P1 : Hid (Cel W0 w.heap.size 24 (mrC r c a l cap)) := by unfold Hid; rw [← hW]; exact Cel.new w _ _
  have x0 := P1.out.at (i := 0) rfl
  have x1 := P1.out.at (i := 1) rfl
  rw [← hW] at x0 x1
  have G0 := hid b0
  have EW := hid hW
  clear b0 sz0 hW P1
  go_enter Tryz.func24, Tryz.ntmps24
  go_wp2
  go_ret
  exact ⟨rfl, by rw [EW.out]; exact G0.out⟩
/-- A modulus that is a prime below 2^31. -/
def gdB (p : Nat) : Bool := decide (p < 2147483648) && prB p
/-- What fault answers. -/
def faultE (s f : Bool) (p : Nat) : Int := if s = false then 1 else if f = false then 2 else if gdB p = false then 9 else 0
set_option maxHeartbeats 1600000 in
set_option maxRecDepth 100000 in
theorem fault12 {w : World} {r c : Int} {a : Option Addr} {l cap p : Nat} {s f : Bool} (hc : ∀ w', Below w.heap.size w w' → Calls Tryz.prog 39 #[mrV r c a l cap] w' fun e w'' => e = .returned (.int .i64 (if s = true then 0 else 1)) ∧ Below w'.heap.size w' w'') :
    Calls Tryz.prog 23 #[mrV r c a l cap, .bool f, .int .u64 (p : Int)] w fun e w' => e = .returned (.int .i64 (faultE s f p)) ∧ Below w.heap.size w w' := by
  obtain ⟨W0, hW⟩ : ∃ W0, w.alloc (mrO r c a l cap) = W0 := ⟨_, rfl⟩
  obtain ⟨b0, sz0⟩ := alo12 w (mrO r c a l cap)
  rw [hW] at b0 sz0
  have P1 : Hid (Cel W0 w.heap.size 24 (mrC r c a l cap)) := by unfold Hid; rw [← hW]; exact Cel.new w _ _
  have x0 := P1.out.at (i := 0) rfl
  have x1 := P1.out.at (i := 1) rfl
  have x2 := P1.out.at (i := 2) rfl
  rw [← hW] at x0 x1 x2
  have HC := hid (hc W0 b0)
  have G0 := hid b0
  have EW := hid hW
  have HF : Hid (∀ s f p, faultE s f p = if s = false then 1 else if f = false then 2 else if gdB p = false then 9 else 0) := fun _ _ _ => rfl
  obtain ⟨E, hE⟩ : ∃ E, faultE s f p = E := ⟨_, rfl⟩
  rw [hE]
  have HE := hid hE
  clear b0 sz0 hW P1 hc hE
  rcases Bool.eq_false_or_eq_true s with hs | hs
  · subst hs
    rcases Bool.eq_false_or_eq_true f with hf | hf
    · subst hf
      by_cases hp : p < 2147483648
      · have hp1 : ¬ (2147483648 : Int) ≤ (p : Int) := by omega
        go_enter Tryz.func23, Tryz.ntmps23
        go_wp2_with fail
        rw [EW.out]
        refine HC.out.mono ?_
        rintro e w1 ⟨rfl, b1⟩
        have G1 := hid (below_step G0.out b1)
        have HP := hid (isPrime_any (w := w1) hp)
        obtain ⟨q, hq⟩ : ∃ q, prB p = q := ⟨_, rfl⟩
        have HQ := hid hq
        rw [hq] at HP
        clear HC b1 hq
        go_wp2_with fail
        refine HP.out.mono ?_
        rintro e w2 ⟨rfl, hw2⟩
        have hw2' := hw2.symm
        subst hw2'
        clear hw2 HP
        have h1 := HE.out
        have h2 : gdB p = q := by unfold gdB; rw [HQ.out]; simp [hp]
        rw [HF.out, h2] at h1
        have HE1 := hid h1
        have hd1 : decide ((2147483648 : Int) ≤ (p : Int)) = false := decide_eq_false (by omega)
        clear h1 h2 hp
        rcases Bool.eq_false_or_eq_true q with hq | hq
        · subst hq
          go_wp2
          go_ret
          exact ⟨by rw [← HE1.out]; rfl, G1.out⟩
        · subst hq
          go_wp2
          go_ret
          exact ⟨by rw [← HE1.out]; rfl, G1.out⟩
      · have hp1 : (2147483648 : Int) ≤ (p : Int) := by omega
        go_enter Tryz.func23, Tryz.ntmps23
        go_wp2_with fail
        rw [EW.out]
        refine HC.out.mono ?_
        rintro e w1 ⟨rfl, b1⟩
        have G1 := hid (below_step G0.out b1)
        have h1 := HE.out
        have h2 : gdB p = false := by unfold gdB; simp [hp]
        rw [HF.out, h2] at h1
        have HE1 := hid h1
        clear HC b1 h1 h2
        go_wp2
        go_ret
        exact ⟨by rw [← HE1.out]; rfl, G1.out⟩
    · subst hf
      go_enter Tryz.func23, Tryz.ntmps23
      go_wp2_with fail
      rw [EW.out]
      refine HC.out.mono ?_
      rintro e w1 ⟨rfl, b1⟩
      have G1 := hid (below_step G0.out b1)
      have h1 := HE.out
      rw [HF.out] at h1
      have HE1 := hid h1
      clear HC b1 h1
      go_wp2
      go_ret
      exact ⟨by rw [← HE1.out]; rfl, G1.out⟩
  · subst hs
    go_enter Tryz.func23, Tryz.ntmps23
    go_wp2_with fail
    rw [EW.out]
    refine HC.out.mono ?_
    rintro e w1 ⟨rfl, b1⟩
    have G1 := hid (below_step G0.out b1)
    have h1 := HE.out
    rw [HF.out] at h1
    have HE1 := hid h1
    clear HC b1 h1
    go_wp2
    go_ret
    exact ⟨by rw [← HE1.out]; rfl, G1.out⟩
theorem Mx.chk {w : World} {v : Value} {r c : Nat} {zs : List Int} {K : Nat} (h : Mx w v r c zs K) : ∀ w', Below w.heap.size w w' → Calls Tryz.prog 39 #[v] w' fun e w'' => e = .returned (.int .i64 (if true = true then 0 else 1)) ∧ Below w'.heap.size w' w'' := fun w' hb => check_yes (h.now hb)
/-- The determinant, as the program makes it. -/
def detN (p r : Nat) (zs : List Int) : Int := if (red12 p (linesL p r r zs) r).pv.length < r then 0 else (red12 p (linesL p r r zs) r).f
def Det12 (w : World) (d E : Int) (e : Ending) (w' : World) : Prop := e = .returned (.tuple #[.int .u64 d, .int .i64 E]) ∧ Below w.heap.size w w'
set_option maxHeartbeats 3200000 in
set_option maxRecDepth 100000 in
theorem det12 {w : World} {v : Value} {p r : Nat} {zs : List Int} {K : Nat} (hp : gdB p = true) (h : Mx w v r r zs K) (hK : K ≤ 1099511627775) : Calls Tryz.prog 9 #[v, .int .u64 (p : Int)] w (Det12 w (detN p r zs) 0) := by
  have hgd := hp
  unfold gdB at hgd
  rw [Bool.and_eq_true, decide_eq_true_eq, prB_iff] at hgd
  obtain ⟨hp2, hpr⟩ := hgd
  have hp1 := hpr.1
  have hm0 := h
  obtain ⟨a, cap, rfl, hr, -⟩ := h.form
  obtain ⟨n, hn⟩ : ∃ n, r * r = n := ⟨_, rfl⟩
  rw [hn] at hm0 ⊢
  have hl : zs.length = r * r := by obtain ⟨_, _, _, _, _, q, _⟩ := hm0; exact q
  obtain ⟨W0, hW⟩ : ∃ W0, w.alloc (mrO (r : Int) (r : Int) a n cap) = W0 := ⟨_, rfl⟩
  obtain ⟨b0, sz0⟩ := alo12 w (mrO (r : Int) (r : Int) a n cap)
  rw [hW] at b0 sz0
  have P1 : Hid (Cel W0 w.heap.size 24 (mrC (r : Int) (r : Int) a n cap)) := by unfold Hid; rw [← hW]; exact Cel.new w _ _
  have x0 := P1.out.at (i := 0) rfl
  have x1 := P1.out.at (i := 1) rfl
  have x2 := P1.out.at (i := 2) rfl
  have MX := hid (hm0.now b0)
  have G0 := hid b0
  have EW := hid hW
  have HKK := hid hK
  obtain ⟨LL, hLL⟩ : ∃ LL, linesL p r r zs = LL := ⟨_, rfl⟩
  obtain ⟨S, hS⟩ : ∃ S, red12 p LL r = S := ⟨_, rfl⟩
  have HD : Hid (detN p r zs = if S.pv.length < r then 0 else S.f) := by unfold Hid detN; rw [hLL, hS]
  have HLL := hid hLL
  have HSS := hid hS
  have HRS : Hid (ResM p LL) := by unfold Hid; rw [← hLL]; exact linesL_res (by omega)
  have HLN : Hid (LL.length = r) := by unfold Hid; rw [← hLL]; exact linesL_len _ _ _ _
  obtain ⟨d, hd⟩ : ∃ d, detN p r zs = d := ⟨_, rfl⟩
  rw [hd] at HD ⊢
  have HGD := hid hp
  have NMZ : Hid (0 = faultE true true p) := by unfold Hid faultE; rw [HGD.out]; rfl
  clear b0 sz0 hW h hm0 hK hLL hS hd hl hn hpr hp
  go_enter Tryz.func9, Tryz.ntmps9
  go_wp2_with fail
  rw [EW.out]
  clear EW
  have KB : Hid (∀ w', Below W0.heap.size W0 w' → w'.cell? ⟨w.heap.size, 0, none⟩ = some (.int .i64 (r : Int)) ∧ w'.cell? ⟨w.heap.size, 1, none⟩ = some (.int .i64 (r : Int)) ∧ w'.cell? ⟨w.heap.size, 2, none⟩ = some (.slice a n cap)) := fun w' h => ⟨cnow h x0, cnow h x1, cnow h x2⟩
  refine wp_region_tail (fun w' => w'.cell? ⟨w.heap.size, 0, none⟩ = some (.int .i64 (r : Int)) ∧ w'.cell? ⟨w.heap.size, 1, none⟩ = some (.int .i64 (r : Int)) ∧ w'.cell? ⟨w.heap.size, 2, none⟩ = some (.slice a n cap)) 5 (by kernel_rfl) ?_
  obtain ⟨D1, hD⟩ : ∃ D1, W0.drew = D1 := ⟨_, rfl⟩
  have GB : Hid (Below W0.heap.size W0 D1) := by unfold Hid; rw [← hD]; exact (Below.refl _ _).drew
  rw [hD]
  clear hD
  refine wpAnyT_take (i := 0) (oi := { dst := some 9, op := Op.load 24 (Operand.tmp 2), type := 24, pos := "modp.go:21", after := #[], guard := none }) (v := (.agg #[.int .i64 (r : Int), .int .i64 (r : Int), .slice a n cap])) rfl (by kernel_rfl) (fun _ _ _ h => h) (Or.inl ⟨by rfl, ?_⟩) (KB.out _ GB.out) ?_
  · intro w hSw
    (try dsimp only at hSw)
    go_simp
  simp only [Act.put, List.setIfInBounds_toArray, List.set_cons_zero, List.set_cons_succ]
  refine wpAnyT_take (i := 1) (oi := { dst := some 10, op := Op.load 24 (Operand.tmp 2), type := 24, pos := "modp.go:21", after := #[], guard := none }) (v := (.agg #[.int .i64 (r : Int), .int .i64 (r : Int), .slice a n cap])) rfl (by kernel_rfl) (fun _ _ _ h => h) (Or.inl ⟨by rfl, ?_⟩) (KB.out _ GB.out) ?_
  · intro w hSw
    (try dsimp only at hSw)
    go_simp
  simp only [Act.put, List.setIfInBounds_toArray, List.set_cons_zero, List.set_cons_succ]
  refine wpAnyT_take (i := 3) (oi := { dst := some 12, op := Op.move (Operand.tmp 1), type := 25, pos := "modp.go:21", after := #[], guard := none }) (v := (.int .u64 (p : Int))) rfl (by kernel_rfl) (fun _ _ _ h => h) (Or.inl ⟨by rfl, ?_⟩) (KB.out _ GB.out) ?_
  · intro w hSw
    (try dsimp only at hSw)
    go_simp
  simp only [Act.put, List.setIfInBounds_toArray, List.set_cons_zero, List.set_cons_succ]
  refine wpAnyT_one (i := 2) (o := { dst := some 11, op := Op.call { callee := Callee.value (Operand.func 24), args := #[Operand.tmp 10], argTypes := #[24] }, type := 4, pos := "modp.go:21", after := #[{ on := 1, ground := Ground.data }], guard := none }) (by kernel_rfl) rfl (fun K hK => ?_)
  go_simp
  go_at_call 24
  refine (isSquare12).mono ?_
  rintro e w2 ⟨rfl, b⟩
  have lz2 := (show Below _ _ _ from b).size
  replace GB := hid (below_step GB.out b)
  have hbq : ((r : Int) == (r : Int)) = true := by simp
  rw [hbq]
  clear b
  refine hK.out _ _ (fun _ => KB.out _ GB.out) ?_
  clear hK
  refine wpAnyT_one (i := 4) (o := { dst := some 13, op := Op.call { callee := Callee.value (Operand.func 23), args := #[Operand.tmp 9, Operand.tmp 11, Operand.tmp 12], argTypes := #[24, 4, 25] }, type := 29, pos := "modp.go:21", after := #[{ on := 0, ground := Ground.data }, { on := 2, ground := Ground.data }, { on := 3, ground := Ground.data }, { on := 2, ground := Ground.chain }], guard := none }) (by kernel_rfl) rfl (fun K hK => ?_)
  go_simp
  go_at_call 23
  refine (fault12 (s := true) (f := true) (p := p) (MX.out.now GB.out).chk).mono ?_
  rintro e w3 ⟨rfl, b⟩
  have lz3 := (show Below _ _ _ from b).size
  replace GB := hid (below_step GB.out b)
  rw [← NMZ.out]
  clear b
  refine hK.out _ _ (fun _ => KB.out _ GB.out) ?_
  clear hK
  refine wpAnyT_one (i := 5) (o := { dst := some 6, op := Op.assign (Operand.tmp 13), type := 29, pos := "modp.go:21", after := #[{ on := 4, ground := Ground.data }, { on := 4, ground := Ground.chain }, { on := 0, ground := Ground.phase }, { on := 1, ground := Ground.phase }, { on := 2, ground := Ground.phase }, { on := 3, ground := Ground.phase }, { on := 4, ground := Ground.phase }], guard := none }) (by kernel_rfl) rfl (fun K hK => ?_)
  go_simp
  refine hK.out _ _ (fun h => absurd h (by decide)) ?_
  clear hK
  try simp only [Act.put]
  refine wpAnyT_done (by kernel_rfl) ?_ _
  have x0' := cnow GB.out x0
  have x1' := cnow GB.out x1
  have x2' := cnow GB.out x2
  have G1 := hid (below_step G0.out GB.out)
  have HSH := hid (sheetOf12 hp1 hp2 (MX.out.now GB.out) HKK.out)
  rw [HLL.out] at HSH
  replace P1 := hid (P1.out.step GB.out)
  have HVL := hid P1.out.blk
  clear x0 x1 x2 GB KB G0 MX
  go_wp2_with fail
  refine HSH.out.mono ?_
  rintro e w8 ⟨lv, gs, rfl, hln, b8⟩
  have HRD := hid (reduce12 hp1 hp2 hln HRS.out HLN.out hr (by omega) b8.size)
  replace P1 := hid (P1.out.step b8)
  have GR := hid (below_step G1.out b8)
  have LE8 := hid b8.size
  obtain ⟨la, lcap, rfl, -, -⟩ := hln.form
  clear HSH x0' x1' x2' hln b8 G1
  go_wp2_with fail
  refine HRD.out.mono ?_
  rintro e w9 ⟨pvv, gs9, rfl, hpv, hln9, b9⟩
  rw [HSS.out] at hpv ⊢
  obtain ⟨pa, pcap, rfl, -⟩ := hpv.form
  have G9 : Hid (Below w.heap.size w w9) := by
    unfold Hid
    exact GR.out.trans (b9.1.mono (Nat.le_of_lt HVL.out))
  have y0 := (b9.1.cell (p := ⟨w.heap.size, 0, none⟩) HVL.out).trans (P1.out.at (i := 0) rfl)
  clear HRD hpv hln9 b9 GR LE8 P1
  generalize S.pv.length = k at *
  generalize S.f = f at *
  by_cases hk : k < r
  · have hk' : (k : Int) < (r : Int) := by omega
    have h1 := HD.out
    rw [if_pos hk] at h1
    subst h1
    clear HD
    go_wp2
    go_ret2
    exact ⟨rfl, G9.out⟩
  · have hk' : ¬ (k : Int) < (r : Int) := by omega
    have h1 := HD.out
    rw [if_neg hk] at h1
    subst h1
    clear HD
    go_wp2
    go_ret2
    exact ⟨rfl, G9.out⟩
end Go.Proofs.YtiedmlfiboalhaaGreat
