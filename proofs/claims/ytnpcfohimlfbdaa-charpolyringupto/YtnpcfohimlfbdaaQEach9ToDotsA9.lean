/-
  QEach9ToDotsA9: Each9, DotsA9, joined.
-/
import Derived.Test.YtnpcfohimlfbdaaQCat9

/- Each9 -/
namespace Go.Proofs.Ytnpcfohimlfbdaa
open Go.RowKit
set_option linter.unusedVariables false

abbrev mbox : Obj := .cells #[.int .i64 0, .int .i64 0, .slice none 0 0] 39
def Matted (w : World) (r c : Nat) (ps : List (Value × Value)) (e : Ending) (w' : World) : Prop := ∃ at_, e = .returned (matv r c at_) ∧ Prs w.heap.size w' at_ ps ∧ Below w.heap.size w w'
theorem mbox_new {w W0 : World} (hW : w.alloc mbox = W0) : Cel W0 w.heap.size 39 [.int .i64 0, .int .i64 0, .slice none 0 0] := by rw [← hW]; exact Cel.new w _ _
set_option maxHeartbeats 1600000 in
set_option maxRecDepth 100000 in
theorem ofRows_any {w : World} {B m C R : Nat} {v : Value} {pss : List (List (Value × Value))} (hv : Prr B w v pss) (hm : Same9 m pss) (hl : pss.length * m ≤ 1048576) (hm1 : m ≤ 1048576) (hR : pss.length = R) :
    Calls Try.prog 72 #[v, .int .i64 (C : Int)] w (Matted w R C pss.flatten) := by
  obtain ⟨W0, hW⟩ : ∃ W0, w.alloc mbox = W0 := ⟨_, rfl⟩
  obtain ⟨b0, sz0⟩ := alo1 w mbox
  rw [hW] at b0 sz0
  have P4 := hid (mbox_new hW)
  have HC := hid (concat_any (hv.now b0) hm hl hm1)
  obtain ⟨a0, c0, rfl, hc0, hn0, hf0⟩ := hv.form
  rw [hR] at HC hc0 hn0 ⊢
  generalize pss.flatten = FT at *
  have G0 := hid b0
  have EW := hid hW
  have SZ := hid sz0
  clear b0 hW sz0 hv hm hf0 hR hl
  go_enter Try.func72, Try.ntmps72
  go_wp2_with fail
  rw [EW.out]
  refine HC.out.mono ?_
  rintro e w1 ⟨u, rfl, p1, b⟩
  obtain ⟨au, cu, rfl, -, -, -, -⟩ := p1.form
  have P41 := hid (P4.out.step b)
  have G1 := hid (below_step G0.out b)
  have HP := hid p1
  have r0 := P41.out.at (i := 0) rfl
  have r1 := P41.out.at (i := 1) rfl
  have r2 := P41.out.at (i := 2) rfl
  have f0 := P41.out.fz 0
  have f1 := P41.out.fz 1
  have f2 := P41.out.fz 2
  have HB : Hid (w.heap.size < W0.heap.size) := by unfold Hid; rw [SZ.out]; omega
  have FIN : Hid (Matted w R C FT (.returned (.agg #[.int .i64 (R : Int), .int .i64 (C : Int), .slice au FT.length cu])) (put3 w1 w.heap.size (.int .i64 (R : Int)) (.int .i64 (C : Int)) (.slice au FT.length cu))) := ⟨_, rfl, (HP.out.put3 HB.out _ _ _).mono (Nat.le_of_lt HB.out), below_put3 G1.out (Nat.le_refl _) _ _ _⟩
  have PF := hid (P41.out.put3 (.int .i64 (R : Int)) (.int .i64 (C : Int)) (.slice au FT.length cu))
  clear HC P4 G0 EW p1 b SZ HP G1 P41
  go_wp2
  exact bodyPost_ret (mback Try.results72 PF.out _ (by rfl)) rfl FIN.out
end Go.Proofs.Ytnpcfohimlfbdaa

/- DotsA9 -/
namespace Go.Proofs.Ytnpcfohimlfbdaa
open Go.RowKit
set_option linter.unusedVariables false

set_option maxHeartbeats 400000 in
set_option maxRecDepth 100000 in
theorem dots1_any {w : World} {xv cv : Value} {pb k l : Nat} {xs ys : List Int} (hp : w.cell? ⟨pb, 0, none⟩ = some xv) (hx : Zl w xv xs k) (hc : Zl w cv ys l) (he : ys.length = xs.length) (hk : k + l + xs.length < 35184372088832) :
    Calls Try.prog 84 #[cv, .pointer (some ⟨pb, 0, none⟩)] w (GivesZ w (dotv xs ys) (k + l + xs.length)) := by
  obtain ⟨W0, hW⟩ : ∃ W0, w.alloc zbox = W0 := ⟨_, rfl⟩
  obtain ⟨b0, sz0⟩ := alo1 w zbox
  rw [hW] at b0 sz0
  have P3 : Hid (Duo W0 w.heap.size (.bool false) (.slice none 0 0)) := by unfold Hid; rw [← hW]; exact Duo.new w _ _
  have HD := hid (dot_any (hx.now b0) (hc.now b0) he hk)
  have k0 : (w.alloc zbox).cell? ⟨pb, 0, none⟩ = some xv := by rw [hW]; exact cnow b0 hp
  obtain ⟨a0, c0, rfl, -, -, -⟩ := hx.form9
  obtain ⟨a1, c1, rfl, -, -, -⟩ := hc.form9
  have G0 := hid b0
  have EW := hid hW
  have SZ := hid sz0
  clear b0 hW sz0 hx hc hp hk he
  generalize dotv xs ys = dd at *
  generalize k + l + xs.length = kk at *
  go_enter Try.func84, Try.ntmps84
  go_wp2_with fail
  rw [EW.out]
  refine HD.out.mono ?_
  rintro e w1 ⟨r, rfl, m1, b⟩
  obtain ⟨nr, xr, ar, cr, rfl⟩ := m1.parts
  obtain ⟨V1, hV⟩ : ∃ V1, w1.alloc (duo (.bool nr) (.slice ar xr.length cr)) = V1 := ⟨_, rfl⟩
  obtain ⟨b1, sz1⟩ := alo1 w1 (duo (.bool nr) (.slice ar xr.length cr))
  rw [hV] at b1 sz1
  have P4 : Hid (Duo V1 w1.heap.size (.bool nr) (.slice ar xr.length cr)) := by unfold Hid; rw [← hV]; exact Duo.new w1 _ _
  have P31 := hid ((P3.out.step b).step b1)
  have G1 := hid (below_step (below_step G0.out b) b1)
  have HM := hid (m1.now b1)
  have HB : Hid (w.heap.size < W0.heap.size) := by unfold Hid; rw [SZ.out]; omega
  have r0 := P31.out.c0
  have r1 := P31.out.c1
  have f0 := P31.out.fz 0
  have f1 := P31.out.fz 1
  have s0 := P4.out.c0
  have s1 := P4.out.c1
  rw [← hV] at r0 r1 f0 f1 s0 s1
  have EV := hid hV
  clear HD P3 G0 EW m1 b b1 SZ hV sz1 k0
  go_wp2
  rw [EV.out]
  exact bodyPost_ret (zback Try.results84 (P31.out.set _ _) _ (by rfl)) rfl ⟨_, rfl, (HM.out.mono (Nat.le_of_lt HB.out)).box P31.out _ _, bset (bset G1.out (Nat.le_refl _)) (Nat.le_refl _)⟩

abbrev fnDots (pb : Nat) : Value := .func (.func 84) #[] #[.pointer (some ⟨pb, 0, none⟩)]
def EachH (w : World) (g n : Nat) (F : Nat → Int) (k gk : Nat) (s : Value) (wx : World) : Prop :=
  ∃ i : Nat, s = .int .i64 (i : Int) ∧ i ≤ n ∧ gk = n - i ∧ Fil wx g n i F k ∧ Below w.heap.size w wx
def Listed (w : World) (zs : List Int) (k : Nat) (e : Ending) (w' : World) : Prop := ∃ u ps, e = .returned u ∧ Prs w.heap.size w' u ps ∧ Zcs w' ps zs k ∧ Below w.heap.size w w'
/-- A list of lists of integers. -/
def Ziss (w : World) (pss : List (List (Value × Value))) (zss : List (List Int)) (k : Nat) : Prop := pss.length = zss.length ∧ ∀ (j : Nat) (ps : List (Value × Value)), pss[j]? = some ps → Zis w ps (zss.getD j []) k
theorem Ziss.now {w w' : World} {pss : List (List (Value × Value))} {zss : List (List Int)} {k : Nat} (h : Ziss w pss zss k) (hb : Below w.heap.size w w') : Ziss w' pss zss k := ⟨h.1, fun j ps hp => (h.2 j ps hp).now hb⟩
end Go.Proofs.Ytnpcfohimlfbdaa
