/-
  Pa16: charpoly.Mul as a list; charpoly.paired.
-/
import Derived.Test.YtnpcfohimlfbdaaQTa16
import Derived.Test.YtnpcfohimlfbdaaQPv16
namespace Go.Proofs.Ytnpcfohimlfbdaa
open Go.RowKit
set_option linter.unusedVariables false
set_option linter.unusedSimpArgs false

theorem mulP_len16 {P Q : List Int} : (mulP P Q).length ≤ P.length + Q.length - 1 := by
  simp [mulP, coL]
theorem pmulL_any {w : World} {a0 a1 : Option Addr} {l0 l1 c0 c1 kp kq : Nat} {ps qs : List Int} (hp : Zl w (.slice a0 l0 c0) ps kp) (hq : Zl w (.slice a1 l1 c1) qs kq) (hk : kp + kq + 1 < 35184372088831) (hl : sgl ps + sgl qs ≤ 1048577) :
    Calls Try.prog 13 #[.slice a0 l0 c0, .slice a1 l1 c1] w (GivesL w (mulQ ps qs) (kp + kq + 1)) := by
  refine (pmul_any hp hq hk hl).mono ?_
  rintro e w' (⟨h1, rfl, b⟩ | ⟨h1, h2, g, rfl, hg, hz, b, -⟩)
  · have e : mulQ ps qs = [] := by unfold mulQ; rw [if_pos (show tr ps = [] ∨ tr qs = [] from h1)]
    rw [e]
    exact ⟨_, rfl, Zlc.nil _ _, b⟩
  · have e : mulQ ps qs = mulP (ps.take (sgl ps)) (qs.take (sgl qs)) := by unfold mulQ; rw [if_neg (show ¬ (tr ps = [] ∨ tr qs = []) from fun h => h.elim h1 h2)]; rfl
    have hle := mulP_len16 (P := ps.take (sgl ps)) (Q := qs.take (sgl qs))
    have l1 : (ps.take (sgl ps)).length ≤ sgl ps := List.length_take_le _ _
    have l2 : (qs.take (sgl qs)).length ≤ sgl qs := List.length_take_le _ _
    rw [e]
    refine ⟨_, rfl, ?_, b⟩
    have := hz.zlc (m := (mulP (ps.take (sgl ps)) (qs.take (sgl qs))).length) (Nat.le_refl _) (Nat.le_refl _) (by omega)
    rw [List.take_length] at this
    exact this
theorem Zi.parts16 {w : World} {v : Value} {z : Int} {k : Nat} (h : Zi w v z k) : ∃ n, ∃ xs : List Int, ∃ a c, v = .agg #[.bool n, .slice a xs.length c] := by
  obtain ⟨n, xs, a, c, e, -⟩ := h
  exact ⟨n, xs, a, c, e⟩
/-- An array that a loop fills with integers in whatever form. -/
def FilJ (wx : World) (g n i : Nat) (F : Nat → Int) (k : Nat) : Prop := ∃ ps, Arr wx g ps ∧ ps.length = n ∧ ∀ (j : Nat) (p : Value × Value), j < i → ps[j]? = some p → Zi wx (.agg #[p.1, p.2]) (F j) k
theorem FilJ.start {w : World} {g n : Nat} (h : Arr w g (List.replicate n zpair)) (F : Nat → Int) (k : Nat) : FilJ w g n 0 F k := ⟨_, h, by simp, fun j p hj => by omega⟩
theorem FilJ.step {w w' : World} {g n i : Nat} {F : Nat → Int} {k : Nat} (h : FilJ w g n i F k) (hb : Below w.heap.size w w') : FilJ w' g n i F k := by
  obtain ⟨ps, h1, h2, h3⟩ := h
  exact ⟨ps, h1.step hb, h2, fun j p hj hp => (h3 j p hj hp).now hb⟩
theorem FilJ.put {w : World} {g n i : Nat} {F : Nat → Int} {k : Nat} {x y : Value} (h : FilJ w g n i F k) (hi : i < n) (hz : Zi w (.agg #[x, y]) (F i) k) : FilJ ((w.setCell ⟨g, i * 2, none⟩ x).setCell ⟨g, i * 2 + 1, none⟩ y) g n (i + 1) F k := by
  obtain ⟨ps, h1, h2, h3⟩ := h
  have hw := h1.wk (i := i) (by omega) x y
  refine ⟨ps.set i (x, y), h1.put (by omega) hz.isI, by simpa using h2, fun j p hj hp => ?_⟩
  by_cases q : j = i
  · subst q
    rw [List.getElem?_set_self (by omega), Option.some.injEq] at hp
    subst hp
    exact hz.wk hw
  · rw [List.getElem?_set_ne (by omega)] at hp
    exact (h3 j p (by omega) hp).wk hw
theorem FilJ.cells {w : World} {g n i j : Nat} {F : Nat → Int} {k : Nat} (h : FilJ w g n i F k) (hj : j < n) : ∃ m a l c, w.cell? ⟨g, j * 2, none⟩ = some (.bool m) ∧ w.cell? ⟨g, j * 2 + 1, none⟩ = some (.slice a l c) ∧ w.frozen? ⟨g, j * 2, none⟩ = false ∧ w.frozen? ⟨g, j * 2 + 1, none⟩ = false := by
  obtain ⟨ps, h1, h2, h3⟩ := h
  have hp : ps[j]? = some (ps[j]'(by omega)) := List.getElem?_eq_getElem (by omega)
  obtain ⟨m, a, l, c, e⟩ := h1.2 _ (List.getElem_mem (l := ps) (n := j) (by omega))
  have q := h1.at hp
  rw [e] at q
  exact ⟨m, a, l, c, q.1, q.2, h1.1.fz _, h1.1.fz _⟩
/-- An array of integers in whatever form. -/
def ArI (w : World) (g : Nat) (zs : List Int) (k : Nat) : Prop := ∃ ps, Arr w g ps ∧ Zis w ps zs k
theorem ArI.step {w w' : World} {g k : Nat} {zs : List Int} (h : ArI w g zs k) (hb : Below w.heap.size w w') : ArI w' g zs k := by
  obtain ⟨ps, h1, h2, h3⟩ := h
  exact ⟨ps, h1.step hb, h2, fun j p z hp hz => (h3 j p z hp hz).now hb⟩
theorem ArI.zl {w : World} {g k : Nat} {zs : List Int} (h : ArI w g zs k) (hn : zs.length ≤ 1048576) {n : Nat} (hl : zs.length = n) : Zl w (.slice (some ⟨g, 0, none⟩) n n) zs k := by
  obtain ⟨ps, h1, h2⟩ := h
  have e : ps.length = n := h2.1.trans hl
  have := h1.prs (Nat.zero_le g) (by omega) (Nat.le_refl _)
  rw [e] at this
  exact zl_of this h2
theorem ArI.ne {w w' : World} {g k : Nat} {zs : List Int} (h : ArI w g zs k) (hw : Wk w w') (hg : w'.heap[g]? = w.heap[g]?) : ArI w' g zs k := by
  obtain ⟨ps, h1, h2, h3⟩ := h
  exact ⟨ps, ⟨hg.trans h1.1, h1.2⟩, h2, fun j p z hp hz => (h3 j p z hp hz).wk hw⟩
/-- What a call answers that gives an array of its own, its integers in whatever form. -/
def GivesR (w : World) (n : Nat) (zs : List Int) (k : Nat) (e : Ending) (w' : World) : Prop := ∃ g, e = .returned (.slice (some ⟨g, 0, none⟩) n n) ∧ w.heap.size ≤ g ∧ ArI w' g zs k ∧ Below w.heap.size w w'
theorem FilJ.doneI {w : World} {g n : Nat} {F : Nat → Int} {k : Nat} (h : FilJ w g n n F k) : ArI w g ((List.range n).map F) k := by
  obtain ⟨ps, h1, rfl, h3⟩ := h
  refine ⟨ps, h1, by simp, fun j p z hp hz => ?_⟩
  have hj : j < ps.length := (List.getElem?_eq_some_iff.1 hp).1
  rw [List.getElem?_map, List.getElem?_range hj, Option.map_some, Option.some.injEq] at hz
  subst hz
  exact h3 j p hj hp
theorem FilJ.over {w : World} {g n i : Nat} {F : Nat → Int} {k : Nat} {x y : Value} {z : Int} (h : FilJ w g n i F k) (hi : i < n) (hz : Zi w (.agg #[x, y]) z k) : FilJ ((w.setCell ⟨g, i * 2, none⟩ x).setCell ⟨g, i * 2 + 1, none⟩ y) g n i F k := by
  obtain ⟨ps, h1, h2, h3⟩ := h
  have q : FilJ w g n i (fun j => if j = i then z else F j) k := ⟨ps, h1, h2, fun j p hj hp => by
    show Zi w _ (if j = i then z else F j) k
    rw [if_neg (by omega)]; exact h3 j p hj hp⟩
  obtain ⟨ps', h1', h2', h3'⟩ := q.put hi (x := x) (y := y) (by show Zi w _ (if i = i then z else F i) k; rw [if_pos rfl]; exact hz)
  refine ⟨ps', h1', h2', fun j p hj hp => ?_⟩
  have := h3' j p (by omega) hp
  simp only [show ¬ j = i by omega, if_false] at this
  exact this
def PrH (w1 : World) (h : Nat) (F : Nat → Int) (k gk : Nat) (s : Value) (wx : World) : Prop :=
  ∃ i : Nat, s = .int .i64 (i : Int) ∧ i ≤ h ∧ gk = h - i ∧ FilJ wx w1.heap.size h i F k ∧ Below w1.heap.size w1 wx
set_option maxHeartbeats 6400000 in
set_option maxRecDepth 100000 in
theorem paired_any {w : World} {a : Option Addr} {l c k kx : Nat} {P : List Int} {xv : Value} {x : Int} (hp : Zl w (.slice a l c) P k) (hx : Zi w xv x kx) (hk : k + kx + 1 < 35184372088831) :
    Calls Try.prog 39 #[.slice a l c, xv] w (GivesR w ((l + 1) / 2) (prQ P x) (k + kx + 1)) := by
  obtain ⟨nx, xx, adx, qx, rfl⟩ := hx.parts16
  obtain ⟨lx, hlx⟩ : ∃ lx, xx.length = lx := ⟨_, rfl⟩
  rw [hlx] at hx ⊢
  obtain ⟨_, _, e1, hc0, hn0, hf0⟩ := hp.form9
  simp only [Value.slice.injEq] at e1
  obtain ⟨rfl, rfl, rfl⟩ := e1
  have F0 := hid hf0
  obtain ⟨W0, hW⟩ : ∃ W0, w.alloc (duo (.bool nx) (.slice adx lx qx)) = W0 := ⟨_, rfl⟩
  obtain ⟨b0, sz0⟩ := alo1 w (duo (.bool nx) (.slice adx lx qx))
  rw [hW] at b0 sz0
  have D3 : Hid (Duo W0 w.heap.size (.bool nx) (.slice adx lx qx)) := by unfold Hid; rw [← hW]; exact Duo.new w _ _
  have ZP := hid (hp.now b0)
  have ZX := hid (hx.now b0)
  have G := hid b0
  have EW := hid hW
  obtain ⟨n, hn⟩ : ∃ n, P.length = n := ⟨_, rfl⟩
  have LP := hid hn
  rw [hn] at hc0 hn0 ZP ⊢
  obtain ⟨h, hh⟩ : ∃ h, (n + 1) / 2 = h := ⟨_, rfl⟩
  have HH := hid hh
  have hh1 : IntKind.i64.wrap ((n : Int) + 1) = ((n + 1 : Nat) : Int) := by rw [wrap_is] <;> omega
  have hh2 : ((n : Int) + 1) / 2 = ((h : Nat) : Int) := by omega
  have hh3 : h ≤ 1048576 := by omega
  have hh4 : IntKind.i64.wrap ((h : Int)) = (h : Int) := by rw [wrap_is] <;> omega
  obtain ⟨KK, hKK⟩ : ∃ KK, k + kx + 1 = KK := ⟨_, rfl⟩
  have EKK := hid hKK
  have HK1 : Hid (k + kx < 35184372088832) := by unfold Hid; omega
  have HK2 : Hid (k < 35184372088832) := by unfold Hid; omega
  rw [hKK, hh]
  have EPR : Hid (prQ P x = (List.range h).map fun i => cf P (2 * i + 1) * x + cf P (2 * i)) := by unfold Hid prQ; rw [hn, hh]
  obtain ⟨b3, hb3⟩ : ∃ b3, w.heap.size = b3 := ⟨_, rfl⟩
  have EB3 := hid hb3
  rw [EPR.out]
  clear hp hx hf0 hlx hW hn hh hKK hk b0 EPR sz0
  go_enter Try.func39, Try.ntmps39
  go_upto_region 1 with fail
  rw [EW.out]
  go_wp2_with (at_make; refine wpList_make_pairs9 _ rfl _ _ rfl _ _ h h rfl rfl hh2 hh2 (Nat.le_refl _) (by omega) ?_)
  intro w2 hrow hb1 hsz1
  have H0 : Hid (PrH W0 h (fun i => cf P (2 * i + 1) * x + cf P (2 * i)) KK h (.int .i64 0) w2) := ⟨0, rfl, Nat.zero_le _, by omega, FilJ.start hrow _ _, hb1⟩
  clear hrow hb1 hsz1
  rw [EB3.out] at D3
  clear hb3 EW
  go_wp2_with fail
  go_loopg [14] h (fun gk s14 wx => PrH W0 h (fun i => cf P (2 * i + 1) * x + cf P (2 * i)) KK gk s14 wx)
  case atStart => exact H0.out
  case round =>
    clear H0
    obtain ⟨i, rfl, hin, hg, hfil, hG⟩ := hrel
    have FI := hid hfil
    have B := hid hG
    have HG := hid hg
    clear hfil hG hg
    by_cases hlt : i < h
    · have hlt' : (i : Int) < (h : Int) := by omega
      obtain ⟨e, he⟩ : ∃ e, 2 * i = e := ⟨_, rfl⟩
      have HE := hid he
      have hhn := HH.out
      have hen : e < n := by omega
      have hiP : e < P.length := by rw [LP.out]; exact hen
      have hen' : (e : Int) < (n : Int) := by omega
      have hw2 : IntKind.i64.wrap (2 * (i : Int)) = (e : Int) := by rw [wrap_is] <;> omega
      have hw3 : IntKind.i64.wrap ((e : Int) + 1) = ((e + 1 : Nat) : Int) := by rw [wrap_is] <;> omega
      have hwi := wrapI9 (i := i) (by omega)
      obtain ⟨b1, o1, rfl⟩ := F0.out (fun e => by rw [e] at hiP; simp at hiP)
      obtain ⟨nf, xf, adf, qf, k0, k1, zf⟩ := (ZP.out.now B.out).at9 (i := e) hiP
      have ecf : P[e] = cf P e := by simp [cf, hiP]
      rw [ecf] at zf
      obtain ⟨lf, hlf⟩ : ∃ lf, xf.length = lf := ⟨_, rfl⟩
      rw [hlf] at k1 zf
      have ZF := hid zf
      have HMM : Hid (h - (i + 1) < gk) := by unfold Hid; rw [HG.out]; omega
      obtain ⟨m0, am, lm, cm, e0, e1, e2, e3⟩ := FI.out.cells hlt
      have hzz : Zi wr (.agg #[.bool nf, .slice adf lf qf]) (cf P e) KK := zf.more (by have := EKK.out; omega)
      have FO := hid (FI.out.over hlt hzz)
      have BO := hid (bset (j := i * 2 + 1) (u := .slice adf lf qf) (bset (j := i * 2) (u := .bool nf) B.out (Nat.le_refl _)) (Nat.le_refl _))
      by_cases hodd : e + 1 < n
      · have hodd' : ((e + 1 : Nat) : Int) < (n : Int) := by omega
        have hoP : e + 1 < P.length := by rw [LP.out]; exact hodd
        clear zf hlf HG hzz he hhn
        go_upto_region 7 with fail
        clear k0 k1 e0 e1 e2 e3
        obtain ⟨V1, hV⟩ : ∃ V1, (wr.setCell ⟨W0.heap.size, i * 2, none⟩ (.bool nf)).setCell ⟨W0.heap.size, i * 2 + 1, none⟩ (.slice adf lf qf) = V1 := ⟨_, rfl⟩
        rw [hV] at FO BO ⊢
        clear hV FI ZF
        obtain ⟨nf2, xf2, adf2, qf2, k0, k1, zf2⟩ := (ZP.out.now BO.out).at9 (i := e) hiP
        rw [ecf] at zf2
        obtain ⟨lf2, hlf2⟩ : ∃ lf2, xf2.length = lf2 := ⟨_, rfl⟩
        rw [hlf2] at k1 zf2
        have ZF := hid zf2
        obtain ⟨nf3, xf3, adf3, qf3, j0, j1, zf3⟩ := (ZP.out.now BO.out).at9 (i := e + 1) hoP
        have ecf2 : P[e + 1] = cf P (e + 1) := by simp [cf, hoP]
        rw [ecf2] at zf3
        obtain ⟨lf3, hlf3⟩ : ∃ lf3, xf3.length = lf3 := ⟨_, rfl⟩
        rw [hlf3] at j1 zf3
        have ZO := hid zf3
        have d0 := (D3.out.step BO.out).c0
        have d1 := (D3.out.step BO.out).c1
        have ZXV := hid (ZX.out.now BO.out)
        clear zf2 hlf2 zf3 hlf3 ecf ecf2
        have hng : ¬ ((e : Int) + 1 < 0) := by omega
        have KB : Hid (∀ w', Below V1.heap.size V1 w' → w'.cell? ⟨b1, o1 + (e + 1) * 2, none⟩ = some (.bool nf3) ∧ w'.cell? ⟨b1, o1 + (e + 1) * 2 + 1, none⟩ = some (.slice adf3 lf3 qf3) ∧ w'.cell? ⟨b1, o1 + e * 2, none⟩ = some (.bool nf2) ∧ w'.cell? ⟨b1, o1 + e * 2 + 1, none⟩ = some (.slice adf2 lf2 qf2) ∧ w'.cell? ⟨b3, 0, none⟩ = some (.bool nx) ∧ w'.cell? ⟨b3, 1, none⟩ = some (.slice adx lx qx)) := fun w' h => ⟨cnow h j0, cnow h j1, cnow h k0, cnow h k1, cnow h d0, cnow h d1⟩
        refine wp_region_tail (fun w' => w'.cell? ⟨b1, o1 + (e + 1) * 2, none⟩ = some (.bool nf3) ∧ w'.cell? ⟨b1, o1 + (e + 1) * 2 + 1, none⟩ = some (.slice adf3 lf3 qf3) ∧ w'.cell? ⟨b1, o1 + e * 2, none⟩ = some (.bool nf2) ∧ w'.cell? ⟨b1, o1 + e * 2 + 1, none⟩ = some (.slice adf2 lf2 qf2) ∧ w'.cell? ⟨b3, 0, none⟩ = some (.bool nx) ∧ w'.cell? ⟨b3, 1, none⟩ = some (.slice adx lx qx)) 16 (by kernel_rfl) ?_
        obtain ⟨D61, hD⟩ : ∃ D61, V1.drew = D61 := ⟨_, rfl⟩
        have GB : Hid (Below V1.heap.size V1 D61) := by unfold Hid; rw [← hD]; exact (Below.refl _ _).drew
        rw [hD]
        clear hD
        refine wpAnyT_list [(0, (.slice (some ⟨W0.heap.size, 0, none⟩) h h)), (1, (.int .i64 (i : Int))), (2, (.slice (some ⟨b1, o1, none⟩) n c)), (3, (.int .i64 (i : Int))), (4, (.int .i64 (e : Int))), (5, (.int .i64 ((e + 1 : Nat) : Int))), (6, (.pointer (some ⟨b1, o1 + (e + 1) * 2, none⟩))), (7, (.agg #[.bool nf3, .slice adf3 lf3 qf3])), (8, (.agg #[.bool nx, .slice adx lx qx])), (9, (.slice (some ⟨b1, o1, none⟩) n c)), (10, (.int .i64 (i : Int))), (11, (.int .i64 (e : Int))), (12, (.pointer (some ⟨b1, o1 + e * 2, none⟩))), (13, (.agg #[.bool nf2, .slice adf2 lf2 qf2]))] 14 ?_ (KB.out _ GB.out) ?_
        · simp only [TakesV, gA9, g09, g19, Act.put, sI9, s09, s19]
          (repeat' (first | exact trivial | refine And.intro (Or.inl ⟨by rfl, ?_⟩) ?_)) <;> (intro w hSw; (try dsimp only at hSw); go_simp)
        simp only [actV, gA9, g09, g19, Act.put, sI9, s09, s19]
        refine wpAnyT_one (i := 14) (o := { dst := some 45, op := Op.call { callee := Callee.value (Operand.func 26), args := #[Operand.tmp 38, Operand.tmp 39, Operand.tmp 44], argTypes := #[25, 25, 25] }, type := 25, pos := "poly.go:83", after := #[{ on := 7, ground := Ground.data }, { on := 8, ground := Ground.data }, { on := 13, ground := Ground.data }], guard := none }) (by kernel_rfl) rfl (fun K hK => ?_)
        go_simp
        go_at_call 26
        refine (mulAdd_z (ZO.out.now GB.out) (ZXV.out.now GB.out) (ZF.out.now GB.out) HK1.out HK2.out).mono ?_
        rintro e w62 ⟨r1, rfl, m1, b⟩
        have lz62 := (show Below _ _ _ from b).size
        replace GB := hid (below_step GB.out b)
        have FO1 := hid (FO.out.step GB.out)
        have B1 := hid (below_step BO.out GB.out)
        have M0 := hid m1.zi
        obtain ⟨nr, xr, ar, cr, rfl⟩ := m1.parts
        have M1 : Hid (Zi w62 (.agg #[.bool nr, .slice ar xr.length cr]) (cf P (e + 1) * x + cf P e) KK) := M0.out.more (by have := EKK.out; omega)
        obtain ⟨lr, hlr⟩ : ∃ lr, xr.length = lr := ⟨_, rfl⟩
        rw [hlr] at M1 ⊢
        clear m1 M0 hlr
        clear b
        refine hK.out _ _ (fun _ => KB.out _ GB.out) ?_
        clear hK
        refine wpAnyT_list [(15, (.pointer (some ⟨W0.heap.size, i * 2, none⟩)))] 1 ?_ (KB.out _ GB.out) ?_
        · simp only [TakesV, gA9, g09, g19, Act.put, sI9, s09, s19]
          (repeat' (first | exact trivial | refine And.intro (Or.inl ⟨by rfl, ?_⟩) ?_)) <;> (intro w hSw; (try dsimp only at hSw); go_simp)
        simp only [actV, gA9, g09, g19, Act.put, sI9, s09, s19]
        refine wpAnyT_one (i := 16) (o := { dst := none, op := Op.store 25 (Operand.tmp 46) (Operand.tmp 45), type := 0, pos := "poly.go:83", after := #[{ on := 15, ground := Ground.data }, { on := 14, ground := Ground.data }, { on := 14, ground := Ground.chain }, { on := 0, ground := Ground.phase }, { on := 1, ground := Ground.phase }, { on := 2, ground := Ground.phase }, { on := 3, ground := Ground.phase }, { on := 4, ground := Ground.phase }, { on := 5, ground := Ground.phase }, { on := 6, ground := Ground.phase }, { on := 7, ground := Ground.phase }, { on := 8, ground := Ground.phase }, { on := 9, ground := Ground.phase }, { on := 10, ground := Ground.phase }, { on := 11, ground := Ground.phase }, { on := 12, ground := Ground.phase }, { on := 13, ground := Ground.phase }, { on := 14, ground := Ground.phase }], guard := none }) (by kernel_rfl) rfl (fun K hK => ?_)
        obtain ⟨ny, ay, ly, cy, e0, e1, e2, e3⟩ := FO1.out.cells hlt
        go_simp
        clear e0 e1 e2 e3
        obtain ⟨V63, hW⟩ : ∃ V63, ((w62.setCell ⟨W0.heap.size, i * 2, none⟩ (.bool nr)).setCell ⟨W0.heap.size, i * 2 + 1, none⟩ (.slice ar lr cr)) = V63 := ⟨_, rfl⟩
        have HN1 : Hid (PrH W0 h (fun i => cf P (2 * i + 1) * x + cf P (2 * i)) KK (h - (i + 1)) (.int .i64 ((i + 1 : Nat) : Int)) V63) := by
          unfold Hid
          rw [← hW]
          exact ⟨i + 1, rfl, by omega, rfl, FO1.out.put hlt (by rw [HE.out]; exact M1.out), bset (bset B1.out (Nat.le_refl _)) (Nat.le_refl _)⟩
        rw [hW]
        clear hW
        refine hK.out _ _ (fun h => absurd h (by decide)) ?_
        clear hK
        try simp only [Act.put]
        refine wpAnyT_done (by kernel_rfl) ?_ _
        clear FO BO FO1 B1 M1 GB KB ZF ZO ZXV B
        go_wp2_with fail
        go_roundg (h - (i + 1))
        case rel => exact HN1.out
        case measure => exact HMM.out
      · have hodd' : ¬ ((e + 1 : Nat) : Int) < (n : Int) := by omega
        have EV0 : cf P (2 * i + 1) = 0 := cf_ge (by rw [LP.out]; omega)
        have HN1 : Hid (PrH W0 h (fun i => cf P (2 * i + 1) * x + cf P (2 * i)) KK (h - (i + 1)) (.int .i64 ((i + 1 : Nat) : Int)) ((wr.setCell ⟨W0.heap.size, i * 2, none⟩ (.bool nf)).setCell ⟨W0.heap.size, i * 2 + 1, none⟩ (.slice adf lf qf))) :=
          ⟨i + 1, rfl, by omega, rfl, FI.out.put hlt (by rw [EV0, Int.zero_mul, Int.zero_add, he]; exact hzz), BO.out⟩
        clear zf hlf HG hzz FO BO FI ZF B
        go_wp2_with fail
        go_roundg (h - (i + 1))
        case rel => exact HN1.out
        case measure => exact HMM.out
    · have hlt' : ¬ (i : Int) < (h : Int) := by omega
      obtain rfl : i = h := by omega
      have FIN : Hid (GivesR w i ((List.range i).map fun i => cf P (2 * i + 1) * x + cf P (2 * i)) KK (.returned (.slice (some ⟨W0.heap.size, 0, none⟩) i i)) wr) := ⟨W0.heap.size, rfl, G.out.size, FI.out.doneI, below_step G.out B.out⟩
      clear FI B HG
      go_wp2
      go_ret
      exact FIN.out
end Go.Proofs.Ytnpcfohimlfbdaa
