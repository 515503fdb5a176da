/-
  Tn12: the reference's Turn; an array of integers that is filled in any order.
-/
import Derived.Test.YtiedmlfiboalhaaGreatQRm12
namespace Go.Proofs.YtiedmlfiboalhaaGreat
open Go.RowKit
set_option linter.unusedVariables false

/-- An array of integers of their own. -/
def ArZ (wx : World) (g : Nat) (zs : List Int) (k : Nat) : Prop := ∃ ps, Arr wx g ps ∧ Zms wx ps zs k
theorem zm_zero12 (w : World) (k : Nat) : Zm 0 w (.agg #[.bool false, .slice none 0 0]) 0 k := ⟨false, [], none, 0, rfl, Mine.nil _ _, ⟨WF.nil, rfl⟩, fun _ => rfl, by simp [iv, val], Nat.zero_le _⟩
theorem ArZ.start {w : World} {g n : Nat} (h : Arr w g (List.replicate n zpair)) (k : Nat) : ArZ w g (List.replicate n 0) k := by
  refine ⟨_, h, by simp, fun j p z hp hz => ?_⟩
  rw [List.eq_of_mem_replicate (List.mem_of_getElem? hp), List.eq_of_mem_replicate (List.mem_of_getElem? hz)]
  exact zm_zero12 w k
theorem ArZ.step {w w' : World} {g : Nat} {zs : List Int} {k : Nat} (h : ArZ w g zs k) (hb : Below w.heap.size w w') : ArZ w' g zs k := by
  obtain ⟨ps, h1, h2⟩ := h
  exact ⟨ps, h1.step hb, h2.now hb⟩
theorem ArZ.blk {w : World} {g : Nat} {zs : List Int} {k : Nat} (h : ArZ w g zs k) : g < w.heap.size := by
  obtain ⟨ps, h1, h2⟩ := h
  exact h1.1.blk
theorem ArZ.ty12 {w : World} {g t : Nat} {zs : List Int} {k : Nat} (h : ArZ w g zs k) (x y : Value) : Ty 43 w ((w.setCell ⟨g, t * 2, none⟩ x).setCell ⟨g, t * 2 + 1, none⟩ y) := by
  obtain ⟨ps, h1, h2⟩ := h
  exact h1.ty12 x y
theorem ArZ.put {w : World} {g t : Nat} {zs : List Int} {k : Nat} {x y : Value} {z : Int} (h : ArZ w g zs k) (ht : t < zs.length) (hz : Zm 0 w (.agg #[x, y]) z k) : ArZ ((w.setCell ⟨g, t * 2, none⟩ x).setCell ⟨g, t * 2 + 1, none⟩ y) g (zs.set t z) k := by
  have hty := h.ty12 (t := t) x y
  obtain ⟨ps, h1, h2⟩ := h
  refine ⟨ps.set t (x, y), h1.put (by rw [h2.1]; exact ht) hz.zi.isI, by simp [h2.1], fun j p q hp hq => ?_⟩
  by_cases e : j = t
  · subst e
    rw [List.getElem?_set_self (by rw [h2.1]; exact ht), Option.some.injEq] at hp
    rw [List.getElem?_set_self ht, Option.some.injEq] at hq
    subst hp
    subst hq
    exact hz.ty hty (by decide)
  · rw [List.getElem?_set_ne (by omega)] at hp hq
    exact (h2.2 j p q hp hq).ty hty (by decide)
theorem ArZ.cells {w : World} {g j : Nat} {zs : List Int} {k : Nat} (h : ArZ w g zs k) (hj : j < zs.length) : ∃ m a l c, w.cell? ⟨g, j * 2, none⟩ = some (.bool m) ∧ w.cell? ⟨g, j * 2 + 1, none⟩ = some (.slice a l c) ∧ w.frozen? ⟨g, j * 2, none⟩ = false ∧ w.frozen? ⟨g, j * 2 + 1, none⟩ = false ∧ Zm 0 w (.agg #[.bool m, .slice a l c]) (zs.getD j 0) k := by
  obtain ⟨ps, h1, h2⟩ := h
  have hl := h2.1
  have hp : ps[j]? = some (ps[j]'(by omega)) := List.getElem?_eq_getElem (by omega)
  have hq : zs[j]? = some (zs[j]) := List.getElem?_eq_getElem hj
  obtain ⟨m, a, l, c, e⟩ := h1.2 _ (List.getElem_mem (l := ps) (n := j) (by omega))
  have q := h1.at hp
  have z := h2.2 j _ _ hp hq
  rw [e] at q z
  have : zs.getD j 0 = zs[j] := by simp [hj]
  rw [this]
  exact ⟨m, a, l, c, q.1, q.2, h1.1.fz _, h1.1.fz _, z⟩
theorem ArZ.done {w : World} {g : Nat} {zs : List Int} {k : Nat} (h : ArZ w g zs k) (hn : zs.length ≤ 1048576) : ∃ ps, PrsT w (.slice (some ⟨g, 0, none⟩) zs.length zs.length) ps ∧ Zms w ps zs k := by
  obtain ⟨ps, h1, h2⟩ := h
  refine ⟨ps, ?_, h2⟩
  rw [← h2.1]
  exact h1.prsT (by rw [h2.1]; exact hn)
/-- The turned matrix as far as row i and column j. -/
def tnL (r c : Nat) (zs : List Int) (i j : Nat) : List Int := (List.range (c * r)).map fun t => if t % r < i ∨ (t % r = i ∧ t / r < j) then zs.getD (t % r * c + t / r) 0 else 0
theorem tnL_len (r c : Nat) (zs : List Int) (i j : Nat) : (tnL r c zs i j).length = c * r := by simp [tnL]
theorem tnL_zero (r c : Nat) (zs : List Int) : tnL r c zs 0 0 = List.replicate (c * r) 0 := by
  apply List.ext_getElem
  · simp [tnL]
  · intro t h1 h2
    simp [tnL]
theorem tnL_row (r c : Nat) (zs : List Int) (i : Nat) : tnL r c zs i c = tnL r c zs (i + 1) 0 := by
  apply List.ext_getElem
  · simp [tnL]
  · intro t h1 h2
    rw [tnL_len] at h1
    have hr : 0 < r := Nat.pos_of_ne_zero fun q => by rw [q] at h1; simp at h1
    have hd : t / r < c := (Nat.div_lt_iff_lt_mul hr).2 h1
    simp only [tnL, List.getElem_map, List.getElem_range]
    generalize t % r = X at *
    generalize t / r = Y at *
    by_cases q : X < i + 1
    · rw [if_pos (by omega), if_pos (by omega)]
    · rw [if_neg (by omega), if_neg (by omega)]
theorem tnL_put {r c i j : Nat} {zs : List Int} (hi : i < r) (hj : j < c) : (tnL r c zs i j).set (j * r + i) (zs.getD (i * c + j) 0) = tnL r c zs i (j + 1) := by
  have e1 : (j * r + i) % r = i := by rw [Nat.mul_comm, Nat.mul_add_mod, Nat.mod_eq_of_lt hi]
  have e2 : (j * r + i) / r = j := by rw [Nat.mul_comm, Nat.mul_add_div (by omega), Nat.div_eq_of_lt hi]; omega
  apply List.ext_getElem
  · simp [tnL]
  · intro t h1 h2
    rw [List.getElem_set]
    by_cases q : j * r + i = t
    · rw [if_pos q]
      subst q
      simp [tnL, e1, e2]
    · rw [if_neg q]
      simp only [tnL, List.getElem_map, List.getElem_range]
      have hne : ¬ (t % r = i ∧ t / r = j) := fun h => q (by have := Nat.div_add_mod t r; rw [h.1, h.2, Nat.mul_comm] at this; exact this)
      generalize t % r = X at *
      generalize t / r = Y at *
      by_cases q1 : X < i ∨ (X = i ∧ Y < j)
      · rw [if_pos q1, if_pos (by omega)]
      · rw [if_neg q1, if_neg (by omega)]
def turnZ (r c : Nat) (zs : List Int) : List Int := tnL r c zs r 0
theorem turnZ_at {r c i j : Nat} {zs : List Int} (hi : i < r) (hj : j < c) : (turnZ r c zs).getD (j * r + i) 0 = zs.getD (i * c + j) 0 := by
  have e1 : (j * r + i) % r = i := by rw [Nat.mul_comm, Nat.mul_add_mod, Nat.mod_eq_of_lt hi]
  have e2 : (j * r + i) / r = j := by rw [Nat.mul_comm, Nat.mul_add_div (by omega), Nat.div_eq_of_lt hi]; omega
  have hlt : j * r + i < c * r := place12 hj hi
  simp [turnZ, tnL, hlt, e1, e2, hi]
def MB1 (w wx : World) (bm : Nat) (A0 M0 : List Value) : Prop := Cel wx w.heap.size 24 A0 ∧ Cel wx (w.heap.size + 1) 24 [.int .i64 0, .int .i64 0, .slice none 0 0] ∧ Cel wx bm 24 M0 ∧ Below w.heap.size w wx
theorem MB1.step {w x y : World} {bm : Nat} {A0 M0 : List Value} (h : MB1 w x bm A0 M0) (hb : Below x.heap.size x y) : MB1 w y bm A0 M0 := ⟨h.1.step hb, h.2.1.step hb, h.2.2.1.step hb, below_step h.2.2.2 hb⟩
theorem MB1.ty {w x y : World} {bm : Nat} {A0 M0 : List Value} (h : MB1 w x bm A0 M0) (ht : Ty 43 x y) (hb : Below w.heap.size w y) : MB1 w y bm A0 M0 := ⟨h.1.ty12 ht (by decide), h.2.1.ty12 ht (by decide), h.2.2.1.ty12 ht (by decide), hb⟩
def TnI (w : World) (bm g r c : Nat) (zs : List Int) (k : Nat) (A0 M0 : List Value) (gk : Nat) (s : Value) (wx : World) : Prop :=
  ∃ i : Nat, s = .int .i64 (i : Int) ∧ i ≤ r ∧ gk = r - i ∧ ArZ wx g (tnL r c zs i 0) k ∧ MB1 w wx bm A0 M0
def TnJ (w : World) (bm g r c i : Nat) (zs : List Int) (k : Nat) (A0 M0 : List Value) (gk : Nat) (s : Value) (wx : World) : Prop :=
  ∃ j : Nat, s = .int .i64 (j : Int) ∧ j ≤ c ∧ gk = c - j ∧ ArZ wx g (tnL r c zs i j) k ∧ MB1 w wx bm A0 M0
set_option maxHeartbeats 3200000 in
set_option maxRecDepth 100000 in
theorem rturn12 {w : World} {va : Value} {r c : Nat} {zs : List Int} {ka : Nat} (ha : Mx w va r c zs ka) (hk : ka ≤ 1099511627776) :
    Calls Tryz.prog 8 #[va] w (GivesMO w c r (turnZ r c zs) ka) := by
  have HCK := hid (rcheckM ha)
  obtain ⟨ata, pa, rfl, pa1, pa2, pa3, hr, hc⟩ := ha
  have HAA : Hid (∀ wx, Below w.heap.size w wx → ∀ t, t < r * c → ∃ b off cap n a l c', ata = .slice (some ⟨b, off, none⟩) (r * c) cap ∧ wx.cell? ⟨b, off + t * 2, none⟩ = some (.bool n) ∧ wx.cell? ⟨b, off + t * 2 + 1, none⟩ = some (.slice a l c') ∧ Zi wx (.agg #[.bool n, .slice a l c']) (zs.getD t 0) ka) := fun wx h t ht => by
    have := (pa1.now h).isI12 (pa2.now h) (t := t) (by rw [pa3]; exact ht)
    rw [pa3] at this
    exact this
  have hrc : c * r ≤ 64 * 64 := Nat.mul_le_mul hc hr
  have hrc' : r * c ≤ 64 * 64 := Nat.mul_le_mul hr hc
  obtain ⟨N, hN⟩ : ∃ N, c * r = N := ⟨_, rfl⟩
  have HBL : Hid (∀ w', Calls Tryz.prog 19 #[.int .i64 (c : Int), .int .i64 (r : Int)] w' (Blanked w' c r N)) := fun w' => rblank12 hc hr hN
  have HNN := hid hN
  rw [hN] at hrc
  obtain ⟨W0, hW⟩ : ∃ W0, (w.alloc (matO r c ata)).alloc mbox = W0 := ⟨_, rfl⟩
  have b0 : Below w.heap.size w W0 := by rw [← hW]; exact ((Below.refl _ _).alloc (Nat.le_refl _) _).alloc (by simp) _
  have sz0 : W0.heap.size = w.heap.size + 2 := by rw [← hW]; simp
  have PA : Hid (Cel W0 w.heap.size 24 (matc r c ata)) := by unfold Hid; rw [← hW]; exact (Cel.new w _ _).step ((Below.refl _ _).alloc (Nat.le_refl _) _)
  have PR : Hid (Cel W0 (w.heap.size + 1) 24 [.int .i64 0, .int .i64 0, .slice none 0 0]) := by
    unfold Hid; rw [← hW]
    have := Cel.new (w.alloc (matO r c ata)) 24 [.int .i64 0, .int .i64 0, .slice none 0 0]
    simpa using this
  have x0 := PA.out.at (i := 0) rfl
  have x1 := PA.out.at (i := 1) rfl
  have x2 := PA.out.at (i := 2) rfl
  rw [← hW] at x0 x1 x2
  have G0 := hid b0
  have SZ := hid sz0
  have HK := hid hk
  have EW := hid hW
  clear pa1 pa2 pa3 b0 sz0 hW hk hN
  go_enter Tryz.func8, Tryz.ntmps8
  go_wp2_with fail
  rw [EW.out]
  refine (HCK.out _ G0.out).mono ?_
  rintro e w1 ⟨rfl, b1⟩
  have PA1 := hid (PA.out.step b1)
  have PR1 := hid (PR.out.step b1)
  have G1 := hid (below_step G0.out b1)
  clear x0 x1 x2 EW PA PR G0 HCK
  have x0 := PA1.out.at (i := 0) rfl
  have x1 := PA1.out.at (i := 1) rfl
  have sz1 := b1.size
  have q0 : ((0 : Int) != 0) = false := rfl
  go_wp2_with fail
  refine (HBL.out _).mono ?_
  rintro e w2 ⟨g, rfl, hge, harr, b2⟩
  clear x0 x1 q0 HBL
  obtain ⟨V1, hV⟩ : ∃ V1, w2.alloc (matO c r (.slice (some ⟨g, 0, none⟩) N N)) = V1 := ⟨_, rfl⟩
  obtain ⟨b3, sz3⟩ := alo1 w2 (matO c r (.slice (some ⟨g, 0, none⟩) N N))
  rw [hV] at b3 sz3
  have PM : Hid (Cel V1 w2.heap.size 24 (matc c r (.slice (some ⟨g, 0, none⟩) N N))) := by unfold Hid; rw [← hV]; exact Cel.new w2 _ _
  have HGW : Hid (w.heap.size + 1 < g) := by unfold Hid; have h1 := SZ.out; omega
  have H0 : Hid (TnI w w2.heap.size g r c zs ka (matc r c ata) (matc c r (.slice (some ⟨g, 0, none⟩) N N)) r (.int .i64 0) V1) :=
    ⟨0, rfl, Nat.zero_le _, by omega, by rw [tnL_zero, HNN.out]; exact (ArZ.start harr ka).step b3, (PA1.out.step b2).step b3, (PR1.out.step b2).step b3, PM.out, below_step (below_step G1.out b2) b3⟩
  have EV := hid hV
  clear PA1 PR1 G1 harr b1 b2 b3 sz3 PM hV hge SZ sz1
  go_wp2_with fail
  rw [EV.out]
  clear EV
  obtain ⟨bm, hbm⟩ : ∃ bm, w2.heap.size = bm := ⟨_, rfl⟩
  rw [hbm] at H0 ⊢
  clear hbm
  go_loopg [6] r (fun gk s6 wx => TnI w bm g r c zs ka (matc r c ata) (matc c r (.slice (some ⟨g, 0, none⟩) N N)) gk s6 wx)
  case atStart => exact H0.out
  case round =>
    clear H0
    obtain ⟨i, rfl, hin, hg, hfil, hmb⟩ := hrel
    have FI := hid hfil
    have MBx := hid hmb
    have HG := hid hg
    clear hfil hmb hg
    have x0 := MBx.out.1.at (i := 0) rfl
    by_cases hlt : i < r
    · have hlt' : (i : Int) < (r : Int) := by omega
      have hw := wrapI9 (i := i) (by omega)
      have HMM : Hid (r - (i + 1) < gk) := by unfold Hid; rw [HG.out]; omega
      have H1 : Hid (TnJ w bm g r c i zs ka (matc r c ata) (matc c r (.slice (some ⟨g, 0, none⟩) N N)) c (.int .i64 0) wr) := ⟨0, rfl, Nat.zero_le _, by omega, FI.out, MBx.out⟩
      clear HG FI MBx
      go_wp2_with fail
      go_loopg [7] c (fun gk2 s7 wx => TnJ w bm g r c i zs ka (matc r c ata) (matc c r (.slice (some ⟨g, 0, none⟩) N N)) gk2 s7 wx)
      case atStart => exact H1.out
      case round =>
        clear H1 x0
        obtain ⟨j, rfl, hjn, hg, hfil, hmb⟩ := hrel
        have FI := hid hfil
        have MBx := hid hmb
        have HG := hid hg
        clear hfil hmb hg
        have x1 := MBx.out.1.at (i := 1) rfl
        by_cases hlt2 : j < c
        · have hlt2' : (j : Int) < (c : Int) := by omega
          have hw2 := wrapI9 (i := j) (by omega)
          have HMM2 : Hid (c - (j + 1) < gk) := by unfold Hid; rw [HG.out]; omega
          have hp1 : i * c + j < r * c := place12 hlt hlt2
          have hp2 : j * r + i < N := by rw [← HNN.out]; exact place12 hlt2 hlt
          obtain ⟨b1, o1, c1, n1, a1, l1, d1, rfl, u0, u1, z1⟩ := HAA.out wr MBx.out.2.2.2 (i * c + j) hp1
          have k1 := wrapM9 (i := i) (c := c) (by omega) hc
          have k2 := wrapM9 (i := j) (c := r) (by omega) hr
          have k3 : IntKind.i64.wrap (((i * c : Nat) : Int) + (j : Int)) = ((i * c + j : Nat) : Int) := by rw [wrap_is] <;> omega
          have k4 : IntKind.i64.wrap (((j * r : Nat) : Int) + (i : Int)) = ((j * r + i : Nat) : Int) := by rw [wrap_is] <;> omega
          have HS : Hid (∀ w', Below wr.heap.size wr w' → Calls Tryz.prog 22 #[.agg #[.bool n1, .slice a1 l1 d1]] w' (GivesZ w' (zs.getD (i * c + j) 0) ka)) := fun w' h => rleast_z (z1.now h) HK.out
          have TP : Hid ((tnL r c zs i j).set (j * r + i) (zs.getD (i * c + j) 0) = tnL r c zs i (j + 1)) := tnL_put hlt hlt2
          have TL : Hid ((tnL r c zs i j).length = N) := by unfold Hid; rw [tnL_len]; exact HNN.out
          obtain ⟨n3, hn3⟩ : ∃ n3, r * c = n3 := ⟨_, rfl⟩
          obtain ⟨q1, hq1⟩ : ∃ q1, i * c = q1 := ⟨_, rfl⟩
          obtain ⟨q2, hq2⟩ : ∃ q2, j * r = q2 := ⟨_, rfl⟩
          rw [hn3] at hp1 hrc' MBx
          rw [hq1] at hp1 k1 k3 u0 u1 HS TP
          rw [hq2] at hp2 k2 k4 TP
          obtain ⟨t1, ht1⟩ : ∃ t1, q1 + j = t1 := ⟨_, rfl⟩
          obtain ⟨t2, ht2⟩ : ∃ t2, q2 + i = t2 := ⟨_, rfl⟩
          rw [ht1] at hp1 k3 u0 u1 HS TP
          rw [ht2] at hp2 k4 TP
          have hp1' : (t1 : Int) < (n3 : Int) := by omega
          have hp2' : (t2 : Int) < (N : Int) := by omega
          have k1' := k1
          have k2' := k2
          have k3' := k3
          have k4' := k4
          rw [IntKind.wrap_i64] at k1' k2' k3' k4'
          have x2 := MBx.out.1.at (i := 2) rfl
          have x0 := MBx.out.1.at (i := 0) rfl
          have m2 := MBx.out.2.2.1.at (i := 2) rfl
          have E3 := hid hn3
          clear z1 hn3 hq1 hq2 ht1 ht2 HG
          go_wp2_with fail
          have KB : Hid (∀ w', Below wr.heap.size wr w' → w'.cell? ⟨w.heap.size, 0, none⟩ = some (.int .i64 (r : Int)) ∧ w'.cell? ⟨w.heap.size, 1, none⟩ = some (.int .i64 (c : Int)) ∧ w'.cell? ⟨w.heap.size, 2, none⟩ = some (.slice (some ⟨b1, o1, none⟩) n3 c1) ∧ w'.cell? ⟨bm, 2, none⟩ = some (.slice (some ⟨g, 0, none⟩) N N) ∧ w'.cell? ⟨b1, o1 + t1 * 2, none⟩ = some (.bool n1) ∧ w'.cell? ⟨b1, o1 + t1 * 2 + 1, none⟩ = some (.slice a1 l1 d1)) := fun w' h => ⟨cnow h x0, cnow h x1, cnow h x2, cnow h m2, cnow h u0, cnow h u1⟩
          refine wp_region_tail (fun w' => w'.cell? ⟨w.heap.size, 0, none⟩ = some (.int .i64 (r : Int)) ∧ w'.cell? ⟨w.heap.size, 1, none⟩ = some (.int .i64 (c : Int)) ∧ w'.cell? ⟨w.heap.size, 2, none⟩ = some (.slice (some ⟨b1, o1, none⟩) n3 c1) ∧ w'.cell? ⟨bm, 2, none⟩ = some (.slice (some ⟨g, 0, none⟩) N N) ∧ w'.cell? ⟨b1, o1 + t1 * 2, none⟩ = some (.bool n1) ∧ w'.cell? ⟨b1, o1 + t1 * 2 + 1, none⟩ = some (.slice a1 l1 d1)) 20 (by kernel_rfl) ?_
          obtain ⟨D1, hD⟩ : ∃ D1, wr.drew = D1 := ⟨_, rfl⟩
          have GB : Hid (Below wr.heap.size wr D1) := by unfold Hid; rw [← hD]; exact (Below.refl _ _).drew
          rw [hD]
          clear hD
          have GBs := GB
          refine wpAnyT_take (i := 0) (oi := { dst := some 31, op := Op.fieldAddr 24 (Operand.tmp 5) 2, type := 0, pos := "ref.go:225", after := #[], guard := none }) (v := (.pointer (some ⟨bm, 2, none⟩))) rfl (by kernel_rfl) (fun _ _ _ h => h) (Or.inl ⟨by rfl, ?_⟩) (KB.out _ GB.out) ?_
          · intro w hSw
            (try dsimp only at hSw)
            go_simp
          simp only [Act.put, List.setIfInBounds_toArray, List.set_cons_zero, List.set_cons_succ]
          refine wpAnyT_take (i := 1) (oi := { dst := some 32, op := Op.load 22 (Operand.tmp 31), type := 22, pos := "ref.go:225", after := #[{ on := 0, ground := Ground.data }], guard := none }) (v := (.slice (some ⟨g, 0, none⟩) N N)) rfl (by kernel_rfl) (fun _ _ _ h => h) (Or.inl ⟨by rfl, ?_⟩) (KB.out _ GB.out) ?_
          · intro w hSw
            (try dsimp only at hSw)
            go_simp
          simp only [Act.put, List.setIfInBounds_toArray, List.set_cons_zero, List.set_cons_succ]
          refine wpAnyT_take (i := 2) (oi := { dst := some 33, op := Op.move (Operand.tmp 7), type := 3, pos := "ref.go:225", after := #[], guard := none }) (v := (.int .i64 (j : Int))) rfl (by kernel_rfl) (fun _ _ _ h => h) (Or.inl ⟨by rfl, ?_⟩) (KB.out _ GB.out) ?_
          · intro w hSw
            (try dsimp only at hSw)
            go_simp
          simp only [Act.put, List.setIfInBounds_toArray, List.set_cons_zero, List.set_cons_succ]
          refine wpAnyT_take (i := 3) (oi := { dst := some 34, op := Op.fieldAddr 24 (Operand.tmp 1) 0, type := 0, pos := "ref.go:225", after := #[], guard := none }) (v := (.pointer (some ⟨w.heap.size, 0, none⟩))) rfl (by kernel_rfl) (fun _ _ _ h => h) (Or.inl ⟨by rfl, ?_⟩) (KB.out _ GB.out) ?_
          · intro w hSw
            (try dsimp only at hSw)
            go_simp
          simp only [Act.put, List.setIfInBounds_toArray, List.set_cons_zero, List.set_cons_succ]
          refine wpAnyT_take (i := 4) (oi := { dst := some 35, op := Op.load 3 (Operand.tmp 34), type := 3, pos := "ref.go:225", after := #[{ on := 3, ground := Ground.data }], guard := none }) (v := (.int .i64 (r : Int))) rfl (by kernel_rfl) (fun _ _ _ h => h) (Or.inl ⟨by rfl, ?_⟩) (KB.out _ GB.out) ?_
          · intro w hSw
            (try dsimp only at hSw)
            go_simp
          simp only [Act.put, List.setIfInBounds_toArray, List.set_cons_zero, List.set_cons_succ]
          refine wpAnyT_take (i := 5) (oi := { dst := some 36, op := Op.binOp BinOp.mul 3 (Operand.tmp 33) (Operand.tmp 35) 3, type := 3, pos := "ref.go:225", after := #[{ on := 2, ground := Ground.data }, { on := 4, ground := Ground.data }], guard := none }) (v := (.int .i64 (q2 : Int))) rfl (by kernel_rfl) (fun _ _ _ h => h) (Or.inl ⟨by rfl, ?_⟩) (KB.out _ GB.out) ?_
          · intro w hSw
            (try dsimp only at hSw)
            go_simp
          simp only [Act.put, List.setIfInBounds_toArray, List.set_cons_zero, List.set_cons_succ]
          refine wpAnyT_take (i := 6) (oi := { dst := some 37, op := Op.move (Operand.tmp 6), type := 3, pos := "ref.go:225", after := #[], guard := none }) (v := (.int .i64 (i : Int))) rfl (by kernel_rfl) (fun _ _ _ h => h) (Or.inl ⟨by rfl, ?_⟩) (KB.out _ GB.out) ?_
          · intro w hSw
            (try dsimp only at hSw)
            go_simp
          simp only [Act.put, List.setIfInBounds_toArray, List.set_cons_zero, List.set_cons_succ]
          refine wpAnyT_take (i := 7) (oi := { dst := some 38, op := Op.binOp BinOp.add 3 (Operand.tmp 36) (Operand.tmp 37) 3, type := 3, pos := "ref.go:225", after := #[{ on := 5, ground := Ground.data }, { on := 6, ground := Ground.data }], guard := none }) (v := (.int .i64 (t2 : Int))) rfl (by kernel_rfl) (fun _ _ _ h => h) (Or.inl ⟨by rfl, ?_⟩) (KB.out _ GB.out) ?_
          · intro w hSw
            (try dsimp only at hSw)
            go_simp
          simp only [Act.put, List.setIfInBounds_toArray, List.set_cons_zero, List.set_cons_succ]
          refine wpAnyT_take (i := 8) (oi := { dst := some 39, op := Op.fieldAddr 24 (Operand.tmp 1) 2, type := 0, pos := "ref.go:225", after := #[], guard := none }) (v := (.pointer (some ⟨w.heap.size, 2, none⟩))) rfl (by kernel_rfl) (fun _ _ _ h => h) (Or.inl ⟨by rfl, ?_⟩) (KB.out _ GB.out) ?_
          · intro w hSw
            (try dsimp only at hSw)
            go_simp
          simp only [Act.put, List.setIfInBounds_toArray, List.set_cons_zero, List.set_cons_succ]
          refine wpAnyT_take (i := 9) (oi := { dst := some 40, op := Op.load 22 (Operand.tmp 39), type := 22, pos := "ref.go:225", after := #[{ on := 8, ground := Ground.data }], guard := none }) (v := (.slice (some ⟨b1, o1, none⟩) n3 c1)) rfl (by kernel_rfl) (fun _ _ _ h => h) (Or.inl ⟨by rfl, ?_⟩) (KB.out _ GB.out) ?_
          · intro w hSw
            (try dsimp only at hSw)
            go_simp
          simp only [Act.put, List.setIfInBounds_toArray, List.set_cons_zero, List.set_cons_succ]
          refine wpAnyT_take (i := 10) (oi := { dst := some 41, op := Op.move (Operand.tmp 6), type := 3, pos := "ref.go:225", after := #[], guard := none }) (v := (.int .i64 (i : Int))) rfl (by kernel_rfl) (fun _ _ _ h => h) (Or.inl ⟨by rfl, ?_⟩) (KB.out _ GB.out) ?_
          · intro w hSw
            (try dsimp only at hSw)
            go_simp
          simp only [Act.put, List.setIfInBounds_toArray, List.set_cons_zero, List.set_cons_succ]
          refine wpAnyT_take (i := 11) (oi := { dst := some 42, op := Op.fieldAddr 24 (Operand.tmp 1) 1, type := 0, pos := "ref.go:225", after := #[], guard := none }) (v := (.pointer (some ⟨w.heap.size, 1, none⟩))) rfl (by kernel_rfl) (fun _ _ _ h => h) (Or.inl ⟨by rfl, ?_⟩) (KB.out _ GB.out) ?_
          · intro w hSw
            (try dsimp only at hSw)
            go_simp
          simp only [Act.put, List.setIfInBounds_toArray, List.set_cons_zero, List.set_cons_succ]
          refine wpAnyT_take (i := 12) (oi := { dst := some 43, op := Op.load 3 (Operand.tmp 42), type := 3, pos := "ref.go:225", after := #[{ on := 11, ground := Ground.data }], guard := none }) (v := (.int .i64 (c : Int))) rfl (by kernel_rfl) (fun _ _ _ h => h) (Or.inl ⟨by rfl, ?_⟩) (KB.out _ GB.out) ?_
          · intro w hSw
            (try dsimp only at hSw)
            go_simp
          simp only [Act.put, List.setIfInBounds_toArray, List.set_cons_zero, List.set_cons_succ]
          refine wpAnyT_take (i := 13) (oi := { dst := some 44, op := Op.binOp BinOp.mul 3 (Operand.tmp 41) (Operand.tmp 43) 3, type := 3, pos := "ref.go:225", after := #[{ on := 10, ground := Ground.data }, { on := 12, ground := Ground.data }], guard := none }) (v := (.int .i64 (q1 : Int))) rfl (by kernel_rfl) (fun _ _ _ h => h) (Or.inl ⟨by rfl, ?_⟩) (KB.out _ GB.out) ?_
          · intro w hSw
            (try dsimp only at hSw)
            go_simp
          simp only [Act.put, List.setIfInBounds_toArray, List.set_cons_zero, List.set_cons_succ]
          refine wpAnyT_take (i := 14) (oi := { dst := some 45, op := Op.move (Operand.tmp 7), type := 3, pos := "ref.go:225", after := #[], guard := none }) (v := (.int .i64 (j : Int))) rfl (by kernel_rfl) (fun _ _ _ h => h) (Or.inl ⟨by rfl, ?_⟩) (KB.out _ GB.out) ?_
          · intro w hSw
            (try dsimp only at hSw)
            go_simp
          simp only [Act.put, List.setIfInBounds_toArray, List.set_cons_zero, List.set_cons_succ]
          refine wpAnyT_take (i := 15) (oi := { dst := some 46, op := Op.binOp BinOp.add 3 (Operand.tmp 44) (Operand.tmp 45) 3, type := 3, pos := "ref.go:225", after := #[{ on := 13, ground := Ground.data }, { on := 14, ground := Ground.data }], guard := none }) (v := (.int .i64 (t1 : Int))) rfl (by kernel_rfl) (fun _ _ _ h => h) (Or.inl ⟨by rfl, ?_⟩) (KB.out _ GB.out) ?_
          · intro w hSw
            (try dsimp only at hSw)
            go_simp
          simp only [Act.put, List.setIfInBounds_toArray, List.set_cons_zero, List.set_cons_succ]
          refine wpAnyT_take (i := 16) (oi := { dst := some 47, op := Op.indexAddr 22 (Operand.tmp 40) (Operand.tmp 46), type := 0, pos := "ref.go:225", after := #[{ on := 9, ground := Ground.data }, { on := 15, ground := Ground.data }], guard := none }) (v := (.pointer (some ⟨b1, o1 + t1 * 2, none⟩))) rfl (by kernel_rfl) (fun _ _ _ h => h) (Or.inl ⟨by rfl, ?_⟩) (KB.out _ GB.out) ?_
          · intro w hSw
            (try dsimp only at hSw)
            go_simp
          simp only [Act.put, List.setIfInBounds_toArray, List.set_cons_zero, List.set_cons_succ]
          refine wpAnyT_take (i := 17) (oi := { dst := some 48, op := Op.load 43 (Operand.tmp 47), type := 43, pos := "ref.go:225", after := #[{ on := 16, ground := Ground.data }], guard := none }) (v := (.agg #[.bool n1, .slice a1 l1 d1])) rfl (by kernel_rfl) (fun _ _ _ h => h) (Or.inl ⟨by rfl, ?_⟩) (KB.out _ GB.out) ?_
          · intro w hSw
            (try dsimp only at hSw)
            go_simp
          simp only [Act.put, List.setIfInBounds_toArray, List.set_cons_zero, List.set_cons_succ]
          refine wpAnyT_one (i := 18) (o := { dst := some 49, op := Op.call { callee := Callee.value (Operand.func 22), args := #[Operand.tmp 48], argTypes := #[43] }, type := 43, pos := "ref.go:225", after := #[{ on := 17, ground := Ground.data }], guard := none }) (by kernel_rfl) rfl (fun K hK => ?_)
          go_simp
          go_at_call 22
          refine (HS.out _ GB.out).mono ?_
          rintro e w2 ⟨rr, rfl, m1, b⟩
          have lz2 := (show Below _ _ _ from b).size
          replace GB := hid (below_step GB.out b)
          have FI1 := hid (FI.out.step (below_step (w0 := wr) GBs.out b))
          have MB2 := hid (MBx.out.step (below_step (w0 := wr) GBs.out b))
          have M1 := hid (m1.mono (Nat.zero_le _))
          obtain ⟨nr, xr, ar, cr, rfl⟩ := m1.parts
          clear m1
          clear b
          refine hK.out _ _ (fun _ => KB.out _ GB.out) ?_
          clear hK
          refine wpAnyT_take (i := 19) (oi := { dst := some 50, op := Op.indexAddr 22 (Operand.tmp 32) (Operand.tmp 38), type := 0, pos := "ref.go:225", after := #[{ on := 1, ground := Ground.data }, { on := 7, ground := Ground.data }, { on := 0, ground := Ground.phase }, { on := 1, ground := Ground.phase }, { on := 2, ground := Ground.phase }, { on := 3, ground := Ground.phase }, { on := 4, ground := Ground.phase }, { on := 5, ground := Ground.phase }, { on := 6, ground := Ground.phase }, { on := 7, ground := Ground.phase }, { on := 8, ground := Ground.phase }, { on := 9, ground := Ground.phase }, { on := 10, ground := Ground.phase }, { on := 11, ground := Ground.phase }, { on := 12, ground := Ground.phase }, { on := 13, ground := Ground.phase }, { on := 14, ground := Ground.phase }, { on := 15, ground := Ground.phase }, { on := 16, ground := Ground.phase }, { on := 17, ground := Ground.phase }, { on := 18, ground := Ground.phase }], guard := none }) (v := (.pointer (some ⟨g, t2 * 2, none⟩))) rfl (by kernel_rfl) (fun _ _ _ h => h) (Or.inl ⟨by rfl, ?_⟩) (KB.out _ GB.out) ?_
          · intro w hSw
            (try dsimp only at hSw)
            go_simp
          simp only [Act.put, List.setIfInBounds_toArray, List.set_cons_zero, List.set_cons_succ]
          refine wpAnyT_one (i := 20) (o := { dst := none, op := Op.store 43 (Operand.tmp 50) (Operand.tmp 49), type := 0, pos := "ref.go:225", after := #[{ on := 19, ground := Ground.data }, { on := 18, ground := Ground.data }, { on := 18, ground := Ground.chain }, { on := 0, ground := Ground.phase }, { on := 1, ground := Ground.phase }, { on := 2, ground := Ground.phase }, { on := 3, ground := Ground.phase }, { on := 4, ground := Ground.phase }, { on := 5, ground := Ground.phase }, { on := 6, ground := Ground.phase }, { on := 7, ground := Ground.phase }, { on := 8, ground := Ground.phase }, { on := 9, ground := Ground.phase }, { on := 10, ground := Ground.phase }, { on := 11, ground := Ground.phase }, { on := 12, ground := Ground.phase }, { on := 13, ground := Ground.phase }, { on := 14, ground := Ground.phase }, { on := 15, ground := Ground.phase }, { on := 16, ground := Ground.phase }, { on := 17, ground := Ground.phase }, { on := 18, ground := Ground.phase }], guard := none }) (by kernel_rfl) rfl (fun K hK => ?_)
          obtain ⟨m0, am, lm, cm, e0, e1, e2, e3, -⟩ := FI1.out.cells (j := t2) (by rw [TL.out]; exact hp2)
          go_simp
          clear e0 e1 e2 e3
          obtain ⟨V3, hW⟩ : ∃ V3, ((w2.setCell ⟨g, t2 * 2, none⟩ (.bool nr)).setCell ⟨g, t2 * 2 + 1, none⟩ (.slice ar xr.length cr)) = V3 := ⟨_, rfl⟩
          have HN1 : Hid (TnJ w bm g r c i zs ka (matc r c (.slice (some ⟨b1, o1, none⟩) n3 c1)) (matc c r (.slice (some ⟨g, 0, none⟩) N N)) (c - (j + 1)) (.int .i64 ((j + 1 : Nat) : Int)) V3) := by
            unfold Hid
            rw [← hW]
            refine ⟨j + 1, rfl, by omega, rfl, ?_, MB2.out.ty (FI1.out.ty12 _ _) (bset (bset MB2.out.2.2.2 (by have := HGW.out; omega)) (by have := HGW.out; omega))⟩
            have := FI1.out.put (t := t2) (by rw [TL.out]; exact hp2) M1.out
            rw [TP.out] at this
            exact this
          rw [E3.out.symm] at HN1
          rw [hW]
          clear hW
          refine hK.out _ _ (fun h => absurd h (by decide)) ?_
          clear hK
          try simp only [Act.put]
          refine wpAnyT_done (by kernel_rfl) ?_ _
          clear HS FI MBx FI1 MB2 M1 GBs GB KB
          go_wp2_with fail
          go_roundg (c - (j + 1))
          case rel => exact HN1.out
          case measure => exact HMM2.out
        · have hlt2' : ¬ (j : Int) < (c : Int) := by omega
          obtain rfl : j = c := by omega
          have HN1 : Hid (TnI w bm g r j zs ka (matc r j ata) (matc j r (.slice (some ⟨g, 0, none⟩) N N)) (r - (i + 1)) (.int .i64 ((i + 1 : Nat) : Int)) wr) := by
            refine ⟨i + 1, rfl, by omega, rfl, ?_, MBx.out⟩
            rw [← tnL_row]; exact FI.out
          clear FI MBx HG
          go_wp2_with fail
          go_roundg (r - (i + 1))
          case rel => exact HN1.out
          case measure => exact HMM.out
    · have hlt' : ¬ (i : Int) < (r : Int) := by omega
      obtain rfl : i = r := by omega
      have m0 := MBx.out.2.2.1.at (i := 0) rfl
      have m1 := MBx.out.2.2.1.at (i := 1) rfl
      have m2 := MBx.out.2.2.1.at (i := 2) rfl
      have r0 := MBx.out.2.1.at (i := 0) rfl
      have r1 := MBx.out.2.1.at (i := 1) rfl
      have r2 := MBx.out.2.1.at (i := 2) rfl
      have f0 := MBx.out.2.1.fz 0
      have f1 := MBx.out.2.1.fz 1
      have f2 := MBx.out.2.1.fz 2
      have hln : (tnL i c zs i 0).length = N := by rw [tnL_len]; exact HNN.out
      obtain ⟨ps, p1, p2⟩ := FI.out.done (by rw [hln]; omega)
      rw [hln] at p1
      have FIN : Hid (GivesMO w c i (turnZ i c zs) ka (.returned (.tuple #[.agg #[.int .i64 (c : Int), .int .i64 (i : Int), .slice (some ⟨g, 0, none⟩) N N], .int .i64 0])) (put3 wr (w.heap.size + 1) (.int .i64 (c : Int)) (.int .i64 (i : Int)) (.slice (some ⟨g, 0, none⟩) N N))) := by
        have t1 : Ty 24 wr (put3 wr (w.heap.size + 1) (.int .i64 (c : Int)) (.int .i64 (i : Int)) (.slice (some ⟨g, 0, none⟩) N N)) := ((Ty.set MBx.out.2.1).trans (Ty.set (MBx.out.2.1.set 0 _))).trans (Ty.set ((MBx.out.2.1.set 0 _).set 1 _))
        exact ⟨_, rfl, ⟨_, ps, rfl, (p1.ty t1 (by decide)).1, (p2.ty t1 (by decide)).zcs, by unfold turnZ; rw [tnL_len], hc, hr⟩, below_put3 MBx.out.2.2.2 (by omega) _ _ _⟩
      have PG := hid (MBx.out.2.1.put3 (.int .i64 (c : Int)) (.int .i64 (i : Int)) (.slice (some ⟨g, 0, none⟩) N N))
      clear FI MBx HG p1 p2
      go_wp2
      exact bodyPost_ret (mback1 Tryz.results8 PG.out _ (by rfl) (by rfl)) rfl FIN.out
end Go.Proofs.YtiedmlfiboalhaaGreat
