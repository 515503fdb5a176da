/-
  QFil9ToListQ6: Fil9, GcdAll6, ListQ6, joined.
-/
import Derived.Test.YtkikiddoiigbjaaQLst9
import Derived.Deep.LoopGhost
import Derived.Test.YtkikiddoiigbjaaQListP6ToCells6
import Derived.Test.YtkikiddoiigbjaaQGcd6
import Derived.Test.YtkikiddoiigbjaaQZModToExtPure

/- Fil9 -/
namespace Go.Proofs.Ytkikiddoiigbjaa
open Go.RowKit
set_option linter.unusedVariables false

def Fil (wx : World) (g n i : Nat) (F : Nat → Int) (k : Nat) : Prop := ∃ ps, Arr wx g ps ∧ ps.length = n ∧ ∀ (j : Nat) (p : Value × Value), j < i → ps[j]? = some p → Zc wx (.agg #[p.1, p.2]) (F j) k
theorem Fil.start {w : World} {g n : Nat} (h : Arr w g (List.replicate n zpair)) (F : Nat → Int) (k : Nat) : Fil w g n 0 F k := ⟨_, h, by simp, fun j p hj => by omega⟩
theorem Fil.step {w w' : World} {g n i : Nat} {F : Nat → Int} {k : Nat} (h : Fil w g n i F k) (hb : Below w.heap.size w w') : Fil w' g n i F k := by
  obtain ⟨ps, h1, h2, h3⟩ := h
  exact ⟨ps, h1.step hb, h2, fun j p hj hp => (h3 j p hj hp).now hb⟩
theorem Fil.put {w : World} {g n i : Nat} {F : Nat → Int} {k : Nat} {x y : Value} (h : Fil w g n i F k) (hi : i < n) (hz : Zc w (.agg #[x, y]) (F i) k) : Fil ((w.setCell ⟨g, i * 2, none⟩ x).setCell ⟨g, i * 2 + 1, none⟩ y) g n (i + 1) F k := by
  obtain ⟨ps, h1, h2, h3⟩ := h
  have hw := h1.wk (i := i) (by omega) x y
  refine ⟨ps.set i (x, y), h1.put (by omega) hz.zi.isI, by simpa using h2, fun j p hj hp => ?_⟩
  by_cases q : j = i
  · subst q
    rw [List.getElem?_set_self (by omega), Option.some.injEq] at hp
    subst hp
    exact hz.wk hw
  · rw [List.getElem?_set_ne (by omega)] at hp
    exact (h3 j p (by omega) hp).wk hw
theorem Fil.blk {w : World} {g n i : Nat} {F : Nat → Int} {k : Nat} (h : Fil w g n i F k) : g < w.heap.size := by
  obtain ⟨ps, h1, h2, h3⟩ := h
  exact h1.1.blk
theorem Fil.cells {w : World} {g n i j : Nat} {F : Nat → Int} {k : Nat} (h : Fil w g n i F k) (hj : j < n) : ∃ m a l c, w.cell? ⟨g, j * 2, none⟩ = some (.bool m) ∧ w.cell? ⟨g, j * 2 + 1, none⟩ = some (.slice a l c) ∧ w.frozen? ⟨g, j * 2, none⟩ = false ∧ w.frozen? ⟨g, j * 2 + 1, none⟩ = false := by
  obtain ⟨ps, h1, h2, h3⟩ := h
  have hp : ps[j]? = some (ps[j]'(by omega)) := List.getElem?_eq_getElem (by omega)
  obtain ⟨m, a, l, c, e⟩ := h1.2 _ (List.getElem_mem (l := ps) (n := j) (by omega))
  have q := h1.at hp
  rw [e] at q
  exact ⟨m, a, l, c, q.1, q.2, h1.1.fz _, h1.1.fz _⟩
theorem Fil.done {w : World} {g n : Nat} {F : Nat → Int} {k : Nat} (h : Fil w g n n F k) {B : Nat} (hB : B ≤ g) (hn : n ≤ 1048576) : ∃ ps, Prs B w (.slice (some ⟨g, 0, none⟩) n n) ps ∧ Zcs w ps ((List.range n).map F) k := by
  obtain ⟨ps, h1, rfl, h3⟩ := h
  refine ⟨ps, h1.prs hB hn (Nat.le_refl _), by simp, fun j p z hp hz => ?_⟩
  have hj : j < ps.length := (List.getElem?_eq_some_iff.1 hp).1
  rw [List.getElem?_map, List.getElem?_range hj, Option.map_some, Option.some.injEq] at hz
  subst hz
  exact h3 j p hj hp
theorem Zl.form9 {w : World} {v : Value} {zs : List Int} {k : Nat} (h : Zl w v zs k) : ∃ a c, v = .slice a zs.length c ∧ zs.length ≤ c ∧ zs.length ≤ 1048576 ∧ (zs ≠ [] → ∃ b off, a = some ⟨b, off, none⟩) := by
  obtain ⟨a, c, h1, h2, h3, h4⟩ := h
  refine ⟨a, c, h1, h2, h3, fun hne => ?_⟩
  rcases h4 with h4 | ⟨b, off, h5, _⟩
  · exact absurd h4 hne
  · exact ⟨b, off, h5⟩
theorem Zl.at9 {w : World} {b off l c : Nat} {zs : List Int} {k : Nat} (h : Zl w (.slice (some ⟨b, off, none⟩) l c) zs k) {i : Nat} (hi : i < zs.length) : ∃ n, ∃ xs : List Int, ∃ a c, w.cell? ⟨b, off + i * 2, none⟩ = some (.bool n) ∧ w.cell? ⟨b, off + i * 2 + 1, none⟩ = some (.slice a xs.length c) ∧ Zi w (.agg #[.bool n, .slice a xs.length c]) zs[i] k := by
  obtain ⟨a', c', h1, h2, h3, h4⟩ := h
  rcases h4 with h4 | ⟨b', off', h5, h6, h7⟩
  · subst h4; simp at hi
  · simp only [Value.slice.injEq] at h1
    obtain ⟨rfl, -, -⟩ := h1
    simp only [Option.some.injEq, Addr.mk.injEq, and_true] at h5
    obtain ⟨rfl, rfl⟩ := h5
    obtain ⟨x, y, q1, q2, q3⟩ := h7 i hi
    have q3' := q3
    obtain ⟨n, xs, a, c, e, -⟩ := q3
    simp only [Value.agg.injEq, Array.mk.injEq, List.cons.injEq, and_true] at e
    obtain ⟨rfl, rfl⟩ := e
    rw [Nat.mul_comm 2 i] at q1 q2
    exact ⟨n, xs, a, c, q1, q2, q3'⟩
theorem Zm.parts {B : Nat} {w : World} {v : Value} {z : Int} {k : Nat} (h : Zm B w v z k) : ∃ n, ∃ xs : List Int, ∃ a c, v = .agg #[.bool n, .slice a xs.length c] := by
  obtain ⟨n, xs, a, c, e, -⟩ := h
  exact ⟨n, xs, a, c, e⟩
end Go.Proofs.Ytkikiddoiigbjaa

/- GcdAll6 -/
namespace Go.Proofs.Ytkikiddoiigbjaa
open Go.RowKit
set_option linter.unusedVariables false

def GAH (w : World) (L : List Int) (k n gk : Nat) (s : Value) (wx : World) : Prop :=
  ∃ i : Nat, s = .int .i64 (i : Int) ∧ i ≤ n ∧ gk = n - i ∧ (∃ m a l c, Duo wx (w.heap.size + 1) (.bool m) (.slice a l c) ∧ Zm 0 wx (.agg #[.bool m, .slice a l c]) (gcdL (L.take i)) k) ∧ Duo wx w.heap.size (.bool false) (.slice none 0 0) ∧ Below w.heap.size w wx
theorem zm_zero9 (w : World) (k : Nat) : Zm 0 w (.agg #[.bool false, .slice none 0 0]) 0 k := ⟨false, [], none, 0, rfl, Mine.nil _ _, ⟨WF.nil, rfl⟩, fun _ => rfl, by simp [iv, val], Nat.zero_le _⟩
set_option maxHeartbeats 1600000 in
set_option maxRecDepth 100000 in
theorem gcdAll6 {w : World} {v : Value} {L : List Int} {k : Nat} (hv : Zl w v L k) (hk : k ≤ 68719476736) :
    Calls Try.prog 7 #[v] w fun e w' => ∃ r, e = .returned r ∧ Zm 0 w' r (gcdL L) k ∧ Below w.heap.size w w' := by
  have V0 := hid hv
  obtain ⟨a0, c0, rfl, hc0, hn0, hf0⟩ := hv.form9
  have GT : Hid (gcdL L = gcdL (L.take L.length)) := by unfold Hid; rw [List.take_length]
  obtain ⟨n, hn⟩ : ∃ n, L.length = n := ⟨_, rfl⟩
  rw [hn] at V0 hc0 hn0 GT ⊢
  have HN := hid hn
  have F0 := hid hf0
  have HK := hid hk
  clear hv hf0 hn hk
  obtain ⟨W0, hW⟩ : ∃ W0, (w.alloc zbox).alloc zbox = W0 := ⟨_, rfl⟩
  obtain ⟨b0, sz0⟩ := alloc2 w zbox zbox
  rw [hW] at b0 sz0
  have p2 : Duo W0 w.heap.size (.bool false) (.slice none 0 0) := by rw [← hW]; exact (Duo.new w _ _).later (by simp) _
  have p3 : Duo W0 (w.heap.size + 1) (.bool false) (.slice none 0 0) := by
    rw [← hW]
    have := Duo.new (w.alloc zbox) (.bool false) (.slice none 0 0)
    simpa using this
  have H0 : Hid (GAH w L k n n (.int .i64 0) W0) := ⟨0, rfl, Nat.zero_le _, by omega, ⟨_, _, _, _, p3, zm_zero9 _ _⟩, p2, b0⟩
  have EW := hid hW
  clear b0 sz0 hW p2 p3
  go_enter Try.func7, Try.ntmps7
  go_wp2_with fail
  rw [EW.out]
  clear EW
  go_loopg [8] n (fun gk s8 wx => GAH w L k n gk s8 wx)
  case atStart => exact H0.out
  case round =>
    clear H0
    obtain ⟨i, rfl, hin, hg, ⟨m, ag, lg, cg, hd, hz⟩, hr, hG⟩ := hrel
    have PG := hid hd
    have ZG := hid hz
    have PR := hid hr
    have G := hid hG
    have HG := hid hg
    clear hd hz hr hG hg
    by_cases hlt : i < n
    · have hlt' : (i : Int) < (n : Int) := by omega
      obtain ⟨b1, o1, rfl⟩ := F0.out (fun e => by have := HN.out; rw [e] at this; simp at this; omega)
      obtain ⟨nf, xf, adf, qf, k0, k1, zf⟩ := (V0.out.now G.out).at9 (i := i) (by rw [HN.out]; exact hlt)
      obtain ⟨V1, hV⟩ : ∃ V1, wr.alloc (duo (.bool nf) (.slice adf xf.length qf)) = V1 := ⟨_, rfl⟩
      obtain ⟨b, sz1⟩ := alo1 wr (duo (.bool nf) (.slice adf xf.length qf))
      rw [hV] at b sz1
      have PN : Hid (Duo V1 wr.heap.size (.bool nf) (.slice adf xf.length qf)) := by unfold Hid; rw [← hV]; exact Duo.new wr _ _
      have HS := hid (gcd_z (ZG.out.now b).zi (zf.now b) HK.out)
      have EG : Hid ((Int.gcd (gcdL (L.take i)) (L[i]'(by rw [HN.out]; exact hlt)) : Int) = gcdL (L.take (i + 1))) := (gcdL_take (by rw [HN.out]; exact hlt)).symm
      rw [EG.out] at HS
      have PG1 := hid (PG.out.step b)
      have PR1 := hid (PR.out.step b)
      have G1 := hid (below_step G.out b)
      have n0 := PN.out.c0
      have n1 := PN.out.c1
      have g0 := PG1.out.c0
      have g1 := PG1.out.c1
      rw [← hV] at n0 n1 g0 g1
      have EV := hid hV
      have hw := wrapI9 (i := i) (by omega)
      clear zf b sz1 hV PN G EG PG PR ZG
      go_wp2_with fail
      rw [EV.out]
      refine HS.out.mono ?_
      rintro e w1 ⟨r, rfl, m1, b⟩
      have PG2 := hid (PG1.out.step b)
      have PR2 := hid (PR1.out.step b)
      have G2 := hid (below_step G1.out b)
      have M1 := hid (m1.mono (Nat.zero_le _))
      obtain ⟨nr, xr, ar, cr, rfl⟩ := m1.parts
      have e0 := PG2.out.c0
      have e1 := PG2.out.c1
      have e2 := PG2.out.fz 0
      have e3 := PG2.out.fz 1
      have HN1 : Hid (GAH w L k n (n - (i + 1)) (.int .i64 ((i + 1 : Nat) : Int)) ((w1.setCell ⟨w.heap.size + 1, 0, none⟩ (.bool nr)).setCell ⟨w.heap.size + 1, 1, none⟩ (.slice ar xr.length cr))) :=
        ⟨i + 1, rfl, by omega, rfl, ⟨_, _, _, _, PG2.out.set _ _, M1.out.box PG2.out _ _⟩, PR2.out.box (by omega) _ _, bset (bset G2.out (by omega)) (by omega)⟩
      have HMM : Hid (n - (i + 1) < gk) := by unfold Hid; rw [HG.out]; omega
      clear HS HG m1 b k0 k1 n0 n1 g0 g1 EV PG1 PR1 G1 PG2 PR2 G2 M1
      go_wp2_with fail
      go_roundg (n - (i + 1))
      case rel => exact HN1.out
      case measure => exact HMM.out
    · have hlt' : ¬ (i : Int) < (n : Int) := by omega
      obtain rfl : i = n := by omega
      rw [← GT.out] at ZG
      have g0 := PG.out.c0
      have g1 := PG.out.c1
      have r0 := PR.out.c0
      have r1 := PR.out.c1
      have f0 := PR.out.fz 0
      have f1 := PR.out.fz 1
      have FIN : Hid (∃ r, Ending.returned (.agg #[.bool m, .slice ag lg cg]) = .returned r ∧ Zm 0 ((wr.setCell ⟨w.heap.size, 0, none⟩ (.bool m)).setCell ⟨w.heap.size, 1, none⟩ (.slice ag lg cg)) r (gcdL L) k ∧ Below w.heap.size w ((wr.setCell ⟨w.heap.size, 0, none⟩ (.bool m)).setCell ⟨w.heap.size, 1, none⟩ (.slice ag lg cg))) := ⟨_, rfl, ZG.out.box PR.out _ _, bset (bset G.out (Nat.le_refl _)) (Nat.le_refl _)⟩
      clear HG ZG G
      go_wp2
      exact bodyPost_ret (zback Try.results7 (PR.out.set _ _) _ (by rfl)) rfl FIN.out
end Go.Proofs.Ytkikiddoiigbjaa

/- ListQ6 -/
namespace Go.Proofs.Ytkikiddoiigbjaa
set_option linter.unusedVariables false

/-- The sum of the first i products. -/
def dotN (L : List Int) (C : Nat → Int) : Nat → Int
  | 0 => 0
  | i + 1 => L.getD i 0 * C i + dotN L C i
/-- The product of the last d of n. -/
def behN (X : Nat → Int) (n : Nat) : Nat → Int
  | 0 => 1
  | d + 1 => behN X n d * X (n - (d + 1))
/-- The multipliers that ExtAll answers. -/
def mulN (X Y : Nat → Int) (n i : Nat) : Int := Y i * behN X n (n - (i + 1))
theorem exts_from {L : List Int} {X Y : Nat → Int} {n : Nat} (h : Exts L X Y n) : ∀ d, d ≤ n → gcdL (L.take (n - d)) * behN X n d + (dotN L (mulN X Y n) n - dotN L (mulN X Y n) (n - d)) = gcdL (L.take n) := by
  intro d
  induction d with
  | zero => intro _; simp [behN]
  | succ d ih =>
    intro hd
    have hi : n - (d + 1) < n := by omega
    have e1 : n - d = n - (d + 1) + 1 := by omega
    have q := ih (by omega)
    rw [e1] at q
    have r := exts_back h hi q
    have e2 : n - (n - (d + 1) + 1) = d := by omega
    have e3 : dotN L (mulN X Y n) (n - (d + 1) + 1) = L.getD (n - (d + 1)) 0 * (Y (n - (d + 1)) * behN X n d) + dotN L (mulN X Y n) (n - (d + 1)) := by
      show L.getD (n - (d + 1)) 0 * mulN X Y n (n - (d + 1)) + _ = _
      unfold mulN
      rw [e2]
    rw [e3] at r
    show gcdL (L.take (n - (d + 1))) * (behN X n d * X (n - (d + 1))) + _ = _
    omega
/-- The multipliers make the divisor. -/
theorem exts_sum {L : List Int} {X Y : Nat → Int} (h : Exts L X Y L.length) : dotN L (mulN X Y L.length) L.length = gcdL L := by
  have q := exts_from h L.length (Nat.le_refl _)
  rw [Nat.sub_self, List.take_zero, List.take_length] at q
  simp only [gcdL, List.foldl_nil, dotN] at q ⊢
  omega
/-- The back order has the same. -/
theorem gcdL_reverse (L : List Int) : gcdL L.reverse = gcdL L := gcdL_same (by simp)
theorem gcdL_more (L : List Int) (n : Int) : gcdL (L.reverse ++ [n]) = (Int.gcd (gcdL L) n : Int) := by rw [gcdL_append, gcdL_reverse]
/-- The list read from behind, as far as place i. -/
theorem reverse_take {L : List Int} {i : Nat} (h : i < L.length) : L.reverse.take (i + 1) = L.reverse.take i ++ [L[L.length - 1 - i]] := by
  rw [List.take_succ_eq_append_getElem (by simpa using h), List.getElem_reverse]
end Go.Proofs.Ytkikiddoiigbjaa
