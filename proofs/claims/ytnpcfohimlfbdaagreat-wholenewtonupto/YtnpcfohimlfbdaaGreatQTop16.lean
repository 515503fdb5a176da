/-
 Top16: the law's word, minus, two, least, sameInt, sound, isZero, detWakes.
-/
import Derived.Test.YtnpcfohimlfbdaaGreatQCpy16
import Derived.Test.YtnpcfohimlfbdaaGreatQDt13ToPickA9
import Derived.Test.YtnpcfohimlfbdaaGreatQPickB9ToSd13
set_option maxRecDepth 100000
set_option maxHeartbeats 6400000
set_option linter.unusedVariables false
set_option linter.unusedSimpArgs false
namespace Go.Proofs.YtnpcfohimlfbdaaGreat
open Go.RowKit

theorem canon_last : ∀ {xs : List Int}, Canon xs → ∀ (m : Nat) (h : m < xs.length), xs.length = m + 1 → xs[m] ≠ 0
 | [], _, m, h, _ => by simp at h
 | [x], hc, m, h, e => by
  obtain rfl : m = 0 := by simpa using e.symm
  intro q
  have q : x = 0 := q
  subst q
  have := canon_zero hc (by simp [val])
  cases this
 | x :: y :: r, hc, m, h, e => by
  obtain ⟨m, rfl⟩ : ∃ m', m = m' + 1 := ⟨m - 1, by simp at e; omega⟩
  simp only [List.getElem_cons_succ]
  exact canon_last (canon_tail hc) m (by simpa using h) (by simpa using e)
theorem tword {n : Int} (h0 : 0 < n) (h1 : n ≤ 18446744073709551615) (w : World) :
  Calls Tryz.prog 44 #[.int .u64 n] w fun e w' => ∃ a c, e = .returned (.agg #[.bool false, .slice a 1 c]) ∧ Zi w' (.agg #[.bool false, .slice a 1 c]) n 1 ∧ Below w.heap.size w w' := by
 obtain ⟨WX, hWX⟩ : ∃ WX, (w.alloc (duo (.bool false) (.slice (some ⟨w.heap.size + 1, 0, none⟩) 1 1))).alloc (.cells #[.int .u64 n] 51) = WX := ⟨_, rfl⟩
 obtain ⟨b0, sz0⟩ := alloc2 w (duo (.bool false) (.slice (some ⟨w.heap.size + 1, 0, none⟩) 1 1)) (.cells #[.int .u64 n] 51)
 rw [hWX] at b0 sz0
 have dX : Duo WX w.heap.size (.bool false) (.slice (some ⟨w.heap.size + 1, 0, none⟩) 1 1) := by rw [← hWX]; exact duo_late (duo_at rfl) _
 have sX : Sl WX.heap.size WX (.slice (some ⟨w.heap.size + 1, 0, none⟩) 1 1) [n] := by
  have := word_one (w.alloc (duo (.bool false) (.slice (some ⟨w.heap.size + 1, 0, none⟩) 1 1))) n ⟨by omega, h1⟩
  rw [hWX] at this
  simpa using this
 have eV : iv false [n] = n := by simp [iv, val]
 have FIN : Hid (Zi WX (.agg #[.bool false, .slice (some ⟨w.heap.size + 1, 0, none⟩) 1 1]) n 1) := ⟨false, [n], _, _, rfl, sX, eV, by simp⟩
 have EW := hid hWX
 have DX := hid dX
 have BX := hid b0
 have hne : ¬ n = 0 := by omega
 have hnb : (n == 0) = false := by simp; omega
 clear sX dX eV b0 hWX h0 h1
 go_enter Tryz.func44, Tryz.ntmps44
 go_wp2
 rw [EW.out]
 exact bodyPost_ret (zback Tryz.results44 DX.out _ (by rfl)) rfl ⟨_, _, rfl, FIN.out, BX.out⟩
theorem can_one {n : Int} (h0 : 0 < n) (h1 : n ≤ 18446744073709551615) : Canon [n] := by
 refine ⟨WF.cons ⟨by omega, show n < 18446744073709551616 by omega⟩ WF.nil, ?_⟩
 exact wid_is (by simp) (fun j h hj => by simp at h; simp at hj; omega) (fun _ h' => by simp; omega)
theorem tminus {n : Int} (h0 : 0 < n) (h1 : n ≤ 18446744073709551615) (w : World) :
  Calls Tryz.prog 21 #[.int .u64 n] w fun e w' => ∃ a c, e = .returned (.agg #[.bool true, .slice a 1 c]) ∧ Zc w' (.agg #[.bool true, .slice a 1 c]) (-n) 1 ∧ Below w.heap.size w w' := by
 obtain ⟨WX, hWX⟩ : ∃ WX, (w.alloc (duo (.bool true) (.slice (some ⟨w.heap.size + 1, 0, none⟩) 1 1))).alloc (.cells #[.int .u64 n] 51) = WX := ⟨_, rfl⟩
 obtain ⟨b0, sz0⟩ := alloc2 w (duo (.bool true) (.slice (some ⟨w.heap.size + 1, 0, none⟩) 1 1)) (.cells #[.int .u64 n] 51)
 rw [hWX] at b0 sz0
 have dX : Duo WX w.heap.size (.bool true) (.slice (some ⟨w.heap.size + 1, 0, none⟩) 1 1) := by rw [← hWX]; exact duo_late (duo_at rfl) _
 have sX : Sl WX.heap.size WX (.slice (some ⟨w.heap.size + 1, 0, none⟩) 1 1) [n] := by
  have := word_one (w.alloc (duo (.bool true) (.slice (some ⟨w.heap.size + 1, 0, none⟩) 1 1))) n ⟨by omega, h1⟩
  rw [hWX] at this
  simpa using this
 have eV : iv true [n] = -n := by simp [iv, val]
 have FIN : Hid (Zc WX (.agg #[.bool true, .slice (some ⟨w.heap.size + 1, 0, none⟩) 1 1]) (-n) 1) := ⟨true, [n], _, _, rfl, sX, can_one h0 h1, (fun e => by cases e), eV, by simp⟩
 have EW := hid hWX
 have DX := hid dX
 have BX := hid b0
 clear sX dX eV b0 hWX h0 h1
 go_enter Tryz.func21, Tryz.ntmps21
 go_wp2
 rw [EW.out]
 exact bodyPost_ret (zback Tryz.results21 DX.out _ (by rfl)) rfl ⟨_, _, rfl, FIN.out, BX.out⟩
theorem tleast_yes {w : World} {v : Value} {z : Int} {k : Nat} (h : Zc w v z k) : Calls Tryz.prog 29 #[v] w fun e w' => e = .returned (.bool true) ∧ Below w.heap.size w w' := by
 obtain ⟨n, xs, a, c, rfl, s0, q0, e0, z0, k0⟩ := h
 obtain ⟨W0, hW⟩ : ∃ W0, w.alloc (duo (.bool n) (.slice a xs.length c)) = W0 := ⟨_, rfl⟩
 obtain ⟨b0, sz0⟩ := alo1 w (duo (.bool n) (.slice a xs.length c))
 rw [hW] at b0 sz0
 have P0 : Duo W0 w.heap.size (.bool n) (.slice a xs.length c) := by rw [← hW]; exact Duo.new w _ _
 have x0 := P0.c0
 have x1 := P0.c1
 rw [← hW] at x0 x1
 have HB := hid b0
 have EW := hid hW
 by_cases hx : xs = []
 ·subst hx
  obtain rfl := e0 rfl
  have HB2 : Hid (Below w.heap.size w (w.alloc (.cells #[.bool false, .slice a 0 c] 29))) := (alo1 w _).1
  clear s0 q0 e0 z0 k0 b0 sz0 hW P0 HB EW
  go_enter Tryz.func29, Tryz.ntmps29
  go_wp2
  go_ret
  exact ⟨rfl, HB2.out⟩
 ·obtain ⟨m, hm⟩ : ∃ m, xs.length = m + 1 := ⟨xs.length - 1, by have := List.length_pos_iff.2 hx; omega⟩
  have hl := canon_last q0 m (by omega) hm
  obtain ⟨x, hx'⟩ : ∃ x, xs[m]'(by omega) = x := ⟨_, rfl⟩
  rw [hx'] at hl
  obtain ⟨hw, a', cap, e1, hlc, hcm, hmm⟩ := s0.now b0
  simp only [Value.slice.injEq] at e1
  obtain ⟨rfl, -, rfl⟩ := e1
  rcases hmm with e | ⟨b, off, rfl, hb, hc⟩
  ·exact absurd e hx
  have hcm' := hc m (by omega)
  rw [hx', ← hW] at hcm'
  rw [hm] at x0 x1 hlc hcm EW hcm' ⊢
  have hnb : (x != 0) = true := by simp; exact hl
  have hz0 : ¬ ((m + 1 : Nat) : Int) = 0 := by omega
  have hzb : (((m + 1 : Nat) : Int) == 0) = false := by simp; omega
  have hwr : IntKind.i64.wrap (((m + 1 : Nat) : Int) - 1) = (m : Int) := by rw [wrap_is] <;> omega
  have hml : (m : Int) < ((m + 1 : Nat) : Int) := by omega
  clear s0 q0 e0 z0 k0 b0 sz0 hW P0 hx hm hx' hw hb hc
  go_enter Tryz.func29, Tryz.ntmps29
  go_wp2
  go_ret
  exact ⟨rfl, by rw [EW.out]; exact HB.out⟩
theorem wrapI16 {i L : Nat} (h : i < L) (hL : L ≤ 35184372088832) : IntKind.i64.wrap ((i : Int) + 1) = ((i + 1 : Nat) : Int) := by rw [wrap_is] <;> omega
theorem sameInt_yes {w : World} {v u : Value} {z y : Int} {k l : Nat} (h : Zc w v z k) (h' : Zc w u y l) (hzy : z = y) :
  Calls Tryz.prog 10 #[v, u] w fun e w' => e = .returned (.bool true) ∧ Below w.heap.size w w' := by
 subst hzy
 have A0 := hid h
 have B0 := hid h'
 obtain ⟨n, xs, a, c, rfl, s0, q0, e0, z0, k0⟩ := h
 obtain ⟨m, ys, b, d, rfl, s1, q1, e1, z1, k1⟩ := h'
 obtain ⟨rfl, rfl⟩ := iv_one (z0.trans z1.symm) q0 q1 e0 e1
 obtain ⟨W0, hW⟩ : ∃ W0, (w.alloc (duo (.bool n) (.slice a xs.length c))).alloc (duo (.bool n) (.slice b xs.length d)) = W0 := ⟨_, rfl⟩
 have b0 := (alloc2 w (duo (.bool n) (.slice a xs.length c)) (duo (.bool n) (.slice b xs.length d))).1
 rw [hW] at b0
 have P2 : Hid (Duo W0 w.heap.size (.bool n) (.slice a xs.length c)) := by unfold Hid; rw [← hW]; exact (Duo.new w _ _).later (by simp) _
 have P3 : Hid (Duo W0 (w.heap.size + 1) (.bool n) (.slice b xs.length d)) := by
  unfold Hid
  rw [← hW]
  have := Duo.new (w.alloc (duo (.bool n) (.slice a xs.length c))) (.bool n) (.slice b xs.length d)
  simpa using this
 have HC := hid (tleast_yes (A0.out.now b0))
 have S0 := hid (s0.now b0)
 have S1 := hid (s1.now b0)
 replace B0 := hid (B0.out.now b0)
 have G := hid b0
 obtain ⟨L, hL⟩ : ∃ L, xs.length = L := ⟨_, rfl⟩
 rw [hL] at hW P2 P3 HC S0 S1 B0 ⊢
 have HL := hid hL
 have x0 := P2.out.c0
 have y0 := P3.out.c0
 have x1 := P2.out.c1
 have y1 := P3.out.c1
 rw [← hW] at x0 y0 x1 y1
 have EW := hid hW
 have hq : (n != n) = false := by simp
 have hql : ((L : Int) != (L : Int)) = false := by simp
 clear s0 s1 z0 z1 b0 q0 q1 e0 e1 hW A0 k0 k1 hL
 go_enter Tryz.func10, Tryz.ntmps10
 go_wp2_with fail
 rw [EW.out]
 clear EW x0 y0 x1 y1
 refine HC.out.mono ?_
 rintro e w1 ⟨rfl, b1⟩
 replace P2 := hid (P2.out.step b1)
 replace P3 := hid (P3.out.step b1)
 replace S0 := hid (S0.out.now b1)
 replace S1 := hid (S1.out.now b1)
 replace G := hid (below_step G.out b1)
 have HC2 := hid (tleast_yes (B0.out.now b1))
 have y0 := P3.out.c0
 have y1 := P3.out.c1
 clear b1 HC B0
 go_wp2_with fail
 refine HC2.out.mono ?_
 rintro e w2 ⟨rfl, b1⟩
 replace P2 := hid (P2.out.step b1)
 replace P3 := hid (P3.out.step b1)
 replace S0 := hid (S0.out.now b1)
 replace S1 := hid (S1.out.now b1)
 replace G := hid (below_step G.out b1)
 clear b1 HC2 y0 y1
 go_wp2_with fail
 go_loopw [5] (fun i wr => ∃ k q : Nat, k ≤ L ∧ i = .int .i64 k ∧ wr = w2.drewN q) (fun i _ => L - (intOf i).toNat)
 case atStart => exact ⟨0, 0, Nat.zero_le _, rfl, rfl⟩
 case round =>
  obtain ⟨i, q, hi, rfl, rfl⟩ := hrel
  have x0 : ∀ q, (w2.drewN q).cell? ⟨w.heap.size, 0, none⟩ = some (.bool n) := fun q => by simpa using P2.out.c0
  have x1 : ∀ q, (w2.drewN q).cell? ⟨w.heap.size, 1, none⟩ = some (.slice a L c) := fun q => by simpa using P2.out.c1
  have y1 : ∀ q, (w2.drewN q).cell? ⟨w.heap.size + 1, 1, none⟩ = some (.slice b L d) := fun q => by simpa using P3.out.c1
  by_cases hlt : i < L
  ·have hlt' : (i : Int) < (L : Int) := by omega
   have hi1 : i < xs.length := by rw [HL.out]; exact hlt
   obtain ⟨_, a1, cap1, e1, hlc1, hcm1, hm1⟩ := S0.out
   simp only [Value.slice.injEq] at e1
   obtain ⟨rfl, -, rfl⟩ := e1
   obtain ⟨_, a2, cap2, e2, hlc2, hcm2, hm2⟩ := S1.out
   simp only [Value.slice.injEq] at e2
   obtain ⟨rfl, -, rfl⟩ := e2
   rcases hm1 with e | ⟨g1, o1, rfl, hb1, hc1⟩
   ·subst e; simp at hi1
   rcases hm2 with e | ⟨g2, o2, rfl, hb2, hc2⟩
   ·subst e; simp at hi1
   have c1 : ∀ q, (w2.drewN q).cell? ⟨g1, o1 + i, none⟩ = some (.int .u64 xs[i]) := fun q => by simpa using hc1 i hi1
   have c2 : ∀ q, (w2.drewN q).cell? ⟨g2, o2 + i, none⟩ = some (.int .u64 xs[i]) := fun q => by simpa using hc2 i hi1
   obtain ⟨x, hx⟩ : ∃ x, xs[i] = x := ⟨_, rfl⟩
   rw [hx] at c1 c2
   have ht : (x != x) = false := by simp
   have hw := wrapI16 (i := i) (L := L) hlt (by have := HL.out; omega)
   clear hc1 hc2 hx hb1 hb2 hlc1 hlc2 hcm1 hcm2
   go_wp2
   go_quiet (fail)
   go_wp2
   go_roundw
   case rel => exact ⟨i + 1, _, by omega, by go_num, rfl⟩
   case measure => simp [intOf]; omega
  ·have hlt' : ¬ (i : Int) < (L : Int) := by omega
   have FIN : Hid (Below w.heap.size w (w2.drewN q)) := below_drewN G.out q
   go_wp2
   go_ret
   exact ⟨rfl, FIN.out⟩
theorem tzero_yes {w : World} {v : Value} {k : Nat} (h : Zc w v 0 k) : Calls Tryz.prog 19 #[v] w fun e w' => e = .returned (.bool true) ∧ Below w.heap.size w w' := by
 obtain ⟨n, xs, a, c, rfl, s0, q0, e0, z0, k0⟩ := h
 obtain ⟨rfl, rfl⟩ := iv_one (n := n) (m := false) (xs := xs) (ys := []) (by rw [z0]; simp [iv, val]) q0 ⟨WF.nil, rfl⟩ e0 (fun _ => rfl)
 have HB := hid (alo1 w (duo (.bool false) (.slice a ([] : List Int).length c))).1
 have P0 := Duo.new w (.bool false) (.slice a ([] : List Int).length c)
 have x0 := P0.c0
 have x1 := P0.c1
 clear s0 q0 e0 z0 k0 P0
 go_enter Tryz.func19, Tryz.ntmps19
 go_wp2
 go_ret
 exact ⟨rfl, HB.out⟩
instance (r c : Int) (l : Nat) : Decidable (Snd r c l) := by unfold Snd; infer_instance
theorem tsound_any {w : World} {r c : Int} {a : Option Addr} {l cap : Nat} (hl : l ≤ 1048576) : Calls Tryz.prog 8 #[.agg #[.int .i64 r, .int .i64 c, .slice a l cap]] w fun e w' => e = .returned (.bool (decide (Snd r c l))) ∧ Below w.heap.size w w' := by
 obtain ⟨W0, hW⟩ : ∃ W0, w.alloc (.cells #[.int .i64 r, .int .i64 c, .slice a l cap] 24) = W0 := ⟨_, rfl⟩
 obtain ⟨b0, sz0⟩ := alo1 w (.cells #[.int .i64 r, .int .i64 c, .slice a l cap] 24)
 rw [hW] at b0 sz0
 have P0 : Cel W0 w.heap.size 24 [.int .i64 r, .int .i64 c, .slice a l cap] := by rw [← hW]; exact Cel.new w _ _
 have x0 := P0.at (i := 0) rfl
 have x1 := P0.at (i := 1) rfl
 have x2 := P0.at (i := 2) rfl
 rw [← hW] at x0 x1 x2
 have FIN : Hid (Below w.heap.size w (w.alloc (.cells #[.int .i64 r, .int .i64 c, .slice a l cap] 24))) := by unfold Hid; rw [hW]; exact b0
 clear b0 sz0 P0 hW
 by_cases h1 : 0 ≤ r
 ·by_cases h2 : r ≤ 64
  ·by_cases h3 : 0 ≤ c
   ·by_cases h4 : c ≤ 64
    ·obtain ⟨m, hm⟩ : ∃ m, r * c = m := ⟨_, rfl⟩
     have hwm : IntKind.i64.wrap (r * c) = m := by
      have h5 : 0 ≤ r * c := Int.mul_nonneg h1 h3
      have h6 : r * c ≤ 64 * 64 := Int.mul_le_mul h2 h4 h3 (by omega)
      rw [wrap_is] <;> omega
     by_cases h5 : (l : Int) = m
     ·have e : decide (Snd r c l) = true := decide_eq_true ⟨h1, h2, h3, h4, by rw [hm]; exact h5⟩
      have hq : ((l : Int) == m) = true := by simpa using h5
      rw [e]
      clear e hm h5
      go_enter Tryz.func8, Tryz.ntmps8
      go_wp2
      go_ret
      exact ⟨rfl, FIN.out⟩
     ·have e : decide (Snd r c l) = false := decide_eq_false (fun h => h5 (by rw [← hm]; exact h.2.2.2.2))
      have hq : ((l : Int) == m) = false := by simpa using h5
      rw [e]
      clear e hm h5
      go_enter Tryz.func8, Tryz.ntmps8
      go_wp2
      go_ret
      exact ⟨rfl, FIN.out⟩
    ·rw [decide_eq_false (fun h : Snd r c l => h4 h.2.2.2.1)]
     go_enter Tryz.func8, Tryz.ntmps8
     go_wp2
     go_ret
     exact ⟨rfl, FIN.out⟩
   ·rw [decide_eq_false (fun h : Snd r c l => h3 h.2.2.1)]
    go_enter Tryz.func8, Tryz.ntmps8
    go_wp2
    go_ret
    exact ⟨rfl, FIN.out⟩
  ·rw [decide_eq_false (fun h : Snd r c l => h2 h.2.1)]
   go_enter Tryz.func8, Tryz.ntmps8
   go_wp2
   go_ret
   exact ⟨rfl, FIN.out⟩
 ·rw [decide_eq_false (fun h : Snd r c l => h1 h.1)]
  go_enter Tryz.func8, Tryz.ntmps8
  go_wp2
  go_ret
  exact ⟨rfl, FIN.out⟩
end Go.Proofs.YtnpcfohimlfbdaaGreat
