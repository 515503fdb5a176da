/-
  Rs12: residues.
-/
import Derived.Test.YtonmlmdnjjafhaaQDv12ToZlaw0
import Derived.Test.YtonmlmdnjjafhaaQFil9ToZFloor
import Derived.Test.YtonmlmdnjjafhaaQZMod
import Derived.Test.YtonmlmdnjjafhaaQZSmall
namespace Go.Proofs.Ytonmlmdnjjafhaa
open Go.RowKit
set_option linter.unusedVariables false

def resL (p : Nat) (zs : List Int) : List Int := zs.map fun z => z % (p : Int)
theorem resL_len (p : Nat) (zs : List Int) : (resL p zs).length = zs.length := by simp [resL]
theorem resL_res {p : Nat} (hp : 0 < p) (zs : List Int) : Res p (resL p zs) := fun x hx => by
  obtain ⟨y, _, rfl⟩ := List.mem_map.1 hx
  exact emod_isR hp _
def ResH (V : World) (n : Nat) (ys : List Int) (gk : Nat) (s : Value) (wx : World) : Prop :=
  ∃ i : Nat, s = .int .i64 (i : Int) ∧ i ≤ n ∧ gk = n - i ∧ Row wx V.heap.size (ws (mix ys (List.replicate n 0) i)) ∧ Below V.heap.size V wx
def Resd (w : World) (n : Nat) (ys : List Int) (e : Ending) (w' : World) : Prop := ∃ g, e = .returned (.slice (some ⟨g, 0, none⟩) n n) ∧ w.heap.size ≤ g ∧ Row w' g (ws ys) ∧ Below w.heap.size w w'
theorem Row.nil12 {w : World} {g : Nat} {xs : List Int} : Row w g (ws xs ++ []) ↔ Row w g (ws xs) := by rw [List.append_nil]
set_option maxHeartbeats 1600000 in
set_option maxRecDepth 100000 in
theorem residues12 {w : World} {p c n K : Nat} {a : Option Addr} {l k : Nat} {v : Value} {zs : List Int} (hp : 2 ≤ p) (hp2 : p < 2147483648) (hv : Zl w v zs K) (hK : K ≤ 1099511627775) (hn : zs.length = n) :
    Calls Try.prog 16 #[shv p c (.slice a l k), v] w (Resd w n (resL p zs)) := by
  obtain ⟨W0, hW⟩ : ∃ W0, w.alloc (shO p c (.slice a l k)) = W0 := ⟨_, rfl⟩
  obtain ⟨b0, sz0⟩ := alo12 w (shO p c (.slice a l k))
  rw [hW] at b0 sz0
  have P1 : Hid (Cel W0 w.heap.size 46 (shc p c (.slice a l k))) := by unfold Hid; rw [← hW]; exact Cel.new w _ _
  have x0 := P1.out.at (i := 0) rfl
  rw [← hW] at x0
  have V0 := hid (hv.now b0)
  obtain ⟨a0, c0, rfl, hc0, hn0, hf0⟩ := V0.out.form9
  obtain ⟨ys, hys⟩ : ∃ ys, resL p zs = ys := ⟨_, rfl⟩
  have YL : Hid (ys.length = n) := by unfold Hid; rw [← hys, resL_len, hn]
  have HY : Hid (∀ i (h : i < zs.length) (h' : i < ys.length), ys[i] = zs[i] % (p : Int)) := fun i h h' => by
    subst hys
    simp [resL]
  rw [hys]
  rw [hn] at hc0 hn0 V0 ⊢
  have HO := hid (of_z (n := (p : Int)) (by omega) (by omega) W0)
  have cv : IntKind.i64.wrap (p : Int) = (p : Int) := by rw [wrap_is] <;> omega
  have HN := hid hn
  have F0 := hid hf0
  have G0 := hid b0
  have EW := hid hW
  have HKK := hid hK
  clear hv hf0 hn hys b0 sz0 hW P1 hK
  go_enter Try.func16, Try.ntmps16
  go_wp2_with fail
  rw [EW.out]
  refine HO.out.mono ?_
  rintro e w1 ⟨r1, rfl, m1, b1⟩
  have M1 := hid m1.zi
  obtain ⟨n1, x1, a1, c1, rfl⟩ := m1.parts
  obtain ⟨V, hV⟩ : ∃ V, w1.alloc (duo (.bool n1) (.slice a1 x1.length c1)) = V := ⟨_, rfl⟩
  obtain ⟨bV, szV⟩ := alo12 w1 (duo (.bool n1) (.slice a1 x1.length c1))
  rw [hV] at bV szV
  have PB : Hid (Duo V w1.heap.size (.bool n1) (.slice a1 x1.length c1)) := by unfold Hid; rw [← hV]; exact Duo.new w1 _ _
  have ZP := hid (M1.out.now bV)
  have VL := hid (V0.out.now (below_step b1 bV))
  have GV := hid (below_step G0.out (below_step b1 bV))
  have EV := hid hV
  clear HO M1 m1 b1 bV szV hV V0 G0 EW x0
  go_wp2_with (at_make; rw [EV.out]; refine wpList_make_words _ rfl _ _ rfl _ _ n n rfl rfl rfl rfl (Nat.le_refl _) (by omega) ?_)
  intro w2 hrow hb2 hsz2
  have H0 : Hid (ResH V n ys n (.int .i64 0) w2) := ⟨0, rfl, Nat.zero_le _, rfl, by rw [mix_zero]; exact hrow, hb2⟩
  clear hrow hb2 hsz2 EV
  generalize w1.heap.size = pb at *
  obtain ⟨g, hg⟩ : ∃ g, V.heap.size = g := ⟨_, rfl⟩
  have EG := hid hg
  rw [hg]
  clear hg
  go_wp2_with fail
  go_loopg [22] n (fun gk s22 wx => ResH V n ys gk s22 wx)
  case atStart => exact H0.out
  case round =>
    clear H0
    obtain ⟨i, rfl, hin, hgk, hrow, hG⟩ := hrel
    have RW := hid hrow
    have G := hid hG
    have HG := hid hgk
    clear hrow hG hgk
    by_cases hlt : i < n
    · have hlt' : (i : Int) < (n : Int) := by omega
      obtain ⟨b1, o1, rfl⟩ := F0.out (fun e => by have := HN.out; rw [e] at this; simp at this; omega)
      obtain ⟨nf, xf, adf, qf, k0, k1, zf⟩ := (VL.out.now G.out).at9 (i := i) (by rw [HN.out]; exact hlt)
      obtain ⟨X1, hX1⟩ : ∃ X1, wr.alloc (duo (.bool nf) (.slice adf xf.length qf)) = X1 := ⟨_, rfl⟩
      obtain ⟨bX, szX⟩ := alo12 wr (duo (.bool nf) (.slice adf xf.length qf))
      rw [hX1] at bX szX
      have PX : Hid (Duo X1 wr.heap.size (.bool nf) (.slice adf xf.length qf)) := by unfold Hid; rw [← hX1]; exact Duo.new wr _ _
      have GX := hid (below_step G.out bX)
      have HM := hid (mod_z (zf.now bX) (ZP.out.now GX.out) (y := (p : Int)) (by omega) (by have := HKK.out; omega) (by omega))
      have n0 := PX.out.c0
      have n1' := PX.out.c1
      have p0 := (PB.out.step GX.out).c0
      have p1 := (PB.out.step GX.out).c1
      rw [← hX1] at n0 n1' p0 p1
      have EX := hid hX1
      have RWX := hid (RW.out.stay bX)
      have hw := wrapJ hlt hn0
      obtain ⟨z, hz⟩ : ∃ z, zs[i]'(by rw [HN.out]; exact hlt) % (p : Int) = z := ⟨_, rfl⟩
      have iz : IsR p z := by rw [← hz]; exact emod_isR (by omega) _
      have HYI : Hid (ys[i]'(by rw [YL.out]; exact hlt) = z) := by
        unfold Hid
        rw [← hz]
        exact HY.out i (by rw [HN.out]; exact hlt) (by rw [YL.out]; exact hlt)
      rw [hz] at HM
      clear zf bX szX hX1 PX RW G hz
      go_wp2_with fail
      rw [EX.out]
      refine HM.out.mono ?_
      rintro e w3 ⟨r3, rfl, m3, b3⟩
      obtain ⟨n3, x3, a3, c3, rfl⟩ := m3.parts
      obtain ⟨X2, hX2⟩ : ∃ X2, w3.alloc (duo (.bool n3) (.slice a3 x3.length c3)) = X2 := ⟨_, rfl⟩
      obtain ⟨bY, szY⟩ := alo12 w3 (duo (.bool n3) (.slice a3 x3.length c3))
      rw [hX2] at bY szY
      have PY : Hid (Duo X2 w3.heap.size (.bool n3) (.slice a3 x3.length c3)) := by unfold Hid; rw [← hX2]; exact Duo.new w3 _ _
      have HS := hid (small_z (m3.zi.now bY) (by unfold IsR at iz; omega) (by unfold IsR at iz; omega))
      have GY := hid (below_step GX.out (below_step b3 bY))
      have RWY := hid (RWX.out.stay (below_step b3 bY))
      have q0 := PY.out.c0
      have q1 := PY.out.c1
      rw [← hX2] at q0 q1
      have EY := hid hX2
      clear HM EX n0 n1' p0 p1 m3 b3 bY szY hX2 GX RWX PY
      go_wp2_with fail
      rw [EY.out]
      refine HS.out.mono ?_
      rintro e w4 ⟨rfl, b4⟩
      have RW4 := hid (RWY.out.stay b4)
      have G4 := hid (below_step GY.out b4)
      have hm := mix_len (ys := ys) (xs := List.replicate n 0) i
      rw [List.length_replicate] at hm
      have uz : IntKind.u64.wrap z = z := by unfold IsR at iz; exact uwrap (by omega) (by omega)
      have HN1 : Hid (ResH V n ys (n - (i + 1)) (.int .i64 ((i + 1 : Nat) : Int)) (w4.setCell ⟨V.heap.size, i, none⟩ (.int .u64 z))) := by
        refine ⟨i + 1, rfl, by omega, rfl, ?_, bset G4.out (Nat.le_refl _)⟩
        rw [← mix_set (by rw [YL.out, List.length_replicate]) (by rw [List.length_replicate]; exact hlt), HYI.out]
        exact Row.nil12.1 ((Row.nil12.2 RW4.out).put12 (by rw [hm]; exact hlt) _)
      have f1 := RW4.out.frozen i
      have k4 := RW4.out.cell (i := i) (by unfold ws; simp [mix_len]; exact hlt)
      rw [EG.out] at f1 k4 HN1
      obtain ⟨u4, hu4⟩ : ∃ u4, w4.cell? ⟨g, i, none⟩ = some u4 := ⟨_, k4⟩
      have HMM : Hid (n - (i + 1) < gk) := by unfold Hid; rw [HG.out]; omega
      clear HS EY q0 q1 b4 RWY GY RW4 G4 k4 HG iz k0 k1
      go_wp2_with fail
      go_roundg (n - (i + 1))
      case rel => exact HN1.out
      case measure => exact HMM.out
    · have hlt' : ¬ (i : Int) < (n : Int) := by omega
      obtain rfl : i = n := by omega
      have FIN : Hid (Resd w i ys (.returned (.slice (some ⟨g, 0, none⟩) i i)) wr) := by
        refine ⟨g, rfl, by rw [← EG.out]; exact GV.out.size, ?_, below_step GV.out G.out⟩
        have h1 := RW.out
        have h2 := mix_all (ys := ys) (xs := List.replicate i 0) (by rw [YL.out, List.length_replicate])
        rw [List.length_replicate] at h2
        rw [h2, EG.out] at h1
        exact h1
      clear RW G HG
      go_wp2
      go_ret
      exact FIN.out
end Go.Proofs.Ytonmlmdnjjafhaa
