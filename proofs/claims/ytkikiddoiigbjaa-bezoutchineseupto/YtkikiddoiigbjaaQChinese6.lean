/-
  Chinese6: the walk of BezoutChinese.
-/
import Derived.Test.YtkikiddoiigbjaaQCrtAll6
import Derived.Test.YtkikiddoiigbjaaQBool6ToChinH6
import Derived.Test.YtkikiddoiigbjaaQFil9ToRowsOf9
import Derived.Test.YtkikiddoiigbjaaQWakes6
import Derived.Test.YtkikiddoiigbjaaQR5Add
namespace Go.Proofs.Ytkikiddoiigbjaa
open Go.RowKit
set_option linter.unusedVariables false

/-- The two lists lie apart. -/
def Parted (s7 s8 : Value) : Prop := ∀ g, s7.ownBlock = some g → s8.ownBlock ≠ some g
def CBH (w Ws : World) (N : Int) (kt : Nat → Nat) (n gk : Nat) (s7 s8 s10 : Value) (wx : World) : Prop :=
  ∃ (i : Nat) (Rs Gs : List Int), s10 = .int .i64 (i : Int) ∧ i ≤ n ∧ gk = n - i ∧ GoodR N Rs Gs (kt i) ∧ Gs.length ≤ i ∧ GatE w (Ws.heap.size + 1) wx s7 Rs 2097153 ∧ GatE w (Ws.heap.size + 1) wx s8 Gs 2097153 ∧ Parted s7 s8 ∧ (∃ m a l c, Duo wx Ws.heap.size (.bool m) (.slice a l c) ∧ Zm 0 wx (.agg #[.bool m, .slice a l c]) (lcmL Gs) 1048576) ∧ Below Ws.heap.size Ws wx
def CDH (Wl : World) (g gk : Nat) (s15 : Value) (wx : World) : Prop := ∃ i : Nat, s15 = .int .i64 (i : Int) ∧ i ≤ g ∧ gk = g - i ∧ Below Wl.heap.size Wl wx
theorem sign_is0 {A : Int} (h : A = 0) : cmpI A 0 = 0 := by subst h; exact cmpI_self 0
theorem sign_no0 {A : Int} (h : A ≠ 0) : (cmpI A 0 == 0) = false := by rw [beq_eq_false_iff_ne]; exact fun e => h (cmpI_zero e)
theorem sign_pos {A : Int} (h : 0 < A) : cmpI A 0 = 1 := by unfold cmpI; rw [if_neg (by omega), if_pos h]
/-- CrtAll at remainders of one number. -/
theorem crt_good {w : World} {v u : Value} {N : Int} {Rs Gs : List Int} {s k : Nat} (hg : GoodR N Rs Gs s) (hs : s ≤ k) (hv : Zl w v Rs k) (hu : Zl w u Gs k) (h1 : 1 ≤ k) (hk : k ≤ 17179869184) :
    Calls Try.prog 17 #[v, u] w fun e w' => ∃ r m, CrtL Rs Gs r m ∧ GivesZ2 0 w r m k k e w' := by
  refine (crtAll_any hv hu hg.len h1 hk (hg.more hs).pr).mono ?_
  rintro e w' (⟨⟨j, h, e0⟩, _⟩ | ⟨_, ⟨hn, _⟩ | h⟩)
  · exact absurd e0 (hg.nz j h)
  · exact absurd hn hg.goes
  · exact h
set_option maxHeartbeats 1600000 in
set_option maxRecDepth 100000 in
theorem bezoutChinese_any {w : World} {vn v u : Value} {N : Int} {Ms Ks : List Int} {ks : List Nat} {kk : Nat} (hn : Zi w vn N 1048576) (hv : Zw w v Ms ks) (hs : ksum ks + 1 ≤ 1048576) (hu : Zl w u Ks kk) (hkk : kk ≤ 1048576) :
    Calls Try.prog 4 #[vn, v, u] w fun e w' => e = .returned (.bool true) ∧ Below w.heap.size w w' := by
  have hvl : Zl w v Ms 1048576 := hv.zl (by omega)
  have V0 := hid hvl
  have V1 := hid (hu.more9 hkk)
  obtain ⟨a0, c0, rfl, hc0, hn0, hf0⟩ := hvl.form9
  obtain ⟨a1, c1, rfl, hc1, hn1, hf1⟩ := hu.form9
  have HW := hid hv
  obtain ⟨n, hn'⟩ : ∃ n, Ms.length = n := ⟨_, rfl⟩
  obtain ⟨m, hm'⟩ : ∃ m, Ks.length = m := ⟨_, rfl⟩
  rw [hn'] at V0 hc0 hn0 HW
  rw [hm'] at V1 hc1 hn1
  rw [hn', hm']
  have HN := hid hn'
  have HM := hid hm'
  have F0 := hid hf0
  have F1 := hid hf1
  have ZN0 := hid hn
  obtain ⟨nn, xn, adn, cn, rfl, -, -, -⟩ := hn
  obtain ⟨kt, hkt⟩ : ∃ kt : Nat → Nat, (∀ i, kt i = ksum (ks.take i) + 1) := ⟨_, fun _ => rfl⟩
  have KT0 : Hid (∀ i, 1 ≤ kt i ∧ kt i ≤ 1048576) := fun i => by rw [hkt]; have := ksum_take_le ks i; omega
  have KT1 : Hid (∀ i, i < n → ∃ k, kt (i + 1) = kt i + k ∧ ∀ h : i < Ms.length, (Ms[i].natAbs : Int) < pw k) := fun i hi => by
    obtain ⟨e0, a, c, e1, e2, e3, e4⟩ := hv
    have hk : ks[i]? = some ks[i] := List.getElem?_eq_getElem (by omega)
    refine ⟨ks[i], by rw [hkt, hkt, ksum_take_succ hk]; omega, fun h => ?_⟩
    rcases e4 with e4 | ⟨b, off, e5, e6, e7⟩
    · subst e4; simp at h
    · obtain ⟨x, y, -, -, q⟩ := e7 i _ _ (List.getElem?_eq_getElem h) hk
      exact q.lt
  have KT2 : Hid (∀ i, kt i ≤ kt (i + 1) ∨ n ≤ i) := fun i => by
    by_cases h : i < n
    · obtain ⟨k, e, _⟩ := KT1.out i h; left; omega
    · right; omega
  clear hvl hv hu hf0 hf1 hn' hm' hkt hs hkk HW
  obtain ⟨W0, hW⟩ : ∃ W0, w.alloc (duo (.bool nn) (.slice adn xn.length cn)) = W0 := ⟨_, rfl⟩
  obtain ⟨b0, sz0⟩ := alo1 w (duo (.bool nn) (.slice adn xn.length cn))
  rw [hW] at b0 sz0
  have PN : Hid (Duo W0 w.heap.size (.bool nn) (.slice adn xn.length cn)) := by unfold Hid; rw [← hW]; exact Duo.new w _ _
  have G := hid b0
  have EW := hid hW
  clear b0 sz0 hW
  go_enter Try.func4, Try.ntmps4
  go_wp2_with fail
  rw [EW.out]
  clear EW
  refine (wakes6 _).mono ?_
  rintro e w1 ⟨rfl, b⟩
  replace PN := hid (PN.out.step b)
  replace G := hid (below_step G.out b)
  clear b
  go_wp2_with fail
  refine (of6m (n := 1) (by decide) (by decide) w1).mono ?_
  rintro e w2 ⟨r, rfl, m1, b⟩
  replace PN := hid (PN.out.step b)
  replace G := hid (below_step G.out b)
  obtain ⟨nl, xl, al, cl, rfl⟩ := m1.parts
  have ZL := hid (m1.mono (Nat.zero_le _))
  clear m1 b
  obtain ⟨V3, hV⟩ : ∃ V3, w2.alloc (duo (.bool nl) (.slice al xl.length cl)) = V3 := ⟨_, rfl⟩
  obtain ⟨b, sz1⟩ := alo1 w2 (duo (.bool nl) (.slice al xl.length cl))
  rw [hV] at b sz1
  have PL : Hid (Duo V3 w2.heap.size (.bool nl) (.slice al xl.length cl)) := by unfold Hid; rw [← hV]; exact Duo.new w2 _ _
  have H0 : Hid (CBH w w2 N kt n n (.slice none 0 0) (.slice none 0 0) (.int .i64 0) V3) := ⟨0, [], [], rfl, Nat.zero_le _, by omega, GoodR.nil _ (KT0.out 0).1, Nat.le_refl _, GatE.nil _ _ _ _, GatE.nil _ _ _ _, (fun g h => by cases h), ⟨_, _, _, _, PL.out, (ZL.out.now b).more (by decide)⟩, b⟩
  have HBX : Hid (w.heap.size < w2.heap.size) := PN.out.blk
  have EV := hid hV
  clear b sz1 hV PL ZL
  go_wp2_with fail
  rw [EV.out]
  clear EV
  go_loopg [7, 8, 10] n (fun gk s7 s8 s10 wx => CBH w w2 N kt n gk s7 s8 s10 wx)
  case atStart => exact H0.out
  case round =>
    clear H0
    obtain ⟨i, Rs, Gs, rfl, hin, hgk, hgd, hgl, hga, hgb, hpa, ⟨ml, asl, ls, cs, hd, hz⟩, hG⟩ := hrel
    have PL := hid hd
    have ZL := hid hz
    have GA := hid hga
    have GB0 := hid hgb
    have PA := hid hpa
    have GD := hid hgd
    have GL := hid hgl
    have GW := hid hG
    have HG := hid hgk
    have GT : Hid (Below w.heap.size w wr) := below_step G.out GW.out
    clear hd hz hga hgb hpa hG hgk hgd hgl
    by_cases hlt : i < n
    · have hlt' : (i : Int) < (n : Int) := by omega
      obtain ⟨b1, o1, rfl⟩ := F0.out (fun e => by have := HN.out; rw [e] at this; simp at this; omega)
      have hiL : i < Ms.length := by rw [HN.out]; exact hlt
      obtain ⟨nf, xf, adf, qf, k2w, k3w, zfw⟩ := V0.out.at9 (i := i) hiL
      have K2 := hid k2w
      have K3 := hid k3w
      have ZF := hid zfw
      have k2 := cnow GT.out k2w
      have k3 := cnow GT.out k3w
      have hw := wrapI9 (i := i) (by omega)
      have HSI : Hid (∀ w', Below wr.heap.size wr w' → Calls Try.prog 10 #[.agg #[.bool nf, .slice adf xf.length qf]] w' (fun e w'' => e = .returned (.int .i64 (cmpI Ms[i] 0)) ∧ Below w'.heap.size w' w'')) := fun w' b => rsign_z ((ZF.out.now GT.out).now b) (by decide)
      obtain ⟨kn, hkn, hkb⟩ := KT1.out i hlt
      have HKN := hid hkn
      have HKB := hid (hkb hiL)
      obtain ⟨Mi, hMi⟩ : ∃ Mi, Ms[i] = Mi := ⟨_, rfl⟩
      rw [hMi] at ZF HKB HSI
      clear k2w k3w zfw hkn hkb hMi hiL
      by_cases hz0 : Mi = 0
      · have hsg := sign_is0 hz0
        have HN1 : Hid (∀ wx, Below wr.heap.size wr wx → CBH w w2 N kt n (n - (i + 1)) u7 u8 (.int .i64 ((i + 1 : Nat) : Int)) wx) := fun wx b => ⟨i + 1, Rs, Gs, rfl, by omega, rfl, GD.out.more (by have := HKN.out; omega), by have := GL.out; omega, GA.out.now b, GB0.out.now b, PA.out, ⟨_, _, _, _, PL.out.step b, ZL.out.now b⟩, below_step GW.out b⟩
        rw [hsg] at HSI
        have HMM : Hid (n - (i + 1) < gk) := by unfold Hid; rw [HG.out]; omega
        clear hz0 hsg HG PL ZL GA GB0 PA GD GL HKN HKB
        go_wp2_with fail
        refine (HSI.out _ (Below.refl _ _)).mono ?_
        rintro e w3 ⟨rfl, b⟩
        replace HN1 := hid (HN1.out w3 b)
        clear b HSI
        go_wp2_with fail
        go_roundg (n - (i + 1))
        case rel => exact HN1.out
        case measure => exact HMM.out
      · have hsg := sign_no0 hz0
        have HZ0 := hid hz0
        obtain ⟨SI, hSI⟩ : ∃ SI, cmpI Mi 0 = SI := ⟨_, rfl⟩
        rw [hSI] at HSI hsg
        clear hSI hz0
        go_wp2_with fail
        refine (HSI.out _ (Below.refl _ _)).mono ?_
        rintro e w3 ⟨rfl, b⟩
        replace PL := hid (PL.out.step b)
        replace ZL := hid (ZL.out.now b)
        replace GA := hid (GA.out.now b)
        replace GB0 := hid (GB0.out.now b)
        replace GW := hid (below_step GW.out b)
        replace GT := hid (below_step GT.out b)
        clear b HSI k2 k3
        have HQA : Hid (u7.ownBlock ≠ some w3.heap.size) := fun e => by have := (GA.out.own e).2; omega
        have HQB : Hid (u8.ownBlock ≠ some w3.heap.size) := fun e => by have := (GB0.out.own e).2; omega
        have LWA : Hid (w2.heap.size < w3.heap.size) := PL.out.blk
        have PN3 := hid (PN.out.step GW.out)
        have n0 := PN3.out.c0
        have n1 := PN3.out.c1
        obtain ⟨V4, hV⟩ : ∃ V4, w3.alloc (duo (.bool nn) (.slice adn xn.length cn)) = V4 := ⟨_, rfl⟩
        obtain ⟨b, sz1⟩ := alo1 w3 (duo (.bool nn) (.slice adn xn.length cn))
        rw [hV] at b sz1
        have PR : Hid (Duo V4 w3.heap.size (.bool nn) (.slice adn xn.length cn)) := by unfold Hid; rw [← hV]; exact Duo.new w3 _ _
        replace PL := hid (PL.out.step b)
        replace PN3 := hid (PN3.out.step b)
        replace ZL := hid (ZL.out.now b)
        replace GA := hid (GA.out.now b)
        replace GB0 := hid (GB0.out.now b)
        replace GW := hid (below_step GW.out b)
        replace GT := hid (below_step GT.out b)
        have k2 := cnow GT.out K2.out
        have k3 := cnow GT.out K3.out
        have EV := hid hV
        have LW3 : Hid (w2.heap.size < w3.heap.size ∧ w.heap.size < w3.heap.size) := by
          have h1 := sz1
          have h2 := PL.out.blk
          have h3 := HBX.out
          have h4 := (show Below _ _ _ from b).size
          unfold Hid
          have h5 : w2.heap.size < w3.heap.size := LWA.out
          omega
        have SZ4 := hid sz1
        clear b sz1 hV
        by_cases hik : i < m
        · have hge' : (i : Int) < (m : Int) := by omega
          have hiK : i < Ks.length := by rw [HM.out]; exact hik
          obtain ⟨b2, o2, rfl⟩ := F1.out (fun e => by rw [e] at hiK; simp at hiK)
          obtain ⟨ng, xg, adg, qg, k4w, k5w, zgw⟩ := V1.out.at9 (i := i) hiK
          have k4 := cnow GT.out k4w
          have k5 := cnow GT.out k5w
          have n0 := PN3.out.c0
          have n1 := PN3.out.c1
          have HMA : Hid (∀ w', Below V4.heap.size V4 w' → Calls Try.prog 12 #[.agg #[.bool nf, .slice adf xf.length qf], .agg #[.bool ng, .slice adg xg.length qg], .agg #[.bool nn, .slice adn xn.length cn]] w' (GivesZ w' (Mi * Ks[i] + N) (max (1048576 + 1048576) 1048576 + 1))) := fun w' b => rmulAdd_z ((ZF.out.now GT.out).now b) ((zgw.now GT.out).now b) ((ZN0.out.now GT.out).now b) (by decide) (by decide)
          have HRD : Hid (Mi ∣ Mi * Ks[i] + N - N) := by unfold Hid; rw [Int.add_sub_cancel]; exact ⟨_, rfl⟩
          obtain ⟨zr, hzr⟩ : ∃ zr, Mi * Ks[i] + N = zr := ⟨_, rfl⟩
          rw [hzr] at HMA HRD
          clear hzr k4w k5w zgw hiK
          go_wp2_with fail
          rw [EV.out]
          clear EV
          have KB : Hid (∀ w', Below V4.heap.size V4 w' → w'.cell? ⟨b1, o1 + i * 2, none⟩ = some (.bool nf) ∧ w'.cell? ⟨b1, o1 + i * 2 + 1, none⟩ = some (.slice adf xf.length qf) ∧ w'.cell? ⟨b2, o2 + i * 2, none⟩ = some (.bool ng) ∧ w'.cell? ⟨b2, o2 + i * 2 + 1, none⟩ = some (.slice adg xg.length qg) ∧ w'.cell? ⟨w.heap.size, 0, none⟩ = some (.bool nn) ∧ w'.cell? ⟨w.heap.size, 1, none⟩ = some (.slice adn xn.length cn)) := fun w' h => ⟨cnow h k2, cnow h k3, cnow h k4, cnow h k5, cnow h n0, cnow h n1⟩
          refine wp_region_tail (fun w' => w'.cell? ⟨b1, o1 + i * 2, none⟩ = some (.bool nf) ∧ w'.cell? ⟨b1, o1 + i * 2 + 1, none⟩ = some (.slice adf xf.length qf) ∧ w'.cell? ⟨b2, o2 + i * 2, none⟩ = some (.bool ng) ∧ w'.cell? ⟨b2, o2 + i * 2 + 1, none⟩ = some (.slice adg xg.length qg) ∧ w'.cell? ⟨w.heap.size, 0, none⟩ = some (.bool nn) ∧ w'.cell? ⟨w.heap.size, 1, none⟩ = some (.slice adn xn.length cn)) 10 (by kernel_rfl) ?_
          obtain ⟨D71, hD⟩ : ∃ D71, V4.drew = D71 := ⟨_, rfl⟩
          have GB : Hid (Below V4.heap.size V4 D71) := by unfold Hid; rw [← hD]; exact (Below.refl _ _).drew
          rw [hD]
          clear hD
          have GBs := GB
          refine wpAnyT_take (i := 0) (oi := { dst := some 36, op := Op.move (Operand.tmp 1), type := 22, pos := "plain.go:164", after := #[], guard := none }) (v := (.slice (some ⟨b1, o1, none⟩) n c0)) rfl (by kernel_rfl) (fun _ _ _ h => h) (Or.inl ⟨by rfl, ?_⟩) (KB.out _ GB.out) ?_
          · intro w hSw
            (try dsimp only at hSw)
            go_simp
          simp only [Act.put, List.setIfInBounds_toArray, List.set_cons_zero, List.set_cons_succ]
          refine wpAnyT_take (i := 1) (oi := { dst := some 37, op := Op.move (Operand.tmp 10), type := 3, pos := "plain.go:164", after := #[], guard := none }) (v := (.int .i64 (i : Int))) rfl (by kernel_rfl) (fun _ _ _ h => h) (Or.inl ⟨by rfl, ?_⟩) (KB.out _ GB.out) ?_
          · intro w hSw
            (try dsimp only at hSw)
            go_simp
          simp only [Act.put, List.setIfInBounds_toArray, List.set_cons_zero, List.set_cons_succ]
          refine wpAnyT_take (i := 2) (oi := { dst := some 38, op := Op.indexAddr 22 (Operand.tmp 36) (Operand.tmp 37), type := 0, pos := "plain.go:164", after := #[{ on := 0, ground := Ground.data }, { on := 1, ground := Ground.data }], guard := none }) (v := (.pointer (some ⟨b1, o1 + i * 2, none⟩))) rfl (by kernel_rfl) (fun _ _ _ h => h) (Or.inl ⟨by rfl, ?_⟩) (KB.out _ GB.out) ?_
          · intro w hSw
            (try dsimp only at hSw)
            go_simp
          simp only [Act.put, List.setIfInBounds_toArray, List.set_cons_zero, List.set_cons_succ]
          refine wpAnyT_take (i := 3) (oi := { dst := some 39, op := Op.load 25 (Operand.tmp 38), type := 25, pos := "plain.go:164", after := #[{ on := 2, ground := Ground.data }], guard := none }) (v := (.agg #[.bool nf, .slice adf xf.length qf])) rfl (by kernel_rfl) (fun _ _ _ h => h) (Or.inl ⟨by rfl, ?_⟩) (KB.out _ GB.out) ?_
          · intro w hSw
            (try dsimp only at hSw)
            go_simp
          simp only [Act.put, List.setIfInBounds_toArray, List.set_cons_zero, List.set_cons_succ]
          refine wpAnyT_take (i := 4) (oi := { dst := some 40, op := Op.move (Operand.tmp 2), type := 22, pos := "plain.go:164", after := #[], guard := none }) (v := (.slice (some ⟨b2, o2, none⟩) m c1)) rfl (by kernel_rfl) (fun _ _ _ h => h) (Or.inl ⟨by rfl, ?_⟩) (KB.out _ GB.out) ?_
          · intro w hSw
            (try dsimp only at hSw)
            go_simp
          simp only [Act.put, List.setIfInBounds_toArray, List.set_cons_zero, List.set_cons_succ]
          refine wpAnyT_take (i := 5) (oi := { dst := some 41, op := Op.move (Operand.tmp 10), type := 3, pos := "plain.go:164", after := #[], guard := none }) (v := (.int .i64 (i : Int))) rfl (by kernel_rfl) (fun _ _ _ h => h) (Or.inl ⟨by rfl, ?_⟩) (KB.out _ GB.out) ?_
          · intro w hSw
            (try dsimp only at hSw)
            go_simp
          simp only [Act.put, List.setIfInBounds_toArray, List.set_cons_zero, List.set_cons_succ]
          refine wpAnyT_take (i := 6) (oi := { dst := some 42, op := Op.indexAddr 22 (Operand.tmp 40) (Operand.tmp 41), type := 0, pos := "plain.go:164", after := #[{ on := 4, ground := Ground.data }, { on := 5, ground := Ground.data }], guard := none }) (v := (.pointer (some ⟨b2, o2 + i * 2, none⟩))) rfl (by kernel_rfl) (fun _ _ _ h => h) (Or.inl ⟨by rfl, ?_⟩) (KB.out _ GB.out) ?_
          · intro w hSw
            (try dsimp only at hSw)
            go_simp
          simp only [Act.put, List.setIfInBounds_toArray, List.set_cons_zero, List.set_cons_succ]
          refine wpAnyT_take (i := 7) (oi := { dst := some 43, op := Op.load 25 (Operand.tmp 42), type := 25, pos := "plain.go:164", after := #[{ on := 6, ground := Ground.data }], guard := none }) (v := (.agg #[.bool ng, .slice adg xg.length qg])) rfl (by kernel_rfl) (fun _ _ _ h => h) (Or.inl ⟨by rfl, ?_⟩) (KB.out _ GB.out) ?_
          · intro w hSw
            (try dsimp only at hSw)
            go_simp
          simp only [Act.put, List.setIfInBounds_toArray, List.set_cons_zero, List.set_cons_succ]
          refine wpAnyT_take (i := 8) (oi := { dst := some 44, op := Op.load 25 (Operand.tmp 3), type := 25, pos := "plain.go:164", after := #[], guard := none }) (v := (.agg #[.bool nn, .slice adn xn.length cn])) rfl (by kernel_rfl) (fun _ _ _ h => h) (Or.inl ⟨by rfl, ?_⟩) (KB.out _ GB.out) ?_
          · intro w hSw
            (try dsimp only at hSw)
            go_simp
          simp only [Act.put, List.setIfInBounds_toArray, List.set_cons_zero, List.set_cons_succ]
          refine wpAnyT_one (i := 9) (o := { dst := some 45, op := Op.call { callee := Callee.value (Operand.func 12), args := #[Operand.tmp 39, Operand.tmp 43, Operand.tmp 44], argTypes := #[25, 25, 25] }, type := 25, pos := "plain.go:164", after := #[{ on := 3, ground := Ground.data }, { on := 7, ground := Ground.data }, { on := 8, ground := Ground.data }], guard := none }) (by kernel_rfl) rfl (fun K hK => ?_)
          go_simp
          go_at_call 12
          refine (HMA.out _ GB.out).mono ?_
          rintro e w72 ⟨r, rfl, m1, b⟩
          have lz72 := (show Below _ _ _ from b).size
          replace GB := hid (below_step GB.out b)
          have BQ : Below V4.heap.size V4 w72 := below_step GBs.out b
          replace PL := hid (PL.out.step BQ)
          replace PR := hid (PR.out.step BQ)
          replace ZL := hid (ZL.out.now BQ)
          replace GA := hid (GA.out.now BQ)
          replace GB0 := hid (GB0.out.now BQ)
          replace GW := hid (below_step GW.out BQ)
          replace GT := hid (below_step GT.out BQ)
          have MZ : Hid (Zm 0 w72 r zr 2097153) := m1.mono (Nat.zero_le _)
          obtain ⟨nr, xr, ar, cr, rfl⟩ := m1.parts
          clear m1 BQ
          clear b
          refine hK.out _ _ (fun _ => KB.out _ GB.out) ?_
          clear hK
          refine wpAnyT_one (i := 10) (o := { dst := none, op := Op.store 25 (Operand.tmp 11) (Operand.tmp 45), type := 0, pos := "plain.go:164", after := #[{ on := 9, ground := Ground.data }, { on := 9, ground := Ground.chain }, { on := 0, ground := Ground.phase }, { on := 1, ground := Ground.phase }, { on := 2, ground := Ground.phase }, { on := 3, ground := Ground.phase }, { on := 4, ground := Ground.phase }, { on := 5, ground := Ground.phase }, { on := 6, ground := Ground.phase }, { on := 7, ground := Ground.phase }, { on := 8, ground := Ground.phase }, { on := 9, ground := Ground.phase }], guard := none }) (by kernel_rfl) rfl (fun K hK => ?_)
          have e0 := PR.out.c0
          have e1 := PR.out.c1
          have e2 := PR.out.fz 0
          have e3 := PR.out.fz 1
          go_simp
          clear e0 e1 e2 e3
          obtain ⟨V73, hW⟩ : ∃ V73, ((w72.setCell ⟨w3.heap.size, 0, none⟩ (.bool nr)).setCell ⟨w3.heap.size, 1, none⟩ (.slice ar xr.length cr)) = V73 := ⟨_, rfl⟩
          replace GA := hid (GA.out.boxn PR.out HQA.out (.bool nr) (.slice ar xr.length cr))
          replace GB0 := hid (GB0.out.boxn PR.out HQB.out (.bool nr) (.slice ar xr.length cr))
          replace MZ := hid (MZ.out.box PR.out (.bool nr) (.slice ar xr.length cr))
          replace ZL := hid (ZL.out.box PR.out (.bool nr) (.slice ar xr.length cr))
          replace PL := hid (PL.out.box (b' := w3.heap.size) (by have := LW3.out; omega) (.bool nr) (.slice ar xr.length cr))
          replace PR := hid (PR.out.set (.bool nr) (.slice ar xr.length cr))
          replace GW := hid (bset (g := w3.heap.size) (j := 1) (u := .slice ar xr.length cr) (bset (g := w3.heap.size) (j := 0) (u := .bool nr) GW.out (by have := LW3.out; omega)) (by have := LW3.out; omega))
          replace GT := hid (bset (g := w3.heap.size) (j := 1) (u := .slice ar xr.length cr) (bset (g := w3.heap.size) (j := 0) (u := .bool nr) GT.out (by have := LW3.out; omega)) (by have := LW3.out; omega))
          rw [hW] at GA GB0 MZ ZL PL PR GW GT
          have ER : Hid (Zi w (.agg #[.bool nr, .slice ar xr.length cr]) zr 2097153 ∨ Zm 0 V73 (.agg #[.bool nr, .slice ar xr.length cr]) zr 2097153) := .inr MZ.out
          clear MZ
          rw [hW]
          clear hW
          refine hK.out _ _ (fun h => absurd h (by decide)) ?_
          clear hK
          try simp only [Act.put]
          refine wpAnyT_done (by kernel_rfl) ?_ _
          clear HMA GB GBs KB k2 k3 k4 k5 n0 n1
          have k2 := K2.out
          have k3 := K3.out
          have r0 := PR.out.c0
          have r1 := PR.out.c1
          obtain ⟨V5, hV⟩ : ∃ V5, V73.alloc (duo (.bool nr) (.slice ar xr.length cr)) = V5 := ⟨_, rfl⟩
          obtain ⟨b, sz1⟩ := alo1 V73 (duo (.bool nr) (.slice ar xr.length cr))
          rw [hV] at b sz1
          have P5 : Hid (Duo V5 V73.heap.size (.bool nr) (.slice ar xr.length cr)) := by unfold Hid; rw [← hV]; exact Duo.new V73 _ _
          replace PL := hid (PL.out.step b)
          replace ZL := hid (ZL.out.now b)
          replace GA := hid (GA.out.now b)
          replace GB0 := hid (GB0.out.now b)
          replace GW := hid (below_step GW.out b)
          replace GT := hid (below_step GT.out b)
          replace ER := hid (eor ER.out b)
          have EV := hid hV
          have LV5 : Hid (w2.heap.size + 1 ≤ V5.heap.size) := PL.out.blk
          have HLN : Hid (Rs.length ≤ 1048576) := by unfold Hid; have h1 := GD.out.len; have h2 := GL.out; omega
          clear b sz1 hV
          skip
          go_wp2_with (at_builtin; rw [EV.out]; refine wpList_append_e _ rfl (.tmp 46) (.tmp 48) rfl w (w2.heap.size + 1) 2097153 _ _ _ Rs zr rfl GA.out V73.heap.size rfl P5.out.c0 P5.out.c1 ER.out HLN.out LV5.out ?_)
          intro a6 cap6 w6 hga hty hbw hbl hob
          have HR6 : Hid (GatE w (w2.heap.size + 1) w6 (.slice a6 (Rs.length + 1) cap6) (Rs ++ [zr]) 2097153) := hga
          have PL6 := hid (PL.out.below hbw.out (Nat.lt_succ_self _))
          have ZL6 := hid (ZL.out.ty hty.out (by decide))
          have GB6 : Hid (GatE w (w2.heap.size + 1) w6 u8 Gs 2097153) := GB0.out.off hty.out (fun g hg => hbl.out g (GB0.out.own hg).2 (fun e => PA.out g e hg))
          have PA6 : Hid (Parted (.slice a6 (Rs.length + 1) cap6) u8) := fun g hg e => by
            rcases hob.out g hg with q | q
            · exact PA.out g q e
            · have := (GB0.out.own e).2; omega
          have GW6 : Hid (Below w2.heap.size w2 w6) := GW.out.trans (hbw.out.mono (by omega))
          have GT6 : Hid (Below w.heap.size w w6) := GT.out.trans (hbw.out.mono (by have := HBX.out; omega))
          obtain ⟨lR, hlR⟩ : ∃ lR, Rs.length + 1 = lR := ⟨_, rfl⟩
          rw [hlR] at HR6 PA6 ⊢
          clear hlR hga hty hbw hbl hob PL ZL GA GB0 PA GW GT EV PR P5 r0 r1 k2 k3 HLN LV5 ER
          have k2 := cnow GT6.out K2.out
          have k3 := cnow GT6.out K3.out
          obtain ⟨V7, hV⟩ : ∃ V7, w6.alloc (duo (.bool nf) (.slice adf xf.length qf)) = V7 := ⟨_, rfl⟩
          obtain ⟨b, sz1⟩ := alo1 w6 (duo (.bool nf) (.slice adf xf.length qf))
          rw [hV] at b sz1
          have P7 : Hid (Duo V7 w6.heap.size (.bool nf) (.slice adf xf.length qf)) := by unfold Hid; rw [← hV]; exact Duo.new w6 _ _
          replace PL6 := hid (PL6.out.step b)
          replace ZL6 := hid (ZL6.out.now b)
          replace HR6 := hid (HR6.out.now b)
          replace GB6 := hid (GB6.out.now b)
          replace GW6 := hid (below_step GW6.out b)
          replace GT6 := hid (below_step GT6.out b)
          have EV := hid hV
          have LV7 : Hid (w2.heap.size + 1 ≤ V7.heap.size) := PL6.out.blk
          have HLN : Hid (Gs.length ≤ 1048576) := by unfold Hid; have h2 := GL.out; omega
          have HFE : Hid (Zi w (.agg #[.bool nf, .slice adf xf.length qf]) Mi 2097153) := ZF.out.more (by decide)
          clear b sz1 hV
          go_wp2_with (at_builtin; rw [EV.out]; refine wpList_append_e _ rfl (.tmp 50) (.tmp 55) rfl w (w2.heap.size + 1) 2097153 _ _ _ Gs Mi rfl GB6.out w6.heap.size rfl P7.out.c0 P7.out.c1 (.inl HFE.out) HLN.out LV7.out ?_)
          intro a8 cap8 w8 hga hty hbw hbl hob
          have PL8 := hid (PL6.out.below hbw.out (Nat.lt_succ_self _))
          have ZL8 := hid (ZL6.out.ty hty.out (by decide))
          have HR8 : Hid (GatE w (w2.heap.size + 1) w8 (.slice a6 lR cap6) (Rs ++ [zr]) 2097153) := HR6.out.off hty.out (fun g hg => hbl.out g (HR6.out.own hg).2 (fun e => PA6.out g hg e))
          have PA8 : Hid (Parted (.slice a6 lR cap6) (.slice a8 (Gs.length + 1) cap8)) := fun g hg e => by
            rcases hob.out g e with q | q
            · exact PA6.out g hg q
            · have := (HR6.out.own hg).2; omega
          have GB8 : Hid (GatE w (w2.heap.size + 1) w8 (.slice a8 (Gs.length + 1) cap8) (Gs ++ [Mi]) 2097153) := hga
          have GW8 : Hid (Below w2.heap.size w2 w8) := GW6.out.trans (hbw.out.mono (by omega))
          have GT8 : Hid (Below w.heap.size w w8) := GT6.out.trans (hbw.out.mono (by have := HBX.out; omega))
          obtain ⟨lG, hlG⟩ : ∃ lG, Gs.length + 1 = lG := ⟨_, rfl⟩
          rw [hlG] at GB8 PA8 ⊢
          clear hlG hga hty hbw hbl hob PL6 ZL6 HR6 GB6 PA6 GW6 GT6 EV P7 HLN LV7 k2 k3 HFE
          have k2 := cnow GT8.out K2.out
          have k3 := cnow GT8.out K3.out
          have s0 := PL8.out.c0
          have s1 := PL8.out.c1
          have GD8 := hid (GD.out.next HZ0.out HKB.out HRD.out)
          rw [← HKN.out] at GD8
          have HLC : Hid (∀ w', Below w8.heap.size w8 w' → Calls Try.prog 16 #[.agg #[.bool ml, .slice asl ls cs], .agg #[.bool nf, .slice adf xf.length qf]] w' (GivesZ w' (lcmv (lcmL Gs) Mi) (1048576 + 1048576))) := fun w' b => lcm_z (ZL8.out.now b).zi ((ZF.out.now GT8.out).now b) (by decide)
          have HFT : Hid (((lcmL (Gs ++ [Mi])).natAbs : Int) < pw 1048576) := Int.lt_of_lt_of_le GD8.out.fit (pw_mono (KT0.out (i + 1)).2)
          go_wp2_with fail
          have KB : Hid (∀ w', Below w8.heap.size w8 w' → w'.cell? ⟨w2.heap.size, 0, none⟩ = some (.bool ml) ∧ w'.cell? ⟨w2.heap.size, 1, none⟩ = some (.slice asl ls cs) ∧ w'.cell? ⟨b1, o1 + i * 2, none⟩ = some (.bool nf) ∧ w'.cell? ⟨b1, o1 + i * 2 + 1, none⟩ = some (.slice adf xf.length qf)) := fun w' h => ⟨cnow h s0, cnow h s1, cnow h k2, cnow h k3⟩
          refine wp_region_tail (fun w' => w'.cell? ⟨w2.heap.size, 0, none⟩ = some (.bool ml) ∧ w'.cell? ⟨w2.heap.size, 1, none⟩ = some (.slice asl ls cs) ∧ w'.cell? ⟨b1, o1 + i * 2, none⟩ = some (.bool nf) ∧ w'.cell? ⟨b1, o1 + i * 2 + 1, none⟩ = some (.slice adf xf.length qf)) 6 (by kernel_rfl) ?_
          obtain ⟨D61, hD⟩ : ∃ D61, w8.drew = D61 := ⟨_, rfl⟩
          have GB : Hid (Below w8.heap.size w8 D61) := by unfold Hid; rw [← hD]; exact (Below.refl _ _).drew
          rw [hD]
          clear hD
          have GBs := GB
          refine wpAnyT_take (i := 0) (oi := { dst := some 57, op := Op.load 25 (Operand.tmp 9), type := 25, pos := "plain.go:168", after := #[], guard := none }) (v := (.agg #[.bool ml, .slice asl ls cs])) rfl (by kernel_rfl) (fun _ _ _ h => h) (Or.inl ⟨by rfl, ?_⟩) (KB.out _ GB.out) ?_
          · intro w hSw
            (try dsimp only at hSw)
            go_simp
          simp only [Act.put, List.setIfInBounds_toArray, List.set_cons_zero, List.set_cons_succ]
          refine wpAnyT_take (i := 1) (oi := { dst := some 58, op := Op.move (Operand.tmp 1), type := 22, pos := "plain.go:168", after := #[], guard := none }) (v := (.slice (some ⟨b1, o1, none⟩) n c0)) rfl (by kernel_rfl) (fun _ _ _ h => h) (Or.inl ⟨by rfl, ?_⟩) (KB.out _ GB.out) ?_
          · intro w hSw
            (try dsimp only at hSw)
            go_simp
          simp only [Act.put, List.setIfInBounds_toArray, List.set_cons_zero, List.set_cons_succ]
          refine wpAnyT_take (i := 2) (oi := { dst := some 59, op := Op.move (Operand.tmp 10), type := 3, pos := "plain.go:168", after := #[], guard := none }) (v := (.int .i64 (i : Int))) rfl (by kernel_rfl) (fun _ _ _ h => h) (Or.inl ⟨by rfl, ?_⟩) (KB.out _ GB.out) ?_
          · intro w hSw
            (try dsimp only at hSw)
            go_simp
          simp only [Act.put, List.setIfInBounds_toArray, List.set_cons_zero, List.set_cons_succ]
          refine wpAnyT_take (i := 3) (oi := { dst := some 60, op := Op.indexAddr 22 (Operand.tmp 58) (Operand.tmp 59), type := 0, pos := "plain.go:168", after := #[{ on := 1, ground := Ground.data }, { on := 2, ground := Ground.data }], guard := none }) (v := (.pointer (some ⟨b1, o1 + i * 2, none⟩))) rfl (by kernel_rfl) (fun _ _ _ h => h) (Or.inl ⟨by rfl, ?_⟩) (KB.out _ GB.out) ?_
          · intro w hSw
            (try dsimp only at hSw)
            go_simp
          simp only [Act.put, List.setIfInBounds_toArray, List.set_cons_zero, List.set_cons_succ]
          refine wpAnyT_take (i := 4) (oi := { dst := some 61, op := Op.load 25 (Operand.tmp 60), type := 25, pos := "plain.go:168", after := #[{ on := 3, ground := Ground.data }], guard := none }) (v := (.agg #[.bool nf, .slice adf xf.length qf])) rfl (by kernel_rfl) (fun _ _ _ h => h) (Or.inl ⟨by rfl, ?_⟩) (KB.out _ GB.out) ?_
          · intro w hSw
            (try dsimp only at hSw)
            go_simp
          simp only [Act.put, List.setIfInBounds_toArray, List.set_cons_zero, List.set_cons_succ]
          refine wpAnyT_one (i := 5) (o := { dst := some 62, op := Op.call { callee := Callee.value (Operand.func 16), args := #[Operand.tmp 57, Operand.tmp 61], argTypes := #[25, 25] }, type := 25, pos := "plain.go:168", after := #[{ on := 0, ground := Ground.data }, { on := 4, ground := Ground.data }], guard := none }) (by kernel_rfl) rfl (fun K hK => ?_)
          go_simp
          go_at_call 16
          refine (HLC.out _ GB.out).mono ?_
          rintro e w62 ⟨r, rfl, m1, b⟩
          have lz62 := (show Below _ _ _ from b).size
          replace GB := hid (below_step GB.out b)
          have BQ : Below w8.heap.size w8 w62 := below_step GBs.out b
          replace PL8 := hid (PL8.out.step BQ)
          replace HR8 := hid (HR8.out.now BQ)
          replace GB8 := hid (GB8.out.now BQ)
          replace GW8 := hid (below_step GW8.out BQ)
          have MZ : Hid (Zm 0 w62 r (lcmL (Gs ++ [Mi])) 1048576) := by
            have q := m1.mono (Nat.zero_le _)
            rw [← lcmL_append] at q
            exact q.fit HFT.out
          obtain ⟨nr, xr, ar, cr, rfl⟩ := m1.parts
          clear m1 BQ
          clear b
          refine hK.out _ _ (fun _ => KB.out _ GB.out) ?_
          clear hK
          refine wpAnyT_one (i := 6) (o := { dst := none, op := Op.store 25 (Operand.tmp 9) (Operand.tmp 62), type := 0, pos := "plain.go:168", after := #[{ on := 5, ground := Ground.data }, { on := 5, ground := Ground.chain }, { on := 0, ground := Ground.phase }, { on := 1, ground := Ground.phase }, { on := 2, ground := Ground.phase }, { on := 3, ground := Ground.phase }, { on := 4, ground := Ground.phase }, { on := 5, ground := Ground.phase }], guard := none }) (by kernel_rfl) rfl (fun K hK => ?_)
          have e0 := PL8.out.c0
          have e1 := PL8.out.c1
          have e2 := PL8.out.fz 0
          have e3 := PL8.out.fz 1
          go_simp
          clear e0 e1 e2 e3
          obtain ⟨V63, hW⟩ : ∃ V63, ((w62.setCell ⟨w2.heap.size, 0, none⟩ (.bool nr)).setCell ⟨w2.heap.size, 1, none⟩ (.slice ar xr.length cr)) = V63 := ⟨_, rfl⟩
          replace HR8 := hid (HR8.out.box PL8.out (Nat.lt_succ_self _) (.bool nr) (.slice ar xr.length cr))
          replace GB8 := hid (GB8.out.box PL8.out (Nat.lt_succ_self _) (.bool nr) (.slice ar xr.length cr))
          replace MZ := hid (MZ.out.box PL8.out (.bool nr) (.slice ar xr.length cr))
          replace PL8 := hid (PL8.out.set (.bool nr) (.slice ar xr.length cr))
          replace GW8 := hid (bset (g := w2.heap.size) (j := 1) (u := .slice ar xr.length cr) (bset (g := w2.heap.size) (j := 0) (u := .bool nr) GW8.out (Nat.le_refl _)) (Nat.le_refl _))
          rw [hW] at HR8 GB8 PL8 MZ GW8
          have HN1 : Hid (CBH w w2 N kt n (n - (i + 1)) (.slice a6 lR cap6) (.slice a8 lG cap8) (.int .i64 ((i + 1 : Nat) : Int)) V63) := ⟨i + 1, Rs ++ [zr], Gs ++ [Mi], rfl, by omega, rfl, GD8.out, by have := GL.out; rw [List.length_append]; exact Nat.succ_le_succ this, HR8.out, GB8.out, PA8.out, ⟨_, _, _, _, PL8.out, MZ.out⟩, GW8.out⟩
          have HMM : Hid (n - (i + 1) < gk) := by unfold Hid; rw [HG.out]; omega
          clear HR8 GB8 PL8 MZ GW8 GD8 PA8
          rw [hW]
          clear hW
          refine hK.out _ _ (fun h => absurd h (by decide)) ?_
          clear hK
          try simp only [Act.put]
          refine wpAnyT_done (by kernel_rfl) ?_ _
          clear HLC GB GBs KB s0 s1 k2 k3 HG GD GL
          go_wp2_with fail
          go_roundg (n - (i + 1))
          case rel => exact HN1.out
          case measure => exact HMM.out
        · have hge' : ¬ (i : Int) < (m : Int) := by omega
          have ER : Hid (∃ zr, (Zi w (.agg #[.bool nn, .slice adn xn.length cn]) zr 2097153 ∨ Zm 0 V4 (.agg #[.bool nn, .slice adn xn.length cn]) zr 2097153) ∧ Mi ∣ zr - N) := ⟨N, .inl (ZN0.out.more (by decide)), by rw [Int.sub_self]; exact Int.dvd_zero _⟩
          obtain ⟨zr, er, hrd⟩ := ER.out
          have HRD := hid hrd
          replace ER := hid er
          clear er hrd
          have r0 := PR.out.c0
          have r1 := PR.out.c1
          rw [← EV.out] at r0 r1
          have EV4 := EV
          clear EV
          obtain ⟨V5, hV⟩ : ∃ V5, V4.alloc (duo (.bool nn) (.slice adn xn.length cn)) = V5 := ⟨_, rfl⟩
          obtain ⟨b, sz1⟩ := alo1 V4 (duo (.bool nn) (.slice adn xn.length cn))
          rw [hV] at b sz1
          have P5 : Hid (Duo V5 V4.heap.size (.bool nn) (.slice adn xn.length cn)) := by unfold Hid; rw [← hV]; exact Duo.new V4 _ _
          replace PL := hid (PL.out.step b)
          replace ZL := hid (ZL.out.now b)
          replace GA := hid (GA.out.now b)
          replace GB0 := hid (GB0.out.now b)
          replace GW := hid (below_step GW.out b)
          replace GT := hid (below_step GT.out b)
          replace ER := hid (eor ER.out b)
          have EV := hid hV
          have LV5 : Hid (w2.heap.size + 1 ≤ V5.heap.size) := PL.out.blk
          have HLN : Hid (Rs.length ≤ 1048576) := by unfold Hid; have h1 := GD.out.len; have h2 := GL.out; omega
          clear b sz1 hV
          rw [SZ4.out] at P5
          go_wp2_with (at_builtin; rw [EV4.out, EV.out]; refine wpList_append_e _ rfl (.tmp 46) (.tmp 48) rfl w (w2.heap.size + 1) 2097153 _ _ _ Rs zr rfl GA.out (w3.heap.size + 1) rfl P5.out.c0 P5.out.c1 ER.out HLN.out LV5.out ?_)
          intro a6 cap6 w6 hga hty hbw hbl hob
          have HR6 : Hid (GatE w (w2.heap.size + 1) w6 (.slice a6 (Rs.length + 1) cap6) (Rs ++ [zr]) 2097153) := hga
          have PL6 := hid (PL.out.below hbw.out (Nat.lt_succ_self _))
          have ZL6 := hid (ZL.out.ty hty.out (by decide))
          have GB6 : Hid (GatE w (w2.heap.size + 1) w6 u8 Gs 2097153) := GB0.out.off hty.out (fun g hg => hbl.out g (GB0.out.own hg).2 (fun e => PA.out g e hg))
          have PA6 : Hid (Parted (.slice a6 (Rs.length + 1) cap6) u8) := fun g hg e => by
            rcases hob.out g hg with q | q
            · exact PA.out g q e
            · have := (GB0.out.own e).2; omega
          have GW6 : Hid (Below w2.heap.size w2 w6) := GW.out.trans (hbw.out.mono (by omega))
          have GT6 : Hid (Below w.heap.size w w6) := GT.out.trans (hbw.out.mono (by have := HBX.out; omega))
          obtain ⟨lR, hlR⟩ : ∃ lR, Rs.length + 1 = lR := ⟨_, rfl⟩
          rw [hlR] at HR6 PA6 ⊢
          clear hlR hga hty hbw hbl hob PL ZL GA GB0 PA GW GT EV PR P5 r0 r1 k2 k3 HLN LV5 ER
          have k2 := cnow GT6.out K2.out
          have k3 := cnow GT6.out K3.out
          obtain ⟨V7, hV⟩ : ∃ V7, w6.alloc (duo (.bool nf) (.slice adf xf.length qf)) = V7 := ⟨_, rfl⟩
          obtain ⟨b, sz1⟩ := alo1 w6 (duo (.bool nf) (.slice adf xf.length qf))
          rw [hV] at b sz1
          have P7 : Hid (Duo V7 w6.heap.size (.bool nf) (.slice adf xf.length qf)) := by unfold Hid; rw [← hV]; exact Duo.new w6 _ _
          replace PL6 := hid (PL6.out.step b)
          replace ZL6 := hid (ZL6.out.now b)
          replace HR6 := hid (HR6.out.now b)
          replace GB6 := hid (GB6.out.now b)
          replace GW6 := hid (below_step GW6.out b)
          replace GT6 := hid (below_step GT6.out b)
          have EV := hid hV
          have LV7 : Hid (w2.heap.size + 1 ≤ V7.heap.size) := PL6.out.blk
          have HLN : Hid (Gs.length ≤ 1048576) := by unfold Hid; have h2 := GL.out; omega
          have HFE : Hid (Zi w (.agg #[.bool nf, .slice adf xf.length qf]) Mi 2097153) := ZF.out.more (by decide)
          clear b sz1 hV
          go_wp2_with (at_builtin; rw [EV.out]; refine wpList_append_e _ rfl (.tmp 50) (.tmp 55) rfl w (w2.heap.size + 1) 2097153 _ _ _ Gs Mi rfl GB6.out w6.heap.size rfl P7.out.c0 P7.out.c1 (.inl HFE.out) HLN.out LV7.out ?_)
          intro a8 cap8 w8 hga hty hbw hbl hob
          have PL8 := hid (PL6.out.below hbw.out (Nat.lt_succ_self _))
          have ZL8 := hid (ZL6.out.ty hty.out (by decide))
          have HR8 : Hid (GatE w (w2.heap.size + 1) w8 (.slice a6 lR cap6) (Rs ++ [zr]) 2097153) := HR6.out.off hty.out (fun g hg => hbl.out g (HR6.out.own hg).2 (fun e => PA6.out g hg e))
          have PA8 : Hid (Parted (.slice a6 lR cap6) (.slice a8 (Gs.length + 1) cap8)) := fun g hg e => by
            rcases hob.out g e with q | q
            · exact PA6.out g hg q
            · have := (HR6.out.own hg).2; omega
          have GB8 : Hid (GatE w (w2.heap.size + 1) w8 (.slice a8 (Gs.length + 1) cap8) (Gs ++ [Mi]) 2097153) := hga
          have GW8 : Hid (Below w2.heap.size w2 w8) := GW6.out.trans (hbw.out.mono (by omega))
          have GT8 : Hid (Below w.heap.size w w8) := GT6.out.trans (hbw.out.mono (by have := HBX.out; omega))
          obtain ⟨lG, hlG⟩ : ∃ lG, Gs.length + 1 = lG := ⟨_, rfl⟩
          rw [hlG] at GB8 PA8 ⊢
          clear hlG hga hty hbw hbl hob PL6 ZL6 HR6 GB6 PA6 GW6 GT6 EV P7 HLN LV7 k2 k3 HFE
          have k2 := cnow GT8.out K2.out
          have k3 := cnow GT8.out K3.out
          have s0 := PL8.out.c0
          have s1 := PL8.out.c1
          have GD8 := hid (GD.out.next HZ0.out HKB.out HRD.out)
          rw [← HKN.out] at GD8
          have HLC : Hid (∀ w', Below w8.heap.size w8 w' → Calls Try.prog 16 #[.agg #[.bool ml, .slice asl ls cs], .agg #[.bool nf, .slice adf xf.length qf]] w' (GivesZ w' (lcmv (lcmL Gs) Mi) (1048576 + 1048576))) := fun w' b => lcm_z (ZL8.out.now b).zi ((ZF.out.now GT8.out).now b) (by decide)
          have HFT : Hid (((lcmL (Gs ++ [Mi])).natAbs : Int) < pw 1048576) := Int.lt_of_lt_of_le GD8.out.fit (pw_mono (KT0.out (i + 1)).2)
          go_wp2_with fail
          have KB : Hid (∀ w', Below w8.heap.size w8 w' → w'.cell? ⟨w2.heap.size, 0, none⟩ = some (.bool ml) ∧ w'.cell? ⟨w2.heap.size, 1, none⟩ = some (.slice asl ls cs) ∧ w'.cell? ⟨b1, o1 + i * 2, none⟩ = some (.bool nf) ∧ w'.cell? ⟨b1, o1 + i * 2 + 1, none⟩ = some (.slice adf xf.length qf)) := fun w' h => ⟨cnow h s0, cnow h s1, cnow h k2, cnow h k3⟩
          refine wp_region_tail (fun w' => w'.cell? ⟨w2.heap.size, 0, none⟩ = some (.bool ml) ∧ w'.cell? ⟨w2.heap.size, 1, none⟩ = some (.slice asl ls cs) ∧ w'.cell? ⟨b1, o1 + i * 2, none⟩ = some (.bool nf) ∧ w'.cell? ⟨b1, o1 + i * 2 + 1, none⟩ = some (.slice adf xf.length qf)) 6 (by kernel_rfl) ?_
          obtain ⟨D61, hD⟩ : ∃ D61, w8.drew = D61 := ⟨_, rfl⟩
          have GB : Hid (Below w8.heap.size w8 D61) := by unfold Hid; rw [← hD]; exact (Below.refl _ _).drew
          rw [hD]
          clear hD
          have GBs := GB
          refine wpAnyT_take (i := 0) (oi := { dst := some 57, op := Op.load 25 (Operand.tmp 9), type := 25, pos := "plain.go:168", after := #[], guard := none }) (v := (.agg #[.bool ml, .slice asl ls cs])) rfl (by kernel_rfl) (fun _ _ _ h => h) (Or.inl ⟨by rfl, ?_⟩) (KB.out _ GB.out) ?_
          · intro w hSw
            (try dsimp only at hSw)
            go_simp
          simp only [Act.put, List.setIfInBounds_toArray, List.set_cons_zero, List.set_cons_succ]
          refine wpAnyT_take (i := 1) (oi := { dst := some 58, op := Op.move (Operand.tmp 1), type := 22, pos := "plain.go:168", after := #[], guard := none }) (v := (.slice (some ⟨b1, o1, none⟩) n c0)) rfl (by kernel_rfl) (fun _ _ _ h => h) (Or.inl ⟨by rfl, ?_⟩) (KB.out _ GB.out) ?_
          · intro w hSw
            (try dsimp only at hSw)
            go_simp
          simp only [Act.put, List.setIfInBounds_toArray, List.set_cons_zero, List.set_cons_succ]
          refine wpAnyT_take (i := 2) (oi := { dst := some 59, op := Op.move (Operand.tmp 10), type := 3, pos := "plain.go:168", after := #[], guard := none }) (v := (.int .i64 (i : Int))) rfl (by kernel_rfl) (fun _ _ _ h => h) (Or.inl ⟨by rfl, ?_⟩) (KB.out _ GB.out) ?_
          · intro w hSw
            (try dsimp only at hSw)
            go_simp
          simp only [Act.put, List.setIfInBounds_toArray, List.set_cons_zero, List.set_cons_succ]
          refine wpAnyT_take (i := 3) (oi := { dst := some 60, op := Op.indexAddr 22 (Operand.tmp 58) (Operand.tmp 59), type := 0, pos := "plain.go:168", after := #[{ on := 1, ground := Ground.data }, { on := 2, ground := Ground.data }], guard := none }) (v := (.pointer (some ⟨b1, o1 + i * 2, none⟩))) rfl (by kernel_rfl) (fun _ _ _ h => h) (Or.inl ⟨by rfl, ?_⟩) (KB.out _ GB.out) ?_
          · intro w hSw
            (try dsimp only at hSw)
            go_simp
          simp only [Act.put, List.setIfInBounds_toArray, List.set_cons_zero, List.set_cons_succ]
          refine wpAnyT_take (i := 4) (oi := { dst := some 61, op := Op.load 25 (Operand.tmp 60), type := 25, pos := "plain.go:168", after := #[{ on := 3, ground := Ground.data }], guard := none }) (v := (.agg #[.bool nf, .slice adf xf.length qf])) rfl (by kernel_rfl) (fun _ _ _ h => h) (Or.inl ⟨by rfl, ?_⟩) (KB.out _ GB.out) ?_
          · intro w hSw
            (try dsimp only at hSw)
            go_simp
          simp only [Act.put, List.setIfInBounds_toArray, List.set_cons_zero, List.set_cons_succ]
          refine wpAnyT_one (i := 5) (o := { dst := some 62, op := Op.call { callee := Callee.value (Operand.func 16), args := #[Operand.tmp 57, Operand.tmp 61], argTypes := #[25, 25] }, type := 25, pos := "plain.go:168", after := #[{ on := 0, ground := Ground.data }, { on := 4, ground := Ground.data }], guard := none }) (by kernel_rfl) rfl (fun K hK => ?_)
          go_simp
          go_at_call 16
          refine (HLC.out _ GB.out).mono ?_
          rintro e w62 ⟨r, rfl, m1, b⟩
          have lz62 := (show Below _ _ _ from b).size
          replace GB := hid (below_step GB.out b)
          have BQ : Below w8.heap.size w8 w62 := below_step GBs.out b
          replace PL8 := hid (PL8.out.step BQ)
          replace HR8 := hid (HR8.out.now BQ)
          replace GB8 := hid (GB8.out.now BQ)
          replace GW8 := hid (below_step GW8.out BQ)
          have MZ : Hid (Zm 0 w62 r (lcmL (Gs ++ [Mi])) 1048576) := by
            have q := m1.mono (Nat.zero_le _)
            rw [← lcmL_append] at q
            exact q.fit HFT.out
          obtain ⟨nr, xr, ar, cr, rfl⟩ := m1.parts
          clear m1 BQ
          clear b
          refine hK.out _ _ (fun _ => KB.out _ GB.out) ?_
          clear hK
          refine wpAnyT_one (i := 6) (o := { dst := none, op := Op.store 25 (Operand.tmp 9) (Operand.tmp 62), type := 0, pos := "plain.go:168", after := #[{ on := 5, ground := Ground.data }, { on := 5, ground := Ground.chain }, { on := 0, ground := Ground.phase }, { on := 1, ground := Ground.phase }, { on := 2, ground := Ground.phase }, { on := 3, ground := Ground.phase }, { on := 4, ground := Ground.phase }, { on := 5, ground := Ground.phase }], guard := none }) (by kernel_rfl) rfl (fun K hK => ?_)
          have e0 := PL8.out.c0
          have e1 := PL8.out.c1
          have e2 := PL8.out.fz 0
          have e3 := PL8.out.fz 1
          go_simp
          clear e0 e1 e2 e3
          obtain ⟨V63, hW⟩ : ∃ V63, ((w62.setCell ⟨w2.heap.size, 0, none⟩ (.bool nr)).setCell ⟨w2.heap.size, 1, none⟩ (.slice ar xr.length cr)) = V63 := ⟨_, rfl⟩
          replace HR8 := hid (HR8.out.box PL8.out (Nat.lt_succ_self _) (.bool nr) (.slice ar xr.length cr))
          replace GB8 := hid (GB8.out.box PL8.out (Nat.lt_succ_self _) (.bool nr) (.slice ar xr.length cr))
          replace MZ := hid (MZ.out.box PL8.out (.bool nr) (.slice ar xr.length cr))
          replace PL8 := hid (PL8.out.set (.bool nr) (.slice ar xr.length cr))
          replace GW8 := hid (bset (g := w2.heap.size) (j := 1) (u := .slice ar xr.length cr) (bset (g := w2.heap.size) (j := 0) (u := .bool nr) GW8.out (Nat.le_refl _)) (Nat.le_refl _))
          rw [hW] at HR8 GB8 PL8 MZ GW8
          have HN1 : Hid (CBH w w2 N kt n (n - (i + 1)) (.slice a6 lR cap6) (.slice a8 lG cap8) (.int .i64 ((i + 1 : Nat) : Int)) V63) := ⟨i + 1, Rs ++ [zr], Gs ++ [Mi], rfl, by omega, rfl, GD8.out, by have := GL.out; rw [List.length_append]; exact Nat.succ_le_succ this, HR8.out, GB8.out, PA8.out, ⟨_, _, _, _, PL8.out, MZ.out⟩, GW8.out⟩
          have HMM : Hid (n - (i + 1) < gk) := by unfold Hid; rw [HG.out]; omega
          clear HR8 GB8 PL8 MZ GW8 GD8 PA8
          rw [hW]
          clear hW
          refine hK.out _ _ (fun h => absurd h (by decide)) ?_
          clear hK
          try simp only [Act.put]
          refine wpAnyT_done (by kernel_rfl) ?_ _
          clear HLC GB GBs KB s0 s1 k2 k3 HG GD GL
          go_wp2_with fail
          go_roundg (n - (i + 1))
          case rel => exact HN1.out
          case measure => exact HMM.out
    · have hlt' : ¬ (i : Int) < (n : Int) := by omega
      obtain rfl : n = i := by omega
      have HLR : Hid (Rs.length ≤ 1048576 ∧ Gs.length ≤ 1048576) := ⟨by have h1 := GD.out.len; have h2 := GL.out; omega, by have h2 := GL.out; omega⟩
      have HCR := hid (crt_good GD.out (Nat.le_trans (KT0.out n).2 (by decide)) (GA.out.zl HLR.out.1 GT.out) (GB0.out.zl HLR.out.2 GT.out) (by decide) (by decide))
      have ZG := hid (GB0.out.zl HLR.out.2 GT.out)
      obtain ⟨a8, c8, rfl, hc8⟩ := GB0.out.form
      have PN1 := hid (PN.out.step GW.out)
      have ZN := hid (ZN0.out.now GT.out)
      have HED : Hid (∀ r m, CrtL Rs Gs r m → m ∣ r - N) := fun r m h => GD.out.ends h
      have HG8 := hid HLR.out.2
      obtain ⟨g, hg⟩ : ∃ g, Gs.length = g := ⟨_, rfl⟩
      rw [hg] at HCR hc8 HG8 ZG ⊢
      have HGL := hid hg
      clear hg GA GB0 PA GD GL HG GW HLR F0 F1 V0 V1 KT0 KT1 KT2 PN HBX
      go_wp2_with fail
      refine HCR.out.mono ?_
      rintro e w11 ⟨zr, zm, hcl, q0, q1, rfl, m0, m1, b⟩
      have HCL := hid hcl
      obtain ⟨nr, xr, ar, cr, rfl⟩ := m0.parts
      obtain ⟨nm, xm, am, cm, rfl⟩ := m1.parts
      have ZR := hid (m0.mono (Nat.zero_le _))
      have ZM := hid (m1.mono (Nat.zero_le _))
      replace PL := hid (PL.out.step b)
      replace PN1 := hid (PN1.out.step b)
      replace ZL := hid (ZL.out.now b)
      replace ZN := hid (ZN.out.now b)
      replace ZG := hid (ZG.out.now b)
      replace GT := hid (below_step GT.out b)
      clear b m0 m1 HCR hcl
      obtain ⟨V12, hV⟩ : ∃ V12, (w11.alloc (duo (.bool nr) (.slice ar xr.length cr))).alloc (duo (.bool nm) (.slice am xm.length cm)) = V12 := ⟨_, rfl⟩
      obtain ⟨b, sz1⟩ := alloc2 w11 (duo (.bool nr) (.slice ar xr.length cr)) (duo (.bool nm) (.slice am xm.length cm))
      rw [hV] at b sz1
      have PR : Hid (Duo V12 w11.heap.size (.bool nr) (.slice ar xr.length cr)) := by unfold Hid; rw [← hV]; exact duo_late (duo_at rfl) _
      have PM : Hid (Duo V12 (w11.heap.size + 1) (.bool nm) (.slice am xm.length cm)) := by unfold Hid; rw [← hV]; exact duo_at (by simp)
      replace PL := hid (PL.out.step b)
      replace PN1 := hid (PN1.out.step b)
      replace ZL := hid (ZL.out.now b)
      replace ZN := hid (ZN.out.now b)
      replace ZG := hid (ZG.out.now b)
      replace ZR := hid (ZR.out.now b)
      replace ZM := hid (ZM.out.now b)
      replace GT := hid (below_step GT.out b)
      have EV := hid hV
      have r0 := PR.out.c0
      have r1 := PR.out.c1
      rw [← hV] at r0 r1
      have qe : ((0 : Int) != 0) = false := rfl
      clear b sz1 hV
      go_wp2_with fail
      rw [EV.out]
      clear EV r0 r1
      refine (least6 ZR.out.zc).mono ?_
      rintro e w13 ⟨rfl, b⟩
      replace PL := hid (PL.out.step b)
      replace PN1 := hid (PN1.out.step b)
      replace PR := hid (PR.out.step b)
      replace PM := hid (PM.out.step b)
      replace ZL := hid (ZL.out.now b)
      replace ZN := hid (ZN.out.now b)
      replace ZG := hid (ZG.out.now b)
      replace ZR := hid (ZR.out.now b)
      replace ZM := hid (ZM.out.now b)
      replace GT := hid (below_step GT.out b)
      clear b
      have cPM0 := PM.out.c0
      have cPM1 := PM.out.c1
      have cPL0 := PL.out.c0
      have cPL1 := PL.out.c1
      go_wp2_with fail
      clear cPM0 cPM1 cPL0 cPL1
      refine (alike6_yes ZM.out.zc ZL.out.zc HCL.out.em).mono ?_
      rintro e w14 ⟨rfl, b⟩
      replace PL := hid (PL.out.step b)
      replace PN1 := hid (PN1.out.step b)
      replace PR := hid (PR.out.step b)
      replace PM := hid (PM.out.step b)
      replace ZL := hid (ZL.out.now b)
      replace ZN := hid (ZN.out.now b)
      replace ZG := hid (ZG.out.now b)
      replace ZR := hid (ZR.out.now b)
      replace ZM := hid (ZM.out.now b)
      replace GT := hid (below_step GT.out b)
      clear b
      have HSM := hid (sign_pos HCL.out.pos)
      have cPM0 := PM.out.c0
      have cPM1 := PM.out.c1
      go_wp2_with fail
      clear cPM0 cPM1
      refine (int_as6 (rsign_z ZM.out.zi (by decide)) HSM.out).mono ?_
      rintro e w15 ⟨rfl, b⟩
      replace PL := hid (PL.out.step b)
      replace PN1 := hid (PN1.out.step b)
      replace PR := hid (PR.out.step b)
      replace PM := hid (PM.out.step b)
      replace ZL := hid (ZL.out.now b)
      replace ZN := hid (ZN.out.now b)
      replace ZG := hid (ZG.out.now b)
      replace ZR := hid (ZR.out.now b)
      replace ZM := hid (ZM.out.now b)
      replace GT := hid (below_step GT.out b)
      clear b
      have HWI : Hid (0 ≤ zr ∧ zr < (zm.natAbs : Int)) := by
        have h1 := HCL.out.lo
        have h2 := HCL.out.hi
        unfold Hid
        omega
      have cPR0 := PR.out.c0
      have cPR1 := PR.out.c1
      have cPM0 := PM.out.c0
      have cPM1 := PM.out.c1
      go_wp2_with fail
      clear cPR0 cPR1 cPM0 cPM1
      refine (within6 ZR.out.zi ZM.out.zi (by decide) HWI.out).mono ?_
      rintro e w16 ⟨rfl, b⟩
      replace PL := hid (PL.out.step b)
      replace PN1 := hid (PN1.out.step b)
      replace PR := hid (PR.out.step b)
      replace PM := hid (PM.out.step b)
      replace ZL := hid (ZL.out.now b)
      replace ZN := hid (ZN.out.now b)
      replace ZG := hid (ZG.out.now b)
      replace ZR := hid (ZR.out.now b)
      replace ZM := hid (ZM.out.now b)
      replace GT := hid (below_step GT.out b)
      clear b
      clear HSM HWI ZL PL
      have H0 : Hid (CDH w16 g g (.int .i64 0) w16) := ⟨0, rfl, Nat.zero_le _, by omega, Below.refl _ _⟩
      go_wp2_with fail
      go_loopg [15] g (fun gk s15 wx => CDH w16 g gk s15 wx)
      case atStart => exact H0.out
      case round =>
        clear H0
        obtain ⟨i, rfl, hig, hgk, hGl⟩ := hrel
        have GX := hid hGl
        have HG := hid hgk
        clear hGl hgk
        have PM1 := hid (PM.out.step GX.out)
        have m0 := PM1.out.c0
        have m1 := PM1.out.c1
        by_cases hlt : i < g
        · have hlt' : (i : Int) < (g : Int) := by omega
          obtain ⟨a9, c9, e9, -, -, f9⟩ := ZG.out.form9
          obtain ⟨b3, o3, f9⟩ := f9 (fun e => by have := HGL.out; rw [e] at this; simp at this; omega)
          simp only [Value.slice.injEq] at e9
          obtain ⟨rfl, -, rfl⟩ := e9
          subst f9
          have hiG : i < Gs.length := by rw [HGL.out]; exact hlt
          obtain ⟨nd, xd, add, qd, k0w, k1w, zdw⟩ := ZG.out.at9 (i := i) hiG
          have k0 := cnow GX.out k0w
          have k1 := cnow GX.out k1w
          have HDM : Hid (Gs[i] ∣ zm) := HCL.out.dm i hiG
          have HDV : Hid (∀ w', Below wr.heap.size wr w' → Calls Try.prog 11 #[.agg #[.bool nd, .slice add xd.length qd], .agg #[.bool nm, .slice am xm.length cm]] w' fun e w'' => e = .returned (.bool true) ∧ Below w'.heap.size w' w'') := fun w' b => divides6 ((zdw.now GX.out).now b) ((ZM.out.now GX.out).now b).zi (by decide) (by decide) HDM.out
          have hw := wrapI9 (i := i) (by have := HG8.out; omega)
          have HMM : Hid (g - (i + 1) < gk) := by unfold Hid; rw [HG.out]; omega
          clear k0w k1w zdw hiG HDM
          go_wp2_with fail
          have KB : Hid (∀ w', Below wr.heap.size wr w' → w'.cell? ⟨b3, o3 + i * 2, none⟩ = some (.bool nd) ∧ w'.cell? ⟨b3, o3 + i * 2 + 1, none⟩ = some (.slice add xd.length qd) ∧ w'.cell? ⟨w11.heap.size + 1, 0, none⟩ = some (.bool nm) ∧ w'.cell? ⟨w11.heap.size + 1, 1, none⟩ = some (.slice am xm.length cm)) := fun w' h => ⟨cnow h k0, cnow h k1, cnow h m0, cnow h m1⟩
          refine wp_region_tail (fun w' => w'.cell? ⟨b3, o3 + i * 2, none⟩ = some (.bool nd) ∧ w'.cell? ⟨b3, o3 + i * 2 + 1, none⟩ = some (.slice add xd.length qd) ∧ w'.cell? ⟨w11.heap.size + 1, 0, none⟩ = some (.bool nm) ∧ w'.cell? ⟨w11.heap.size + 1, 1, none⟩ = some (.slice am xm.length cm)) 6 (by kernel_rfl) ?_
          obtain ⟨D81, hD⟩ : ∃ D81, wr.drew = D81 := ⟨_, rfl⟩
          have GB : Hid (Below wr.heap.size wr D81) := by unfold Hid; rw [← hD]; exact (Below.refl _ _).drew
          rw [hD]
          clear hD
          refine wpAnyT_take (i := 0) (oi := { dst := some 100, op := Op.move (Operand.tmp 8), type := 22, pos := "plain.go:175", after := #[], guard := none }) (v := (.slice (some ⟨b3, o3, none⟩) g c8)) rfl (by kernel_rfl) (fun _ _ _ h => h) (Or.inl ⟨by rfl, ?_⟩) (KB.out _ GB.out) ?_
          · intro w hSw
            (try dsimp only at hSw)
            go_simp
          simp only [Act.put, List.setIfInBounds_toArray, List.set_cons_zero, List.set_cons_succ]
          refine wpAnyT_take (i := 1) (oi := { dst := some 101, op := Op.move (Operand.tmp 15), type := 3, pos := "plain.go:175", after := #[], guard := none }) (v := (.int .i64 (i : Int))) rfl (by kernel_rfl) (fun _ _ _ h => h) (Or.inl ⟨by rfl, ?_⟩) (KB.out _ GB.out) ?_
          · intro w hSw
            (try dsimp only at hSw)
            go_simp
          simp only [Act.put, List.setIfInBounds_toArray, List.set_cons_zero, List.set_cons_succ]
          refine wpAnyT_take (i := 2) (oi := { dst := some 102, op := Op.indexAddr 22 (Operand.tmp 100) (Operand.tmp 101), type := 0, pos := "plain.go:175", after := #[{ on := 0, ground := Ground.data }, { on := 1, ground := Ground.data }], guard := none }) (v := (.pointer (some ⟨b3, o3 + i * 2, none⟩))) rfl (by kernel_rfl) (fun _ _ _ h => h) (Or.inl ⟨by rfl, ?_⟩) (KB.out _ GB.out) ?_
          · intro w hSw
            (try dsimp only at hSw)
            go_simp
          simp only [Act.put, List.setIfInBounds_toArray, List.set_cons_zero, List.set_cons_succ]
          refine wpAnyT_take (i := 3) (oi := { dst := some 103, op := Op.load 25 (Operand.tmp 102), type := 25, pos := "plain.go:175", after := #[{ on := 2, ground := Ground.data }], guard := none }) (v := (.agg #[.bool nd, .slice add xd.length qd])) rfl (by kernel_rfl) (fun _ _ _ h => h) (Or.inl ⟨by rfl, ?_⟩) (KB.out _ GB.out) ?_
          · intro w hSw
            (try dsimp only at hSw)
            go_simp
          simp only [Act.put, List.setIfInBounds_toArray, List.set_cons_zero, List.set_cons_succ]
          refine wpAnyT_take (i := 4) (oi := { dst := some 104, op := Op.load 25 (Operand.tmp 13), type := 25, pos := "plain.go:175", after := #[], guard := none }) (v := (.agg #[.bool nm, .slice am xm.length cm])) rfl (by kernel_rfl) (fun _ _ _ h => h) (Or.inl ⟨by rfl, ?_⟩) (KB.out _ GB.out) ?_
          · intro w hSw
            (try dsimp only at hSw)
            go_simp
          simp only [Act.put, List.setIfInBounds_toArray, List.set_cons_zero, List.set_cons_succ]
          refine wpAnyT_one (i := 5) (o := { dst := some 105, op := Op.call { callee := Callee.value (Operand.func 11), args := #[Operand.tmp 103, Operand.tmp 104], argTypes := #[25, 25] }, type := 4, pos := "plain.go:175", after := #[{ on := 3, ground := Ground.data }, { on := 4, ground := Ground.data }], guard := none }) (by kernel_rfl) rfl (fun K hK => ?_)
          go_simp
          go_at_call 11
          refine (HDV.out _ GB.out).mono ?_
          rintro e w82 ⟨rfl, b⟩
          have lz82 := (show Below _ _ _ from b).size
          replace GB := hid (below_step GB.out b)
          clear b
          refine hK.out _ _ (fun _ => KB.out _ GB.out) ?_
          clear hK
          refine wpAnyT_one (i := 6) (o := { dst := some 106, op := Op.unOp UnOp.not 4 (Operand.tmp 105), type := 4, pos := "plain.go:175", after := #[{ on := 5, ground := Ground.data }], guard := none }) (by kernel_rfl) rfl (fun K hK => ?_)
          go_simp
          refine hK.out _ _ (fun h => absurd h (by decide)) ?_
          clear hK
          try simp only [Act.put]
          refine wpAnyT_done (by kernel_rfl) ?_ _
          have HN1 : Hid (CDH w16 g (g - (i + 1)) (.int .i64 ((i + 1 : Nat) : Int)) w82) := ⟨i + 1, rfl, by omega, rfl, below_step GX.out GB.out⟩
          clear GB KB HDV k0 k1 m0 m1 PM1 GX HG
          go_wp2_with fail
          go_roundg (g - (i + 1))
          case rel => exact HN1.out
          case measure => exact HMM.out
        · have hlt' : ¬ (i : Int) < (g : Int) := by omega
          have PR1 := hid (PR.out.step GX.out)
          have PN2 := hid (PN1.out.step GX.out)
          have ZR1 := hid (ZR.out.now GX.out)
          have ZM1 := hid (ZM.out.now GX.out)
          have ZN1 := hid (ZN.out.now GX.out)
          have GT1 := hid (below_step GT.out GX.out)
          have r0 := PR1.out.c0
          have r1 := PR1.out.c1
          have n0 := PN2.out.c0
          have n1 := PN2.out.c1
          have HDN : Hid (zm ∣ zr - N) := HED.out _ _ HCL.out
          clear HG GX PR PM PN1 ZR ZM ZN ZG GT
          go_wp2_with fail
          have KB : Hid (∀ w', Below wr.heap.size wr w' → w'.cell? ⟨w11.heap.size + 1, 0, none⟩ = some (.bool nm) ∧ w'.cell? ⟨w11.heap.size + 1, 1, none⟩ = some (.slice am xm.length cm) ∧ w'.cell? ⟨w11.heap.size, 0, none⟩ = some (.bool nr) ∧ w'.cell? ⟨w11.heap.size, 1, none⟩ = some (.slice ar xr.length cr) ∧ w'.cell? ⟨w.heap.size, 0, none⟩ = some (.bool nn) ∧ w'.cell? ⟨w.heap.size, 1, none⟩ = some (.slice adn xn.length cn)) := fun w' h => ⟨cnow h m0, cnow h m1, cnow h r0, cnow h r1, cnow h n0, cnow h n1⟩
          refine wp_region_tail (fun w' => w'.cell? ⟨w11.heap.size + 1, 0, none⟩ = some (.bool nm) ∧ w'.cell? ⟨w11.heap.size + 1, 1, none⟩ = some (.slice am xm.length cm) ∧ w'.cell? ⟨w11.heap.size, 0, none⟩ = some (.bool nr) ∧ w'.cell? ⟨w11.heap.size, 1, none⟩ = some (.slice ar xr.length cr) ∧ w'.cell? ⟨w.heap.size, 0, none⟩ = some (.bool nn) ∧ w'.cell? ⟨w.heap.size, 1, none⟩ = some (.slice adn xn.length cn)) 5 (by kernel_rfl) ?_
          obtain ⟨D91, hD⟩ : ∃ D91, wr.drew = D91 := ⟨_, rfl⟩
          have GB : Hid (Below wr.heap.size wr D91) := by unfold Hid; rw [← hD]; exact (Below.refl _ _).drew
          rw [hD]
          clear hD
          refine wpAnyT_take (i := 0) (oi := { dst := some 107, op := Op.load 25 (Operand.tmp 13), type := 25, pos := "plain.go:179", after := #[], guard := none }) (v := (.agg #[.bool nm, .slice am xm.length cm])) rfl (by kernel_rfl) (fun _ _ _ h => h) (Or.inl ⟨by rfl, ?_⟩) (KB.out _ GB.out) ?_
          · intro w hSw
            (try dsimp only at hSw)
            go_simp
          simp only [Act.put, List.setIfInBounds_toArray, List.set_cons_zero, List.set_cons_succ]
          refine wpAnyT_take (i := 1) (oi := { dst := some 108, op := Op.load 25 (Operand.tmp 12), type := 25, pos := "plain.go:179", after := #[], guard := none }) (v := (.agg #[.bool nr, .slice ar xr.length cr])) rfl (by kernel_rfl) (fun _ _ _ h => h) (Or.inl ⟨by rfl, ?_⟩) (KB.out _ GB.out) ?_
          · intro w hSw
            (try dsimp only at hSw)
            go_simp
          simp only [Act.put, List.setIfInBounds_toArray, List.set_cons_zero, List.set_cons_succ]
          refine wpAnyT_take (i := 2) (oi := { dst := some 109, op := Op.load 25 (Operand.tmp 3), type := 25, pos := "plain.go:179", after := #[], guard := none }) (v := (.agg #[.bool nn, .slice adn xn.length cn])) rfl (by kernel_rfl) (fun _ _ _ h => h) (Or.inl ⟨by rfl, ?_⟩) (KB.out _ GB.out) ?_
          · intro w hSw
            (try dsimp only at hSw)
            go_simp
          simp only [Act.put, List.setIfInBounds_toArray, List.set_cons_zero, List.set_cons_succ]
          refine wpAnyT_one (i := 3) (o := { dst := some 110, op := Op.call { callee := Callee.value (Operand.func 19), args := #[Operand.tmp 108, Operand.tmp 109], argTypes := #[25, 25] }, type := 25, pos := "plain.go:179", after := #[{ on := 1, ground := Ground.data }, { on := 2, ground := Ground.data }], guard := none }) (by kernel_rfl) rfl (fun K hK => ?_)
          go_simp
          go_at_call 19
          refine (rsub_z (ZR1.out.now GB.out).zi (ZN1.out.now GB.out) (by decide) (by decide)).mono ?_
          rintro e w92 ⟨r, rfl, m2, b⟩
          have lz92 := (show Below _ _ _ from b).size
          replace GB := hid (below_step GB.out b)
          have ZQ := hid m2
          obtain ⟨nq, xq, aq, cq, rfl⟩ := m2.parts
          clear m2
          clear b
          refine hK.out _ _ (fun _ => KB.out _ GB.out) ?_
          clear hK
          refine wpAnyT_one (i := 4) (o := { dst := some 111, op := Op.call { callee := Callee.value (Operand.func 11), args := #[Operand.tmp 107, Operand.tmp 110], argTypes := #[25, 25] }, type := 4, pos := "plain.go:179", after := #[{ on := 0, ground := Ground.data }, { on := 3, ground := Ground.data }, { on := 3, ground := Ground.chain }], guard := none }) (by kernel_rfl) rfl (fun K hK => ?_)
          go_simp
          go_at_call 11
          refine (divides6 (ZM1.out.now GB.out).zi ZQ.out.zi (by decide) (by decide) HDN.out).mono ?_
          rintro e w93 ⟨rfl, b⟩
          have lz93 := (show Below _ _ _ from b).size
          replace GB := hid (below_step GB.out b)
          clear b
          refine hK.out _ _ (fun _ => KB.out _ GB.out) ?_
          clear hK
          refine wpAnyT_one (i := 5) (o := { dst := some 6, op := Op.assign (Operand.tmp 111), type := 4, pos := "plain.go:179", after := #[{ on := 4, ground := Ground.data }, { on := 4, ground := Ground.chain }, { on := 0, ground := Ground.phase }, { on := 1, ground := Ground.phase }, { on := 2, ground := Ground.phase }, { on := 3, ground := Ground.phase }, { on := 4, ground := Ground.phase }], guard := none }) (by kernel_rfl) rfl (fun K hK => ?_)
          go_simp
          refine hK.out _ _ (fun h => absurd h (by decide)) ?_
          clear hK
          try simp only [Act.put]
          refine wpAnyT_done (by kernel_rfl) ?_ _
          have GE := hid (below_step GT1.out GB.out)
          clear GB KB ZQ
          go_wp2
          go_ret
          exact ⟨rfl, GE.out⟩
end Go.Proofs.Ytkikiddoiigbjaa
