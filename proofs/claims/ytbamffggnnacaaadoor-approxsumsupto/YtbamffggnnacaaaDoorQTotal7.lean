/-
  Total7: Total
-/
import Derived.Test.YtbamffggnnacaaaDoorQFs7ToFf7
namespace Go.Proofs.YtbamffggnnacaaaDoor
open Go.RowKit
set_option linter.unusedVariables false

set_option maxHeartbeats 25600000 in
set_option maxRecDepth 100000 in
theorem total_any {w : World} {v : Value} {fs : List Nat} (hv : Fs w.heap.size w v fs) (hT : Tab w) :
    Calls Tryd.prog 26 #[v] w (Totaled w fs) := by
  have HFS := hid hv
  have HT0 := hid hT
  obtain ⟨hlt, a, cap, rfl, hcap, hlen, hcl⟩ := hv
  have HLT := hid hlt
  have HCL := hid hcl
  obtain ⟨n, hn⟩ : ∃ n, fs.length = n := ⟨_, rfl⟩
  have HN := hid hn
  rw [hn] at hcap hlen ⊢
  clear hlt hcl hT hn
  obtain ⟨W0, hW⟩ : ∃ W0, w.alloc zbox = W0 := ⟨_, rfl⟩
  obtain ⟨b0, sz0⟩ := alloc1 w zbox
  rw [hW] at b0 sz0
  have pS : Duo W0 w.heap.size (.bool false) (.slice none 0 0) := by rw [← hW]; exact duo_at rfl
  have H0 : Hid (TotH w fs n n (.int .i64 0) W0) := ⟨0, _, _, rfl, Nat.zero_le _, rfl, fun j _ h => absurd h (Nat.not_lt_zero _), pS, by simpa [ssum] using zm_nil _ _ _, b0⟩
  have EW := hid hW
  clear hW b0 pS sz0
  go_enter Tryd.func26, Tryd.ntmps26
  go_wp2_with fail
  rw [EW.out]
  clear EW
  go_loopg [9] n (fun g s9 wx => TotH w fs n g s9 wx)
  case atStart => exact H0.out
  case round =>
    clear H0
    obtain ⟨i, r0, r1, rfl, hin, hg, hfin, pS, zS, hG⟩ := hrel
    obtain ⟨ns, xs, ads, qs, rfl, rfl⟩ := zS.comp7
    have PS := hid pS
    have Zs := hid zS
    have G := hid hG
    have HG := hid hg
    have HFIN := hid hfin
    have bS_ := PS.out.blk
    clear pS zS hG hg hfin W0
    by_cases hlt : i < n
    · skip
      have hlt' : (i : Int) < (n : Int) := by omega
      have hli : i < fs.length := by rw [HN.out]; exact hlt
      have hw := wrapI7 (i := i) (by omega)
      rcases HCL.out with e | ⟨bk, off, rfl, hbk, hcc⟩
      · rw [e] at hli; simp at hli
      have cf : wr.cell? ⟨bk, off + i, none⟩ = some (.float .f64 fs[i]) := (G.out.cell (p := ⟨bk, off + i, none⟩) hbk).trans (hcc i hli)
      have HX : Hid (fs[i] < 2 ^ 64) := HLT.out _ (List.getElem_mem hli)
      have HSS := hid (ssum_take hli)
      have HMEM : Hid (fs[i] ∈ fs) := List.getElem_mem hli
      obtain ⟨f, hfe⟩ : ∃ f, fs[i] = f := ⟨_, rfl⟩
      have HFE := hid hfe
      rw [hfe] at cf HX HSS HMEM
      clear hfe hcc
      by_cases hf : Fin7 f
      · skip
        have HF := hid hf
        clear hf
        go_wp2_with fail
        refine (isFinite_b HX.out _ (decide_eq_true HF.out)).mono ?_
        rintro e w1 ⟨rfl, b⟩
        replace Zs := hid (Zs.out.now b)
        replace PS := hid (PS.out.step b)
        replace G := hid (below_step G.out b)
        have lz2 := (show Below _ _ _ from b).size
        clear b 
        clear cf
        go_wp2_with fail
        refine wp_region_X (fun w' => w'.cell? ⟨w.heap.size, 0, none⟩ = some (.bool ns) ∧ w'.cell? ⟨w.heap.size, 1, none⟩ = some (.slice ads xs.length qs)) [4] (by kernel_rfl) ?_
        obtain ⟨D3, hD⟩ : ∃ D3, w1.drew = D3 := ⟨_, rfl⟩
        have b : Below w1.heap.size w1 D3 := by rw [← hD]; exact (Below.refl _ _).drew
        rw [hD]
        clear hD
        replace Zs := hid (Zs.out.now b)
        replace PS := hid (PS.out.step b)
        replace G := hid (below_step G.out b)
        have lz4 := (show Below _ _ _ from b).size
        clear b
        refine wpAnyX_take (i := 0) (oi := { dst := some 16, op := Op.load 24 (Operand.tmp 4), type := 24, pos := "exact.go:56", after := #[], guard := none }) (v := (.agg #[(.bool ns), (.slice ads xs.length qs)])) rfl (by kernel_rfl) (fun _ _ _ h => h) (Or.inl ⟨by rfl, ?_⟩) ⟨PS.out.c0, PS.out.c1⟩ ?_
        · intro w hSw
          (try dsimp only at hSw)
          go_simp
        simp only [Act.put, List.setIfInBounds_toArray, List.set_cons_zero, List.set_cons_succ]
        refine wpAnyX_pure (i := 1) (oi := { dst := some 17, op := Op.move (Operand.tmp 6), type := 26, pos := "exact.go:56", after := #[], guard := none }) (v := (.float .f64 f)) rfl (by kernel_rfl) (fun _ _ _ h => h) (Or.inl ⟨by rfl, ?_⟩)  ?_
        · intro w hSw
          (try dsimp only at hSw)
          go_simp
        simp only [Act.put, List.setIfInBounds_toArray, List.set_cons_zero, List.set_cons_succ]
        refine wpAnyX_one (i := 2) (o := { dst := some 18, op := Op.call { callee := Callee.value (Operand.func 34), args := #[Operand.tmp 17, Operand.const (Value.int IntKind.i64 1074)], argTypes := #[26, 3] }, type := 24, pos := "exact.go:56", after := #[{ on := 1, ground := Ground.data }], guard := none }) (by kernel_rfl) rfl (fun K hK => ?_)
        go_simp
        go_at_call 34
        refine (whole_steps HX.out HF.out _).mono ?_
        rintro e w5 ⟨r0, rfl, m0, b⟩
        obtain ⟨np, xp, adp, qp, rfl, -, -, -, -, -⟩ := id m0
        replace Zs := hid (Zs.out.now b)
        replace PS := hid (PS.out.step b)
        replace G := hid (below_step G.out b)
        have lz6 := (show Below _ _ _ from b).size
        have Zp := hid m0
        clear b m0
        refine hK.out _ _ (fun _ _ => ⟨PS.out.c0, PS.out.c1⟩) ?_
        clear hK
        refine wpAnyX_one (i := 3) (o := { dst := some 19, op := Op.call { callee := Callee.value (Operand.func 28), args := #[Operand.tmp 16, Operand.tmp 18], argTypes := #[24, 24] }, type := 24, pos := "exact.go:56", after := #[{ on := 0, ground := Ground.data }, { on := 2, ground := Ground.data }, { on := 2, ground := Ground.chain }], guard := none }) (by kernel_rfl) rfl (fun K hK => ?_)
        go_simp
        go_at_call 28
        refine (add_z Zs.out.zi Zp.out.zi (by omega) (by omega)).mono ?_
        rintro e w7 ⟨r0, rfl, m0, b⟩
        obtain ⟨nq, xq, adq, qq, rfl, -, -, -, -, -⟩ := id m0
        replace Zs := hid (Zs.out.now b)
        replace Zp := hid (Zp.out.now b)
        replace PS := hid (PS.out.step b)
        replace G := hid (below_step G.out b)
        have lz8 := (show Below _ _ _ from b).size
        have Zq := hid m0
        clear b m0
        refine hK.out _ _ (fun _ _ => ⟨PS.out.c0, PS.out.c1⟩) ?_
        clear hK
        refine wpAnyX_one (i := 4) (o := { dst := none, op := Op.store 24 (Operand.tmp 4) (Operand.tmp 19), type := 0, pos := "exact.go:56", after := #[{ on := 3, ground := Ground.data }, { on := 3, ground := Ground.chain }, { on := 0, ground := Ground.phase }, { on := 1, ground := Ground.phase }, { on := 2, ground := Ground.phase }, { on := 3, ground := Ground.phase }], guard := none }) (by kernel_rfl) rfl (fun K hK => ?_)
        have cS0 := PS.out.c0
        have cS1 := PS.out.c1
        have fS0 := PS.out.fz 0
        have fS1 := PS.out.fz 1
        go_simp
        clear cS0 cS1 fS0 fS1
        obtain ⟨V9, hW⟩ : ∃ V9, (w7.setCell ⟨w.heap.size, 0, none⟩ (.bool nq)).setCell ⟨w.heap.size, 1, none⟩ (.slice adq xq.length qq) = V9 := ⟨_, rfl⟩
        replace Zs := hid ((Zs.out).box (PS.out) (.bool nq) (.slice adq xq.length qq))
        replace Zp := hid ((Zp.out).box (PS.out) (.bool nq) (.slice adq xq.length qq))
        replace Zq := hid ((Zq.out).box (PS.out) (.bool nq) (.slice adq xq.length qq))
        replace PS := hid ((PS.out).set (.bool nq) (.slice adq xq.length qq))
        replace G : Hid (Below w.heap.size w (((w7.setCell ⟨w.heap.size, 0, none⟩ (.bool nq)).setCell ⟨w.heap.size, 1, none⟩ (.slice adq xq.length qq)))) := bset (bset (G.out) (by omega)) (by omega)
        have sz9 : V9.heap.size = w7.heap.size := by rw [← hW]; simp
        rw [hW] at Zs Zp Zq PS G
        rw [hW]
        clear hW
        refine hK.out _ _ (fun h => absurd h (by decide)) ?_
        clear hK
        try simp only [Act.put]
        refine wpAnyX_done (by kernel_rfl) ?_ _
        have HN1 : Hid (TotH w fs n (n - (i + 1)) (.int .i64 ((i + 1 : Nat) : Int)) V9) := ⟨i + 1, _, _, rfl, by omega, rfl, fun j h hj => by
          by_cases q : j < i
          · exact HFIN.out j h q
          · obtain rfl : j = i := by omega
            rw [HFE.out]; exact HF.out, PS.out, by rw [HSS.out]; exact (Zq.out.more (by omega)).mono (by omega), G.out⟩
        have HMM : Hid (n - (i + 1) < gk) := by unfold Hid; rw [HG.out]; omega
        clear PS G HG Zq Zs Zp HFIN
        go_wp2_with fail
        go_roundg (n - (i + 1))
        case rel => exact HN1.out
        case measure => exact HMM.out
      · skip
        go_wp2_with fail
        refine (isFinite_b HX.out _ (decide_eq_false hf)).mono ?_
        rintro e w1 ⟨rfl, b⟩
        replace Zs := hid (Zs.out.now b)
        replace PS := hid (PS.out.step b)
        replace G := hid (below_step G.out b)
        have lz2 := (show Below _ _ _ from b).size
        clear b 
        go_wp2
        go_ret2
        exact .inr ⟨⟨f, HMEM.out, hf⟩, rfl, G.out⟩
    · skip
      have hlt' : ¬ (i : Int) < (n : Int) := by omega
      obtain rfl : i = n := by omega
      have hall : ∀ f ∈ fs, Fin7 f := fun f hf => by
        obtain ⟨j, hj, rfl⟩ := List.getElem_of_mem hf
        exact HFIN.out j hj (by rw [← HN.out]; exact hj)
      have HALL := hid hall
      clear hall HFIN HG
      rw [show fs.take i = fs by rw [← HN.out]; exact List.take_length] at Zs
      have cS0 := PS.out.c0
      have cS1 := PS.out.c1
      go_wp2_with fail
      clear cS0 cS1
      refine (nearest_zm Zs.out (HT0.out.now G.out) (by omega)).mono ?_
      rintro e w1 ⟨rfl, b⟩
      replace Zs := hid (Zs.out.now b)
      replace PS := hid (PS.out.step b)
      replace G := hid (below_step G.out b)
      have lz2 := (show Below _ _ _ from b).size
      clear b 
      go_wp2
      go_ret2
      exact .inl ⟨HALL.out, rfl, G.out⟩
end Go.Proofs.YtbamffggnnacaaaDoor
