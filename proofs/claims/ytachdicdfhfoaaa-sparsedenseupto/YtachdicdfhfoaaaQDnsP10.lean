/-
  DnsP10: dense: every other kind, by Pick.
-/
import Derived.Test.YtachdicdfhfoaaaQDnsR10ToGi10
namespace Go.Proofs.Ytachdicdfhfoaaa
open Go.RowKit
set_option linter.unusedVariables false

set_option maxHeartbeats 3200000 in
set_option maxRecDepth 100000 in
theorem dense_pick {w : World} {va : Value} {r c k : Nat} {zs : List Int} (ha : Mc w va r c zs k) {kind : Int} {nv : Bool} {av : Option Addr} {lv cv i j : Nat} (hi : i < r) (hj : j < r) (k5 : (kind == 5) = false) (k8 : (kind == 8) = false) (k6 : (kind == 6) = false) :
    Calls Try.prog 9 #[va, .agg #[.int .i64 kind, .int .i64 (i : Int), .int .i64 (j : Int), .bool nv, .slice av lv cv]] w (DnsYes w r c (pickL r c zs (swN r i j) (List.range c)) k) := by
  have M0 := hid ha
  obtain ⟨aa, ca, rfl, hr, hc⟩ := ha.mx.form
  generalize hla : r * c = la at *
  have HLA := hid hla
  clear hla ha
  obtain ⟨W0, hW⟩ : ∃ W0, ((w.alloc (matO r c (.slice aa la ca))).alloc (.cells #[.int .i64 kind, .int .i64 (i : Int), .int .i64 (j : Int), .bool nv, .slice av lv cv] 37)).alloc mbox = W0 := ⟨_, rfl⟩
  obtain ⟨b0, sz0⟩ := alloc3 w (matO r c (.slice aa la ca)) (.cells #[.int .i64 kind, .int .i64 (i : Int), .int .i64 (j : Int), .bool nv, .slice av lv cv] 37) mbox
  rw [hW] at b0 sz0
  obtain ⟨pd, pa, pr⟩ := boxesD (o1 := matc r c (.slice aa la ca)) (o2 := [.int .i64 kind, .int .i64 (i : Int), .int .i64 (j : Int), .bool nv, .slice av lv cv]) hW
  have PD := hid pd
  have PA := hid pa
  have PR := hid pr
  have x0 := pd.at (i := 0) rfl
  have x1 := pd.at (i := 1) rfl
  have x2 := pd.at (i := 2) rfl
  have y0 := pa.at (i := 0) rfl
  have y1 := pa.at (i := 1) rfl
  have y2 := pa.at (i := 2) rfl
  have y3 := pa.at (i := 3) rfl
  have y4 := pa.at (i := 4) rfl
  have r0 := pr.at (i := 0) rfl
  have r1 := pr.at (i := 1) rfl
  have r2 := pr.at (i := 2) rfl
  have f0 := pr.fz 0
  have f1 := pr.fz 1
  have f2 := pr.fz 2
  have MD := hid (M0.out.now b0)
  have G0 := hid b0
  have SZ := hid sz0
  rw [← hW] at x0 x1 x2 y0 y1 y2 y3 y4
  have h0 : ¬ (i : Int) < 0 := by omega
  have h1 : ¬ (r : Int) ≤ (i : Int) := by omega
  have h2 : ¬ (j : Int) < 0 := by omega
  have h3 : ¬ (r : Int) ≤ (j : Int) := by omega
  have EW := hid hW
  have KB0 : Hid (∀ w', Below W0.heap.size W0 w' → (w'.cell? ⟨w.heap.size, 0, none⟩ = some (.int .i64 (r : Int)) ∧ w'.cell? ⟨w.heap.size, 1, none⟩ = some (.int .i64 (c : Int)) ∧ w'.cell? ⟨w.heap.size, 2, none⟩ = some (.slice aa la ca)) ∧ w'.cell? ⟨w.heap.size + 1, 0, none⟩ = some (.int .i64 kind) ∧ w'.cell? ⟨w.heap.size + 1, 1, none⟩ = some (.int .i64 (i : Int)) ∧ w'.cell? ⟨w.heap.size + 1, 2, none⟩ = some (.int .i64 (j : Int)) ∧ w'.cell? ⟨w.heap.size + 1, 3, none⟩ = some (.bool nv) ∧ w'.cell? ⟨w.heap.size + 1, 4, none⟩ = some (.slice av lv cv)) := fun w' h => by
    have q1 := PD.out.step h
    have q2 := PA.out.step h
    exact ⟨⟨q1.at (i := 0) rfl, q1.at (i := 1) rfl, q1.at (i := 2) rfl⟩, q2.at (i := 0) rfl, q2.at (i := 1) rfl, q2.at (i := 2) rfl, q2.at (i := 3) rfl, q2.at (i := 4) rfl⟩
  have KB2 : Hid (∀ w', Below W0.heap.size W0 w' → w'.cell? ⟨w.heap.size + 1, 1, none⟩ = some (.int .i64 (i : Int)) ∧ w'.cell? ⟨w.heap.size + 1, 2, none⟩ = some (.int .i64 (j : Int))) := fun w' h => ⟨(KB0.out w' h).2.2.1, (KB0.out w' h).2.2.2.1⟩
  clear hW b0 sz0 pd pa pr PD PA r0 r1 r2 f0 f1 f2 M0 SZ
  go_enter Try.func9, Try.ntmps9
  go_wp2_with fail
  rw [EW.out]
  clear EW x0 x1 x2 y0 y1 y2 y3 y4
  have H0 := hid (gth_start W0 r)
  go_loopg [12, 14] r (fun gk s12 s14 wx => GthH W0 r gk s12 s14 wx)
  case atStart => exact H0.out
  case round =>
    clear H0
    obtain ⟨t, a, cap, hgk, rfl, rfl, ht, hit, hb⟩ := hrel
    have IT := hid hit
    have G1 := hid hb
    have HGK := hid hgk
    clear hgk hit hb
    obtain ⟨⟨x0, x1, x2⟩, y0, y1, y2, y3, y4⟩ := KB0.out _ G1.out
    by_cases hlt : t < r
    · have hlt' : (t : Int) < (r : Int) := by omega
      have hw := wrapI9 (i := t) (by omega)
      have HCC : Hid ((wr.alloc (.cells #[.int .i64 (t : Int)] 3)).cell? ⟨wr.heap.size, 0, none⟩ = some (.int .i64 (t : Int))) := (Cel.new wr 3 [.int .i64 (t : Int)]).at (i := 0) rfl
      have HI4 := hid (IT.out.now (alo1 wr (.cells #[.int .i64 (t : Int)] 3)).1)
      have HBQ : Hid (W0.heap.size ≤ (wr.alloc (.cells #[.int .i64 (t : Int)] 3)).heap.size) := Nat.le_trans G1.out.size (alo1 wr _).1.size
      have HLL : Hid ((natv (List.range t)).length ≤ 1000000000) := by unfold Hid; simp; omega
      have HBW : Hid (∀ w', Below W0.heap.size (wr.alloc (.cells #[.int .i64 (t : Int)] 3)) w' → Below W0.heap.size W0 w') := fun w' h => (G1.out.alloc G1.out.size _).trans h
      clear IT G1
      go_wp2_with (at_builtin; refine wpList_append_itr10 _ rfl (.tmp 127) (.tmp 129) rfl W0.heap.size _ (natv (List.range t)) (t : Int) rfl HI4.out wr.heap.size rfl HCC.out HLL.out HBQ.out ?_)
      intro a5 cap5 w5 hi5 hb5
      rw [natv_succ] at hi5
      have HN1 : Hid (GthH W0 r (r - (t + 1)) (.slice a5 (t + 1) cap5) (.int .i64 ((t + 1 : Nat) : Int)) w5) := ⟨t + 1, a5, cap5, rfl, rfl, rfl, by omega, hi5.out, HBW.out _ hb5.out⟩
      have HMM : Hid (r - (t + 1) < gk) := by unfold Hid; rw [HGK.out]; omega
      clear hi5 hb5 HCC HI4 HBQ HLL HBW HGK x0 x1 x2 y0 y1 y2 y3 y4
      go_wp2_with fail
      go_roundg (r - (t + 1))
      case rel => exact HN1.out
      case measure => exact HMM.out
    · have hlt' : ¬ (t : Int) < (r : Int) := by omega
      have htn : t = r := by omega
      rw [htn] at IT ⊢
      clear htn
      obtain ⟨g1, cap1, rest, hv1, hg0, hri, hc1⟩ := IT.out.row (by rw [List.length_map, List.length_range]; omega)
      rw [List.length_map, List.length_range] at hv1 hc1
      rw [hv1]
      have RI0 := hid hri
      have HG0 := hid hg0
      have HC1 := hid hc1
      have HG1 : Hid (g1 < wr.heap.size) := hri.lt
      have HI : Hid (i < (natv (List.range r)).length) := by unfold Hid; simp; exact hi
      have H1 := hid (gth_start wr c)
      clear IT hv1 hg0 hri hc1 HGK
      generalize wr = W1 at *
      go_wp2_with fail
      clear x0 x1 x2 y0 y1 y2 y3 y4
      go_loopg [13, 15] c (fun gk s13 s15 wx => GthH W1 c gk s13 s15 wx)
      case atStart => exact H1.out
      case round =>
        have GW := G1
        clear G1
        clear H1
        obtain ⟨t, a, cap, hgk, rfl, rfl, ht, hit, hb⟩ := hrel
        have IT := hid hit
        have G1 := hid hb
        have HGK := hid hgk
        clear hgk hit hb
        obtain ⟨⟨x0, x1, x2⟩, y0, y1, y2, y3, y4⟩ := KB0.out _ (below_step GW.out G1.out)
        by_cases hlt : t < c
        · have hlt' : (t : Int) < (c : Int) := by omega
          have hw := wrapI9 (i := t) (by omega)
          have HCC : Hid ((wr.alloc (.cells #[.int .i64 (t : Int)] 3)).cell? ⟨wr.heap.size, 0, none⟩ = some (.int .i64 (t : Int))) := (Cel.new wr 3 [.int .i64 (t : Int)]).at (i := 0) rfl
          have HI4 := hid (IT.out.now (alo1 wr (.cells #[.int .i64 (t : Int)] 3)).1)
          have HBQ : Hid (W1.heap.size ≤ (wr.alloc (.cells #[.int .i64 (t : Int)] 3)).heap.size) := Nat.le_trans G1.out.size (alo1 wr _).1.size
          have HLL : Hid ((natv (List.range t)).length ≤ 1000000000) := by unfold Hid; simp; omega
          have HBW : Hid (∀ w', Below W1.heap.size (wr.alloc (.cells #[.int .i64 (t : Int)] 3)) w' → Below W1.heap.size W1 w') := fun w' h => (G1.out.alloc G1.out.size _).trans h
          clear IT G1
          go_wp2_with (at_builtin; refine wpList_append_itr10 _ rfl (.tmp 137) (.tmp 139) rfl W1.heap.size _ (natv (List.range t)) (t : Int) rfl HI4.out wr.heap.size rfl HCC.out HLL.out HBQ.out ?_)
          intro a5 cap5 w5 hi5 hb5
          rw [natv_succ] at hi5
          have HN1 : Hid (GthH W1 c (c - (t + 1)) (.slice a5 (t + 1) cap5) (.int .i64 ((t + 1 : Nat) : Int)) w5) := ⟨t + 1, a5, cap5, rfl, rfl, rfl, by omega, hi5.out, HBW.out _ hb5.out⟩
          have HMM : Hid (c - (t + 1) < gk) := by unfold Hid; rw [HGK.out]; omega
          clear hi5 hb5 HCC HI4 HBQ HLL HBW HGK x0 x1 x2 y0 y1 y2 y3 y4
          go_wp2_with fail
          go_roundg (c - (t + 1))
          case rel => exact HN1.out
          case measure => exact HMM.out
        · have hlt' : ¬ (t : Int) < (c : Int) := by omega
          have htn : t = c := by omega
          rw [htn] at IT ⊢
          clear htn HGK
          have RI := hid (RI0.out.now G1.out)
          have CI := IT
          have G2 := hid (below_step GW.out G1.out)
          clear RI0 IT G1 GW
          have a2' := a
          generalize a = a2 at *
          generalize cap = cap2 at *
          go_wp2_with fail
          have KB : Hid (∀ w', Below wr.heap.size wr w' → w'.cell? ⟨w.heap.size + 1, 1, none⟩ = some (.int .i64 (i : Int)) ∧ w'.cell? ⟨w.heap.size + 1, 2, none⟩ = some (.int .i64 (j : Int))) := fun w' h => ⟨cnow h y1, cnow h y2⟩
          refine wp_region_tail (fun w' => w'.cell? ⟨w.heap.size + 1, 1, none⟩ = some (.int .i64 (i : Int)) ∧ w'.cell? ⟨w.heap.size + 1, 2, none⟩ = some (.int .i64 (j : Int))) 12 (by kernel_rfl) ?_
          obtain ⟨D1, hD⟩ : ∃ D1, wr.drew = D1 := ⟨_, rfl⟩
          have GB : Hid (Below wr.heap.size wr D1) := by unfold Hid; rw [← hD]; exact (Below.refl _ _).drew
          rw [hD]
          clear hD
          have GB0 := hid (below_step G2.out GB.out)
          have RI1 := hid (RI.out.now GB.out)
          have CI1 := hid (CI.out.now GB.out)
          refine wpAnyT_take (i := 0) (oi := { dst := some 141, op := Op.move (Operand.tmp 12), type := 75, pos := "outright.go:62", after := #[], guard := none }) (v := (.slice (some ⟨g1, 0, none⟩) r cap1)) rfl (by kernel_rfl) (fun _ _ _ h => h) (Or.inl ⟨by rfl, ?_⟩) (KB2.out _ GB0.out) ?_
          · intro w hSw
            (try dsimp only at hSw)
            go_simp
          simp only [Act.put, List.setIfInBounds_toArray, List.set_cons_zero, List.set_cons_succ]
          refine wpAnyT_take (i := 1) (oi := { dst := some 142, op := Op.fieldAddr 37 (Operand.tmp 3) 1, type := 0, pos := "outright.go:62", after := #[], guard := none }) (v := (.pointer (some ⟨w.heap.size + 1, 1, none⟩))) rfl (by kernel_rfl) (fun _ _ _ h => h) (Or.inl ⟨by rfl, ?_⟩) (KB2.out _ GB0.out) ?_
          · intro w hSw
            (try dsimp only at hSw)
            go_simp
          simp only [Act.put, List.setIfInBounds_toArray, List.set_cons_zero, List.set_cons_succ]
          refine wpAnyT_take (i := 2) (oi := { dst := some 143, op := Op.load 3 (Operand.tmp 142), type := 3, pos := "outright.go:62", after := #[{ on := 1, ground := Ground.data }], guard := none }) (v := (.int .i64 (i : Int))) rfl (by kernel_rfl) (fun _ _ _ h => h) (Or.inl ⟨by rfl, ?_⟩) (KB2.out _ GB0.out) ?_
          · intro w hSw
            (try dsimp only at hSw)
            go_simp
          simp only [Act.put, List.setIfInBounds_toArray, List.set_cons_zero, List.set_cons_succ]
          refine wpAnyT_take (i := 3) (oi := { dst := some 144, op := Op.move (Operand.tmp 12), type := 75, pos := "outright.go:62", after := #[{ on := 11, ground := Ground.gcOnly Departure.lateStores }], guard := none }) (v := (.slice (some ⟨g1, 0, none⟩) r cap1)) rfl (by kernel_rfl) (fun _ _ _ h => h) (Or.inl ⟨by rfl, ?_⟩) (KB2.out _ GB0.out) ?_
          · intro w hSw
            (try dsimp only at hSw)
            go_simp
          simp only [Act.put, List.setIfInBounds_toArray, List.set_cons_zero, List.set_cons_succ]
          refine wpAnyT_take (i := 4) (oi := { dst := some 145, op := Op.fieldAddr 37 (Operand.tmp 3) 2, type := 0, pos := "outright.go:62", after := #[{ on := 11, ground := Ground.gcOnly Departure.lateStores }], guard := none }) (v := (.pointer (some ⟨w.heap.size + 1, 2, none⟩))) rfl (by kernel_rfl) (fun _ _ _ h => h) (Or.inl ⟨by rfl, ?_⟩) (KB2.out _ GB0.out) ?_
          · intro w hSw
            (try dsimp only at hSw)
            go_simp
          simp only [Act.put, List.setIfInBounds_toArray, List.set_cons_zero, List.set_cons_succ]
          refine wpAnyT_take (i := 5) (oi := { dst := some 146, op := Op.load 3 (Operand.tmp 145), type := 3, pos := "outright.go:62", after := #[{ on := 4, ground := Ground.data }, { on := 11, ground := Ground.gcOnly Departure.lateStores }], guard := none }) (v := (.int .i64 (j : Int))) rfl (by kernel_rfl) (fun _ _ _ h => h) (Or.inl ⟨by rfl, ?_⟩) (KB2.out _ GB0.out) ?_
          · intro w hSw
            (try dsimp only at hSw)
            go_simp
          simp only [Act.put, List.setIfInBounds_toArray, List.set_cons_zero, List.set_cons_succ]
          refine wpAnyT_take (i := 6) (oi := { dst := some 147, op := Op.fieldAddr 37 (Operand.tmp 3) 2, type := 0, pos := "outright.go:62", after := #[], guard := none }) (v := (.pointer (some ⟨w.heap.size + 1, 2, none⟩))) rfl (by kernel_rfl) (fun _ _ _ h => h) (Or.inl ⟨by rfl, ?_⟩) (KB2.out _ GB0.out) ?_
          · intro w hSw
            (try dsimp only at hSw)
            go_simp
          simp only [Act.put, List.setIfInBounds_toArray, List.set_cons_zero, List.set_cons_succ]
          refine wpAnyT_take (i := 7) (oi := { dst := some 148, op := Op.load 3 (Operand.tmp 147), type := 3, pos := "outright.go:62", after := #[{ on := 6, ground := Ground.data }], guard := none }) (v := (.int .i64 (j : Int))) rfl (by kernel_rfl) (fun _ _ _ h => h) (Or.inl ⟨by rfl, ?_⟩) (KB2.out _ GB0.out) ?_
          · intro w hSw
            (try dsimp only at hSw)
            go_simp
          simp only [Act.put, List.setIfInBounds_toArray, List.set_cons_zero, List.set_cons_succ]
          refine wpAnyT_take (i := 8) (oi := { dst := some 149, op := Op.fieldAddr 37 (Operand.tmp 3) 1, type := 0, pos := "outright.go:62", after := #[{ on := 11, ground := Ground.gcOnly Departure.lateStores }], guard := none }) (v := (.pointer (some ⟨w.heap.size + 1, 1, none⟩))) rfl (by kernel_rfl) (fun _ _ _ h => h) (Or.inl ⟨by rfl, ?_⟩) (KB2.out _ GB0.out) ?_
          · intro w hSw
            (try dsimp only at hSw)
            go_simp
          simp only [Act.put, List.setIfInBounds_toArray, List.set_cons_zero, List.set_cons_succ]
          refine wpAnyT_take (i := 9) (oi := { dst := some 150, op := Op.load 3 (Operand.tmp 149), type := 3, pos := "outright.go:62", after := #[{ on := 8, ground := Ground.data }, { on := 11, ground := Ground.gcOnly Departure.lateStores }], guard := none }) (v := (.int .i64 (i : Int))) rfl (by kernel_rfl) (fun _ _ _ h => h) (Or.inl ⟨by rfl, ?_⟩) (KB2.out _ GB0.out) ?_
          · intro w hSw
            (try dsimp only at hSw)
            go_simp
          simp only [Act.put, List.setIfInBounds_toArray, List.set_cons_zero, List.set_cons_succ]
          refine wpAnyT_take (i := 10) (oi := { dst := some 151, op := Op.indexAddr 75 (Operand.tmp 141) (Operand.tmp 143), type := 0, pos := "outright.go:62", after := #[{ on := 0, ground := Ground.data }, { on := 2, ground := Ground.data }, { on := 0, ground := Ground.phase }, { on := 1, ground := Ground.phase }, { on := 2, ground := Ground.phase }, { on := 3, ground := Ground.textOnly Departure.lateStores }, { on := 4, ground := Ground.textOnly Departure.lateStores }, { on := 5, ground := Ground.textOnly Departure.lateStores }, { on := 6, ground := Ground.phase }, { on := 7, ground := Ground.phase }, { on := 8, ground := Ground.textOnly Departure.lateStores }, { on := 9, ground := Ground.textOnly Departure.lateStores }], guard := none }) (v := (.pointer (some ⟨g1, i, none⟩))) rfl (by kernel_rfl) (fun _ _ _ h => h) (Or.inl ⟨by rfl, ?_⟩) (KB2.out _ GB0.out) ?_
          · intro w hSw
            (try dsimp only at hSw)
            go_simp
          simp only [Act.put, List.setIfInBounds_toArray, List.set_cons_zero, List.set_cons_succ]
          refine wpAnyT_one (i := 11) (o := { dst := none, op := Op.store 3 (Operand.tmp 151) (Operand.tmp 148), type := 0, pos := "outright.go:62", after := #[{ on := 10, ground := Ground.data }, { on := 7, ground := Ground.data }, { on := 0, ground := Ground.phase }, { on := 1, ground := Ground.phase }, { on := 2, ground := Ground.phase }, { on := 3, ground := Ground.textOnly Departure.lateStores }, { on := 4, ground := Ground.textOnly Departure.lateStores }, { on := 5, ground := Ground.textOnly Departure.lateStores }, { on := 6, ground := Ground.phase }, { on := 7, ground := Ground.phase }, { on := 8, ground := Ground.textOnly Departure.lateStores }, { on := 9, ground := Ground.textOnly Departure.lateStores }], guard := none }) (by kernel_rfl) rfl (fun K hK => ?_)
          have e0 := RI1.out.num HI.out
          have e1 := RI1.out.frozen i
          go_simp
          clear e0 e1
          obtain ⟨V2, hW⟩ : ∃ V2, (D1.setCell ⟨g1, i, none⟩ (.int .i64 (j : Int))) = V2 := ⟨_, rfl⟩
          have RI2 : Hid (RowI10 V2 g1 (wi10 ((natv (List.range r)).set i (j : Int)) ++ rest)) := by unfold Hid; rw [← hW]; exact RI1.out.setNum HI.out _
          have CI2 : Hid (Itr10 W1.heap.size V2 (.slice a2 c cap2) (natv (List.range c))) := by unfold Hid; rw [← hW]; exact CI1.out.off HG1.out
          replace GB0 : Hid (Below W0.heap.size W0 V2) := by unfold Hid; rw [← hW]; exact GB0.out.setCell (p := ⟨g1, i, none⟩) HG0.out _
          have HJ : Hid (j < ((natv (List.range r)).set i (j : Int)).length) := by unfold Hid; simp; exact hj
          rw [hW]
          clear hW
          refine hK.out _ _ (fun _ => KB2.out _ GB0.out) ?_
          clear hK
          try simp only [Act.put]
          refine wpAnyT_one (i := 12) (o := { dst := some 152, op := Op.indexAddr 75 (Operand.tmp 144) (Operand.tmp 146), type := 0, pos := "outright.go:62", after := #[{ on := 3, ground := Ground.data }, { on := 5, ground := Ground.data }, { on := 0, ground := Ground.phase }, { on := 1, ground := Ground.phase }, { on := 2, ground := Ground.phase }, { on := 3, ground := Ground.phase }, { on := 4, ground := Ground.phase }, { on := 5, ground := Ground.phase }, { on := 6, ground := Ground.phase }, { on := 7, ground := Ground.phase }, { on := 8, ground := Ground.phase }, { on := 9, ground := Ground.phase }, { on := 10, ground := Ground.phase }, { on := 11, ground := Ground.phase }], guard := none }) (by kernel_rfl) rfl (fun K hK => ?_)
          go_simp
          refine hK.out _ _ (fun h => absurd h (by decide)) ?_
          clear hK
          try simp only [Act.put]
          refine wpAnyT_one (i := 13) (o := { dst := none, op := Op.store 3 (Operand.tmp 152) (Operand.tmp 150), type := 0, pos := "outright.go:62", after := #[{ on := 12, ground := Ground.data }, { on := 9, ground := Ground.data }, { on := 11, ground := Ground.chain }, { on := 0, ground := Ground.phase }, { on := 1, ground := Ground.phase }, { on := 2, ground := Ground.phase }, { on := 3, ground := Ground.phase }, { on := 4, ground := Ground.phase }, { on := 5, ground := Ground.phase }, { on := 6, ground := Ground.phase }, { on := 7, ground := Ground.phase }, { on := 8, ground := Ground.phase }, { on := 9, ground := Ground.phase }, { on := 10, ground := Ground.phase }, { on := 11, ground := Ground.phase }], guard := none }) (by kernel_rfl) rfl (fun K hK => ?_)
          have e0 := RI2.out.num HJ.out
          have e1 := RI2.out.frozen j
          go_simp
          clear e0 e1
          obtain ⟨V3, hW⟩ : ∃ V3, (V2.setCell ⟨g1, j, none⟩ (.int .i64 (i : Int))) = V3 := ⟨_, rfl⟩
          have RI3 : Hid (RowI10 V3 g1 (wi10 (natv (swN r i j)) ++ rest)) := by unfold Hid; rw [← hW, ← swN_natv]; exact RI2.out.setNum HJ.out _
          have CI3 : Hid (Itr10 W1.heap.size V3 (.slice a2 c cap2) (natv (List.range c))) := by unfold Hid; rw [← hW]; exact CI2.out.off HG1.out
          replace GB0 : Hid (Below W0.heap.size W0 V3) := by unfold Hid; rw [← hW]; exact GB0.out.setCell (p := ⟨g1, j, none⟩) HG0.out _
          rw [hW]
          clear hW
          refine hK.out _ _ (fun h => absurd h (by decide)) ?_
          clear hK
          try simp only [Act.put]
          refine wpAnyT_done (by kernel_rfl) ?_ _
          have in1 := RI3.out.in9 (cap := cap1) (by rw [List.length_map, swN_length]; exact HC1.out) (by rw [List.length_map, swN_length]; omega)
          rw [List.length_map, swN_length] at in1
          have HS := hid (pick_yes (MD.out.now GB0.out).mx in1 (CI3.out.in9 (by rw [List.length_map, List.length_range]; omega)) (swN_below hi hj) (fun x hx => by simpa using hx) (by rw [swN_length]; exact hr) (by rw [List.length_range]; exact hc))
          rw [swN_length, List.length_range] at HS
          obtain ⟨⟨x0, x1, x2⟩, -⟩ := KB0.out _ GB0.out
          have GV := GB0
          clear RI RI1 RI2 RI3 CI CI1 CI2 CI3 GB KB KB2 in1
          go_wp2_with fail
          refine HS.out.mono ?_
          rintro e w7 ⟨v7, rfl, hmc, b⟩
          obtain ⟨a7, c7, rfl, -, -⟩ := hmc.mx.form
          rw [HLA.out] at hmc ⊢
          obtain ⟨V8, hV⟩ : ∃ V8, w7.alloc (matO r c (.slice a7 la c7)) = V8 := ⟨_, rfl⟩
          obtain ⟨b8, sz8⟩ := alo1 w7 (matO r c (.slice a7 la c7))
          rw [hV] at b8 sz8
          have G8 := hid (below_step GV.out (below_step b b8))
          have pr := PR.out.step G8.out
          have pu : Cel V8 w7.heap.size 24 (matc r c (.slice a7 la c7)) := by rw [← hV]; exact Cel.new w7 _ _
          have FIN : Hid (DnsYes w r c (pickL r c zs (swN r i j) (List.range c)) k (.returned (.tuple #[.agg #[.int .i64 (r : Int), .int .i64 (c : Int), .slice a7 la c7], .bool true])) (put3 V8 (w.heap.size + 1 + 1) (.int .i64 (r : Int)) (.int .i64 (c : Int)) (.slice a7 la c7))) :=
            ⟨_, rfl, (hmc.now b8).wk pr _ _ _, below_put3 (below_step G0.out G8.out) (by omega) _ _ _⟩
          have PF := hid (pr.put3 (.int .i64 (r : Int)) (.int .i64 (c : Int)) (.slice a7 la c7))
          have z0 := pu.at (i := 0) rfl
          have z1 := pu.at (i := 1) rfl
          have z2 := pu.at (i := 2) rfl
          have r0 := pr.at (i := 0) rfl
          have r1 := pr.at (i := 1) rfl
          have r2 := pr.at (i := 2) rfl
          have f0 := pr.fz 0
          have f1 := pr.fz 1
          have f2 := pr.fz 2
          rw [← hV] at z0 z1 z2 r0 r1 r2 f0 f1 f2
          have EV := hid hV
          clear HS hmc b b8 sz8 hV G8 pr pu PR G0 MD GV GB0 x0 x1 x2
          go_wp2
          rw [EV.out]
          exact bodyPost_ret (mback1 Try.results9 PF.out _ (by rfl) (by rfl)) rfl FIN.out
end Go.Proofs.Ytachdicdfhfoaaa
