/-
  Am10: addTimes.
-/
import Derived.Test.YtachdicdfhfoaaaQAdd10
namespace Go.Proofs.Ytachdicdfhfoaaa
open Go.RowKit Go.ChangeMaps Go.MapKept
set_option linter.unusedVariables false

/-- A map of integers, without its grid. -/
def Mq (w : World) (b r c : Nat) (F : Nat → Nat → Int) (k : Nat) : Prop := ∃ f n, Mp spv spok w b f n ∧ Nm w f F k ∧ Wi f r c
theorem Gq.mq {w : World} {g b r c k : Nat} {F : Nat → Nat → Int} (h : Gq w g b r c F k) : Mq w b r c F k := by
  obtain ⟨f, n, h1, h2, h3, h4⟩ := h
  exact ⟨f, n, h2, h3, h4⟩
theorem Mq.gq {w : World} {g b r c k : Nat} {F : Nat → Nat → Int} (h : Mq w b r c F k) (hg : Gd w g b r c) : Gq w g b r c F k := by
  obtain ⟨f, n, h2, h3, h4⟩ := h
  exact ⟨f, n, hg, h2, h3, h4⟩
theorem Mq.now {w w' : World} {b r c k : Nat} {F : Nat → Nat → Int} (h : Mq w b r c F k) (hb : Below w.heap.size w w') : Mq w' b r c F k := by
  obtain ⟨f, n, h2, h3, h4⟩ := h
  exact ⟨f, n, h2.now hb, h3.now hb, h4⟩
theorem Mq.kept {w w' : World} {b r c k x : Nat} {F : Nat → Nat → Int} (h : Mq w b r c F k) (hg : w.grownBy w' (some x)) (hc : Cl w w') (hne : b ≠ x) : Mq w' b r c F k := by
  obtain ⟨f, n, h2, h3, h4⟩ := h
  exact ⟨f, n, h2.kept hg (fun e => hne (by simpa using e)), h3.cl hc, h4⟩
theorem Mq.ext {w : World} {b r c k : Nat} {F F' : Nat → Nat → Int} (h : Mq w b r c F k) (e : ∀ i j, F i j = F' i j) : Mq w b r c F' k := by
  rw [← (funext fun i => funext fun j => e i j : F = F')]; exact h
theorem Mq.lt {w : World} {b r c k : Nat} {F : Nat → Nat → Int} (h : Mq w b r c F k) : b < w.heap.size := by
  obtain ⟨f, n, h2, h3, h4⟩ := h
  exact h2.lt
theorem Mq.put {w w' : World} {b r c k n : Nat} {F : Nat → Nat → Int} {f : Nat × Nat → Option Value} {s : Nat × Nat} {v : Value} {z : Int} (h2 : Mp spv spok w b f n) (h3 : Nm w f F k) (h4 : Wi f r c) (hz : Zm 0 w v z k)
    (hr : s.1 < r) (hc : s.2 < c) {n' : Nat} (hm : Mp spv spok w' b (upd f s (if z = 0 then Option.none else some v)) n') (hg : w.grownBy w' (some b)) : Mq w' b r c (setF F s z) k := by
  refine ⟨_, _, hm, ?_, fun x u hx => ?_⟩
  · have := (h3.cl (h2.cl hg)).upd (s := s) (hz.cl (h2.cl hg))
    rwa [Nat.max_self] at this
  · by_cases e : x = s
    · subst e
      exact ⟨hr, hc⟩
    · rw [upd_ne _ _ e] at hx
      exact h4 x u hx
theorem gb_below {w W w' : World} {b : Nat} (h : w.grownBy W (some b)) (k : Below W.heap.size W w') : w.grownBy w' (some b) :=
  ⟨k.os.trans h.os, k.tape.trans h.tape, k.output.trans h.output, Nat.le_trans h.size k.size, fun i hi hne => (k.block i (Nat.lt_of_lt_of_le hi h.size)).trans (h.block i hi hne)⟩
theorem gb_it {w W w' : World} {b it : Nat} (h : w.grownBy W (some b)) (k : W.grownBy w' (some it)) (hi : w.heap.size ≤ it) : w.grownBy w' (some b) := h.andThen k (fun j e => .inl (by cases e; exact hi))
theorem gb_b {w W w' : World} {b : Nat} (h : w.grownBy W (some b)) (k : W.grownBy w' (some b)) : w.grownBy w' (some b) := h.andThen k (fun j e => .inr e)
/-- Row i with x times row p of B added, where nothing is left to come. -/
def amF (left : Nat × Nat → Bool) (F : Nat → Nat → Int) (i p : Nat) (x : Int) (B : Nat → Nat → Int) : Nat → Nat → Int := fun i' j => if i' = i then F i j + x * lft left B p j else F i' j
theorem amF_start {w : World} {f : Nat × Nat → Option Value} {B : Nat → Nat → Int} {k : Nat} (h : Nm w f B k) (F : Nat → Nat → Int) (i p : Nat) (x : Int) : ∀ i' j, F i' j = amF (fun s => (f s).isSome) F i p x B i' j := fun i' j => by
  unfold amF
  rw [← lft_start h p j]
  by_cases e : i' = i
  · subst e; simp
  · simp [e]
theorem amF_step {left : Nat × Nat → Bool} {F B : Nat → Nat → Int} {i p j : Nat} {x : Int} (hs : left (p, j) = true) : ∀ i' j', setF (amF left F i p x B) (i, j) (x * B p j + F i j) i' j' = amF (fun y => left y && !decide (y = (p, j))) F i p x B i' j' := fun i' j' => by
  have h := lft_step (F := B) hs p j'
  unfold setF amF
  by_cases e : (i', j') = (i, j)
  · simp only [Prod.mk.injEq] at e
    obtain ⟨rfl, rfl⟩ := e
    rw [if_pos rfl, if_pos rfl, ← h]
    simp [setF]
    omega
  · rw [if_neg e]
    by_cases e1 : i' = i
    · subst e1
      have e2 : ¬ (p, j') = (p, j) := fun q => e (by rw [Prod.mk.injEq] at q ⊢; exact ⟨rfl, q.2⟩)
      rw [if_pos rfl, if_pos rfl, ← h]
      simp only [setF, e2, if_false]
    · rw [if_neg e1, if_neg e1]
def HypAm (w : World) (b br it kb n r c p i k kk kr : Nat) (vk : Value) (f : Nat × Nat → Option Value) (F B : Nat → Nat → Int) (x : Int) (m : Bool) (a : Value) (gk : Nat) (wx : World) : Prop :=
  ∃ left, Rg spv spok wx br it f n left gk ∧ Mq wx b r c (amF left F i p x B) k ∧ Nm wx f B kr ∧ Duo wx kb (.bool m) a ∧ Zi wx vk x kk ∧ w.grownBy wx (some b)
def AddedT (w : World) (b r c : Nat) (F : Nat → Nat → Int) (k : Nat) (e : Ending) (w' : World) : Prop := e = .returned (.tuple #[]) ∧ Mq w' b r c F k ∧ w.grownBy w' (some b)
set_option maxHeartbeats 3200000 in
set_option maxRecDepth 100000 in
theorem addTimes_none {w : World} {b r c i k kk : Nat} {F : Nat → Nat → Int} {vk : Value} {x : Int} (h : Mq w b r c F k) (hz : Zi w vk x kk) : Calls Try.prog 42 #[.map (some b), .int .i64 (i : Int), vk, .map none] w (AddedT w b r c F k) := by
  obtain ⟨m, xs, a, c0, rfl, -⟩ := id hz
  obtain ⟨W0, hW⟩ : ∃ W0, w.alloc (duo (.bool m) (.slice a xs.length c0)) = W0 := ⟨_, rfl⟩
  obtain ⟨b0, sz0⟩ := alo1 w (duo (.bool m) (.slice a xs.length c0))
  rw [hW] at b0 sz0
  have hr := run_range_nilMap (P := Try.prog) W0 66 71 35 Try.map10
  obtain ⟨W1, hW1⟩ : ∃ W1, W0.alloc (.mapIter Option.none 0 #[] 0) = W1 := ⟨_, rfl⟩
  have hn := fun ty => run_next_nilMap (P := Try.prog) W0 ty 0 0 #[]
  obtain ⟨b1, sz1⟩ := alo1 W0 (.mapIter Option.none 0 #[] 0)
  rw [hW1] at b1 sz1 hr hn
  rw [sz0] at hn
  have FIN : Hid (AddedT w b r c F k (.returned (.tuple #[])) W1) := ⟨rfl, h.now (below_step b0 b1), gb_below ⟨rfl, rfl, rfl, Nat.le_refl _, fun _ _ _ => rfl⟩ (below_step b0 b1)⟩
  have EW := hid hW
  clear h hz b0 b1 sz0 sz1 hW hW1
  go_enter Try.func42, Try.ntmps42
  rw [← EW.out] at hr
  go_wp2_with fail
  go_loopg [8] 0 (fun gk s wx => wx = W1)
  case atStart => rfl
  case round =>
    subst hrel
    go_wp2
    first
      | (refine bodyPost_ret (results_none rfl _ _ _) rfl ?_)
      | ((try simp only [Exit.inBlock, Exit.then]); refine bodyPost_end (results_none rfl _ _ _) rfl ?_)
    exact FIN.out
set_option maxHeartbeats 3200000 in
set_option maxRecDepth 100000 in
theorem addTimes_some {w : World} {b br r c i p n k kk kr : Nat} {F B : Nat → Nat → Int} {f : Nat × Nat → Option Value} {vk : Value} {x : Int} (h : Mq w b r c F k) (hz : Zi w vk x kk) (hm : Mp spv spok w br f n) (hf : Nm w f B kr) (hrow : ∀ s v, f s = some v → s.1 = p ∧ s.2 < c) (hne : b ≠ br)
    (hi : i < r) (hr : r ≤ 1048576) (hc : c ≤ 1048576) (hK : ∀ j, ((x * B p j + F i j).natAbs : Int) < pw k) (hkk : kk + kr < 35184372088832) (hk : k < 35184372088832) :
    Calls Try.prog 42 #[.map (some b), .int .i64 (i : Int), vk, .map (some br)] w (AddedT w b r c (fun i' j => if i' = i then F i j + x * B p j else F i' j) k) := by
  obtain ⟨m, xs, a, c0, rfl, -⟩ := id hz
  obtain ⟨W0, hW⟩ : ∃ W0, w.alloc (duo (.bool m) (.slice a xs.length c0)) = W0 := ⟨_, rfl⟩
  obtain ⟨b0, sz0⟩ := alo1 w (duo (.bool m) (.slice a xs.length c0))
  rw [hW] at b0 sz0
  have PB : Duo W0 w.heap.size (.bool m) (.slice a xs.length c0) := by rw [← hW]; exact heap_alloc_new w _
  have HM := hid (hm.now b0)
  have HF := hid (hf.now b0)
  have HQ := hid (h.now b0)
  have HZ := hid (hz.now b0)
  have P0 := hid PB
  have HROW := hid hrow
  have HNE := hid hne
  have HI := hid hi
  have HRC := hid (And.intro hr hc)
  have HKK := hid hK
  have G0 := hid b0
  have EW := hid hW
  have SZ := hid sz0
  have HLB : Hid (b < w.heap.size ∧ br < w.heap.size) := ⟨h.lt, hm.lt⟩
  clear h hz hm hf hrow hne hi hr hc hK b0 hW sz0 PB
  go_enter Try.func42, Try.ntmps42
  have HM0 : Hid (Mp spv spok (w.alloc (duo (.bool m) (.slice a xs.length c0))) br f n) := by unfold Hid; rw [EW.out]; exact HM.out
  go_wp2_with (first | (at_range; refine wpList_range10 _ rfl _ _ rfl _ _ ks10 Try.map10 br n f rfl HM0.out ?_; intro w4 hrg hbw hsz) | go_in)
  go_frame
  rw [EW.out] at hrg hbw
  rw [SZ.out] at hrg
  try simp only [World.size_alloc]
  clear EW HM0
  have H0 : Hid (HypAm w b br (w.heap.size + 1) w.heap.size n r c p i k kk kr (.agg #[.bool m, .slice a xs.length c0]) f F B x m (.slice a xs.length c0) n w4) :=
    ⟨_, hrg, (HQ.out.now hbw).ext (amF_start HF.out F i p x), HF.out.now hbw, P0.out.step hbw, HZ.out.now hbw, gb_below ⟨rfl, rfl, rfl, Nat.le_refl _, fun _ _ _ => rfl⟩ (below_step G0.out hbw)⟩
  have HIT : Hid (w.heap.size < w.heap.size + 1) := Nat.lt_succ_self _
  obtain ⟨it, hit⟩ : ∃ it, w.heap.size + 1 = it := ⟨_, rfl⟩
  rw [hit] at H0 HIT ⊢
  clear hrg hbw hsz hit HM HF HQ HZ P0 G0 SZ
  go_loopg [8] n (fun gk s4 wx => HypAm w b br it w.heap.size n r c p i k kk kr (.agg #[.bool m, .slice a xs.length c0]) f F B x m (.slice a xs.length c0) gk wx)
  case atStart => exact H0.out
  case round =>
    clear H0
    obtain ⟨left, hrg, hmq, hnf, hpb, hzk, hG⟩ := hrel
    have RG := hid hrg
    have MQ := hid hmq
    have NF := hid hnf
    have PB := hid hpb
    have ZK := hid hzk
    have G := hid hG
    clear hrg hmq hnf hpb hzk hG
    go_wp2_with (first | (at_next; refine wpList_next10 _ rfl _ rfl _ ks10 br it n f left gk rfl RG.out ?_ ?_) | go_in)
    · intro hl
      have FIN : Hid (AddedT w b r c (fun i' j => if i' = i then F i j + x * B p j else F i' j) k (.returned (.tuple #[])) wr) := ⟨rfl, MQ.out.ext (fun i' j => by unfold amF; rw [lft_end hl.out]), G.out⟩
      clear RG MQ NF PB ZK G hl
      go_wp2
      first
        | (refine bodyPost_ret (results_none rfl _ _ _) rfl ?_)
        | ((try simp only [Exit.inBlock, Exit.then]); refine bodyPost_end (results_none rfl _ _ _) rfl ?_)
      exact FIN.out
    · intro p' j v w5 cnt hca hen
      obtain ⟨hok, hfs, hls, hrg, hlt, hgr, hsz⟩ := hca.out
      clear hca
      obtain ⟨hp, hj⟩ := HROW.out (p', j) _ hfs
      replace hp : p' = p := hp
      replace hj : j < c := hj
      subst hp
      have hcl := RG.out.cl hgr
      obtain ⟨hne0, zm⟩ := (NF.out.cl hcl).at hfs
      obtain ⟨m1, xn, an, cn, rfl, -⟩ := id zm
      have RG1 := hid hrg
      have MQ1 := hid (MQ.out.kept hgr hcl (by have := HIT.out; have := HLB.out; omega))
      have NF1 := hid (NF.out.cl hcl)
      have PB1 := hid (PB.out.cl hcl)
      have ZK1 := hid (ZK.out.cl hcl)
      have G1 := hid (gb_it G.out hgr (Nat.le_of_lt HIT.out))
      have ZM := hid zm
      have HLS := hid hls
      have HOK : Hid (spok (i, j)) := ⟨by have := HI.out; have := HRC.out; show i < 1048576; omega, hok.2⟩
      have HJ := hid hj
      have HLT := hid hlt
      clear zm hne0 hls hok hfs hrg hgr hsz hcl RG MQ NF PB ZK G hlt hj
      obtain ⟨V6, hV⟩ : ∃ V6, (w5.alloc (.cells #[.int .i64 (p' : Int), .int .i64 (j : Int)] 71)).alloc (duo (.bool m1) (.slice an xn.length cn)) = V6 := ⟨_, rfl⟩
      obtain ⟨b6, sz6⟩ := alloc2 w5 (.cells #[.int .i64 (p' : Int), .int .i64 (j : Int)] 71) (duo (.bool m1) (.slice an xn.length cn))
      rw [hV] at b6 sz6
      have PS : Cel V6 w5.heap.size 71 [.int .i64 (p' : Int), .int .i64 (j : Int)] := by
        rw [← hV]
        exact (Cel.new w5 71 [.int .i64 (p' : Int), .int .i64 (j : Int)]).step ((Below.refl _ _).alloc (Nat.le_refl _) _)
      have PV : Duo V6 (w5.heap.size + 1) (.bool m1) (.slice an xn.length cn) := by
        rw [← hV]
        have := heap_alloc_new (w5.alloc (.cells #[.int .i64 (p' : Int), .int .i64 (j : Int)] 71)) (duo (.bool m1) (.slice an xn.length cn))
        simpa [Duo] using this
      have s1 := PS.at (i := 1) rfl
      have EV := hid hV
      -- the place
      obtain ⟨V7, hV7⟩ : ∃ V7, V6.alloc (.cells #[.int .i64 (i : Int), .int .i64 (j : Int)] 71) = V7 := ⟨_, rfl⟩
      obtain ⟨b7, sz7⟩ := alo1 V6 (.cells #[.int .i64 (i : Int), .int .i64 (j : Int)] 71)
      rw [hV7] at b7 sz7
      have PH : Cel V7 V6.heap.size 71 [.int .i64 (i : Int), .int .i64 (j : Int)] := by rw [← hV7]; exact Cel.new V6 71 [.int .i64 (i : Int), .int .i64 (j : Int)]
      rw [show V6.heap.size = w5.heap.size + 1 + 1 from sz6] at PH
      have b67 := below_step b6 b7
      have RG2 := hid (RG1.out.now b67)
      obtain ⟨f', n', hm3, hf3, hw3⟩ := MQ1.out.now b67
      have HM3 := hid hm3
      have HF3 := hid hf3
      have HW3 := hid hw3
      have NF2 := hid (NF1.out.now b67)
      have PB2 := hid (PB1.out.step b67)
      have ZK2 := hid (ZK1.out.now b67)
      have G2 := hid (gb_below G1.out b67)
      have ZM2 := hid (ZM.out.now b67)
      have EV7 := hid hV7
      have h0 := PH.at (i := 0) rfl
      have h1 := PH.at (i := 1) rfl
      have v0 := (PV.step b7).c0
      have v1 := (PV.step b7).c1
      have k0 := PB2.out.c0
      have k1 := PB2.out.c1
      have HLK : Hid (∀ w', Below V7.heap.size V7 w' → (Instr.lookup 66 (.map (some b)) (.agg #[.int .i64 (i : Int), .int .i64 (j : Int)]) false).run Try.prog w' = .ok ((f' (i, j)).getD (.agg #[.bool false, .slice none 0 0])) w') := fun w' h' => by
        have := (HM3.out.now h').look ks10 Try.map10 (zero10 _) HOK.out false
        simpa [spv] using this
      have HU := hid (hf3.getD i j)
      rw [show amF left F i p' x B i j = F i j from by simp [amF, lft, HLS.out]] at HU
      generalize (f' (i, j)).getD (.agg #[.bool false, .slice none 0 0]) = u at *
      simp only [spv] at hen ⊢
      clear hV hV7 b6 b7 b67 sz6 sz7 RG1 MQ1 NF1 PB1 ZK1 G1 ZM PS PV PH hm3 hf3 hw3
      go_wp2_with fail
      rw [EV.out]
      go_wp2_with fail
      rw [EV7.out]
      clear hen EV EV7 s1
      have KB : Hid (∀ w', Below V7.heap.size V7 w' → w'.cell? ⟨w5.heap.size + 1 + 1, 0, none⟩ = some (.int .i64 (i : Int)) ∧ w'.cell? ⟨w5.heap.size + 1 + 1, 1, none⟩ = some (.int .i64 (j : Int)) ∧ w'.cell? ⟨w.heap.size, 0, none⟩ = some (.bool m) ∧ w'.cell? ⟨w.heap.size, 1, none⟩ = some (.slice a xs.length c0) ∧ w'.cell? ⟨w5.heap.size + 1, 0, none⟩ = some (.bool m1) ∧ w'.cell? ⟨w5.heap.size + 1, 1, none⟩ = some (.slice an xn.length cn) ∧ (Instr.lookup 66 (.map (some b)) (.agg #[.int .i64 (i : Int), .int .i64 (j : Int)]) false).run Try.prog w' = .ok u w') := fun w' h => ⟨cnow h h0, cnow h h1, cnow h k0, cnow h k1, cnow h v0, cnow h v1, HLK.out _ h⟩
      refine wp_region_tail (fun w' => w'.cell? ⟨w5.heap.size + 1 + 1, 0, none⟩ = some (.int .i64 (i : Int)) ∧ w'.cell? ⟨w5.heap.size + 1 + 1, 1, none⟩ = some (.int .i64 (j : Int)) ∧ w'.cell? ⟨w.heap.size, 0, none⟩ = some (.bool m) ∧ w'.cell? ⟨w.heap.size, 1, none⟩ = some (.slice a xs.length c0) ∧ w'.cell? ⟨w5.heap.size + 1, 0, none⟩ = some (.bool m1) ∧ w'.cell? ⟨w5.heap.size + 1, 1, none⟩ = some (.slice an xn.length cn) ∧ (Instr.lookup 66 (.map (some b)) (.agg #[.int .i64 (i : Int), .int .i64 (j : Int)]) false).run Try.prog w' = .ok u w') 8 (by kernel_rfl) ?_
      obtain ⟨D21, hD⟩ : ∃ D21, V7.drew = D21 := ⟨_, rfl⟩
      have GB : Hid (Below V7.heap.size V7 D21) := by unfold Hid; rw [← hD]; exact (Below.refl _ _).drew
      rw [hD]
      clear hD
      refine wpAnyT_take (i := 0) (oi := { dst := some 22, op := Op.move (Operand.tmp 0), type := 66, pos := "rows.go:110", after := #[], guard := none }) (v := (.map (some b))) rfl (by kernel_rfl) (fun _ _ _ h => h) (Or.inl ⟨by rfl, ?_⟩) (KB.out _ GB.out) ?_
      · intro w hSw
        (try dsimp only at hSw)
        go_simp
      simp only [Act.put, List.setIfInBounds_toArray, List.set_cons_zero, List.set_cons_succ]
      refine wpAnyT_take (i := 1) (oi := { dst := some 23, op := Op.load 71 (Operand.tmp 10), type := 71, pos := "rows.go:110", after := #[], guard := none }) (v := (.agg #[.int .i64 (i : Int), .int .i64 (j : Int)])) rfl (by kernel_rfl) (fun _ _ _ h => h) (Or.inl ⟨by rfl, ?_⟩) (KB.out _ GB.out) ?_
      · intro w hSw
        (try dsimp only at hSw)
        go_simp
      simp only [Act.put, List.setIfInBounds_toArray, List.set_cons_zero, List.set_cons_succ]
      refine wpAnyT_take (i := 2) (oi := { dst := some 24, op := Op.load 35 (Operand.tmp 6), type := 35, pos := "rows.go:110", after := #[], guard := none }) (v := (.agg #[.bool m, .slice a xs.length c0])) rfl (by kernel_rfl) (fun _ _ _ h => h) (Or.inl ⟨by rfl, ?_⟩) (KB.out _ GB.out) ?_
      · intro w hSw
        (try dsimp only at hSw)
        go_simp
      simp only [Act.put, List.setIfInBounds_toArray, List.set_cons_zero, List.set_cons_succ]
      refine wpAnyT_take (i := 3) (oi := { dst := some 25, op := Op.load 35 (Operand.tmp 9), type := 35, pos := "rows.go:110", after := #[], guard := none }) (v := (.agg #[.bool m1, .slice an xn.length cn])) rfl (by kernel_rfl) (fun _ _ _ h => h) (Or.inl ⟨by rfl, ?_⟩) (KB.out _ GB.out) ?_
      · intro w hSw
        (try dsimp only at hSw)
        go_simp
      simp only [Act.put, List.setIfInBounds_toArray, List.set_cons_zero, List.set_cons_succ]
      refine wpAnyT_take (i := 4) (oi := { dst := some 26, op := Op.move (Operand.tmp 0), type := 66, pos := "rows.go:110", after := #[], guard := none }) (v := (.map (some b))) rfl (by kernel_rfl) (fun _ _ _ h => h) (Or.inl ⟨by rfl, ?_⟩) (KB.out _ GB.out) ?_
      · intro w hSw
        (try dsimp only at hSw)
        go_simp
      simp only [Act.put, List.setIfInBounds_toArray, List.set_cons_zero, List.set_cons_succ]
      refine wpAnyT_take (i := 5) (oi := { dst := some 27, op := Op.load 71 (Operand.tmp 10), type := 71, pos := "rows.go:110", after := #[], guard := none }) (v := (.agg #[.int .i64 (i : Int), .int .i64 (j : Int)])) rfl (by kernel_rfl) (fun _ _ _ h => h) (Or.inl ⟨by rfl, ?_⟩) (KB.out _ GB.out) ?_
      · intro w hSw
        (try dsimp only at hSw)
        go_simp
      simp only [Act.put, List.setIfInBounds_toArray, List.set_cons_zero, List.set_cons_succ]
      refine wpAnyT_take (i := 6) (oi := { dst := some 28, op := Op.lookup 66 (Operand.tmp 26) (Operand.tmp 27) false, type := 35, pos := "rows.go:110", after := #[{ on := 4, ground := Ground.data }, { on := 5, ground := Ground.data }], guard := none }) (v := u) rfl (by kernel_rfl) (fun _ _ _ h => h) (Or.inl ⟨by rfl, ?_⟩) (KB.out _ GB.out) ?_
      · intro w hSw
        (try dsimp only at hSw)
        go_simp
      simp only [Act.put, List.setIfInBounds_toArray, List.set_cons_zero, List.set_cons_succ]
      refine wpAnyT_one (i := 7) (o := { dst := some 29, op := Op.call { callee := Callee.value (Operand.func 72), args := #[Operand.tmp 24, Operand.tmp 25, Operand.tmp 28], argTypes := #[35, 35, 35] }, type := 35, pos := "rows.go:110", after := #[{ on := 2, ground := Ground.data }, { on := 3, ground := Ground.data }, { on := 6, ground := Ground.data }], guard := none }) (by kernel_rfl) rfl (fun K hK => ?_)
      go_simp
      go_at_call 72
      refine (mulAdd_z (ZK2.out.now GB.out) (ZM2.out.zi.now GB.out) (HU.out.zi.now GB.out) hkk hk).mono ?_
      rintro e w22 ⟨v, rfl, m2, b⟩
      have lz22 := (show Below _ _ _ from b).size
      replace GB := hid (below_step GB.out b)
      have M1 := hid (m2.fit (HKK.out j))
      clear m2
      clear b
      refine hK.out _ _ (fun _ => KB.out _ GB.out) ?_
      clear hK
      refine wpAnyT_one (i := 8) (o := { dst := some 30, op := Op.call { callee := Callee.value (Operand.func 33), args := #[Operand.tmp 22, Operand.tmp 23, Operand.tmp 29], argTypes := #[66, 71, 35] }, type := 0, pos := "rows.go:110", after := #[{ on := 0, ground := Ground.data }, { on := 1, ground := Ground.data }, { on := 7, ground := Ground.data }, { on := 7, ground := Ground.chain }], guard := none }) (by kernel_rfl) rfl (fun K hK => ?_)
      go_simp
      go_at_call 33
      refine (put_any (s := (i, j)) (HM3.out.now GB.out) (wide_room HRC.out.1 HRC.out.2 (HM3.out.count2 HW3.out)) HOK.out M1.out.zi).mono ?_
      rintro e wz ⟨rfl, q1, q2⟩
      have hm4 := HM3.out.now GB.out
      have RG3 := hid ((RG2.out.now GB.out).kept q2 (fun e => HNE.out (by simpa using e.symm)) (fun e => by have := HIT.out; have := HLB.out; simp at e; omega))
      have MQ3 : Hid (Mq wz b r c _ k) := Mq.put hm4 (HF3.out.now GB.out) HW3.out (M1.out.mono (Nat.zero_le _)) (s := (i, j)) HI.out HJ.out q1 q2
      have NF3 := hid ((NF2.out.now GB.out).cl (hm4.cl q2))
      have PB3 := hid ((PB2.out.step GB.out).cl (hm4.cl q2))
      have ZK3 := hid ((ZK2.out.now GB.out).cl (hm4.cl q2))
      have G3 := hid (gb_b (gb_below G2.out GB.out) q2)
      clear q1 q2 hm4
      refine hK.out _ _ (fun h => absurd h (by decide)) ?_
      clear hK
      refine wpAnyT_done (by kernel_rfl) ?_ _
      have HN1 : Hid (HypAm w b br it w.heap.size n r c p' i k kk kr (.agg #[.bool m, .slice a xs.length c0]) f F B x m (.slice a xs.length c0) cnt wz) := ⟨_, RG3.out, MQ3.out.ext (amF_step HLS.out), NF3.out, PB3.out, ZK3.out, G3.out⟩
      clear RG2 HM3 HF3 HW3 NF2 G2 PB2 ZK2 ZM2 M1 GB KB h0 h1 v0 v1 k0 k1 RG3 MQ3 NF3 PB3 ZK3 G3 HLK HU
      go_wp2_with fail
      go_roundg cnt
      case rel => exact HN1.out
      case measure => exact HLT.out
end Go.Proofs.Ytachdicdfhfoaaa
