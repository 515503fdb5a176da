/-
  QBw14ToCg14: Bw14, Rl14, Cg14, joined.
-/
import Derived.Test.YtplldfnldaehiaaQBi14
import Derived.Test.YtplldfnldaehiaaQRn14ToIt14
import Derived.Test.YtplldfnldaehiaaQSr13
import Derived.Test.YtplldfnldaehiaaQEachM11ToLn11
import Derived.Test.YtplldfnldaehiaaQTy9ToChkN9

/- Bw14 -/
namespace Go.Proofs.Ytplldfnldaehiaa
open Go.RowKit
set_option linter.unusedVariables false


theorem OwI.len {w : World} {v : Value} {zs : List Int} (h : OwI w v zs) {m : Nat} (hm : zs.length = m) : ∃ a cap, v = .slice a m cap := by
  subst hm
  rcases h.form with ⟨rfl, rfl⟩ | ⟨g, cap, rfl, _⟩
  · exact ⟨none, 0, rfl⟩
  · exact ⟨_, cap, rfl⟩

set_option maxRecDepth 100000 in
set_option maxHeartbeats 3200000 in
theorem nums_yes {w : World} {bb gb n : Nat} {U : Nat → Value} {L : Nat → Nat} (hB : BkI w bb gb n U L) :
    Calls Try.prog 22 #[.pointer (some ⟨bb, 0, none⟩)] w fun e w' => e = .returned (.bool true) ∧ Touch (BlkI n U) w w' := by
  have hn := hB.n_le
  obtain ⟨cb, hcb⟩ := hB.head
  have HH := hid hcb
  have HB := hid hB
  clear hcb
  clear hB
  go_enter Try.func22, Try.ntmps22
  go_wp2_with fail
  go_loopw [3] (fun i wr => ∃ k : Nat, k ≤ n ∧ i = .int .i64 k ∧ Hid (MarkingI w wr n U L k 0)) (fun i _ => n - (intOf i).toNat)
  case atStart => exact ⟨0, Nat.zero_le _, rfl, HB.out.marking⟩
  case round =>
    obtain ⟨k, hk, rfl, HM⟩ := hrel
    have hc0 : wr.cell? ⟨bb, 2, none⟩ = some (.slice (some ⟨gb, 0, none⟩) n cb) := (HM.out.1.cell HB.out.bb_lt HB.out.bb_free 2).trans HH.out
    by_cases hlt : k < n
    · have hc1 : wr.cell? ⟨gb, k, none⟩ = some (U k) := (HM.out.1.cell HB.out.gb_lt HB.out.gb_free k).trans (HB.out.item k hlt)
      obtain ⟨a, cap, hU⟩ : ∃ a cap, U k = .slice a (L k) cap := by obtain ⟨zs, h1, h2⟩ := HB.out.own k hlt; exact h2.len h1
      rw [hU] at hc1
      have HU := hid hU
      have hLk := HB.out.len k hlt
      clear hU
      generalize hLm : L k = m at *
      have HLM := hid hLm
      clear hLm
      go_wp2_with fail
      go_loopw [5] (fun j wr => ∃ t : Nat, t ≤ m ∧ j = .int .i64 t ∧ Hid (MarkingI w wr n U L k t)) (fun j _ => m - (intOf j).toNat)
      case atStart => exact ⟨0, Nat.zero_le _, rfl, HM⟩
      case round =>
        clear hc0 hc1 HM
        obtain ⟨t, ht, rfl, HT⟩ := hrel
        rename World => wq
        by_cases htm : t < m
        · obtain ⟨zs, z1, z2, _, _⟩ := HT.out.2 k hlt
          have hzt : t < zs.length := by rw [z1, HLM.out]; exact htm
          rcases z2.form with ⟨_, e⟩ | ⟨g, cap', hu, hgl, hcell, hfr⟩
          · subst e; simp at hzt
          obtain rfl : a = some ⟨g, 0, none⟩ := by have := HU.out.symm.trans hu; simp only [Value.slice.injEq] at this; exact this.1
          have c1 := hcell t hzt
          have cf := hfr t
          have HS := hid (HT.out.step HB.out hlt (g := g) (by rw [hu]; rfl))
          clear hcell hfr hu z2
          generalize zs[t] = z at *
          go_wp2_with fail
          refine (sign_any k t (by omega) (by omega) _).mono ?_
          rintro e w1 ⟨rfl, rfl⟩
          have hsw := signI (i := k) (j := t) (by omega) (by omega)
          generalize signW k t = s at *
          go_wp2
          go_roundw
          case rel => exact ⟨t + 1, by omega, by go_num, HS⟩
          case measure => simp [intOf]; omega
        · have HN := hid (HT.out.next (by rw [HLM.out]; omega))
          go_wp2
          go_roundw
          case rel => exact ⟨k + 1, by omega, by go_num, HN⟩
          case measure => simp [intOf]; omega
    · go_wp2_with (at_make; refine wpList_make_listsI _ rfl _ _ rfl _ _ n n rfl rfl rfl rfl (Nat.le_refl _) (by omega) ?_)
      intro w2 hr2 hb2 hs2
      have HG := hid (HM.out.grown (by omega) hr2 hb2)
      clear hr2 hb2 hs2 hc0 HM
      generalize wr.heap.size = gg at *
      clear hlt hk
      go_wp2_with fail
      go_loopw [7] (fun i wr => ∃ (k : Nat) (Vs : List Value), k ≤ n ∧ i = .int .i64 k ∧ Hid (GrownI w wr n U L gg k Vs)) (fun i _ => n - (intOf i).toNat)
      case atStart => exact ⟨0, _, Nat.zero_le _, rfl, HG⟩
      case round =>
        clear HG
        obtain ⟨k, Vs, hk, rfl, HG⟩ := hrel
        rename World => wq
        have hc0 : wq.cell? ⟨bb, 2, none⟩ = some (.slice (some ⟨gb, 0, none⟩) n cb) := (HG.out.1.cell HB.out.bb_lt HB.out.bb_free 2).trans HH.out
        by_cases hlt : k < n
        · have hc1 : wq.cell? ⟨gb, k, none⟩ = some (U k) := (HG.out.1.cell HB.out.gb_lt HB.out.gb_free k).trans (HB.out.item k hlt)
          obtain ⟨a, cap, hU⟩ : ∃ a cap, U k = .slice a (L k) cap := by obtain ⟨zs, h1, h2⟩ := HB.out.own k hlt; exact h2.len h1
          have HS := hid (HG.out.start hlt)
          rw [hU] at hc1 HS
          have hLk := HB.out.len k hlt
          clear hU
          generalize hLm : L k = m at *
          have HLM := hid hLm
          clear hLm
          go_wp2_with fail
          go_loopw [8, 9] (fun c j wr => ∃ t : Nat, t ≤ 80 ∧ j = .int .i64 t ∧ Hid (GrowingI w wr n U L gg k t Vs c)) (fun _ j _ => 80 - (intOf j).toNat)
          case atStart => exact ⟨0, Nat.zero_le _, rfl, HS⟩
          case round =>
            clear hc0 hc1 HS HG
            obtain ⟨t, ht, rfl, HT⟩ := hrel
            rename World => wp
            obtain ⟨mt, hmt⟩ : ∃ mt, mt = m + t := ⟨_, rfl⟩
            obtain ⟨ac, capc, hcv⟩ := HT.out.2.1.len (m := mt) (by rw [signs_len, HLM.out, hmt])
            subst hcv
            have HMT := hid hmt
            have hmt' : mt ≤ 2000000000 := by omega
            clear hmt
            by_cases htm : t < 80
            · go_wp2_with fail
              refine (sign_any k mt (by omega) (by omega) _).mono ?_
              rintro e w1 ⟨rfl, rfl⟩
              have hsw := signI (i := k) (j := mt) (by omega) (by omega)
              have hbel : Below w1.heap.size w1 (w1.alloc (.cells #[.int .i64 (signW k mt)] 3)) := (Below.refl _ _).alloc (Nat.le_refl _) _
              have HBE := hid hbel
              have HO : Hid (OwI (w1.alloc (.cells #[.int .i64 (signW k mt)] 3)) (.slice ac mt capc) (signs k (L k + t))) := HT.out.2.1.keep fun g hg => hbel.block g (HT.out.2.1.lt hg)
              have HSL : Hid ((signs k (L k + t)).length + 1 ≤ 17592186044000) := by unfold Hid; rw [signs_len, HLM.out]; omega
              have HSN : Hid (signW k mt = signW k (L k + t)) := by unfold Hid; rw [HMT.out, HLM.out]
              clear hbel
              go_wp2_with (at_builtin; refine wpList_append_markI _ rfl (.tmp 69) (.tmp 75) rfl _ (signs k (L k + t)) (signW k mt) rfl HO.out HSL.out ⟨w1.heap.size, 0, none⟩ rfl (by simp) ?_)
              intro v' w3 ho hat hgr hpre hform
              have HN : Hid (GrowingI w w3 n U L gg k (t + 1) Vs v') := HT.out.step HB.out hlt HBE.out (by rw [← HSN.out]; exact ho.out) (by simpa using hat.out) hgr.out hpre.out
              clear ho hat hgr hpre hform HO HSL HSN HBE HT
              go_wp2
              go_roundw
              case rel => exact ⟨t + 1, by omega, by go_num, HN⟩
              case measure => simp [intOf]; omega
            · obtain rfl : t = 80 := by omega
              have HN := hid (HT.out.store HB.out hlt)
              have hkV : k < Vs.length := by rw [HT.out.1.2.2.2.1]; exact hlt
              have c1 := HT.out.1.2.2.1.cell hkV
              have cf := HT.out.1.2.2.1.frozen k
              generalize Vs[k] = z at *
              clear HT
              go_wp2
              go_roundw
              case rel => exact ⟨k + 1, _, by omega, by go_num, HN⟩
              case measure => simp [intOf]; omega
        · go_wp2_with fail
          clear hc0
          go_loopw [10] (fun i wr => ∃ k : Nat, k ≤ n ∧ i = .int .i64 k ∧ Hid (∃ q, wr = wq.drewN q)) (fun i _ => n - (intOf i).toNat)
          case atStart => exact ⟨0, Nat.zero_le _, rfl, 0, rfl⟩
          case round =>
            obtain ⟨i, hi, rfl, HQ⟩ := hrel
            rename World => wp
            have hcw : ∀ a, wp.cell? a = wq.cell? a := by obtain ⟨q, e⟩ := HQ.out; intro a; rw [e]; rfl
            have hc0 : wp.cell? ⟨bb, 2, none⟩ = some (.slice (some ⟨gb, 0, none⟩) n cb) := (hcw _).trans ((HG.out.1.cell HB.out.bb_lt HB.out.bb_free 2).trans HH.out)
            by_cases hin : i < n
            · have hc1 : wp.cell? ⟨gb, i, none⟩ = some (U i) := (hcw _).trans ((HG.out.1.cell HB.out.gb_lt HB.out.gb_free i).trans (HB.out.item i hin))
              have hiV : i < Vs.length := by rw [HG.out.2.2.2.1]; exact hin
              have hc2 : wp.cell? ⟨gg, i, none⟩ = some Vs[i] := (hcw _).trans (HG.out.2.2.1.cell hiV)
              have F1 := hid (HG.out.2.2.2.2.1 i hin)
              have F2 := hid (HG.out.2.2.2.2.2 i hiV (by omega)).1
              obtain ⟨m, hm⟩ : ∃ m, L i = m := ⟨_, rfl⟩
              have hmb : m ≤ 1000000 := by rw [← hm]; exact HB.out.len i hin
              rw [hm] at F1 F2
              obtain ⟨a1, c1, e1⟩ := F1.out.len (signs_len i m)
              obtain ⟨a2, c2, e2⟩ := F2.out.len (signs_len i (m + 80))
              rw [e1] at F1 hc1
              rw [e2] at F2 hc2
              have CW := hid hcw
              obtain ⟨m2, hm2⟩ : ∃ m2, m + 80 = m2 := ⟨_, rfl⟩
              rw [hm2] at F2 hc2
              have HM2 := hid hm2
              have hm2b : m2 ≤ 1000080 := by omega
              have hmm : m ≤ m2 := by omega
              clear hcw e1 e2 hm hm2
              go_wp2_with fail
              go_loopw [13] (fun j wz => ∃ (t q : Nat), t ≤ m2 ∧ j = .int .i64 t ∧ wz = wp.drewN q) (fun j _ => m2 - (intOf j).toNat)
              case atStart => exact ⟨0, 0, Nat.zero_le _, rfl, rfl⟩
              case round =>
                clear hc0 hc1 hc2
                obtain ⟨t, q, htm, rfl, rfl⟩ := hrel
                by_cases hlt2 : t < m2
                · have hlt2' : (t : Int) < ((m2 : Nat) : Int) := by omega
                  obtain ⟨g2, hg2, d2⟩ : ∃ g, a2 = some ⟨g, 0, none⟩ ∧ ∀ q, (wp.drewN q).cell? ⟨g, t, none⟩ = some (.int .i64 (signW i t)) := by
                    rcases F2.out.form with ⟨q1, _⟩ | ⟨g, cap, q1, _, q3, _⟩
                    · simp only [Value.slice.injEq] at q1
                      omega
                    · simp only [Value.slice.injEq] at q1
                      refine ⟨g, q1.1, fun q => ?_⟩
                      have h1 := q3 t (by rw [signs_len]; exact hlt2)
                      rw [signs_get, ← CW.out] at h1
                      exact h1
                  subst hg2
                  have hsw := signI (i := i) (j := t) (by omega) (by omega)
                  have HS : ∀ W, Calls Try.prog 27 #[.int .i64 (i : Int), .int .i64 (t : Int)] W (fun e w' => e = .returned (.int .u64 (signW i t)) ∧ w' = W) := fun W => sign_any i t (by omega) (by omega) W
                  by_cases hlt1 : t < m
                  · have hlt1' : (t : Int) < (m : Int) := by omega
                    obtain ⟨g1, hg1, d1⟩ : ∃ g, a1 = some ⟨g, 0, none⟩ ∧ ∀ q, (wp.drewN q).cell? ⟨g, t, none⟩ = some (.int .i64 (signW i t)) := by
                      rcases F1.out.form with ⟨q1, q2⟩ | ⟨g, cap, q1, _, q3, _⟩
                      · have := congrArg List.length q2
                        rw [signs_len] at this
                        simp at this
                        omega
                      · simp only [Value.slice.injEq] at q1
                        refine ⟨g, q1.1, fun q => ?_⟩
                        have h1 := q3 t (by rw [signs_len]; exact hlt1)
                        rw [signs_get, ← CW.out] at h1
                        exact h1
                    subst hg1
                    have hne : (signW i t != signW i t) = false := by simp
                    generalize signW i t = s at *
                    go_wp2_with fail
                    go_quiet ((go_at_call 27; exact (HS _).mono fun _ _ h => ⟨h.1, _, h.2⟩))
                    go_wp2
                    go_roundw
                    case rel => exact ⟨t + 1, _, by omega, by go_num, rfl⟩
                    case measure => simp [intOf]; omega
                  · have hlt1' : ¬ (t : Int) < (m : Int) := by omega
                    have hne : (signW i t != signW i t) = false := by simp
                    generalize signW i t = s at *
                    go_wp2_with fail
                    go_quiet ((go_at_call 27; exact (HS _).mono fun _ _ h => ⟨h.1, _, h.2⟩))
                    go_wp2
                    go_roundw
                    case rel => exact ⟨t + 1, _, by omega, by go_num, rfl⟩
                    case measure => simp [intOf]; omega
                · have hlt2' : ¬ (t : Int) < ((m2 : Nat) : Int) := by omega
                  go_wp2
                  go_roundw
                  case rel => exact ⟨i + 1, by omega, by go_num, (by unfold Hid; obtain ⟨q0, hq⟩ := HQ.out; exact ⟨q0 + q, by rw [hq, World.drewN_drewN]⟩)⟩
                  case measure => simp [intOf]; omega
            · clear hcw
              go_wp2
              go_ret
              refine ⟨rfl, ?_⟩
              obtain ⟨q, e⟩ := HQ.out
              subst e
              exact HG.out.1.drewN q
end Go.Proofs.Ytplldfnldaehiaa

/- Rl14 -/
namespace Go.Proofs.Ytplldfnldaehiaa
open Go.RowKit Go.Shelf
set_option linter.unusedVariables false

/-- As rangeH, where a round may leave the loop by a break or a return: then Jx c holds, c the jump that is left. -/
theorem rangeL {σ α : Type} {P : Program} {n : Nat} {g : Operand} {ps : Array Tmp} {assign body : Code} {Q : Exit → Act → World → Prop} {a : Act} {w : World}
    (h1 : 1 ≤ n) {gf : Nat} {lb : Array Value} (hg : a.eval g = .func (.func gf) #[] lb) (eg : ∀ args w, (callFunc gf args).run P w = .ok (.enter gf args) w)
    (enc : α → Array Value) (hps : ∀ x, (enc x).size = ps.size)
    (J : σ → World → Prop) (hJ : OwnFrom w.heap.size J) (At : σ → α → World → Prop) (hAt : ∀ s x, OwnFrom w.heap.size (fun (_ : Unit) W => At s x W)) (nx : σ → α → σ)
    (Kp : σ → World → World → Prop) (hKt : ∀ {s : σ} {A B C : World}, Kp s A B → Kp s B C → Kp s A C) (hKb : ∀ (s : σ) (W : World) (l : Nat) (o o' : Obj), w.heap.size ≤ l → W.heap[l]? = some o → o.isCells = false → Kp s W (W.putObj l o'))
    (Mn : σ → Nat → World → Prop) (hJs : ∀ s A B gs, J s A → w.heap.size ≤ gs → Mn s gs A → Touch (· = gs) A B → J s B) (Ini Fin : σ → Prop) (h0 : ∀ s, Ini s → J s w)
    (Jx : Code → World → Prop) (hJx : ∀ c, OwnFrom w.heap.size (fun (_ : Unit) W => Jx c W))
    (hit : ∀ (l : Nat) (J' : σ → World → Prop) (Jy : World → Prop) (W : World), Below w.heap.size w W → (∀ s X, J' s X → J s X) → (∀ s A B, J' s A → Below A.heap.size A B → J' s B) → (∀ s A B gs, J' s A → W.heap.size ≤ gs → Mn s gs A → Touch (· = gs) A B → J' s B) → (∀ s, Ini s → J' s W) →
      (∀ s x X, J' s X → At s x X → YieldAt Fence.wide (n - 1 - 1) P l (enc x) X fun e Y => (e = .returned (.bool true) ∧ J' (nx s x) Y ∧ Kp s X Y) ∨ (e = .returned (.bool false) ∧ Jy Y)) →
      CallsIn Fence.wide (n - 1) P gf (#[.func (.yield l) #[] #[]] ++ lb) W fun e Y => (∃ v, e = .returned v) ∧ ((∃ s, Fin s ∧ J' s Y) ∨ Jy Y))
    (Ax : α → Act → World → Prop) (hAx : ∀ x a', OwnFrom w.heap.size (fun (_ : Unit) W => Ax x a' W))
    (hassign : ∀ (l : Nat) (s : σ) (x : α) (W : World) (K : Act → World → Prop), J s W → At s x W → (∀ a' W', KeepsFrom w.heap.size W W' → Kp s W W' → J s W' → At s x W' → Ax x a' W' → K a' W') →
      assign.wpIn (Fence.wide.inRound l) (n - 1 - 1) P (Exit.then K (fun _ _ _ => False)) { tmps := (ps.zip (enc x)).foldl (fun t (p, v) => t.setIfInBounds p v) a.tmps, defers := [] } W)
    (hbody : ∀ (l : Nat) (s : σ) (x : α) (a' : Act) (W : World), w.heap.size ≤ l → (∃ r, W.heap[l]? = some (.loop r)) → J s W → At s x W → Ax x a' W → body.wpIn (Fence.wide.inRound l) (n - 1 - 1) P (fun e _ Y => (e = .normal ∧ KeepsFrom w.heap.size W Y ∧ J (nx s x) Y ∧ Kp s W Y) ∨ (∃ c, (e = .ret ∧ c = .ret ∨ ∃ id, e = .exit id ∧ c = .exit id) ∧ KeepsFrom w.heap.size W Y ∧ Jx c Y)) a' W)
    (hdone : ∀ (D : Nat) (s : σ) (W : World), w.heap.size ≤ D → Fin s → J s W → W.heap[D]? = some (.deferred (some [])) → Q .normal { a with defers := { target := .collected D, args := #[] } :: a.defers } W)
    (hstop : ∀ (D : Nat) (c : Code) (W : World), w.heap.size ≤ D → Jx c W → W.heap[D]? = some (.deferred (some [])) → c.wpIn Fence.wide n P Q { a with defers := { target := .collected D, args := #[] } :: a.defers } W) :
    (Code.rangeFunc g ps assign body).wpIn Fence.wide n P Q a w := by
  refine wpIn_rangeFunc fun fn hfn => ?_
  obtain ⟨R, hR⟩ : ∃ R : LoopState → Option Code → Loop, R = fun st pe => { state := st, pending := pe, fn, tmps := a.tmps, params := ps, assign, body, defers := w.heap.size } := ⟨_, rfl⟩
  obtain ⟨W1, hW1⟩ : ∃ W1, (w.alloc (.deferred (some []))).alloc (.loop (R .ready none)) = W1 := ⟨_, rfl⟩
  have bw : Below w.heap.size w W1 := by rw [← hW1]; exact (((Below.refl _ w).alloc (Nat.le_refl _) _).alloc (by simp) _)
  have hL : W1.heap[w.heap.size + 1]? = some (.loop (R .ready none)) := by
    rw [← hW1]
    have := World.alloc_heap_new (w.alloc (.deferred (some []))) (.loop (R .ready none))
    rwa [World.size_alloc] at this
  have sW1 : W1.heap.size = w.heap.size + 2 := by rw [← hW1]; simp
  have hD : W1.heap[w.heap.size]? = some (.deferred (some [])) := by
    rw [← hW1]
    exact (Below.heap_alloc _ _ _ (by simp)).trans (World.alloc_heap_new w _)
  refine ⟨w.heap.size + 1, [{ target := .collected w.heap.size, args := #[] }], W1, { target := .fn (.func gf) lb, args := #[.func (.yield (w.heap.size + 1)) #[] #[]] }, W1, gf, #[.func (.yield (w.heap.size + 1)) #[] #[]] ++ lb, W1, ?_, ?_, fun _ _ => trivial, ?_, fun _ => h1, ?_⟩
  · rw [← hW1, hR]; exact run_enterLoop_outer _ _ _ _ _
  · simp only [resolve, hg]
    simp [go_sem]
  · simp [invoke, go_sem, eg]
  · refine (hit (w.heap.size + 1) (fun s W => J s W ∧ W.heap[w.heap.size + 1]? = some (.loop (R .ready none)) ∧ W.heap[w.heap.size]? = some (.deferred (some []))) (fun W => ∃ c, Jx c W ∧ W.heap[w.heap.size + 1]? = some (.loop (R .done (some c))) ∧ W.heap[w.heap.size]? = some (.deferred (some []))) W1 bw (fun s X h => h.1)
      (fun s A B h b => ⟨hJ s A B none h.1 (grown_of b) (fun r e => by cases e), (b.block _ (Array.getElem?_eq_some_iff.1 h.2.1).1).trans h.2.1, (b.block _ (Array.getElem?_eq_some_iff.1 h.2.2).1).trans h.2.2⟩)
      (fun s A B gs h h1 h2 t => ⟨hJs s A B gs h.1 (by omega) h2 t, (t.block _ (Array.getElem?_eq_some_iff.1 h.2.1).1 (by omega)).trans h.2.1, (t.block _ (Array.getElem?_eq_some_iff.1 h.2.2).1 (by omega)).trans h.2.2⟩)
      (fun s hs => ⟨hJ s w W1 none (h0 s hs) (grown_of bw) (fun r e => by cases e), hL, hD⟩) ?_).mono ?_
    · rintro s x X ⟨hj, hl, hk⟩ hat
      have hy := run_yield (P := P) (args := enc x) hl (by rw [hR]; exact hps x)
      rw [hR] at hy
      refine ⟨fn, _, assign, body, hy, roundIn_of_wpIn hfn (hassign _ s x X _ hj hat fun a' X' qk qp qj qa qx => ?_)⟩
      clear hy
      have hl' := qk.same _ _ (by omega) hl rfl
      have hk' := qk.same _ _ (Nat.le_refl _) hk rfl
      have hlt : w.heap.size + 1 < X'.heap.size := (Array.getElem?_eq_some_iff.1 hl').1
      refine ⟨_, run_beginRound hl' (by rw [hR]), ?_⟩
      obtain ⟨X2, hX2⟩ : ∃ X2, X'.putObj (w.heap.size + 1) (.loop { R .ready none with state := .busy }) = X2 := ⟨_, rfl⟩
      have hl2 : X2.heap[w.heap.size + 1]? = some (.loop { R .ready none with state := .busy }) := by rw [← hX2]; exact World.putObj_heap_same hlt
      have hk2 : X2.heap[w.heap.size]? = some (.deferred (some [])) := by rw [← hX2]; exact (World.putObj_heap_other (by omega)).trans hk'
      have hj2 : J s X2 := by rw [← hX2]; exact hJ.putObj _ qj (by omega) hl' rfl
      have ha2 : At s x X2 := by rw [← hX2]; exact (hAt s x).putObj (s := ()) _ qa (by omega) hl' rfl
      have hx2 : Ax x a' X2 := by rw [← hX2]; exact (hAx x a').putObj (s := ()) _ qx (by omega) hl' rfl
      have hp2 : Kp s X X2 := by rw [← hX2]; exact hKt qp (hKb s _ _ _ _ (by omega) hl' rfl)
      rw [hX2]
      refine wpIn_mono (hbody _ s x a' X2 (by omega) ⟨_, hl2⟩ hj2 ha2 hx2) ?_
      rintro e a3 X3 (⟨rfl, q1, q2, q3⟩ | ⟨c, hc, q1, q2⟩)
      · have hl3 := q1.same _ _ (by omega) hl2 rfl
        have hr := run_endRound (P := P) none hl3
        refine ⟨_, _, hr, .inl ⟨rfl, ⟨hJ.putObj _ q2 (by omega) hl3 rfl, ?_, ?_⟩, hKt (hKt hp2 q3) (hKb s _ _ _ _ (by omega) hl3 rfl)⟩⟩
        · have := World.putObj_heap_same (w := X3) (r := w.heap.size + 1) (o := .loop { { R .ready none with state := .busy } with state := .ready, pending := none }) (Array.getElem?_eq_some_iff.1 hl3).1
          rw [hR] at this ⊢
          exact this
        · exact (World.putObj_heap_other (by omega)).trans (q1.same _ _ (Nat.le_refl _) hk2 rfl)
      · have hl3 := q1.same _ _ (by omega) hl2 rfl
        have hr := run_endRound (P := P) (some c) hl3
        have h1 := World.putObj_heap_same (w := X3) (r := w.heap.size + 1) (o := .loop { { R .ready none with state := .busy } with state := .done, pending := some c }) (Array.getElem?_eq_some_iff.1 hl3).1
        have h2 := (World.putObj_heap_other (w := X3) (r := w.heap.size + 1) (k := w.heap.size) (o := .loop { { R .ready none with state := .busy } with state := .done, pending := some c }) (by omega)).trans (q1.same _ _ (Nat.le_refl _) hk2 rfl)
        have hq := (hJx c).putObj (s := ()) (.loop { { R .ready none with state := .busy } with state := .done, pending := some c }) q2 (show w.heap.size ≤ w.heap.size + 1 by omega) hl3 rfl
        have hfin : ∃ v w', (Instr.endRound (w.heap.size + 1) (some c)).run P X3 = .ok v w' ∧ ((Ending.returned v = .returned (.bool true) ∧ (J (nx s x) w' ∧ w'.heap[w.heap.size + 1]? = some (.loop (R .ready none)) ∧ w'.heap[w.heap.size]? = some (.deferred (some []))) ∧ Kp s X w') ∨ (Ending.returned v = .returned (.bool false) ∧ ∃ c, Jx c w' ∧ w'.heap[w.heap.size + 1]? = some (.loop (R .done (some c))) ∧ w'.heap[w.heap.size]? = some (.deferred (some [])))) := by
          refine ⟨_, _, hr, .inr ⟨rfl, c, hq, ?_, h2⟩⟩
          rw [hR] at h1 ⊢
          exact h1
        rcases hc with ⟨rfl, rfl⟩ | ⟨id, rfl, rfl⟩
        · exact hfin
        · exact hfin
    · rintro e Y ⟨⟨v, rfl⟩, ⟨s, hf, hj, hl, hk⟩ | ⟨c, hj, hl, hk⟩⟩
      · have hr := run_endLoop (P := P) hl (by rw [hR]; simp)
        refine ⟨_, _, hr, ?_⟩
        rw [hR]
        exact hdone _ s _ (Nat.le_refl _) hf (hJ.putObj _ hj (by omega) hl rfl) ((World.putObj_heap_other (by omega)).trans hk)
      · have hr := run_endLoop (P := P) hl (by rw [hR]; simp)
        refine ⟨_, _, hr, ?_⟩
        rw [hR]
        exact hstop _ c _ (Nat.le_refl _) ((hJx c).putObj (s := ()) _ hj (by omega) hl rfl) ((World.putObj_heap_other (by omega)).trans hk)
end Go.Proofs.Ytplldfnldaehiaa

/- Cg14 -/
namespace Go.Proofs.Ytplldfnldaehiaa
open Go.RowKit Go.Shelf
set_option linter.unusedVariables false

theorem Touch.tyg {T : TypeId} {g : Nat} {A B : World} {L : Array Value} {fr : Nat × Nat} (h : Touch (· = g) A B) (hg : A.heap[g]? = some (.cells L T fr)) : Ty T A B := ⟨h.size, fun b L' T' fr' e hne => by
  refine (h.block b (Array.getElem?_eq_some_iff.1 e).1 (fun q => ?_)).trans e
  subst q
  rw [hg, Option.some.injEq, Obj.cells.injEq] at e
  exact hne e.2.1.symm⟩
theorem Ivs.kc14 {B : Nat} {w w' : World} {v : Value} {l : List Nat} (h : Ivs B w v l) (hk : Kc w w') : Ivs B w' v l := h.keep fun b L _ e => hk.2 b _ e rfl
theorem Ty.kc14 {T : TypeId} {a w w' : World} (h : Ty T a w) (hk : Kc w w') : Ty T a w' := ⟨Nat.le_trans h.1 hk.1, fun b L T' fr e hne => hk.2 b _ (h.2 b L T' fr e hne) rfl⟩
theorem KpL.kc14 {S : Nat → Prop} {B : Nat} {X Y Z : World} (h : KpL S B X Y) (hk : Kc Y Z) : KpL S B X Z := ⟨Nat.le_trans h.1 hk.1, fun b o h1 h2 e q => hk.2 b o (h.2 b o h1 h2 e q) q⟩
end Go.Proofs.Ytplldfnldaehiaa
