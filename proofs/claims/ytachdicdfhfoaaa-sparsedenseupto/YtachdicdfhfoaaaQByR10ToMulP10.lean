/-
  QByR10ToMulP10: ByR10, MulP10, joined.
-/
import Derived.Test.YtachdicdfhfoaaaQAm10
import Derived.Test.YtachdicdfhfoaaaQPure9ToWk9

/- ByR10 -/
namespace Go.Proofs.Ytachdicdfhfoaaa
open Go.RowKit Go.ChangeMaps Go.MapKept
set_option linter.unusedVariables false

theorem equalIn_map10 {P : Program} (w : World) (d : Nat) (t k e : TypeId) (p : Option Nat) (h : P.underlying t = some (.map k e)) : (Op.equalIn (d + 1) t (.map p) (.map none)).run P w = .ok p.isNone w := by
  cases p <;> simp [Op.equalIn, run_underlying h]
theorem eql_map10 (w : World) (p : Option Nat) : (binOp .eql 66 (.map p) (.map none)).run Try.prog w = .ok (.bool p.isNone) w := by
  have h := equalIn_map10 (P := Try.prog) w 9999 66 _ _ p Try.map10
  simp only [binOp]
  rw [show Op.equal 66 (.map p) (.map none) = Op.equalIn (9999 + 1) 66 (.map p) (.map none) from rfl]
  simp only [Sem.run_bind, h, Result.andThen]
  rfl
/-- What of row i has come. -/
def rowf (f : Nat × Nat → Option Value) (left : Nat × Nat → Bool) (i : Nat) : Nat × Nat → Option Value := fun s => if s.1 = i ∧ left s = false then f s else Option.none
theorem rowf_wi {f : Nat × Nat → Option Value} {left : Nat × Nat → Bool} {i r c : Nat} (h : Wi f r c) : Wi (rowf f left i) r c := fun s v hs => by
  unfold rowf at hs
  split at hs
  · exact h s v hs
  · cases hs
theorem rowf_same {f : Nat × Nat → Option Value} {left : Nat × Nat → Bool} {i j : Nat} {v : Value} (hv : f (i, j) = some v) (hl : left (i, j) = true) : ∀ s, upd (rowf f left i) (i, j) (some v) s = rowf f (fun x => left x && !decide (x = (i, j))) i s := fun s => by
  unfold upd rowf
  by_cases e : s = (i, j)
  · subst e; simp [hv]
  · simp [e]
theorem rowf_other {f : Nat × Nat → Option Value} {left : Nat × Nat → Bool} {i j i' : Nat} (hne : i' ≠ i) : ∀ s, rowf f left i' s = rowf f (fun x => left x && !decide (x = (i, j))) i' s := fun s => by
  unfold rowf
  by_cases e : s = (i, j)
  · subst e
    have q : ¬ i = i' := fun q => hne q.symm
    simp [q]
  · simp [e]
/-- The rows as far as they have come: block B, the rows' maps from block lo on. -/
def Rws (w : World) (B lo r : Nat) (f : Nat × Nat → Option Value) (left : Nat × Nat → Bool) : Prop :=
  ∃ (fR : Nat → Option Value) (bk : Nat → Nat) (nR : Nat), Mp inv inok w B fR nR ∧ (∀ i v, fR i = some v → i < r ∧ v = .map (some (bk i)) ∧ lo ≤ bk i) ∧ (∀ i i' v v', fR i = some v → fR i' = some v' → bk i = bk i' → i = i') ∧
    (∀ i v, fR i = some v → ∃ m, Mp spv spok w (bk i) (rowf f left i) m) ∧ (∀ i, fR i = Option.none → ∀ s, rowf f left i s = Option.none)
theorem Rws.keep {w w' : World} {B lo r : Nat} {f : Nat × Nat → Option Value} {left : Nat × Nat → Bool} (h : Rws w B lo r f left) (hk : ∀ y, y < w.heap.size → y = B ∨ lo ≤ y → w'.heap[y]? = w.heap[y]?) : Rws w' B lo r f left := by
  obtain ⟨fR, bk, nR, h1, h2, h3, h4, h5⟩ := h
  refine ⟨fR, bk, nR, h1.keep (hk B h1.lt (.inl rfl)), h2, h3, fun i v hi => ?_, h5⟩
  obtain ⟨m, hm⟩ := h4 i v hi
  exact ⟨m, hm.keep (hk _ hm.lt (.inr (h2 i v hi).2.2))⟩
theorem Rws.now {w w' : World} {B lo r : Nat} {f : Nat × Nat → Option Value} {left : Nat × Nat → Bool} (h : Rws w B lo r f left) (hb : Below w.heap.size w w') : Rws w' B lo r f left := h.keep (fun y hy _ => hb.block y hy)
theorem Rws.kept {w w' : World} {B lo r x : Nat} {f : Nat × Nat → Option Value} {left : Nat × Nat → Bool} (h : Rws w B lo r f left) (hg : w.grownBy w' (some x)) (h1 : x ≠ B) (h2 : x < lo) : Rws w' B lo r f left := h.keep (fun y hy hd => hg.block y hy (fun e => by simp at e; omega))
theorem Rws.start {w : World} {B lo r : Nat} {f : Nat × Nat → Option Value} (h : Mp inv inok w B (fun _ => Option.none) 0) : Rws w B lo r f (fun s => (f s).isSome) := by
  refine ⟨_, fun _ => 0, 0, h, (fun i v h => by cases h), (fun i i' v v' h => by cases h), (fun i v h => by cases h), fun i _ s => ?_⟩
  unfold rowf
  by_cases e : s.1 = i ∧ (f s).isSome = false
  · rw [if_pos e]
    exact Option.not_isSome_iff_eq_none.1 (by simp [e.2])
  · rw [if_neg e]
/-- A row that there was not. -/
theorem Rws.fresh {w w8 w9 : World} {B lo r i j nb : Nat} {f : Nat × Nat → Option Value} {left : Nat × Nat → Bool} {fR : Nat → Option Value} {bk : Nat → Nat} {n8 n9 : Nat} {v : Value}
    (R2 : ∀ i v, fR i = some v → i < r ∧ v = .map (some (bk i)) ∧ lo ≤ bk i) (R3 : ∀ i i' v v', fR i = some v → fR i' = some v' → bk i = bk i' → i = i')
    (R4 : ∀ i v, fR i = some v → ∃ m, Mp spv spok w (bk i) (rowf f left i) m) (R5 : ∀ i, fR i = Option.none → ∀ s, rowf f left i s = Option.none) (hfi : fR i = Option.none) (hi : i < r) (hfs : f (i, j) = some v) (hls : left (i, j) = true)
    (hnb : nb = w.heap.size) (hlo : lo ≤ nb) (hB : B < lo) (h8 : Mp inv inok w8 B (upd fR i (some (.map (some nb)))) n8) (h9 : Mp spv spok w9 nb (upd (fun _ => Option.none) (i, j) (some v)) n9) (k8 : ∀ y, y < w.heap.size → lo ≤ y → w8.heap[y]? = w.heap[y]?) (hg : w8.grownBy w9 (some nb)) (hs8 : w.heap.size ≤ w8.heap.size) :
    Rws w9 B lo r f (fun x => left x && !decide (x = (i, j))) := by
  refine ⟨_, fun x => if x = i then nb else bk x, n8, h8.kept hg (fun e => by simp at e; omega), fun i' v' h => ?_, fun i1 i2 v1 v2 e1 e2 eb => ?_, fun i' v' h => ?_, fun i' h s => ?_⟩
  · by_cases e : i' = i
    · subst e
      rw [upd_self] at h
      cases h
      exact ⟨hi, by simp, by simpa using hlo⟩
    · rw [upd_ne _ _ e] at h
      simp only [e, if_false]
      exact R2 i' v' h
  · have hlt : ∀ x u, x ≠ i → upd fR i (some (.map (some nb))) x = some u → bk x ≠ nb := fun x u hx hu => by
      rw [upd_ne _ _ hx] at hu
      obtain ⟨m, hm⟩ := R4 x u hu
      have := hm.lt
      omega
    by_cases q1 : i1 = i <;> by_cases q2 : i2 = i
    · omega
    · simp only [q1, q2, if_true, if_false] at eb
      exact absurd eb.symm (hlt i2 v2 q2 e2)
    · simp only [q1, q2, if_true, if_false] at eb
      exact absurd eb (hlt i1 v1 q1 e1)
    · simp only [q1, q2, if_false] at eb
      rw [upd_ne _ _ q1] at e1
      rw [upd_ne _ _ q2] at e2
      exact R3 i1 i2 v1 v2 e1 e2 eb
  · by_cases e : i' = i
    · subst e
      simp only [if_true]
      refine ⟨_, h9.ext (fun s => ?_)⟩
      rw [← rowf_same hfs hls s]
      unfold upd
      by_cases q : s = (i', j)
      · simp [q]
      · simp [q, R5 i' hfi s]
    · rw [upd_ne _ _ e] at h
      simp only [e, if_false]
      obtain ⟨m, hm⟩ := R4 i' v' h
      have hlt := hm.lt
      refine ⟨m, ((hm.keep (k8 _ hlt (R2 i' v' h).2.2)).kept hg (fun q => by simp at q; omega)).ext (rowf_other e)⟩
  · have e : i' ≠ i := fun q => by subst q; rw [upd_self] at h; cases h
    rw [upd_ne _ _ e] at h
    rw [← rowf_other e s]
    exact R5 i' h s
/-- A row that there was. -/
theorem Rws.again {w w9 : World} {B lo r i j : Nat} {f : Nat × Nat → Option Value} {left : Nat × Nat → Bool} {fR : Nat → Option Value} {bk : Nat → Nat} {nR n9 : Nat} {v u : Value}
    (R1 : Mp inv inok w B fR nR) (R2 : ∀ i v, fR i = some v → i < r ∧ v = .map (some (bk i)) ∧ lo ≤ bk i) (R3 : ∀ i i' v v', fR i = some v → fR i' = some v' → bk i = bk i' → i = i')
    (R4 : ∀ i v, fR i = some v → ∃ m, Mp spv spok w (bk i) (rowf f left i) m) (R5 : ∀ i, fR i = Option.none → ∀ s, rowf f left i s = Option.none) (hfi : fR i = some u) (hfs : f (i, j) = some v) (hls : left (i, j) = true)
    (hB : B < lo) (h9 : Mp spv spok w9 (bk i) (upd (rowf f left i) (i, j) (some v)) n9) (hg : w.grownBy w9 (some (bk i))) :
    Rws w9 B lo r f (fun x => left x && !decide (x = (i, j))) := by
  have hlo := (R2 i u hfi).2.2
  refine ⟨fR, bk, nR, R1.kept hg (fun e => by simp at e; omega), R2, R3, fun i' v' h => ?_, fun i' h s => ?_⟩
  · by_cases e : i' = i
    · subst e
      exact ⟨_, h9.ext (rowf_same hfs hls)⟩
    · obtain ⟨m, hm⟩ := R4 i' v' h
      exact ⟨m, (hm.kept hg (fun q => e (R3 i' i v' u h hfi (by simpa using q)))).ext (rowf_other e)⟩
  · have e : i' ≠ i := fun q => by subst q; rw [hfi] at h; cases h
    rw [← rowf_other e s]
    exact R5 i' h s
/-- 'm[k] = v' at the operation, what comes of it hidden. -/
def Stored {κ : Type} [DecidableEq κ] (kv : κ → Value) (okk : κ → Prop) (w : World) (b n : Nat) (f : κ → Option Value) (s : κ) (val : Value) (w' : World) : Prop := Mp kv okk w' b (upd f s (some val)) (if (f s).isSome then n else n + 1) ∧ w.grownBy w' (some b)
theorem wpList_store10h {κ : Type} [DecidableEq κ] {kv : κ → Value} {okk : κ → Prop} {P : Program} (w : World) {ops : Array Oper} {rest : List Oper} {o : Oper} {a : Act} {Q : Exit → Act → World → Prop} (hg : o.guard = none) (m x v : Operand) (t : TypeId) (hop : o.op = Op.mapUpdate t m x v) (k e : TypeId) (K : Ks P k kv okk) (ht : P.underlying t = some (.map k e))
    (b n : Nat) (f : κ → Option Value) (hm : a.eval m = .map (some b)) (h : Mp kv okk w b f n) (hn : n < maxLen) (s : κ) (val : Value) (hx : a.eval x = kv s) (hv : a.eval v = val) (hs : okk s)
    (hK : ∀ w', Hid (Stored kv okk w b n f s val w') → wpList P ops Q rest (a.put o.dst undef) w') : wpList P ops Q (o :: rest) a w :=
  wpList_store10 w hg m x v t hop k e K ht b n f hm h hn s val hx hv hs (fun w' h1 h2 _ => hK w' ⟨h1, h2⟩)
def HypBy (w : World) (b n r c k : Nat) (f : Nat × Nat → Option Value) (gk : Nat) (wx : World) : Prop :=
  ∃ left, Rg spv spok wx b (w.heap.size + 1) f n left gk ∧ Rws wx w.heap.size (w.heap.size + 2) r f left ∧ Below w.heap.size w wx ∧ w.heap.size + 2 ≤ wx.heap.size
def ByRowed (w : World) (r : Nat) (f : Nat × Nat → Option Value) (e : Ending) (w' : World) : Prop := e = .returned (.map (some w.heap.size)) ∧ Rws w' w.heap.size (w.heap.size + 2) r f (fun _ => false) ∧ Below w.heap.size w w' ∧ w.heap.size + 2 ≤ w'.heap.size
set_option maxHeartbeats 3200000 in
set_option maxRecDepth 100000 in
theorem byRows_any {w : World} {b r c n k : Nat} {F : Nat → Nat → Int} {f : Nat × Nat → Option Value} (hm : Mp spv spok w b f n) (hf : Nm w f F k) (hw : Wi f r c) (hr : r ≤ 1048576) (hc : c ≤ 1048576) :
    Calls Try.prog 49 #[.map (some b)] w (ByRowed w r f) := by
  obtain ⟨W0, hW⟩ : ∃ W0, w.alloc (.map #[] 0) = W0 := ⟨_, rfl⟩
  obtain ⟨b0, sz0⟩ := alo1 w (.map #[] 0)
  rw [hW] at b0 sz0
  have MB : Mp inv inok W0 w.heap.size (fun _ => Option.none) 0 := by rw [← hW]; exact Mp.made inv inok w
  have HM0 : Hid (Mp spv spok (w.alloc (.map #[] 0)) b f n) := by unfold Hid; rw [hW]; exact hm.now b0
  have hmk := fun w => run_makeMap (P := Try.prog) 88 w
  have HMB := hid MB
  have HF := hid hf
  have HWI := hid hw
  have HRC := hid (And.intro hr hc)
  have HLB := hid hm.lt
  have EW := hid hW
  have SZ := hid sz0
  have G0 := hid b0
  clear hm hf hw hr hc b0 sz0 hW MB
  go_enter Try.func49, Try.ntmps49
  go_wp2_with (first | (at_range; refine wpList_range10 _ rfl _ _ rfl _ _ ks10 Try.map10 b n f rfl HM0.out ?_; intro w4 hrg hbw hsz) | go_in)
  go_frame
  rw [EW.out] at hrg hbw hsz
  rw [SZ.out] at hrg hsz
  try simp only [World.size_alloc]
  have H0 : Hid (HypBy w b n r c k f n w4) := by
    exact ⟨_, hrg, Rws.start (HMB.out.now hbw), below_step G0.out hbw, by omega⟩
  clear hrg hbw hsz HM0 HMB EW SZ G0 hmk
  go_loopg [4] n (fun gk s4 wx => HypBy w b n r c k f gk wx)
  case atStart => exact H0.out
  case round =>
    clear H0
    obtain ⟨left, hrg, hrw, hG, hlo⟩ := hrel
    have RG := hid hrg
    have RW := hid hrw
    have G := hid hG
    have HLO := hid hlo
    clear hrg hrw hG hlo
    go_wp2_with (first | (at_next; refine wpList_next10 _ rfl _ rfl _ ks10 b (w.heap.size + 1) n f left gk rfl RG.out ?_ ?_) | go_in)
    · intro hl
      have FIN : Hid (ByRowed w r f (.returned (.map (some w.heap.size))) wr) := ⟨rfl, by rw [← (funext hl.out : left = fun _ => false)]; exact RW.out, G.out, HLO.out⟩
      clear RG RW G hl
      go_wp2
      go_ret
      exact FIN.out
    · intro i j v w5 cnt hca hen
      obtain ⟨hok, hfs, hls, hrg, hlt, hgr, hsz⟩ := hca.out
      clear hca
      have hcl := RG.out.cl hgr
      -- the value's form
      obtain ⟨hne0, zm⟩ := HF.out.at hfs
      obtain ⟨m, xs, a, c0, rfl, -⟩ := id zm
      have RG1 := hid hrg
      have RW1 := hid (RW.out.kept hgr (by omega) (by omega))
      have G1 := hid (below_grown G.out hgr (by omega))
      have HL1 : Hid (w.heap.size + 2 ≤ w5.heap.size) := Nat.le_trans HLO.out hgr.size
      have HLS := hid hls
      have HOK := hid hok
      have HFS := hid hfs
      have HLT := hid hlt
      clear zm hne0 hls hok hfs hrg hgr hsz hcl RG RW G hlt HLO
      obtain ⟨V6, hV⟩ : ∃ V6, (w5.alloc (.cells #[.int .i64 (i : Int), .int .i64 (j : Int)] 71)).alloc (duo (.bool m) (.slice a xs.length c0)) = V6 := ⟨_, rfl⟩
      obtain ⟨b6, sz6⟩ := alloc2 w5 (.cells #[.int .i64 (i : Int), .int .i64 (j : Int)] 71) (duo (.bool m) (.slice a xs.length c0))
      rw [hV] at b6 sz6
      have PS : Cel V6 w5.heap.size 71 [.int .i64 (i : Int), .int .i64 (j : Int)] := by
        rw [← hV]
        exact (Cel.new w5 71 [.int .i64 (i : Int), .int .i64 (j : Int)]).step ((Below.refl _ _).alloc (Nat.le_refl _) _)
      have PV : Duo V6 (w5.heap.size + 1) (.bool m) (.slice a xs.length c0) := by
        rw [← hV]
        have := heap_alloc_new (w5.alloc (.cells #[.int .i64 (i : Int), .int .i64 (j : Int)] 71)) (duo (.bool m) (.slice a xs.length c0))
        simpa [Duo] using this
      have RG2 := hid (RG1.out.now b6)
      have G2 := hid (below_step G1.out b6)
      obtain ⟨fR, bk, nR, r1, r2, r3, r4, r5⟩ := RW1.out.now b6
      have HL2 : Hid (w.heap.size + 2 ≤ V6.heap.size) := by have := HL1.out; unfold Hid; omega
      have EV := hid hV
      have s0 := PS.at (i := 0) rfl
      have QS := hid PS
      have QV := hid PV
      have hiok : inok i := HOK.out.1
      have hroom : nR < maxLen := by
        have := r1.count (N := r) (fun i => i) (fun i v h => (r2 i v h).1) (fun i i' v v' _ _ e => e)
        have := HRC.out
        unfold maxLen
        omega
      have hlk := r1.look ki10 Try.mapR10 (zeroR10 _) hiok false
      simp only [Bool.false_eq_true, if_false, inv] at hlk
      have he := eql_map10 V6
      simp only [spv] at hen ⊢
      have R1 := hid r1
      have R2 := hid r2
      have R3 := hid r3
      have R4 := hid r4
      have R5 := hid r5
      have HRM := hid hroom
      have HIO := hid hiok
      have HS6 := hid sz6
      clear hV b6 sz6 RG1 RW1 G1 HL1 PS PV r1 r2 r3 r4 r5 hroom hiok
      have s1 := QS.out.at (i := 1) rfl
      have v0 := QV.out.c0
      have v1 := QV.out.c1
      rw [← EV.out] at s0 s1 v0 v1 hlk
      have HIR : Hid (i < r) := (HWI.out (i, j) _ HFS.out).1
      cases hfi : fR i with
      | none =>
        rw [hfi] at hlk
        simp only [Option.getD_none] at hlk
        have HFI := hid hfi
        clear hfi
        rw [← EV.out] at he
        have he0 := he Option.none
        simp only [Option.isNone_none] at he0
        clear he
        -- a new row
        obtain ⟨V7, hV7⟩ : ∃ V7, V6.alloc (.map #[] 0) = V7 := ⟨_, rfl⟩
        obtain ⟨b7, sz7⟩ := alo1 V6 (.map #[] 0)
        rw [hV7] at b7 sz7
        have hmk := fun w => run_makeMap (P := Try.prog) 66 w
        have MN : Mp spv spok V7 V6.heap.size (fun _ => Option.none) 0 := by rw [← hV7]; exact Mp.made spv spok V6
        have HMN := hid MN
        have RB := hid (R1.out.now b7)
        have G7 := hid (below_step G2.out b7)
        have RG7 := hid (RG2.out.now b7)
        have QS7 := hid (QS.out.step b7)
        have QV7 := hid (QV.out.step b7)
        have HB7 := hid b7
        have EV7 := hid hV7
        have HS7 := hid sz7
        have RBx : Hid (Mp inv inok (((w5.alloc (.cells #[.int .i64 (i : Int), .int .i64 (j : Int)] 71)).alloc (duo (.bool m) (.slice a xs.length c0))).alloc (.map #[] 0)) w.heap.size fR nR) := by unfold Hid; rw [EV.out, EV7.out]; exact RB.out
        have t0 := s0
        rw [EV.out] at t0
        have t7 := (QS7.out.at (i := 0) rfl)
        rw [← EV7.out, ← EV.out] at t7
        clear hV7 b7 sz7 MN t0
        go_wp2_with (first | (at_mapUpdate; refine wpList_store10h _ rfl _ _ _ _ rfl _ _ ki10 Try.mapR10 w.heap.size nR fR rfl RBx.out HRM.out i _ rfl rfl HIO.out ?_) | go_in)
        intro w8 hst
        obtain ⟨q1, q2⟩ := hst.out
        rw [EV.out, EV7.out] at q2
        have hlo := HL2.out
        have cl8 := RB.out.cl q2
        have hnb := HS6.out
        rw [← hnb] at q1 ⊢
        have M8 := hid (HMN.out.kept q2 (fun e => by simp at e; omega))
        have QS8 := hid (QS7.out.cl cl8)
        have QV8 := hid (QV7.out.cl cl8)
        have RG8 := hid (RG7.out.kept q2 (fun e => by have := HLB.out; simp at e; omega) (fun e => by simp at e))
        have G8 := hid (below_grown G7.out q2 (Nat.le_refl _))
        have Q1 := hid q1
        have hlk8 := q1.look ki10 Try.mapR10 (zeroR10 _) HIO.out false
        simp only [Bool.false_eq_true, if_false, inv, upd_self, Option.getD_some] at hlk8
        have K8 : Hid (∀ y, y < V6.heap.size → w.heap.size + 2 ≤ y → w8.heap[y]? = V6.heap[y]?) := fun y hy hl => (q2.block y (by have := HS7.out; omega) (fun e => by simp at e; omega)).trans (HB7.out.block y hy)
        have HSZ8 : Hid (V6.heap.size + 1 ≤ w8.heap.size) := by have := HS7.out; have := q2.size; unfold Hid; omega
        clear s0 s1 v0 v1 hlk t7 he0 hmk
        have s0 := QS8.out.at (i := 0) rfl
        have s1 := QS8.out.at (i := 1) rfl
        have v0 := QV8.out.c0
        have v1 := QV8.out.c1
        have HR0 : Hid (0 < maxLen) := by unfold Hid maxLen; omega
        obtain ⟨nb, hnb2⟩ : ∃ nb, nb = V6.heap.size := ⟨_, rfl⟩
        rw [← hnb2] at hlk8 M8 Q1 ⊢
        have HNB := hid hnb2
        clear hst q1 q2 cl8 hnb RBx RB HMN QS7 QV7 RG7 G7 HB7 EV EV7 hlo hnb2
        go_wp2_with (first | (at_mapUpdate; refine wpList_store10h _ rfl _ _ _ _ rfl _ _ ks10 Try.map10 nb 0 (fun _ => Option.none) rfl M8.out HR0.out (i, j) _ rfl rfl HOK.out ?_) | go_in)
        intro w9 hst
        obtain ⟨p1, p2⟩ := hst.out
        have HN1 : Hid (HypBy w b n r c k f cnt w9) := by
          have h1 := HNB.out
          have h2 := HL2.out
          have h3 := HLB.out
          have h4 := HSZ8.out
          refine ⟨_, RG8.out.kept p2 (fun e => by simp at e; omega) (fun e => by simp at e; omega), ?_, below_grown G8.out p2 (by omega), by have := p2.size; omega⟩
          exact Rws.fresh (w := V6) R2.out R3.out R4.out R5.out HFI.out HIR.out HFS.out HLS.out h1 (by omega) (by omega) Q1.out p1 K8.out p2 (by omega)
        clear hst p1 p2 RG8 G8 Q1 M8 QS8 QV8 K8 hlk8 s0 s1 v0 v1
        go_wp2_with fail
        go_roundg cnt
        case rel => exact HN1.out
        case measure => exact HLT.out
      | some u =>
        obtain ⟨hu1, hu2, hu3⟩ := R2.out i u hfi
        rw [hfi] at hlk
        simp only [Option.getD_some] at hlk
        rw [hu2] at hlk
        have HFI := hid hfi
        rw [← EV.out] at he
        have he0 := he (some (bk i))
        simp only [Option.isNone_some] at he0
        obtain ⟨mr, hmr⟩ := R4.out i u hfi
        have HMx : Hid (Mp spv spok ((w5.alloc (.cells #[.int .i64 (i : Int), .int .i64 (j : Int)] 71)).alloc (duo (.bool m) (.slice a xs.length c0))) (bk i) (rowf f left i) mr) := by unfold Hid; rw [EV.out]; exact hmr
        have HRR : Hid (mr < maxLen) := wide_room HRC.out.1 HRC.out.2 (hmr.count2 (rowf_wi HWI.out))
        have HU3 := hid hu3
        clear he hfi hu1 hu2 hu3 hmr
        obtain ⟨nb, hnb⟩ : ∃ nb, nb = bk i := ⟨_, rfl⟩
        rw [← hnb] at hlk he0 HMx HU3
        have HNB := hid hnb
        clear hnb
        go_wp2_with (first | (at_mapUpdate; refine wpList_store10h _ rfl _ _ _ _ rfl _ _ ks10 Try.map10 nb mr (rowf f left i) rfl HMx.out HRR.out (i, j) _ rfl rfl HOK.out ?_) | go_in)
        intro w9 hst
        obtain ⟨p1, p2⟩ := hst.out
        rw [EV.out] at p2
        have HN1 : Hid (HypBy w b n r c k f cnt w9) := by
          have h1 := HU3.out
          have h3 := HLB.out
          have h4 := HL2.out
          refine ⟨_, RG2.out.kept p2 (fun e => by simp at e; omega) (fun e => by simp at e; omega), ?_, below_grown G2.out p2 (by omega), by have := p2.size; omega⟩
          rw [HNB.out] at p1 p2
          exact Rws.again (w := V6) R1.out R2.out R3.out R4.out R5.out HFI.out HFS.out HLS.out (by omega) p1 p2
        clear hst p1 p2 RG2 G2 HMx hlk s0 s1 v0 v1 he0 EV
        go_wp2_with fail
        go_roundg cnt
        case rel => exact HN1.out
        case measure => exact HLT.out
end Go.Proofs.Ytachdicdfhfoaaa

/- MulP10 -/
namespace Go.Proofs.Ytachdicdfhfoaaa
open Go.RowKit Go.ChangeMaps Go.MapKept
set_option linter.unusedVariables false

/-- The rows of a map, each in a map of its own, in blocks from lo to hi. -/
def Rz0 (w : World) (fR : Nat → Option Value) (bk : Nat → Nat) (lo hi r : Nat) (f : Nat × Nat → Option Value) : Prop :=
  (∀ i v, fR i = some v → i < r ∧ v = .map (some (bk i)) ∧ lo ≤ bk i ∧ bk i < hi ∧ ∃ m, Mp spv spok w (bk i) (rowf f (fun _ => false) i) m) ∧ (∀ i, fR i = Option.none → ∀ j, f (i, j) = Option.none)
theorem Rz0.keep {w w' : World} {fR : Nat → Option Value} {bk : Nat → Nat} {lo hi r : Nat} {f : Nat × Nat → Option Value} (h : Rz0 w fR bk lo hi r f) (hk : ∀ y, y < w.heap.size → lo ≤ y → y < hi → w'.heap[y]? = w.heap[y]?) : Rz0 w' fR bk lo hi r f := by
  refine ⟨fun i v hi' => ?_, h.2⟩
  obtain ⟨h1, h2, h3, h4, m, hm⟩ := h.1 i v hi'
  exact ⟨h1, h2, h3, h4, m, hm.keep (hk _ hm.lt h3 h4)⟩
theorem Rz0.now {w w' : World} {fR : Nat → Option Value} {bk : Nat → Nat} {lo hi r : Nat} {f : Nat × Nat → Option Value} (h : Rz0 w fR bk lo hi r f) (hb : Below w.heap.size w w') : Rz0 w' fR bk lo hi r f := h.keep (fun y hy _ _ => hb.block y hy)
theorem Rz0.kept {w w' : World} {fR : Nat → Option Value} {bk : Nat → Nat} {lo hi r x : Nat} {f : Nat × Nat → Option Value} (h : Rz0 w fR bk lo hi r f) (hg : w.grownBy w' (some x)) (hx : x < lo ∨ hi ≤ x) : Rz0 w' fR bk lo hi r f :=
  h.keep (fun y hy h1 h2 => hg.block y hy (fun e => by simp at e; omega))
theorem Rws.rz {w : World} {B lo r hi : Nat} {f : Nat × Nat → Option Value} (h : Rws w B lo r f (fun _ => false)) (hh : w.heap.size ≤ hi) : ∃ fR bk nR, Mp inv inok w B fR nR ∧ Rz0 w fR bk lo hi r f := by
  obtain ⟨fR, bk, nR, h1, h2, h3, h4, h5⟩ := h
  refine ⟨fR, bk, nR, h1, fun i v hi' => ?_, fun i hi' j => ?_⟩
  · obtain ⟨m, hm⟩ := h4 i v hi'
    obtain ⟨a, b, c⟩ := h2 i v hi'
    exact ⟨a, b, c, Nat.lt_of_lt_of_le hm.lt hh, m, hm⟩
  · have := h5 i hi' (i, j)
    simpa [rowf] using this
/-- One row of a map. -/
def rwF (B : Nat → Nat → Int) (t : Nat) : Nat → Nat → Int := fun i j => if i = t then B i j else 0
theorem Nm.row {w : World} {f : Nat × Nat → Option Value} {B : Nat → Nat → Int} {k : Nat} (h : Nm w f B k) (t : Nat) : Nm w (rowf f (fun _ => false) t) (rwF B t) k := fun i j => by
  unfold rowf rwF
  by_cases e : i = t
  · subst e; simpa using h i j
  · exact .inl ⟨by simp [e], by simp [e]⟩
/-- A row's sums, as far as they have come. -/
def piS (m : Nat) (left : Nat × Nat → Bool) (A B : Nat → Nat → Int) (i j : Nat) : Int := sumN m (fun t => if left (i, t) then 0 else A i t * B t j)
theorem piS_step {m t i j : Nat} {left : Nat × Nat → Bool} {A B : Nat → Nat → Int} (ht : t < m) (hl : left (i, t) = true) : piS m (fun x => left x && !decide (x = (i, t))) A B i j = A i t * B t j + piS m left A B i j := by
  unfold piS
  have e1 : sumN m (fun u => if u = t then A i u * B u j else 0) = A i t * B t j := sumN_one ht _
  rw [← e1, ← sumN_add]
  refine sumN_congr (fun u hu => ?_)
  by_cases e : u = t
  · subst e; simp [hl]
  · have : ¬ ((i, u) = (i, t)) := fun q => e (by rw [Prod.mk.injEq] at q; exact q.2)
    simp [e]
theorem piS_none {m : Nat} {left : Nat × Nat → Bool} {A B : Nat → Nat → Int} {i : Nat} (h : ∀ t, left (i, t) = true ∨ A i t = 0) (j : Nat) : piS m left A B i j = 0 := by
  unfold piS
  have e : sumN m (fun t => if left (i, t) then 0 else A i t * B t j) = sumN m (fun _ => 0) := sumN_congr (fun u hu => by
    rcases h u with h | h
    · simp [h]
    · simp [h])
  rw [e, sumN_none]
theorem abs_sum (P : Int) (hP : 0 ≤ P) : ∀ (n : Nat) (f : Nat → Int), (∀ t, ((f t).natAbs : Int) ≤ P) → ((sumN n f).natAbs : Int) ≤ n * P
  | 0, f, _ => by simp [sumN_zero]
  | n + 1, f, h => by
    have h1 := abs_sum P hP n f h
    have h2 := h n
    rw [sumN_succ]
    have e : ((n + 1 : Nat) : Int) * P = n * P + P := by rw [Int.natCast_add, Int.add_mul]; simp
    rw [e]
    omega
theorem pw_big (m : Nat) : 64 * pw m < pw (m + 1) := by
  have h := pw_pos m
  have e : pw (m + 1) = wB * pw m := by first | rfl | exact pw_succ m | (rw [pw_succ, Int.mul_comm])
  have e2 : wB = 18446744073709551616 := rfl
  rw [e, e2]
  omega
theorem piS_lt {m ka kb : Nat} {A B : Nat → Nat → Int} (hm : m ≤ 64) (hA : ∀ i j, ((A i j).natAbs : Int) < pw ka) (hB : ∀ i j, ((B i j).natAbs : Int) < pw kb) (left : Nat × Nat → Bool) (i j : Nat) : ((piS m left A B i j).natAbs : Int) < pw (ka + kb + 1) := by
  have h0 : (0 : Int) ≤ pw (ka + kb) := Int.le_of_lt (pw_pos _)
  have h1 := abs_sum (pw (ka + kb)) h0 m (fun t => if left (i, t) then 0 else A i t * B t j) (fun t => by
    by_cases e : left (i, t) = true
    · simp only [e, if_true]; simpa using h0
    · simp only [e]
      rw [if_neg (by simp), Int.natAbs_mul, Int.natCast_mul, pw_plus]
      exact Int.mul_le_mul (Int.le_of_lt (hA i t)) (Int.le_of_lt (hB t j)) (by omega) (Int.le_of_lt (pw_pos _)))
  have h2 := pw_big (ka + kb)
  have h3 : (m : Int) * pw (ka + kb) ≤ 64 * pw (ka + kb) := Int.mul_le_mul_of_nonneg_right (by omega) h0
  unfold piS
  omega
/-- The product, as far as its rows have come. -/
def plF (m : Nat) (leftR : Nat → Bool) (A B : Nat → Nat → Int) : Nat → Nat → Int := fun i j => if leftR i then 0 else piS m (fun _ => false) A B i j
/-- .. within row i. -/
def pmF (m : Nat) (leftR : Nat → Bool) (i : Nat) (left : Nat × Nat → Bool) (A B : Nat → Nat → Int) : Nat → Nat → Int := fun i' j => if i' = i then piS m left A B i j else plF m leftR A B i' j
theorem plF_start {w : World} {f : Nat × Nat → Option Value} {A B : Nat → Nat → Int} {k m : Nat} {fR : Nat → Option Value} (h : Nm w f A k) (hn : ∀ i, fR i = Option.none → ∀ j, f (i, j) = Option.none) : ∀ i j, (fun _ _ => (0 : Int)) i j = plF m (fun i => (fR i).isSome) A B i j := fun i j => by
  show (0 : Int) = if (fR i).isSome = true then 0 else piS m (fun _ => false) A B i j
  cases e : fR i with
  | some v => rw [if_pos (by simp)]
  | none =>
    rw [if_neg (by simp)]
    refine (piS_none (fun t => .inr ?_) j).symm
    rcases h i t with ⟨_, h2⟩ | ⟨v, h1, _⟩
    · exact h2
    · rw [hn i e t] at h1; cases h1
theorem pmF_start {w : World} {f : Nat × Nat → Option Value} {A B : Nat → Nat → Int} {k m i : Nat} {leftR : Nat → Bool} (h : Nm w f A k) (hl : leftR i = true) : ∀ i' j, plF m leftR A B i' j = pmF m leftR i (fun s => (rowf f (fun _ => false) i s).isSome) A B i' j := fun i' j => by
  unfold pmF
  by_cases e : i' = i
  · subst e
    rw [if_pos rfl]
    unfold plF
    rw [if_pos hl]
    refine (piS_none (fun t => ?_) j).symm
    rcases h i' t with ⟨h1, h2⟩ | ⟨v, h1, _⟩
    · exact .inr h2
    · exact .inl (by simp [rowf, h1])
  · rw [if_neg e]
theorem pmF_end {A B : Nat → Nat → Int} {m i : Nat} {leftR : Nat → Bool} {left : Nat × Nat → Bool} (hl : Dry left) : ∀ i' j, pmF m leftR i left A B i' j = plF m (fun x => leftR x && !decide (x = i)) A B i' j := fun i' j => by
  unfold pmF
  have e0 : left = fun _ => false := funext hl
  by_cases e : i' = i
  · subst e
    rw [if_pos rfl, e0]
    simp [plF]
  · rw [if_neg e]
    simp [plF, e]
theorem pmF_step {A B : Nat → Nat → Int} {m i t : Nat} {leftR : Nat → Bool} {left : Nat × Nat → Bool} (ht : t < m) (hl : left (i, t) = true) : ∀ i' j, (if i' = i then pmF m leftR i left A B i j + A i t * B t j else pmF m leftR i left A B i' j) = pmF m leftR i (fun x => left x && !decide (x = (i, t))) A B i' j := fun i' j => by
  unfold pmF
  by_cases e : i' = i
  · subst e
    simp only [if_true]
    rw [piS_step ht hl]
    omega
  · simp [e]
theorem plF_end {A B : Nat → Nat → Int} {m : Nat} {leftR : Nat → Bool} (hl : Dry leftR) : ∀ i j, plF m leftR A B i j = piS m (fun _ => false) A B i j := fun i j => by simp [plF, show leftR i = false from hl i]
end Go.Proofs.Ytachdicdfhfoaaa
