/-
  Copied: a step whose lists are new.
-/
import Derived.Test.YtnbjlpeclaieeaaFar
import Derived.Test.YtnbjlpeclaieeaaProduct
import Derived.Test.YtnbjlpeclaieeaaCopiesToOpenOp6
import Derived.Deep.RegionHeld3
namespace Go.Proofs.Ytnbjlpeclaieeaa
open Go.RowKit
set_option linter.unusedVariables false

/-- Block g holds slices of words. -/
def RowL (w : World) (g : Nat) (L : List Value) : Prop := w.heap[g]? = some (.cells L.toArray 22 (0, 0))
theorem RowL.lt {w : World} {g : Nat} {L : List Value} (h : RowL w g L) : g < w.heap.size := (Array.getElem?_eq_some_iff.1 h).1
theorem RowL.cell {w : World} {g : Nat} {L : List Value} (h : RowL w g L) {i : Nat} (hi : i < L.length) : w.cell? ⟨g, i, none⟩ = some L[i] := by
  unfold RowL at h
  simp [World.cell?, h, hi]
theorem RowL.frozen {w : World} {g : Nat} {L : List Value} (h : RowL w g L) (i : Nat) : w.frozen? ⟨g, i, none⟩ = false := by
  unfold RowL at h
  simp [World.frozen?, h]
theorem RowL.set {w : World} {g : Nat} {L : List Value} (h : RowL w g L) (i : Nat) (u : Value) : RowL (w.setCell ⟨g, i, none⟩ u) g (L.set i u) := by
  unfold RowL at h ⊢
  simp [World.setCell, Array.getElem?_modify, h]
theorem RowL.now {w w' : World} {g : Nat} {L : List Value} (h : RowL w g L) (hb : Below w.heap.size w w') : RowL w' g L := (hb.block g h.lt).trans h
theorem Try.infoSl : (Try.prog.info? 22).map (fun i => (i.zero, i.size, i.bytes)) = some (some (.slice none 0 0), 1, 24) := by kernel_rfl
theorem madeCells_slices (m : Nat) : madeCells (Value.slice none 0 0).cells m = (List.replicate m (Value.slice none 0 0)).toArray := by
  apply Array.ext
  · simp [size_madeCells]
  · intro i h1 h2
    simp [madeCells, Value.cells, Nat.mod_one]
theorem wpList_make_slices (w : World) {ops : Array Oper} {rest : List Oper} {o : Oper} {a : Act} {Q : Exit → Act → World → Prop}
    (hg : o.guard = none) (l c : Operand) (hop : o.op = Op.makeSlice 23 l c)
    (L C : Int) (n : Nat) (hl : a.eval l = .int .i64 L) (hc : a.eval c = .int .i64 C) (hL : L = (n : Int)) (hC : C = (n : Int)) (hm : n ≤ 2097152)
    (hK : ∀ w', Hid (RowL w' w.heap.size (List.replicate n (.slice none 0 0))) → Hid (Below w.heap.size w w') → Hid (w'.heap.size = w.heap.size + 1) → wpList Try.prog ops Q rest (a.put o.dst (.slice (some ⟨w.heap.size, 0, none⟩) n n)) w') :
    wpList Try.prog ops Q (o :: rest) a w := by
  refine wpList_plain hg fun K hK' => ?_
  obtain ⟨i, hi, hz, hs, hb⟩ := info_parts Try.infoSl
  have hrun := run_make (P := Try.prog) w 23 22 i (.slice none 0 0) Try.underlying23 hi hz .i64 .i64 n n (by omega) (by omega) (by rw [hb]; omega) (by omega)
  subst hL
  subst hC
  rw [hs, Nat.mul_one, Int.toNat_natCast, madeCells_slices] at hrun
  unfold Oper.wp
  simp [execOp, hop, hl, hc, hrun, Result.andThen]
  refine hK' _ _ (hK _ ?_ ((Below.refl _ _).alloc (Nat.le_refl _) _) ?_)
  · unfold Hid RowL; simpa using heap_alloc_new w _
  · unfold Hid; simp
/-- The first k lists are copied; nothing below block g but the row itself has turned. -/
def Copying (w0 wr : World) (g : Nat) (Xs : List (List Int)) (Vs : List Value) (k : Nat) : Prop :=
  RowL wr g Vs ∧ Vs.length = Xs.length ∧ Below g w0 wr ∧ ∀ j (h : j < Vs.length) (h' : j < Xs.length), j < k → Far (g + 1) wr Vs[j] Xs[j]
theorem Copying.step {w0 wr w' : World} {g k : Nat} {Xs : List (List Int)} {Vs : List Value} {u : Value} (h : Copying w0 wr g Xs Vs k) (hb : Below wr.heap.size wr w') (hk : k < Xs.length) (hu : Far (g + 1) w' u Xs[k]) : Copying w0 (w'.setCell ⟨g, k, none⟩ u) g Xs (Vs.set k u) (k + 1) := by
  obtain ⟨h1, h2, h3, h4⟩ := h
  refine ⟨(h1.now hb).set k u, by simpa using h2, (h3.trans (hb.mono (Nat.le_of_lt h1.lt))).setCell (p := ⟨g, k, none⟩) (Nat.le_refl _) u, fun j hj h' hjk => ?_⟩
  by_cases e : k = j
  · subst e
    simp only [List.getElem_set_self]
    exact hu.set (by omega)
  · rw [List.getElem_set_ne e]
    exact ((h4 j (by simpa using hj) h' (by omega)).now hb).set (by omega)
theorem Copying.ls {w0 wr : World} {g : Nat} {Xs : List (List Int)} {Vs : List Value} (h : Copying w0 wr g Xs Vs Xs.length) (hl : Xs.length ≤ 2097152) : Ls wr.heap.size wr (.slice (some ⟨g, 0, none⟩) Xs.length Xs.length) Xs := by
  obtain ⟨h1, h2, h3, h4⟩ := h
  refine ⟨_, _, rfl, Nat.le_refl _, hl, .inr ⟨g, 0, rfl, h1.lt, fun j hj => ?_⟩⟩
  have hj' : j < Vs.length := by omega
  have := h4 j hj' hj hj
  exact ⟨Vs[j], by rw [Nat.zero_add]; exact h1.cell hj', this.sl, this.formed⟩
/-- A row of lists, each with a row of its own behind it. -/
def LsFar (g : Nat) (w : World) (Xs : List (List Int)) (Vs : List Value) : Prop := RowL w g Vs ∧ Vs.length = Xs.length ∧ ∀ j (h : j < Vs.length) (h' : j < Xs.length), Far (g + 1) w Vs[j] Xs[j]
theorem LsFar.now {g : Nat} {w w' : World} {Xs : List (List Int)} {Vs : List Value} (h : LsFar g w Xs Vs) (hb : Below w.heap.size w w') : LsFar g w' Xs Vs := ⟨h.1.now hb, h.2.1, fun j h1 h2 => (h.2.2 j h1 h2).now hb⟩
theorem LsFar.set {g b j : Nat} {w : World} {u : Value} {Xs : List (List Int)} {Vs : List Value} (h : LsFar g w Xs Vs) (hb : b < g) : LsFar g (w.setCell ⟨b, j, none⟩ u) Xs Vs :=
  ⟨(Below.heap_setCell w _ u g (fun e => by subst e; exact absurd hb (by simp))).trans h.1, h.2.1, fun j h1 h2 => (h.2.2 j h1 h2).set (by omega)⟩
theorem LsFar.ls {g : Nat} {w : World} {Xs : List (List Int)} {Vs : List Value} (h : LsFar g w Xs Vs) (hl : Xs.length ≤ 2097152) : Ls w.heap.size w (.slice (some ⟨g, 0, none⟩) Xs.length Xs.length) Xs := by
  obtain ⟨h1, h2, h4⟩ := h
  refine ⟨_, _, rfl, Nat.le_refl _, hl, .inr ⟨g, 0, rfl, h1.lt, fun j hj => ?_⟩⟩
  have hj' : j < Vs.length := by omega
  have := h4 j hj' hj
  exact ⟨Vs[j], by rw [Nat.zero_add]; exact h1.cell hj', this.sl, this.formed⟩
theorem keep_alloc {w0 w : World} (h : Below w0.heap.size w0 w) (o : Obj) : Below w0.heap.size w0 (w.alloc o) := h.alloc h.size o
theorem far_base {w0 W w1 : World} {v : Value} {xs : List Int} (hN : Below W.heap.size W w1) (hP : Below w0.heap.size w0 W) (hF : Far W.heap.size w1 v xs) : Far w0.heap.size w1 v xs ∧ Below w0.heap.size w0 w1 := ⟨hF.mono hP.size, below_step hP hN⟩
theorem below_set {B g j : Nat} {w w' : World} {u : Value} (h : Below B w w') (hg : B ≤ g) : Below B w (w'.setCell ⟨g, j, none⟩ u) := h.setCell (p := ⟨g, j, none⟩) hg u
theorem Ls.get {w : World} {a : Option Addr} {len cap : Nat} {Xs : List (List Int)} (h : Ls w.heap.size w (.slice a len cap) Xs) {j : Nat} (hj : j < Xs.length) : ∃ b off, a = some ⟨b, off, none⟩ ∧ b < w.heap.size ∧ ∃ u, w.cell? ⟨b, off + j, none⟩ = some u ∧ Sl w.heap.size w u Xs[j] ∧ Formed u := by
  obtain ⟨a', cap', he, h2, h2', h3⟩ := h
  simp only [Value.slice.injEq] at he
  obtain ⟨rfl, _, rfl⟩ := he
  rcases h3 with rfl | ⟨b', off', h4, h5, h6⟩
  · simp at hj
  · exact ⟨b', off', h4, h5, h6 j hj⟩

theorem mine_far {B : Nat} {w : World} {v : Value} {zs : List Int} (h : Mine B w v zs) : Far B w v zs := by
  obtain ⟨hw, ⟨h1, h2⟩ | ⟨g, r, cap, h1, h2, h3, h4, h5, h6⟩⟩ := h
  · subst h1 h2
    exact ⟨hw, .inl rfl, none, 0, rfl, Nat.le_refl _, Nat.zero_le _, .inl rfl⟩
  · exact ⟨hw, .inr ⟨_, _, _, h5⟩, _, cap, h5, h3, h2, .inr ⟨g, r, h1, rfl, h6⟩⟩
/-- Two blocks that a call has made first of all. -/
theorem two_new (w : World) (O R : Obj) {W : World} (hW : W = (w.alloc O).alloc R) : W.heap.size = w.heap.size + 2 ∧ W.heap[w.heap.size]? = some O ∧ W.heap[w.heap.size + 1]? = some R ∧ Below w.heap.size w W := by
  subst hW
  refine ⟨by simp, (Below.heap_alloc (w.alloc O) R w.heap.size (by simp)).trans (heap_alloc_new w O), ?_, ((Below.refl _ _).alloc (Nat.le_refl _) _).alloc (by simp) _⟩
  have := heap_alloc_new (w.alloc O) R
  simpa using this
theorem block_cells {W wr : World} {b g : Nat} {cs : Array Value} {t : TypeId} (h : W.heap[b]? = some (.cells cs t (0, 0))) (hb : Below g W wr) (hg : b < g) (j : Nat) : wr.cell? ⟨b, j, none⟩ = cs[j]? ∧ wr.frozen? ⟨b, j, none⟩ = false := by
  have := (hb.block b hg).trans h
  exact ⟨by simp [World.cell?, this], by simp [World.frozen?, this]⟩

theorem box_set {w' : World} {b i j : Nat} {u x : Value} (h : w'.cell? ⟨b, i, none⟩ = some x) : (w'.setCell ⟨b + 1, j, none⟩ u).cell? ⟨b, i, none⟩ = some x := by
  rw [← h]
  unfold World.cell?
  rw [Below.heap_setCell w' _ u b (fun e => by simp at e)]
theorem copied_back {W : World} {b : Nat} {y0 y1 y2 y3 y4 y5 x0 x1 x2 x3 x4 x5 : Value} (r0 : W.cell? ⟨b, 0, none⟩ = some y0) (r1 : W.cell? ⟨b, 1, none⟩ = some y1) (r2 : W.cell? ⟨b, 2, none⟩ = some y2) (r3 : W.cell? ⟨b, 3, none⟩ = some y3) (r4 : W.cell? ⟨b, 4, none⟩ = some y4) (r5 : W.cell? ⟨b, 5, none⟩ = some y5)
    (tmps : Array Value) (ht : tmps[2]? = some (.pointer (some ⟨b, 0, none⟩))) :
    (results Try.f6 tmps).run Try.prog ((((((W.setCell ⟨b, 0, none⟩ x0).setCell ⟨b, 1, none⟩ x1).setCell ⟨b, 2, none⟩ x2).setCell ⟨b, 3, none⟩ x3).setCell ⟨b, 4, none⟩ x4).setCell ⟨b, 5, none⟩ x5) = .ok (.agg #[x0, x1, x2, x3, x4, x5]) ((((((W.setCell ⟨b, 0, none⟩ x0).setCell ⟨b, 1, none⟩ x1).setCell ⟨b, 2, none⟩ x2).setCell ⟨b, 3, none⟩ x3).setCell ⟨b, 4, none⟩ x4).setCell ⟨b, 5, none⟩ x5) := by
  simp [results, Try.results6, go_sem, ht, r0, r1, r2, r3, r4, r5]
theorem copies_end {w w3 : World} {B q1 q2 q3 : Nat} {a1 a2 a3 : Option Addr} {xs ys zs : List Int} {Xs : List (List Int)} {Vs : List Value} (kind n : Int) {x0 x1 x2 x3 x4 x5 : Value} (h1 : Far B w3 (.slice a1 xs.length q1) xs) (h2 : Far B w3 (.slice a2 ys.length q2) ys) (h3 : Far B w3 (.slice a3 zs.length q3) zs) (hL : LsFar (w.heap.size + 1 + 1) w3 Xs Vs) (hW : Below w.heap.size w w3) (hB : w.heap.size + 1 < B) (ll : Xs.length ≤ 1048576) :
    Copies w kind xs ys zs n Xs (.returned (.agg #[.int .i64 kind, .slice a1 xs.length q1, .slice a2 ys.length q2, .slice a3 zs.length q3, .int .i64 n, .slice (some ⟨w.heap.size + 1 + 1, 0, none⟩) Xs.length Xs.length])) ((((((w3.setCell ⟨w.heap.size + 1, 0, none⟩ x0).setCell ⟨w.heap.size + 1, 1, none⟩ x1).setCell ⟨w.heap.size + 1, 2, none⟩ x2).setCell ⟨w.heap.size + 1, 3, none⟩ x3).setCell ⟨w.heap.size + 1, 4, none⟩ x4).setCell ⟨w.heap.size + 1, 5, none⟩ x5) :=
  ⟨_, _, _, _, rfl, Far.sl ((((((h1.set hB).set hB).set hB).set hB).set hB).set hB), h1.formed, Far.sl ((((((h2.set hB).set hB).set hB).set hB).set hB).set hB), h2.formed, Far.sl ((((((h3.set hB).set hB).set hB).set hB).set hB).set hB), h3.formed,
    LsFar.ls ((((((hL.set (Nat.lt_succ_self _)).set (Nat.lt_succ_self _)).set (Nat.lt_succ_self _)).set (Nat.lt_succ_self _)).set (Nat.lt_succ_self _)).set (Nat.lt_succ_self _)) (by omega), below_set (below_set (below_set (below_set (below_set (below_set hW (Nat.le_succ _)) (Nat.le_succ _)) (Nat.le_succ _)) (Nat.le_succ _)) (Nat.le_succ _)) (Nat.le_succ _)⟩
abbrev opBox (kind : Int) (va vb vc : Value) (n : Int) (vl : Value) : Obj := .cells #[.int .i64 kind, va, vb, vc, .int .i64 n, vl] 25
set_option maxRecDepth 100000 in
set_option maxHeartbeats 12800000 in
theorem copied_any {w : World} {va vb vc vl : Value} {xs ys zs : List Int} {Xs : List (List Int)} (ha : Sl w.heap.size w va xs) (hb : Sl w.heap.size w vb ys) (hc : Sl w.heap.size w vc zs) (hL : Ls w.heap.size w vl Xs) (fa : Formed va) (fb : Formed vb) (fc : Formed vc)
    (la : xs.length ≤ 1048576) (lb : ys.length ≤ 1048576) (lc : zs.length ≤ 1048576) (lt : tot Xs ≤ 1048576) (ll : Xs.length ≤ 1048576) (kind n : Int) :
    Calls Try.prog 6 #[.agg #[.int .i64 kind, va, vb, vc, .int .i64 n, vl]] w (Copies w kind xs ys zs n Xs) := by
  obtain ⟨aa, ca, rfl⟩ : ∃ a c, va = .slice a xs.length c := by obtain ⟨_, a, c, e, _⟩ := ha; exact ⟨a, c, e⟩
  obtain ⟨ab, cb, rfl⟩ : ∃ a c, vb = .slice a ys.length c := by obtain ⟨_, a, c, e, _⟩ := hb; exact ⟨a, c, e⟩
  obtain ⟨ac, cc, rfl⟩ : ∃ a c, vc = .slice a zs.length c := by obtain ⟨_, a, c, e, _⟩ := hc; exact ⟨a, c, e⟩
  obtain ⟨al, cl, rfl⟩ : ∃ a c, vl = .slice a Xs.length c := by obtain ⟨a, c, e, _⟩ := hL; exact ⟨a, c, e⟩
  have HA := hid ha
  have HB := hid hb
  have HC := hid hc
  have HL := hid hL
  have FA := hid fa
  have FB := hid fb
  have FC := hid fc
  clear ha hb hc hL fa fb fc
  go_enter Try.func6, Try.ntmps6
  go_wp2_with (at_make; refine wpList_make_slices _ rfl _ _ rfl _ _ Xs.length rfl rfl rfl rfl (by omega) ?_)
  intro w2 HR HB1 HS
  obtain ⟨W1, hW1⟩ : ∃ W1, W1 = (w.alloc (.cells #[.int .i64 kind, .slice aa xs.length ca, .slice ab ys.length cb, .slice ac zs.length cc, .int .i64 n, .slice al Xs.length cl] 25)).alloc (.cells #[.int .i64 0, .slice none 0 0, .slice none 0 0, .slice none 0 0, .int .i64 0, .slice none 0 0] 25) := ⟨_, rfl⟩
  rw [← hW1] at HB1
  obtain ⟨hs1, hO, hRs, hbW⟩ := two_new w _ _ hW1
  have HO := hid hO
  have HRs := hid hRs
  have HBW := hid hbW
  clear hW1 hO hRs hbW hs1 HS
  have HBX : Hid (∀ wr, Below (w.heap.size + 1 + 1) W1 wr → ∀ j, wr.cell? ⟨w.heap.size, j, none⟩ = (#[.int .i64 kind, .slice aa xs.length ca, .slice ab ys.length cb, .slice ac zs.length cc, .int .i64 n, .slice al Xs.length cl] : Array Value)[j]?) := fun wr h j => (block_cells HO.out h (by omega) j).1
  have HRX : Hid (∀ wr, Below (w.heap.size + 1 + 1) W1 wr → ∀ j, wr.cell? ⟨w.heap.size + 1, j, none⟩ = (#[.int .i64 0, .slice none 0 0, .slice none 0 0, .slice none 0 0, .int .i64 0, .slice none 0 0] : Array Value)[j]? ∧ wr.frozen? ⟨w.heap.size + 1, j, none⟩ = false) := fun wr h j => block_cells HRs.out h (by omega) j
  have HWW : Hid (∀ wr, Below (w.heap.size + 1 + 1) W1 wr → Below w.heap.size w wr) := fun wr h => HBW.out.trans (h.mono (by omega))
  go_wp2_with fail
  go_loopw [4] (fun i wr => ∃ (k : Nat) (Vs : List Value), k ≤ Xs.length ∧ i = .int .i64 k ∧ Hid (Copying W1 wr (w.heap.size + 1 + 1) Xs Vs k)) (fun i _ => Xs.length - (intOf i).toNat)
  case atStart => exact ⟨0, List.replicate Xs.length (.slice none 0 0), Nat.zero_le _, rfl, ⟨HR.out, by simp, HB1.out, fun j _ _ q => absurd q (Nat.not_lt_zero _)⟩⟩
  case round =>
    clear HR HB1
    obtain ⟨k, Vs, hk, rfl, HCP⟩ := hrel
    have o5 := HBX.out wr HCP.out.2.2.1 5
    simp only [List.getElem?_toArray, List.getElem?_cons_succ, List.getElem?_cons_zero] at o5
    have hgl : w.heap.size + 1 + 1 < wr.heap.size := HCP.out.1.lt
    have hbx : w.heap.size < wr.heap.size := by omega
    by_cases hlt : k < Xs.length
    · obtain ⟨b, off, hal, hbw, u, c1, su, fu⟩ := (HL.out.now (HWW.out wr HCP.out.2.2.1)).get hlt
      subst hal
      obtain ⟨ua, uc, rfl⟩ : ∃ a c, u = .slice a Xs[k].length c := by obtain ⟨_, a, c, e, _⟩ := su; exact ⟨a, c, e⟩
      have lu : Xs[k].length ≤ tot Xs := by
        have := tot_halves Xs k
        have e : Xs.drop k = Xs[k] :: Xs.drop (k + 1) := List.drop_eq_getElem_cons hlt
        rw [e, tot] at this
        omega
      have HSU := hid su
      have HFU := hid fu
      have HLU : Hid (Xs[k].length ≤ 17592186044416) := by unfold Hid; omega
      have HST : Hid (∀ w' u', Below wr.heap.size wr w' → Mine wr.heap.size w' u' Xs[k] → Copying W1 (w'.setCell ⟨w.heap.size + 1 + 1, k, none⟩ u') (w.heap.size + 1 + 1) Xs (Vs.set k u') (k + 1)) := fun w' u' h1 h2 =>
        HCP.out.step h1 hlt ((mine_far h2).mono (by omega))
      have hkV : k < Vs.length := by rw [HCP.out.2.1]; exact hlt
      have HCE : Hid (∀ w', Below wr.heap.size wr w' → w'.cell? ⟨w.heap.size + 1 + 1, k, none⟩ = some Vs[k] ∧ w'.frozen? ⟨w.heap.size + 1 + 1, k, none⟩ = false) := fun w' h1 => ⟨(HCP.out.1.now h1).cell hkV, (HCP.out.1.now h1).frozen k⟩
      generalize Xs[k] = xk at *
      clear su fu lu
      go_wp2_with (at_builtin; refine wpList_append_fresh _ rfl (.tmp 18) (.tmp 23) rfl wr.heap.size _ xk rfl (heap_alloc_new wr _) rfl wr.heap.size (HSU.out.alloc (Nat.le_refl _) _) HFU.out HLU.out ?_)
      intro u1 w' hM hB
      have HB1 := hid (((Below.refl wr.heap.size wr).alloc (Nat.le_refl _) (.cells #[] 32)).trans hB)
      obtain ⟨cc1, cf1⟩ := HCE.out w' HB1.out
      have HST2 := hid (HST.out w' u1 HB1.out hM.out)
      obtain ⟨va1, vc1, hu1⟩ := hM.out.form
      subst hu1
      generalize Vs[k] = vk at *
      clear hB hM HST HCE c1 o5
      go_wp2
      go_roundw
      case rel => exact ⟨k + 1, _, by omega, by go_num, HST2⟩
      case measure => first | (simp [intOf]; done) | (simp [intOf]; omega)
    · obtain rfl : k = Xs.length := by omega
      have HLF : Hid (LsFar (w.heap.size + 1 + 1) wr Xs Vs) := ⟨HCP.out.1, HCP.out.2.1, fun j h1 h2 => HCP.out.2.2.2 j h1 h2 h2⟩
      have HBL := hid HCP.out.2.2.1
      have HA3 := hid (HA.out.now (HWW.out wr HBL.out))
      have HB3 := hid (HB.out.now (HWW.out wr HBL.out))
      have HC3 := hid (HC.out.now (HWW.out wr HBL.out))
      have HLA : Hid (xs.length ≤ 17592186044416) := by unfold Hid; omega
      have HLB : Hid (ys.length ≤ 17592186044416) := by unfold Hid; omega
      have HLC : Hid (zs.length ≤ 17592186044416) := by unfold Hid; omega
      have HRZ : Hid (∀ w3, Below wr.heap.size wr w3 → w3.cell? ⟨w.heap.size + 1, 0, none⟩ = some (.int .i64 0) ∧ w3.cell? ⟨w.heap.size + 1, 1, none⟩ = some (.slice none 0 0) ∧ w3.cell? ⟨w.heap.size + 1, 2, none⟩ = some (.slice none 0 0) ∧ w3.cell? ⟨w.heap.size + 1, 3, none⟩ = some (.slice none 0 0) ∧ w3.cell? ⟨w.heap.size + 1, 4, none⟩ = some (.int .i64 0) ∧ w3.cell? ⟨w.heap.size + 1, 5, none⟩ = some (.slice none 0 0) ∧
          w3.frozen? ⟨w.heap.size + 1, 0, none⟩ = false ∧ w3.frozen? ⟨w.heap.size + 1, 1, none⟩ = false ∧ w3.frozen? ⟨w.heap.size + 1, 2, none⟩ = false ∧ w3.frozen? ⟨w.heap.size + 1, 3, none⟩ = false ∧ w3.frozen? ⟨w.heap.size + 1, 4, none⟩ = false ∧ w3.frozen? ⟨w.heap.size + 1, 5, none⟩ = false) := fun w3 h => by
        have q := HRX.out w3 (HBL.out.trans (h.mono (by omega)))
        exact ⟨(q 0).1, (q 1).1, (q 2).1, (q 3).1, (q 4).1, (q 5).1, (q 0).2, (q 1).2, (q 2).2, (q 3).2, (q 4).2, (q 5).2⟩
      have HKB : Hid (∀ w3, Below wr.heap.size wr w3 → w3.cell? ⟨w.heap.size, 0, none⟩ = some (.int .i64 kind) ∧ w3.cell? ⟨w.heap.size, 1, none⟩ = some (.slice aa xs.length ca) ∧ w3.cell? ⟨w.heap.size, 2, none⟩ = some (.slice ab ys.length cb) ∧ w3.cell? ⟨w.heap.size, 3, none⟩ = some (.slice ac zs.length cc) ∧ w3.cell? ⟨w.heap.size, 4, none⟩ = some (.int .i64 n)) := fun w3 h => by
        have q := HBX.out w3 (HBL.out.trans (h.mono (by omega)))
        exact ⟨q 0, q 1, q 2, q 3, q 4⟩
      have c0 := HBX.out wr HBL.out 0
      have c1 := HBX.out wr HBL.out 1
      have c2 := HBX.out wr HBL.out 2
      have c3 := HBX.out wr HBL.out 3
      have c4 := HBX.out wr HBL.out 4
      simp only [List.getElem?_toArray, List.getElem?_cons_succ, List.getElem?_cons_zero] at c0 c1 c2 c3 c4
      have hne1 : w.heap.size + 1 ≠ w.heap.size := by omega
      clear HCP HBX HRX HA HB HC HL HO HRs HBW
      go_wp2_with fail
      go_region_held3 (fun w' => w'.cell? ⟨w.heap.size, 0, none⟩ = some (.int .i64 kind) ∧ w'.cell? ⟨w.heap.size, 1, none⟩ = some (.slice aa xs.length ca) ∧ w'.cell? ⟨w.heap.size, 2, none⟩ = some (.slice ab ys.length cb) ∧ w'.cell? ⟨w.heap.size, 3, none⟩ = some (.slice ac zs.length cc) ∧ w'.cell? ⟨w.heap.size, 4, none⟩ = some (.int .i64 n))
        (first
          | ((try dsimp only); refine ⟨?_, ?_, ?_, ?_, ?_⟩ <;> with_reducible (repeat (refine box_set ?_)) <;> with_reducible assumption)
          | (refine HKB.out _ ?_; repeat (first | with_reducible exact HP3.out | with_reducible exact HP2.out | with_reducible exact HP1.out | with_reducible exact Below.refl _ _ | with_reducible apply Below.drew | with_reducible apply keep_alloc)))
        (first
          | (refine step_append_empty (by rfl) (.tmp 30) (.tmp 32) (by rfl) _ _ xs (by rfl) (by rfl) (HA3.out.now (by repeat (first | exact Below.refl _ _ | apply Below.drew | apply keep_alloc))) FA.out HLA.out ?_; intro v1 w1 hF1 hN1; obtain ⟨hG1, hB1⟩ := far_base (w0 := wr) hN1.out (by repeat (first | exact Below.refl _ _ | apply Below.drew | apply keep_alloc)) hF1.out; obtain ⟨k0, k1, k2, k3, k4⟩ := HKB.out w1 hB1; have HB4 := hid (HB3.out.now hB1); have HC4 := hid (HC3.out.now hB1); have HG1 := hid hG1; have HP1 := hid hB1; obtain ⟨a1, q1, hv1⟩ := HG1.out.form; subst hv1; clear hG1 hB1 hF1 hN1)
          | (refine step_append_empty (by rfl) (.tmp 34) (.tmp 36) (by rfl) _ _ ys (by rfl) (by rfl) (HB4.out.now (by repeat (first | exact Below.refl _ _ | apply Below.drew | apply keep_alloc))) FB.out HLB.out ?_; intro v2 w2 hF2 hN2; obtain ⟨hG2, hB2⟩ := far_base (w0 := w1) hN2.out (by repeat (first | exact Below.refl _ _ | apply Below.drew | apply keep_alloc)) hF2.out; have HP2 := hid (below_step HP1.out hB2); obtain ⟨l0, l1, l2, l3, l4⟩ := HKB.out w2 HP2.out; have HC5 := hid (HC4.out.now hB2); have HG2 := hid (hG2.mono HP1.out.size); have HG12 := hid (HG1.out.now hB2); obtain ⟨a2, q2, hv2⟩ := HG2.out.form; subst hv2; clear hG2 hB2 hF2 hN2)
          | (refine step_append_empty (by rfl) (.tmp 38) (.tmp 40) (by rfl) _ _ zs (by rfl) (by rfl) (HC5.out.now (by repeat (first | exact Below.refl _ _ | apply Below.drew | apply keep_alloc))) FC.out HLC.out ?_; intro v3 w3 hF3 hN3; obtain ⟨hG3, hB3⟩ := far_base (w0 := w2) hN3.out (by repeat (first | exact Below.refl _ _ | apply Below.drew | apply keep_alloc)) hF3.out; have HP3 := hid (below_step HP2.out hB3); obtain ⟨m0, m1, m2, m3, m4⟩ := HKB.out w3 HP3.out; have HG3 := hid (hG3.mono HP2.out.size); have HG23 := hid (HG2.out.now hB3); have HG13 := hid (HG12.out.now hB3); obtain ⟨r0, r1, r2, r3, r4, r5, f0, f1, f2, f3, f4, f5⟩ := HRZ.out w3 HP3.out; obtain ⟨a3, q3, hv3⟩ := HG3.out.form; subst hv3; clear hG3 hB3 hF3 hN3))
      all_goals go_wp2
      all_goals exact bodyPost_ret (copied_back r0 r1 r2 r3 r4 r5 _ (by rfl)) rfl (copies_end kind n HG13.out HG23.out HG3.out (HLF.out.now HP3.out) (below_step (HWW.out wr HBL.out) HP3.out) (by omega) ll)
theorem copiedOk : CopiedOk := fun w d h => copied_any h.sa h.sb h.sc h.sl h.fa h.fb h.fc h.la h.lb h.lc h.lt h.ll d.kind d.n
end Go.Proofs.Ytnbjlpeclaieeaa
