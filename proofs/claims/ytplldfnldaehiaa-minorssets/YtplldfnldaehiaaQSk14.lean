/-
  Sk14: what MinorsSets holds in memory between rounds: the choices that are kept too.
-/
import Derived.Test.YtplldfnldaehiaaQSj14
namespace Go.Proofs.Ytplldfnldaehiaa
open Go.RowKit Go.Shelf
set_option linter.unusedVariables false
attribute [local go_sem] Oper.semAt_some

theorem sets1_inK {S : Nat → Prop} {l nn bn bk : Nat} {n k : Int} {W : World} (hnn : 1 ≤ nn) (J : Nat × Nat → World → Prop)
    (hcn : W.cell? ⟨bn, 0, none⟩ = some (.int .i64 n)) (hck : W.cell? ⟨bk, 0, none⟩ = some (.int .i64 k)) (hSn : ¬ S bn) (hSk : ¬ S bk)
    (hJb : ∀ s A B, J s A → Below A.heap.size A B → J s B) (hJs : ∀ s A B gs, J s A → W.heap.size ≤ gs → (0 < s.2 ∧ gs < s.1 ∧ ∃ L, A.heap[gs]? = some (.cells L 3 (0, 0))) → Touch (· = gs) A B → J s B) (h0 : ∀ B, W.heap.size ≤ B → J (B, 0) W) (hSB : ∀ b, S b → b < W.heap.size)
    (Jx : World → Prop) (hY : ∀ s x X, J s X → AtI n k s x X → (∃ X0, J s X0 ∧ Below X0.heap.size X0 X ∧ Ivs X0.heap.size X x ((stsI n k).getD s.2 [])) → YieldAt Fence.wide (nn - 1) Try.prog l #[x] X fun e Y => (e = .returned (.bool true) ∧ J (s.1, s.2 + 1) Y ∧ KpL S s.1 X Y) ∨ (e = .returned (.bool false) ∧ Jx Y)) :
    CallsIn Fence.wide nn Try.prog 16 #[.func (.yield l) #[] #[], .pointer (some ⟨bn, 0, none⟩), .pointer (some ⟨bk, 0, none⟩)] W fun e Y => (∃ v, e = .returned v) ∧ ((∃ s, s.2 = (stsI n k).length ∧ J s Y) ∨ Jx Y) := by
  by_cases q : 0 ≤ k ∧ k ≤ n ∧ n ≤ 64
  · obtain ⟨n', hn'⟩ : ∃ n' : Nat, n = (n' : Int) := ⟨n.toNat, by omega⟩
    obtain ⟨k', hk'⟩ : ∃ k' : Nat, k = (k' : Int) := ⟨k.toNat, by omega⟩
    subst hn' hk'
    have hn : n' ≤ 64 := by omega
    have hk : k' ≤ n' := by omega
    have es := stsI_nat hn hk
    unfold AtI at hY
    rw [es] at hY ⊢
    exact sets1_inF hnn hn hk J hcn hck hSn hSk hJb hJs h0 hSB Jx hY
  · have hq : 64 < n ∨ k < 0 ∨ n < k := by omega
    refine (sets1_none (nn := nn) (l := l) hq hcn hck).mono fun e Y h => ⟨h.1, .inl ⟨(W.heap.size, 0), ?_, ?_⟩⟩
    · rw [stsI_none hq]; rfl
    · rw [h.2]; exact h0 _ (Nat.le_refl _)
/-- The choices that are kept: the first m, each in a row of its own, in blocks below T. -/
def GotV (n k : Int) (B T : Nat) (W : World) (gv : Value) (m : Nat) (vs : List Value) : Prop :=
  W.ownsRow B 29 1 gv m vs ∧ vs.length = m ∧ (∀ (j : Nat) (u : Value), vs[j]? = some u → Ivs B W u ((stsI n k).getD j []) ∧ ∀ b, u.ownBlock = some b → b < T) ∧ (∀ (i j : Nat) (u v : Value) (b : Nat), i ≠ j → vs[i]? = some u → vs[j]? = some v → u.ownBlock = some b → v.ownBlock ≠ some b)
section
variable {n k : Int} {B T m : Nat} {W W' : World} {gv : Value} {vs : List Value}
theorem GotV.blk (h : GotV n k B T W gv m vs) {b : Nat} (hb : gv.ownBlock = some b) : B ≤ b ∧ ∃ L, W.heap[b]? = some (.cells L 29 (0, 0)) := by
  obtain ⟨⟨_, ⟨r2, _⟩ | ⟨g2, cap, cur, r2, r3, r4, r5⟩⟩, -, -, -⟩ := h
  · rw [r2] at hb; cases hb
  · rw [r2] at hb
    simp only [Value.ownBlock, Option.some.injEq] at hb
    subst hb
    exact ⟨r3, cur, r4⟩
theorem GotV.form (h : GotV n k B T W gv m vs) : ∃ a cap, gv = .slice a m cap ∧ m ≤ cap ∧ (0 < m → ∃ g, a = some ⟨g, 0, none⟩) := by
  obtain ⟨⟨q1, ⟨q2, q3⟩ | ⟨g, cap, cur, q2, q3, q4, q5, q6⟩⟩, -, -, -⟩ := h
  · exact ⟨none, 0, by rw [q2, q3], by omega, fun q => by omega⟩
  · exact ⟨_, cap, q2, by omega, fun _ => ⟨g, rfl⟩⟩
/-- Stays, if its row and the ints from B on stay. -/
theorem GotV.keep (h : GotV n k B T W gv m vs) (h1 : ∀ (b : Nat) (L : Array Value), gv.ownBlock = some b → W.heap[b]? = some (.cells L 29 (0, 0)) → W'.heap[b]? = some (.cells L 29 (0, 0)))
    (h2 : ∀ (b : Nat) (L : Array Value), B ≤ b → W.heap[b]? = some (.cells L 3 (0, 0)) → W'.heap[b]? = some (.cells L 3 (0, 0))) : GotV n k B T W' gv m vs := by
  have h0 := h
  obtain ⟨k1, k2, k3, k4⟩ := h
  refine ⟨owns_keep k1 fun b hb hlt => ?_, k2, fun j u hu => ⟨(k3 j u hu).1.keep fun b L hb e => h2 b L ((k3 j u hu).1.blk hb).1 e, (k3 j u hu).2⟩, k4⟩
  obtain ⟨_, L, e⟩ := h0.blk hb
  rw [e]; exact h1 b L hb e
theorem GotV.kc (h : GotV n k B T W gv m vs) (hk : Kc W W') : GotV n k B T W' gv m vs := h.keep (fun b L _ e => hk.2 b _ e rfl) (fun b L _ e => hk.2 b _ e rfl)
theorem GotV.at {g l cap : Nat} (h : GotV n k B T W (.slice (some ⟨g, 0, none⟩) l cap) m vs) {i : Nat} (hi : i < m) : ∃ u, vs[i]? = some u ∧ W.cell? ⟨g, i, none⟩ = some u ∧ Ivs B W u ((stsI n k).getD i []) := by
  obtain ⟨h1, h2, h3, h4⟩ := h
  have hv : i < vs.length := by omega
  have h0 := h1
  obtain ⟨q1, ⟨q2, q3⟩ | ⟨g', cap', cur, q2, q3, q4, q5, q6⟩⟩ := h1
  · cases q2
  · simp only [Value.slice.injEq, Option.some.injEq, Addr.mk.injEq, and_true] at q2
    obtain ⟨rfl, rfl, rfl⟩ := q2
    have hu : vs[i]? = some vs[i] := List.getElem?_eq_getElem hv
    refine ⟨vs[i], hu, ?_, (h3 i _ hu).1⟩
    rw [h0.cellAt i (by omega)]
    exact hu
theorem GotV.nil14 : GotV n k B T W (.slice none 0 0) 0 [] := ⟨World.ownsRow_nil _ _ _ _, rfl, fun j u h => by simp at h, fun i j u v b _ h => by simp at h⟩
end
/-- One more. -/
theorem wpList_append_got (w : World) {ops : Array Oper} {rest : List Oper} {o : Oper} {a : Act} {Q : Exit → Act → World → Prop}
    (hgd : o.guard = none) (s x : Operand) (hop : o.op = .call { callee := .builtin .append, args := #[s, x], argTypes := #[27, 27] })
    (n k : Int) (B T : Nat) (v : Value) (m : Nat) (vs : List Value) (u : Value) (hs : a.eval s = v) (hP : GotV n k B T w v m vs) (hu : Ivs B w u ((stsI n k).getD m [])) (hf : ∀ b, u.ownBlock = some b → T ≤ b) (gx : Nat) (hx : a.eval x = .slice (some ⟨gx, 0, none⟩) 1 1) (hc : w.cell? ⟨gx, 0, none⟩ = some u) (hlen : m ≤ 1000000) (hBs : B ≤ w.heap.size) (hT : T ≤ w.heap.size)
    (hK : ∀ g' cap' w', Hid (GotV n k B w.heap.size w' (.slice (some ⟨g', 0, none⟩) (m + 1) cap') (m + 1) (vs ++ [u])) → Hid (w.grownBy w' v.ownBlock) → Hid (v.ownBlock = some g' ∨ g' = w.heap.size) → wpList Try.prog ops Q rest (a.put o.dst (.slice (some ⟨g', 0, none⟩) (m + 1) cap')) w') :
    wpList Try.prog ops Q (o :: rest) a w := by
  obtain ⟨i, hi, hz, hsz, hby⟩ := info_parts Try.infoLI14
  have hPP := hP
  obtain ⟨p1, p2, p3, p4⟩ := hP
  obtain ⟨ua, uc, hue, -, -⟩ := hu.form
  have ult : ∀ b, u.ownBlock = some b → b < w.heap.size := fun b hb => (Array.getElem?_eq_some_iff.1 (hu.blk hb).2.choose_spec).1
  refine wpList_append_lies w hgd s x 27 hop B 29 i (.slice none 0 0) 1 24 Try.underlying27 hi hz hsz hby rfl (by omega) v m _ hs p1 ⟨gx, 0, none⟩ 1 1 [u] hx rfl ?_ ?_ (by omega) (by unfold maxLen; omega) (by omega) hBs w.heap.size rfl ?_
  · intro j u' hj
    match j, hj with
    | 0, hj => simp at hj; subst hj; rw [head_add13]; exact hc
  · intro u' hu'
    simp at hu'
    subst hu'
    rw [hue]
    rfl
  · intro g' cap' w' k1 k2 k3 k4
    have tg : Ty 29 w w' := ⟨k2.size, fun b L T fr e hne => (k2.block b (Array.getElem?_eq_some_iff.1 e).1 (fun q => by
      obtain ⟨_, L', e'⟩ := hPP.blk q.symm
      rw [e', Option.some.injEq, Obj.cells.injEq] at e
      exact hne e.2.1.symm)).trans e⟩
    have hget : ∀ (j : Nat) (z : Value), (vs ++ [u])[j]? = some z → (j < m ∧ vs[j]? = some z) ∨ (j = m ∧ z = u) := fun j z hz => by
      by_cases q : j < vs.length
      · rw [List.getElem?_append_left q] at hz
        exact .inl ⟨by omega, hz⟩
      · have := (List.getElem?_eq_some_iff.1 hz).1
        simp at this
        have hj : j = vs.length := by omega
        subst hj
        rw [List.getElem?_append_right (Nat.le_refl _), Nat.sub_self] at hz
        simp at hz
        exact .inr ⟨p2, hz.symm⟩
    refine hK _ _ w' ⟨k1, by simp [p2], fun j z hz => ?_, fun i' j' y z b hne hy hz hb => ?_⟩ k2 k3
    · rcases hget j z hz with ⟨_, q⟩ | ⟨rfl, rfl⟩
      · exact ⟨(p3 j z q).1.keep fun b L _ e => tg.2 b _ _ _ e (by decide), fun b hb => Nat.lt_of_lt_of_le ((p3 j z q).2 b hb) hT⟩
      · exact ⟨hu.keep fun b L _ e => tg.2 b _ _ _ e (by decide), ult⟩
    · rcases hget i' y hy with ⟨_, q⟩ | ⟨e1, rfl⟩
      · rcases hget j' z hz with ⟨_, r⟩ | ⟨e2, rfl⟩
        · exact p4 i' j' y z b hne q r hb
        · intro hb2
          have h1 := (p3 i' y q).2 b hb
          have h2 := hf b hb2
          omega
      · rcases hget j' z hz with ⟨_, r⟩ | ⟨e2, rfl⟩
        · intro hb2
          have h1 := (p3 j' z r).2 b hb2
          have h2 := hf b hb
          omega
        · omega
/-- The first list of wv does not lie in the box bI. -/
def NeI (W : World) (wv : Value) (bI : Nat) : Prop := ∀ (g l c : Nat) (u : Value) (b : Nat), wv = .slice (some ⟨g, 0, none⟩) (l + 1) c → W.cell? ⟨g, 0, none⟩ = some u → u.ownBlock = some b → b ≠ bI
theorem LLs.neI {E bI : Nat} {W : World} {wv : Value} {ls : List (List Nat)} (h : LLs 0 E W wv ls) (hE : bI < E) : NeI W wv bI := fun g l c u b hv hc hb => by
  subst hv
  obtain ⟨a, cap, e, -, -⟩ := h.form
  simp only [Value.slice.injEq] at e
  have hl : 0 < ls.length := by omega
  obtain ⟨u', k1, k2⟩ := h.at (i := 0) (l := ls[0]) (List.getElem?_eq_getElem hl)
  rw [hc, Option.some.injEq] at k1
  subst k1
  have := (k2.blk hb).1
  omega
theorem LLs.neI2 {E F bI : Nat} {W W0 : World} {wv : Value} {ls : List (List Nat)} (h : LLs F E W0 wv ls) (hb0 : Below W0.heap.size W0 W) (hI : W0.heap.size ≤ bI) : NeI W wv bI := fun g l c u b hv hc hb => by
  subst hv
  obtain ⟨a, cap, e, -, -⟩ := h.form
  simp only [Value.slice.injEq] at e
  have hl : 0 < ls.length := by omega
  obtain ⟨u', k1, k2⟩ := h.at (i := 0) (l := ls[0]) (List.getElem?_eq_getElem hl)
  have hg : g < W0.heap.size := (Array.getElem?_eq_some_iff.1 (h.blk (b := g) rfl).2.choose_spec).1
  have h2 := (hb0.cell (p := ⟨g, 0, none⟩) hg).trans k1
  rw [hc, Option.some.injEq] at h2
  subst h2
  have := (Array.getElem?_eq_some_iff.1 (k2.blk hb).2.choose_spec).1
  omega
theorem NeI.keep {E bI : Nat} {W W' : World} {wv : Value} {ls : List (List Nat)} (h : NeI W wv bI) (hl : LLs 0 E W wv ls) (hk : ∀ (b : Nat) (L : Array Value), wv.ownBlock = some b → W.heap[b]? = some (.cells L 29 (0, 0)) → W'.heap[b]? = some (.cells L 29 (0, 0))) : NeI W' wv bI := fun g l c u b hv hc hb => by
  subst hv
  obtain ⟨_, L, e⟩ := hl.blk (b := g) rfl
  have e2 : W'.heap[g]? = W.heap[g]? := (hk g L rfl e).trans e.symm
  exact h g l c u b rfl ((World.cell?_of_block (a := ⟨g, 0, none⟩) e2).symm.trans hc) hb
def MsS (bW bG bI bR : Nat) (g0 : Option Nat) : Nat → Prop := fun b => b = bW ∨ b = bG ∨ b = bI ∨ b = bR ∨ g0 = some b
/-- Between two rounds. -/
structure MsJ (w0 wi : World) (bW bG bI bR : Nat) (g0 : Option Nat) (n k : Int) (M : Nat) (s : Nat × Nat) (W : World) : Prop where
  tb : s.2 ≤ M
  le : wi.heap.size ≤ s.1
  tN : s.2 ≤ (stsI n k).length
  kp : KpL (MsS bW bG bI bR g0) wi.heap.size wi W
  i : Cel W bI 3 [.int .i64 (s.2 : Int)]
  r : Cel W bR 4 [.bool false]
  wt : ∃ wv gv T vs, Cel W bW 27 [wv] ∧ LLs 0 (if s.2 = 0 then 0 else s.1) W wv (wantL n k s.2) ∧ (∀ b, wv.ownBlock = some b → g0 = some b ∨ s.1 ≤ b) ∧ Cel W bG 27 [gv] ∧ GotV n k s.1 T W gv (min s.2 400) vs ∧ T ≤ W.heap.size ∧ (∀ b, wv.ownBlock = some b → gv.ownBlock ≠ some b) ∧ NeI W wv bI
  bw : Below w0.heap.size w0 W
theorem Kc.trans14 {X Y Z : World} (h : Kc X Y) (h' : Kc Y Z) : Kc X Z := ⟨Nat.le_trans h.1 h'.1, fun b o e q => h'.2 b o (h.2 b o e q) q⟩
section
variable {w0 wi : World} {bW bG bI bR M : Nat} {g0 : Option Nat} {n k : Int}
theorem MsJ.tight {M' : Nat} {s : Nat × Nat} {W : World} (h : MsJ w0 wi bW bG bI bR g0 n k M s W) (h1 : s.2 ≤ M') : MsJ w0 wi bW bG bI bR g0 n k M' s W := ⟨h1, h.le, h.tN, h.kp, h.i, h.r, h.wt, h.bw⟩
theorem MsJ.own (h0 : w0.heap.size ≤ wi.heap.size) : OwnFrom wi.heap.size (MsJ w0 wi bW bG bI bR g0 n k M) := fun s W W' row hs hg hr => by
  have hk := kc_grown hg fun r e => (hr r e).2
  obtain ⟨wv, gv, T, vs, q1, q2, q3, q4, q5, q6, q7, q8⟩ := hs.wt
  exact ⟨hs.tb, hs.le, hs.tN, hs.kp.kc14 hk, hk.cel hs.i, hk.cel hs.r, ⟨wv, gv, T, vs, hk.cel q1, q2.kc hk, q3, hk.cel q4, q5.kc hk, Nat.le_trans q6 hk.1, q7, q8.keep q2 (fun b L _ e => hk.2 b _ e rfl)⟩, hs.bw.grown hg hs.bw.size (fun k e => Nat.le_trans h0 (hr k e).1)⟩
/-- What is known of a choice that is handed out: it lies in memory made since the rounds before. -/
def AtM (w0 wi : World) (bW bG bI bR M : Nat) (g0 : Option Nat) (n k : Int) (s : Nat × Nat) (x : Value) (X : World) : Prop := AtI n k s x X ∧ ∃ X0, MsJ w0 wi bW bG bI bR g0 n k M s X0 ∧ Kc X0 X ∧ Ivs X0.heap.size X x ((stsI n k).getD s.2 [])
theorem AtM.own {B : Nat} (s : Nat × Nat) (x : Value) : OwnFrom B (fun (_ : Unit) W => AtM w0 wi bW bG bI bR M g0 n k s x W) := fun _ W W' row hs hg hr => by
  have hk := kc_grown hg fun r e => (hr r e).2
  obtain ⟨h1, X0, h2, h3, h4⟩ := hs
  exact ⟨AtI.own (B := B) s x () W W' row h1 hg hr, X0, h2, h3.trans14 hk, h4.kc14 hk⟩
theorem MsJ.tou {s : Nat × Nat} {A Z : World} (h : MsJ w0 wi bW bG bI bR g0 n k M s A) (h0 : w0.heap.size ≤ wi.heap.size) (hb : bW < wi.heap.size ∧ bG < wi.heap.size ∧ bI < wi.heap.size ∧ bR < wi.heap.size) {gs : Nat} (hg : wi.heap.size ≤ gs) (h1 : 0 < s.2) (h2 : gs < s.1) {L : Array Value} (hL : A.heap[gs]? = some (.cells L 3 (0, 0))) (ht : Touch (· = gs) A Z) : MsJ w0 wi bW bG bI bR g0 n k M s Z := by
  have hty := ht.tyg hL
  obtain ⟨wv, gv, T, vs, q1, q2, q3, q4, q5, q6, q7, q8⟩ := h.wt
  have key : ∀ (b : Nat) (o : Obj), b ≠ gs → A.heap[b]? = some o → Z.heap[b]? = some o := fun b o hne e => (ht.block b (Array.getElem?_eq_some_iff.1 e).1 hne).trans e
  refine ⟨h.tb, h.le, h.tN, ⟨Nat.le_trans h.kp.1 ht.size, fun b o hb1 hb2 e q => key b o (by omega) (h.kp.2 b o hb1 hb2 e q)⟩, key _ _ (by omega) h.i, key _ _ (by omega) h.r, ⟨wv, gv, T, vs, key _ _ (by omega) q1, ?_, q3, key _ _ (by omega) q4, q5.keep (fun b L' _ e => hty.2 b _ _ _ e (by decide)) (fun b L' hbE e => key b _ (by omega) e), Nat.le_trans q6 ht.size, q7, q8.keep q2 (fun b L' _ e => hty.2 b _ _ _ e (by decide))⟩, ?_⟩
  · rw [if_neg (by omega)] at q2 ⊢
    exact q2.keep (fun b L' _ e => hty.2 b _ _ _ e (by decide)) (fun b L' hbE e => key b _ (by omega) e)
  · exact h.bw.trans ⟨ht.os, ht.tape, ht.output, ht.size, fun c hc => ht.block c (Nat.lt_of_lt_of_le hc h.bw.size) (by omega)⟩
/-- A round's end. -/
theorem MsJ.round {B t T' : Nat} {W U : World} {C : Nat → Prop} {wv' gv' : Value} {vs' : List Value} (hj : MsJ w0 wi bW bG bI bR g0 n k M (B, t) W) (ht : t < (stsI n k).length) (T : Touch C W U) (hC : ∀ b, C b → (b = bW ∨ b = bG ∨ b = bI ∨ g0 = some b ∨ B ≤ b) ∧ (∀ o, W.heap[b]? = some o → o.isCells = true))
    (hne : bR ≠ bW ∧ bR ≠ bG ∧ bR ≠ bI ∧ g0 ≠ some bR ∧ bR < wi.heap.size) (hbI : bI < wi.heap.size) (h0 : ∀ b, (b = bW ∨ b = bG ∨ b = bI ∨ g0 = some b) → w0.heap.size ≤ b) (h0' : w0.heap.size ≤ wi.heap.size) (ci : Cel U bI 3 [.int .i64 ((t + 1 : Nat) : Int)]) (cw : Cel U bW 27 [wv']) (ll : LLs 0 B U wv' (wantL n k (t + 1))) (hb : ∀ b, wv'.ownBlock = some b → g0 = some b ∨ B ≤ b)
    (cg : Cel U bG 27 [gv']) (gt : GotV n k B T' U gv' (min (t + 1) 400) vs') (hT : T' ≤ U.heap.size) (hap : ∀ b, wv'.ownBlock = some b → gv'.ownBlock ≠ some b) :
    KeepsFrom wi.heap.size W U ∧ MsJ w0 wi bW bG bI bR g0 n k (M + 1) (B, t + 1) U ∧ KpL (MsS bW bG bI bR g0) B W U := by
  have hle : wi.heap.size ≤ B := hj.le
  have hcs : ∀ b, C b → MsS bW bG bI bR g0 b ∨ B ≤ b := fun b hb => by
    rcases (hC b hb).1 with q | q | q | q | q
    · exact .inl (.inl q)
    · exact .inl (.inr (.inl q))
    · exact .inl (.inr (.inr (.inl q)))
    · exact .inl (.inr (.inr (.inr (.inr q))))
    · exact .inr q
  refine ⟨keepsFrom_touch T fun b hb => (hC b hb).2, ⟨Nat.succ_le_succ hj.tb, hj.le, ht, hj.kp.trans (kpl_touch T fun b hb => (hcs b hb).imp_right fun q => Nat.le_trans hle q), ci, hj.r.tch T fun q => ?_, ⟨wv', gv', T', vs', cw, by rw [if_neg (Nat.succ_ne_zero t)]; exact ll, hb, cg, gt, hT, hap, ll.neI (by omega)⟩, below_touch hj.bw hj.bw.size T fun b hb => ?_⟩, kpl_touch T hcs⟩
  · rcases (hC bR q).1 with q | q | q | q | q
    · exact hne.1 q
    · exact hne.2.1 q
    · exact hne.2.2.1 q
    · exact hne.2.2.2.1 q
    · have := hne.2.2.2.2; omega
  · rcases (hC b hb).1 with q | q | q | q | q
    · exact h0 b (.inl q)
    · exact h0 b (.inr (.inl q))
    · exact h0 b (.inr (.inr (.inl q)))
    · exact h0 b (.inr (.inr (.inr q)))
    · omega
end
/-- One way on behind the first of two pieces of code. -/
theorem seq_mid14 {P : Program} {F : Fence} {n : Nat} {c1 c2 : Code} {Q : Exit → Act → World → Prop} {a : Act} {w : World} (M : Act → World → Prop) (h : c1.wpIn F n P (Exit.then M Q) a w) (h2 : ∀ a' W, M a' W → c2.wpIn F n P Q a' W) : (c1.seq c2).wpIn F n P Q a w :=
  wpIn_seq_k fun K hK => wpIn_mono h fun e a' W hq => by
    cases e with
    | normal => exact hK a' W (h2 a' W hq)
    | exit id => exact hq
    | goto t => exact hq
    | ret => exact hq
    | panic ch => exact hq
    | outgrown => exact hq
/-- The lists of the law's own loop. -/
def FlH (W : World) (n k : Int) (m gk : Nat) (s13 s14 : Value) (wx : World) : Prop := ∃ i : Nat, s14 = .int .i64 (i : Int) ∧ i ≤ m ∧ gk = m - i ∧ LLs W.heap.size W.heap.size wx s13 (wantL n k i) ∧ Below W.heap.size W wx
/-- The book while it is filled. -/
def NmH (X6 : World) (bb m : Nat) (vs : List Value) (gk : Nat) (s17 : Value) (wz : World) : Prop := ∃ (i : Nat) (na : Option Addr) (nl nc : Nat), s17 = .int .i64 (i : Int) ∧ i ≤ m ∧ gk = m - i ∧ Cel wz bb 36 [.slice none 0 0, .slice none 0 0, .slice na nl nc] ∧ wz.ownsRow X6.heap.size 29 1 (.slice na nl nc) i (vs.take i) ∧ Below X6.heap.size X6 wz
end Go.Proofs.Ytplldfnldaehiaa
