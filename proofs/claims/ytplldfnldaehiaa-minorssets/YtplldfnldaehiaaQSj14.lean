/-
  Sj14: the choices for whatever numbers; what the laws on Sets hold in memory between rounds.
-/
import Derived.Test.YtplldfnldaehiaaQSm14
import Derived.Test.YtplldfnldaehiaaQBw14ToCg14
namespace Go.Proofs.Ytplldfnldaehiaa
open Go.RowKit Go.Shelf
set_option linter.unusedVariables false
attribute [local go_sem] Oper.semAt_some

/-- The choices, none where there are none. -/
def stsI (n k : Int) : List (List Nat) := if 0 ≤ k ∧ k ≤ n ∧ n ≤ 64 then sts14 n.toNat k.toNat else []
theorem stsI_nat {n k : Nat} (hn : n ≤ 64) (hk : k ≤ n) : stsI (n : Int) (k : Int) = sts14 n k := by
  unfold stsI
  rw [if_pos ⟨by omega, by omega, by omega⟩]
  simp
theorem stsI_none {n k : Int} (h : 64 < n ∨ k < 0 ∨ n < k) : stsI n k = [] := if_neg (by omega)
theorem stsI_ok {n k : Int} {t : Nat} (h : t < (stsI n k).length) : ∃ n' k' : Nat, n = (n' : Int) ∧ k = (k' : Int) ∧ n' ≤ 64 ∧ k' ≤ n' := by
  by_cases q : 0 ≤ k ∧ k ≤ n ∧ n ≤ 64
  · exact ⟨n.toNat, k.toNat, by omega, by omega, by omega, by omega⟩
  · unfold stsI at h; rw [if_neg q] at h; simp at h
def SettedI (w : World) (n k : Int) (e : Ending) (w' : World) : Prop :=
  ∃ bn bk, e = .returned (.func (.func 16) #[] #[.pointer (some ⟨bn, 0, none⟩), .pointer (some ⟨bk, 0, none⟩)]) ∧ Cel w' bn 3 [.int .i64 n] ∧ Cel w' bk 3 [.int .i64 k] ∧ w.heap.size ≤ bn ∧ w.heap.size ≤ bk ∧ Below w.heap.size w w'
theorem setsI_any {w : World} {n k : Int} : Calls Try.prog 7 #[.int .i64 n, .int .i64 k] w (SettedI w n k) := by
  have b0 := (alloc2 w (.cells #[.int .i64 n] 3) (.cells #[.int .i64 k] 3)).1
  have FIN : Hid (SettedI w n k (.returned (.func (.func 16) #[] #[.pointer (some ⟨w.heap.size, 0, none⟩), .pointer (some ⟨w.heap.size + 1, 0, none⟩)])) ((w.alloc (.cells #[.int .i64 n] 3)).alloc (.cells #[.int .i64 k] 3))) := by
    refine ⟨_, _, rfl, (Cel.new w 3 [.int .i64 n]).step ((Below.refl _ _).alloc (Nat.le_refl _) _), ?_, Nat.le_refl _, by omega, b0⟩
    have := Cel.new (w.alloc (.cells #[.int .i64 n] 3)) 3 [.int .i64 k]
    simpa using this
  clear b0
  go_enter Try.func7, Try.ntmps7
  go_wp2
  go_ret
  exact FIN.out
/-- What is known of a choice that is handed out. -/
def AtI (n k : Int) (s : Nat × Nat) (x : Value) (X : World) : Prop := s.2 < (stsI n k).length ∧ s.1 ≤ X.heap.size ∧ Ivs s.1 X x ((stsI n k).getD s.2 [])
theorem someI_any {w : World} {n k : Int} {m : Nat} (hm : 1 ≤ m) (hm2 : m ≤ 1000000) :
    Calls Try.prog 8 #[.int .i64 n, .int .i64 k, .int .i64 (m : Int)] w fun e w' => ∃ v, e = .returned v ∧ LLs w.heap.size w.heap.size w' v ((stsI n k).take m) ∧ Below w.heap.size w w' := by
  by_cases q : 0 ≤ k ∧ k ≤ n ∧ n ≤ 64
  · obtain ⟨n', hn'⟩ : ∃ n' : Nat, n = (n' : Int) := ⟨n.toNat, by omega⟩
    obtain ⟨k', hk'⟩ : ∃ k' : Nat, k = (k' : Int) := ⟨k.toNat, by omega⟩
    subst hn' hk'
    rw [stsI_nat (by omega) (by omega)]
    exact some_any (by omega) (by omega) hm hm2
  · refine (some_none (w := w) (n := n) (k := k) (m := (m : Int)) (by omega) (by omega)).mono fun e w' h => ?_
    obtain ⟨rfl, hw⟩ := h
    rw [stsI_none (by omega), hw]
    exact ⟨_, rfl, by rw [List.take_nil]; exact LLs.nil _ _ _, Below.refl _ _⟩
/-- The choice that is wanted next. -/
def wantL (n k : Int) (t : Nat) : List (List Nat) := ((stsI n k).drop t).take 1
theorem wantL_at {n k : Int} {t : Nat} (h : t < (stsI n k).length) : wantL n k t = [(stsI n k).getD t []] := by
  unfold wantL
  rw [List.drop_eq_getElem_cons h, List.getD_eq_getElem?_getD, List.getElem?_eq_getElem h]
  rfl
theorem wantL_end {n k : Int} {t : Nat} (h : (stsI n k).length ≤ t) : wantL n k t = [] := by
  unfold wantL
  rw [List.drop_eq_nil_of_le h]
  rfl
theorem LLs.kc {B E : Nat} {w w' : World} {v : Value} {ls : List (List Nat)} (h : LLs B E w v ls) (hk : Kc w w') : LLs B E w' v ls := by
  have h0 := h
  obtain ⟨vs, k1, k2, k3⟩ := h
  refine ⟨vs, owns_keep k1 fun b hb hlt => ?_, k2, fun j u l hu hl => (k3 j u l hu hl).keep fun b L _ e => hk.2 b _ e rfl⟩
  obtain ⟨_, L, e⟩ := h0.blk hb
  rw [e]; exact hk.2 b _ e rfl
/-- Stays, if the row's block and the blocks of ints from E on stay. -/
theorem LLs.keep {B E : Nat} {w w' : World} {v : Value} {ls : List (List Nat)} (h : LLs B E w v ls) (h1 : ∀ (b : Nat) (L : Array Value), v.ownBlock = some b → w.heap[b]? = some (.cells L 29 (0, 0)) → w'.heap[b]? = some (.cells L 29 (0, 0)))
    (h2 : ∀ (b : Nat) (L : Array Value), E ≤ b → w.heap[b]? = some (.cells L 3 (0, 0)) → w'.heap[b]? = some (.cells L 3 (0, 0))) : LLs B E w' v ls := by
  have h0 := h
  obtain ⟨vs, k1, k2, k3⟩ := h
  refine ⟨vs, owns_keep k1 fun b hb hlt => ?_, k2, fun j u l hu hl => (k3 j u l hu hl).keep fun b L hb e => h2 b L ((k3 j u l hu hl).blk hb).1 e⟩
  obtain ⟨_, L, e⟩ := h0.blk hb
  rw [e]; exact h1 b L hb e
/-- What rounds may turn of what was there. -/
def SgS (bW bI bR : Nat) (g0 : Option Nat) : Nat → Prop := fun b => b = bW ∨ b = bI ∨ b = bR ∨ g0 = some b
/-- Between two rounds. -/
structure SgJ (w0 wi : World) (bW bI bR : Nat) (g0 ds : Option Nat) (n k : Int) (M : Nat) (s : Nat × Nat) (W : World) : Prop where
  tb : s.2 ≤ M
  le : wi.heap.size ≤ s.1
  tN : s.2 ≤ (stsI n k).length
  kp : KpL (SgS bW bI bR g0) wi.heap.size wi W
  i : Cel W bI 3 [.int .i64 (s.2 : Int)]
  r : Cel W bR 4 [.bool false]
  wt : ∃ wv, Cel W bW 27 [wv] ∧ LLs 0 (if s.2 = 0 then 0 else s.1) W wv (wantL n k s.2) ∧ (∀ b, wv.ownBlock = some b → g0 = some b ∨ s.1 ≤ b)
  bw : Below w0.heap.size w0 W
  df : ∀ D, ds = some D → D < wi.heap.size ∧ W.heap[D]? = some (.deferred (some []))
/-- When the loop is left. -/
structure SgB (w0 wi : World) (bW bI bR : Nat) (g0 ds : Option Nat) (res : Bool) (W : World) : Prop where
  kp : KpL (SgS bW bI bR g0) wi.heap.size wi W
  i : ∃ z, Cel W bI 3 [.int .i64 z]
  r : Cel W bR 4 [.bool res]
  wt : ∃ wv, Cel W bW 27 [wv]
  bw : Below w0.heap.size w0 W
  df : ∀ D, ds = some D → D < wi.heap.size ∧ W.heap[D]? = some (.deferred (some []))
section
variable {w0 wi : World} {bW bI bR M : Nat} {g0 ds : Option Nat} {n k : Int}
theorem SgJ.tight {M' : Nat} {s : Nat × Nat} {W : World} (h : SgJ w0 wi bW bI bR g0 ds n k M s W) (h1 : s.2 ≤ M') : SgJ w0 wi bW bI bR g0 ds n k M' s W := ⟨h1, h.le, h.tN, h.kp, h.i, h.r, h.wt, h.bw, h.df⟩
theorem SgJ.base {s : Nat × Nat} {W : World} (h : SgJ w0 wi bW bI bR g0 ds n k M s W) : SgB w0 wi bW bI bR g0 ds false W := ⟨h.kp, ⟨_, h.i⟩, h.r, ⟨_, h.wt.choose_spec.1⟩, h.bw, h.df⟩
theorem SgJ.own (h0 : w0.heap.size ≤ wi.heap.size) : OwnFrom wi.heap.size (SgJ w0 wi bW bI bR g0 ds n k M) := fun s W W' row hs hg hr => by
  have hk := kc_grown hg fun r e => (hr r e).2
  obtain ⟨wv, q1, q2, q3⟩ := hs.wt
  exact ⟨hs.tb, hs.le, hs.tN, hs.kp.kc14 hk, hk.cel hs.i, hk.cel hs.r, ⟨wv, hk.cel q1, q2.kc hk, q3⟩, hs.bw.grown hg hs.bw.size (fun k e => Nat.le_trans h0 (hr k e).1), fun D hD => ⟨(hs.df D hD).1, by
    have hd := hs.df D hD
    refine (hg.block D (Array.getElem?_eq_some_iff.1 hd.2).1 (fun e => ?_)).trans hd.2
    have := (hr D e.symm).1
    omega⟩⟩
theorem SgB.own {res : Bool} (h0 : w0.heap.size ≤ wi.heap.size) : OwnFrom wi.heap.size (fun (_ : Unit) W => SgB w0 wi bW bI bR g0 ds res W) := fun _ W W' row hs hg hr => by
  have hk := kc_grown hg fun r e => (hr r e).2
  obtain ⟨wv, q1⟩ := hs.wt
  obtain ⟨z, q2⟩ := hs.i
  exact ⟨hs.kp.kc14 hk, ⟨z, hk.cel q2⟩, hk.cel hs.r, ⟨wv, hk.cel q1⟩, hs.bw.grown hg hs.bw.size (fun k e => Nat.le_trans h0 (hr k e).1), fun D hD => ⟨(hs.df D hD).1, by
    have hd := hs.df D hD
    refine (hg.block D (Array.getElem?_eq_some_iff.1 hd.2).1 (fun e => ?_)).trans hd.2
    have := (hr D e.symm).1
    omega⟩⟩
theorem AtI.own {B : Nat} (s : Nat × Nat) (x : Value) : OwnFrom B (fun (_ : Unit) W => AtI n k s x W) := fun _ W W' row hs hg hr => by
  obtain ⟨h1, h2, h3⟩ := hs
  exact ⟨h1, Nat.le_trans h2 hg.size, h3.kc14 (kc_grown hg fun r e => (hr r e).2)⟩
theorem SgJ.tou {s : Nat × Nat} {A Z : World} (h : SgJ w0 wi bW bI bR g0 ds n k M s A) (h0 : w0.heap.size ≤ wi.heap.size) (hb : bW < wi.heap.size ∧ bI < wi.heap.size ∧ bR < wi.heap.size) {gs : Nat} (hg : wi.heap.size ≤ gs) (h1 : 0 < s.2) (h2 : gs < s.1) {L : Array Value} (hL : A.heap[gs]? = some (.cells L 3 (0, 0))) (ht : Touch (· = gs) A Z) : SgJ w0 wi bW bI bR g0 ds n k M s Z := by
  have hty := ht.tyg hL
  obtain ⟨wv, q1, q2, q3⟩ := h.wt
  have key : ∀ (b : Nat) (o : Obj), b ≠ gs → A.heap[b]? = some o → Z.heap[b]? = some o := fun b o hne e => (ht.block b (Array.getElem?_eq_some_iff.1 e).1 hne).trans e
  refine ⟨h.tb, h.le, h.tN, ⟨Nat.le_trans h.kp.1 ht.size, fun b o hb1 hb2 e q => key b o (by omega) (h.kp.2 b o hb1 hb2 e q)⟩, key _ _ (by omega) h.i, key _ _ (by omega) h.r, ⟨wv, key _ _ (by omega) q1, ?_, q3⟩, ?_, fun D hD => ⟨(h.df D hD).1, key _ _ (by have := (h.df D hD).1; omega) (h.df D hD).2⟩⟩
  · rw [if_neg (by omega)] at q2 ⊢
    exact q2.keep (fun b L' _ e => hty.2 b _ _ _ e (by decide)) (fun b L' hbE e => key b _ (by omega) e)
  · exact h.bw.trans ⟨ht.os, ht.tape, ht.output, ht.size, fun c hc => ht.block c (Nat.lt_of_lt_of_le hc h.bw.size) (by omega)⟩
/-- What a round turned. -/
theorem kpl_touch {S C : Nat → Prop} {B : Nat} {W Y : World} (h : Touch C W Y) (hC : ∀ b, C b → S b ∨ B ≤ b) : KpL S B W Y := ⟨h.size, fun b o h1 h2 e _ => (h.block b (Array.getElem?_eq_some_iff.1 e).1 (fun q => by rcases hC b q with q | q; (· exact h2 q); omega)).trans e⟩
theorem keepsFrom_touch {C : Nat → Prop} {B : Nat} {W Y : World} (h : Touch C W Y) (hC : ∀ b, C b → ∀ o, W.heap[b]? = some o → o.isCells = true) : KeepsFrom B W Y := ⟨h.size, fun j o hj e ho => (h.block j (Array.getElem?_eq_some_iff.1 e).1 (fun q => by rw [hC j q o e] at ho; cases ho)).trans e⟩
theorem below_touch {C : Nat → Prop} {B : Nat} {w W Y : World} (hb : Below B w W) (hB : B ≤ W.heap.size) (h : Touch C W Y) (hC : ∀ b, C b → B ≤ b) : Below B w Y := hb.trans ⟨h.os, h.tape, h.output, h.size, fun c hc => h.block c (by omega) (fun q => by have := hC c q; omega)⟩
theorem Cel.tch {C : Nat → Prop} {W Y : World} {b : Nat} {T : TypeId} {L : List Value} (d : Cel W b T L) (h : Touch C W Y) (hC : ¬ C b) : Cel Y b T L := (h.block b d.blk hC).trans d
theorem Cel.isC {W : World} {b : Nat} {T : TypeId} {L : List Value} (d : Cel W b T L) (o : Obj) (e : W.heap[b]? = some o) : o.isCells = true := by
  have := e.symm.trans (show W.heap[b]? = _ from d)
  rw [Option.some.injEq] at this
  subst this
  rfl
end
theorem slice_none14 (w : World) (g n c : Nat) : (Instr.slice 27 (.slice (some ⟨g, 0, none⟩) n c) none (some (.int .i64 (0 : Int))) none).run Try.prog w = .ok (.slice (some ⟨g, 0, none⟩) 0 c) w := by
  have i3 : (0 : Int) ≤ (c : Int) := by omega
  go_simp
theorem run_neq_some14 (w : World) (a : Addr) (n c : Nat) : (binOp .neq 29 (.slice (some a) n c) (.slice none 0 0)).run Try.prog w = .ok (.bool true) w := by
  have h : ∀ d : Nat, (Op.equalIn (d + 1) 29 (.slice (some a) n c) (.slice none 0 0)).run Try.prog w = .ok false w := fun d => by
    simp [Op.equalIn, run_underlying Try.underlying29]
  simp only [binOp]
  simp [Op.equal, Op.maxDepth, h 9999]
theorem run_neq_nil14 (w : World) : (binOp .neq 29 (.slice none 0 0) (.slice none 0 0)).run Try.prog w = .ok (.bool false) w := by
  have h : ∀ d : Nat, (Op.equalIn (d + 1) 29 (.slice none 0 0) (.slice none 0 0)).run Try.prog w = .ok true w := fun d => by
    simp [Op.equalIn, run_underlying Try.underlying29]
  simp only [binOp]
  simp [Op.equal, Op.maxDepth, h 9999]
theorem run_eql_seq14 (w : World) (f : Fn) (ds lb : Array Value) : (binOp .eql 25 (.func f ds lb) .nilFunc).run Try.prog w = .ok (.bool false) w := by
  have h : ∀ d : Nat, (Op.equalIn (d + 1) 25 (.func f ds lb) .nilFunc).run Try.prog w = .ok false w := fun d => by
    simp [Op.equalIn, run_underlying Try.underlying25]
  simp only [binOp]
  simp [Op.equal, Op.maxDepth, h 9999]
theorem bback14 {f : Func} {s : Nat} (hr : f.results = #[ResultVar.cell s 4]) {W : World} {b : Nat} {x : Value} (h : Cel W b 4 [x]) (tmps : Array Value) (ht : tmps[s]? = some (.pointer (some ⟨b, 0, none⟩))) :
    (results f tmps).run Try.prog W = .ok x W := by
  simp [results, hr, go_sem, ht, h.at (i := 0) rfl]
theorem Touch.mono14 {S S' : Nat → Prop} {a b : World} (h : Touch S a b) (hS : ∀ x, S x → S' x) : Touch S' a b := ⟨h.os, h.tape, h.output, h.size, fun k hk q => h.block k hk fun r => q (hS k r)⟩
/-- What Next answers, by its value. -/
def NxV (B : Nat) (w : World) (n k : Nat) (l : List Nat) (v : Value) : Prop := (nxt n l = none ∧ v = .slice none 0 0) ∨ ∃ l' g cap, nxt n l = some l' ∧ l'.length = k ∧ 0 < k ∧ v = .slice (some ⟨g, 0, none⟩) k cap ∧ Ivs B w (.slice (some ⟨g, 0, none⟩) k cap) l'
theorem NxV.mono {B B' : Nat} {w : World} {n k : Nat} {l : List Nat} {v : Value} (h : NxV B w n k l v) (hb : B' ≤ B) : NxV B' w n k l v := by
  rcases h with h | ⟨l', g, cap, h1, h2, h3, h4, h5⟩
  · exact .inl h
  · exact .inr ⟨l', g, cap, h1, h2, h3, h4, owns_le14 h5 hb⟩
theorem nextV {B : Nat} {w : World} {v : Value} {k n : Nat} {l : List Nat} (hv : Ivs B w v l) (hl : l.length = k) (hk : k ≤ 64) (hn : n ≤ 64) (hp : l.Pairwise (· < ·)) (hx : ∀ x ∈ l, x < n) :
    Calls Try.prog 10 #[v, .int .i64 (n : Int)] w fun e w' => ∃ r, e = .returned r ∧ NxV w.heap.size w' n k l r ∧ Below w.heap.size w w' := by
  refine (next_any hv hl hk hn (fun t ht => by
    have := up_le14 hp hx t (by omega)
    rw [hl] at this
    exact this)).mono fun e w' h => ?_
  rcases h with ⟨h1, rfl, h2⟩ | ⟨l', g, cap, h1, h2, h3, rfl, h4, h5⟩
  · exact ⟨_, rfl, .inl ⟨h1, rfl⟩, by rw [h2]; exact Below.refl _ _⟩
  · exact ⟨_, rfl, .inr ⟨l', g, cap, h1, h2, h3, rfl, h4⟩, h5⟩
theorem KpL.cel14 {S : Nat → Prop} {B : Nat} {X Y : World} {b : Nat} {T : TypeId} {L : List Value} (h : KpL S B X Y) (d : Cel X b T L) (h1 : b < B) (h2 : ¬ S b) : Cel Y b T L := h.2 b _ h1 h2 d rfl
/-- A loop that is left by a break, or ends: one way on. -/
theorem mid14 {P : Program} {F : Fence} {n : Nat} {c : Code} {Q : Exit → Act → World → Prop} {a : Act} {w : World} (M : Act → World → Prop) (h : c.wpIn F n P (fun e a' W => (e = .normal ∨ e = .exit 0) ∧ M a' W) a w) (h2 : ∀ a' W, M a' W → Q .normal a' W) : c.wpIn F n P (Exit.inBlock 0 Q) a w :=
  wpIn_mono h (by
    rintro e a' W ⟨rfl | rfl, hm⟩
    · exact h2 a' W hm
    · exact h2 a' W hm)
section
variable {w0 wi : World} {bW bI bR M : Nat} {g0 ds : Option Nat} {n k : Int}
/-- A round's end. -/
theorem SgJ.round {B t : Nat} {W U : World} {C : Nat → Prop} {wv' : Value} (hj : SgJ w0 wi bW bI bR g0 ds n k M (B, t) W) (ht : t < (stsI n k).length) (T : Touch C W U) (hC : ∀ b, C b → (b = bW ∨ b = bI ∨ g0 = some b ∨ B ≤ b) ∧ (∀ o, W.heap[b]? = some o → o.isCells = true))
    (hne : bR ≠ bW ∧ bR ≠ bI ∧ g0 ≠ some bR ∧ bR < wi.heap.size) (h0 : ∀ b, (b = bW ∨ b = bI ∨ g0 = some b) → w0.heap.size ≤ b) (h0' : w0.heap.size ≤ wi.heap.size) (ci : Cel U bI 3 [.int .i64 ((t + 1 : Nat) : Int)]) (cw : Cel U bW 27 [wv']) (ll : LLs 0 B U wv' (wantL n k (t + 1))) (hb : ∀ b, wv'.ownBlock = some b → g0 = some b ∨ B ≤ b) :
    KeepsFrom wi.heap.size W U ∧ SgJ w0 wi bW bI bR g0 ds n k (M + 1) (B, t + 1) U ∧ KpL (SgS bW bI bR g0) B W U := by
  have hle : wi.heap.size ≤ B := hj.le
  have hcs : ∀ b, C b → SgS bW bI bR g0 b ∨ B ≤ b := fun b hb => by
    rcases (hC b hb).1 with q | q | q | q
    · exact .inl (.inl q)
    · exact .inl (.inr (.inl q))
    · exact .inl (.inr (.inr (.inr q)))
    · exact .inr q
  refine ⟨keepsFrom_touch T fun b hb => (hC b hb).2, ⟨Nat.succ_le_succ hj.tb, hj.le, ht, hj.kp.trans (kpl_touch T fun b hb => (hcs b hb).imp_right fun q => Nat.le_trans hle q), ci, hj.r.tch T fun q => ?_, ⟨wv', cw, by rw [if_neg (Nat.succ_ne_zero t)]; exact ll, hb⟩, below_touch hj.bw hj.bw.size T fun b hb => ?_, fun D hD => ⟨(hj.df D hD).1, ?_⟩⟩, kpl_touch T hcs⟩
  · rcases (hC bR q).1 with q | q | q | q
    · exact hne.1 q
    · exact hne.2.1 q
    · exact hne.2.2.1 q
    · have := hne.2.2.2; omega
  · rcases (hC b hb).1 with q | q | q | q
    · exact h0 b (.inl q)
    · exact h0 b (.inr (.inl q))
    · exact h0 b (.inr (.inr q))
    · omega
  · have hd := (hj.df D hD).2
    refine (T.block D (Array.getElem?_eq_some_iff.1 hd).1 (fun q => ?_)).trans hd
    have := (hC D q).2 _ hd
    cases this
/-- .. that leaves with an answer. -/
theorem SgJ.answer {s : Nat × Nat} {W U : World} {B0 : Nat} (hj : SgJ w0 wi bW bI bR g0 ds n k M s U) (hk : KeepsFrom B0 W U) (hne : bR ≠ bW ∧ bR ≠ bI) (h0 : w0.heap.size ≤ bR) : KeepsFrom B0 W (U.setCell ⟨bR, 0, none⟩ (.bool true)) ∧ SgB w0 wi bW bI bR g0 ds true (U.setCell ⟨bR, 0, none⟩ (.bool true)) := by
  have key : ∀ b o, b ≠ bR → U.heap[b]? = some o → (U.setCell ⟨bR, 0, none⟩ (.bool true)).heap[b]? = some o := fun b o hne e => (Below.heap_setCell U ⟨bR, 0, none⟩ _ b (fun q => hne (by simpa using q))).trans e
  refine ⟨⟨by simp; exact hk.1, fun j o hj' e ho => ?_⟩, ⟨⟨by simp; exact hj.kp.1, fun b o h1 h2 e q => ?_⟩, ⟨_, hj.i.ne hne.2⟩, hj.r.set 0 _, ⟨_, hj.wt.choose_spec.1.ne hne.1⟩, bset hj.bw h0, fun D hD => ⟨(hj.df D hD).1, ?_⟩⟩⟩
  · have e1 := hk.2 j o hj' e ho
    refine key j o (fun q => ?_) e1
    subst q
    have := hj.r.isC o e1
    rw [this] at ho
    cases ho
  · exact key b o (fun r => h2 (by rw [r]; exact .inr (.inr (.inl rfl)))) (hj.kp.2 b o h1 h2 e q)
  · have hd := (hj.df D hD).2
    refine key D _ (fun q => ?_) hd
    subst q
    have := hj.r.isC _ hd
    cases this
end
end Go.Proofs.Ytplldfnldaehiaa
