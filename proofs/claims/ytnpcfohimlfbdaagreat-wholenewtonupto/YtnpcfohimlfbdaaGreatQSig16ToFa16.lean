/-
 QSig16ToFa16: Sig16, Mq16, Fa16, joined.
-/
import Derived.Test.YtnpcfohimlfbdaaGreatQWake16ToVa16
import Derived.Deep.Cut
import Derived.Test.YtnpcfohimlfbdaaGreatQDz12ToDu12
import Derived.Test.YtnpcfohimlfbdaaGreatQSt11ToChkN9

set_option maxRecDepth 100000
set_option maxHeartbeats 6400000
set_option linter.unusedVariables false
set_option linter.unusedSimpArgs false
namespace Go.Proofs.YtnpcfohimlfbdaaGreat
open Go.RowKit

/-- How many of the first n are left without zeros at the end. -/
def sgN (zs : List Int) : Nat → Nat
 | 0 => 0
 | n + 1 => if zs.getD n 0 = 0 then sgN zs n else n + 1
def sgl (zs : List Int) : Nat := sgN zs zs.length
theorem sgN_le (zs : List Int) : ∀ n, sgN zs n ≤ n
 | 0 => Nat.le_refl _
 | n + 1 => by
  unfold sgN
  split
  ·have := sgN_le zs n; omega
  ·exact Nat.le_refl _
theorem sgl_le (zs : List Int) : sgl zs ≤ zs.length := sgN_le zs _
theorem sgl_last {zs : List Int} {n : Nat} (hl : zs.length = n + 1) (h : zs.getD n 0 ≠ 0) : sgl zs = n + 1 := by
 unfold sgl
 rw [hl]
 unfold sgN
 rw [if_neg h]
theorem Zl.take16 {w : World} {a : Option Addr} {l c k : Nat} {zs : List Int} (h : Zl w (.slice a l c) zs k) {m : Nat} (hm : m ≤ zs.length) : Zl w (.slice a m c) (zs.take m) k := by
 obtain ⟨a', c', h1, h2, h3, h4⟩ := h
 simp only [Value.slice.injEq] at h1
 obtain ⟨rfl, rfl, rfl⟩ := h1
 have e : (zs.take m).length = m := by simp; omega
 refine ⟨a, c, by rw [e], by omega, by omega, ?_⟩
 by_cases hz : m = 0
 ·subst hz; exact .inl (by simp)
 ·rcases h4 with h4 | ⟨b, off, h5, h6, h7⟩
  ·subst h4; simp at hm; omega
  ·refine .inr ⟨b, off, h5, h6, fun j hj => ?_⟩
   obtain ⟨x, y, q1, q2, q3⟩ := h7 j (by omega)
   exact ⟨x, y, q1, q2, by simpa using q3⟩
theorem wrapP16 {m : Nat} (h : m ≤ 1048576) : IntKind.i64.wrap (((m + 1 : Nat) : Int) - 1) = (m : Int) := by rw [wrap_is] <;> omega
def SigH (w : World) (zs : List Int) (a : Option Addr) (c gk : Nat) (s : Value) (wx : World) : Prop :=
 ∃ m, s = .slice a m c ∧ m ≤ zs.length ∧ gk = m ∧ sgN zs m = sgl zs ∧ Below w.heap.size w wx
def Signif (w : World) (zs : List Int) (a : Option Addr) (c k : Nat) (e : Ending) (w' : World) : Prop :=
 e = .returned (.slice a (sgl zs) c) ∧ Zl w' (.slice a (sgl zs) c) (zs.take (sgl zs)) k ∧ Below w.heap.size w w'
theorem sig_any {w : World} {a : Option Addr} {l c k : Nat} {zs : List Int} (h : Zl w (.slice a l c) zs k) : Calls Tryz.prog 107 #[.slice a l c] w (Signif w zs a c k) := by
 have A0 := hid h
 obtain ⟨a0, c0, e0, hc0, hn0, hf0⟩ := h.form9
 simp only [Value.slice.injEq] at e0
 obtain ⟨rfl, rfl, rfl⟩ := e0
 have F0 := hid hf0
 have H0 : Hid (SigH w zs a c zs.length (.slice a zs.length c) w) := ⟨zs.length, rfl, Nat.le_refl _, rfl, rfl, Below.refl _ _⟩
 obtain ⟨n, hn⟩ : ∃ n, zs.length = n := ⟨_, rfl⟩
 rw [hn] at A0 hc0 hn0 H0 ⊢
 have HN := hid hn
 clear h hf0 hn
 go_enter Tryz.func107, Tryz.ntmps107
 go_wp2_with fail
 go_loopg [0] n (fun gk s0 wx => SigH w zs a c gk s0 wx)
 case atStart => exact H0.out
 case round =>
  clear H0
  obtain ⟨m, rfl, hm, hg, hs, hG⟩ := hrel
  have G := hid hG
  have HG := hid hg
  have HS := hid hs
  rw [HN.out] at hm
  clear hG hg hs
  by_cases h0 : m = 0
  ·subst h0
   have FIN : Hid (Signif w zs a c k (.returned (.slice a 0 c)) wr) := by
    have e : sgl zs = 0 := by rw [← HS.out]; rfl
    unfold Hid Signif
    rw [e]
    exact ⟨rfl, (A0.out.now G.out).take16 (Nat.zero_le _), G.out⟩
   clear HS HG G
   go_wp2
   go_ret
   exact FIN.out
  ·obtain ⟨m, rfl⟩ : ∃ m', m = m' + 1 := ⟨m - 1, by omega⟩
   have hml : m < zs.length := by rw [HN.out]; omega
   obtain ⟨b1, o1, rfl⟩ := F0.out (fun e => by rw [e] at hml; simp at hml)
   obtain ⟨nf, xf, adf, qf, k0, k1, zf⟩ := (A0.out.now G.out).at9 (i := m) hml
   rw [getD_at hml] at zf
   have HC := hid (sign_z zf)
   have hw := wrapP16 (m := m) (by omega)
   have hp : (0 : Int) < ((m + 1 : Nat) : Int) := by omega
   have hlt : (m : Int) < ((m + 1 : Nat) : Int) := by omega
   have hmc : (m : Int) ≤ (c : Int) := by omega
   clear zf h0
   by_cases hz : zs.getD m 0 = 0
   ·have NX : Hid (∀ w', Below wr.heap.size wr w' → SigH w zs (some ⟨b1, o1, none⟩) c m (.slice (some ⟨b1, o1, none⟩) m c) w') := fun w' b => ⟨m, rfl, by omega, rfl, by
     have := HS.out
     unfold sgN at this
     rw [if_pos hz] at this
     exact this, below_step G.out b⟩
    have HMM : Hid (m < gk) := by unfold Hid; rw [HG.out]; omega
    rw [hz, cmpI_self] at HC
    clear hz HS HG hml
    go_wp2_with fail
    refine HC.out.mono ?_
    rintro e w1 ⟨rfl, b⟩
    have N1 := hid (NX.out w1 b)
    clear HC NX G k0 k1 b
    go_wp2_with fail
    go_roundg m
    case rel => exact N1.out
    case measure => exact HMM.out
   ·have HCZ : Hid ((cmpI (zs.getD m 0) 0 == 0) = false) := by unfold Hid; rw [beq_eq_false_iff_ne]; exact fun e => hz (cmpI_zero e)
    have FIN : Hid (∀ w', Below wr.heap.size wr w' → Signif w zs (some ⟨b1, o1, none⟩) c k (.returned (.slice (some ⟨b1, o1, none⟩) (m + 1) c)) w') := fun w' b => by
     have e : sgl zs = m + 1 := by
      rw [← HS.out]
      unfold sgN
      rw [if_neg hz]
     unfold Signif
     rw [e]
     exact ⟨rfl, (A0.out.now (below_step G.out b)).take16 (by omega), below_step G.out b⟩
    generalize cmpI (zs.getD m 0) 0 = q at *
    clear hz HS HG hml
    go_wp2_with fail
    refine HC.out.mono ?_
    rintro e w1 ⟨rfl, b⟩
    have N1 := hid (FIN.out w1 b)
    have hq := HCZ.out
    clear HC FIN G k0 k1 b
    go_wp2
    go_ret
    exact N1.out
end Go.Proofs.YtnpcfohimlfbdaaGreat
namespace Go.Proofs.YtnpcfohimlfbdaaGreat

/-- The coefficient s when the first i rounds are done, and j steps of the next one. -/
def cfP (P Q : List Int) (i j s : Nat) : Int :=
 su i (fun a => if a ≤ s ∧ s - a < Q.length then P.getD a 0 * Q.getD (s - a) 0 else 0) + (if i ≤ s ∧ s - i < j then P.getD i 0 * Q.getD (s - i) 0 else 0)
def coL (P Q : List Int) (i j : Nat) : List Int := (List.range (P.length + Q.length - 1)).map (cfP P Q i j)
theorem coL_length (P Q : List Int) (i j : Nat) : (coL P Q i j).length = P.length + Q.length - 1 := by simp [coL]
theorem coL_getD {P Q : List Int} {i j s : Nat} (hs : s < P.length + Q.length - 1) : (coL P Q i j).getD s 0 = cfP P Q i j s := by simp [coL, hs]
theorem coL_start (P Q : List Int) : coL P Q 0 0 = List.replicate (P.length + Q.length - 1) 0 := by
 apply List.ext_getElem
 ·simp [coL]
 ·intro t h1 h2
  simp [coL, cfP, su]
theorem coL_next (P Q : List Int) (i : Nat) : coL P Q i Q.length = coL P Q (i + 1) 0 := by
 unfold coL
 refine List.map_congr_left fun s _ => ?_
 unfold cfP
 show _ = (su i _ + _) + _
 simp
theorem cfP_step {P Q : List Int} {i j s : Nat} : cfP P Q i (j + 1) s = if s = i + j then P.getD i 0 * Q.getD j 0 + cfP P Q i j s else cfP P Q i j s := by
 unfold cfP
 by_cases h : s = i + j
 ·subst h
  rw [if_pos rfl, if_pos ⟨by omega, by omega⟩, if_neg (by omega), show i + j - i = j by omega]
  omega
 ·rw [if_neg h]
  by_cases h2 : i ≤ s ∧ s - i < j
  ·rw [if_pos h2, if_pos ⟨h2.1, by omega⟩]
  ·rw [if_neg h2, if_neg (by omega)]
theorem coL_step {P Q : List Int} {i j : Nat} (hi : i < P.length) (hj : j < Q.length) : coL P Q i (j + 1) = (coL P Q i j).set (i + j) (P.getD i 0 * Q.getD j 0 + (coL P Q i j).getD (i + j) 0) := by
 apply List.ext_getElem
 ·simp [coL]
 ·intro t h1 h2
  have ht : t < P.length + Q.length - 1 := by simpa [coL] using h1
  have e1 : (coL P Q i (j + 1))[t] = cfP P Q i (j + 1) t := by simp [coL]
  rw [e1, cfP_step]
  by_cases h : t = i + j
  ·subst h
   rw [if_pos rfl, List.getElem_set_self, coL_getD ht]
  ·rw [if_neg h, List.getElem_set_ne (by omega)]
   simp [coL]
theorem su_abs16 {M : Int} : ∀ {n : Nat} {f : Nat → Int}, (∀ a, a < n → ((f a).natAbs : Int) ≤ M) → ((su n f).natAbs : Int) ≤ n * M
 | 0, f, _ => by simp [su]
 | n + 1, f, h => by
  have h1 := su_abs16 (n := n) (f := f) (fun a ha => h a (by omega))
  have h2 := h n (by omega)
  show ((su n f + f n).natAbs : Int) ≤ _
  have e : ((n + 1 : Nat) : Int) * M = n * M + M := by rw [Int.natCast_add, Int.add_mul]; simp
  rw [e]
  omega
theorem mul_abs {x y : Int} {k l : Nat} (hx : (x.natAbs : Int) < pw k) (hy : (y.natAbs : Int) < pw l) : ((x * y).natAbs : Int) ≤ pw (k + l) := by
 rw [Int.natAbs_mul, Int.natCast_mul, pw_plus]
 exact Int.mul_le_mul (by omega) (by omega) (by omega) (by have := pw_pos k; omega)
theorem lt_getD {zs : List Int} {k : Nat} (h : ∀ z ∈ zs, (z.natAbs : Int) < pw k) (i : Nat) : ((zs.getD i 0).natAbs : Int) < pw k := by
 by_cases q : i < zs.length
 ·have e : zs.getD i 0 = zs[i] := by simp [q]
  rw [e]
  exact h _ (List.getElem_mem q)
 ·have e : zs.getD i 0 = 0 := by simp [q]
  rw [e]
  have := pw_pos k
  simpa using this
theorem cfP_lt {P Q : List Int} {i j s kp kq : Nat} (hp : ∀ z ∈ P, (z.natAbs : Int) < pw kp) (hq : ∀ z ∈ Q, (z.natAbs : Int) < pw kq) (hi : i ≤ 1048576) : ((cfP P Q i j s).natAbs : Int) < pw (kp + kq + 1) := by
 have hM : ∀ a b, ((P.getD a 0 * Q.getD b 0).natAbs : Int) ≤ pw (kp + kq) := fun a b => mul_abs (lt_getD hp a) (lt_getD hq b)
 have hpos := pw_pos (kp + kq)
 have h1 : ((su i (fun a => if a ≤ s ∧ s - a < Q.length then P.getD a 0 * Q.getD (s - a) 0 else 0)).natAbs : Int) ≤ i * pw (kp + kq) := su_abs16 fun a ha => by
  split
  ·exact hM _ _
  ·simpa using Int.le_of_lt hpos
 have h2 : ((if i ≤ s ∧ s - i < j then P.getD i 0 * Q.getD (s - i) 0 else 0 : Int).natAbs : Int) ≤ pw (kp + kq) := by
  split
  ·exact hM _ _
  ·simpa using Int.le_of_lt hpos
 have h3 : (i : Int) * pw (kp + kq) ≤ 1048576 * pw (kp + kq) := Int.mul_le_mul_of_nonneg_right (by omega) (by omega)
 have h4 : pw (kp + kq + 1) = pw (kp + kq) * pw 1 := pw_plus _ _
 have h5 : pw 1 = 18446744073709551616 := by simp [pw, wB]
 rw [h4, h5]
 unfold cfP
 omega
/-- The product, for lists that do not end in 0. -/
def mulP (P Q : List Int) : List Int := coL P Q P.length 0
theorem mulP_length (P Q : List Int) : (mulP P Q).length = P.length + Q.length - 1 := coL_length _ _ _ _
open Go.RowKit

/-- The words of a pair lie from block B on. -/
def FarP (B : Nat) (p : Value × Value) : Prop := ∀ (a : Option Addr) (l c : Nat), p.2 = .slice a l c → l = 0 ∨ ∃ b off, a = some ⟨b, off, none⟩ ∧ B ≤ b
def FarA (B : Nat) (w : World) (g : Nat) : Prop := ∃ ps, Arr w g ps ∧ ∀ p ∈ ps, FarP B p
theorem Zm.farP {B : Nat} {w : World} {x y : Value} {z : Int} {k : Nat} (h : Zm B w (.agg #[x, y]) z k) : FarP B (x, y) := by
 obtain ⟨n, zs, a, c, e, hm, -⟩ := h
 simp only [Value.agg.injEq, Array.mk.injEq, List.cons.injEq, and_true] at e
 obtain ⟨rfl, rfl⟩ := e
 intro a' l' c' e'
 simp only [Value.slice.injEq] at e'
 obtain ⟨rfl, rfl, rfl⟩ := e'
 obtain ⟨hw, ⟨h1, h2⟩ | ⟨g, r, cap, h1, h2, h3, h4, h5, h6⟩⟩ := hm
 ·subst h2; exact .inl rfl
 ·simp only [Value.slice.injEq] at h5
  exact .inr ⟨g, 0, h5.1, h1⟩
theorem FarP.mono {B B' : Nat} {p : Value × Value} (h : FarP B p) (hB : B' ≤ B) : FarP B' p := fun a l c e => by
 rcases h a l c e with q | ⟨b, off, q1, q2⟩
 ·exact .inl q
 ·exact .inr ⟨b, off, q1, by omega⟩
theorem FarA.mono {B B' g : Nat} {w : World} (h : FarA B w g) (hB : B' ≤ B) : FarA B' w g := by
 obtain ⟨ps, h1, h2⟩ := h
 exact ⟨ps, h1, fun p hp => (h2 p hp).mono hB⟩
theorem FarA.step {B g : Nat} {w w' : World} (h : FarA B w g) (hb : Below w.heap.size w w') : FarA B w' g := by
 obtain ⟨ps, h1, h2⟩ := h
 exact ⟨ps, h1.step hb, h2⟩
theorem FarA.start {w : World} {g n : Nat} (h : Arr w g (List.replicate n zpair)) (B : Nat) : FarA B w g :=
 ⟨_, h, fun p hp => by
  rw [List.eq_of_mem_replicate hp]
  intro a l c e
  simp only [zpair, Value.slice.injEq] at e
  exact .inl e.2.1.symm⟩
theorem flat_inj : ∀ {ps qs : List (Value × Value)}, flat ps = flat qs → ps = qs
 | [], [], _ => rfl
 | [], q :: r, h => by simp [flat] at h
 | p :: r, [], h => by simp [flat] at h
 | p :: r, q :: s, h => by
  simp only [flat, List.cons.injEq] at h
  obtain ⟨h1, h2, h3⟩ := h
  rw [flat_inj h3, show p = q from Prod.ext h1 h2]
theorem Arr.uniq {w : World} {g : Nat} {ps qs : List (Value × Value)} (h : Arr w g ps) (h' : Arr w g qs) : ps = qs := by
 have e1 : w.heap[g]? = some (.cells (flat ps).toArray 29 (0, 0)) := h.1
 have e2 : w.heap[g]? = some (.cells (flat qs).toArray 29 (0, 0)) := h'.1
 rw [e1] at e2
 simp only [Option.some.injEq, Obj.cells.injEq, and_true] at e2
 exact flat_inj (by simpa using e2)
theorem FarA.put {B g i k : Nat} {w : World} {zs : List Int} {x y : Value} (h : FarA B w g) (hz : AllZ w g zs k) (hi : i < zs.length) (hI : IsI (x, y)) (hp : FarP B (x, y)) : FarA B ((w.setCell ⟨g, i * 2, none⟩ x).setCell ⟨g, i * 2 + 1, none⟩ y) g := by
 obtain ⟨ps, h1, h2⟩ := h
 obtain ⟨qs, q1, q2, q3⟩ := hz
 obtain rfl := h1.uniq q1
 refine ⟨ps.set i (x, y), h1.put (by omega) hI, fun p hp' => ?_⟩
 rcases List.mem_or_eq_of_mem_set hp' with q | rfl
 ·exact h2 p q
 ·exact hp
/-- What grows elsewhere leaves it. -/
theorem AllZ.grown {B g k : Nat} {w w' : World} {zs : List Int} {o : Option Nat} (h : AllZ w g zs k) (hf : FarA B w g) (hgr : w.grownBy w' o) (ho : ∀ f, o = some f → f < B) (hg : B ≤ g) : AllZ w' g zs k ∧ FarA B w' g := by
 obtain ⟨ps, h1, h2, h3⟩ := h
 obtain ⟨qs, q1, q2⟩ := hf
 obtain rfl := h1.uniq q1
 have hk : ∀ b, b < w.heap.size → B ≤ b → w'.heap[b]? = w.heap[b]? := fun b hb hB => hgr.block b hb (fun e => by have := ho b e.symm; omega)
 have ha : Arr w' g ps := ⟨(hk g h1.1.blk hg).trans h1.1, h1.2⟩
 refine ⟨⟨ps, ha, h2, fun j p z hp hz => ?_⟩, ps, ha, q2⟩
 obtain ⟨n, xs, a, c, e, hs, e2⟩ := h3 j p z hp hz
 refine ⟨n, xs, a, c, e, ?_, e2⟩
 have hfp := q2 p (List.mem_of_getElem? hp) a xs.length c (by
  simp only [Value.agg.injEq, Array.mk.injEq, List.cons.injEq, and_true] at e
  exact e.2)
 obtain ⟨s1, a', c', s2, s3, s4, s5⟩ := hs
 refine ⟨s1, a', c', s2, s3, s4, ?_⟩
 rcases s5 with s5 | ⟨b, off, s6, s7, s8⟩
 ·exact .inl s5
 ·refine .inr ⟨b, off, s6, Nat.lt_of_lt_of_le s7 hgr.size, fun j' hj' => ?_⟩
  have hB : B ≤ b := by
   rcases hfp with q | ⟨b2, off2, q, q'⟩
   ·omega
   ·simp only [Value.slice.injEq] at s2
    rw [s2.1, s6] at q
    simp only [Option.some.injEq, Addr.mk.injEq] at q
    omega
  exact (World.cell?_of_block (a := ⟨b, off + j', none⟩) (hk b s7 hB)).trans (s8 j' hj')
end Go.Proofs.YtnpcfohimlfbdaaGreat
