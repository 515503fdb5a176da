/-
 QSp13ToTb14: Sp13, Gc14, Tb14, joined.
-/
import Derived.Test.YtplldfnldaehiaaGreatQSr13ToUq13

set_option maxRecDepth 100000
set_option maxHeartbeats 6400000
set_option linter.unusedVariables false
set_option linter.unusedSimpArgs false
namespace Go.Proofs.YtplldfnldaehiaaGreat
def Sp (n t : Nat) (L : Nat → Nat → Int) (v : Nat → Int) : Prop := ∃ (N : Int) (e : Nat → Int), N ≠ 0 ∧ ∀ j, j < n → N * v j = su t fun a => e a * L a j
section
variable {n t : Nat} {L : Nat → Nat → Int} {u v : Nat → Int}
theorem Sp.zero (h : ∀ j, j < n → v j = 0) : Sp n t L v := ⟨1, fun _ => 0, by decide, fun j hj => by rw [h j hj, zrD fun k _ => by simp]; simp⟩
theorem Sp.one {a : Nat} (ha : a < t) (h : ∀ j, j < n → v j = L a j) : Sp n t L v := ⟨1, dlz a, by decide, fun j hj => by
 rw [h j hj, zEB (i := a) ha fun k _ hk => by unfold dlz; rw [if_neg (Ne.symm hk)]; simp]; unfold dlz; simp⟩
theorem Sp.add (hu : Sp n t L u) (hv : Sp n t L v) : Sp n t L fun j => u j + v j := by
 obtain ⟨N, e, hN, he⟩ := hu; obtain ⟨M, f, hM, hf⟩ := hv; refine ⟨N * M, fun a => M * e a + N * f a, Int.mul_ne_zero hN hM, fun j hj => ?_⟩; have e1 : su t (fun a => (M * e a + N * f a) * L a j) = M * su t (fun a => e a * L a j) + N * su t (fun a => f a * L a j) := by
  rw [← zwB, ← zwB, ← zsD]; exact zQA fun k _ => by grind
 rw [e1, ← he j hj, ← hf j hj]
 grind
theorem Sp.mul (x : Int) (hu : Sp n t L u) : Sp n t L fun j => x * u j := by
 obtain ⟨N, e, hN, he⟩ := hu; refine ⟨N, fun a => x * e a, hN, fun j hj => ?_⟩; have e1 : su t (fun a => (x * e a) * L a j) = x * su t (fun a => e a * L a j) := by
  rw [← zwB]; exact zQA fun k _ => by grind
 rw [e1, ← he j hj]
 grind
theorem Sp.div {x : Int} (hx : x ≠ 0) (hu : Sp n t L fun j => x * u j) : Sp n t L u := by
 obtain ⟨N, e, hN, he⟩ := hu; exact ⟨N * x, e, Int.mul_ne_zero hN hx, fun j hj => by rw [← he j hj]; grind⟩
theorem Sp.congr (hu : Sp n t L u) (h : ∀ j, j < n → v j = u j) : Sp n t L v := by
 obtain ⟨N, e, hN, he⟩ := hu; exact ⟨N, e, hN, fun j hj => by rw [h j hj]; exact he j hj⟩
theorem Sp.sum {K : Nat → Nat → Int} (x : Nat → Int) : ∀ {s : Nat}, (∀ a, a < s → Sp n t L (K a)) → Sp n t L fun j => su s fun a => x a * K a j
 | 0, _ => Sp.zero fun j _ => rfl
 | s + 1, h => (Sp.sum x (s := s) fun a ha => h a (by omega)).add ((h s (by omega)).mul (x s))
end
def prn : Nat → (Nat → Int) → Int
 | 0, _ => 1
 | n + 1, N => N 0 * prn n fun k => N (k + 1)
theorem zuI : ∀ {n : Nat} {N : Nat → Int}, (∀ k, k < n → N k ≠ 0) → prn n N ≠ 0
 | 0, _, _ => by show (1 : Int) ≠ 0; decide
 | n + 1, N, h => Int.mul_ne_zero (h 0 (by omega)) (zuI fun k hk => h (k + 1) (by omega))
theorem zRE : ∀ (n : Nat) (N : Nat → Int) (A : Nat → Nat → Int), det n (fun a b => N a * A a b) = prn n N * det n A
 | 0, _, _ => rfl
 | n + 1, N, A => by
  rw [zPG, zPG]; unfold exd
  show _ = (N 0 * prn n fun k => N (k + 1)) * _
  rw [← zwB]; refine zQA fun j _ => ?_
  rw [zRE n (fun k => N (k + 1)) (fun r c => A (r + 1) (skd j c))]
  grind
theorem Sp.det0 {n t s : Nat} {L X : Nat → Nat → Int} (h : ∀ a, a < s → Sp n t L (X a)) (hts : t < s) {M : Nat → Nat} (hM : ∀ b, b < s → M b < n) : det s (fun a b => X a (M b)) = 0 := by
 have hc : ∀ a, ∃ (N : Int) (e : Nat → Int), N ≠ 0 ∧ (a < s → ∀ j, j < n → N * X a j = su t fun k => e k * L k j) := fun a => by
  by_cases q : a < s
  ·obtain ⟨N, e, h1, h2⟩ := h a q
   exact ⟨N, e, h1, fun _ => h2⟩
  ·exact ⟨1, fun _ => 0, by decide, fun q' => absurd q' q⟩
 have hN := fun a => (hc a).choose_spec
 obtain ⟨N, hNd⟩ : ∃ N : Nat → Int, N = fun a => (hc a).choose := ⟨_, rfl⟩
 have hE : ∀ a, ∃ e : Nat → Int, N a ≠ 0 ∧ (a < s → ∀ j, j < n → N a * X a j = su t fun k => e k * L k j) := fun a => by
  rw [hNd]; exact hN a
 obtain ⟨E, hEd⟩ : ∃ E : Nat → Nat → Int, E = fun a => (hE a).choose := ⟨_, rfl⟩
 have hF : ∀ a, N a ≠ 0 ∧ (a < s → ∀ j, j < n → N a * X a j = su t fun k => E a k * L k j) := fun a => by
  rw [hEd]; exact (hE a).choose_spec
 have e1 : det s (fun a b => N a * X a (M b)) = det s (muz s (fun a k => if k < t then E a k else 0) fun k b => L k (M b)) := zHA fun a b ha hb => by
  unfold muz; rw [(hF a).2 ha _ (hM b hb), zoI (r := t) (m := s) (by omega) (fun k h1 _ => by simp only []; rw [if_neg (by omega)]; simp)]; exact zQA fun k hk => by simp only []; rw [if_pos hk]
 have e2 : det s (fun a k => if k < t then E a k else 0) = 0 := by
  rw [← zgA]; exact (zaA s).nul (i := t) hts fun j _ => by rw [if_neg (by omega)]
 rw [zGI, e2, zRE s N (fun a b => X a (M b))] at e1; have e3 := zuI (n := s) (N := N) fun k _ => (hF k).1
 rcases Int.mul_eq_zero.1 (e1.trans (Int.zero_mul _)) with q | q
 ·exact absurd q e3
 ·exact q
section
variable {A : Nat → Nat → Int} {n i : Nat} {rs cs : List Nat} {odd : Bool}
abbrev lnm (A : Nat → Nat → Int) (rs cs : List Nat) : Nat → Nat → Int := fun a j => mi A (gd rs) (gd cs) a (gd rs a) j
theorem Stz.back (h : Stz A n i rs cs odd) {r t : Nat} : ∀ k, k ≤ t → t ≤ rs.length → Sp n t (lnm A rs cs) (fun j => mi A (gd rs) (gd cs) k r j) → Sp n t (lnm A rs cs) (A r)
 | 0, _, _, hs => hs.congr fun j _ => (zpH A _ _ r j).symm
 | k + 1, hk, ht, hs => by
  refine h.back k (by omega) ht (Sp.div (h.nz (k + 1) (by omega)) ?_); refine Sp.congr (u := fun j => dd A (gd rs) (gd cs) k * mi A (gd rs) (gd cs) (k + 1) r j + mi A (gd rs) (gd cs) k r (gd cs k) * lnm A rs cs k j) ((hs.mul _).add ((Sp.one (a := k) (by omega) fun j _ => rfl).mul _)) fun j _ => ?_
  have := zqH A (gd rs) (gd cs) k r j (h.nz k (by omega))
  show _ = _ + mi A (gd rs) (gd cs) k r (gd cs k) * mi A (gd rs) (gd cs) k (gd rs k) j
  omega
theorem Stz.rows (h : Stz A n i rs cs odd) {r t : Nat} (hr : r < i) (ht : t ≤ rs.length) (hb : ∀ a, a < rs.length → rs.getD a 0 ≤ r → a < t) : Sp n t (lnm A rs cs) (A r) := by
 by_cases q : r ∈ rs
 ·obtain ⟨a, ha, e⟩ := List.getElem_of_mem q
  have e2 : rs.getD a 0 = r := by simp [ha, e]
  have hat := hb a ha (by omega); refine h.back a (by omega) ht (Sp.one hat fun j _ => ?_)
  show _ = mi A (gd rs) (gd cs) a (gd rs a) j
  rw [show gd rs a = r from e2]
 ·obtain ⟨k, hk, h1, h2⟩ := h.drop r hr q
  have hkt : k ≤ t := by
   by_cases k0 : k = 0
   ·omega
   ·have := hb (k - 1) (by omega) (by have := h1 (k - 1) (by omega); omega)
    omega
  exact h.back k hkt ht (Sp.zero h2)
theorem Stz.all (h : Stz A n i rs cs odd) {r : Nat} (hr : r < i) : Sp n rs.length (lnm A rs cs) (A r) := h.rows hr (Nat.le_refl _) fun a ha _ => ha
end
section
variable {A B : Nat → Nat → Int} {n i k : Nat} {rs cs rs' cs' : List Nat} {odd odd' : Bool}
end
theorem zsI : ∀ (n : Nat) (l : List Nat), l.length = n → l.Nodup → (∃ s, Mv l (srt l) s) ∧ (srt l).Pairwise (· < ·) ∧ (srt l).length = l.length ∧ ∀ c, c ∈ srt l ↔ c ∈ l
 | 0, l, h, _ => by
  obtain rfl := List.length_eq_zero_iff.1 h; exact ⟨⟨false, Mv.refl _⟩, by simp [srt], rfl, fun c => by simp [srt]⟩
 | n + 1, l, h, hn => by
  have hne : l ≠ [] := fun e => by subst e; simp at h
  obtain ⟨m, c, rfl⟩ : ∃ m c, l = m ++ [c] := ⟨l.dropLast, l.getLast hne, (List.dropLast_concat_getLast hne).symm⟩
  have hn' := List.nodup_append.1 hn; obtain ⟨⟨s, h1⟩, h2, h3, h4⟩ := zsI n m (by simpa using h) hn'.1; have hc : c ∉ srt m := fun q => hn'.2.2 c ((h4 c).1 q) c (by simp) rfl
  rw [zHG]; refine ⟨⟨_, (h1.app [c]).trans (Mv.ins c h2)⟩, zuG h2 hc, by rw [zBF, h3]; simp, fun x => ?_⟩; rw [ins_mem, h4 x]
  simp
  exact Or.comm
theorem dl_dup {M : Nat → Nat → Int} {l : List Nat} (h : ¬ l.Nodup) : dl M l = 0 := by
 have : ∃ a b, a < b ∧ b < l.length ∧ l.getD a 0 = l.getD b 0 := by
  apply Classical.byContradiction
  intro q; refine h (List.pairwise_iff_getElem.2 fun a b ha hb hab e => q ⟨a, b, hab, hb, ?_⟩); simp [ha, hb, e]
 obtain ⟨a, b, hab, hb, e⟩ := this; exact zSE _ (show a < l.length by omega) hb (by omega) fun r _ => by rw [e]
theorem zCH {p : Int} {M : Nat → Nat → Int} {n k : Nat} (h : ∀ cs : List Nat, cs.length = k → cs.Pairwise (· < ·) → (∀ c ∈ cs, c < n) → p ∣ dl M cs) (l : List Nat) (hl : l.length = k) (hn : ∀ c ∈ l, c < n) : p ∣ dl M l := by
 by_cases q : l.Nodup
 ·obtain ⟨⟨s, h1⟩, h2, h3, h4⟩ := zsI _ l rfl q
  have e := h1 M [] []; simp only [List.nil_append, List.append_nil] at e; rw [e]; exact Int.dvd_mul_of_dvd_right (h _ (by rw [h3, hl]) h2 fun c hc => hn c ((h4 c).1 hc))
 ·rw [dl_dup q]; exact Int.dvd_zero p
theorem zoG {k : Nat} (R : Nat → Nat) {a : Nat} (ha : a < k) : ((List.range k).map R).getD a 0 = R a := by simp [ha]
theorem dvd_minors {p : Int} {A : Nat → Nat → Int} {i n k : Nat} (h : ∀ rs cs : List Nat, rs.length = k → cs.length = k → rs.Pairwise (· < ·) → cs.Pairwise (· < ·) → (∀ r ∈ rs, r < i) → (∀ c ∈ cs, c < n) → p ∣ det k fun a b => A (rs.getD a 0) (cs.getD b 0))
  (R M : Nat → Nat) (hR : ∀ a, a < k → R a < i) (hM : ∀ b, b < k → M b < n) : p ∣ det k fun a b => A (R a) (M b) := by
 have h1 : ∀ rs : List Nat, rs.length = k → rs.Pairwise (· < ·) → (∀ r ∈ rs, r < i) → p ∣ det k fun a b => A (rs.getD a 0) (M b) := fun rs l1 u1 b1 => by
  have := zCH (p := p) (M := fun a b => A (rs.getD a 0) b) (n := n) (k := k) (fun cs l2 u2 b2 => by
   have := h rs cs l1 l2 u1 u2 b1 b2; unfold dl; rw [l2]; exact this) ((List.range k).map M) (by simp) (fun c hc => by
    obtain ⟨x, hx, rfl⟩ := List.mem_map.1 hc; exact hM x (List.mem_range.1 hx))
  unfold dl at this; rw [List.length_map, List.length_range] at this; rw [zHA (B := fun a b => A (rs.getD a 0) (((List.range k).map M).getD b 0)) fun a b ha hb => by rw [zoG M hb]]; exact this
 have := zCH (p := p) (M := fun a b => A b (M a)) (n := i) (k := k) (fun cs l2 u2 b2 => by
  have := h1 cs l2 u2 b2; unfold dl; rw [l2, ← zgA]; exact this) ((List.range k).map R) (by simp) (fun c hc => by
   obtain ⟨x, hx, rfl⟩ := List.mem_map.1 hc; exact hR x (List.mem_range.1 hx))
 unfold dl at this; rw [List.length_map, List.length_range, ← zgA] at this; rw [zHA (B := fun a b => A (((List.range k).map R).getD a 0) (M b)) fun a b ha hb => by rw [zoG R ha]]; exact this
def Dvm (p : Int) (A : Nat → Nat → Int) (i n k : Nat) : Prop := ∀ R M : Nat → Nat, (∀ a, a < k → R a < i) → (∀ b, b < k → M b < n) → p ∣ det k fun a b => A (R a) (M b)
theorem Dvm.next {p : Int} {A : Nat → Nat → Int} {i n k : Nat} (h : Dvm p A i n k) : Dvm p A i n (k + 1) := fun R M hR hM =>
 zZH fun x hx => Int.dvd_mul_of_dvd_right (h (fun r => R (skd x r)) (fun c => M (c + 1)) (fun a ha => hR _ (by unfold skd; split <;> omega)) fun b hb => hM _ (by omega))
theorem Dvm.up {p : Int} {A : Nat → Nat → Int} {i n k : Nat} (h : Dvm p A i n k) : ∀ d, Dvm p A i n (k + d)
 | 0 => h
 | d + 1 => (Dvm.up h d).next
theorem Stz.zero14 {A : Nat → Nat → Int} {i n k : Nat} {rs cs : List Nat} {odd : Bool} (h : Stz A n i rs cs odd) : Dvm 0 A i n k ↔ rs.length < k := by
 constructor
 ·intro q
  apply Classical.byContradiction
  intro c; have := q.up (rs.length - k) (gd rs) (gd cs) (fun a ha => h.lt _ (by simp [show a < rs.length by omega])) fun b hb => h.colt (by omega)
  rw [show k + (rs.length - k) = rs.length by omega] at this; exact h.nz _ (Nat.le_refl _) (Int.zero_dvd.1 this)
 ·intro q R M hR hM
  rw [Sp.det0 (X := fun a => A (R a)) (fun a ha => h.all (hR a ha)) q hM]; exact Int.dvd_zero 0
theorem Dvm.rows {p : Int} {A B : Nat → Nat → Int} {i m n k : Nat} (h : Dvm p A i n k) (E : Nat → Nat → Int) (hB : ∀ a b, a < m → b < n → B a b = su i fun r => E a r * A r b) : Dvm p B m n k := fun R M hR hM => by
 have hs : ∀ s, s ≤ k → ∀ Q : Nat → Nat, (∀ a, a < k → Q a < i) → p ∣ det k fun a b => if a < s then su i (fun r => E (R a) r * A r (M b)) else A (Q a) (M b) := by
  intro s
  induction s with
  | zero =>
   intro _ Q hQ; have := h Q M hQ hM; rw [zHA (B := fun a b => A (Q a) (M b)) fun a b _ _ => by rw [if_neg (by omega)]]; exact this
  | succ s ih =>
   intro hsk Q hQ; have e : det k (fun a b => if a < s + 1 then su i (fun r => E (R a) r * A r (M b)) else A (Q a) (M b)) = su i fun r => E (R s) r * det k (stR (fun a b => if a < s then su i (fun r => E (R a) r * A r (M b)) else A (Q a) (M b)) s fun b => A r (M b)) := by
    rw [← (zaA k).sum (show s < k by omega) (E (R s)) (fun r b => A r (M b)) i]; refine zHA fun a b _ _ => ?_
    by_cases q : a = s
    ·subst q; rw [zTA, if_pos (by omega)]
    ·rw [zMA _ q]
     by_cases c : a < s
     ·rw [if_pos c, if_pos (by omega)]
     ·rw [if_neg c, if_neg (by omega)]
   rw [e]; refine zZH fun r hr => Int.dvd_mul_of_dvd_right ?_
   have := ih (by omega) (fun a => if a = s then r else Q a) fun a ha => by split <;> first | exact hr | exact hQ a ha
   rw [zHA (B := fun a b => if a < s then su i (fun r => E (R a) r * A r (M b)) else A (if a = s then r else Q a) (M b)) fun a b _ _ => by
    by_cases q : a = s
    ·subst q; rw [zTA, if_neg (by omega), if_pos rfl]
    ·rw [zMA _ q, if_neg q]]
   exact this
 have := hs k (Nat.le_refl _) (fun _ => 0)
 by_cases k0 : k = 0
 ·subst k0
  have := h (fun _ => 0) (fun _ => 0) (fun a ha => by omega) fun b hb => by omega
  exact this
 ·by_cases i0 : i = 0
  ·have hz : det k (fun a b => B (R a) (M b)) = 0 := (zaA k).nul (i := 0) (by omega) fun b hb => by
    rw [hB _ _ (hR 0 (by omega)) (hM b hb), i0]; rfl
   rw [hz]; exact Int.dvd_zero p
  ·have := hs k (Nat.le_refl _) (fun _ => 0) fun a _ => by omega
   rw [zHA (B := fun a b => if a < k then su i (fun r => E (R a) r * A r (M b)) else A 0 (M b)) fun a b ha hb => by rw [if_pos ha]; exact hB _ _ (hR a ha) (hM b hb)]; exact this
def vcl (A : Nat → Nat → Int) (n c i : Nat) : Int := if c < n then A i c else dlz (c - n) i
def dcl (A : Nat → Nat → Int) (m n : Nat) (f : Nat → Nat) : Int := det m fun p => vcl A n (f p)
def stf (f : Nat → Nat) (i c : Nat) : Nat → Nat := fun p => if p = i then c else f p
theorem zRD (A : Nat → Nat → Int) (m n : Nat) (f : Nat → Nat) (i c : Nat) : dcl A m n (stf f i c) = det m (stR (fun p => vcl A n (f p)) i (vcl A n c)) := by
 unfold dcl
 congr 1
 funext p k
 unfold stf stR
 split <;> rfl
theorem zpC {A : Nat → Nat → Int} {m n : Nat} {f g : Nat → Nat} (h : ∀ p, p < m → f p = g p) : dcl A m n f = dcl A m n g := zHA fun p k hp _ => by rw [h p hp]
theorem zFH {m k : Nat} (B : Nat → Nat → Int) (u : Nat → Int) (hk : k < m) : su m (fun i => det m (stR B i u) * B i k) = det m B * u k := by
 have h1 : ∀ i, i < m → det m (stR B i u) * B i k = su m fun t => u t * (adz m B t i * B i k) := fun i hi => by
  rw [← zMI B hi u, ← zGG]; exact zQA fun t _ => by grind
 rw [zQA h1, zFG]; have h2 : ∀ t, t < m → su m (fun i => u t * (adz m B t i * B i k)) = if t = k then u k * det m B else 0 := fun t ht => by
  rw [zwB, mul_adz B ht hk]
  by_cases q : t = k
  ·subst q; rw [if_pos rfl, if_pos rfl]
  ·rw [if_neg q, if_neg q, Int.mul_zero]
 rw [zQA h2, zEB hk (fun t _ ht => if_neg ht), if_pos rfl, Int.mul_comm]
theorem zFI {m p i : Nat} (B : Nat → Nat → Int) (u : Nat → Int) (hp : p < m) (hi : i < m) (h : i ≠ p) : det m (stR (stR B p u) i (B p)) = - det m (stR B i u) := by
 rw [← (zaA m).swap (A := stR B i u) hp hi (Ne.symm h)]
 congr 1
 funext r c
 unfold stR
 by_cases a : r = i
 ·rw [if_pos a, if_pos a, if_neg (Ne.symm h)]
 ·by_cases b : r = p
  ·rw [if_neg a, if_neg a, if_pos b, if_pos b, if_pos rfl]
  ·rw [if_neg a, if_neg a, if_neg b, if_neg b, if_neg a]
theorem su_pick14 {m i p : Nat} {F : Nat → Int} (hi : i < m) (hp : p < m) (h : i ≠ p) (hz : ∀ t, t < m → t ≠ i → t ≠ p → F t = 0) : su m F = F i + F p := by
 have e : ∀ t, t < m → F t = (if t = i then F i else 0) + (if t = p then F p else 0) := fun t ht => by
  by_cases a : t = i
  ·subst a; rw [if_pos rfl, if_neg h, Int.add_zero]
  ·by_cases b : t = p
   ·subst b; rw [if_neg a, if_pos rfl, Int.zero_add]
   ·rw [if_neg a, if_neg b, hz t ht a b]; rfl
 rw [zQA e, zsD, zEB hi (fun k _ hk => if_neg hk), zEB hp (fun k _ hk => if_neg hk), if_pos rfl, if_pos rfl]
structure Tbl (A : Nat → Nat → Int) (m n : Nat) (f g : Nat → Nat) (by_ : Nat → Nat → Int) (d : Int) : Prop where
 nz : d ≠ 0
 de : dcl A m n f = d
 be : ∀ i j, i < m → j < n → by_ i j = dcl A m n (stf f i (g j))
 fi : ∀ i j, i < m → j < m → f i = f j → i = j
 gi : ∀ i j, i < n → j < n → g i = g j → i = j
 fg : ∀ i j, i < m → j < n → f i ≠ g j
 fl : ∀ i, i < m → f i < n + m
 gl : ∀ j, j < n → g j < n + m
 cov : ∀ c, c < n + m → (∃ i, i < m ∧ f i = c) ∨ ∃ j, j < n ∧ g j = c
def exch (by_ : Nat → Nat → Int) (d : Int) (p q : Nat) (x : Nat → Nat → Int) : Nat → Nat → Int := fun i j => if i = p then (if j = q then d else by_ p j) else if j = q then - by_ i q else x i j
theorem Tbl.start (A : Nat → Nat → Int) (m n : Nat) : Tbl A m n (fun i => n + i) (fun j => j) A 1 := by
 have e : ∀ p k, vcl A n (n + p) k = dlz p k := fun p k => by unfold vcl; rw [if_neg (by omega), Nat.add_sub_cancel_left]
 refine ⟨by decide, ?_, fun i j hi hj => ?_, fun i j _ _ h => by omega, fun i j _ _ h => h, fun i j _ _ => by omega, fun i h => by omega, fun j h => by omega, fun c hc => ?_⟩
 ·unfold dcl
  rw [zHA (B := dlz) fun p k _ _ => e p k]; exact zoC m
 ·rw [zRD, zHA (B := stR dlz i fun k => su m fun t => A t j * dlz t k) fun r c hr hc => ?_, zEH dlz hi fun t => A t j, zoC, Int.mul_one]
  unfold stR
  by_cases q : r = i
  ·rw [if_pos q, if_pos q]
   show vcl A n j c = su m fun t => A t j * dlz t c
   rw [znI hc]; unfold vcl; rw [if_pos hj]
  ·rw [if_neg q, if_neg q]; exact e r c
 ·by_cases q : c < n
  ·exact .inr ⟨c, q, rfl⟩
  ·exact .inl ⟨c - n, by omega, by omega⟩
theorem Tbl.comb {A : Nat → Nat → Int} {m n : Nat} {f g : Nat → Nat} {by_ : Nat → Nat → Int} {d : Int} (h : Tbl A m n f g by_ d) {j k : Nat} (hj : j < n) (hk : k < m) : d * vcl A n (g j) k = su m fun i => by_ i j * vcl A n (f i) k := by
 rw [zQA (g := fun i => det m (stR (fun p => vcl A n (f p)) i (vcl A n (g j))) * vcl A n (f i) k) fun i hi => by rw [h.be i j hi hj, zRD], zFH (fun p => vcl A n (f p)) (vcl A n (g j)) hk]; rw [← h.de]
 rfl
theorem Tbl.cross {A : Nat → Nat → Int} {m n : Nat} {f g : Nat → Nat} {by_ : Nat → Nat → Int} {d : Int} (h : Tbl A m n f g by_ d) {p q i j : Nat} (hp : p < m) (hq : q < n) (hi : i < m) (hj : j < n) (hip : i ≠ p) :
  by_ p q * by_ i j - by_ i q * by_ p j = d * dcl A m n (stf (stf f p (g q)) i (g j)) := by
 obtain ⟨B, hB⟩ : ∃ B, (fun r => vcl A n (f r)) = B := ⟨_, rfl⟩
 have e0 : dcl A m n (stf (stf f p (g q)) i (g j)) = det m (stR (stR B p (vcl A n (g q))) i (vcl A n (g j))) := by
  rw [zRD, ← hB]
  congr 2
  funext r k
  unfold stf stR
  split <;> rfl
 have hlin : ∀ x : Nat → Int, det m (stR (stR B p (vcl A n (g q))) i fun k => su m fun t => x t * B t k) = su m fun t => x t * det m (stR (stR B p (vcl A n (g q))) i (B t)) := fun x => (zaA m).sum hi x B m
 have h1 : d * det m (stR (stR B p (vcl A n (g q))) i (vcl A n (g j))) = su m fun t => by_ t j * det m (stR (stR B p (vcl A n (g q))) i (B t)) := by
  rw [← hlin, ← (zaA m).mul hi]; refine zHA fun r k hr hk => ?_
  unfold stR
  by_cases e : r = i
  ·rw [if_pos e, if_pos e]
   show d * vcl A n (g j) k = su m fun t => by_ t j * B t k
   rw [h.comb hj hk, ← hB]
  ·rw [if_neg e, if_neg e]
 rw [e0, h1]; have h2 : ∀ t, t < m → t ≠ i → t ≠ p → by_ t j * det m (stR (stR B p (vcl A n (g q))) i (B t)) = 0 := fun t ht h1 h2 => by
  rw [(zaA m).same (i := t) (k := i) ht hi h1 fun k _ => by
   unfold stR; rw [if_neg h1, if_neg h2, if_pos rfl], Int.mul_zero]
 rw [su_pick14 hi hp hip h2, zFI B _ hp hi hip]; have e1 : det m (stR (stR B p (vcl A n (g q))) i (B i)) = by_ p q := by
  rw [h.be p q hp hq, zRD, hB]
  congr 1
  funext r k
  unfold stR
  by_cases e : r = i
  ·subst e; rw [if_pos rfl, if_neg hip]
  ·rw [if_neg e]
 have e2 : det m (stR B i (vcl A n (g q))) = by_ i q := by rw [h.be i q hi hq, zRD, hB]
 rw [e1, e2]
 grind
theorem zsE {f : Nat → Nat} {i c p : Nat} (h : p ≠ i) : stf f i c p = f p := if_neg h
theorem zdG {f : Nat → Nat} {i c : Nat} : stf f i c i = c := if_pos rfl
theorem Tbl.exchange {A : Nat → Nat → Int} {m n : Nat} {f g : Nat → Nat} {by_ x : Nat → Nat → Int} {d : Int} (h : Tbl A m n f g by_ d) {p q : Nat} (hp : p < m) (hq : q < n) (hnz : by_ p q ≠ 0) (hx : ∀ i j, i < m → j < n → i ≠ p → j ≠ q → d * x i j = by_ p q * by_ i j - by_ i q * by_ p j) :
  Tbl A m n (stf f p (g q)) (stf g q (f p)) (exch by_ d p q x) (by_ p q) := by
 refine ⟨hnz, (h.be p q hp hq).symm, fun i j hi hj => ?_, fun i j hi hj e => ?_, fun i j hi hj e => ?_, fun i j hi hj e => ?_, fun i hi => ?_, fun j hj => ?_, fun c hc => ?_⟩
 ·unfold exch
  by_cases ei : i = p
  ·subst ei
   rw [if_pos rfl]
   by_cases ej : j = q
   ·subst ej
    rw [if_pos rfl, zdG, ← h.de]; exact zpC fun r hr => by
     unfold stf
     by_cases e : r = i
     ·rw [if_pos e, e]
     ·rw [if_neg e, if_neg e]
   ·rw [if_neg ej, zsE ej, h.be i j hi hj]
    exact zpC fun r hr => by
     unfold stf
     by_cases e : r = i
     ·rw [if_pos e, if_pos e]
     ·rw [if_neg e, if_neg e, if_neg e]
  ·rw [if_neg ei]
   by_cases ej : j = q
   ·subst ej
    rw [if_pos rfl, zdG, h.be i j hi hj, zRD, ← zFI _ _ hp hi ei, zRD]
    congr 2
    funext r k
    unfold stf stR
    split <;> rfl
   ·rw [if_neg ej, zsE ej]
    have h1 := hx i j hi hj ei ej; rw [h.cross hp hq hi hj ei] at h1; exact Int.eq_of_mul_eq_mul_left h.nz h1
 ·unfold stf at e
  by_cases a : i = p <;> by_cases b : j = p
  ·omega
  ·rw [if_pos a, if_neg b] at e; exact absurd e.symm (h.fg j q hj hq)
  ·rw [if_neg a, if_pos b] at e; exact absurd e (h.fg i q hi hq)
  ·rw [if_neg a, if_neg b] at e; exact h.fi i j hi hj e
 ·unfold stf at e
  by_cases a : i = q <;> by_cases b : j = q
  ·omega
  ·rw [if_pos a, if_neg b] at e; exact absurd e (h.fg p j hp hj)
  ·rw [if_neg a, if_pos b] at e; exact absurd e.symm (h.fg p i hp hi)
  ·rw [if_neg a, if_neg b] at e; exact h.gi i j hi hj e
 ·unfold stf at e
  by_cases a : i = p <;> by_cases b : j = q
  ·rw [if_pos a, if_pos b] at e; exact absurd e.symm (h.fg p q hp hq)
  ·rw [if_pos a, if_neg b] at e; exact b (h.gi q j hq hj e).symm
  ·rw [if_neg a, if_pos b] at e; exact a (h.fi i p hi hp e)
  ·rw [if_neg a, if_neg b] at e; exact h.fg i j hi hj e
 ·unfold stf; split
  ·exact h.gl q hq
  ·exact h.fl i hi
 ·unfold stf; split
  ·exact h.fl p hp
  ·exact h.gl j hj
 ·rcases h.cov c hc with ⟨i, hi, e⟩ | ⟨j, hj, e⟩
  ·by_cases a : i = p
   ·exact .inr ⟨q, hq, by rw [zdG, ← a]; exact e⟩
   ·exact .inl ⟨i, hi, by rw [zsE a]; exact e⟩
  ·by_cases b : j = q
   ·exact .inl ⟨p, hp, by rw [zdG, ← b]; exact e⟩
   ·exact .inr ⟨j, hj, by rw [zsE b]; exact e⟩
end Go.Proofs.YtplldfnldaehiaaGreat
