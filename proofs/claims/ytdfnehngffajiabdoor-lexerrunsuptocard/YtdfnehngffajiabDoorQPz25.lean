/-
  Pz25: what the program holds between two characters, in numbers.
-/
import Derived.Test.YtdfnehngffajiabDoorQLn25ToTo25
import Derived.Test.YtdfnehngffajiabDoorQKd25
namespace Go.Proofs.YtdfnehngffajiabDoor
open Go.RowKit
set_option linter.unusedVariables false

theorem letS_iff (v : Nat) : letS v = true ↔ (letP v = true ∨ v = 95) := by
  unfold letS letP
  simp only [decide_eq_true_eq]
  omega
theorem letP_mk {v : Nat} (h : letP v = true) : mkS v = ⟨#[]⟩ := by
  unfold letP at h
  simp only [decide_eq_true_eq] at h
  unfold mkS
  rw [if_neg (by omega), if_neg (by omega), if_neg ?_]
  simp only [List.mem_cons, List.not_mem_nil, or_false, not_or]
  omega
theorem mk_low : mkS 95 = ⟨#[]⟩ := by decide +kernel
theorem blkS_iff (v : Nat) : blkS v = true ↔ (v = 32 ∨ v = 9 ∨ v = 160) := by unfold blkS; simp only [decide_eq_true_eq]
theorem digS_iff (v : Nat) : digS v = true ↔ (48 ≤ v ∧ v ≤ 57) := by unfold digS; simp only [decide_eq_true_eq]
theorem letP_iff (v : Nat) : letP v = true ↔ ((97 ≤ v ∧ v ≤ 122) ∨ (65 ≤ v ∧ v ≤ 90) ∨ (192 ≤ v ∧ v ≤ 687 ∧ v ≠ 215 ∧ v ≠ 247) ∨ (880 ≤ v ∧ v ≤ 1023)) := by unfold letP; simp only [decide_eq_true_eq]
theorem kd_cases (V N : Nat) (h : N ≠ 0) :
    (kdS V N = 1 ∧ ¬ blkS V = true ∧ V ≠ 35 ∧ ¬ digS V = true ∧ ¬ letS V = true ∧ mkS V = ⟨#[]⟩) ∨
    (kdS V N = 2 ∧ blkS V = true) ∨ (kdS V N = 3 ∧ ¬ blkS V = true ∧ V = 35) ∨ (kdS V N = 4 ∧ ¬ blkS V = true ∧ V ≠ 35 ∧ digS V = true) ∨
    (kdS V N = 5 ∧ ¬ blkS V = true ∧ V ≠ 35 ∧ ¬ digS V = true ∧ letS V = true ∧ V = 95) ∨
    (kdS V N = 6 ∧ ¬ blkS V = true ∧ V ≠ 35 ∧ ¬ digS V = true ∧ letS V = true ∧ V ≠ 95) ∨
    (kdS V N = 7 ∧ ¬ blkS V = true ∧ V ≠ 35 ∧ ¬ digS V = true ∧ ¬ letS V = true ∧ ¬ mkS V = ⟨#[]⟩) := by
  unfold kdS
  rw [if_neg h]
  by_cases c1 : blkS V = true
  · rw [if_pos c1]; exact .inr (.inl ⟨rfl, c1⟩)
  rw [if_neg c1]
  by_cases c2 : V = 35
  · rw [if_pos c2]; exact .inr (.inr (.inl ⟨rfl, c1, c2⟩))
  rw [if_neg c2]
  by_cases c3 : digS V = true
  · rw [if_pos c3]; exact .inr (.inr (.inr (.inl ⟨rfl, c1, c2, c3⟩)))
  rw [if_neg c3]
  by_cases c4 : V = 95
  · rw [if_pos c4]; exact .inr (.inr (.inr (.inr (.inl ⟨rfl, c1, c2, c3, (letS_iff V).2 (.inr c4), c4⟩))))
  rw [if_neg c4]
  by_cases c5 : mkS V = ⟨#[]⟩
  · rw [if_pos c5]
    by_cases c6 : letP V = true
    · rw [if_pos c6]; exact .inr (.inr (.inr (.inr (.inr (.inl ⟨rfl, c1, c2, c3, (letS_iff V).2 (.inl c6), c4⟩)))))
    · rw [if_neg c6]
      exact .inl ⟨rfl, c1, c2, c3, fun q => by rcases (letS_iff V).1 q with q | q <;> contradiction, c5⟩
  · rw [if_neg c5]
    exact .inr (.inr (.inr (.inr (.inr (.inr ⟨rfl, c1, c2, c3, fun q => by
      rcases (letS_iff V).1 q with q | q
      · exact c5 (letP_mk q)
      · exact c4 q, c5⟩)))))
theorem kd_num {V N : Nat} (h : N ≠ 0) : okC true V = true ↔ (kdS V N = 4 ∨ kdS V N = 5) := by
  have e : okC true V = (digS V || V == 95) := by unfold okC; simp
  rw [e]
  have hb : digS V = true → ¬ blkS V = true ∧ V ≠ 35 ∧ V ≠ 95 := fun q => by rw [digS_iff] at q; rw [blkS_iff]; omega
  have h95 : V = 95 → ¬ blkS V = true ∧ V ≠ 35 ∧ ¬ digS V = true := fun q => by rw [digS_iff, blkS_iff]; omega
  rcases kd_cases V N h with ⟨k, r⟩ | ⟨k, r⟩ | ⟨k, r⟩ | ⟨k, r⟩ | ⟨k, r⟩ | ⟨k, r⟩ | ⟨k, r⟩ <;> rw [k] <;> simp only [Bool.or_eq_true, beq_iff_eq]
  · constructor
    · rintro (q | q)
      · exact absurd q r.2.2.1
      · exact absurd ((letS_iff V).2 (.inr q)) r.2.2.2.1
    · omega
  · constructor
    · rintro (q | q)
      · exact absurd r (hb q).1
      · exact absurd r (h95 q).1
    · omega
  · constructor
    · rintro (q | q)
      · exact absurd r.2 (hb q).2.1
      · omega
    · omega
  · exact ⟨fun _ => .inl trivial, fun _ => .inl r.2.2⟩
  · exact ⟨fun _ => .inr trivial, fun _ => .inr r.2.2.2.2⟩
  · constructor
    · rintro (q | q)
      · exact absurd q r.2.2.1
      · exact absurd q r.2.2.2.2
    · omega
  · constructor
    · rintro (q | q)
      · exact absurd q r.2.2.1
      · exact absurd ((letS_iff V).2 (.inr q)) r.2.2.2.1
    · omega
theorem kd_nam {V N : Nat} (h : N ≠ 0) : okC false V = true ↔ (kdS V N = 4 ∨ kdS V N = 5 ∨ kdS V N = 6) := by
  have e : (okC false V = true) ↔ (digS V = true ∨ letS V = true) := by
    unfold okC
    simp only [Bool.or_eq_true, beq_iff_eq, Bool.not_false, Bool.true_and]
    have := letS_iff V
    constructor
    · rintro (q | q | q)
      · exact .inl q
      · exact .inr (this.2 (.inr q))
      · exact .inr q
    · rintro (q | q)
      · exact .inl q
      · exact .inr (.inr q)
  rw [e]
  have hb : digS V = true → ¬ blkS V = true ∧ V ≠ 35 := fun q => by rw [digS_iff] at q; rw [blkS_iff]; omega
  have hl : letS V = true → ¬ blkS V = true ∧ V ≠ 35 := fun q => by rw [letS_iff, letP_iff] at q; rw [blkS_iff]; omega
  rcases kd_cases V N h with ⟨k, r⟩ | ⟨k, r⟩ | ⟨k, r⟩ | ⟨k, r⟩ | ⟨k, r⟩ | ⟨k, r⟩ | ⟨k, r⟩ <;> rw [k]
  · constructor
    · rintro (q | q)
      · exact absurd q r.2.2.1
      · exact absurd q r.2.2.2.1
    · omega
  · constructor
    · rintro (q | q)
      · exact absurd r (hb q).1
      · exact absurd r (hl q).1
    · omega
  · constructor
    · rintro (q | q)
      · exact absurd r.2 (hb q).2
      · exact absurd r.2 (hl q).2
    · omega
  · exact ⟨fun _ => .inl rfl, fun _ => .inl r.2.2⟩
  · exact ⟨fun _ => .inr (.inl rfl), fun _ => .inr r.2.2.2.1⟩
  · exact ⟨fun _ => .inr (.inr rfl), fun _ => .inr r.2.2.2.1⟩
  · constructor
    · rintro (q | q)
      · exact absurd q r.2.2.1
      · exact absurd q r.2.2.2.1
    · omega
/-- An open run of j characters. -/
def RunS (s : ByteArray) (g : ByteArray → Int) (op b rc j : Nat) (L0 : List Tok) : Prop :=
  TkN s g b rc L0 ∧ b < s.size ∧ 1 ≤ j ∧ gdS s b j ∧ (∀ i, i < j → okC (op == 1) (chS s (ps s b i)).1 = true) ∧ ((op = 1 ∧ ¬ blkS (chS s b).1 = true ∧ (chS s b).1 ≠ 35 ∧ digS (chS s b).1 = true) ∨ (op = 2 ∧ ¬ blkS (chS s b).1 = true ∧ (chS s b).1 ≠ 35 ∧ ¬ digS (chS s b).1 = true ∧ letS (chS s b).1 = true))
/-- A comment of j characters. -/
def ComS (s : ByteArray) (g : ByteArray → Int) (b c j : Nat) (L0 : List Tok) : Prop := TkN s g b c L0 ∧ b < s.size ∧ 1 ≤ j ∧ gdS s b j ∧ (chS s b).1 = 35
/-- Between two characters, at the place p, ahead of the column c. -/
def StS (s : ByteArray) (g : ByteArray → Int) (op b rc : Nat) (cm : Bool) (p c : Nat) (L0 : List Tok) : Prop :=
  (op = 0 ∧ cm = false ∧ TkN s g p c L0) ∨ ((op = 1 ∨ op = 2) ∧ cm = false ∧ ∃ j, RunS s g op b rc j L0 ∧ p = ps s b j ∧ c = rc + j) ∨ (op = 0 ∧ cm = true ∧ ∃ b' c' j, ComS s g b' c' j L0 ∧ p = ps s b' j ∧ c = c' + j)
theorem ps_one (s : ByteArray) (p : Nat) : ps s p 1 = p + (chS s p).2 := rfl
theorem RunS.more {s : ByteArray} {g : ByteArray → Int} {op b rc j p : Nat} {L0 : List Tok} (h : RunS s g op b rc j L0) (hp : p = ps s b j) (h1 : p < s.size) (h2 : (chS s p).2 ≠ 0) (h3 : okC (op == 1) (chS s p).1 = true) : RunS s g op b rc (j + 1) L0 ∧ p + (chS s p).2 = ps s b (j + 1) := by
  subst hp
  obtain ⟨a1, a2, a3, a4, a5, a6⟩ := h
  refine ⟨⟨a1, a2, by omega, a4.succ h1 h2, fun i hi => ?_, a6⟩, rfl⟩
  by_cases e : i = j
  · subst e; exact h3
  · exact a5 i (by omega)
theorem RunS.ends {s : ByteArray} {g : ByteArray → Int} {op b rc j p : Nat} {L0 : List Tok} (h : RunS s g op b rc j L0) (hp : p = ps s b j) (hn : ¬ (p < s.size ∧ (chS s p).2 ≠ 0 ∧ okC (op == 1) (chS s p).1 = true)) :
    (op = 1 → (g (s.extract b p) = 0 → TkN s g p (rc + j) (L0 ++ [⟨1, s.extract b p, (rc : Int)⟩])) ∧ (g (s.extract b p) ≠ 0 → Tkn s g 0 1 [] (rc : Int) 7)) ∧
    (op = 2 → (32 < p - b → Tkn s g 0 1 [] (rc : Int) 17) ∧ (¬ 32 < p - b → TkN s g p (rc + j) (L0 ++ [⟨2, s.extract b p, (rc : Int)⟩]))) := by
  subst hp
  obtain ⟨a1, a2, a3, a4, a5, a6⟩ := h
  have hE : RunE s b (op == 1) j := ⟨a4, a5, hn⟩
  have h0 : ¬ (chS s b).2 = 0 := (a4 0 (by omega)).2
  constructor
  · intro e
    subst e
    obtain ⟨_, b1, b2, b3⟩ | ⟨q, _⟩ := a6
    · have hk : runK s b true = j := runK_eq hE
      constructor
      · intro hg
        refine a1.next ?_
        unfold sp25
        rw [if_neg (by omega), if_neg h0, if_neg b1, if_neg b2, if_pos b3, hk, if_pos hg]
      · intro hg
        refine a1.bad ?_ (by omega)
        unfold sp25
        rw [if_neg (by omega), if_neg h0, if_neg b1, if_neg b2, if_pos b3, hk, if_neg hg]
    · omega
  · intro e
    subst e
    obtain ⟨q, _⟩ | ⟨_, b1, b2, b3, b4⟩ := a6
    · omega
    · have hk : runK s b false = j := runK_eq hE
      constructor
      · intro hg
        refine a1.bad ?_ (by omega)
        unfold sp25
        rw [if_neg (by omega), if_neg h0, if_neg b1, if_neg b2, if_neg b3, if_pos b4, hk, if_pos hg]
      · intro hg
        refine a1.next ?_
        unfold sp25
        rw [if_neg (by omega), if_neg h0, if_neg b1, if_neg b2, if_neg b3, if_pos b4, hk, if_neg hg]
theorem ComS.more {s : ByteArray} {g : ByteArray → Int} {b c j p : Nat} {L0 : List Tok} (h : ComS s g b c j L0) (hp : p = ps s b j) (h1 : p < s.size) (h2 : (chS s p).2 ≠ 0) : ComS s g b c (j + 1) L0 ∧ p + (chS s p).2 = ps s b (j + 1) := by
  subst hp
  obtain ⟨a1, a2, a3, a4, a5⟩ := h
  exact ⟨⟨a1, a2, by omega, a4.succ h1 h2, a5⟩, rfl⟩
theorem ComS.sp {s : ByteArray} {g : ByteArray → Int} {b c j : Nat} {L0 : List Tok} (h : ComS s g b c j L0) : sp25 s g b c = (if (colK s b).2 = 0 then .stop 0 0 else .stop ((c : Int) + ((colK s b).1 : Nat)) 12) := by
  obtain ⟨a1, a2, a3, a4, a5⟩ := h
  have h0 : ¬ (chS s b).2 = 0 := (a4 0 (by omega)).2
  unfold sp25
  rw [if_neg (by omega), if_neg h0, if_neg ?_, if_pos a5]
  rw [a5]
  decide
theorem ComS.bad {s : ByteArray} {g : ByteArray → Int} {b c j p : Nat} {L0 : List Tok} (h : ComS s g b c j L0) (hp : p = ps s b j) (h1 : p < s.size) (h2 : (chS s p).2 = 0) : Tkn s g 0 1 [] ((c + j : Nat) : Int) 12 := by
  subst hp
  have e := h.sp
  have hc : ColE s b j 12 := ⟨h.2.2.2.1, .inr ⟨rfl, h1, h2⟩⟩
  rw [colK_eq hc, if_neg (by simp)] at e
  have := h.1.bad e (by omega)
  rw [Int.natCast_add]
  exact this
theorem ComS.fin {s : ByteArray} {g : ByteArray → Int} {b c j : Nat} {L0 : List Tok} (h : ComS s g b c j L0) (hp : ps s b j = s.size) : Tkn s g 0 1 L0 0 0 := by
  have e := h.sp
  have hc : ColE s b j 0 := ⟨h.2.2.2.1, .inl ⟨rfl, hp⟩⟩
  rw [colK_eq hc, if_pos rfl] at e
  exact h.1.fin e
theorem TkN.ends {s : ByteArray} {g : ByteArray → Int} {c : Nat} {L0 : List Tok} (h : TkN s g s.size c L0) : Tkn s g 0 1 L0 0 0 := h.fin (by unfold sp25; exact if_pos (Nat.lt_irrefl _))
/-- A character at which no token goes on. -/
theorem TkN.char {s : ByteArray} {g : ByteArray → Int} {p c : Nat} {L0 : List Tok} (h : TkN s g p c L0) (h1 : p < s.size) :
    ((chS s p).2 = 0 → Tkn s g 0 1 [] (c : Int) 12) ∧ ((chS s p).2 ≠ 0 →
    (kdS (chS s p).1 (chS s p).2 = 1 ∧ Tkn s g 0 1 [] (c : Int) 13) ∨
    (kdS (chS s p).1 (chS s p).2 = 2 ∧ StS s g 0 0 0 false (p + (chS s p).2) (c + 1) L0) ∨
    (kdS (chS s p).1 (chS s p).2 = 3 ∧ StS s g 0 0 0 true (p + (chS s p).2) (c + 1) L0) ∨
    (kdS (chS s p).1 (chS s p).2 = 4 ∧ StS s g 1 p c false (p + (chS s p).2) (c + 1) L0) ∨
    ((kdS (chS s p).1 (chS s p).2 = 5 ∨ kdS (chS s p).1 (chS s p).2 = 6) ∧ StS s g 2 p c false (p + (chS s p).2) (c + 1) L0) ∨
    (kdS (chS s p).1 (chS s p).2 = 7 ∧ StS s g 0 0 0 false (p + (chS s p).2) (c + 1) (L0 ++ [⟨3, mkS (chS s p).1, (c : Int)⟩]))) := by
  have G1 : (chS s p).2 ≠ 0 → gdS s p 1 := fun h2 => (gdS.zero s p).succ h1 h2
  constructor
  · intro h2
    refine h.bad ?_ (by omega)
    unfold sp25
    rw [if_neg (by omega), if_pos h2]
  · intro h2
    have OK : ∀ (op : Nat) (k : kdS (chS s p).1 (chS s p).2 = 4 ∨ kdS (chS s p).1 (chS s p).2 = 5 ∨ kdS (chS s p).1 (chS s p).2 = 6), (op = 1 → kdS (chS s p).1 (chS s p).2 = 4) → ∀ i, i < 1 → okC (op == 1) (chS s (ps s p i)).1 = true := by
      intro op k k4 i hi
      obtain rfl : i = 0 := by omega
      show okC (op == 1) (chS s p).1 = true
      by_cases e : op = 1
      · rw [e]; exact (kd_num h2).2 (.inl (k4 e))
      · rw [show (op == 1) = false by rw [beq_eq_false_iff_ne]; exact e]
        exact (kd_nam h2).2 k
    rcases kd_cases (chS s p).1 (chS s p).2 h2 with ⟨k, r1, r2, r3, r4, r5⟩ | ⟨k, r1⟩ | ⟨k, r1, r2⟩ | ⟨k, r1, r2, r3⟩ | ⟨k, r1, r2, r3, r4, r5⟩ | ⟨k, r1, r2, r3, r4, r5⟩ | ⟨k, r1, r2, r3, r4, r5⟩
    · refine .inl ⟨k, h.bad ?_ (by omega)⟩
      unfold sp25
      rw [if_neg (by omega), if_neg h2, if_neg r1, if_neg r2, if_neg r3, if_neg r4, if_pos r5]
    · refine .inr (.inl ⟨k, .inl ⟨rfl, rfl, ?_⟩⟩)
      have := h.next (i' := p + (chS s p).2) (c' := c + 1) (t := []) (by unfold sp25; rw [if_neg (by omega), if_neg h2, if_pos r1])
      rwa [List.append_nil] at this
    · exact .inr (.inr (.inl ⟨k, .inr (.inr ⟨rfl, rfl, p, c, 1, ⟨h, h1, Nat.le_refl _, G1 h2, r2⟩, rfl, rfl⟩)⟩))
    · exact .inr (.inr (.inr (.inl ⟨k, .inr (.inl ⟨.inl rfl, rfl, 1, ⟨h, h1, Nat.le_refl _, G1 h2, OK 1 (.inl k) (fun _ => k), .inl ⟨rfl, r1, r2, r3⟩⟩, rfl, rfl⟩)⟩)))
    · exact .inr (.inr (.inr (.inr (.inl ⟨.inl k, .inr (.inl ⟨.inr rfl, rfl, 1, ⟨h, h1, Nat.le_refl _, G1 h2, OK 2 (.inr (.inl k)) (fun q => by omega), .inr ⟨rfl, r1, r2, r3, r4⟩⟩, rfl, rfl⟩)⟩))))
    · exact .inr (.inr (.inr (.inr (.inl ⟨.inr k, .inr (.inl ⟨.inr rfl, rfl, 1, ⟨h, h1, Nat.le_refl _, G1 h2, OK 2 (.inr (.inr k)) (fun q => by omega), .inr ⟨rfl, r1, r2, r3, r4⟩⟩, rfl, rfl⟩)⟩))))
    · refine .inr (.inr (.inr (.inr (.inr ⟨k, .inl ⟨rfl, rfl, h.next ?_⟩⟩))))
      unfold sp25
      rw [if_neg (by omega), if_neg h2, if_neg r1, if_neg r2, if_neg r3, if_neg r4, if_neg r5]
end Go.Proofs.YtdfnehngffajiabDoor
