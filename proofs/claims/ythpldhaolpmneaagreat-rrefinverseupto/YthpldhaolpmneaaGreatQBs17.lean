/-
  Bs17: besideUnit.
-/
import Derived.Test.YthpldhaolpmneaaGreatQCc17ToBu17
namespace Go.Proofs.YthpldhaolpmneaaGreat
open Go.RowKit
set_option linter.unusedVariables false
set_option linter.unusedSimpArgs false

def buP (n : Nat) (P : Nat → Int) (i j : Nat) : Int := if j < n then P (i * n + j) else if j - n = i then 1 else 0
def buQ (n : Nat) (Q : Nat → Int) (i j : Nat) : Int := if j < n then Q (i * n + j) else 1
theorem zl_zeros {w : World} {g n k : Nat} (h : Arr w g (List.replicate n zpair)) (hn : n ≤ 1048576) : Zl w (.slice (some ⟨g, 0, none⟩) n n) (List.replicate n 0) k := by
  have hp := h.prs (B := 0) (Nat.zero_le _) (by simpa using hn) (Nat.le_refl _)
  rw [List.length_replicate] at hp
  refine zl_of hp ⟨by simp, fun j p z hp hz => ?_⟩
  have h1 := List.getElem?_eq_some_iff.1 hp
  have h2 := List.getElem?_eq_some_iff.1 hz
  obtain ⟨q1, q2⟩ := h1
  obtain ⟨q3, q4⟩ := h2
  rw [List.getElem_replicate] at q2 q4
  subst q2 q4
  exact (zm_nil 0 w k).zi
/-- What besideUnit holds between rounds. -/
structure BuJ (w : World) (b1 b3 gr n : Nat) (a : Option Addr) (l cap : Nat) (no : Bool) (ao : Option Addr) (lo co : Nat) (P Q : Nat → Int) (k t : Nat) (C : Nat → Nat → Nat → Value) (s4 : Value) (wx : World) : Prop where
  q : Cel wx b1 24 [.int .i64 (n : Int), .int .i64 (n : Int), .slice a l cap]
  o : Duo wx b3 (.bool no) (.slice ao lo co)
  z : Zm 0 wx (.agg #[.bool no, .slice ao lo co]) 1 k
  r : FilS wx gr n n (fun j u => Qs w u n (rwP n P j) (rwP n Q j) k)
  g : Gln w.heap.size wx s4 t (2 * n) C
  h1 : ∀ i j, i < t → j < n → Zi w (.agg #[C i j 0, C i j 1]) (P (i * n + j)) k ∧ Zi w (.agg #[C i j 2, C i j 3]) (Q (i * n + j)) k
  h2 : ∀ i j, i < t → j < n → Zm 0 wx (.agg #[C i (n + j) 0, C i (n + j) 1]) (if j = i then 1 else 0) k ∧ Zm 0 wx (.agg #[C i (n + j) 2, C i (n + j) 3]) 1 k
  b : Below w.heap.size w wx
  ne : ∀ b, s4.ownBlock = some b → b ≠ gr
theorem BuJ.now {w : World} {b1 b3 gr n : Nat} {a : Option Addr} {l cap : Nat} {no : Bool} {ao : Option Addr} {lo co : Nat} {P Q : Nat → Int} {k t : Nat} {C : Nat → Nat → Nat → Value} {s4 : Value} {wx wy : World} (h : BuJ w b1 b3 gr n a l cap no ao lo co P Q k t C s4 wx) (hb : Below wx.heap.size wx wy) : BuJ w b1 b3 gr n a l cap no ao lo co P Q k t C s4 wy :=
  ⟨h.q.step hb, h.o.step hb, h.z.now hb, h.r.step hb fun _ _ _ q => q, h.g.now hb, h.h1, fun i j hi hj => ⟨(h.h2 i j hi hj).1.now hb, (h.h2 i j hi hj).2.now hb⟩, below_step h.b hb, h.ne⟩
def BuH (w : World) (b1 b3 gr n : Nat) (a : Option Addr) (l cap : Nat) (no : Bool) (ao : Option Addr) (lo co : Nat) (P Q : Nat → Int) (k gk : Nat) (s4 s12 : Value) (wx : World) : Prop :=
  ∃ (t : Nat) (C : Nat → Nat → Nat → Value), s12 = .int .i64 (t : Int) ∧ t ≤ n ∧ gk = n - t ∧ BuJ w b1 b3 gr n a l cap no ao lo co P Q k t C s4 wx
def Bud (w : World) (n : Nat) (P Q : Nat → Int) (k : Nat) (e : Ending) (w' : World) : Prop := ∃ v, e = .returned v ∧ QLs w' v n (2 * n) (buP n P) (buQ n Q) k ∧ Below w.heap.size w w'
theorem BuJ.done {w : World} {b1 b3 gr n : Nat} {a : Option Addr} {l cap : Nat} {no : Bool} {ao : Option Addr} {lo co : Nat} {P Q : Nat → Int} {k : Nat} {C : Nat → Nat → Nat → Value} {s4 : Value} {wx : World} (h : BuJ w b1 b3 gr n a l cap no ao lo co P Q k n C s4 wx) (hn : n ≤ 64) : QLs wx s4 n (2 * n) (buP n P) (buQ n Q) k := by
  refine h.g.qls (by omega) fun i j hi hj => ?_
  unfold buP buQ
  by_cases q : j < n
  · rw [if_pos q, if_pos q]
    exact ⟨(h.h1 i j hi q).1.now h.b, (h.h1 i j hi q).2.now h.b⟩
  · rw [if_neg q, if_neg q]
    have := h.h2 i (j - n) hi (by omega)
    rw [show n + (j - n) = j by omega] at this
    exact ⟨this.1.zi, this.2.zi⟩
set_option maxHeartbeats 6400000 in
set_option maxRecDepth 100000 in
theorem besideUnit17 {w : World} {a : Option Addr} {l cap n k : Nat} {P Q : Nat → Int} (hv : Qs w (.slice a l cap) l P Q k) (hl : l = n * n) (hn : n ≤ 64) (hk1 : 1 ≤ k) (hk : k ≤ 68719476736) :
    Calls Tryz.prog 58 #[qmv n n (.slice a l cap)] w (Bud w n P Q k) := by
  have HRO : Hid (∀ w', Calls Tryz.prog 30 #[.agg #[.int .i64 (n : Int), .int .i64 (n : Int), .slice a l cap]] w' (Rod w w' n n P Q k)) := fun w' => rowsOf17 hv hl hn hn
  obtain ⟨W0, hW⟩ : ∃ W0, w.alloc (.cells #[.int .i64 (n : Int), .int .i64 (n : Int), .slice a l cap] 24) = W0 := ⟨_, rfl⟩
  obtain ⟨b0, sz0⟩ := alo1 w (.cells #[.int .i64 (n : Int), .int .i64 (n : Int), .slice a l cap] 24)
  rw [hW] at b0 sz0
  have CQ : Hid (Cel W0 w.heap.size 24 [.int .i64 (n : Int), .int .i64 (n : Int), .slice a l cap]) := by unfold Hid; rw [← hW]; exact Cel.new w _ _
  have HOF := hid (of_z (n := 1) (by decide) (by decide) W0)
  have B0 := hid b0
  have EW := hid hW
  have HK1 := hid hk1
  have HK := hid hk
  clear hv hl hk1 hk b0 sz0 hW
  show Calls Tryz.prog 58 #[.agg #[.int .i64 (n : Int), .int .i64 (n : Int), .slice a l cap]] w _
  go_enter Tryz.func58, Tryz.ntmps58
  go_wp2_with fail
  rw [EW.out]
  refine HOF.out.mono ?_
  rintro e w1 ⟨r0, rfl, m0, b1⟩
  obtain ⟨no, xo, ao, co, rfl⟩ := m0.parts
  obtain ⟨lo, hlo⟩ : ∃ lo, xo.length = lo := ⟨_, rfl⟩
  rw [hlo] at m0 ⊢
  obtain ⟨V0, hV⟩ : ∃ V0, w1.alloc (duo (.bool no) (.slice ao lo co)) = V0 := ⟨_, rfl⟩
  obtain ⟨b2, sz2⟩ := alo1 w1 (duo (.bool no) (.slice ao lo co))
  rw [hV] at b2 sz2
  have DO : Hid (Duo V0 w1.heap.size (.bool no) (.slice ao lo co)) := by unfold Hid; rw [← hV]; exact Duo.new w1 _ _
  have ZO : Hid (Zm 0 V0 (.agg #[.bool no, .slice ao lo co]) 1 k) := ((m0.mono (Nat.zero_le _)).now b2).more HK1.out
  have CQ2 := hid (CQ.out.step (below_step b1 b2))
  have B2 := hid (below_step B0.out (below_step b1 b2))
  have HRW := hid (HRO.out V0)
  have EV := hid hV
  have q0 := CQ2.out.at (i := 0) rfl
  have q1 := CQ2.out.at (i := 1) rfl
  have q2 := CQ2.out.at (i := 2) rfl
  rw [← hV] at q0 q1 q2
  obtain ⟨b3, hb3⟩ : ∃ b3, w1.heap.size = b3 := ⟨_, rfl⟩
  rw [hb3] at DO
  have E3 := hid hb3
  clear m0 b1 b2 sz2 hV HOF CQ B0 EW hlo HRO hb3
  go_wp2_with fail
  rw [EV.out]
  refine HRW.out.mono ?_
  rintro e w2 ⟨gr, rfl, hgr, hfil, b3'⟩
  obtain ⟨bq, hbq⟩ : ∃ bq, w.heap.size = bq := ⟨_, rfl⟩
  have EQ := hid hbq
  have H0 : Hid (BuH w bq b3 gr n a l cap no ao lo co P Q k n (.slice none 0 0) (.int .i64 0) w2) := ⟨0, fun _ _ _ => .bool false, rfl, Nat.zero_le _, rfl, ⟨by rw [← hbq]; exact CQ2.out.step b3', DO.out.step b3', ZO.out.now b3', hfil, Gln.nil _ _ _ _, fun i j hi => by omega, fun i j hi => by omega, below_step B2.out b3', fun b hb => (by cases hb)⟩⟩
  clear HRW hgr hfil b3' DO ZO CQ2 B2 EV q0 q1 q2 hbq
  rw [E3.out, EQ.out]
  go_wp2_with fail
  go_loopg [4, 12] n (fun gk s4 s12 wx => BuH w bq b3 gr n a l cap no ao lo co P Q k gk s4 s12 wx)
  case atStart => exact H0.out
  case round =>
    clear H0
    obtain ⟨t, C, rfl, htn, hgk, hJ⟩ := hrel
    have J := hid hJ
    have HG := hid hgk
    obtain ⟨sa, sc, rfl⟩ := hJ.g.form
    clear hJ hgk
    by_cases hlt : t < n
    · have hlt' : (t : Int) < (n : Int) := by omega
      have hwt := wrapI9 (i := t) (by omega)
      obtain ⟨ra, n, rc, k0, -, hqs⟩ := J.out.r.cells hlt
      have hq := hqs hlt
      obtain ⟨ra', rc', he, hrc, -, hra⟩ := hq.form
      simp only [Value.slice.injEq] at he
      obtain ⟨he1, he2, he3⟩ := he
      subst he1
      subst he3
      have he4 := he2.symm
      subst he4
      clear he2
      obtain ⟨rb, ro, rfl⟩ := hra (by omega)
      obtain ⟨D0, hD1, hD2, hD3⟩ := hq.cells
      have HD1 := hid hD1
      have HD2 := hid hD2
      have HD3 := hid hD3
      have HMM : Hid (n - (t + 1) < gk) := by unfold Hid; rw [HG.out]; omega
      have z0 := J.out.q.at (i := 0) rfl
      have z1 := J.out.o.c0
      have z2 := J.out.o.c1
      clear hqs hq hrc hra hD1 hD2 hD3 HG
      go_wp2_with fail
      have KB : Hid (∀ w', Below wr.heap.size wr w' → w'.cell? ⟨bq, 0, none⟩ = some (.int .i64 (n : Int)) ∧ w'.cell? ⟨b3, 0, none⟩ = some (.bool no) ∧ w'.cell? ⟨b3, 1, none⟩ = some (.slice ao lo co)) := fun w' h => ⟨cnow h z0, cnow h z1, cnow h z2⟩
      refine wp_region_tail (fun w' => w'.cell? ⟨bq, 0, none⟩ = some (.int .i64 (n : Int)) ∧ w'.cell? ⟨b3, 0, none⟩ = some (.bool no) ∧ w'.cell? ⟨b3, 1, none⟩ = some (.slice ao lo co)) 5 (by kernel_rfl) ?_
      obtain ⟨D1, hD⟩ : ∃ D1, wr.drew = D1 := ⟨_, rfl⟩
      have GB : Hid (Below wr.heap.size wr D1) := by unfold Hid; rw [← hD]; exact (Below.refl _ _).drew
      rw [hD]
      clear hD
      have GZ : Hid (wr.heap.size ≤ D1.heap.size) := GB.out.size
      refine wpAnyT_list [(0, (.pointer (some ⟨bq, 0, none⟩))), (1, (.int .i64 (n : Int))), (3, (.agg #[.bool no, .slice ao lo co]))] 3 ?_ (KB.out _ GB.out) ?_
      · simp only [TakesV, gA9, g09, g19, Act.put, sI9, s09, s19]
        (repeat' (first | exact trivial | refine And.intro (Or.inl ⟨by rfl, ?_⟩) ?_)) <;> (intro w hSw; (try dsimp only at hSw); go_simp)
      simp only [actV, gA9, g09, g19, Act.put, sI9, s09, s19]
      refine wpAnyT_one (i := 2) (o := { dst := some 19, op := Op.makeSlice 33 (Operand.tmp 18) (Operand.tmp 18), type := 33, pos := "lines.go:112", after := #[{ on := 1, ground := Ground.data }, { on := 1, ground := Ground.data }], guard := none }) (by kernel_rfl) rfl (fun K hK => ?_)
      refine step_make_pairs17 D1 rfl (.tmp 18) (.tmp 18) rfl _ _ n n rfl rfl rfl rfl (Nat.le_refl _) (by omega) ?_
      intro v2 hA hb hs
      replace GB := hid (below_step GB.out hb.out)
      have ZL : Hid (Zl v2 (.slice (some ⟨D1.heap.size, 0, none⟩) n n) (List.replicate n 0) k) := zl_zeros hA.out (by omega)
      replace GZ : Hid (wr.heap.size ≤ v2.heap.size) := GB.out.size
      clear hA hb hs
      refine hK.out _ _ (fun _ => KB.out _ GB.out) ?_
      clear hK
      try simp only [Act.put]
      refine wpAnyT_one (i := 4) (o := { dst := some 21, op := Op.call { callee := Callee.value (Operand.func 31), args := #[Operand.tmp 19, Operand.tmp 20], argTypes := #[33, 45] }, type := 22, pos := "lines.go:112", after := #[{ on := 2, ground := Ground.data }, { on := 3, ground := Ground.data }], guard := none }) (by kernel_rfl) rfl (fun K hK => ?_)
      go_simp
      go_at_call 31
      refine (over_any (n := n) ZL.out ((J.out.z.now GB.out).zi) (by decide) HK.out (by simp) (by omega)).mono ?_
      rintro e w3 ⟨gu, rfl, hgn, hfq, b⟩
      have lz3 := (show Below _ _ _ from b).size
      replace GB := hid (below_step GB.out b)
      have FU := hid hfq
      have HGU0 := hid hgn
      clear hfq hgn
      clear b
      refine hK.out _ _ (fun _ => KB.out _ GB.out) ?_
      clear hK
      refine wpAnyT_one (i := 5) (o := { dst := some 7, op := Op.assign (Operand.tmp 21), type := 22, pos := "lines.go:112", after := #[{ on := 4, ground := Ground.data }, { on := 4, ground := Ground.chain }, { on := 0, ground := Ground.phase }, { on := 1, ground := Ground.phase }, { on := 2, ground := Ground.phase }, { on := 3, ground := Ground.phase }, { on := 4, ground := Ground.phase }], guard := none }) (by kernel_rfl) rfl (fun K hK => ?_)
      go_simp
      refine hK.out _ _ (fun h => absurd h (by decide)) ?_
      clear hK
      try simp only [Act.put]
      refine wpAnyT_done (by kernel_rfl) ?_ _
      obtain ⟨WU, hWU⟩ : ∃ WU, w3 = WU := ⟨_, rfl⟩
      rw [hWU] at GB FU ⊢
      have BU := GB
      have HGU : Hid (wr.heap.size ≤ gu) := by unfold Hid; have := HGU0.out; have := GZ.out; omega
      clear hWU GB KB ZL HGU0 GZ
      have JU := hid (J.out.now BU.out)
      obtain ⟨_, _, _, _, _, _, _, _, f0, f1, f2, f3, g0, g1, g2, g3, -⟩ := FU.out.cells hlt
      have y1 := JU.out.o.c0
      have y2 := JU.out.o.c1
      obtain ⟨V3, hV3⟩ : ∃ V3, put4q WU gu t (.bool no) (.slice ao lo co) (.bool no) (.slice ao lo co) = V3 := ⟨_, rfl⟩
      have h10 : (1 : Rat).num = 1 := rfl
      have h11 : (((1 : Rat).den : Nat) : Int) = 1 := rfl
      obtain ⟨u1, u2⟩ := FU.out.put (q := 1) hlt (by rw [h10]; exact JU.out.z) (by rw [h11]; exact JU.out.z)
      rw [hV3] at u1 u2
      have HGU2 : Hid (w.heap.size ≤ gu) := by unfold Hid; have := J.out.b.size; have := HGU.out; omega
      have BV3 : Hid (Below wr.heap.size wr V3) := by
        unfold Hid; rw [← hV3]
        exact bset (bset (bset (bset BU.out HGU.out) HGU.out) HGU.out) HGU.out
      obtain ⟨D1, kD1, kD2, kD3⟩ := u1.cellsD
      have E3' : Hid ((((WU.setCell ⟨gu, t * 4, none⟩ (.bool no)).setCell ⟨gu, t * 4 + 1, none⟩ (.slice ao lo co)).setCell ⟨gu, t * 4 + 2, none⟩ (.bool no)).setCell ⟨gu, t * 4 + 3, none⟩ (.slice ao lo co) = V3) := hV3
      have J3 := hid (J.out.now BV3.out)
      obtain ⟨V4, hV4⟩ : ∃ V4, V3.alloc (.cells #[.slice (some ⟨rb, ro, none⟩) n rc, .slice (some ⟨gu, 0, none⟩) n n] 22) = V4 := ⟨_, rfl⟩
      obtain ⟨b4, sz4⟩ := alo1 V3 (.cells #[.slice (some ⟨rb, ro, none⟩) n rc, .slice (some ⟨gu, 0, none⟩) n n] 22)
      rw [hV4] at b4 sz4
      have hs3 : V3.heap.size = WU.heap.size := by rw [← hV3]; simp
      have C4 : Cel V4 WU.heap.size 22 [.slice (some ⟨rb, ro, none⟩) n rc, .slice (some ⟨gu, 0, none⟩) n n] := by rw [← hV4, ← hs3]; exact Cel.new V3 _ _
      have HCC := hid (concat4 (w := V4) (b := WU.heap.size) (n := 2) (m := n) (D := fun i => if i = 0 then D0 else D1) (fun i hi => by
        by_cases q : i = 0
        · subst q
          exact ⟨rb, ro, rc, C4.at (i := 0) rfl, fun j r hj hr => by rw [if_pos rfl]; exact cnow b4 (cnow J3.out.b (HD1.out j r hj hr))⟩
        · obtain rfl : i = 1 := by omega
          exact ⟨gu, 0, n, C4.at (i := 1) rfl, fun j r hj hr => by rw [if_neg (by omega)]; exact cnow b4 (kD1 j r hj hr)⟩) (fun i j hi hj => by
        by_cases q : i = 0
        · simp only [q, if_true]; exact HD2.out j hj
        · simp only [q, if_false]; exact kD2 j hj) (by omega) (by omega) (by omega) (by omega))
      have HZU : Hid (∀ j, j < n → Zm 0 V4 (.agg #[D1 j 0, D1 j 1]) (if j = t then 1 else 0) k ∧ Zm 0 V4 (.agg #[D1 j 2, D1 j 3]) 1 k) := fun j hj => by
        have h := kD3 j hj
        by_cases q : j = t
        · rw [if_pos q]
          simp only [q, if_true] at h
          rw [h10, h11] at h
          rw [q]
          exact ⟨h.1.now b4, h.2.now b4⟩
        · rw [if_neg q]
          simp only [q, if_false] at h
          have e0 : Rat.divInt ((List.replicate n (0 : Int)).getD j 0) 1 = 0 := by
            have : (List.replicate n (0 : Int)).getD j 0 = 0 := by rw [List.getD_eq_getElem?_getD, List.getElem?_replicate]; split <;> rfl
            rw [this]; rfl
          rw [e0] at h
          exact ⟨h.1.now b4, h.2.now b4⟩
      have J4 := hid (J3.out.now b4)
      have EV4 := hid hV4
      clear hs3 FU BU JU u1 u2 kD1 kD2 kD3 hV3 b4 sz4 hV4 C4 k0 z0 z1 z2 J J3 BV3 HGU HD1 HD2
      go_wp2_with fail
      rw [E3'.out, EV4.out]
      clear E3' EV4 f0 f1 f2 f3 g0 g1 g2 g3 y1 y2
      refine HCC.out.mono ?_
      rintro e w5 ⟨v5, rfl, hO5, b5⟩
      obtain ⟨a5, c5, rfl, -, -, -⟩ := hO5.form
      obtain ⟨V6, hV6⟩ : ∃ V6, w5.alloc (.cells #[.slice a5 (2 * n) c5] 22) = V6 := ⟨_, rfl⟩
      obtain ⟨b6, sz6⟩ := alo1 w5 (.cells #[.slice a5 (2 * n) c5] 22)
      rw [hV6] at b6 sz6
      have CX : Hid (V6.cell? ⟨w5.heap.size, 0, none⟩ = some (.slice a5 (2 * n) c5)) := by
        unfold Hid; rw [← hV6]; exact (Cel.new w5 22 [.slice a5 (2 * n) c5]).at (i := 0) rfl
      have J6 := hid (J4.out.now (below_step b5 b6))
      have HZ6 : Hid (∀ j, j < n → Zm 0 V6 (.agg #[D1 j 0, D1 j 1]) (if j = t then 1 else 0) k ∧ Zm 0 V6 (.agg #[D1 j 2, D1 j 3]) 1 k) := fun j hj => ⟨(HZU.out j hj).1.now (below_step b5 b6), (HZU.out j hj).2.now (below_step b5 b6)⟩
      obtain ⟨C', hC'⟩ : ∃ C' : Nat → Nat → Nat → Value, C' = fun i => if i = t then catN n (fun i => if i = 0 then D0 else D1) else C i := ⟨_, rfl⟩
      have eC : ∀ i, i < t → C i = C' i := fun i hi => by rw [hC']; show _ = if i = t then _ else _; rw [if_neg (by omega)]
      have eT : C' t = catN n (fun i => if i = 0 then D0 else D1) := by rw [hC']; show (if t = t then _ else _) = _; rw [if_pos rfl]
      have G6 := hid (J6.out.g.congr eC)
      have O6 : Hid (Own4 w.heap.size V6 (.slice a5 (2 * n) c5) (2 * n) (C' t)) := by
        unfold Hid; rw [eT]
        have h := hO5.now b6
        exact ⟨owns_mono11 h.1 J4.out.b.size, h.2⟩
      have HEC := hid eC
      have HET := hid eT
      have EV6 := hid hV6
      have HLT : Hid (t < 1000) := by unfold Hid; omega
      have W6 : Hid (w.heap.size ≤ V6.heap.size) := J6.out.b.size
      clear HCC hO5 b5 b6 sz6 hV6 hC' eC eT HZU J4
      go_wp2_with (at_builtin; rw [EV6.out]; refine wpList_append_gln V6 rfl (.tmp 28) (.tmp 33) rfl w.heap.size t (2 * n) w5.heap.size _ a5 c5 C' rfl G6.out rfl CX.out O6.out HLT.out W6.out ?_)
      intro g7 l7 cap7 w7 hG7 hT7 hB7 hg7 ho7
      have HN1 : Hid (BuH w bq b3 gr n a l cap no ao lo co P Q k (n - (t + 1)) (.slice (some ⟨g7, 0, none⟩) l7 cap7) (.int .i64 ((t + 1 : Nat) : Int)) w7) := by
        have j := J6.out
        have ty := hT7.out
        have eA : ∀ j, j < n → C' t j = D0 j := fun j hj => by rw [HET.out]; unfold catN; rw [Nat.div_eq_of_lt hj, Nat.mod_eq_of_lt hj]; rfl
        have eB : ∀ j, j < n → C' t (n + j) = D1 j := fun j hj => by
          rw [HET.out]; unfold catN
          have e1 : (n + j) / n = 1 := by rw [Nat.add_div_left _ (by omega), Nat.div_eq_of_lt hj]
          have e2 : (n + j) % n = j := by rw [Nat.add_mod_left, Nat.mod_eq_of_lt hj]
          rw [e1, e2]; rfl
        refine ⟨t + 1, C', rfl, by omega, rfl, ⟨j.q.ty13 ty (by decide), j.o.ty17 ty (by decide), j.z.ty ty (by decide), ?_, hG7.out, fun i x hi hx => ?_, fun i x hi hx => ?_, hB7.out _ j.b, fun b hb => ?_⟩⟩
        · exact j.r.keep17 (hg7.out.block gr j.r.blk fun q => j.ne gr q.symm rfl)
        · by_cases q : i < t
          · rw [← HEC.out i q]; exact j.h1 i x q hx
          · obtain rfl : i = t := by omega
            rw [eA x hx]; exact HD3.out x hx
        · by_cases q : i < t
          · rw [← HEC.out i q]; exact ⟨(j.h2 i x q hx).1.ty ty (by decide), (j.h2 i x q hx).2.ty ty (by decide)⟩
          · obtain rfl : i = t := by omega
            rw [eB x hx]; exact ⟨(HZ6.out x hx).1.ty ty (by decide), (HZ6.out x hx).2.ty ty (by decide)⟩
        · simp only [Value.ownBlock, Option.some.injEq] at hb
          subst hb
          rcases ho7.out with q | q
          · exact j.ne _ q
          · have := j.r.blk; omega
      clear hG7 hT7 hB7 hg7 ho7 J6 G6 O6 CX HZ6 HEC HET EV6 HLT W6 HGU2 HD3
      go_wp2_with fail
      go_roundg (n - (t + 1))
      case rel => exact HN1.out
      case measure => exact HMM.out
    · have hlt' : ¬ (t : Int) < (n : Int) := by omega
      obtain rfl : t = n := by omega
      have FF : Hid (Bud w t P Q k (.returned (.slice sa t sc)) wr) := ⟨_, rfl, J.out.done hn, J.out.b⟩
      clear J HG
      go_wp2
      go_ret
      exact FF.out
end Go.Proofs.YthpldhaolpmneaaGreat
