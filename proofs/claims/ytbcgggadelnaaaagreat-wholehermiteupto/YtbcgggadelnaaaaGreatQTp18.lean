import Derived.Test.YtbcgggadelnaaaaGreatQFreshToCpy16
import Derived.Test.YtbcgggadelnaaaaGreatQChkN9ToLn11
import Derived.Test.YtbcgggadelnaaaaGreatQTailLToTo18
import Derived.Deep.Cut
set_option maxRecDepth 100000
set_option maxHeartbeats 6400000
set_option linter.unusedVariables false
set_option linter.unusedSimpArgs false
namespace Go.Proofs.YtbcgggadelnaaaaGreat
open Go.RowKit
instance (r c : Int) (l : Nat) : Decidable (Snd r c l) := by unfold Snd;infer_instance
theorem snd13 {r c : Int} {l : Nat} (h : Snd r c l) : ∃ a b : Nat,r = (a : Int) ∧ c = (b : Int) := by
 obtain ⟨h1,h2,h3,h4,h5⟩ := h;exact ⟨r.toNat,c.toNat,by omega,by omega⟩
theorem Raw.mx13 {w : World} {v : Value} {r c : Nat} {l : Nat} {zs : List Int} (h : Raw w v (r : Int) (c : Int) l zs) (hs : Snd (r : Int) (c : Int) l) : Mx w v r c zs 1048576 ∧ l = r * c := ⟨h.mx hs,by have := hs.2.2.2.2;exact Int.ofNat.inj this⟩
theorem Mx.off13 {w : World} {v : Value} {r c : Nat} {zs : List Int} {k b i : Nat} {L : List Value} {u : Value} (h : Mx w v r c zs k) (d : Cel w b 24 L) (hL : ∀ (j : Nat) (x : Value),L[j]? = some x → (∀ n,x ≠ .bool n) ∧ ∀ y,x ≠ .int .u64 y) : Mx (w.setCell ⟨b,i,none⟩ u) v r c zs k := by
 obtain ⟨at_,ps,h1,h2,h3,h4⟩ := h;have hcell : ∀ o x,w.cell? ⟨b,o,none⟩ = some x → L[o]? = some x := fun o x e => by
  have d' : w.heap[b]? = some (.cells L.toArray 24 (0,0)) := d
  simpa [World.cell?,d'] using e
 have wk : Wk w (w.setCell ⟨b,i,none⟩ u) := by
  refine ⟨by simp,fun g off x e => ?_⟩;have hne : g ≠ b := fun q => by
   subst q;exact (hL off _ (hcell off _ e)).2 x rfl
  exact (World.cell?_setCell_other _ _ _ _ (by simp <;> omega)).trans e
 refine ⟨at_,ps,h1,?_,h3.wk wk,h4⟩;obtain ⟨a',c',e1,e2,e3,e4,e5⟩ := h2;refine ⟨a',c',e1,e2,e3,e4,?_⟩;rcases e5 with e5 | ⟨b',off,e6,e7,e8,e9⟩
 ·exact .inl e5
 ·refine .inr ⟨b',off,e6,e7,by simpa using e8,fun j p hp => ?_⟩
  have hne : b' ≠ b := fun q => by
   subst q;obtain ⟨n1,a1,l1,c1,e⟩ := h3.isI p (List.mem_of_getElem? hp);have q1 := (e9 j p hp).1;rw [show p.1 = .bool n1 by rw [e]] at q1;exact (hL _ _ (hcell _ _ q1)).1 n1 rfl
  rw [World.cell?_setCell_other _ _ _ _ (by simp <;> omega),World.cell?_setCell_other _ _ _ _ (by simp <;> omega)];exact e9 j p hp
theorem zkG {x0 x1 : Int} {a : Option Addr} {l n : Nat} : ∀ (j : Nat) (x : Value),[Value.int .i64 x0,.int .i64 x1,.slice a l n][j]? = some x → (∀ n,x ≠ .bool n) ∧ ∀ y,x ≠ .int .u64 y := fun j x h => by
 match j,h with
 | 0,h => simp at h;subst h;exact ⟨fun _ q => (by cases q),fun _ q => (by cases q)⟩
 | 1,h => simp at h;subst h;exact ⟨fun _ q => (by cases q),fun _ q => (by cases q)⟩
 | 2,h => simp at h;subst h;exact ⟨fun _ q => (by cases q),fun _ q => (by cases q)⟩
 | j + 3,h => simp at h
theorem mx_four {V : World} {g : Nat} {n0 n1 n2 n3 : Bool} {a0 a1 a2 a3 : Option Addr} {l0 l1 l2 l3 c0 c1 c2 c3 : Nat} {z0 z1 z2 z3 : Int} {k : Nat} (d : Cel V g 51 [.bool n0,.slice a0 l0 c0,.bool n1,.slice a1 l1 c1,.bool n2,.slice a2 l2 c2,.bool n3,.slice a3 l3 c3])
  (h0 : Zi V (.agg #[.bool n0,.slice a0 l0 c0]) z0 k) (h1 : Zi V (.agg #[.bool n1,.slice a1 l1 c1]) z1 k) (h2 : Zi V (.agg #[.bool n2,.slice a2 l2 c2]) z2 k) (h3 : Zi V (.agg #[.bool n3,.slice a3 l3 c3]) z3 k) :
  Mx V (.agg #[.int .i64 2,.int .i64 2,.slice (some ⟨g,0,none⟩) 4 4]) 2 2 [z0,z1,z2,z3] k := by
 have ar : Arr V g [(.bool n0,.slice a0 l0 c0),(.bool n1,.slice a1 l1 c1),(.bool n2,.slice a2 l2 c2),(.bool n3,.slice a3 l3 c3)] := ⟨d,fun p hp => by
  simp at hp;rcases hp with rfl | rfl | rfl | rfl <;> exact ⟨_,_,_,_,rfl⟩⟩
 refine ⟨_,_,rfl,ar.prs (Nat.zero_le _) (by simp) (Nat.le_refl _),⟨rfl,fun j p z hp hz => ?_⟩,rfl,by decide,by decide⟩
 match j,hp,hz with
 | 0,hp,hz => simp at hp hz;subst hp hz;exact h0
 | 1,hp,hz => simp at hp hz;subst hp hz;exact h1
 | 2,hp,hz => simp at hp hz;subst hp hz;exact h2
 | 3,hp,hz => simp at hp hz;subst hp hz;exact h3
 | j + 4,hp,hz => simp at hp
theorem zWE : ∀ {xs : List Int},zSA xs → ∀ (m : Nat) (h : m < xs.length),xs.length = m + 1 → xs[m] ≠ 0
 | [],_,m,h,_ => by simp at h
 | [x],hc,m,h,e => by
  obtain rfl : m = 0 := by simpa using e.symm
  intro q;have q : x = 0 := q;subst q;have := zeB hc (by simp [val]);cases this
 | x :: y :: r,hc,m,h,e => by
  obtain ⟨m,rfl⟩ : ∃ m',m = m' + 1 := ⟨m - 1,by simp at e;omega⟩
  simp only [List.getElem_cons_succ];exact zWE (zGC hc) m (by simpa using h) (by simpa using e)
theorem zfF {n : Int} (h0 : 0 < n) (h1 : n ≤ 18446744073709551615) (w : World) :
  Calls Tryz.prog 24 #[.int .u64 n] w fun e w' => ∃ a c,e = .returned (.agg #[.bool false,.slice a 1 c]) ∧ Zi w' (.agg #[.bool false,.slice a 1 c]) n 1 ∧ Below w.heap.size w w' := by
 obtain ⟨WX,hWX⟩ : ∃ WX,(w.alloc (duo (.bool false) (.slice (some ⟨w.heap.size + 1,0,none⟩) 1 1))).alloc (.cells #[.int .u64 n] 58) = WX := ⟨_,rfl⟩
 obtain ⟨b0,sz0⟩ := zZA w (duo (.bool false) (.slice (some ⟨w.heap.size + 1,0,none⟩) 1 1)) (.cells #[.int .u64 n] 58);rw [hWX] at b0 sz0;have dX : Duo WX w.heap.size (.bool false) (.slice (some ⟨w.heap.size + 1,0,none⟩) 1 1) := by rw [← hWX];exact zCA (zGA rfl) _
 have sX : Sl WX.heap.size WX (.slice (some ⟨w.heap.size + 1,0,none⟩) 1 1) [n] := by
  have := zdE (w.alloc (duo (.bool false) (.slice (some ⟨w.heap.size + 1,0,none⟩) 1 1))) n ⟨by omega,h1⟩;rw [hWX] at this
  simpa using this
 have eV : iv false [n] = n := by simp [iv,val]
 have FIN : Hid (Zi WX (.agg #[.bool false,.slice (some ⟨w.heap.size + 1,0,none⟩) 1 1]) n 1) := ⟨false,[n],_,_,rfl,sX,eV,by simp⟩
 have EW := hid hWX;have DX := hid dX;have BX := hid b0;have hne : ¬ n = 0 := by omega
 have hnb : (n == 0) = false := by simp;omega
 clear sX dX eV b0 hWX h0 h1;go_enter Tryz.func24,Tryz.ntmps24;go_wp2;rw [EW.out];exact bodyPost_ret (zRB Tryz.results24 DX.out _ (by rfl)) rfl ⟨_,_,rfl,FIN.out,BX.out⟩
theorem can_one {n : Int} (h0 : 0 < n) (h1 : n ≤ 18446744073709551615) : zSA [n] := by
 refine ⟨WF.cons ⟨by omega,show n < 18446744073709551616 by omega⟩ WF.nil,?_⟩;exact wid_is (by simp) (fun j h hj => by simp at h;simp at hj;omega) (fun _ h' => by simp;omega)
theorem zLE {w : World} {v : Value} {z : Int} {k : Nat} (h : Zc w v z k) : Calls Tryz.prog 50 #[v] w fun e w' => e = .returned (.bool true) ∧ Below w.heap.size w w' := by
 obtain ⟨n,xs,a,c,rfl,s0,q0,e0,z0,k0⟩ := h;obtain ⟨W0,hW⟩ : ∃ W0,w.alloc (duo (.bool n) (.slice a xs.length c)) = W0 := ⟨_,rfl⟩
 obtain ⟨b0,sz0⟩ := alo1 w (duo (.bool n) (.slice a xs.length c));rw [hW] at b0 sz0;have P0 : Duo W0 w.heap.size (.bool n) (.slice a xs.length c) := by rw [← hW];exact Duo.new w _ _
 have x0 := P0.c0;have x1 := P0.c1;rw [← hW] at x0 x1;have HB := hid b0;have EW := hid hW
 by_cases hx : xs = []
 ·subst hx
  obtain rfl := e0 rfl;have HB2 : Hid (Below w.heap.size w (w.alloc (.cells #[.bool false,.slice a 0 c] 51))) := (alo1 w _).1;clear s0 q0 e0 z0 k0 b0 sz0 hW P0 HB EW;go_enter Tryz.func50,Tryz.ntmps50;go_wp2;go_ret;exact ⟨rfl,HB2.out⟩
 ·obtain ⟨m,hm⟩ : ∃ m,xs.length = m + 1 := ⟨xs.length - 1,by have := List.length_pos_iff.2 hx;omega⟩
  have hl := zWE q0 m (by omega) hm;obtain ⟨x,hx'⟩ : ∃ x,xs[m]'(by omega) = x := ⟨_,rfl⟩
  rw [hx'] at hl;obtain ⟨hw,a',cap,e1,hlc,hcm,hmm⟩ := s0.now b0;simp only [Value.slice.injEq] at e1;obtain ⟨rfl,-,rfl⟩ := e1;rcases hmm with e | ⟨b,off,rfl,hb,hc⟩
  ·exact absurd e hx
  have hcm' := hc m (by omega);rw [hx',← hW] at hcm';rw [hm] at x0 x1 hlc hcm EW hcm' ⊢;have hnb : (x != 0) = true := by simp;exact hl
  have hz0 : ¬ ((m + 1 : Nat) : Int) = 0 := by omega
  have hzb : (((m + 1 : Nat) : Int) == 0) = false := by simp;omega
  have hwr : IntKind.i64.wrap (((m + 1 : Nat) : Int) - 1) = (m : Int) := by rw [zbA] <;> omega
  have hml : (m : Int) < ((m + 1 : Nat) : Int) := by omega
  clear s0 q0 e0 z0 k0 b0 sz0 hW P0 hx hm hx' hw hb hc;go_enter Tryz.func50,Tryz.ntmps50;go_wp2;go_ret;exact ⟨rfl,by rw [EW.out];exact HB.out⟩
theorem wrapI16 {i L : Nat} (h : i < L) (hL : L ≤ 35184372088832) : IntKind.i64.wrap ((i : Int) + 1) = ((i + 1 : Nat) : Int) := by rw [zbA] <;> omega
theorem sameInt_yes {w : World} {v u : Value} {z y : Int} {k l : Nat} (h : Zc w v z k) (h' : Zc w u y l) (hzy : z = y) :
  Calls Tryz.prog 19 #[v,u] w fun e w' => e = .returned (.bool true) ∧ Below w.heap.size w w' := by
 subst hzy;have A0 := hid h;have B0 := hid h';obtain ⟨n,xs,a,c,rfl,s0,q0,e0,z0,k0⟩ := h;obtain ⟨m,ys,b,d,rfl,s1,q1,e1,z1,k1⟩ := h';obtain ⟨rfl,rfl⟩ := zhH (z0.trans z1.symm) q0 q1 e0 e1;obtain ⟨W0,hW⟩ : ∃ W0,(w.alloc (duo (.bool n) (.slice a xs.length c))).alloc (duo (.bool n) (.slice b xs.length d)) = W0 := ⟨_,rfl⟩
 have b0 := (zZA w (duo (.bool n) (.slice a xs.length c)) (duo (.bool n) (.slice b xs.length d))).1;rw [hW] at b0;have P2 : Hid (Duo W0 w.heap.size (.bool n) (.slice a xs.length c)) := by unfold Hid;rw [← hW];exact (Duo.new w _ _).later (by simp) _
 have P3 : Hid (Duo W0 (w.heap.size + 1) (.bool n) (.slice b xs.length d)) := by
  unfold Hid;rw [← hW];have := Duo.new (w.alloc (duo (.bool n) (.slice a xs.length c))) (.bool n) (.slice b xs.length d)
  simpa using this
 have HC := hid (zLE (A0.out.now b0));have S0 := hid (s0.now b0);have S1 := hid (s1.now b0);replace B0 := hid (B0.out.now b0);have G := hid b0;obtain ⟨L,hL⟩ : ∃ L,xs.length = L := ⟨_,rfl⟩
 rw [hL] at hW P2 P3 HC S0 S1 B0 ⊢;have HL := hid hL;have x0 := P2.out.c0;have y0 := P3.out.c0;have x1 := P2.out.c1;have y1 := P3.out.c1;rw [← hW] at x0 y0 x1 y1;have EW := hid hW;have hq : (n != n) = false := by simp
 have hql : ((L : Int) != (L : Int)) = false := by simp
 clear s0 s1 z0 z1 b0 q0 q1 e0 e1 hW A0 k0 k1 hL;go_enter Tryz.func19,Tryz.ntmps19;go_wp2_with fail;rw [EW.out];clear EW x0 y0 x1 y1;refine HC.out.mono ?_;rintro e w1 ⟨rfl,b1⟩;replace P2 := hid (P2.out.step b1);replace P3 := hid (P3.out.step b1);replace S0 := hid (S0.out.now b1);replace S1 := hid (S1.out.now b1);replace G := hid (below_step G.out b1);have HC2 := hid (zLE (B0.out.now b1));have y0 := P3.out.c0;have y1 := P3.out.c1;clear b1 HC B0;go_wp2_with fail;refine HC2.out.mono ?_;rintro e w2 ⟨rfl,b1⟩;replace P2 := hid (P2.out.step b1);replace P3 := hid (P3.out.step b1);replace S0 := hid (S0.out.now b1);replace S1 := hid (S1.out.now b1);replace G := hid (below_step G.out b1);clear b1 HC2 y0 y1;go_wp2_with fail
 go_loopw [5] (fun i wr => ∃ k q : Nat,k ≤ L ∧ i = .int .i64 k ∧ wr = w2.drewN q) (fun i _ => L - (intOf i).toNat)
 case atStart => exact ⟨0,0,Nat.zero_le _,rfl,rfl⟩
 case round =>
  obtain ⟨i,q,hi,rfl,rfl⟩ := hrel;have x0 : ∀ q,(w2.drewN q).cell? ⟨w.heap.size,0,none⟩ = some (.bool n) := fun q => by simpa using P2.out.c0
  have x1 : ∀ q,(w2.drewN q).cell? ⟨w.heap.size,1,none⟩ = some (.slice a L c) := fun q => by simpa using P2.out.c1
  have y1 : ∀ q,(w2.drewN q).cell? ⟨w.heap.size + 1,1,none⟩ = some (.slice b L d) := fun q => by simpa using P3.out.c1
  by_cases hlt : i < L
  ·have hlt' : (i : Int) < (L : Int) := by omega
   have hi1 : i < xs.length := by rw [HL.out];exact hlt
   obtain ⟨_,a1,cap1,e1,hlc1,hcm1,hm1⟩ := S0.out;simp only [Value.slice.injEq] at e1;obtain ⟨rfl,-,rfl⟩ := e1;obtain ⟨_,a2,cap2,e2,hlc2,hcm2,hm2⟩ := S1.out;simp only [Value.slice.injEq] at e2;obtain ⟨rfl,-,rfl⟩ := e2;rcases hm1 with e | ⟨g1,o1,rfl,hb1,hc1⟩
   ·subst e;simp at hi1
   rcases hm2 with e | ⟨g2,o2,rfl,hb2,hc2⟩
   ·subst e;simp at hi1
   have c1 : ∀ q,(w2.drewN q).cell? ⟨g1,o1 + i,none⟩ = some (.int .u64 xs[i]) := fun q => by simpa using hc1 i hi1
   have c2 : ∀ q,(w2.drewN q).cell? ⟨g2,o2 + i,none⟩ = some (.int .u64 xs[i]) := fun q => by simpa using hc2 i hi1
   obtain ⟨x,hx⟩ : ∃ x,xs[i] = x := ⟨_,rfl⟩
   rw [hx] at c1 c2;have ht : (x != x) = false := by simp
   have hw := wrapI16 (i := i) (L := L) hlt (by have := HL.out;omega);clear hc1 hc2 hx hb1 hb2 hlc1 hlc2 hcm1 hcm2;go_wp2;go_quiet (fail);go_wp2;go_roundw
   case rel => exact ⟨i + 1,_,by omega,by go_num,rfl⟩
   case measure => simp [intOf];omega
  ·have hlt' : ¬ (i : Int) < (L : Int) := by omega
   have FIN : Hid (Below w.heap.size w (w2.drewN q)) := below_drewN G.out q;go_wp2;go_ret;exact ⟨rfl,FIN.out⟩
theorem zBC {w : World} {r c : Int} {a : Option Addr} {l cap : Nat} (hl : l ≤ 1048576) : Calls Tryz.prog 9 #[.agg #[.int .i64 r,.int .i64 c,.slice a l cap]] w fun e w' => e = .returned (.bool (decide (Snd r c l))) ∧ Below w.heap.size w w' := by
 obtain ⟨W0,hW⟩ : ∃ W0,w.alloc (.cells #[.int .i64 r,.int .i64 c,.slice a l cap] 24) = W0 := ⟨_,rfl⟩
 obtain ⟨b0,sz0⟩ := alo1 w (.cells #[.int .i64 r,.int .i64 c,.slice a l cap] 24);rw [hW] at b0 sz0;have P0 : Cel W0 w.heap.size 24 [.int .i64 r,.int .i64 c,.slice a l cap] := by rw [← hW];exact Cel.new w _ _
 have x0 := P0.at (i := 0) rfl;have x1 := P0.at (i := 1) rfl;have x2 := P0.at (i := 2) rfl;rw [← hW] at x0 x1 x2;have FIN : Hid (Below w.heap.size w (w.alloc (.cells #[.int .i64 r,.int .i64 c,.slice a l cap] 24))) := by unfold Hid;rw [hW];exact b0
 clear b0 sz0 P0 hW
 by_cases h1 : 0 ≤ r
 ·by_cases h2 : r ≤ 64
  ·by_cases h3 : 0 ≤ c
   ·by_cases h4 : c ≤ 64
    ·obtain ⟨m,hm⟩ : ∃ m,r * c = m := ⟨_,rfl⟩
     have hwm : IntKind.i64.wrap (r * c) = m := by
      have h5 : 0 ≤ r * c := Int.mul_nonneg h1 h3;have h6 : r * c ≤ 64 * 64 := Int.mul_le_mul h2 h4 h3 (by omega);rw [zbA] <;> omega
     by_cases h5 : (l : Int) = m
     ·have e : decide (Snd r c l) = true := decide_eq_true ⟨h1,h2,h3,h4,by rw [hm];exact h5⟩
      have hq : ((l : Int) == m) = true := by simpa using h5
      rw [e];clear e hm h5;go_enter Tryz.func9,Tryz.ntmps9;go_wp2;go_ret;exact ⟨rfl,FIN.out⟩
     ·have e : decide (Snd r c l) = false := decide_eq_false (fun h => h5 (by rw [← hm];exact h.2.2.2.2))
      have hq : ((l : Int) == m) = false := by simpa using h5
      rw [e];clear e hm h5;go_enter Tryz.func9,Tryz.ntmps9;go_wp2;go_ret;exact ⟨rfl,FIN.out⟩
    ·rw [decide_eq_false (fun h : Snd r c l => h4 h.2.2.2.1)]
     go_enter Tryz.func9,Tryz.ntmps9;go_wp2;go_ret;exact ⟨rfl,FIN.out⟩
   ·rw [decide_eq_false (fun h : Snd r c l => h3 h.2.2.1)]
    go_enter Tryz.func9,Tryz.ntmps9;go_wp2;go_ret;exact ⟨rfl,FIN.out⟩
  ·rw [decide_eq_false (fun h : Snd r c l => h2 h.2.1)]
   go_enter Tryz.func9,Tryz.ntmps9;go_wp2;go_ret;exact ⟨rfl,FIN.out⟩
 ·rw [decide_eq_false (fun h : Snd r c l => h1 h.1)]
  go_enter Tryz.func9,Tryz.ntmps9;go_wp2;go_ret;exact ⟨rfl,FIN.out⟩
theorem ttwo (w : World) : Calls Tryz.prog 23 #[] w fun e w' => ∃ a c,e = .returned (.agg #[.int .i64 2,.int .i64 2,.slice a 4 c]) ∧ Mx w' (.agg #[.int .i64 2,.int .i64 2,.slice a 4 c]) 2 2 [2,4,6,8] 1 ∧ Below w.heap.size w w' := by
 obtain ⟨W0,hW⟩ : ∃ W0,w.alloc mbox = W0 := ⟨_,rfl⟩
 obtain ⟨b0,sz0⟩ := alo1 w mbox;rw [hW] at b0 sz0;have PR := hid (zvA hW);have G := hid b0;have EW := hid hW;clear b0 sz0 hW;go_enter Tryz.func23,Tryz.ntmps23;go_wp2_with fail;rw [EW.out];clear EW;refine (zfF (n := 2) (by decide) (by decide) _).mono ?_;rintro e w1 ⟨a1,c1,rfl,z,b⟩;replace PR := hid (PR.out.step b);replace G := hid (below_step G.out b);have Z1 := hid z;clear z b;go_wp2_with fail;refine (zfF (n := 4) (by decide) (by decide) _).mono ?_;rintro e w2 ⟨a2,c2,rfl,z,b⟩;replace PR := hid (PR.out.step b);replace G := hid (below_step G.out b);replace Z1 := hid (Z1.out.now b);have Z2 := hid z;clear z b;go_wp2_with fail;refine (zfF (n := 6) (by decide) (by decide) _).mono ?_;rintro e w3 ⟨a3,c3,rfl,z,b⟩;replace PR := hid (PR.out.step b);replace G := hid (below_step G.out b);replace Z1 := hid (Z1.out.now b);replace Z2 := hid (Z2.out.now b);have Z3 := hid z;clear z b;go_wp2_with fail;refine (zfF (n := 8) (by decide) (by decide) _).mono ?_;rintro e w4 ⟨a4,c4,rfl,z,b⟩;replace PR := hid (PR.out.step b);replace G := hid (below_step G.out b);replace Z1 := hid (Z1.out.now b);replace Z2 := hid (Z2.out.now b);replace Z3 := hid (Z3.out.now b);have Z4 := hid z;clear z b;obtain ⟨V,hV⟩ : ∃ V,w4.alloc (.cells #[.bool false,.slice a1 1 c1,.bool false,.slice a2 1 c2,.bool false,.slice a3 1 c3,.bool false,.slice a4 1 c4] 51) = V := ⟨_,rfl⟩
 obtain ⟨bv,szv⟩ := alo1 w4 (.cells #[.bool false,.slice a1 1 c1,.bool false,.slice a2 1 c2,.bool false,.slice a3 1 c3,.bool false,.slice a4 1 c4] 51);rw [hV] at bv szv;have d : Cel V w4.heap.size 51 [.bool false,.slice a1 1 c1,.bool false,.slice a2 1 c2,.bool false,.slice a3 1 c3,.bool false,.slice a4 1 c4] := by rw [← hV];exact Cel.new _ _ _
 have MM := mx_four d (Z1.out.now bv) (Z2.out.now bv) (Z3.out.now bv) (Z4.out.now bv);replace PR := hid (PR.out.step bv);replace G := hid (below_step G.out bv);have r0 := PR.out.at (i := 0) rfl;have r1 := PR.out.at (i := 1) rfl;have r2 := PR.out.at (i := 2) rfl;have f0 := PR.out.fz 0;have f1 := PR.out.fz 1;have f2 := PR.out.fz 2;have d1 := PR.out.set 0 (.int .i64 2);have d2 := d1.set 1 (.int .i64 2);have PF := hid (PR.out.put3 (.int .i64 2) (.int .i64 2) (.slice (some ⟨w4.heap.size,0,none⟩) 4 4));have FIN : Hid (Mx (put3 V w.heap.size (.int .i64 2) (.int .i64 2) (.slice (some ⟨w4.heap.size,0,none⟩) 4 4)) (.agg #[.int .i64 2,.int .i64 2,.slice (some ⟨w4.heap.size,0,none⟩) 4 4]) 2 2 [2,4,6,8] 1) := ((MM.off13 PR.out zkG).off13 d1 zkG).off13 d2 zkG;have GF : Hid (Below w.heap.size w (put3 V w.heap.size (.int .i64 2) (.int .i64 2) (.slice (some ⟨w4.heap.size,0,none⟩) 4 4))) := zMA G.out (Nat.le_refl _) _ _ _;rw [← hV] at r0 r1 r2 f0 f1 f2;have EV := hid hV;clear bv szv d MM hV Z1 Z2 Z3 Z4 G PR d1 d2;go_wp2;rw [EV.out];exact bodyPost_ret (zHE Tryz.results23 PF.out _ (by rfl)) rfl ⟨_,_,rfl,FIN.out,GF.out⟩
end Go.Proofs.YtbcgggadelnaaaaGreat
