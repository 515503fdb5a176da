/-
 QRs12ToTailA: Rs12, Ln12, TailA, joined.
-/
import Derived.Test.YtkklldokdnfkgaaGreatQDv12ToZFloor
import Derived.Test.YtkklldokdnfkgaaGreatQFil9ToCat9
import Derived.Test.YtkklldokdnfkgaaGreatQZModToZSmall
import Derived.Laws.OwnMore
import Derived.Deep.AppendLies

set_option maxRecDepth 100000
set_option maxHeartbeats 6400000
set_option linter.unusedVariables false
set_option linter.unusedSimpArgs false
namespace Go.Proofs.YtkklldokdnfkgaaGreat
open Go.RowKit
def resL (p : Nat) (zs : List Int) : List Int := zs.map fun z => z % (p : Int)
theorem ztB (p : Nat) (zs : List Int) : (resL p zs).length = zs.length := by simp [resL]
theorem zfG {p : Nat} (hp : 0 < p) (zs : List Int) : Res p (resL p zs) := fun x hx => by
 obtain ⟨y,_,rfl⟩ := List.mem_map.1 hx;exact zxB hp _
def ResH (V : World) (n : Nat) (ys : List Int) (gk : Nat) (s : Value) (wx : World) : Prop :=
 ∃ i : Nat,s = .int .i64 (i : Int) ∧ i ≤ n ∧ gk = n - i ∧ Row wx V.heap.size (ws (mix ys (List.replicate n 0) i)) ∧ Below V.heap.size V wx
def Resd (w : World) (n : Nat) (ys : List Int) (e : Ending) (w' : World) : Prop := ∃ g,e = .returned (.slice (some ⟨g,0,none⟩) n n) ∧ w.heap.size ≤ g ∧ Row w' g (ws ys) ∧ Below w.heap.size w w'
theorem Row.nil12 {w : World} {g : Nat} {xs : List Int} : Row w g (ws xs ++ []) ↔ Row w g (ws xs) := by rw [List.append_nil]
theorem zdE {w : World} {p c n K : Nat} {a : Option Addr} {l k : Nat} {v : Value} {zs : List Int} (hp : 2 ≤ p) (hp2 : p < 2147483648) (hv : Zl w v zs K) (hK : K ≤ 1099511627775) (hn : zs.length = n) :
  Calls Tryz.prog 26 #[shv p c (.slice a l k),v] w (Resd w n (resL p zs)) := by
 obtain ⟨W0,hW⟩ : ∃ W0,w.alloc (shO p c (.slice a l k)) = W0 := ⟨_,rfl⟩
 obtain ⟨b0,sz0⟩ := zVA w (shO p c (.slice a l k));rw [hW] at b0 sz0;have P1 : Hid (Cel W0 w.heap.size 54 (shc p c (.slice a l k))) := by unfold Hid;rw [← hW];exact Cel.new w _ _
 have x0 := P1.out.at (i := 0) rfl;rw [← hW] at x0;have V0 := hid (hv.now b0);obtain ⟨a0,c0,rfl,hc0,hn0,hf0⟩ := V0.out.form9;obtain ⟨ys,hys⟩ : ∃ ys,resL p zs = ys := ⟨_,rfl⟩
 have YL : Hid (ys.length = n) := by unfold Hid;rw [← hys,ztB,hn]
 have HY : Hid (∀ i (h : i < zs.length) (h' : i < ys.length),ys[i] = zs[i] % (p : Int)) := fun i h h' => by
  subst hys;simp [resL]
 rw [hys];rw [hn] at hc0 hn0 V0 ⊢;have HO := hid (of_z (n := (p : Int)) (by omega) (by omega) W0);have cv : IntKind.i64.wrap (p : Int) = (p : Int) := by rw [zRA] <;> omega
 have HN := hid hn;have F0 := hid hf0;have G0 := hid b0;have EW := hid hW;have HKK := hid hK;clear hv hf0 hn hys b0 sz0 hW P1 hK;go_enter Tryz.func26,Tryz.ntmps26;go_wp2_with fail;rw [EW.out];refine HO.out.mono ?_;rintro e w1 ⟨r1,rfl,m1,b1⟩;have M1 := hid m1.zi;obtain ⟨n1,x1,a1,c1,rfl⟩ := m1.parts;obtain ⟨V,hV⟩ : ∃ V,w1.alloc (duo (.bool n1) (.slice a1 x1.length c1)) = V := ⟨_,rfl⟩
 obtain ⟨bV,szV⟩ := zVA w1 (duo (.bool n1) (.slice a1 x1.length c1));rw [hV] at bV szV;have PB : Hid (Duo V w1.heap.size (.bool n1) (.slice a1 x1.length c1)) := by unfold Hid;rw [← hV];exact Duo.new w1 _ _
 have ZP := hid (M1.out.now bV);have VL := hid (V0.out.now (below_step b1 bV));have GV := hid (below_step G0.out (below_step b1 bV));have EV := hid hV;clear HO M1 m1 b1 bV szV hV V0 G0 EW x0;go_wp2_with (at_make;rw [EV.out];refine wpList_make_words _ rfl _ _ rfl _ _ n n rfl rfl rfl rfl (Nat.le_refl _) (by omega) ?_)
 intro w2 hrow hb2 hsz2;have H0 : Hid (ResH V n ys n (.int .i64 0) w2) := ⟨0,rfl,Nat.zero_le _,rfl,by rw [zhD];exact hrow,hb2⟩
 clear hrow hb2 hsz2 EV;generalize w1.heap.size = pb at *;obtain ⟨g,hg⟩ : ∃ g,V.heap.size = g := ⟨_,rfl⟩
 have EG := hid hg;rw [hg];clear hg;go_wp2_with fail
 go_loopg [22] n (fun gk s22 wx => ResH V n ys gk s22 wx)
 case atStart => exact H0.out
 case round =>
  clear H0;obtain ⟨i,rfl,hin,hgk,hrow,hG⟩ := hrel;have RW := hid hrow;have G := hid hG;have HG := hid hgk;clear hrow hG hgk
  by_cases hlt : i < n
  ·have hlt' : (i : Int) < (n : Int) := by omega
   obtain ⟨b1,o1,rfl⟩ := F0.out (fun e => by have := HN.out;rw [e] at this;simp at this;omega);obtain ⟨nf,xf,adf,qf,k0,k1,zf⟩ := (VL.out.now G.out).at9 (i := i) (by rw [HN.out];exact hlt);obtain ⟨X1,hX1⟩ : ∃ X1,wr.alloc (duo (.bool nf) (.slice adf xf.length qf)) = X1 := ⟨_,rfl⟩
   obtain ⟨bX,szX⟩ := zVA wr (duo (.bool nf) (.slice adf xf.length qf));rw [hX1] at bX szX;have PX : Hid (Duo X1 wr.heap.size (.bool nf) (.slice adf xf.length qf)) := by unfold Hid;rw [← hX1];exact Duo.new wr _ _
   have GX := hid (below_step G.out bX);have HM := hid (mod_z (zf.now bX) (ZP.out.now GX.out) (y := (p : Int)) (by omega) (by have := HKK.out;omega) (by omega));have n0 := PX.out.c0;have n1' := PX.out.c1;have p0 := (PB.out.step GX.out).c0;have p1 := (PB.out.step GX.out).c1;rw [← hX1] at n0 n1' p0 p1;have EX := hid hX1;have RWX := hid (RW.out.stay bX);have hw := znD hlt hn0;obtain ⟨z,hz⟩ : ∃ z,zs[i]'(by rw [HN.out];exact hlt) % (p : Int) = z := ⟨_,rfl⟩
   have iz : IsR p z := by rw [← hz];exact zxB (by omega) _
   have HYI : Hid (ys[i]'(by rw [YL.out];exact hlt) = z) := by
    unfold Hid;rw [← hz];exact HY.out i (by rw [HN.out];exact hlt) (by rw [YL.out];exact hlt)
   rw [hz] at HM;clear zf bX szX hX1 PX RW G hz;go_wp2_with fail;rw [EX.out];refine HM.out.mono ?_;rintro e w3 ⟨r3,rfl,m3,b3⟩;obtain ⟨n3,x3,a3,c3,rfl⟩ := m3.parts;obtain ⟨X2,hX2⟩ : ∃ X2,w3.alloc (duo (.bool n3) (.slice a3 x3.length c3)) = X2 := ⟨_,rfl⟩
   obtain ⟨bY,szY⟩ := zVA w3 (duo (.bool n3) (.slice a3 x3.length c3));rw [hX2] at bY szY;have PY : Hid (Duo X2 w3.heap.size (.bool n3) (.slice a3 x3.length c3)) := by unfold Hid;rw [← hX2];exact Duo.new w3 _ _
   have HS := hid (small_z (m3.zi.now bY) (by unfold IsR at iz;omega) (by unfold IsR at iz;omega));have GY := hid (below_step GX.out (below_step b3 bY));have RWY := hid (RWX.out.stay (below_step b3 bY));have q0 := PY.out.c0;have q1 := PY.out.c1;rw [← hX2] at q0 q1;have EY := hid hX2;clear HM EX n0 n1' p0 p1 m3 b3 bY szY hX2 GX RWX PY;go_wp2_with fail;rw [EY.out];refine HS.out.mono ?_;rintro e w4 ⟨rfl,b4⟩;have RW4 := hid (RWY.out.stay b4);have G4 := hid (below_step GY.out b4);have hm := zRB (ys := ys) (xs := List.replicate n 0) i;rw [List.length_replicate] at hm;have uz : IntKind.u64.wrap z = z := by unfold IsR at iz;exact zPF (by omega) (by omega)
   have HN1 : Hid (ResH V n ys (n - (i + 1)) (.int .i64 ((i + 1 : Nat) : Int)) (w4.setCell ⟨V.heap.size,i,none⟩ (.int .u64 z))) := by
    refine ⟨i + 1,rfl,by omega,rfl,?_,bset G4.out (Nat.le_refl _)⟩;rw [← zAF (by rw [YL.out,List.length_replicate]) (by rw [List.length_replicate];exact hlt),HYI.out];exact Row.nil12.1 ((Row.nil12.2 RW4.out).put12 (by rw [hm];exact hlt) _)
   have f1 := RW4.out.frozen i;have k4 := RW4.out.cell (i := i) (by unfold ws;simp [zRB];exact hlt);rw [EG.out] at f1 k4 HN1;obtain ⟨u4,hu4⟩ : ∃ u4,w4.cell? ⟨g,i,none⟩ = some u4 := ⟨_,k4⟩
   have HMM : Hid (n - (i + 1) < gk) := by unfold Hid;rw [HG.out];omega
   clear HS EY q0 q1 b4 RWY GY RW4 G4 k4 HG iz k0 k1;go_wp2_with fail;go_roundg (n - (i + 1))
   case rel => exact HN1.out
   case measure => exact HMM.out
  ·have hlt' : ¬ (i : Int) < (n : Int) := by omega
   obtain rfl : i = n := by omega
   have FIN : Hid (Resd w i ys (.returned (.slice (some ⟨g,0,none⟩) i i)) wr) := by
    refine ⟨g,rfl,by rw [← EG.out];exact GV.out.size,?_,below_step GV.out G.out⟩;have h1 := RW.out;have h2 := zBF (ys := ys) (xs := List.replicate i 0) (by rw [YL.out,List.length_replicate]);rw [List.length_replicate] at h2;rw [h2,EG.out] at h1;exact h1
   clear RW G HG;go_wp2;go_ret;exact FIN.out
abbrev rowv (c g : Nat) : Value := .slice (some ⟨g,0,none⟩) c c
def Ones (gs : List Nat) : Prop := ∀ (i j g : Nat),gs[i]? = some g → gs[j]? = some g → i = j
def Lns (B : Nat) (w : World) (lv : Value) (c : Nat) (gs : List Nat) (m : List (List Int)) : Prop :=
 w.ownsRow B 42 1 lv gs.length (gs.map (rowv c)) ∧ Ones gs ∧ gs.length = m.length ∧ (∀ g ∈ gs,B ≤ g) ∧ WidE c m ∧
  ∀ (j g : Nat),gs[j]? = some g → Row w g (ws (rowE m j))
theorem Lns.nil (B : Nat) (w : World) (c : Nat) : Lns B w (.slice none 0 0) c [] [] :=
 ⟨World.ownsRow_nil _ _ _ _,fun i j g h => by simp at h,rfl,fun g h => by simp at h,fun l h => by simp at h,fun j g h => by simp at h⟩
theorem Lns.keep {B c : Nat} {w w' : World} {lv : Value} {gs : List Nat} {m : List (List Int)} (h : Lns B w lv c gs m) (hk : ∀ b,b < w.heap.size → (lv.ownBlock = some b ∨ b ∈ gs) → w'.heap[b]? = w.heap[b]?) : Lns B w' lv c gs m := by
 obtain ⟨h1,h2,h3,h4,h5,h6⟩ := h;refine ⟨zQB h1 (fun b hb hlt => hk b hlt (.inl hb)),h2,h3,h4,h5,fun j g hg => ?_⟩;have := h6 j g hg;exact (hk g this.lt (.inr (List.mem_of_getElem? hg))).trans this
theorem Lns.now {B c : Nat} {w w' : World} {lv : Value} {gs : List Nat} {m : List (List Int)} (h : Lns B w lv c gs m) (hb : Below w.heap.size w w') : Lns B w' lv c gs m := h.keep fun b hlt _ => hb.block b hlt
theorem Lns.form {B c : Nat} {w : World} {lv : Value} {gs : List Nat} {m : List (List Int)} (h : Lns B w lv c gs m) : ∃ a cap,lv = .slice a m.length cap ∧ m.length ≤ cap ∧ (0 < m.length → ∃ L,a = some ⟨L,0,none⟩ ∧ B ≤ L ∧ L < w.heap.size) := by
 obtain ⟨⟨q1,⟨q2,q3⟩ | ⟨g,cap,cur,q2,q3,q4,q5,q6⟩⟩,h2,h3,h4,h5,h6⟩ := h
 ·exact ⟨none,0,by rw [q2,← h3,q3],by omega,fun q => by omega⟩
 ·exact ⟨_,cap,by rw [q2,← h3],by omega,fun _ => ⟨g,rfl,q3,(Array.getElem?_eq_some_iff.1 q4).1⟩⟩
theorem Lns.blk {B c : Nat} {w : World} {lv : Value} {gs : List Nat} {m : List (List Int)} (h : Lns B w lv c gs m) {i : Nat} (hi : i < m.length) : ∃ g,gs[i]? = some g ∧ B ≤ g ∧ Row w g (ws (rowE m i)) ∧ (rowE m i).length = c := by
 obtain ⟨h1,h2,h3,h4,h5,h6⟩ := h;have hg : gs[i]? = some (gs[i]'(by omega)) := List.getElem?_eq_getElem (by omega);exact ⟨_,hg,h4 _ (List.getElem_mem _),h6 i _ hg,h5.at hi⟩
theorem Lns.line {B c L cap n : Nat} {w : World} {gs : List Nat} {m : List (List Int)} (h : Lns B w (.slice (some ⟨L,0,none⟩) n cap) c gs m) {i g : Nat} (hg : gs[i]? = some g) : w.cell? ⟨L,i,none⟩ = some (rowv c g) ∧ w.frozen? ⟨L,i,none⟩ = false := by
 obtain ⟨h1,h2,h3,h4,h5,h6⟩ := h;have hi : i < gs.length := (List.getElem?_eq_some_iff.1 hg).1;have hn : n = gs.length := by
  obtain ⟨q1,⟨q2,q3⟩ | ⟨g,cap,cur,q2,q3,q4,q5,q6⟩⟩ := h1
  ·cases q2
  ·simp only [Value.slice.injEq] at q2;exact q2.2.1
 subst hn;refine ⟨?_,h1.frozenAt i⟩;rw [h1.cellAt i (by omega)];simp [hg]
theorem Lns.apart {B c : Nat} {w : World} {lv : Value} {gs : List Nat} {m : List (List Int)} (h : Lns B w lv c gs m) {L g : Nat} (hL : lv.ownBlock = some L) (hg : g ∈ gs) : L ≠ g := by
 intro e;subst e;obtain ⟨h1,h2,h3,h4,h5,h6⟩ := h;obtain ⟨j,hj,e⟩ := List.mem_iff_getElem.1 hg;have hr := h6 j L (by rw [← e];exact List.getElem?_eq_getElem hj);obtain ⟨q1,⟨q2,q3⟩ | ⟨g,cap,cur,q2,q3,q4,q5,q6⟩⟩ := h1
 ·rw [q2] at hL;cases hL
 ·rw [q2] at hL
  simp only [Value.ownBlock,Option.some.injEq] at hL;subst hL;have := q4.symm.trans (show w.heap[_]? = _ from hr);simp at this
theorem Lns.put {B c : Nat} {w w' : World} {lv : Value} {gs : List Nat} {m : List (List Int)} (h : Lns B w lv c gs m) {i g : Nat} (hg : gs[i]? = some g) {ys : List Int} (hl : ys.length = c) (hr : Row w' g (ws ys)) (ht : zoA (· = g) w w') : Lns B w' lv c gs (m.set i ys) := by
 have h0 := h;obtain ⟨h1,h2,h3,h4,h5,h6⟩ := h;have hi : i < gs.length := (List.getElem?_eq_some_iff.1 hg).1;refine ⟨zQB h1 (fun b hb hlt => ht.block b hlt (h0.apart hb (List.mem_of_getElem? hg))),h2,by simpa using h3,h4,h5.set hl,fun j g' hg' => ?_⟩;rw [rowE_set (by omega)]
 by_cases e : i = j
 ·subst e
  rw [hg,Option.some.injEq] at hg';subst hg';rw [if_pos rfl];exact hr
 ·rw [if_neg e]
  refine ht.row (h6 j g' hg') fun q => ?_
  have q' : g' = g := q;subst q';exact e (h2 i j g' hg hg')
theorem Lns.swap {B c L cap : Nat} {w : World} {gs : List Nat} {m : List (List Int)} (h : Lns B w (.slice (some ⟨L,0,none⟩) m.length cap) c gs m) {i j a b : Nat} (ha : gs[i]? = some a) (hb : gs[j]? = some b) :
  Lns B ((w.setCell ⟨L,i,none⟩ (rowv c b)).setCell ⟨L,j,none⟩ (rowv c a)) (.slice (some ⟨L,0,none⟩) m.length cap) c ((gs.set i b).set j a) (swE m i j) ∧ zoA (· = L) w ((w.setCell ⟨L,i,none⟩ (rowv c b)).setCell ⟨L,j,none⟩ (rowv c a)) := by
 have h0 := h;obtain ⟨h1,h2,h3,h4,h5,h6⟩ := h;have hi : i < gs.length := (List.getElem?_eq_some_iff.1 ha).1;have hj : j < gs.length := (List.getElem?_eq_some_iff.1 hb).1;rw [← h3] at h1 ⊢;obtain ⟨o1,g1⟩ := h1.stored i (rowv c b);obtain ⟨o2,g2⟩ := o1.stored j (rowv c a);have ht : zoA (· = L) w ((w.setCell ⟨L,i,none⟩ (rowv c b)).setCell ⟨L,j,none⟩ (rowv c a)) := ((zoA.refl (· = L) w).setCell (g := L) (.inr rfl) _ _).setCell (g := L) (.inr rfl) _ _;refine ⟨⟨?_,?_,by simp [swE,h3],?_,zuE h5 (by omega) (by omega),?_⟩,ht⟩
 ·rw [List.length_set,List.length_set,List.map_set,List.map_set]
  exact o2
 ·have key : ∀ s,s < gs.length → ((gs.set i b).set j a)[s]? = gs[if s = j then i else if s = i then j else s]? := fun s hs => by
   by_cases p : s = j
   ·subst p;rw [if_pos rfl,List.getElem?_set_self (by simpa using hj),ha]
   ·rw [if_neg p,List.getElem?_set_ne (by omega)]
    by_cases p2 : s = i
    ·subst p2;rw [if_pos rfl,List.getElem?_set_self hi,hb]
    ·rw [if_neg p2,List.getElem?_set_ne (by omega)]
  intro s t g hs ht;have s1 : s < gs.length := by simpa using (List.getElem?_eq_some_iff.1 hs).1
  have t1 : t < gs.length := by simpa using (List.getElem?_eq_some_iff.1 ht).1
  rw [key s s1] at hs;rw [key t t1] at ht;have := h2 _ _ _ hs ht
  split at this <;> split at this <;> (try split at this) <;> (try split at this) <;> omega
 ·intro g hg
  rcases List.mem_or_eq_of_mem_set hg with q | rfl
  ·rcases List.mem_or_eq_of_mem_set q with q | rfl
   ·exact h4 g q
   ·exact h4 _ (List.mem_of_getElem? hb)
  ·exact h4 _ (List.mem_of_getElem? ha)
 ·have keep : ∀ (t g : Nat),gs[t]? = some g → Row ((w.setCell ⟨L,i,none⟩ (rowv c b)).setCell ⟨L,j,none⟩ (rowv c a)) g (ws (rowE m t)) := fun t g hg =>
   ht.row (h6 t g hg) fun q => h0.apart (L := L) rfl (List.mem_of_getElem? hg) (show g = L from q).symm
  intro t g hg;unfold swE;rw [rowE_set (by simp;omega)]
  by_cases p : j = t
  ·subst p
   rw [List.getElem?_set_self (by simpa using hj),Option.some.injEq] at hg;subst hg;rw [if_pos rfl];exact keep i _ ha
  ·rw [List.getElem?_set_ne (by omega)] at hg
   rw [if_neg p,rowE_set (by omega)]
   by_cases p2 : i = t
   ·subst p2
    rw [List.getElem?_set_self hi,Option.some.injEq] at hg;subst hg;rw [if_pos rfl];exact keep j _ hb
   ·rw [List.getElem?_set_ne (by omega)] at hg
    rw [if_neg p2];exact keep t _ hg
theorem Tryz.infoLs12 : (Tryz.prog.info? 42).map (fun i => (i.zero,i.size,i.bytes)) = some (some (.slice none 0 0),1,24) := by kernel_rfl
theorem zMB (g j : Nat) : (⟨g,0,none⟩ : Addr).add j = ⟨g,j,none⟩ := by unfold Addr.add;split <;> simp_all
theorem zOC {base n : Nat} {w w' : World} {v : Value} {Us : List Value} {e : TypeId} {sz : Nat} {b : Nat} {T : TypeId} {L : List Value} (h : Cel w b T L) (ho : w.ownsRow base e sz v n Us) (hg : w.grownBy w' v.ownBlock) (hT : T ≠ e) : Cel w' b T L := by
 refine (hg.block b h.blk fun q => ?_).trans h;obtain ⟨_,⟨q1,_⟩ | ⟨g',cap',cur,q1,_,q4,_⟩⟩ := ho
 ·rw [q1] at q;cases q
 ·rw [q1] at q
  simp only [Value.ownBlock,Option.some.injEq] at q;subst q;have := (show w.heap[_]? = _ from h).symm.trans q4;simp only [Option.some.injEq,Obj.cells.injEq] at this;exact hT this.2.1
theorem zTF {base n : Nat} {w w' : World} {v : Value} {Us : List Value} {e : TypeId} {sz : Nat} {b : Nat} {L : List Value} (h : Row w b L) (ho : w.ownsRow base e sz v n Us) (hg : w.grownBy w' v.ownBlock) (hT : 25 ≠ e) : Row w' b L := zOC (T := 25) h ho hg hT
theorem zoC (w : World) {o : Oper} {a : Act} {K : Act → World → Prop} {Q : Exit → Act → World → Prop}
  (s x : Operand) (hop : o.op = .call { callee := .builtin .append,args := #[s,x],argTypes := #[52,52] })
  (B c : Nat) (v : Value) (gs : List Nat) (m : List (List Int)) (g : Nat) (xs : List Int) (hs : a.eval s = v) (hB : Lns B w v c gs m) (gx : Nat) (hx : a.eval x = .slice (some ⟨gx,0,none⟩) 1 1) (hc : w.cell? ⟨gx,0,none⟩ = some (rowv c g)) (hr : Row w g (ws xs)) (hl : xs.length = c) (hg : ∀ b ∈ gs,b < g) (hBg : B ≤ g) (hlen : m.length ≤ 1000000000) (hBs : B ≤ w.heap.size)
  (hK : ∀ a' cap' w',Hid (Lns B w' (.slice (some ⟨a',0,none⟩) (m.length + 1) cap') c (gs ++ [g]) (m ++ [xs])) → Hid (∀ (b : Nat) (T : TypeId) (L : List Value),Cel w b T L → T ≠ 42 → Cel w' b T L) → Hid (Below B w w') → K (a.put o.dst (.slice (some ⟨a',0,none⟩) (m.length + 1) cap')) w') :
  o.wp Tryz.prog a w K Q := by
 obtain ⟨i,hi,hz,hsz,hby⟩ := info_parts Tryz.infoLs12;obtain ⟨h1,h2,h3,h4,h5,h6⟩ := hB;refine wp_append_lies w s x 52 hop B 42 i (.slice none 0 0) 1 24 Tryz.underlying52 hi hz hsz hby rfl (by omega) v gs.length (gs.map (rowv c)) hs h1 ⟨gx,0,none⟩ 1 1 [rowv c g] hx rfl ?_ ?_ (by omega) (by unfold maxLen;omega) (by omega) hBs w.heap.size rfl ?_
 ·intro j u' hj
  match j,hj with
  | 0,hj => simp at hj;subst hj;rw [zMB];exact hc
 ·intro u' hu'
  simp at hu';subst hu'
  rfl
 ·intro g' cap' w' k1 k2 k3 k4
  rw [h3] at k1 ⊢;refine hK _ _ w' ⟨?_,?_,by simp [h3],fun b hb => ?_,fun l hl' => ?_,fun j b hb => ?_⟩ (fun b T L hC hT => zOC hC h1 k2 hT) ?_
  ·rw [List.length_append,List.length_cons,List.length_nil,h3,List.map_append]
   exact k1
  ·intro p q b hp hq
   by_cases e1 : p < gs.length
   ·rw [List.getElem?_append_left e1] at hp
    by_cases e2 : q < gs.length
    ·rw [List.getElem?_append_left e2] at hq
     exact h2 p q b hp hq
    ·rw [List.getElem?_append_right (by omega)] at hq
     have : b = g := by
      rcases Nat.eq_zero_or_pos (q - gs.length) with z | z
      ·rw [z] at hq;simpa using hq.symm
      ·rw [show q - gs.length = (q - gs.length - 1) + 1 by omega] at hq;simp at hq
     subst this;have := hg b (List.mem_of_getElem? hp);omega
   ·have l1 := (List.getElem?_eq_some_iff.1 hp).1
    have l2 := (List.getElem?_eq_some_iff.1 hq).1;simp at l1 l2;rw [List.getElem?_append_right (by omega)] at hp;have : b = g := by
     rw [show p - gs.length = 0 by omega] at hp
     simpa using hp.symm
    subst this
    by_cases e2 : q < gs.length
    ·rw [List.getElem?_append_left e2] at hq
     have := hg b (List.mem_of_getElem? hq);omega
    ·omega
  ·rcases List.mem_append.1 hb with q | q
   ·exact h4 b q
   ·simp at q;omega
  ·rcases List.mem_append.1 hl' with q | q
   ·exact h5 l q
   ·simp at q;rw [q];exact hl
  ·by_cases e1 : j < gs.length
   ·rw [List.getElem?_append_left e1] at hb
    have e : rowE (m ++ [xs]) j = rowE m j := by
     unfold rowE;simp [List.getElem?_append_left (show j < m.length by omega)]
    rw [e];exact zTF (h6 j b hb) h1 k2 (by decide)
   ·have l1 := (List.getElem?_eq_some_iff.1 hb).1
    simp at l1;obtain rfl : j = gs.length := by omega
    rw [List.getElem?_append_right (by omega)] at hb;simp at hb;subst hb;have e : rowE (m ++ [xs]) gs.length = xs := by
     unfold rowE;rw [h3]
     simp
    rw [e];exact zTF hr h1 k2 (by decide)
  ·refine ⟨k2.os,k2.tape,k2.output,k2.size,fun k hk => k2.block k (by omega) (fun e => ?_)⟩
   obtain ⟨_,⟨q,_⟩ | ⟨g1,cap1,cur,q,q3,_⟩⟩ := h1
   ·rw [q] at e;cases e
   ·rw [q] at e
    obtain rfl : k = g1 := by simpa [Value.ownBlock] using e
    omega
theorem wpList_append_lns (w : World) {ops : Array Oper} {rest : List Oper} {o : Oper} {a : Act} {Q : Exit → Act → World → Prop}
  (hgd : o.guard = none) (s x : Operand) (hop : o.op = .call { callee := .builtin .append,args := #[s,x],argTypes := #[52,52] })
  (B c : Nat) (v : Value) (gs : List Nat) (m : List (List Int)) (g : Nat) (xs : List Int) (hs : a.eval s = v) (hB : Lns B w v c gs m) (gx : Nat) (hx : a.eval x = .slice (some ⟨gx,0,none⟩) 1 1) (hc : w.cell? ⟨gx,0,none⟩ = some (rowv c g)) (hr : Row w g (ws xs)) (hl : xs.length = c) (hg : ∀ b ∈ gs,b < g) (hBg : B ≤ g) (hlen : m.length ≤ 1000000000) (hBs : B ≤ w.heap.size)
  (hK : ∀ a' cap' w',Hid (Lns B w' (.slice (some ⟨a',0,none⟩) (m.length + 1) cap') c (gs ++ [g]) (m ++ [xs])) → Hid (∀ (b : Nat) (T : TypeId) (L : List Value),Cel w b T L → T ≠ 42 → Cel w' b T L) → Hid (Below B w w') → wpList Tryz.prog ops Q rest (a.put o.dst (.slice (some ⟨a',0,none⟩) (m.length + 1) cap')) w') :
  wpList Tryz.prog ops Q (o :: rest) a w :=
 wpList_plain hgd fun _ hK' => zoC w s x hop B c v gs m g xs hs hB gx hx hc hr hl hg hBg hlen hBs fun a' cap' w' h1 h2 h3 => hK' _ _ (hK a' cap' w' h1 h2 h3)
theorem step_append_lns (w : World) {ops : Array Oper} {o : Oper} {a : Act} {K : Act → World → Prop} {Q : Exit → Act → World → Prop} {E : Prop}
  (hgd : o.guard = none) (s x : Operand) (hop : o.op = .call { callee := .builtin .append,args := #[s,x],argTypes := #[52,52] })
  (B c : Nat) (v : Value) (gs : List Nat) (m : List (List Int)) (g : Nat) (xs : List Int) (hs : a.eval s = v) (hB : Lns B w v c gs m) (gx : Nat) (hx : a.eval x = .slice (some ⟨gx,0,none⟩) 1 1) (hc : w.cell? ⟨gx,0,none⟩ = some (rowv c g)) (hr : Row w g (ws xs)) (hl : xs.length = c) (hg : ∀ b ∈ gs,b < g) (hBg : B ≤ g) (hlen : m.length ≤ 1000000000) (hBs : B ≤ w.heap.size)
  (hK : ∀ a' cap' w',Hid (Lns B w' (.slice (some ⟨a',0,none⟩) (m.length + 1) cap') c (gs ++ [g]) (m ++ [xs])) → Hid (∀ (b : Nat) (T : TypeId) (L : List Value),Cel w b T L → T ≠ 42 → Cel w' b T L) → Hid (Below B w w') → K (a.put o.dst (.slice (some ⟨a',0,none⟩) (m.length + 1) cap')) w') :
  if Region.wanted o (yielded ops a.tmps) = true then Oper.wp Tryz.prog o a w K Q else E := by
 have hw : Region.wanted o (yielded ops a.tmps) = true := by simp [Region.wanted,hgd]
 rw [if_pos hw];exact zoC w s x hop B c v gs m g xs hs hB gx hx hc hr hl hg hBg hlen hBs hK
section
variable {P : Program} {ops : Array Oper} {Q : Exit → Act → World → Prop} {md : Region.Mode} {S : World → Prop} {n : Nat}
theorem wpAnyT_firstA {i : Nat} {oi : Oper} {v : Value} (hi : ops[i]? = some oi) (hsel : ∀ (j : Nat) (o : Oper) cs b,ops[j]? = some o → o.op ≠ .select cs b)
  (hQ : ∀ c a w,Q (.panic c) (a.put oi.dst v) w → Q (.panic c) a w)
  (hn : ops.size ≤ n) :
  ∀ (fuel : Nat) (listed : Array Bool) (a : Act) (w : World),
   (∀ j oj,ops[j]? = some oj → j ≠ i → listed.getD j true = false → (∀ e ∈ oj.after,Region.binds md e = true → e.on ≠ i) → oi.apart ops oj = true) →
   i ∈ Region.ready md ops listed → YieldsIf P ops S oi v a → S w →
   zmA P md ops Q S n fuel (listed.setIfInBounds i true) (a.put oi.dst v) w → zmA P md ops Q S n (fuel + 1) listed a w := by
 intro fuel
 induction fuel with
 | zero =>
  intro listed a w _ hr hy hS H;refine ⟨fun h => (by rw [h] at hr;cases hr),fun j hj => ?_⟩
  by_cases hji : j = i
  ·subst hji;exact hy.wpOp hi hS ⟨fun _ => hS,H⟩
  ·have := ready_mono hj hji
   rw [H.1] at this;cases this
 | succ fuel ih =>
  intro listed a w hfree hr hy hS H;refine ⟨fun h => (by rw [h] at hr;cases hr),fun j hj => ?_⟩;have hjn : j < n := by
   obtain ⟨_,oj,hoj,_⟩ := mem_ready.1 hj;exact Nat.lt_of_lt_of_le (Array.getElem?_eq_some_iff.1 hoj).1 hn
  by_cases hji : j = i
  ·subst hji;exact hy.wpOp hi hS ⟨fun _ => hS,H⟩
  ·have h1 := H.2 j (ready_mono hj hji)
   obtain ⟨hjun,oj,hoj,hall⟩ := mem_ready.1 hj;have hnot : ∀ e ∈ oj.after,Region.binds md e = true → e.on ≠ i := fun e he hb heq => by
    have h1 := hall e he hb;have h0 := (mem_ready.1 hr).1;rw [heq] at h1;rcases Nat.lt_or_ge i listed.size with h' | h'
    ·simp [h'] at h0 h1;rw [h0] at h1;cases h1
    ·simp [Array.getElem?_eq_none h'] at h1
   have h2 := wpOp_putIf hoj (hfree j oj hoj hji hjun hnot) (fun cs b => hsel i oi cs b hi) (fun cs b => hsel j oj cs b hoj) hQ hy h1;have hfree' : ∀ k ok,ops[k]? = some ok → k ≠ i → (listed.setIfInBounds j true).getD k true = false →
     (∀ e ∈ ok.after,Region.binds md e = true → e.on ≠ i) → oi.apart ops ok = true := fun k ok hk hki hun hno => by
    refine hfree k ok hk hki ?_ hno
    by_cases hjk : j = k
    ·subst hjk;exact hjun
    ·rw [getD_set_ne true hjk] at hun;exact hun
   refine wpOp_mono (fun a' w' h3 => ⟨fun _ => h3.2.1 hjn,ih (listed.setIfInBounds j true) a' w' hfree' (ready_mono hr (Ne.symm hji)) h3.1 (h3.2.1 hjn) ?_⟩) h2;rw [Array.setIfInBounds_comm _ _ hji];exact h3.2.2
theorem zKA {i : Nat} {oi : Oper} {v : Value} {fuel : Nat} {listed : Array Bool} {a : Act} {w : World} (hi : ops[i]? = some oi)
  (hok : (Region.noSelect ops && Region.free md ops listed i && (Region.ready md ops listed).contains i && decide (ops.size ≤ n)) = true)
  (hQ : ∀ c a w,Q (.panic c) (a.put oi.dst v) w → Q (.panic c) a w) (hy : YieldsIf P ops S oi v a) (hS : S w)
  (h : zmA P md ops Q S n fuel (listed.setIfInBounds i true) (a.put oi.dst v) w) : zmA P md ops Q S n (fuel + 1) listed a w := by
 simp only [Bool.and_eq_true,decide_eq_true_eq] at hok;obtain ⟨⟨⟨h1,h2⟩,h3⟩,h4⟩ := hok;exact wpAnyT_firstA hi (Region.noSelect_spec h1) hQ h4 fuel listed a w (Region.free_spec hi h2) (by simpa using h3) hy hS h
end
end Go.Proofs.YtkklldokdnfkgaaGreat
