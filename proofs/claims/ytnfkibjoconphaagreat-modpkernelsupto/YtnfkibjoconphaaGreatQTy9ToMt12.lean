/-
 QTy9ToMt12: Ty9, Mt12, joined.
-/
import Derived.Test.YtnfkibjoconphaaGreatQFil9ToMat9
import Derived.Test.YtnfkibjoconphaaGreatQLw12ToCw12

set_option maxRecDepth 100000
set_option maxHeartbeats 6400000
set_option linter.unusedVariables false
set_option linter.unusedSimpArgs false
namespace Go.Proofs.YtnfkibjoconphaaGreat
open Go.RowKit
def Ty (T : TypeId) (w w' : World) : Prop := w.heap.size ≤ w'.heap.size ∧ ∀ (b : Nat) (L : Array Value) (T' : TypeId) (fr : Nat × Nat),w.heap[b]? = some (.cells L T' fr) → T' ≠ T → w'.heap[b]? = some (.cells L T' fr)
theorem Ty.trans {T : TypeId} {a b c : World} (h : Ty T a b) (h' : Ty T b c) : Ty T a c := ⟨Nat.le_trans h.1 h'.1,fun g L T' fr e hne => h'.2 g L T' fr (h.2 g L T' fr e hne) hne⟩
theorem Ty.set {T : TypeId} {w : World} {g i : Nat} {L : List Value} {u : Value} (d : Cel w g T L) : Ty T w (w.setCell ⟨g,i,none⟩ u) := by
 refine ⟨by simp,fun b L' T' fr e hne => ?_⟩;have hb : b ≠ g := fun q => by
  subst q;have := e.symm.trans (show w.heap[b]? = _ from d);simp at this;exact hne this.2.1
 exact (Below.heap_setCell w _ u b (fun q => hb (by simpa using q))).trans e
theorem Ty.grown {T : TypeId} {w w' : World} {B size n : Nat} {v : Value} {xs : List Value} (h : w.ownsRow B T size v n xs) (hg : w.grownBy w' v.ownBlock) : Ty T w w' := by
 refine ⟨hg.size,fun b L' T' fr e hne => (hg.block b (Array.getElem?_eq_some_iff.1 e).1 (fun q => ?_)).trans e⟩;obtain ⟨_,⟨q1,_⟩ | ⟨g,cap,cur,q1,_,q3,_⟩⟩ := h
 ·rw [q1] at q;cases q
 ·rw [q1] at q
  simp only [Value.ownBlock,Option.some.injEq] at q;subst q;have := e.symm.trans q3;simp at this;exact hne this.2.1
theorem Zm.ty {T : TypeId} {B k : Nat} {w w' : World} {v : Value} {z : Int} (h : Zm B w v z k) (ht : Ty T w w') (hT : 25 ≠ T) : Zm B w' v z k := by
 obtain ⟨n1,zs,a,c,e,hm,rest⟩ := h;refine ⟨n1,zs,a,c,e,?_,rest⟩;obtain ⟨hw,h | ⟨g,r,cap,h1,h2,h3,h4,h5,h6⟩⟩ := hm
 ·exact ⟨hw,.inl h⟩
 ·exact ⟨hw,.inr ⟨g,r,cap,h1,h2,h3,h4,h5,ht.2 g _ _ _ h6 hT⟩⟩
def PrsT (w : World) (v : Value) (ps : List (Value × Value)) : Prop := Prs 0 w v ps ∧ ∀ (b off l c : Nat),v = .slice (some ⟨b,off,none⟩) l c → ∃ (L : Array Value) (fr : Nat × Nat),w.heap[b]? = some (.cells L 43 fr)
theorem PrsT.ty {T : TypeId} {w w' : World} {v : Value} {ps : List (Value × Value)} (h : PrsT w v ps) (ht : Ty T w w') (hT : 43 ≠ T) : PrsT w' v ps := by
 have key : ∀ (b off l c : Nat),v = .slice (some ⟨b,off,none⟩) l c → w'.heap[b]? = w.heap[b]? := fun b off l c e => by
  obtain ⟨L,fr,q⟩ := h.2 b off l c e;rw [ht.2 b L _ fr q hT,q]
 refine ⟨?_,fun b off l c e => by
  obtain ⟨L,fr,q⟩ := h.2 b off l c e;exact ⟨L,fr,ht.2 b L _ fr q hT⟩⟩
 obtain ⟨a,c,h1,h2,h3,hx,h4⟩ := h.1;refine ⟨a,c,h1,h2,h3,hx,?_⟩;rcases h4 with h4 | ⟨b,off,h5,h5',h6,h7⟩
 ·exact .inl h4
 ·have e := key b off ps.length c (by rw [h1,h5])
  refine .inr ⟨b,off,h5,h5',Nat.lt_of_lt_of_le h6 ht.1,fun j p hp => ?_⟩;have q := h7 j p hp;exact ⟨(World.cell?_of_block (a := ⟨b,off + j * 2,none⟩) e).trans q.1,(World.cell?_of_block (a := ⟨b,off + j * 2 + 1,none⟩) e).trans q.2⟩
theorem Arr.prsT {w : World} {g : Nat} {ps : List (Value × Value)} (h : Arr w g ps) (hl : ps.length ≤ 1048576) : PrsT w (.slice (some ⟨g,0,none⟩) ps.length ps.length) ps := by
 refine ⟨h.prs (Nat.zero_le _) hl (Nat.le_refl _),fun b off l c e => ?_⟩;simp only [Value.slice.injEq,Option.some.injEq,Addr.mk.injEq] at e;obtain ⟨⟨rfl,-,-⟩,-,-⟩ := e;exact ⟨_,_,h.1⟩
def Zms (w : World) (ps : List (Value × Value)) (zs : List Int) (k : Nat) : Prop := ps.length = zs.length ∧ ∀ (j : Nat) (p : Value × Value) (z : Int),ps[j]? = some p → zs[j]? = some z → Zm 0 w (.agg #[p.1,p.2]) z k
theorem Zms.ty {T : TypeId} {w w' : World} {ps : List (Value × Value)} {zs : List Int} {k : Nat} (h : Zms w ps zs k) (ht : Ty T w w') (hT : 25 ≠ T) : Zms w' ps zs k := ⟨h.1,fun j p z hp hz => (h.2 j p z hp hz).ty ht hT⟩
theorem Zms.now {w w' : World} {ps : List (Value × Value)} {zs : List Int} {k : Nat} (h : Zms w ps zs k) (hb : Below w.heap.size w w') : Zms w' ps zs k := ⟨h.1,fun j p z hp hz => (h.2 j p z hp hz).now hb⟩
theorem Zms.zcs {w : World} {ps : List (Value × Value)} {zs : List Int} {k : Nat} (h : Zms w ps zs k) : Zcs w ps zs k := ⟨h.1,fun j p z hp hz => (h.2 j p z hp hz).zc⟩
def FilM (wx : World) (g n i : Nat) (F : Nat → Int) (k : Nat) : Prop := ∃ ps,Arr wx g ps ∧ ps.length = n ∧ ∀ (j : Nat) (p : Value × Value),j < i → ps[j]? = some p → Zm 0 wx (.agg #[p.1,p.2]) (F j) k
theorem FilM.start {w : World} {g n : Nat} (h : Arr w g (List.replicate n zAG)) (F : Nat → Int) (k : Nat) : FilM w g n 0 F k := ⟨_,h,by simp,fun j p hj => by omega⟩
theorem FilM.step {w w' : World} {g n i : Nat} {F : Nat → Int} {k : Nat} (h : FilM w g n i F k) (hb : Below w.heap.size w w') : FilM w' g n i F k := by
 obtain ⟨ps,h1,h2,h3⟩ := h;exact ⟨ps,h1.step hb,h2,fun j p hj hp => (h3 j p hj hp).now hb⟩
theorem FilM.put {w : World} {g n i : Nat} {F : Nat → Int} {k : Nat} {x y : Value} (h : FilM w g n i F k) (hi : i < n) (hz : Zm 0 w (.agg #[x,y]) (F i) k) : FilM ((w.setCell ⟨g,i * 2,none⟩ x).setCell ⟨g,i * 2 + 1,none⟩ y) g n (i + 1) F k := by
 obtain ⟨ps,h1,h2,h3⟩ := h;have ht : Ty 43 w ((w.setCell ⟨g,i * 2,none⟩ x).setCell ⟨g,i * 2 + 1,none⟩ y) := (Ty.set h1.1).trans (Ty.set (h1.1.set _ _));refine ⟨ps.set i (x,y),h1.put (by omega) hz.zi.isI,by simpa using h2,fun j p hj hp => ?_⟩
 by_cases q : j = i
 ·subst q
  rw [List.getElem?_set_self (by omega),Option.some.injEq] at hp;subst hp;exact hz.ty ht (by decide)
 ·rw [List.getElem?_set_ne (by omega)] at hp
  exact (h3 j p (by omega) hp).ty ht (by decide)
theorem FilM.cells {w : World} {g n i j : Nat} {F : Nat → Int} {k : Nat} (h : FilM w g n i F k) (hj : j < n) : ∃ m a l c,w.cell? ⟨g,j * 2,none⟩ = some (.bool m) ∧ w.cell? ⟨g,j * 2 + 1,none⟩ = some (.slice a l c) ∧ w.frozen? ⟨g,j * 2,none⟩ = false ∧ w.frozen? ⟨g,j * 2 + 1,none⟩ = false := by
 obtain ⟨ps,h1,h2,h3⟩ := h;have hp : ps[j]? = some (ps[j]'(by omega)) := List.getElem?_eq_getElem (by omega);obtain ⟨m,a,l,c,e⟩ := h1.2 _ (List.getElem_mem (l := ps) (n := j) (by omega));have q := h1.at hp;rw [e] at q;exact ⟨m,a,l,c,q.1,q.2,h1.1.fz _,h1.1.fz _⟩
theorem FilM.done {w : World} {g n : Nat} {F : Nat → Int} {k : Nat} (h : FilM w g n n F k) (hn : n ≤ 1048576) : ∃ ps,PrsT w (.slice (some ⟨g,0,none⟩) n n) ps ∧ Zms w ps ((List.range n).map F) k := by
 obtain ⟨ps,h1,rfl,h3⟩ := h;refine ⟨ps,h1.prsT hn,by simp,fun j p z hp hz => ?_⟩;have hj : j < ps.length := (List.getElem?_eq_some_iff.1 hp).1;rw [List.getElem?_map,List.getElem?_range hj,Option.map_some,Option.some.injEq] at hz;subst hz;exact h3 j p hj hp
def zoH (w : World) (zs : List Int) (k : Nat) (e : Ending) (w' : World) : Prop := ∃ u ps,e = .returned u ∧ PrsT w' u ps ∧ Zms w' ps zs k ∧ Below w.heap.size w w'
def Rw (w : World) (v : Value) (xs : List Int) : Prop := ∃ a cap,v = .slice a xs.length cap ∧ xs.length ≤ cap ∧ (0 < xs.length → ∃ b off,a = some ⟨b,off,none⟩ ∧ b < w.heap.size ∧ ∀ j (h : j < xs.length),w.cell? ⟨b,off + j,none⟩ = some (.int .u64 xs[j]))
theorem Rw.now {w w' : World} {v : Value} {xs : List Int} (h : Rw w v xs) (hb : Below w.heap.size w w') : Rw w' v xs := by
 obtain ⟨a,cap,h1,h2,h3⟩ := h;refine ⟨a,cap,h1,h2,fun hp => ?_⟩;obtain ⟨b,off,q1,q2,q3⟩ := h3 hp;exact ⟨b,off,q1,Nat.lt_of_lt_of_le q2 hb.size,fun j hj => (hb.cell (p := ⟨b,off + j,none⟩) q2).trans (q3 j hj)⟩
theorem OwnW.rw {B : Nat} {w : World} {v : Value} {xs : List Int} (h : OwnW B w v xs) : Rw w v xs := by
 have h' := h;obtain ⟨q1,⟨q2,q3⟩ | ⟨g,cap,cur,q2,q3,q4,q5,q6⟩⟩ := h
 ·exact ⟨none,0,by rw [q2,q3],by omega,fun hp => by omega⟩
 ·refine ⟨_,cap,q2,q5,fun _ => ⟨g,0,rfl,(Array.getElem?_eq_some_iff.1 q4).1,fun j hj => ?_⟩⟩
  rw [q2] at h';have := h'.cellAt j (by omega);rw [Nat.zero_add,this];simp [ws,hj]
def IntH (w : World) (n : Nat) (F : Nat → Int) (gk : Nat) (s : Value) (wx : World) : Prop := ∃ i : Nat,s = .int .i64 (i : Int) ∧ i ≤ n ∧ gk = n - i ∧ FilM wx w.heap.size n i F 1 ∧ Below w.heap.size w wx
theorem integers12 {w : World} {p : Nat} {v : Value} {xs : List Int} (hv : Rw w v xs) (hr : Res p xs) (hp2 : p < 2147483648) (hl : xs.length ≤ 1048576) :
  Calls Tryz.prog 45 #[v] w (zoH w xs 1) := by
 have HMP : Hid (xs = (List.range xs.length).map fun j => xs.getD j 0) := by
  unfold Hid
  apply List.ext_getElem
  ·simp
  ·intro j h1 h2
   simp [h1]
 have V0 := hid hv;have HR := hid hr;obtain ⟨a0,c0,rfl,hc0,-⟩ := hv;obtain ⟨n,hn⟩ : ∃ n,xs.length = n := ⟨_,rfl⟩
 rw [hn] at V0 hc0 hl HMP ⊢;have HN := hid hn;clear hr hn;go_enter Tryz.func45,Tryz.ntmps45;go_wp2_with (at_make;refine zxA _ rfl _ _ rfl _ _ n n rfl rfl rfl rfl (Nat.le_refl _) (by omega) ?_)
 intro w1 hrow hb1 hsz1;have H0 : Hid (IntH w n (fun j => xs.getD j 0) n (.int .i64 0) w1) := ⟨0,rfl,Nat.zero_le _,by omega,FilM.start hrow _ _,hb1⟩
 clear hrow hb1 hsz1;go_wp2_with fail
 go_loopg [11] n (fun gk s11 wx => IntH w n (fun j => xs.getD j 0) gk s11 wx)
 case atStart => exact H0.out
 case round =>
  clear H0;obtain ⟨i,rfl,hin,hg,hfil,hG⟩ := hrel;have FI := hid hfil;have G := hid hG;have HG := hid hg;clear hfil hG hg
  by_cases hlt : i < n
  ·have hlt' : (i : Int) < (n : Int) := by omega
   have hix : i < xs.length := by rw [HN.out];exact hlt
   obtain ⟨a1,cap1,e1,e2,e3⟩ := V0.out.now G.out;simp only [Value.slice.injEq] at e1;obtain ⟨rfl,-,-⟩ := e1;obtain ⟨b,off,rfl,hbs,hcs⟩ := e3 (by omega);have k0 := hcs i hix;have hx : xs.getD i 0 = xs[i] := by simp [hix]
   have rx := HR.out.at hix;rw [← hx] at k0 rx;obtain ⟨x,hxx⟩ : ∃ x,xs.getD i 0 = x := ⟨_,rfl⟩
   rw [hxx] at k0 rx;have HXX := hid hxx;have cv : IntKind.i64.wrap x = x := by unfold IsR at rx;rw [zPA] <;> omega
   have HS := hid (of_z (n := x) (by unfold IsR at rx;omega) (by unfold IsR at rx;omega) wr);have hw := zmA (i := i) (by omega);clear e2 e3 hcs hbs hx hxx rx;go_wp2_with fail;refine HS.out.mono ?_;rintro e w1 ⟨r,rfl,m1,b1⟩;have FI1 := hid (FI.out.step b1);have G1 := hid (below_step G.out b1);have M1 : Hid (Zm 0 w1 r (xs.getD i 0) 1) := by unfold Hid;rw [HXX.out];exact m1.mono (Nat.zero_le _)
   obtain ⟨nr,xr,ar,cr,rfl⟩ := m1.parts;obtain ⟨m0,am,lm,cm,e0,e1,e2,e3⟩ := FI1.out.cells hlt;have HN1 : Hid (IntH w n (fun j => xs.getD j 0) (n - (i + 1)) (.int .i64 ((i + 1 : Nat) : Int)) ((w1.setCell ⟨w.heap.size,i * 2,none⟩ (.bool nr)).setCell ⟨w.heap.size,i * 2 + 1,none⟩ (.slice ar xr.length cr))) :=
    ⟨i + 1,rfl,by omega,rfl,FI1.out.put hlt M1.out,bset (bset G1.out (Nat.le_refl _)) (Nat.le_refl _)⟩
   have HMM : Hid (n - (i + 1) < gk) := by unfold Hid;rw [HG.out];omega
   clear HS FI G HG FI1 G1 M1 m1 b1 k0 HXX;go_wp2_with fail;go_roundg (n - (i + 1))
   case rel => exact HN1.out
   case measure => exact HMM.out
  ·have hlt' : ¬ (i : Int) < (n : Int) := by omega
   obtain rfl : i = n := by omega
   obtain ⟨ps,p1,p2⟩ := FI.out.done hl;rw [← HMP.out] at p2;have FIN : Hid (zoH w xs 1 (.returned (.slice (some ⟨w.heap.size,0,none⟩) i i)) wr) := ⟨_,ps,rfl,p1,p2,G.out⟩
   clear FI G HG p1 p2;go_wp2;go_ret;exact FIN.out
theorem zgC {p : Nat} {ls : List (List Int)} (h : ResM p ls) : Res p ls.flatten := fun x hx => by
 obtain ⟨l,hl,hx⟩ := List.mem_flatten.1 hx;exact h l hl x hx
theorem flatten_len {m : Nat} {ls : List (List Int)} (h : WidE m ls) : ls.flatten.length = ls.length * m := by
 have := zUF (pss := ls) (fun ps hp => h ps hp) ls.length (Nat.le_refl _);rw [List.take_length] at this;exact this
theorem zEF {w : World} {lv : Value} {p r c : Nat} {ls : List (List Int)} (hv : Rdl w lv ls) (hw : WidE c ls) (hr : ResM p ls) (hp2 : p < 2147483648) (hl : ls.length = r) (hr2 : r ≤ 64) (hc : c ≤ 64) :
  Calls Tryz.prog 32 #[shv p c lv] w (zJI w r c ls.flatten 1) := by
 have hrc : r * c ≤ 64 * 64 := Nat.mul_le_mul hr2 hc;have hfl : ls.flatten.length = r * c := by rw [flatten_len hw,hl]
 obtain ⟨a,cap,rfl,hcap,-,-⟩ := hv.form;rw [hl] at hv hcap ⊢;obtain ⟨W0,hW⟩ : ∃ W0,(w.alloc (shO p c (.slice a r cap))).alloc mbox = W0 := ⟨_,rfl⟩
 have b0 : Below w.heap.size w W0 := by rw [← hW];exact ((Below.refl _ _).alloc (Nat.le_refl _) _).alloc (by simp) _
 have sz0 : W0.heap.size = w.heap.size + 2 := by rw [← hW];simp
 have P1 : Hid (Cel W0 w.heap.size 67 (shc p c (.slice a r cap))) := by unfold Hid;rw [← hW];exact (Cel.new w _ _).step (zJA _ _).1
 have PR : Hid (Cel W0 (w.heap.size + 1) 24 [.int .i64 0,.int .i64 0,.slice none 0 0]) := by
  unfold Hid;rw [← hW];have := Cel.new (w.alloc (shO p c (.slice a r cap))) 24 [.int .i64 0,.int .i64 0,.slice none 0 0]
  simpa using this
 have k1 := P1.out.at (i := 1) rfl;have k2 := P1.out.at (i := 2) rfl;have V0 := hid (hv.now b0);have HWD := hid hw;have HRS := hid hr;have HLN := hid hl;obtain ⟨FT,hFT⟩ : ∃ FT,ls.flatten = FT := ⟨_,rfl⟩
 have HC : Hid (∀ w',Below W0.heap.size W0 w' → Calls Tryz.prog 59 #[.slice a r cap] w' (zTG w' FT)) := fun w' h => by
  have := concatW_any (V0.out.now h) HWD.out (by rw [hl];omega) (by omega);rw [hFT] at this;exact this
 have HRF : Hid (Res p FT) := by unfold Hid;rw [← hFT];exact zgC hr
 rw [hFT] at hfl ⊢;have HFL := hid hfl;have G0 := hid b0;have EW := hid hW;have SZ := hid sz0;have hrc2 := hrc;clear b0 sz0 hW hv hw hr hl hFT hfl hrc;go_enter Tryz.func32,Tryz.ntmps32;go_wp2_with fail;rw [EW.out];clear EW;have KB : Hid (∀ w',Below W0.heap.size W0 w' → w'.cell? ⟨w.heap.size,1,none⟩ = some (.int .i64 (c : Int)) ∧ w'.cell? ⟨w.heap.size,2,none⟩ = some (.slice a r cap)) := fun w' h => ⟨cnow h k1,cnow h k2⟩
 refine zDA (fun w' => w'.cell? ⟨w.heap.size,1,none⟩ = some (.int .i64 (c : Int)) ∧ w'.cell? ⟨w.heap.size,2,none⟩ = some (.slice a r cap)) 10 (by kernel_rfl) ?_;obtain ⟨D1,hD⟩ : ∃ D1,W0.drew = D1 := ⟨_,rfl⟩
 have GB : Hid (Below W0.heap.size W0 D1) := by unfold Hid;rw [← hD];exact (Below.refl _ _).drew
 rw [hD];clear hD;refine zAA (i := 0) (oi := ⟨some 3,.fieldAddr 67 (.tmp 1) 2,0, "sheet.go:49",#[],none⟩) (v := (.pointer (some ⟨w.heap.size,2,none⟩))) rfl (by kernel_rfl) (fun _ _ _ h => h) (Or.inl ⟨by rfl,?_⟩) (KB.out _ GB.out) ?_
 ·intro w hSw;(try dsimp only at hSw);go_simp
 simp only [Act.put,sIb,sC0,sC1];refine zAA (i := 1) (oi := ⟨some 4,.load 65 (.tmp 3),65, "sheet.go:49",#[⟨0,.data⟩],none⟩) (v := (.slice a r cap)) rfl (by kernel_rfl) (fun _ _ _ h => h) (Or.inl ⟨by rfl,?_⟩) (KB.out _ GB.out) ?_
 ·intro w hSw;(try dsimp only at hSw);go_simp
 simp only [Act.put,sIb,sC0,sC1];refine zAA (i := 2) (oi := ⟨some 5,.call { callee := .builtin .len,args := #[.tmp 4],argTypes := #[65] },3, "sheet.go:49",#[⟨1,.data⟩],none⟩) (v := (.int .i64 (r : Int))) rfl (by kernel_rfl) (fun _ _ _ h => h) (Or.inl ⟨by rfl,?_⟩) (KB.out _ GB.out) ?_
 ·intro w hSw;(try dsimp only at hSw);go_simp
 simp only [Act.put,sIb,sC0,sC1];refine zAA (i := 3) (oi := ⟨some 6,.fieldAddr 67 (.tmp 1) 1,0, "sheet.go:49",#[],none⟩) (v := (.pointer (some ⟨w.heap.size,1,none⟩))) rfl (by kernel_rfl) (fun _ _ _ h => h) (Or.inl ⟨by rfl,?_⟩) (KB.out _ GB.out) ?_
 ·intro w hSw;(try dsimp only at hSw);go_simp
 simp only [Act.put,sIb,sC0,sC1];refine zAA (i := 4) (oi := ⟨some 7,.load 3 (.tmp 6),3, "sheet.go:49",#[⟨3,.data⟩],none⟩) (v := (.int .i64 (c : Int))) rfl (by kernel_rfl) (fun _ _ _ h => h) (Or.inl ⟨by rfl,?_⟩) (KB.out _ GB.out) ?_
 ·intro w hSw;(try dsimp only at hSw);go_simp
 simp only [Act.put,sIb,sC0,sC1];refine zAA (i := 5) (oi := ⟨some 8,.fieldAddr 67 (.tmp 1) 2,0, "sheet.go:49",#[],none⟩) (v := (.pointer (some ⟨w.heap.size,2,none⟩))) rfl (by kernel_rfl) (fun _ _ _ h => h) (Or.inl ⟨by rfl,?_⟩) (KB.out _ GB.out) ?_
 ·intro w hSw;(try dsimp only at hSw);go_simp
 simp only [Act.put,sIb,sC0,sC1];refine zAA (i := 6) (oi := ⟨some 9,.load 65 (.tmp 8),65, "sheet.go:49",#[⟨5,.data⟩],none⟩) (v := (.slice a r cap)) rfl (by kernel_rfl) (fun _ _ _ h => h) (Or.inl ⟨by rfl,?_⟩) (KB.out _ GB.out) ?_
 ·intro w hSw;(try dsimp only at hSw);go_simp
 simp only [Act.put,sIb,sC0,sC1];refine zBA (i := 7) (o := ⟨some 10,.call { callee := .value (.func 59),args := #[.tmp 9],argTypes := #[65] },41, "sheet.go:49",#[⟨6,.data⟩],none⟩) (by kernel_rfl) rfl (fun K hK => ?_);go_simp;go_at_call 59;refine (HC.out _ GB.out).mono ?_;rintro e w2 ⟨u,rfl,ho,b⟩;have lz2 := (show Below _ _ _ from b).size;replace GB := hid (below_step GB.out b);have PC := hid ho.rw;obtain ⟨ac,cc,rfl,-,-⟩ := PC.out;clear ho;clear b;refine hK.out _ _ (fun _ => KB.out _ GB.out) ?_;clear hK;refine zBA (i := 8) (o := ⟨some 11,.call { callee := .value (.func 45),args := #[.tmp 10],argTypes := #[41] },22, "sheet.go:49",#[⟨7,.data⟩,⟨7,.chain⟩],none⟩) (by kernel_rfl) rfl (fun K hK => ?_);go_simp;go_at_call 45;refine (integers12 PC.out HRF.out hp2 (by rw [HFL.out];omega)).mono ?_;rintro e w3 ⟨u,ps,rfl,p1,p2,b⟩;have lz3 := (show Below _ _ _ from b).size;replace GB := hid (below_step GB.out b);obtain ⟨au,cu,rfl,-,-,-,-⟩ := p1.1.form;have hql : ps.length = r * c := by rw [p2.1,HFL.out]
 obtain ⟨n,hn⟩ : ∃ n,r * c = n := ⟨_,rfl⟩
 rw [hql,hn] at p1;rw [hql,hn];have HNN := hid hn;have PP := hid p1;have PZ := hid p2;clear p1 p2 hql hn;clear b;refine hK.out _ _ (fun _ => KB.out _ GB.out) ?_;clear hK;refine zAA (i := 9) (oi := ⟨some 12,.build 24 #[(0,.tmp 5),(1,.tmp 7),(2,.tmp 11)],24, "sheet.go:49",#[⟨2,.data⟩,⟨4,.data⟩,⟨8,.data⟩],none⟩) (v := (.agg #[.int .i64 (r : Int),.int .i64 (c : Int),.slice au n cu])) rfl (by kernel_rfl) (fun _ _ _ h => h) (Or.inl ⟨by rfl,?_⟩) (KB.out _ GB.out) ?_
 ·intro w hSw;(try dsimp only at hSw);go_simp
 simp only [Act.put,sIb,sC0,sC1];refine zBA (i := 10) (o := ⟨none,.store 24 (.tmp 2) (.tmp 12),0, "sheet.go:49",#[⟨9,.data⟩,⟨8,.chain⟩,⟨0,.phase⟩,⟨1,.phase⟩,⟨2,.phase⟩,⟨3,.phase⟩,⟨4,.phase⟩,⟨5,.phase⟩,⟨6,.phase⟩,⟨7,.phase⟩,⟨8,.phase⟩,⟨9,.phase⟩],none⟩) (by kernel_rfl) rfl (fun K hK => ?_);have PR2 := hid (PR.out.step GB.out);have y0 := PR2.out.at (i := 0) rfl;have y1 := PR2.out.at (i := 1) rfl;have y2 := PR2.out.at (i := 2) rfl;have g0 := PR2.out.fz 0;have g1 := PR2.out.fz 1;have g2 := PR2.out.fz 2;go_simp;refine hK.out _ _ (fun h => absurd h (by decide)) ?_;clear hK
 try simp only [Act.put]
 refine zFA (by kernel_rfl) ?_ _;have FIN : Hid (zJI w r c FT 1 (.returned (.agg #[.int .i64 (r : Int),.int .i64 (c : Int),.slice au n cu])) (put3 w3 (w.heap.size + 1) (.int .i64 (r : Int)) (.int .i64 (c : Int)) (.slice au n cu))) := by
  refine ⟨_,rfl,⟨_,ps,rfl,?_,PZ.out.zcs.wk (PR2.out.wk3 _ _ _),HFL.out,hr2,hc⟩,zWA (below_step G0.out GB.out) (by omega) _ _ _⟩;have t1 : Ty 24 w3 (put3 w3 (w.heap.size + 1) (.int .i64 (r : Int)) (.int .i64 (c : Int)) (.slice au n cu)) := ((Ty.set PR2.out).trans (Ty.set (PR2.out.set 0 _))).trans (Ty.set ((PR2.out.set 0 _).set 1 _));exact (PP.out.ty t1 (by decide)).1
 have PG := hid (PR2.out.put3 (.int .i64 (r : Int)) (.int .i64 (c : Int)) (.slice au n cu));clear PR PR2 PP PZ GB KB HC G0 k1 k2 y0 y1 y2 g0 g1 g2;go_wp2;exact bodyPost_ret (zVI Tryz.results32 PG.out _ (by rfl)) rfl FIN.out
end Go.Proofs.YtnfkibjoconphaaGreat
