/-
 QCy17ToIx13: Cy17, Cm17, Ix13, joined.
-/
import Derived.Test.YtffkmeocmjohmaaGreatQCr17ToFar
import Derived.Test.YtffkmeocmjohmaaGreatQFo17
import Derived.Test.YtffkmeocmjohmaaGreatQROrderToZe17
import Derived.Test.YtffkmeocmjohmaaGreatQBz13ToSr13
import Derived.Test.YtffkmeocmjohmaaGreatQZOnesToZCmp

set_option maxRecDepth 100000
set_option maxHeartbeats 6400000
set_option linter.unusedVariables false
set_option linter.unusedSimpArgs false
namespace Go.Proofs.YtffkmeocmjohmaaGreat
open Go.RowKit
theorem run_append_any17 (w : World) (ty : TypeId) (g : Nat) {B : Nat} {v : Value} {xs : List Int} (hsl : Sl B w v xs) (hmx : xs.length ≤ 17592186044416) :
  ∃ v' w',(Builtin.append_ #[43,43] ty #[.slice (some ⟨g,0,none⟩) 0 0,v]).run Tryz.prog w = .ok v' w' ∧ Far w.heap.size w' v' xs ∧ Below w.heap.size w w' := by
 have h0 := hsl;obtain ⟨hw,ad,cap,rfl,hlc,hcm,hm⟩ := hsl;cases ad with
 | some ad => exact run_append_empty w ty g h0 (.inr ⟨_,_,_,rfl⟩) hmx
 | none =>
  obtain rfl : xs = [] := by
   rcases hm with e | ⟨b,off,e,_⟩
   ·exact e
   ·cases e
  obtain ⟨i,hi,hz,hsz,hb⟩ := info_parts Tryz.infoW;refine ⟨.slice (some ⟨g,0,none⟩) 0 0,w,?_,⟨WF.nil,.inr ⟨_,_,_,rfl⟩,_,0,rfl,Nat.le_refl _,Nat.zero_le _,.inl rfl⟩,Below.refl _ _⟩;simp [Builtin.append_,run_underlying Tryz.underlying43,sizeOf,typeInfo,hi,Builtin.lenOf,Builtin.firstCells,storeCells]
theorem step_append_any17 {ops : Array Oper} {o : Oper} {a : Act} {w : World} {K : Act → World → Prop} {Q : Exit → Act → World → Prop} {E : Prop} (hgd : o.guard = none) (s x : Operand)
  (hop : o.op = Op.call { callee := Callee.builtin Builtin.append,args := #[s,x],argTypes := #[43,43] })
  (g : Nat) (v : Value) (xs : List Int) (hs : a.eval s = .slice (some ⟨g,0,none⟩) 0 0) (hx : a.eval x = v) (hsl : Sl w.heap.size w v xs) (hmx : xs.length ≤ 17592186044416)
  (hK : ∀ v' w',Hid (Far w.heap.size w' v' xs) → Hid (Below w.heap.size w w') → K (a.put o.dst v') w') :
  if Region.wanted o (yielded ops a.tmps) = true then Oper.wp Tryz.prog o a w K Q else E := by
 have hw : Region.wanted o (yielded ops a.tmps) = true := by simp [Region.wanted,hgd]
 rw [if_pos hw];obtain ⟨v',w',hr,h1,h2⟩ := run_append_any17 w o.type g hsl hmx;unfold Oper.wp execOp;simp only [hop,resolve,invoke,builtin,Sem.run_bind,Sem.run_pure,Result.andThen_ok,List.map_toArray,List.map_cons,List.map_nil,hs,hx,hr];exact hK v' w' h1 h2
def zfG (w : World) (z : Int) (k : Nat) (e : Ending) (w' : World) : Prop := ∃ r,e = .returned r ∧ Zi w' r z k ∧ Below w.heap.size w w'
theorem Zi.parts1 {w : World} {v : Value} {z : Int} {k : Nat} (h : Zi w v z k) : ∃ n,∃ xs : List Int,∃ a c,v = .agg #[.bool n,.slice a xs.length c] := by
 obtain ⟨n,xs,a,c,e,-⟩ := h;exact ⟨n,xs,a,c,e⟩
theorem zDH {w : World} {v : Value} {z : Int} {k : Nat} (h : Zi w v z k) (hk : k ≤ 17592186044416) : Calls Tryz.prog 50 #[v] w (zfG w z k) := by
 obtain ⟨n,xs,a,c,rfl,hs,hz,hl⟩ := h;obtain ⟨W0,hW⟩ : ∃ W0,(w.alloc (duo (.bool n) (.slice a xs.length c))).alloc zbox = W0 := ⟨_,rfl⟩
 obtain ⟨b0,sz0⟩ := zuA w (duo (.bool n) (.slice a xs.length c)) zbox;rw [hW] at b0 sz0;have pa : Duo W0 w.heap.size (.bool n) (.slice a xs.length c) := by rw [← hW];exact (Duo.new w _ _).later (by simp) _
 have PR : Hid (Duo W0 (w.heap.size + 1) (.bool false) (.slice none 0 0)) := by
  unfold Hid;rw [← hW];have := Duo.new (w.alloc (duo (.bool n) (.slice a xs.length c))) (.bool false) (.slice none 0 0)
  simpa using this
 have k0 := pa.c0;have k1 := pa.c1;have S0 := hid (hs.now b0);have G0 := hid b0;have EW := hid hW;have HL : Hid (xs.length ≤ 17592186044416) := by unfold Hid;omega
 have HLK := hid hl;have HZ := hid hz;clear hs hz hl hk b0 sz0 hW pa;go_enter Tryz.func50,Tryz.ntmps50;go_wp2_with fail;rw [EW.out];clear EW;have KB : Hid (∀ w',Below W0.heap.size W0 w' → w'.cell? ⟨w.heap.size,0,none⟩ = some (.bool n) ∧ w'.cell? ⟨w.heap.size,1,none⟩ = some (.slice a xs.length c)) := fun w' h => ⟨cnow h k0,cnow h k1⟩
 refine zFA (fun w' => w'.cell? ⟨w.heap.size,0,none⟩ = some (.bool n) ∧ w'.cell? ⟨w.heap.size,1,none⟩ = some (.slice a xs.length c)) 7 (by kernel_rfl) ?_;obtain ⟨D1,hD⟩ : ∃ D1,W0.drew = D1 := ⟨_,rfl⟩
 have GB : Hid (Below W0.heap.size W0 D1) := by unfold Hid;rw [← hD];exact (Below.refl _ _).drew
 rw [hD];clear hD;refine zDA [(0,(.pointer (some ⟨w.heap.size,0,none⟩))),(1,(.bool n)),(3,(.pointer (some ⟨w.heap.size,1,none⟩))),(4,(.slice a xs.length c))] 4 ?_ (KB.out _ GB.out) ?_
 ·simp only [zJA,gA9,g09,g19,Act.put,sI9,s09,s19]
  (repeat' (first | exact trivial | refine And.intro (Or.inl ⟨by rfl,?_⟩) ?_)) <;> (intro w hSw;(try dsimp only at hSw);go_simp)
 simp only [actV,gA9,g09,g19,Act.put,sI9,s09,s19];refine zBA (i := 2) (o := ⟨some 5,.buildSlice 43 0 #[],43, "keep.go:61",#[],none⟩) (by kernel_rfl) rfl (fun K hK => ?_);go_simp;obtain ⟨V2,hW⟩ : ∃ V2,D1.alloc (.cells #[] 120) = V2 := ⟨_,rfl⟩
 obtain ⟨b,sz2⟩ := alo1 D1 (.cells #[] 120);rw [hW] at b sz2;replace GB := hid (zAA GB.out b);rw [hW];clear hW b;refine hK.out _ _ (fun _ => KB.out _ GB.out) ?_;clear hK
 try simp only [Act.put]
 refine zBA (i := 5) (o := ⟨some 8,.call { callee := .builtin .append,args := #[.tmp 5,.tmp 7],argTypes := #[43,43] },43, "keep.go:61",#[⟨2,.data⟩,⟨4,.data⟩],none⟩) (by kernel_rfl) rfl (fun K hK => ?_);refine step_append_any17 (by rfl) (.tmp 5) (.tmp 7) (by rfl) _ _ xs (by rfl) (by rfl) (S0.out.now GB.out) HL.out ?_;intro v1 w1 hF hN;replace GB := hid (zAA GB.out hN.out);obtain ⟨a1,c1,rfl⟩ := hF.out.form;have SA := hid hF.out.sl;have PR1 := hid (PR.out.step GB.out);have G1 := hid (zAA G0.out GB.out);clear hF hN;refine hK.out _ _ (fun _ => KB.out _ GB.out) ?_;clear hK
 try simp only [Act.put]
 refine zDA [(6,(.agg #[.bool n,.slice a1 xs.length c1]))] 1 ?_ (KB.out _ GB.out) ?_
 ·simp only [zJA,gA9,g09,g19,Act.put,sI9,s09,s19]
  (repeat' (first | exact trivial | refine And.intro (Or.inl ⟨by rfl,?_⟩) ?_)) <;> (intro w hSw;(try dsimp only at hSw);go_simp)
 simp only [actV,gA9,g09,g19,Act.put,sI9,s09,s19];refine zBA (i := 7) (o := ⟨none,.store 45 (.tmp 2) (.tmp 9),0, "keep.go:61",#[⟨6,.data⟩,⟨5,.chain⟩,⟨0,.phase⟩,⟨1,.phase⟩,⟨2,.phase⟩,⟨3,.phase⟩,⟨4,.phase⟩,⟨5,.phase⟩,⟨6,.phase⟩],none⟩) (by kernel_rfl) rfl (fun K hK => ?_);have r0 := PR1.out.c0;have r1 := PR1.out.c1;have f0 := PR1.out.fz 0;have f1 := PR1.out.fz 1;go_simp;clear r0 r1 f0 f1;obtain ⟨V3,hW⟩ : ∃ V3,((w1.setCell ⟨w.heap.size + 1,0,none⟩ (.bool n)).setCell ⟨w.heap.size + 1,1,none⟩ (.slice a1 xs.length c1)) = V3 := ⟨_,rfl⟩
 have PF : Hid (Duo V3 (w.heap.size + 1) (.bool n) (.slice a1 xs.length c1)) := by unfold Hid;rw [← hW];exact PR1.out.set _ _
 have FIN : Hid (zfG w z k (.returned (.agg #[.bool n,.slice a1 xs.length c1])) V3) := by
  unfold Hid;rw [← hW];exact ⟨_,rfl,(show Zi w1 _ z k from ⟨n,xs,a1,c1,rfl,SA.out,HZ.out,HLK.out⟩).wk (PR1.out.wk _ _),bset (bset G1.out (Nat.le_succ _)) (Nat.le_succ _)⟩
 rw [hW];clear hW;refine hK.out _ _ (fun h => absurd h (by decide)) ?_;clear hK
 try simp only [Act.put]
 refine zEA (by kernel_rfl) ?_ _;clear KB GB S0 PR PR1 G0 G1 SA HZ HL HLK;go_wp2;exact bodyPost_ret (zvA Tryz.results50 PF.out _ (by rfl)) rfl FIN.out
theorem zUF {w : World} {g n j : Nat} {C : Nat → Nat → Value} {R : List Value} (h : Cel w g 47 (cl4 n C ++ R)) (hj : j < n) (hq : IsQ (C j)) (x0 x1 x2 x3 : Value) : Wk w (zHD w g j x0 x1 x2 x3) := by
 obtain ⟨n1,a1,l1,c1,n2,a2,l2,c2,e0,e1,e2,e3⟩ := hq;have g0 := zWA h hj (show 0 < 4 by omega);have g1 := zWA h hj (show 1 < 4 by omega);have g2 := zWA h hj (show 2 < 4 by omega);have g3 := zWA h hj (show 3 < 4 by omega);rw [Nat.add_zero] at g0;have hl := zoC n C;have gt : ∀ r,r < 4 → (cl4 n C ++ R)[j * 4 + r]? = some (C j r) := fun r hr => by
  rw [List.getElem?_append_left (by rw [hl];omega)];exact zDD hj hr
 have s1 := h.set (j * 4) x0;have s2 := s1.set (j * 4 + 1) x1;have s3 := s2.set (j * 4 + 2) x2;have q1 := s1.at (i := j * 4 + 1) (v := C j 1) (by rw [List.getElem?_set_ne (by omega)];exact gt 1 (by omega));have q2 := s2.at (i := j * 4 + 2) (v := C j 2) (by rw [List.getElem?_set_ne (by omega),List.getElem?_set_ne (by omega)];exact gt 2 (by omega));have q3 := s3.at (i := j * 4 + 3) (v := C j 3) (by rw [List.getElem?_set_ne (by omega),List.getElem?_set_ne (by omega),List.getElem?_set_ne (by omega)];exact gt 3 (by omega));exact (((Wk.set g0 (by rw [e0];intro x q;cases q)).trans (Wk.set q1 (by rw [e1];intro x q;cases q))).trans (Wk.set q2 (by rw [e2];intro x q;cases q))).trans (Wk.set q3 (by rw [e3];intro x q;cases q))
def FilP (w : World) (g n i : Nat) (P Q : Nat → Int) (k : Nat) : Prop := ∃ C,Cel w g 47 (cl4 n C ++ []) ∧ (∀ j,j < n → IsQ (C j)) ∧ ∀ j,j < i → Zi w (.agg #[C j 0,C j 1]) (P j) k ∧ Zi w (.agg #[C j 2,C j 3]) (Q j) k
theorem FilP.step {w w' : World} {g n i : Nat} {P Q : Nat → Int} {k : Nat} (h : FilP w g n i P Q k) (hb : Below w.heap.size w w') : FilP w' g n i P Q k := by
 obtain ⟨C,h1,h2,h3⟩ := h;exact ⟨C,h1.step hb,h2,fun j hj => ⟨(h3 j hj).1.now hb,(h3 j hj).2.now hb⟩⟩
theorem FilP.wk {w w' : World} {g n i : Nat} {P Q : Nat → Int} {k : Nat} (h : FilP w g n i P Q k) (hb : Wk w w') (hg : w'.heap[g]? = w.heap[g]?) : FilP w' g n i P Q k := by
 obtain ⟨C,h1,h2,h3⟩ := h;exact ⟨C,hg.trans h1,h2,fun j hj => ⟨(h3 j hj).1.wk hb,(h3 j hj).2.wk hb⟩⟩
theorem FilP.cells {w : World} {g n i k j : Nat} {P Q : Nat → Int} (h : FilP w g n i P Q k) (hj : j < n) : ∃ n1 a1 l1 c1 n2 a2 l2 c2,w.cell? ⟨g,j * 4,none⟩ = some (.bool n1) ∧ w.cell? ⟨g,j * 4 + 1,none⟩ = some (.slice a1 l1 c1) ∧ w.cell? ⟨g,j * 4 + 2,none⟩ = some (.bool n2) ∧ w.cell? ⟨g,j * 4 + 3,none⟩ = some (.slice a2 l2 c2) ∧ w.frozen? ⟨g,j * 4,none⟩ = false ∧ w.frozen? ⟨g,j * 4 + 1,none⟩ = false ∧ w.frozen? ⟨g,j * 4 + 2,none⟩ = false ∧ w.frozen? ⟨g,j * 4 + 3,none⟩ = false := by
 obtain ⟨C,h1,h2,h3⟩ := h;obtain ⟨n1,a1,l1,c1,n2,a2,l2,c2,e0,e1,e2,e3⟩ := h2 j hj;have g0 := zWA h1 hj (show 0 < 4 by omega);have g1 := zWA h1 hj (show 1 < 4 by omega);have g2 := zWA h1 hj (show 2 < 4 by omega);have g3 := zWA h1 hj (show 3 < 4 by omega);rw [Nat.add_zero,e0] at g0;rw [e1] at g1;rw [e2] at g2;rw [e3] at g3;exact ⟨n1,a1,l1,c1,n2,a2,l2,c2,g0,g1,g2,g3,h1.fz _,h1.fz _,h1.fz _,h1.fz _⟩
theorem FilP.put {w : World} {g n i k : Nat} {P Q : Nat → Int} {n1 n2 : Bool} {a1 a2 : Option Addr} {l1 c1 l2 c2 : Nat} (h : FilP w g n i P Q k) (hi : i < n) (h1 : Zi w (.agg #[.bool n1,.slice a1 l1 c1]) (P i) k) (h2 : Zi w (.agg #[.bool n2,.slice a2 l2 c2]) (Q i) k) :
  FilP (zHD w g i (.bool n1) (.slice a1 l1 c1) (.bool n2) (.slice a2 l2 c2)) g n (i + 1) P Q k := by
 obtain ⟨C,q1,q2,q3⟩ := h;have wk := zUF q1 hi (q2 i hi) (.bool n1) (.slice a1 l1 c1) (.bool n2) (.slice a2 l2 c2);have hp := zmF q1 hi (fun r => match r with | 0 => .bool n1 | 1 => .slice a1 l1 c1 | 2 => .bool n2 | _ => .slice a2 l2 c2);refine ⟨_,hp,fun j hj => ?_,fun j hj => ?_⟩
 ·unfold up4
  by_cases e : j = i
  ·simp only [e,if_true]
   exact ⟨n1,a1,l1,c1,n2,a2,l2,c2,rfl,rfl,rfl,rfl⟩
  ·simp only [e,if_false]
   exact q2 j hj
 ·unfold up4
  by_cases e : j = i
  ·simp only [e,if_true]
   exact ⟨h1.wk wk,h2.wk wk⟩
  ·simp only [e,if_false]
   have := q3 j (by omega);exact ⟨this.1.wk wk,this.2.wk wk⟩
theorem FilP.qs {w : World} {g n k : Nat} {P Q : Nat → Int} (h : FilP w g n n P Q k) (hn : n ≤ 1048576) : Qs w (.slice (some ⟨g,0,none⟩) n n) n P Q k := by
 obtain ⟨C,q1,q2,q3⟩ := h;refine ⟨_,_,rfl,Nat.le_refl _,⟨hn,fun q => by cases q⟩,.inr ⟨g,0,rfl,q1.blk,fun j hj => ?_⟩⟩;obtain ⟨n1,a1,l1,c1,n2,a2,l2,c2,e0,e1,e2,e3⟩ := q2 j hj;have g0 := zWA q1 hj (show 0 < 4 by omega);have g1 := zWA q1 hj (show 1 < 4 by omega);have g2 := zWA q1 hj (show 2 < 4 by omega);have g3 := zWA q1 hj (show 3 < 4 by omega);have z := q3 j hj;rw [Nat.add_zero,e0] at g0;rw [e1] at g1;rw [e2] at g2;rw [e3] at g3;rw [e0,e1,e2,e3] at z;rw [Nat.zero_add];exact ⟨n1,a1,l1,c1,n2,a2,l2,c2,g0,g1,g2,g3,z.1,z.2⟩
def CyH (w : World) (g n : Nat) (P Q : Nat → Int) (k gk : Nat) (s : Value) (wx : World) : Prop := ∃ i : Nat,s = .int .i64 (i : Int) ∧ i ≤ n ∧ gk = n - i ∧ FilP wx g n i P Q k ∧ Below w.heap.size w wx
def CyD (w : World) (n : Nat) (P Q : Nat → Int) (k : Nat) (e : Ending) (w' : World) : Prop := ∃ g,e = .returned (.slice (some ⟨g,0,none⟩) n n) ∧ w.heap.size ≤ g ∧ FilP w' g n n P Q k ∧ Below w.heap.size w w'
theorem rcopyRow17 {w : World} {v : Value} {n k : Nat} {P Q : Nat → Int} (hv : Qs w v n P Q k) (hk : k ≤ 17592186044416) : Calls Tryz.prog 19 #[v] w (CyD w n P Q k) := by
 obtain ⟨a0,c0,rfl,hc0,hn0,hf0⟩ := hv.form;have A0 := hid hv;have F0 := hid hf0;have HK := hid hk;clear hv hf0 hk;go_enter Tryz.func19,Tryz.ntmps19;go_wp2_with (at_make;refine zJB _ rfl _ _ rfl _ _ n n rfl rfl rfl rfl (Nat.le_refl _) (by omega) ?_)
 intro w1 hF hb1 hsz;have H0 : Hid (CyH w w.heap.size n P Q k n (.int .i64 0) w1) := by
  obtain ⟨C,q1,q2,q3⟩ := hF.out (fun _ => 0) k;exact ⟨0,rfl,Nat.zero_le _,rfl,⟨C,by rw [List.append_nil];exact q1,q2,fun j hj => by omega⟩,hb1.out⟩
 obtain ⟨g,hg⟩ : ∃ g,w.heap.size = g := ⟨_,rfl⟩
 have EG := hid hg;rw [hg] at H0 ⊢;clear hF hb1 hsz hg;go_wp2_with fail
 go_loopg [4] n (fun gk s4 wx => CyH w g n P Q k gk s4 wx)
 case atStart => exact H0.out
 case round =>
  clear H0;obtain ⟨i,rfl,hin,rfl,hF,hb⟩ := hrel;have FQ := hid hF;have G := hid hb;clear hF hb
  by_cases hlt : i < n
  ·have hlt' : (i : Int) < (n : Int) := by omega
   have hwi := zVA (i := i) (by omega);obtain ⟨b,off,rfl⟩ := F0.out (by omega);obtain ⟨n1,a1,l1,c1,n2,a2,l2,c2,y0,y1,y2,y3,z1,z2⟩ := (A0.out.now G.out).at hlt;have Z1 := hid z1;have Z2 := hid z2;have HMM : Hid (n - (i + 1) < n - i) := by unfold Hid;omega
   have HGE : Hid (w.heap.size ≤ g) := by unfold Hid;rw [EG.out];exact Nat.le_refl _
   clear z1 z2;go_wp2_with fail;have KB : Hid (∀ w',Below wr.heap.size wr w' → w'.cell? ⟨b,off + i * 4,none⟩ = some (.bool n1) ∧ w'.cell? ⟨b,off + i * 4 + 1,none⟩ = some (.slice a1 l1 c1) ∧ w'.cell? ⟨b,off + i * 4 + 2,none⟩ = some (.bool n2) ∧ w'.cell? ⟨b,off + i * 4 + 3,none⟩ = some (.slice a2 l2 c2)) := fun w' h => ⟨cnow h y0,cnow h y1,cnow h y2,cnow h y3⟩
   refine zFA (fun w' => w'.cell? ⟨b,off + i * 4,none⟩ = some (.bool n1) ∧ w'.cell? ⟨b,off + i * 4 + 1,none⟩ = some (.slice a1 l1 c1) ∧ w'.cell? ⟨b,off + i * 4 + 2,none⟩ = some (.bool n2) ∧ w'.cell? ⟨b,off + i * 4 + 3,none⟩ = some (.slice a2 l2 c2)) 16 (by kernel_rfl) ?_;obtain ⟨D31,hD⟩ : ∃ D31,wr.drew = D31 := ⟨_,rfl⟩
   have GB : Hid (Below wr.heap.size wr D31) := by unfold Hid;rw [← hD];exact (Below.refl _ _).drew
   rw [hD];clear hD;refine zDA [(0,(.slice (some ⟨g,0,none⟩) n n)),(1,(.int .i64 (i : Int))),(2,(.slice (some ⟨b,off,none⟩) n c0)),(3,(.int .i64 (i : Int))),(4,(.pointer (some ⟨b,off + i * 4,none⟩))),(5,(.pointer (some ⟨b,off + i * 4,none⟩))),(6,(.agg #[.bool n1,.slice a1 l1 c1])),(8,(.slice (some ⟨b,off,none⟩) n c0)),(9,(.int .i64 (i : Int))),(10,(.pointer (some ⟨b,off + i * 4,none⟩))),(11,(.pointer (some ⟨b,off + i * 4 + 2,none⟩))),(12,(.agg #[.bool n2,.slice a2 l2 c2]))] 12 ?_ (KB.out _ GB.out) ?_
   ·simp only [zJA,gA9,g09,g19,Act.put,sI9,s09,s19]
    (repeat' (first | exact trivial | refine And.intro (Or.inl ⟨by rfl,?_⟩) ?_)) <;> (intro w hSw;(try dsimp only at hSw);go_simp)
   simp only [actV,gA9,g09,g19,Act.put,sI9,s09,s19];refine zBA (i := 7) (o := ⟨some 21,.call { callee := .value (.func 50),args := #[.tmp 20],argTypes := #[45] },45, "keep.go:38",#[⟨6,.data⟩],none⟩) (by kernel_rfl) rfl (fun K hK => ?_);go_simp;go_at_call 50;refine (zDH (Z1.out.now GB.out) HK.out).mono ?_;rintro e w32 ⟨rr,rfl,zz,b⟩;have lz32 := (show Below _ _ _ from b).size;replace GB := hid (zAA GB.out b);obtain ⟨mp,xp,op,dp,rfl⟩ := zz.parts1;have Mp := hid zz;clear zz;clear b;refine hK.out _ _ (fun _ => KB.out _ GB.out) ?_;clear hK;refine zBA (i := 13) (o := ⟨some 27,.call { callee := .value (.func 50),args := #[.tmp 26],argTypes := #[45] },45, "keep.go:38",#[⟨12,.data⟩,⟨7,.chain⟩],none⟩) (by kernel_rfl) rfl (fun K hK => ?_);go_simp;go_at_call 50;refine (zDH (Z2.out.now GB.out) HK.out).mono ?_;rintro e w33 ⟨rr,rfl,zz,b⟩;have lz33 := (show Below _ _ _ from b).size;replace GB := hid (zAA GB.out b);obtain ⟨mq,xq,oq,dq,rfl⟩ := zz.parts1;have Mq := hid zz;replace Mp := hid (Mp.out.now b);clear zz;clear b;refine hK.out _ _ (fun _ => KB.out _ GB.out) ?_;clear hK;refine zDA [(14,(.agg #[(.bool mp),(.slice op xp.length dp),(.bool mq),(.slice oq xq.length dq)])),(15,(.pointer (some ⟨g,i * 4,none⟩)))] 2 ?_ (KB.out _ GB.out) ?_
   ·simp only [zJA,gA9,g09,g19,Act.put,sI9,s09,s19]
    (repeat' (first | exact trivial | refine And.intro (Or.inl ⟨by rfl,?_⟩) ?_)) <;> (intro w hSw;(try dsimp only at hSw);go_simp)
   simp only [actV,gA9,g09,g19,Act.put,sI9,s09,s19];refine zBA (i := 16) (o := ⟨none,.store 47 (.tmp 29) (.tmp 28),0, "keep.go:38",#[⟨15,.data⟩,⟨14,.data⟩,⟨13,.chain⟩,⟨0,.phase⟩,⟨1,.phase⟩,⟨2,.phase⟩,⟨3,.phase⟩,⟨4,.phase⟩,⟨5,.phase⟩,⟨6,.phase⟩,⟨7,.phase⟩,⟨8,.phase⟩,⟨9,.phase⟩,⟨10,.phase⟩,⟨11,.phase⟩,⟨12,.phase⟩,⟨13,.phase⟩,⟨14,.phase⟩],none⟩) (by kernel_rfl) rfl (fun K hK => ?_);have FD := hid (FQ.out.step GB.out);obtain ⟨e1,e2,e3,e4,e5,e6,e7,e8,h0,h1,h2,h3,j0,j1,j2,j3⟩ := FD.out.cells hlt;go_simp;clear h0 h1 h2 h3 j0 j1 j2 j3;obtain ⟨V34,hW⟩ : ∃ V34,((((w33.setCell ⟨g,i * 4,none⟩ (.bool mp)).setCell ⟨g,i * 4 + 1,none⟩ (.slice op xp.length dp)).setCell ⟨g,i * 4 + 2,none⟩ (.bool mq)).setCell ⟨g,i * 4 + 3,none⟩ (.slice oq xq.length dq)) = V34 := ⟨_,rfl⟩
   have HN : Hid (CyH w g n P Q k (n - (i + 1)) (.int .i64 ((i + 1 : Nat) : Int)) V34) := by
    refine ⟨i + 1,rfl,by omega,rfl,?_,?_⟩
    ·rw [← hW];exact FD.out.put hlt Mp.out Mq.out
    ·rw [← hW];exact bset (bset (bset (bset (zAA G.out GB.out) HGE.out) HGE.out) HGE.out) HGE.out
   clear FD;rw [hW];clear hW;refine hK.out _ _ (fun h => absurd h (by decide)) ?_;clear hK
   try simp only [Act.put]
   refine zEA (by kernel_rfl) ?_ _;clear GB KB FQ G Z1 Z2 Mp Mq y0 y1 y2 y3;go_wp2_with fail;go_roundg (n - (i + 1))
   case rel => exact HN.out
   case measure => exact HMM.out
  ·have hlt' : ¬ (i : Int) < (n : Int) := by omega
   obtain rfl : i = n := by omega
   have FF : Hid (CyD w i P Q k (.returned (.slice (some ⟨g,0,none⟩) i i)) wr) := ⟨g,rfl,by rw [EG.out];exact Nat.le_refl _,FQ.out,G.out⟩
   clear FQ G;go_wp2;go_ret;exact FF.out
theorem zxD {B B' : Nat} {w : World} {v u : Value} {l : List Nat} (h : Ivs B w v l) (h' : Ivs B' w u l) (hl : l.length ≤ 4096) :
  Calls Tryz.prog 13 #[v,u] w fun e w' => e = .returned (.bool true) ∧ Below w.heap.size w w' := by
 obtain ⟨a,c,rfl,hc,hf⟩ := h.form;obtain ⟨a',c',rfl,hc',hf'⟩ := h'.form;have V1 := hid h;have V2 := hid h';have F1 := hid hf;have F2 := hid hf';obtain ⟨n,hn⟩ : ∃ n,l.length = n := ⟨_,rfl⟩
 rw [hn] at V1 V2 F1 F2 hc hc' hl ⊢;have HN := hid hn;have hne : ((n : Int) != (n : Int)) = false := by simp
 clear h h' hf hf' hn;go_enter Tryz.func13,Tryz.ntmps13;go_wp2
 go_loopw [5] (fun i wr => ∃ k q : Nat,k ≤ n ∧ i = .int .i64 k ∧ wr = w.drewN q) (fun i _ => n - (intOf i).toNat)
 case atStart => exact ⟨0,0,Nat.zero_le _,rfl,rfl⟩
 case round =>
  obtain ⟨k,q,hk,rfl,rfl⟩ := hrel
  by_cases hlt : k < n
  ·obtain ⟨g,rfl⟩ := F1.out (by omega)
   obtain ⟨g',rfl⟩ := F2.out (by omega);obtain ⟨x,hx⟩ : ∃ x,l.getD k 0 = x := ⟨_,rfl⟩
   have c1 : ∀ q,(w.drewN q).cell? ⟨g,k,none⟩ = some (.int .i64 (x : Int)) := fun q => by
    have := V1.out.at (i := k) (by rw [HN.out];exact hlt);rw [hx] at this
    simpa using this
   have c2 : ∀ q,(w.drewN q).cell? ⟨g',k,none⟩ = some (.int .i64 (x : Int)) := fun q => by
    have := V2.out.at (i := k) (by rw [HN.out];exact hlt);rw [hx] at this
    simpa using this
   have ht : ((x : Int) != (x : Int)) = false := by simp
   clear hx;go_wp2;go_quiet (fail);go_wp2;go_roundw
   case rel => exact ⟨k + 1,_,by omega,by go_num,rfl⟩
   case measure => simp [intOf];omega
  ·go_wp2
   go_ret;exact ⟨rfl,below_drewN (Below.refl _ _) q⟩
theorem qback1 {f : Func} {s1 : Nat} (hr : f.results = #[ResultVar.cell s1 24]) {W : World} {b : Nat} {x0 x1 x2 : Value} (h : Cel W b 24 [x0,x1,x2]) (tmps : Array Value) (ht : tmps[s1]? = some (.pointer (some ⟨b,0,none⟩))) :
  (results f tmps).run Tryz.prog W = .ok (.agg #[x0,x1,x2]) W := by
 simp [results,hr,go_sem,ht,h.at (i := 0) rfl,h.at (i := 1) rfl,h.at (i := 2) rfl]
def CmD (w : World) (r c : Int) (n : Nat) (P Q : Nat → Int) (k : Nat) (e : Ending) (w' : World) : Prop := ∃ g,e = .returned (.agg #[.int .i64 r,.int .i64 c,.slice (some ⟨g,0,none⟩) n n]) ∧ w.heap.size ≤ g ∧ FilP w' g n n P Q k ∧ Below w.heap.size w w'
theorem rcopyMat17 {w : World} {r c : Int} {a : Option Addr} {l cap k : Nat} {P Q : Nat → Int} (hv : Qs w (.slice a l cap) l P Q k) (hk : k ≤ 17592186044416) : Calls Tryz.prog 14 #[.agg #[.int .i64 r,.int .i64 c,.slice a l cap]] w (CmD w r c l P Q k) := by
 obtain ⟨W0,hW⟩ : ∃ W0,(w.alloc (.cells #[.int .i64 r,.int .i64 c,.slice a l cap] 24)).alloc (.cells #[.int .i64 0,.int .i64 0,.slice none 0 0] 24) = W0 := ⟨_,rfl⟩
 obtain ⟨b0,sz0⟩ := zuA w (.cells #[.int .i64 r,.int .i64 c,.slice a l cap] 24) (.cells #[.int .i64 0,.int .i64 0,.slice none 0 0] 24);rw [hW] at b0 sz0;have CQ : Cel W0 w.heap.size 24 [.int .i64 r,.int .i64 c,.slice a l cap] := by
  rw [← hW];exact (Cel.new w 24 [.int .i64 r,.int .i64 c,.slice a l cap]).step (alo1 _ _).1
 have C0 : Hid (Cel W0 (w.heap.size + 1) 24 [.int .i64 0,.int .i64 0,.slice none 0 0]) := by
  unfold Hid;rw [← hW];have := Cel.new (w.alloc (.cells #[.int .i64 r,.int .i64 c,.slice a l cap] 24)) 24 [.int .i64 0,.int .i64 0,.slice none 0 0]
  simpa using this
 have y0 := CQ.at (i := 0) rfl;have y1 := CQ.at (i := 1) rfl;have y2 := CQ.at (i := 2) rfl;have HV := hid (hv.now b0);have HK := hid hk;have G0 := hid b0;have EW := hid hW;clear hv hk b0 sz0 hW CQ;go_enter Tryz.func14,Tryz.ntmps14;go_wp2_with fail;rw [EW.out];clear EW;have KB : Hid (∀ w',Below W0.heap.size W0 w' → w'.cell? ⟨w.heap.size,0,none⟩ = some (.int .i64 r) ∧ w'.cell? ⟨w.heap.size,1,none⟩ = some (.int .i64 c) ∧ w'.cell? ⟨w.heap.size,2,none⟩ = some (.slice a l cap)) := fun w' h => ⟨cnow h y0,cnow h y1,cnow h y2⟩
 refine zFA (fun w' => w'.cell? ⟨w.heap.size,0,none⟩ = some (.int .i64 r) ∧ w'.cell? ⟨w.heap.size,1,none⟩ = some (.int .i64 c) ∧ w'.cell? ⟨w.heap.size,2,none⟩ = some (.slice a l cap)) 8 (by kernel_rfl) ?_;obtain ⟨D21,hD⟩ : ∃ D21,W0.drew = D21 := ⟨_,rfl⟩
 have GB : Hid (Below W0.heap.size W0 D21) := by unfold Hid;rw [← hD];exact (Below.refl _ _).drew
 rw [hD];clear hD;refine zDA [(0,(.pointer (some ⟨w.heap.size,0,none⟩))),(1,(.int .i64 r)),(2,(.pointer (some ⟨w.heap.size,1,none⟩))),(3,(.int .i64 c)),(4,(.pointer (some ⟨w.heap.size,2,none⟩))),(5,(.slice a l cap))] 6 ?_ (KB.out _ GB.out) ?_
 ·simp only [zJA,gA9,g09,g19,Act.put,sI9,s09,s19]
  (repeat' (first | exact trivial | refine And.intro (Or.inl ⟨by rfl,?_⟩) ?_)) <;> (intro w hSw;(try dsimp only at hSw);go_simp)
 simp only [actV,gA9,g09,g19,Act.put,sI9,s09,s19];refine zBA (i := 6) (o := ⟨some 9,.call { callee := .value (.func 19),args := #[.tmp 8],argTypes := #[22] },22, "keep.go:45",#[⟨5,.data⟩],none⟩) (by kernel_rfl) rfl (fun K hK => ?_);have SZB : Hid (W0.heap.size ≤ D21.heap.size) := GB.out.size;go_simp;go_at_call 19;refine (rcopyRow17 (HV.out.now GB.out) HK.out).mono ?_;rintro e w22 ⟨gg,rfl,hgg,hfp,b⟩;have lz22 := (show Below _ _ _ from b).size;replace GB := hid (zAA GB.out b);have FP := hid hfp;have HGG : Hid (w.heap.size + 1 < gg) := by unfold Hid;have := C0.out.blk;have := SZB.out;omega
 clear hfp hgg SZB;clear b;refine hK.out _ _ (fun _ => KB.out _ GB.out) ?_;clear hK;refine zDA [(7,(.agg #[.int .i64 r,.int .i64 c,.slice (some ⟨gg,0,none⟩) l l]))] 1 ?_ (KB.out _ GB.out) ?_
 ·simp only [zJA,gA9,g09,g19,Act.put,sI9,s09,s19]
  (repeat' (first | exact trivial | refine And.intro (Or.inl ⟨by rfl,?_⟩) ?_)) <;> (intro w hSw;(try dsimp only at hSw);go_simp)
 simp only [actV,gA9,g09,g19,Act.put,sI9,s09,s19];refine zBA (i := 8) (o := ⟨none,.store 24 (.tmp 2) (.tmp 10),0, "keep.go:45",#[⟨7,.data⟩,⟨6,.chain⟩,⟨0,.phase⟩,⟨1,.phase⟩,⟨2,.phase⟩,⟨3,.phase⟩,⟨4,.phase⟩,⟨5,.phase⟩,⟨6,.phase⟩,⟨7,.phase⟩],none⟩) (by kernel_rfl) rfl (fun K hK => ?_);have CD := hid (C0.out.step GB.out);have h0 := CD.out.at (i := 0) rfl;have j0 := CD.out.fz 0;have h1 := CD.out.at (i := 1) rfl;have j1 := CD.out.fz 1;have h2 := CD.out.at (i := 2) rfl;have j2 := CD.out.fz 2;go_simp;clear h0 j0 h1 j1 h2 j2;obtain ⟨V23,hW⟩ : ∃ V23,(((w22.setCell ⟨w.heap.size + 1,0,none⟩ (.int .i64 r)).setCell ⟨w.heap.size + 1,1,none⟩ (.int .i64 c)).setCell ⟨w.heap.size + 1,2,none⟩ (.slice (some ⟨gg,0,none⟩) l l)) = V23 := ⟨_,rfl⟩
 have DR : Hid (Cel V23 (w.heap.size + 1) 24 [.int .i64 r,.int .i64 c,.slice (some ⟨gg,0,none⟩) l l]) := by unfold Hid;rw [← hW];exact ((CD.out.set 0 _).set 1 _).set 2 _
 have FF : Hid (CmD w r c l P Q k (.returned (.agg #[.int .i64 r,.int .i64 c,.slice (some ⟨gg,0,none⟩) l l])) V23) := by
  have h : w.heap.size ≤ w.heap.size + 1 := by omega
  have hne : w.heap.size + 1 ≠ gg := by have := HGG.out;omega
  refine ⟨gg,rfl,by have := HGG.out;omega,?_,?_⟩
  ·have wk : Wk w22 V23 := by rw [← hW];exact CD.out.wk3 _ _ _
   refine FP.out.wk wk ?_;rw [← hW];have q : ∀ {X : World} {i : Nat} {u : Value},(X.setCell ⟨w.heap.size + 1,i,none⟩ u).heap[gg]? = X.heap[gg]? := fun {X i u} => Below.heap_setCell X _ u gg (fun e => hne (by have h9 : gg = w.heap.size + 1 := (by simpa using e);omega))
   rw [q,q,q]
  ·rw [← hW];exact bset (bset (bset (zAA G0.out GB.out) h) h) h
 clear CD;rw [hW];clear hW;refine hK.out _ _ (fun h => absurd h (by decide)) ?_;clear hK
 try simp only [Act.put]
 refine zEA (by kernel_rfl) ?_ _;clear GB KB FP G0 C0 HV y0 y1 y2;go_wp2;exact bodyPost_ret (qback1 Tryz.results14 DR.out _ (by rfl)) rfl FF.out
abbrev fnNz13 : Value := .func (.func 123) #[] #[]
theorem cmpI_ne {z : Int} (h : z ≠ 0) : (cmpI z 0 != 0) = true := by
 rcases Int.lt_or_gt_of_ne h with q | q
 ·rw [zUB q];rfl
 ·rw [zMB q];rfl
theorem nz13 {w : World} {v : Value} {z : Int} {k : Nat} (h : Zi w v z k) : Calls Tryz.prog 123 #[v] w fun e w' => e = .returned (.bool (z != 0)) ∧ Below w.heap.size w w' := by
 have z0 := h;obtain ⟨n,xs,a,c,rfl,-,-,-⟩ := h;obtain ⟨W0,hW⟩ : ∃ W0,w.alloc (duo (.bool n) (.slice a xs.length c)) = W0 := ⟨_,rfl⟩
 obtain ⟨b0,sz0⟩ := alo1 w (duo (.bool n) (.slice a xs.length c));rw [hW] at b0 sz0;have HS := hid (zHC (z0.now b0));have G := hid b0;have EW := hid hW;have EB : (cmpI z 0 != 0) = (z != 0) := by
  by_cases q : z = 0
  ·subst q;rw [cmpI_self]
  ·rw [cmpI_ne q];simp [q]
 have HEB := hid EB;clear z0 b0 hW sz0 EB;go_enter Tryz.func123,Tryz.ntmps123;go_wp2_with fail;rw [EW.out];refine HS.out.mono ?_;rintro e w1 ⟨rfl,b⟩;have G1 := hid (zAA G.out b);clear b HS;generalize cmpI z 0 = cz at *;go_wp2;go_ret;refine ⟨?_,G1.out⟩;rw [← HEB.out]
 rfl
def FstN (n : Nat) (zs : List Int) (r : Int) : Prop := (r = -1 ∧ ∀ j,j < n → zs.getD j 0 = 0) ∨ ∃ c : Nat,r = (c : Int) ∧ c < n ∧ (∀ j,j < c → zs.getD j 0 = 0) ∧ zs.getD c 0 ≠ 0
def zbI (w : World) (n : Nat) (zs : List Int) (e : Ending) (w' : World) : Prop := ∃ r : Int,e = .returned (.int .i64 r) ∧ FstN n zs r ∧ Below w.heap.size w w'
def zaI (w : World) (g n : Nat) (ps : List (Value × Value)) (zs : List Int) (k gk : Nat) (s : Value) (wx : World) : Prop :=
 ∃ i : Nat,s = .int .i64 (i : Int) ∧ i ≤ n ∧ gk = n - i ∧ (∀ j,j < i → zs.getD j 0 = 0) ∧ Arr wx g ps ∧ Zms wx ps zs k ∧ Below w.heap.size w wx
theorem index13 {w : World} {g n k : Nat} {ps : List (Value × Value)} {zs : List Int} (hA : Arr w g ps) (hz : Zms w ps zs k) (hl : zs.length = n) (hn : n ≤ 64) :
  Calls Tryz.prog 122 #[.slice (some ⟨g,0,none⟩) n n,fnNz13] w (zbI w n zs) := by
 have H0 : Hid (zaI w g n ps zs k n (.int .i64 0) w) := ⟨0,rfl,Nat.zero_le _,rfl,fun j hj => by omega,hA,hz,Below.refl _ _⟩
 have HL := hid hl;clear hA hz hl;go_enter Tryz.func122,Tryz.ntmps122;go_wp2_with fail
 go_loopg [8] n (fun gk s8 wx => zaI w g n ps zs k gk s8 wx)
 case atStart => exact H0.out
 case round =>
  clear H0;obtain ⟨i,rfl,hin,hg,hpos,ar,zr,hG⟩ := hrel;have AR := hid ar;have ZR := hid zr;have G := hid hG;have HG := hid hg;have HP := hid hpos;clear ar zr hG hg hpos
  by_cases hlt : i < n
  ·have hlt' : (i : Int) < (n : Int) := by omega
   obtain ⟨nf,af,lf,cf,k0,k1,-,-,zf⟩ := ZR.out.at AR.out (t := i) (by rw [HL.out];exact hlt);have HS := hid (nz13 zf.zi);have hw := zVA (i := i) (by omega);clear zf
   by_cases hp : zs.getD i 0 = 0
   ·have e0 : (zs.getD i 0 != 0) = false := by rw [hp];rfl
    rw [e0] at HS;have HPP := hid hp;clear hp e0;go_wp2_with fail;refine HS.out.mono ?_;rintro e w1 ⟨rfl,b⟩;have HN1 : Hid (zaI w g n ps zs k (n - (i + 1)) (.int .i64 ((i + 1 : Nat) : Int)) w1) := ⟨i + 1,rfl,by omega,rfl,fun j hj => by
     by_cases q : j < i
     ·exact HP.out j q
     ·obtain rfl : j = i := by omega
      exact HPP.out,AR.out.step b,ZR.out.now b,zAA G.out b⟩
    have HMM : Hid (n - (i + 1) < gk) := by unfold Hid;rw [HG.out];omega
    clear HS HPP AR ZR G HG HP k0 k1 b;go_wp2_with fail;go_roundg (n - (i + 1))
    case rel => exact HN1.out
    case measure => exact HMM.out
   ·have e0 : (zs.getD i 0 != 0) = true := by simp only [bne_iff_ne];exact hp
    rw [e0] at HS;have HPP := hid hp;clear hp e0;go_wp2_with fail;refine HS.out.mono ?_;rintro e w1 ⟨rfl,b⟩;have FIN : Hid (zbI w n zs (.returned (.int .i64 (i : Int))) w1) := ⟨(i : Int),rfl,.inr ⟨i,rfl,hlt,HP.out,HPP.out⟩,zAA G.out b⟩
    clear HS HPP AR ZR G HG HP k0 k1 b;go_wp2;go_ret;exact FIN.out
  ·have hlt' : ¬ (i : Int) < (n : Int) := by omega
   have FIN : Hid (zbI w n zs (.returned (.int .i64 (-1))) wr) := ⟨-1,rfl,.inl ⟨rfl,fun j hj => HP.out j (by omega)⟩,G.out⟩
   clear AR ZR G HG HP;go_wp2;go_ret;exact FIN.out
end Go.Proofs.YtffkmeocmjohmaaGreat
