import Derived.Test.YtffkmeocmjohmaaGreatQNu17ToTk17
import Derived.Deep.Cut
set_option maxRecDepth 100000
set_option maxHeartbeats 6400000
set_option linter.unusedVariables false
set_option linter.unusedSimpArgs false
namespace Go.Proofs.YtffkmeocmjohmaaGreat
open Go.RowKit Go.Shelf
theorem zYA.below17 {S : Nat → Prop} {B : Nat} {w w' : World} (h : zYA S w w') (hS : ∀ b,S b → B ≤ b) (hB : B ≤ w.heap.size) : Below B w w' := ⟨h.os,h.tape,h.output,h.size,fun k hk => h.block k (by omega) fun q => by have := hS k q;omega⟩
theorem below_own17 {B : Nat} {w0 w w' : World} {v : Value} {l : List Nat} (h : Below B w0 w) (hB : B ≤ w.heap.size) (ho : Ivs B w v l) (hg : w.grownBy w' v.ownBlock) : Below B w0 w' :=
 h.trans ⟨hg.os,hg.tape,hg.output,hg.size,fun k hk => hg.block k (by omega) (fun e => by have := (ho.blk e.symm).1;omega)⟩
theorem step_append_ivs17 (w : World) {ops : Array Oper} {o : Oper} {a : Act} {K : Act → World → Prop} {Q : Exit → Act → World → Prop} {E : Prop}
  (hgd : o.guard = none) (s x : Operand) (hop : o.op = .call { callee := .builtin .append,args := #[s,x],argTypes := #[26,26] })
  (B : Nat) (v : Value) (l : List Nat) (t : Nat) (hs : a.eval s = v) (hP : Ivs B w v l) (gx : Nat) (hx : a.eval x = .slice (some ⟨gx,0,none⟩) 1 1) (hc : w.cell? ⟨gx,0,none⟩ = some (.int .i64 (t : Int))) (hlen : l.length ≤ 1000000) (hBs : B ≤ w.heap.size)
  (hK : ∀ g' l' cap' w',l' = l.length + 1 → Hid (Ivs B w' (.slice (some ⟨g',0,none⟩) l' cap') (l ++ [t])) → Hid (w.grownBy w' v.ownBlock) → Hid (v.ownBlock = some g' ∨ g' = w.heap.size) → K (a.put o.dst (.slice (some ⟨g',0,none⟩) l' cap')) w') :
  if Region.wanted o (yielded ops a.tmps) = true then Oper.wp Tryz.prog o a w K Q else E := by
 obtain ⟨i,hi,hz,hsz,hby⟩ := info_parts Tryz.infoI13;refine step_append_lies w hgd s x 26 hop B 3 i (.int .i64 0) 1 8 Tryz.underlying26 hi hz hsz hby rfl (by omega) v l.length _ hs hP ⟨gx,0,none⟩ 1 1 [.int .i64 (t : Int)] hx rfl ?_ ?_ (by omega) (by unfold maxLen;omega) (by omega) hBs w.heap.size rfl ?_
 ·intro j u' hj
  match j,hj with
  | 0,hj => simp at hj;subst hj;rw [zCE];exact hc
 ·intro u' hu'
  simp at hu';subst hu'
  rfl
 ·intro g' cap' w' k1 k2 k3 k4
  refine hK _ _ _ w' rfl ?_ k2 k3;unfold Hid Ivs;rw [List.length_append,List.length_cons,List.length_nil,List.map_append];exact k1
def Kp17 (Bs : Nat) (w w' : World) : Prop := ∀ (b : Nat) (L : Array Value) (fr : Nat × Nat),w.heap[b]? = some (.cells L 64 fr) → b ≠ Bs → w'.heap[b]? = some (.cells L 64 fr)
theorem Kp17.refl (Bs : Nat) (w : World) : Kp17 Bs w w := fun _ _ _ h _ => h
theorem Kp17.trans {Bs : Nat} {a b c : World} (h : Kp17 Bs a b) (h' : Kp17 Bs b c) : Kp17 Bs a c := fun g L fr e hne => h' g L fr (h g L fr e hne) hne
theorem Kp17.ty {T : TypeId} {Bs : Nat} {w w' : World} (h : Ty T w w') (hT : 64 ≠ T) : Kp17 Bs w w' := fun g L fr e _ => h.2 g L _ fr e hT
theorem Kp17.of {Bs : Nat} {w w' : World} (h : Below w.heap.size w w') : Kp17 Bs w w' := Kp17.ty (T := 3) (Ty.of h) (by decide)
theorem Kp17.set {Bs i : Nat} {w : World} {u : Value} : Kp17 Bs w (w.setCell ⟨Bs,i,none⟩ u) := fun g L fr e hne => (Below.heap_setCell w _ u g (fun q => hne (by simpa using q))).trans e
structure StJ (B : Nat) (w : World) (sb cb Bs m n : Nat) (x y lv nd sd vv : Value) (gs : Nat → Nat) (L : Nat → Nat → Int) (d : Int) (pv : List Nat) (c k : Nat) (X : World) : Prop where
 bx : Ebx X Bs x y lv nd sd vv
 s : Cel X sb 137 [.pointer (some ⟨Bs,0,none⟩)]
 c : Cel X cb 3 [.int .i64 (c : Int)]
 d : Zm 0 X (.agg #[nd,sd]) d k
 p : Ivs B X vv pv
 l : Sh17 B X lv m n gs L k
 b : Below B w X
 kp : Kp17 Bs w X
theorem StJ.now {B : Nat} {w : World} {sb cb Bs m n : Nat} {x y lv nd sd vv : Value} {gs : Nat → Nat} {L : Nat → Nat → Int} {d : Int} {pv : List Nat} {c k : Nat} {X X' : World} (h : StJ B w sb cb Bs m n x y lv nd sd vv gs L d pv c k X) (hb : Below X.heap.size X X') (hB : B ≤ X.heap.size) : StJ B w sb cb Bs m n x y lv nd sd vv gs L d pv c k X' :=
 ⟨Cel.step h.bx hb,h.s.step hb,h.c.step hb,h.d.now hb,h.p.now hb,h.l.now hb,h.b.trans (hb.mono hB),h.kp.trans (.of hb)⟩
theorem StJ.row {B : Nat} {w : World} {sb cb Bs m n i : Nat} {x y lv nd sd vv : Value} {gs : Nat → Nat} {L : Nat → Nat → Int} {F : Nat → Int} {d : Int} {pv : List Nat} {c k : Nat} {X X' : World} (h : StJ B w sb cb Bs m n x y lv nd sd vv gs L d pv c k X) (hi : i < m) (ht : zYA (· = gs i) X X') (hr : Rw17 X' (gs i) n F k) (hB : B ≤ X.heap.size) : StJ B w sb cb Bs m n x y lv nd sd vv gs (fun t j => if t = i then F j else L t j) d pv c k X' := by
 obtain ⟨ps,p1,p2⟩ := (h.l.2.2 i hi).2;have ty := ht.ty13 p1;exact ⟨Cel.ty13 h.bx ty (by decide),h.s.ty13 ty (by decide),h.c.ty13 ty (by decide),h.d.ty ty (by decide),h.p.touch ht p1,h.l.row hi ht hr,h.b.trans (ht.below17 (fun b e => by rw [e];exact (h.l.2.2 i hi).1) hB),h.kp.trans (.ty ty (by decide))⟩
theorem StJ.congr {B : Nat} {w : World} {sb cb Bs m n : Nat} {x y lv nd sd vv : Value} {gs : Nat → Nat} {L L' : Nat → Nat → Int} {d : Int} {pv : List Nat} {c k : Nat} {X : World} (h : StJ B w sb cb Bs m n x y lv nd sd vv gs L d pv c k X) (e : ∀ i j,i < m → j < n → L i j = L' i j) : StJ B w sb cb Bs m n x y lv nd sd vv gs L' d pv c k X :=
 ⟨h.bx,h.s,h.c,h.d,h.p,h.l.congr e,h.b,h.kp⟩
def StH (B : Nat) (w : World) (sb cb Bs m n : Nat) (x y lv nd sd vv : Value) (gs : Nat → Nat) (L L' : Nat → Nat → Int) (d : Int) (pv : List Nat) (c k gk : Nat) (s : Value) (X : World) : Prop :=
 ∃ i : Nat,s = .int .i64 (i : Int) ∧ i ≤ m ∧ gk = m - i ∧ StJ B w sb cb Bs m n x y lv nd sd vv gs (mixT L L' i) d pv c k X
def zvC (A : Nat → Nat → Int) (B : Nat) (w : World) (Bs m n c k : Nat) (e : Ending) (w' : World) : Prop :=
 e = .returned (.tuple #[]) ∧ ∃ gs L d pv,Elm B w' Bs m n gs L d pv k ∧ Els A m n (c + 1) L d pv ∧ Below B w w' ∧ Kp17 Bs w w'
theorem settle_zero {A : Nat → Nat → Int} {B : Nat} {w : World} {Bs n c k : Nat} {gs : Nat → Nat} {L : Nat → Nat → Int} {d : Int} {pv : List Nat} (hE : Elm B w Bs 0 n gs L d pv k) (hs : Els A 0 n c L d pv) (hc : c < n) (hn : n ≤ 128) :
  Calls Tryz.prog 81 #[.pointer (some ⟨Bs,0,none⟩),.int .i64 (c : Int)] w (zvC A B w Bs 0 n c k) := by
 have hp0 : pv.length = 0 := by have := hs.len;omega
 obtain ⟨x,y,lv,nd,ad,ld,cd,vv,e1,e2,e3,e4,e5,hxy⟩ := id hE;have HXY := hid hxy;clear hxy;obtain ⟨pa,pcap,rfl,hpc,-⟩ := e4.form;obtain rfl : lv = .slice none 0 0 := by
  rcases e5.1 with ⟨_,h⟩ | ⟨h,_⟩
  ·exact h
  ·omega
 obtain ⟨W0,hW⟩ : ∃ W0,(w.alloc (.cells #[.pointer (some ⟨Bs,0,none⟩)] 137)).alloc (.cells #[.int .i64 (c : Int)] 3) = W0 := ⟨_,rfl⟩
 obtain ⟨b0,sz0⟩ := zuA w (.cells #[.pointer (some ⟨Bs,0,none⟩)] 137) (.cells #[.int .i64 (c : Int)] 3);rw [hW] at b0 sz0;have i1 : Cel W0 w.heap.size 137 [.pointer (some ⟨Bs,0,none⟩)] := by rw [← hW];exact (Cel.new w _ _).step (alo1 _ _).1
 have i2 : Cel W0 (w.heap.size + 1) 3 [.int .i64 (c : Int)] := by rw [← hW];simpa using Cel.new (w.alloc (.cells #[.pointer (some ⟨Bs,0,none⟩)] 137)) 3 [.int .i64 (c : Int)]
 have e1' : Ebx W0 Bs x y (.slice none 0 0) (.bool nd) (.slice ad ld cd) (.slice pa pv.length pcap) := Cel.step e1 b0;have HS := hid (zPH (R := fun _ _ => 0) (kw := k) (cap := 0) (a := none) (l := 0) (i1.at (i := 0) rfl) (i2.at (i := 0) rfl) (Cel.at e1' (i := 2) rfl) hc (by omega) (by omega) (by omega) (fun h => by omega));have FIN : Hid (∀ w1,Below W0.heap.size W0 w1 → zvC A B w Bs 0 n c k (.returned (.tuple #[])) w1) := fun w1 b1 => by
  have bb := zAA b0 b1;have hB : B ≤ w.heap.size := by have := Cel.blk e1;omega
  exact ⟨rfl,gs,L,d,pv,⟨x,y,_,nd,ad,ld,cd,_,Cel.step e1 bb,e2,e3.now bb,e4.now bb,e5.now bb,HXY.out⟩,hs.skip (fun i _ h => by omega),bb.mono hB,.of bb⟩
 have c1 := i1.at (i := 0) rfl;have c6 := Cel.at e1' (i := 6) rfl;have c9 := Cel.at e1' (i := 9) rfl;rw [← hW] at c1 c6 c9;have EW := hid hW;clear hE hs e1 e2 e3 e4 e5 b0 sz0 i1 i2 e1' hW hpc;rw [hp0] at c9;go_enter Tryz.func81,Tryz.ntmps81;go_wp2_with fail;rw [EW.out];refine HS.out.mono ?_;rintro e w1 ⟨h | ⟨k,rfl,hk,-⟩,b⟩
 ·obtain ⟨rfl,-⟩ := h
  have FF := hid (FIN.out w1 b);clear FIN HS b EW;go_wp2;go_end0;exact FF.out
 ·omega
theorem settle_pos {A : Nat → Nat → Int} {B : Nat} {w : World} {Bs m n c k : Nat} {gs : Nat → Nat} {L : Nat → Nat → Int} {d : Int} {pv : List Nat} (hE : Elm B w Bs m n gs L d pv k) (hs : Els A m n c L d pv) (hK : ∀ f,((dcl A m n f).natAbs : Int) < pw k) (hm0 : 0 < m) (hm : m ≤ 64) (hc : c < n) (hn : n ≤ 128) (hkw : k ≤ 274877906944) :
  Calls Tryz.prog 81 #[.pointer (some ⟨Bs,0,none⟩),.int .i64 (c : Int)] w (zvC A B w Bs m n c k) := by
 have hpm := hs.len;obtain ⟨x,y,lv,nd,ad,ld,cd,vv,e1,e2,e3,e4,e5,hxy⟩ := id hE;have HXY := hid hxy;clear hxy;have HVV : Hid (∀ b,vv.ownBlock = some b → b < w.heap.size) := fun b hb => (Array.getElem?_eq_some_iff.1 (e4.blk hb).2.choose_spec).1
 obtain ⟨pa,pcap,rfl,hpc,-⟩ := e4.form;obtain ⟨Lb,cap,rfl⟩ : ∃ Lb cap,lv = .slice (some ⟨Lb,0,none⟩) m cap := by
  rcases e5.1 with ⟨h,_⟩ | ⟨h,Lb,cap,r,e,_⟩
  ·omega
  ·exact ⟨Lb,cap,e⟩
 have hB : B ≤ w.heap.size := by have := Cel.blk e1;omega
 obtain ⟨hBL,hcap,hLs,hln⟩ := e5.line;obtain ⟨p,hp⟩ : ∃ p,pv.length = p := ⟨_,rfl⟩
 obtain ⟨W0,hW⟩ : ∃ W0,(w.alloc (.cells #[.pointer (some ⟨Bs,0,none⟩)] 137)).alloc (.cells #[.int .i64 (c : Int)] 3) = W0 := ⟨_,rfl⟩
 obtain ⟨b0,sz0⟩ := zuA w (.cells #[.pointer (some ⟨Bs,0,none⟩)] 137) (.cells #[.int .i64 (c : Int)] 3);rw [hW] at b0 sz0;have i1 : Cel W0 w.heap.size 137 [.pointer (some ⟨Bs,0,none⟩)] := by rw [← hW];exact (Cel.new w _ _).step (alo1 _ _).1
 have i2 : Cel W0 (w.heap.size + 1) 3 [.int .i64 (c : Int)] := by rw [← hW];simpa using Cel.new (w.alloc (.cells #[.pointer (some ⟨Bs,0,none⟩)] 137)) 3 [.int .i64 (c : Int)]
 have J0 : Hid (StJ B w w.heap.size (w.heap.size + 1) Bs m n x y (.slice (some ⟨Lb,0,none⟩) m cap) (.bool nd) (.slice ad ld cd) (.slice pa pv.length pcap) gs L d pv c k W0) := ⟨Cel.step e1 b0,i1,i2,e3.now b0,e4.now b0,e5.now b0,b0.mono hB,.of b0⟩
 obtain ⟨a2,cap2,hsl,hc2,ha2⟩ := slice_top17 W0 Lb m cap p (by omega) hcap;have HS := hid (zPH (R := fun j => L (p + j)) (kw := k) (cap := cap2) (a := a2) (l := m - p) (J0.out.s.at (i := 0) rfl) (J0.out.c.at (i := 0) rfl) (Cel.at J0.out.bx (i := 2) rfl) hc (by omega) (by omega) hc2 (fun h => ⟨Lb,p,ha2 h,fun j hj => ⟨gs (p + j),((J0.out.l.line).2.2.2 (p + j) (by omega)).1,(J0.out.l.2.2 (p + j) (by omega)).2⟩⟩));have c1 := J0.out.s.at (i := 0) rfl;have c6 := Cel.at J0.out.bx (i := 6) rfl;have c9 := Cel.at J0.out.bx (i := 9) rfl;rw [← hW] at c1 c6 c9 hsl;have EW := hid hW;have HB := hid hB;have HE2 := hid e2;have ES := hid hs;have EK := hid hK;have EP := hid hp;have HKW := hid hkw;have HSZ := hid sz0;have HB0 : Hid (B ≤ W0.heap.size) := by unfold Hid;omega
 have hpc' : p ≤ pcap := by omega
 rw [hp] at c9;clear hE hs hK hkw e1 e2 e3 e4 e5 b0 sz0 i1 i2 hW hpc ha2 hLs hln hBL hB hc2;have hpm' : p ≤ m := by omega
 clear hpm hp;have hpI : (p : Int) ≤ (m : Int) := by omega
 go_enter Tryz.func81,Tryz.ntmps81;go_wp2_with fail;rw [EW.out];refine HS.out.mono ?_;clear HS hsl c1 c6 c9 EW;obtain ⟨sb,hsb⟩ : ∃ sb,w.heap.size = sb := ⟨_,rfl⟩
 rw [hsb] at J0;have ESB := hid hsb;rintro e w1 ⟨h | ⟨fr,rfl,hfr,hnz⟩,b⟩
 ·obtain ⟨rfl,hz⟩ := h
  have FF : Hid (zvC A B w Bs m n c k (.returned (.tuple #[])) w1) := by
   have J := J0.out.now b HB0.out;refine ⟨rfl,gs,L,d,pv,⟨x,y,_,nd,ad,ld,cd,_,J.bx,HE2.out,J.d,J.p,J.l,HXY.out⟩,ES.out.skip (fun i h1 h2 => ?_),J.b,J.kp⟩;have : L (p + (i - p)) c = 0 := hz (i - p) (by have := EP.out;omega);rw [show p + (i - p) = i by have := EP.out;omega] at this;exact this
  clear J0 b hz HVV HB ES EK EP HKW HSZ HB0 hsb HE2;rw [ESB.out];go_wp2;go_end0;exact FF.out
 have J1 := hid (J0.out.now b HB0.out);have HB1 : Hid (B ≤ w1.heap.size) := by unfold Hid;have := b.size;have := HB0.out;omega
 obtain ⟨tf,htf⟩ : ∃ tf,p + fr = tf := ⟨_,rfl⟩
 have htm : tf < m := by omega
 have HTF : Hid (p ≤ tf) := by unfold Hid;omega
 have hpl : p < m := by omega
 have hws : IntKind.i64.wrap ((p : Int) + (fr : Int)) = ((tf : Nat) : Int) := by rw [zmA] <;> omega
 have HNZ : Hid (L tf c ≠ 0) := by rw [← htf];exact hnz
 have hn0 : ¬ (fr : Int) < 0 := by omega
 have hpI2 : (p : Int) < (m : Int) := by omega
 have htI2 : (tf : Int) < (m : Int) := by omega
 have HCW : Hid (sb + 1 < w1.heap.size) := by unfold Hid;have := b.size;have := HSZ.out;omega
 have j1 := J1.out.s.at (i := 0) rfl;have j6 := Cel.at J1.out.bx (i := 6) rfl;have jp := J1.out.l.lineS hpl;have jt := J1.out.l.lineS htm;clear J0 b hnz htf HB0 hfr hsb HSZ;rw [ESB.out];go_wp2_with fail;have KB : Hid (∀ w',Below w1.heap.size w1 w' → w'.cell? ⟨sb,0,none⟩ = some (.pointer (some ⟨Bs,0,none⟩)) ∧ w'.cell? ⟨Bs,6,none⟩ = some (.slice (some ⟨Lb,0,none⟩) m cap) ∧ w'.cell? ⟨Lb,p,none⟩ = some (.slice (some ⟨gs p,0,none⟩) n n) ∧ w'.cell? ⟨Lb,tf,none⟩ = some (.slice (some ⟨gs tf,0,none⟩) n n)) := fun w' h => ⟨cnow h j1,cnow h j6,cnow h jp,cnow h jt⟩
 refine wp_region_X (fun w' => w'.cell? ⟨sb,0,none⟩ = some (.pointer (some ⟨Bs,0,none⟩)) ∧ w'.cell? ⟨Bs,6,none⟩ = some (.slice (some ⟨Lb,0,none⟩) m cap) ∧ w'.cell? ⟨Lb,p,none⟩ = some (.slice (some ⟨gs p,0,none⟩) n n) ∧ w'.cell? ⟨Lb,tf,none⟩ = some (.slice (some ⟨gs tf,0,none⟩) n n)) [29,31] (by kernel_rfl) ?_;obtain ⟨D1,hD⟩ : ∃ D1,w1.drew = D1 := ⟨_,rfl⟩
 have GB : Hid (Below w1.heap.size w1 D1) := by unfold Hid;rw [← hD];exact (Below.refl _ _).drew
 rw [hD];clear hD;refine zZA [1,2,3,28,30] (i := 0) (oi := ⟨some 24,.load 137 (.tmp 2),137, "elimination.go:40",#[],none⟩) (v := (.pointer (some ⟨Bs,0,none⟩))) rfl (by kernel_rfl) (fun _ _ _ h => h) (Or.inl ⟨by rfl,?_⟩) (KB.out _ GB.out) ?_
 ·intro w hSw;(try dsimp only at hSw);go_simp
 simp only [Act.put,sIb,sC0,sC1];refine zNA (i := 1) (oi := ⟨some 25,.nilCheck (.tmp 24),0, "elimination.go:40",#[⟨0,.data⟩],none⟩) (v := (.pointer (some ⟨Bs,0,none⟩))) rfl (by kernel_rfl) (fun _ _ _ h => h) (Or.inl ⟨by rfl,?_⟩)  ?_
 ·intro w hSw;(try dsimp only at hSw);go_simp
 simp only [Act.put,sIb,sC0,sC1];refine zNA (i := 2) (oi := ⟨some 26,.fieldAddr 64 (.tmp 25) 1,0, "elimination.go:40",#[⟨1,.data⟩],none⟩) (v := (.pointer (some ⟨Bs,6,none⟩))) rfl (by kernel_rfl) (fun _ _ _ h => h) (Or.inl ⟨by rfl,?_⟩)  ?_
 ·intro w hSw;(try dsimp only at hSw);go_simp
 simp only [Act.put,sIb,sC0,sC1];refine zZA [28,30] (i := 3) (oi := ⟨some 27,.load 62 (.tmp 26),62, "elimination.go:40",#[⟨2,.data⟩],none⟩) (v := (.slice (some ⟨Lb,0,none⟩) m cap)) rfl (by kernel_rfl) (fun _ _ _ h => h) (Or.inl ⟨by rfl,?_⟩) (KB.out _ GB.out) ?_
 ·intro w hSw;(try dsimp only at hSw);go_simp
 simp only [Act.put,sIb,sC0,sC1];refine zNA (i := 4) (oi := ⟨some 28,.move (.tmp 4),3, "elimination.go:40",#[],none⟩) (v := (.int .i64 (p : Int))) rfl (by kernel_rfl) (fun _ _ _ h => h) (Or.inl ⟨by rfl,?_⟩)  ?_
 ·intro w hSw;(try dsimp only at hSw);go_simp
 simp only [Act.put,sIb,sC0,sC1];refine zZA [6,7,8,28,30] (i := 5) (oi := ⟨some 29,.load 137 (.tmp 2),137, "elimination.go:40",#[],none⟩) (v := (.pointer (some ⟨Bs,0,none⟩))) rfl (by kernel_rfl) (fun _ _ _ h => h) (Or.inl ⟨by rfl,?_⟩) (KB.out _ GB.out) ?_
 ·intro w hSw;(try dsimp only at hSw);go_simp
 simp only [Act.put,sIb,sC0,sC1];refine zNA (i := 6) (oi := ⟨some 30,.nilCheck (.tmp 29),0, "elimination.go:40",#[⟨5,.data⟩],none⟩) (v := (.pointer (some ⟨Bs,0,none⟩))) rfl (by kernel_rfl) (fun _ _ _ h => h) (Or.inl ⟨by rfl,?_⟩)  ?_
 ·intro w hSw;(try dsimp only at hSw);go_simp
 simp only [Act.put,sIb,sC0,sC1];refine zNA (i := 7) (oi := ⟨some 31,.fieldAddr 64 (.tmp 30) 1,0, "elimination.go:40",#[⟨6,.data⟩],none⟩) (v := (.pointer (some ⟨Bs,6,none⟩))) rfl (by kernel_rfl) (fun _ _ _ h => h) (Or.inl ⟨by rfl,?_⟩)  ?_
 ·intro w hSw;(try dsimp only at hSw);go_simp
 simp only [Act.put,sIb,sC0,sC1];refine zZA [28,30] (i := 8) (oi := ⟨some 32,.load 62 (.tmp 31),62, "elimination.go:40",#[⟨7,.data⟩],none⟩) (v := (.slice (some ⟨Lb,0,none⟩) m cap)) rfl (by kernel_rfl) (fun _ _ _ h => h) (Or.inl ⟨by rfl,?_⟩) (KB.out _ GB.out) ?_
 ·intro w hSw;(try dsimp only at hSw);go_simp
 simp only [Act.put,sIb,sC0,sC1];refine zNA (i := 9) (oi := ⟨some 33,.move (.tmp 4),3, "elimination.go:40",#[⟨29,.gcOnly .lateStores⟩],none⟩) (v := (.int .i64 (p : Int))) rfl (by kernel_rfl) (fun _ _ _ h => h) (Or.inl ⟨by rfl,?_⟩)  ?_
 ·intro w hSw;(try dsimp only at hSw);go_simp
 simp only [Act.put,sIb,sC0,sC1];refine zNA (i := 10) (oi := ⟨some 34,.move (.tmp 5),3, "elimination.go:40",#[⟨29,.gcOnly .lateStores⟩],none⟩) (v := (.int .i64 (fr : Int))) rfl (by kernel_rfl) (fun _ _ _ h => h) (Or.inl ⟨by rfl,?_⟩)  ?_
 ·intro w hSw;(try dsimp only at hSw);go_simp
 simp only [Act.put,sIb,sC0,sC1];refine zNA (i := 11) (oi := ⟨some 35,.binOp .add 3 (.tmp 33) (.tmp 34) 3,3, "elimination.go:40",#[⟨9,.data⟩,⟨10,.data⟩,⟨29,.gcOnly .lateStores⟩],none⟩) (v := (.int .i64 (tf : Int))) rfl (by kernel_rfl) (fun _ _ _ h => h) (Or.inl ⟨by rfl,?_⟩)  ?_
 ·intro w hSw;(try dsimp only at hSw);go_simp
 simp only [Act.put,sIb,sC0,sC1];refine zZA [13,14,15,19,20,28,30] (i := 12) (oi := ⟨some 36,.load 137 (.tmp 2),137, "elimination.go:40",#[],none⟩) (v := (.pointer (some ⟨Bs,0,none⟩))) rfl (by kernel_rfl) (fun _ _ _ h => h) (Or.inl ⟨by rfl,?_⟩) (KB.out _ GB.out) ?_
 ·intro w hSw;(try dsimp only at hSw);go_simp
 simp only [Act.put,sIb,sC0,sC1];refine zNA (i := 13) (oi := ⟨some 37,.nilCheck (.tmp 36),0, "elimination.go:40",#[⟨12,.data⟩],none⟩) (v := (.pointer (some ⟨Bs,0,none⟩))) rfl (by kernel_rfl) (fun _ _ _ h => h) (Or.inl ⟨by rfl,?_⟩)  ?_
 ·intro w hSw;(try dsimp only at hSw);go_simp
 simp only [Act.put,sIb,sC0,sC1];refine zNA (i := 14) (oi := ⟨some 38,.fieldAddr 64 (.tmp 37) 1,0, "elimination.go:40",#[⟨13,.data⟩],none⟩) (v := (.pointer (some ⟨Bs,6,none⟩))) rfl (by kernel_rfl) (fun _ _ _ h => h) (Or.inl ⟨by rfl,?_⟩)  ?_
 ·intro w hSw;(try dsimp only at hSw);go_simp
 simp only [Act.put,sIb,sC0,sC1];refine zZA [19,20,28,30] (i := 15) (oi := ⟨some 39,.load 62 (.tmp 38),62, "elimination.go:40",#[⟨14,.data⟩],none⟩) (v := (.slice (some ⟨Lb,0,none⟩) m cap)) rfl (by kernel_rfl) (fun _ _ _ h => h) (Or.inl ⟨by rfl,?_⟩) (KB.out _ GB.out) ?_
 ·intro w hSw;(try dsimp only at hSw);go_simp
 simp only [Act.put,sIb,sC0,sC1];refine zNA (i := 16) (oi := ⟨some 40,.move (.tmp 4),3, "elimination.go:40",#[],none⟩) (v := (.int .i64 (p : Int))) rfl (by kernel_rfl) (fun _ _ _ h => h) (Or.inl ⟨by rfl,?_⟩)  ?_
 ·intro w hSw;(try dsimp only at hSw);go_simp
 simp only [Act.put,sIb,sC0,sC1];refine zNA (i := 17) (oi := ⟨some 41,.move (.tmp 5),3, "elimination.go:40",#[],none⟩) (v := (.int .i64 (fr : Int))) rfl (by kernel_rfl) (fun _ _ _ h => h) (Or.inl ⟨by rfl,?_⟩)  ?_
 ·intro w hSw;(try dsimp only at hSw);go_simp
 simp only [Act.put,sIb,sC0,sC1];refine zNA (i := 18) (oi := ⟨some 42,.binOp .add 3 (.tmp 40) (.tmp 41) 3,3, "elimination.go:40",#[⟨16,.data⟩,⟨17,.data⟩],none⟩) (v := (.int .i64 (tf : Int))) rfl (by kernel_rfl) (fun _ _ _ h => h) (Or.inl ⟨by rfl,?_⟩)  ?_
 ·intro w hSw;(try dsimp only at hSw);go_simp
 simp only [Act.put,sIb,sC0,sC1];refine zNA (i := 19) (oi := ⟨some 43,.indexAddr 62 (.tmp 39) (.tmp 42),0, "elimination.go:40",#[⟨15,.data⟩,⟨18,.data⟩],none⟩) (v := (.pointer (some ⟨Lb,tf,none⟩))) rfl (by kernel_rfl) (fun _ _ _ h => h) (Or.inl ⟨by rfl,?_⟩)  ?_
 ·intro w hSw;(try dsimp only at hSw);go_simp
 simp only [Act.put,sIb,sC0,sC1];refine zZA [28,30] (i := 20) (oi := ⟨some 44,.load 33 (.tmp 43),33, "elimination.go:40",#[⟨19,.data⟩],none⟩) (v := (.slice (some ⟨gs tf,0,none⟩) n n)) rfl (by kernel_rfl) (fun _ _ _ h => h) (Or.inl ⟨by rfl,?_⟩) (KB.out _ GB.out) ?_
 ·intro w hSw;(try dsimp only at hSw);go_simp
 simp only [Act.put,sIb,sC0,sC1];refine zZA [22,23,24,26,27,28,30] (i := 21) (oi := ⟨some 45,.load 137 (.tmp 2),137, "elimination.go:40",#[],none⟩) (v := (.pointer (some ⟨Bs,0,none⟩))) rfl (by kernel_rfl) (fun _ _ _ h => h) (Or.inl ⟨by rfl,?_⟩) (KB.out _ GB.out) ?_
 ·intro w hSw;(try dsimp only at hSw);go_simp
 simp only [Act.put,sIb,sC0,sC1];refine zNA (i := 22) (oi := ⟨some 46,.nilCheck (.tmp 45),0, "elimination.go:40",#[⟨21,.data⟩],none⟩) (v := (.pointer (some ⟨Bs,0,none⟩))) rfl (by kernel_rfl) (fun _ _ _ h => h) (Or.inl ⟨by rfl,?_⟩)  ?_
 ·intro w hSw;(try dsimp only at hSw);go_simp
 simp only [Act.put,sIb,sC0,sC1];refine zNA (i := 23) (oi := ⟨some 47,.fieldAddr 64 (.tmp 46) 1,0, "elimination.go:40",#[⟨22,.data⟩],none⟩) (v := (.pointer (some ⟨Bs,6,none⟩))) rfl (by kernel_rfl) (fun _ _ _ h => h) (Or.inl ⟨by rfl,?_⟩)  ?_
 ·intro w hSw;(try dsimp only at hSw);go_simp
 simp only [Act.put,sIb,sC0,sC1];refine zZA [26,27,28,30] (i := 24) (oi := ⟨some 48,.load 62 (.tmp 47),62, "elimination.go:40",#[⟨23,.data⟩],none⟩) (v := (.slice (some ⟨Lb,0,none⟩) m cap)) rfl (by kernel_rfl) (fun _ _ _ h => h) (Or.inl ⟨by rfl,?_⟩) (KB.out _ GB.out) ?_
 ·intro w hSw;(try dsimp only at hSw);go_simp
 simp only [Act.put,sIb,sC0,sC1];refine zNA (i := 25) (oi := ⟨some 49,.move (.tmp 4),3, "elimination.go:40",#[],none⟩) (v := (.int .i64 (p : Int))) rfl (by kernel_rfl) (fun _ _ _ h => h) (Or.inl ⟨by rfl,?_⟩)  ?_
 ·intro w hSw;(try dsimp only at hSw);go_simp
 simp only [Act.put,sIb,sC0,sC1];refine zNA (i := 26) (oi := ⟨some 50,.indexAddr 62 (.tmp 48) (.tmp 49),0, "elimination.go:40",#[⟨24,.data⟩,⟨25,.data⟩],none⟩) (v := (.pointer (some ⟨Lb,p,none⟩))) rfl (by kernel_rfl) (fun _ _ _ h => h) (Or.inl ⟨by rfl,?_⟩)  ?_
 ·intro w hSw;(try dsimp only at hSw);go_simp
 simp only [Act.put,sIb,sC0,sC1];refine zZA [28,30] (i := 27) (oi := ⟨some 51,.load 33 (.tmp 50),33, "elimination.go:40",#[⟨26,.data⟩],none⟩) (v := (.slice (some ⟨gs p,0,none⟩) n n)) rfl (by kernel_rfl) (fun _ _ _ h => h) (Or.inl ⟨by rfl,?_⟩) (KB.out _ GB.out) ?_
 ·intro w hSw;(try dsimp only at hSw);go_simp
 simp only [Act.put,sIb,sC0,sC1];refine zNA (i := 28) (oi := ⟨some 52,.indexAddr 62 (.tmp 27) (.tmp 28),0, "elimination.go:40",#[⟨3,.data⟩,⟨4,.data⟩,⟨0,.phase⟩,⟨1,.phase⟩,⟨2,.phase⟩,⟨3,.phase⟩,⟨4,.phase⟩,⟨5,.textOnly .lateStores⟩,⟨6,.textOnly .lateStoresUnsure⟩,⟨7,.textOnly .lateStoresUnsure⟩,⟨8,.phase⟩,⟨9,.textOnly .lateStores⟩,⟨10,.textOnly .lateStores⟩,⟨11,.textOnly .lateStores⟩,⟨12,.phase⟩,⟨13,.phase⟩,⟨14,.phase⟩,⟨15,.phase⟩,⟨16,.phase⟩,⟨17,.phase⟩,⟨18,.phase⟩,⟨19,.phase⟩,⟨20,.phase⟩,⟨21,.textOnly .lateStores⟩,⟨22,.textOnly .lateStoresUnsure⟩,⟨23,.textOnly .lateStoresUnsure⟩,⟨24,.phase⟩,⟨25,.textOnly .lateStores⟩,⟨26,.textOnly .lateStoresUnsure⟩,⟨27,.phase⟩],none⟩) (v := (.pointer (some ⟨Lb,p,none⟩))) rfl (by kernel_rfl) (fun _ _ _ h => h) (Or.inl ⟨by rfl,?_⟩)  ?_
 ·intro w hSw;(try dsimp only at hSw);go_simp
 simp only [Act.put,sIb,sC0,sC1];refine zuD (i := 29) (o := ⟨none,.store 33 (.tmp 52) (.tmp 44),0, "elimination.go:40",#[⟨28,.data⟩,⟨20,.data⟩,⟨0,.phase⟩,⟨1,.phase⟩,⟨2,.phase⟩,⟨3,.phase⟩,⟨4,.phase⟩,⟨5,.textOnly .lateStores⟩,⟨6,.textOnly .lateStoresUnsure⟩,⟨7,.textOnly .lateStoresUnsure⟩,⟨8,.phase⟩,⟨9,.textOnly .lateStores⟩,⟨10,.textOnly .lateStores⟩,⟨11,.textOnly .lateStores⟩,⟨12,.phase⟩,⟨13,.phase⟩,⟨14,.phase⟩,⟨15,.phase⟩,⟨16,.phase⟩,⟨17,.phase⟩,⟨18,.phase⟩,⟨19,.phase⟩,⟨20,.phase⟩,⟨21,.textOnly .lateStores⟩,⟨22,.textOnly .lateStoresUnsure⟩,⟨23,.textOnly .lateStoresUnsure⟩,⟨24,.phase⟩,⟨25,.textOnly .lateStores⟩,⟨26,.textOnly .lateStoresUnsure⟩,⟨27,.phase⟩],none⟩) (by kernel_rfl) rfl (fun K hK => ?_);have JD := hid (J1.out.now GB.out HB1.out);have h0 := JD.out.l.lineS hpl;have h1 := (JD.out.l.line.2.2.2 p hpl).2;go_simp;clear h0 h1;obtain ⟨V2,hW⟩ : ∃ V2,(D1.setCell ⟨Lb,p,none⟩ (.slice (some ⟨gs tf,0,none⟩) n n)) = V2 := ⟨_,rfl⟩
 obtain ⟨sw1,sw2,sw3,sw4,sw5⟩ := JD.out.l.swap hpl htm;have SW := hid (And.intro sw1 (And.intro sw2 sw3));obtain ⟨uu,hu⟩ := Option.ne_none_iff_exists'.1 sw4;have EW4 := hid hW;have u0 : V2.cell? ⟨Lb,tf,none⟩ = some uu := by rw [← hW];exact hu
 have u1 : V2.frozen? ⟨Lb,tf,none⟩ = false := by rw [← hW];exact sw5
 clear sw1 sw2 sw3 sw4 sw5 hu;rw [hW];clear hW;refine hK.out _ _ (fun h => absurd h (by decide)) ?_;clear hK
 try simp only [Act.put]
 refine zNA (i := 30) (oi := ⟨some 53,.indexAddr 62 (.tmp 32) (.tmp 35),0, "elimination.go:40",#[⟨8,.data⟩,⟨11,.data⟩,⟨0,.phase⟩,⟨1,.phase⟩,⟨2,.phase⟩,⟨3,.phase⟩,⟨4,.phase⟩,⟨5,.phase⟩,⟨6,.phase⟩,⟨7,.phase⟩,⟨8,.phase⟩,⟨9,.phase⟩,⟨10,.phase⟩,⟨11,.phase⟩,⟨12,.phase⟩,⟨13,.phase⟩,⟨14,.phase⟩,⟨15,.phase⟩,⟨16,.phase⟩,⟨17,.phase⟩,⟨18,.phase⟩,⟨19,.phase⟩,⟨20,.phase⟩,⟨21,.phase⟩,⟨22,.phase⟩,⟨23,.phase⟩,⟨24,.phase⟩,⟨25,.phase⟩,⟨26,.phase⟩,⟨27,.phase⟩,⟨28,.phase⟩,⟨29,.phase⟩],none⟩) (v := (.pointer (some ⟨Lb,tf,none⟩))) rfl (by kernel_rfl) (fun _ _ _ h => h) (Or.inl ⟨by rfl,?_⟩)  ?_
 ·intro w hSw;(try dsimp only at hSw);go_simp
 simp only [Act.put,sIb,sC0,sC1];refine zuD (i := 31) (o := ⟨none,.store 33 (.tmp 53) (.tmp 51),0, "elimination.go:40",#[⟨30,.data⟩,⟨27,.data⟩,⟨29,.chain⟩,⟨0,.phase⟩,⟨1,.phase⟩,⟨2,.phase⟩,⟨3,.phase⟩,⟨4,.phase⟩,⟨5,.phase⟩,⟨6,.phase⟩,⟨7,.phase⟩,⟨8,.phase⟩,⟨9,.phase⟩,⟨10,.phase⟩,⟨11,.phase⟩,⟨12,.phase⟩,⟨13,.phase⟩,⟨14,.phase⟩,⟨15,.phase⟩,⟨16,.phase⟩,⟨17,.phase⟩,⟨18,.phase⟩,⟨19,.phase⟩,⟨20,.phase⟩,⟨21,.phase⟩,⟨22,.phase⟩,⟨23,.phase⟩,⟨24,.phase⟩,⟨25,.phase⟩,⟨26,.phase⟩,⟨27,.phase⟩,⟨28,.phase⟩,⟨29,.phase⟩],none⟩) (by kernel_rfl) rfl (fun K hK => ?_);go_simp;clear u0 u1;obtain ⟨V3,hW⟩ : ∃ V3,(V2.setCell ⟨Lb,tf,none⟩ (.slice (some ⟨gs p,0,none⟩) n n)) = V3 := ⟨_,rfl⟩
 have J2 : Hid (StJ B w sb (sb + 1) Bs m n x y (.slice (some ⟨Lb,0,none⟩) m cap) (.bool nd) (.slice ad ld cd) (.slice pa pv.length pcap) (fun i => gs (swi p tf i)) (fun i j => L (swi p tf i) j) d pv c k V3) := by
  unfold Hid;rw [← hW,← EW4.out];obtain ⟨sw1,sw2,sw3⟩ := SW.out;have j := JD.out;exact ⟨Cel.ty13 j.bx sw3 (by decide),j.s.ty13 sw3 (by decide),j.c.ty13 sw3 (by decide),j.d.ty sw3 (by decide),j.p.keep fun b L _ e => sw3.2 b _ _ _ e (by decide),sw1,j.b.trans sw2,j.kp.trans (.ty sw3 (by decide))⟩
 clear JD SW EW4;rw [hW];clear hW;refine hK.out _ _ (fun h => absurd h (by decide)) ?_;clear hK
 try simp only [Act.put]
 refine wpAnyX_done (by kernel_rfl) ?_ _;clear GB KB J1 HB1 j1 j6 jp jt;obtain ⟨V2,hV2⟩ : ∃ V2,V3 = V2 := ⟨_,rfl⟩
 rw [hV2] at J2 ⊢;clear hV2;have HLL : Hid (StJ B w sb (sb + 1) Bs m n x y (.slice (some ⟨Lb,0,none⟩) m cap) (.bool nd) (.slice ad ld cd) (.slice pa pv.length pcap) (fun i => gs (swi p tf i)) (fun i j => L (swi p tf i) j) d pv c k V2) := J2;obtain ⟨gs1,hgs1⟩ : ∃ gs1,(fun i => gs (swi p tf i)) = gs1 := ⟨_,rfl⟩
 obtain ⟨L1,hL1⟩ : ∃ L1,(fun i j => L (swi p tf i) j) = L1 := ⟨_,rfl⟩
 rw [hgs1,hL1] at HLL;have ES1 : Hid (Els A m n c L1 d pv) := by
  unfold Hid;rw [← hL1];exact ES.out.swap (by have := EP.out;omega) (by have := EP.out;have := HTF.out;omega) hpl htm
 have NZ1 : Hid (L1 p c ≠ 0) := by
  have e : L1 p c = L tf c := by rw [← hL1];show L (swi p tf p) c = _;unfold swi;rw [if_pos rfl]
  unfold Hid;rw [e];exact HNZ.out
 have ES2 : Hid (Els A m n (c + 1) (crs L1 d p c) (L1 p c) (pv ++ [c])) := by
  have h := ES1.out.crs (by rw [EP.out];exact hpl) hc (by rw [EP.out];exact NZ1.out);rw [EP.out] at h;exact h
 have HX : Hid (∀ i j,i < m → j < n → i ≠ p → L1 p c * L1 i j - L1 i c * L1 p j = d * crs L1 d p c i j) := fun i j hi hj hip => by
  unfold crs;rw [if_neg hip];exact (Int.mul_tdiv_cancel' (ES1.out.dvd hpl hc hi hj hip)).symm
 have HD0 := hid ES1.out.nz;have HLT := hid (ES2.out.lt EK.out);have HPP : Hid (∀ j,crs L1 d p c p j = L1 p j) := fun j => by unfold crs;rw [if_pos rfl]
 have H0 : Hid (StH B w sb (sb + 1) Bs m n x y (.slice (some ⟨Lb,0,none⟩) m cap) (.bool nd) (.slice ad ld cd) (.slice pa pv.length pcap) gs1 L1 (crs L1 d p c) d pv c k m (.int .i64 0) V2) := ⟨0,rfl,Nat.zero_le _,rfl,HLL.out.congr fun i j _ _ => by unfold mixT;rw [if_neg (by omega)]⟩
 have l1 := HLL.out.s.at (i := 0) rfl;have l6 := Cel.at HLL.out.bx (i := 6) rfl;have lp := HLL.out.l.lineS hpl;clear J2 HLL hgs1 hL1 HNZ ES ES1;go_wp2_with fail;clear l1 l6 lp
 go_loopg [66] m (fun gk s66 wx => StH B w sb (sb + 1) Bs m n x y (.slice (some ⟨Lb,0,none⟩) m cap) (.bool nd) (.slice ad ld cd) (.slice pa pv.length pcap) gs1 L1 (crs L1 d p c) d pv c k gk s66 wx)
 case atStart => exact H0.out
 case round =>
  clear H0;obtain ⟨i,rfl,him,hgk,hJ⟩ := hrel;have J := hid hJ;have HG := hid hgk;have HBx : Hid (B ≤ wr.heap.size) := by unfold Hid;have := Cel.blk hJ.bx;have := HE2.out;omega
  clear hJ hgk
  by_cases hlt : i < m
  ·have hlt' : (i : Int) < (m : Int) := by omega
   have hwi := zVA (i := i) (by omega);have k0 := J.out.l.lineS hlt;have k1 := J.out.s.at (i := 0) rfl;have k2 := J.out.c.at (i := 0) rfl;have HMM : Hid (m - (i + 1) < gk) := by unfold Hid;rw [HG.out];omega
   by_cases hip : i = p
   ·have HN : Hid (StH B w sb (sb + 1) Bs m n x y (.slice (some ⟨Lb,0,none⟩) m cap) (.bool nd) (.slice ad ld cd) (.slice pa pv.length pcap) gs1 L1 (crs L1 d p c) d pv c k (m - (i + 1)) (.int .i64 ((i + 1 : Nat) : Int)) wr) := ⟨i + 1,rfl,by omega,rfl,J.out.congr fun t j _ _ => by
     unfold mixT
     by_cases q : t < i
     ·rw [if_pos q,if_pos (by omega)]
     ·by_cases q' : t = i
      ·rw [if_neg q,if_pos (by omega),q',hip,HPP.out j]
      ·rw [if_neg q,if_neg (by omega)]⟩
    subst hip;clear J HG k1 k2 HBx;go_wp2_with fail;go_roundg (m - (i + 1))
    case rel => exact HN.out
    case measure => exact HMM.out
   ·have hne : ((i : Int) != (p : Int)) = true := by simp;omega
    have hip2 : ((i : Int) ≠ (p : Int)) := by omega
    have hip3 : ¬ (i : Int) = (p : Int) := by omega
    obtain ⟨ps,pA,pZ⟩ := (J.out.l.2.2 i hlt).2.congr (G := L1 i) fun j _ => by unfold mixT;rw [if_neg (by omega)]
    obtain ⟨qs,qA,qZ⟩ := (J.out.l.2.2 p hpl).2.congr (G := L1 p) fun j _ => by
     unfold mixT
     split
     ·exact HPP.out j
     ·rfl
    have HC := hid (cross_any J.out.bx J.out.d HD0.out pA pZ qA qZ (fun e => hip (J.out.l.2.1 _ _ hpl hlt e).symm) hc (F1 := fun j => crs L1 d p c i j) (fun j hj => HX.out i j hlt hj hip) (fun j hj => HLT.out.2 i j hlt hj) HKW.out hn);clear pA pZ qA qZ;go_wp2_with fail;refine HC.out.mono ?_;rintro e w2 ⟨rfl,ps',pA',pZ',pT⟩;have HN : Hid (StH B w sb (sb + 1) Bs m n x y (.slice (some ⟨Lb,0,none⟩) m cap) (.bool nd) (.slice ad ld cd) (.slice pa pv.length pcap) gs1 L1 (crs L1 d p c) d pv c k (m - (i + 1)) (.int .i64 ((i + 1 : Nat) : Int)) w2) := ⟨i + 1,rfl,by omega,rfl,(J.out.row hlt pT ⟨ps',pA',pZ'⟩ HBx.out).congr fun t j _ _ => by
     unfold mixT
     by_cases q' : t = i
     ·rw [if_pos q',if_pos (by omega),q']
     ·rw [if_neg q']
      by_cases q : t < i
      ·rw [if_pos q,if_pos (by omega)]
      ·rw [if_neg q,if_neg (by omega)]⟩
    clear J HG k0 k1 k2 HBx hip HC pA' pZ' pT;go_wp2_with fail;go_roundg (m - (i + 1))
    case rel => exact HN.out
    case measure => exact HMM.out
  ·have hlt' : ¬ (i : Int) < (m : Int) := by omega
   obtain rfl : i = m := by omega
   have J3 := hid (J.out.congr (L' := crs L1 d p c) fun t j ht _ => by unfold mixT;rw [if_pos ht]);obtain ⟨ps,pA,pZ⟩ := (J3.out.l.2.2 p hpl).2;obtain ⟨nf,af,lf,cf,f0,f1,-,-,zf⟩ := pZ.at pA (t := c) (by simp;exact hc);rw [zyA hc,HPP.out c] at zf;have ZF := hid zf;have hcI : (c : Int) < (n : Int) := by omega
   have k1 := J3.out.s.at (i := 0) rfl;have k2 := J3.out.c.at (i := 0) rfl;clear J HG pA pZ zf;go_wp2_with fail;have KB : Hid (∀ w',Below wr.heap.size wr w' → w'.cell? ⟨sb,0,none⟩ = some (.pointer (some ⟨Bs,0,none⟩)) ∧ w'.cell? ⟨sb + 1,0,none⟩ = some (.int .i64 (c : Int)) ∧ w'.cell? ⟨gs1 p,c * 2,none⟩ = some (.bool nf) ∧ w'.cell? ⟨gs1 p,c * 2 + 1,none⟩ = some (.slice af lf cf)) := fun w' h => ⟨cnow h k1,cnow h k2,cnow h f0,cnow h f1⟩
   refine zFA (fun w' => w'.cell? ⟨sb,0,none⟩ = some (.pointer (some ⟨Bs,0,none⟩)) ∧ w'.cell? ⟨sb + 1,0,none⟩ = some (.int .i64 (c : Int)) ∧ w'.cell? ⟨gs1 p,c * 2,none⟩ = some (.bool nf) ∧ w'.cell? ⟨gs1 p,c * 2 + 1,none⟩ = some (.slice af lf cf)) 7 (by kernel_rfl) ?_;obtain ⟨D41,hD⟩ : ∃ D41,wr.drew = D41 := ⟨_,rfl⟩
   have GB : Hid (Below wr.heap.size wr D41) := by unfold Hid;rw [← hD];exact (Below.refl _ _).drew
   rw [hD];clear hD;refine zDA [(0,(.pointer (some ⟨Bs,0,none⟩))),(1,(.slice (some ⟨gs1 p,0,none⟩) n n)),(2,(.int .i64 (c : Int))),(3,(.pointer (some ⟨gs1 p,c * 2,none⟩))),(4,(.agg #[.bool nf,.slice af lf cf])),(5,(.pointer (some ⟨Bs,0,none⟩))),(6,(.pointer (some ⟨Bs,7,none⟩)))] 7 ?_ (KB.out _ GB.out) ?_
   ·simp only [zJA,gA9,g09,g19,Act.put,sI9,s09,s19]
    (repeat' (first | exact trivial | refine And.intro (Or.inl ⟨by rfl,?_⟩) ?_)) <;> (intro w hSw;(try dsimp only at hSw);go_simp)
   simp only [actV,gA9,g09,g19,Act.put,sI9,s09,s19];refine zBA (i := 7) (o := ⟨none,.store 45 (.tmp 86) (.tmp 84),0, "elimination.go:47",#[⟨6,.data⟩,⟨4,.data⟩,⟨0,.phase⟩,⟨1,.phase⟩,⟨2,.phase⟩,⟨3,.phase⟩,⟨4,.phase⟩],none⟩) (by kernel_rfl) rfl (fun K hK => ?_);have JD := hid (J3.out.now GB.out HBx.out);have h0 := Cel.at JD.out.bx (i := 7) rfl;have h1 := Cel.at JD.out.bx (i := 8) rfl;have h2 := Cel.fz JD.out.bx 7;have h3 := Cel.fz JD.out.bx 8;have ZD := hid (ZF.out.now GB.out);go_simp;clear h0 h1 h2 h3;obtain ⟨V42,hW⟩ : ∃ V42,((D41.setCell ⟨Bs,7,none⟩ (.bool nf)).setCell ⟨Bs,8,none⟩ (.slice af lf cf)) = V42 := ⟨_,rfl⟩
   have J4 : StJ B w sb (sb + 1) Bs i n x y (.slice (some ⟨Lb,0,none⟩) i cap) (.bool nf) (.slice af lf cf) (.slice pa pv.length pcap) gs1 (crs L1 d p c) (L1 p c) pv c k V42 := by
    have j := JD.out;have t : Ty 64 D41 V42 := by rw [← hW];exact (Ty.set j.bx).trans (Ty.set (Cel.set j.bx 7 _))
    refine ⟨by rw [← hW];exact Cel.set (Cel.set j.bx 7 _) 8 _,j.s.ty13 t (by decide),j.c.ty13 t (by decide),ZD.out.ty t (by decide),j.p.keep fun b L _ e => t.2 b _ _ _ e (by decide),j.l.ty t (by decide) (by decide) (by decide),?_,by rw [← hW];exact (j.kp.trans .set).trans .set⟩;rw [← hW];exact j.b.trans (bset (bset (Below.refl _ _) HE2.out) HE2.out)
   clear JD ZD;rw [hW];clear hW;refine hK.out _ _ (fun h => absurd h (by decide)) ?_;clear hK
   try simp only [Act.put]
   refine zEA (by kernel_rfl) ?_ _;clear GB KB J3 HBx k1 k2 f0 f1 ZF;obtain ⟨V9,hV9⟩ : ∃ V9,V42 = V9 := ⟨_,rfl⟩
   rw [hV9] at J4 ⊢;clear hV9;have J5 := hid J4;have k1 := J5.out.s.at (i := 0) rfl;have k2 := J5.out.c.at (i := 0) rfl;have k9 := Cel.at J5.out.bx (i := 9) rfl;have HPL : Hid (pv.length ≤ 1000000) := by unfold Hid;rw [EP.out];omega
   have HCB : Hid (∀ b,(Value.slice pa pv.length pcap).ownBlock = some b → b ≠ sb + 1) := fun b hb e => by have := HVV.out b hb;rw [ESB.out] at this;omega
   have HB4 : Hid (B ≤ V9.heap.size) := by unfold Hid;have := Cel.blk J5.out.bx;have := HE2.out;omega
   clear J4;rw [EP.out] at k9;go_wp2_with fail;have KB : Hid (∀ w',Below V9.heap.size V9 w' → w'.cell? ⟨sb,0,none⟩ = some (.pointer (some ⟨Bs,0,none⟩)) ∧ w'.cell? ⟨Bs,9,none⟩ = some (.slice pa p pcap) ∧ w'.cell? ⟨sb + 1,0,none⟩ = some (.int .i64 (c : Int))) := fun w' h => ⟨cnow h k1,cnow h k9,cnow h k2⟩
   refine zFA (fun w' => w'.cell? ⟨sb,0,none⟩ = some (.pointer (some ⟨Bs,0,none⟩)) ∧ w'.cell? ⟨Bs,9,none⟩ = some (.slice pa p pcap) ∧ w'.cell? ⟨sb + 1,0,none⟩ = some (.int .i64 (c : Int))) 10 (by kernel_rfl) ?_;obtain ⟨D61,hD⟩ : ∃ D61,V9.drew = D61 := ⟨_,rfl⟩
   have GB : Hid (Below V9.heap.size V9 D61) := by unfold Hid;rw [← hD];exact (Below.refl _ _).drew
   rw [hD];clear hD;have KC := hid (KB.out _ GB.out);refine zDA [(0,(.pointer (some ⟨Bs,0,none⟩))),(1,(.pointer (some ⟨Bs,0,none⟩))),(2,(.pointer (some ⟨Bs,0,none⟩))),(3,(.pointer (some ⟨Bs,9,none⟩))),(4,(.slice pa p pcap)),(5,(.int .i64 (c : Int)))] 6 ?_ (KC.out) ?_
   ·simp only [zJA,gA9,g09,g19,Act.put,sI9,s09,s19]
    (repeat' (first | exact trivial | refine And.intro (Or.inl ⟨by rfl,?_⟩) ?_)) <;> (intro w hSw;(try dsimp only at hSw);go_simp)
   simp only [actV,gA9,g09,g19,Act.put,sI9,s09,s19];refine zBA (i := 6) (o := ⟨some 93,.buildSlice 26 1 #[(0,.tmp 92)],26, "elimination.go:48",#[⟨5,.data⟩],none⟩) (by kernel_rfl) rfl (fun K hK => ?_);go_simp;obtain ⟨V62,hW⟩ : ∃ V62,D61.alloc (.cells #[.int .i64 (c : Int)] 3) = V62 := ⟨_,rfl⟩
   obtain ⟨b,sz62⟩ := alo1 D61 (.cells #[.int .i64 (c : Int)] 3);rw [hW] at b sz62;replace GB := hid (zAA GB.out b);replace KC := hid (KB.out _ GB.out);have CX : Hid (V62.cell? ⟨D61.heap.size,0,none⟩ = some (.int .i64 (c : Int))) := by unfold Hid;rw [← hW];exact (Cel.new D61 3 [.int .i64 (c : Int)]).at (i := 0) rfl
   have JD := hid (J5.out.now GB.out HB4.out);have HBD : Hid (B ≤ V62.heap.size) := by unfold Hid;have := GB.out.size;have := HB4.out;omega
   have PD : Hid (Ivs B V62 (.slice pa p pcap) pv) := by have h := JD.out.p;rw [EP.out] at h;exact h
   have HC1 : Hid (∀ b,(Value.slice pa p pcap).ownBlock = some b → b ≠ sb + 1) := by have h := HCB.out;rw [EP.out] at h;exact h
   rw [hW];clear hW b sz62;refine hK.out _ _ (fun _ => KC.out) ?_;clear hK
   try simp only [Act.put]
   refine zBA (i := 7) (o := ⟨some 94,.call { callee := .builtin .append,args := #[.tmp 91,.tmp 93],argTypes := #[26,26] },26, "elimination.go:48",#[⟨4,.data⟩,⟨6,.data⟩],none⟩) (by kernel_rfl) rfl (fun K hK => ?_);refine step_append_ivs17 V62 rfl (.tmp 91) (.tmp 93) rfl B (.slice pa p pcap) _ c rfl PD.out D61.heap.size rfl CX.out HPL.out HBD.out ?_;intro g9 l9 cap9 w63 hl9 hI hg hb;have TG : Hid (Ty 3 V62 w63) := Ty.grown PD.out hg.out;have J6 : Hid (StJ B w sb (sb + 1) Bs i n x y (.slice (some ⟨Lb,0,none⟩) i cap) (.bool nf) (.slice af lf cf) (.slice pa pv.length pcap) gs1 (crs L1 d p c) (L1 p c) [] c k w63 → True) := fun _ => trivial
   have E6 : Hid (Ebx w63 Bs x y (.slice (some ⟨Lb,0,none⟩) i cap) (.bool nf) (.slice af lf cf) (.slice pa p pcap)) := by have h := Cel.ty13 JD.out.bx TG.out (by decide);rw [EP.out] at h;exact h
   have S6 := hid (JD.out.s.ty13 TG.out (by decide));have C6 : Hid (Cel w63 (sb + 1) 3 [.int .i64 (c : Int)]) := by
    unfold Hid Cel;rw [hg.out.block (sb + 1) JD.out.c.blk (fun q => HC1.out _ q.symm rfl)];exact JD.out.c
   have D6 := hid (JD.out.d.ty TG.out (by decide));have L6 := hid (JD.out.l.ty TG.out (by decide) (by decide) (by decide));have B6 : Hid (Below B w w63) := below_own17 JD.out.b HBD.out PD.out hg.out;have I6 := hI;have P6 : Hid (Kp17 Bs w w63) := JD.out.kp.trans (.ty TG.out (by decide));replace KC := hid (⟨S6.out.at (i := 0) rfl,Cel.at E6.out (i := 9) rfl,C6.out.at (i := 0) rfl⟩ : _ ∧ _ ∧ _);clear hI hg hb hl9 CX PD JD TG J6;refine hK.out _ _ (fun _ => KC.out) ?_;clear hK;refine zDA [(8,(.pointer (some ⟨Bs,0,none⟩))),(9,(.pointer (some ⟨Bs,9,none⟩)))] 2 ?_ (KC.out) ?_
   ·simp only [zJA,gA9,g09,g19,Act.put,sI9,s09,s19]
    (repeat' (first | exact trivial | refine And.intro (Or.inl ⟨by rfl,?_⟩) ?_)) <;> (intro w hSw;(try dsimp only at hSw);go_simp)
   simp only [actV,gA9,g09,g19,Act.put,sI9,s09,s19];refine zBA (i := 10) (o := ⟨none,.store 26 (.tmp 96) (.tmp 94),0, "elimination.go:48",#[⟨9,.data⟩,⟨7,.data⟩,⟨7,.chain⟩,⟨0,.phase⟩,⟨1,.phase⟩,⟨2,.phase⟩,⟨3,.phase⟩,⟨4,.phase⟩,⟨5,.phase⟩,⟨6,.phase⟩,⟨7,.phase⟩],none⟩) (by kernel_rfl) rfl (fun K hK => ?_);have h0 := Cel.at E6.out (i := 9) rfl;have h1 := Cel.fz E6.out 9;go_simp;clear h0 h1;obtain ⟨V64,hW⟩ : ∃ V64,(w63.setCell ⟨Bs,9,none⟩ (.slice (some ⟨g9,0,none⟩) l9 cap9)) = V64 := ⟨_,rfl⟩
   have FF : Hid (zvC A B w Bs i n c k (.returned (.tuple #[])) V64) := by
    unfold Hid;rw [← hW];have t := Ty.set (i := 9) (u := .slice (some ⟨g9,0,none⟩) l9 cap9) E6.out;exact ⟨rfl,gs1,crs L1 d p c,L1 p c,pv ++ [c],⟨x,y,_,nf,af,lf,cf,_,Cel.set E6.out 9 _,HE2.out,D6.out.ty t (by decide),I6.out.keep fun b L _ e => t.2 b _ _ _ e (by decide),L6.out.ty t (by decide) (by decide) (by decide),HXY.out⟩,ES2.out,B6.out.trans (bset (Below.refl _ _) HE2.out),P6.out.trans .set⟩
   rw [hW];clear hW;refine hK.out _ _ (fun h => absurd h (by decide)) ?_;clear hK
   try simp only [Act.put]
   refine zEA (by kernel_rfl) ?_ _;clear GB KB KC E6 S6 C6 D6 L6 B6 I6 P6;go_wp2;go_end0;exact FF.out
end Go.Proofs.YtffkmeocmjohmaaGreat
