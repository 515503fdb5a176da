import Derived.Test.YtkklldokdnfkgaaGreatQBu12ToIx12
set_option maxRecDepth 100000
set_option maxHeartbeats 6400000
set_option linter.unusedVariables false
set_option linter.unusedSimpArgs false
namespace Go.Proofs.YtkklldokdnfkgaaGreat
open Go.RowKit
def Pvs (B : Nat) (w : World) (v : Value) (pv : List Nat) : Prop := w.ownsRow B 3 1 v pv.length (pv.map fun (a : Nat) => Value.int .i64 (a : Int))
theorem Pvs.nil (B : Nat) (w : World) : Pvs B w (.slice none 0 0) [] := World.ownsRow_nil _ _ _ _
theorem Pvs.now {B : Nat} {w w' : World} {v : Value} {pv : List Nat} (h : Pvs B w v pv) (hb : Below w.heap.size w w') : Pvs B w' v pv := zQB h fun b _ hlt => hb.block b hlt
theorem Pvs.form {B : Nat} {w : World} {v : Value} {pv : List Nat} (h : Pvs B w v pv) : ∃ a cap,v = .slice a pv.length cap ∧ pv.length ≤ cap := by
 obtain ⟨q1,⟨q2,q3⟩ | ⟨g,cap,cur,q2,q3,q4,q5,q6⟩⟩ := h
 ·exact ⟨none,0,by rw [q2,q3],by omega⟩
 ·exact ⟨_,cap,q2,by omega⟩
theorem Pvs.touch {B g : Nat} {w w' : World} {v : Value} {pv : List Nat} {T : TypeId} {L : List Value} (h : Pvs B w v pv) (hg : Cel w g T L) (hT : T ≠ 3) (ht : zoA (· = g) w w') : Pvs B w' v pv := zQB h fun b hb hlt => ht.block b hlt fun e => by
 have e' : b = g := e;subst e';obtain ⟨q1,⟨q2,q3⟩ | ⟨g,cap,cur,q2,q3,q4,q5,q6⟩⟩ := h
 ·rw [q2] at hb;cases hb
 ·rw [q2] at hb
  simp only [Value.ownBlock,Option.some.injEq] at hb;subst hb;have := q4.symm.trans (show w.heap[_]? = _ from hg);simp only [Option.some.injEq,Obj.cells.injEq] at this;exact hT this.2.1.symm
theorem Cel.touch {g b : Nat} {w w' : World} {T T' : TypeId} {L L' : List Value} (h : Cel w b T L) (hg : Cel w g T' L') (hT : T ≠ T') (ht : zoA (· = g) w w') : Cel w' b T L :=
 (ht.block b h.blk fun e => by
  have e' : b = g := e;subst e';have := (show w.heap[_]? = _ from h).symm.trans (show w.heap[_]? = _ from hg);simp only [Option.some.injEq,Obj.cells.injEq] at this;exact hT this.2.1).trans h
theorem Lns.own {B c L cap n : Nat} {w : World} {gs : List Nat} {m : List (List Int)} (h : Lns B w (.slice (some ⟨L,0,none⟩) n cap) c gs m) : ∃ M,w.heap[L]? = some (.cells M 42 (0,0)) := by
 obtain ⟨⟨q1,⟨q2,q3⟩ | ⟨g,cap,cur,q2,q3,q4,q5,q6⟩⟩,h2,h3,h4,h5,h6⟩ := h
 ·cases q2
 ·simp only [Value.slice.injEq,Option.some.injEq,Addr.mk.injEq,and_true] at q2
  obtain ⟨rfl,-,-⟩ := q2;exact ⟨_,q4⟩
theorem touch_below {B g : Nat} {w w0 w' : World} (h : Below B w0 w) (ht : zoA (· = g) w w') (hB : B ≤ g) (hBw : B ≤ w.heap.size) : Below B w0 w' :=
 h.trans ⟨ht.os,ht.tape,ht.output,ht.size,fun k hk => ht.block k (by omega) (fun e => by have e' : k = g := e;omega)⟩
def Bk (B : Nat) (w w' : World) : Prop := Below B w w' ∧ ∀ (b : Nat) (T : TypeId) (L : List Value),Cel w b T L → T ≠ 25 → T ≠ 42 → Cel w' b T L
theorem Bk.of {B : Nat} {w w' : World} (h : Below w.heap.size w w') (hB : B ≤ w.heap.size) : Bk B w w' := ⟨h.mono hB,fun b T L hc _ _ => hc.step h⟩
theorem Bk.step {B : Nat} {w x y : World} (h : Bk B w x) (hb : Below x.heap.size x y) (hB : B ≤ x.heap.size) : Bk B w y := ⟨h.1.trans (hb.mono hB),fun b T L hc h1 h2 => (h.2 b T L hc h1 h2).step hb⟩
theorem Bk.touch {B g : Nat} {w x y : World} {T' : TypeId} {L' : List Value} (h : Bk B w x) (ht : zoA (· = g) x y) (hg : Cel x g T' L') (hT : T' = 25 ∨ T' = 42) (hB : B ≤ g) (hBw : B ≤ x.heap.size) : Bk B w y :=
 ⟨touch_below h.1 ht hB hBw,fun b T L hc h1 h2 => (h.2 b T L hc h1 h2).touch hg (fun e => hT.elim (fun q => h1 (e.trans q)) (fun q => h2 (e.trans q))) ht⟩
theorem Lns.grown {B c n : Nat} {w w' : World} {lv v : Value} {gs : List Nat} {m : List (List Int)} {base : Nat} {Us : List Value} (h : Lns B w lv c gs m) (ho : w.ownsRow base 3 1 v n Us) (hg : w.grownBy w' v.ownBlock) : Lns B w' lv c gs m := by
 refine h.keep fun b hlt hb => hg.block b hlt fun e => ?_
 obtain ⟨_,⟨q1,_⟩ | ⟨g',cap',cur,q1,_,q4,_⟩⟩ := ho
 ·rw [q1] at e;cases e
 rw [q1] at e;simp only [Value.ownBlock,Option.some.injEq] at e;subst e;obtain ⟨h1,h2,h3,h4,h5,h6⟩ := h;rcases hb with q | q
 ·obtain ⟨_,⟨q2,q3⟩ | ⟨g',cap,cur',q2,q3,q5,_⟩⟩ := h1
  ·rw [q2] at q;cases q
  ·rw [q2] at q
   simp only [Value.ownBlock,Option.some.injEq] at q;subst q;have := q5.symm.trans q4;simp only [Option.some.injEq,Obj.cells.injEq] at this;exact absurd this.2.1 (by decide)
 ·obtain ⟨j,hj,e⟩ := List.mem_iff_getElem.1 q
  have hr := h6 j b (by rw [← e];exact List.getElem?_eq_getElem hj);have := (show w.heap[_]? = _ from hr).symm.trans q4;simp only [Option.some.injEq,Obj.cells.injEq] at this;exact absurd this.2.1 (by decide)
theorem Tryz.infoI12 : (Tryz.prog.info? 3).map (fun i => (i.zero,i.size,i.bytes)) = some (some (.int .i64 0),1,8) := by kernel_rfl
theorem zkB (w : World) {ops : Array Oper} {rest : List Oper} {o : Oper} {a : Act} {Q : Exit → Act → World → Prop}
  (hgd : o.guard = none) (s x : Operand) (hop : o.op = .call { callee := .builtin .append,args := #[s,x],argTypes := #[32,32] })
  (B B' c n : Nat) (v lv : Value) (pv gs : List Nat) (m : List (List Int)) (sb t : Nat) (Ls : List Value) (w0 : World) (hs : a.eval s = v) (hP : Pvs B' w v pv) (gx : Nat) (hx : a.eval x = .slice (some ⟨gx,0,none⟩) 1 1) (hc : w.cell? ⟨gx,0,none⟩ = some (.int .i64 (t : Int))) (hlen : pv.length ≤ 1000000000) (hBs : B' ≤ w.heap.size)
  (hL : Lns B w lv n gs m) (hS : Cel w sb 54 Ls) (hG : Bk B w0 w) (hBB : B ≤ B') (hBw : B ≤ w.heap.size) (hB0 : w0.heap.size ≤ B')
  (hK : ∀ a' cap' w',Hid (Pvs B' w' (.slice a' (pv.length + 1) cap') (pv ++ [t])) → Hid (Lns B w' lv n gs m) → Hid (Cel w' sb 54 Ls) → Hid (Bk B w0 w') → wpList Tryz.prog ops Q rest (a.put o.dst (.slice a' (pv.length + 1) cap')) w') :
  wpList Tryz.prog ops Q (o :: rest) a w := by
 obtain ⟨i,hi,hz,hsz,hby⟩ := info_parts Tryz.infoI12;refine wpList_append_lies w hgd s x 32 hop B' 3 i (.int .i64 0) 1 8 Tryz.underlying32 hi hz hsz hby rfl (by omega) v pv.length _ hs hP ⟨gx,0,none⟩ 1 1 [.int .i64 (t : Int)] hx rfl ?_ ?_ (by omega) (by unfold maxLen;omega) (by omega) hBs w.heap.size rfl ?_
 ·intro j u' hj
  match j,hj with
  | 0,hj => simp at hj;subst hj;rw [zMB];exact hc
 ·intro u' hu'
  simp at hu';subst hu'
  rfl
 ·intro g' cap' w' k1 k2 k3 k4
  refine hK _ _ w' ?_ (hL.grown hP k2) (zOC hS hP k2 (by decide)) ⟨hG.1.trans ?_,fun b T L hc h1 h2 => ?_⟩
  ·unfold Hid Pvs
   rw [List.length_append,List.length_cons,List.length_nil,List.map_append];exact k1
  ·refine ⟨k2.os,k2.tape,k2.output,k2.size,fun k hk => k2.block k (by omega) (fun e => ?_)⟩
   obtain ⟨_,⟨q,_⟩ | ⟨g1,cap1,cur,q,q3,_⟩⟩ := hP
   ·rw [q] at e;cases e
   ·rw [q] at e
    obtain rfl : k = g1 := by simpa [Value.ownBlock] using e
    omega
  ·have hb := hG.2 b T L hc h1 h2
   refine (k2.block b hb.blk fun e => ?_).trans hb;have hbl := hc.blk;obtain ⟨_,⟨q,_⟩ | ⟨g1,cap1,cur,q,q3,_⟩⟩ := hP
   ·rw [q] at e;cases e
   ·rw [q] at e
    obtain rfl : b = g1 := by simpa [Value.ownBlock] using e
    omega
theorem zSF (a : Option Addr) (r cap top : Nat) (h : top ≤ r) (h1 : r ≤ cap) (ha : (a = none ∧ r = 0 ∧ cap = 0) ∨ ∃ L,a = some ⟨L,0,none⟩) : ∃ a2 cap2,(∀ wx,(Instr.slice 52 (.slice a r cap) (some (.int .i64 (top : Int))) none none).run Tryz.prog wx = .ok (.slice a2 (r - top) cap2) wx) ∧ r - top ≤ cap2 ∧ (0 < r - top → ∃ L,a = some ⟨L,0,none⟩ ∧ a2 = some ⟨L,top,none⟩) := by
 rcases ha with ⟨rfl,rfl,rfl⟩ | ⟨L,rfl⟩
 ·obtain rfl : top = 0 := by omega
  refine ⟨none,0,fun wx => ?_,by omega,fun z => by omega⟩;go_simp
 ·have i1 : (0 : Int) ≤ (top : Int) := by omega
  have i2 : (top : Int) ≤ (r : Int) := by omega
  have i3 : (r : Int) ≤ (cap : Int) := by omega
  by_cases q : cap = top
  ·obtain rfl : r = top := by omega
   subst q;refine ⟨some ⟨L,0,none⟩,0,fun wx => ?_,by omega,fun z => by omega⟩;go_simp
  ·refine ⟨some ⟨L,top,none⟩,cap - top,fun wx => ?_,by omega,fun _ => ⟨L,rfl,rfl⟩⟩
   go_simp
theorem Lns.form2 {B c : Nat} {w : World} {lv : Value} {gs : List Nat} {m : List (List Int)} (h : Lns B w lv c gs m) : ∃ a cap,lv = .slice a m.length cap ∧ m.length ≤ cap ∧ ((a = none ∧ m.length = 0 ∧ cap = 0) ∨ ∃ L,a = some ⟨L,0,none⟩) := by
 obtain ⟨⟨q1,⟨q2,q3⟩ | ⟨g,cap,cur,q2,q3,q4,q5,q6⟩⟩,h2,h3,h4,h5,h6⟩ := h
 ·exact ⟨none,0,by rw [q2,← h3,q3],by omega,.inl ⟨rfl,by omega,rfl⟩⟩
 ·exact ⟨_,cap,by rw [q2,← h3],by omega,.inr ⟨g,rfl⟩⟩
theorem Lns.base {B c L cap n : Nat} {w : World} {gs : List Nat} {m : List (List Int)} (h : Lns B w (.slice (some ⟨L,0,none⟩) n cap) c gs m) : B ≤ L := by
 obtain ⟨⟨q1,⟨q2,q3⟩ | ⟨g,cap,cur,q2,q3,q4,q5,q6⟩⟩,h2,h3,h4,h5,h6⟩ := h
 ·cases q2
 ·simp only [Value.slice.injEq,Option.some.injEq,Addr.mk.injEq,and_true] at q2
  obtain ⟨rfl,-,-⟩ := q2;exact q3
theorem zUF (m : List (List Int)) (top j : Nat) : rowE (m.drop top) j = rowE m (top + j) := by simp [rowE]
def RedH (B : Nat) (w : World) (p n r : Nat) (lv : Value) (m : List (List Int)) (gk : Nat) (s2 s3 s11 : Value) (wx : World) : Prop :=
 ∃ (c : Nat) (gs : List Nat),s11 = .int .i64 (c : Int) ∧ c ≤ n ∧ gk = n - c ∧ Pvs (w.heap.size + 1) wx s2 (zXA p m c).pv ∧ s3 = .int .u64 (zXA p m c).f ∧ Lns B wx lv n gs (zXA p m c).m ∧ Cel wx w.heap.size 54 (shc p n lv) ∧ Bk B w wx
def ClrH (B : Nat) (w : World) (p n r : Nat) (lv : Value) (pvv : Value) (pv : List Nat) (cb c top : Nat) (rt : List Int) (gs : List Nat) (m2 : List (List Int)) (gk : Nat) (s : Value) (wx : World) : Prop :=
 ∃ i : Nat,s = .int .i64 (i : Int) ∧ i ≤ r ∧ gk = r - i ∧ Pvs (w.heap.size + 1) wx pvv pv ∧ Lns B wx lv n gs (clr p c top rt m2 i) ∧ Cel wx w.heap.size 54 (shc p n lv) ∧ Cel wx cb 3 [.int .i64 (c : Int)] ∧ Bk B w wx
def zxH (B : Nat) (w : World) (p n : Nat) (lv : Value) (m : List (List Int)) (e : Ending) (w' : World) : Prop :=
 ∃ pvv gs,e = .returned (.tuple #[pvv,.int .u64 (zXA p m n).f]) ∧ Pvs (w.heap.size + 1) w' pvv (zXA p m n).pv ∧ Lns B w' lv n gs (zXA p m n).m ∧ Bk B w w'
theorem zfD {w : World} {B p n r : Nat} {lv : Value} {gs0 : List Nat} {m : List (List Int)} (hp : 2 ≤ p) (hp2 : p < 2147483648) (hL : Lns B w lv n gs0 m) (hR : ResM p m) (hr : m.length = r) (hr2 : r ≤ 64) (hn : n ≤ 1048576) (hB : B ≤ w.heap.size) :
  Calls Tryz.prog 34 #[shv p n lv] w (zxH B w p n lv m) := by
 have OK : Hid (∀ c,Ok12 p n c r (zXA p m c)) := fun c => Ok12.red hp hL.2.2.2.2.1 hR hr c
 obtain ⟨a,cap,rfl,hcap,ha⟩ := hL.form2;rw [hr] at hL hcap ha ⊢;obtain ⟨W0,hW⟩ : ∃ W0,w.alloc (shO p n (.slice a r cap)) = W0 := ⟨_,rfl⟩
 obtain ⟨b0,sz0⟩ := zVA w (shO p n (.slice a r cap));rw [hW] at b0 sz0;have PS0 : Hid (Cel W0 w.heap.size 54 (shc p n (.slice a r cap))) := by unfold Hid;rw [← hW];exact Cel.new w _ _
 have H0 : Hid (RedH B w p n r (.slice a r cap) m n (.slice none 0 0) (.int .u64 1) (.int .i64 0) W0) :=
  ⟨0,gs0,rfl,Nat.zero_le _,rfl,Pvs.nil _ _,rfl,hL.now b0,PS0.out,Bk.of b0 hB⟩
 have x1 := PS0.out.at (i := 1) rfl;rw [← hW] at x1;have EW := hid hW;have HA := hid ha;have HB := hid hB;clear b0 sz0 hW hL hR hr ha hB PS0;go_enter Tryz.func34,Tryz.ntmps34;go_wp2_with fail;rw [EW.out];clear EW x1
 go_loopg [2,3,11] n (fun gk s2 s3 s11 wx => RedH B w p n r (.slice a r cap) m gk s2 s3 s11 wx)
 case atStart => exact H0.out
 case round =>
  clear H0;obtain ⟨c,gs,rfl,hcn,hgk,hpv,rfl,hln,hps,hG⟩ := hrel;have O := OK.out c;have STP : Hid (zXA p m (c + 1) = zZB p c (zXA p m c)) := rfl;obtain ⟨st,hst⟩ : ∃ st,zXA p m c = st := ⟨_,rfl⟩
  rw [hst] at hpv hln O STP ⊢;have HST := hid hst;have HG := hid hgk;clear hst hgk;obtain ⟨M,pv,f⟩ := st;dsimp only at hpv hln ⊢;have ON := hid O;have hML : M.length = r := O.len;have hpl : pv.length ≤ r := O.piv;have hpw : pv.length ≤ 64 := by omega
  have hfr : IsR p f := O.fac;obtain ⟨pa,pcap,rfl,hpcap⟩ := hpv.form;have OP := hid hpv;have LN := hid hln;have PS := hid hps;have G := hid hG;clear O hpv hln hps hG;obtain ⟨top,htop⟩ : ∃ top,pv.length = top := ⟨_,rfl⟩
  rw [htop] at hpl hpw hpcap OP ⊢;have HT := hid htop;clear htop
  by_cases hlt : c < n
  ·have hlt' : (c : Int) < (n : Int) := by omega
   obtain ⟨X1,hX1⟩ : ∃ X1,wr.alloc (.cells #[.int .i64 (c : Int)] 3) = X1 := ⟨_,rfl⟩
   obtain ⟨bX,szX⟩ := zVA wr (.cells #[.int .i64 (c : Int)] 3);rw [hX1] at bX szX;have PC : Hid (Cel X1 wr.heap.size 3 [.int .i64 (c : Int)]) := by unfold Hid;rw [← hX1];exact Cel.new wr _ _
   replace OP := hid (OP.out.now bX);replace LN := hid (LN.out.now bX);have hsz := PS.out.blk;replace PS := hid (PS.out.step bX);have GX := hid (G.out.step bX (by have := HB.out;omega));have HBX : Hid (B ≤ X1.heap.size) := by unfold Hid;have := HB.out;omega
   have HCB : Hid (w.heap.size + 1 ≤ wr.heap.size) := by unfold Hid;omega
   obtain ⟨a2,cap2,hs,hcap2,ha2⟩ := zSF a r cap top hpl hcap HA.out;have s2 := PS.out.at (i := 2) rfl;have c0 := PC.out.at (i := 0) rfl;have HI := hid (index12 (w := X1) (cb := wr.heap.size) (n := n) (c := c) (l := r - top) (cap := cap2) (a := a2) (ls := M.drop top) c0 hlt (by rw [List.length_drop,hML]) (by omega) hcap2 (fun hpos => by
    obtain ⟨L,e1,e2⟩ := ha2 hpos;subst e1;refine ⟨L,top,e2,fun j hj => ?_⟩;obtain ⟨g,q1,q2,q3,q4⟩ := LN.out.blk (i := top + j) (by omega);rw [zUF];exact ⟨g,(LN.out.line q1).1,q3,q4⟩))
   have HA2 := hid ha2;have s2' := s2;rw [← hX1] at s2;have hw := znD hlt hn;have EX := hid hX1;have HML := hid hML;clear bX szX hX1 ha2 hcap2 hsz hML c0;go_wp2_with fail;rw [EX.out];clear s2 EX G;refine HI.out.mono ?_;rintro e w1 ⟨⟨q,rfl,hq⟩,hw1⟩;have hw1' := hw1.symm;subst hw1';clear hw1 HI;have HMM : Hid (n - (c + 1) < gk) := by unfold Hid;rw [HG.out];omega
   generalize wr.heap.size = cb at *;rcases hq with ⟨rfl,hz⟩ | ⟨k,rfl,hk,hk0,hk1⟩
   ·have HN1 : Hid (∀ s2v,s2v = (.slice pa top pcap) → RedH B w p n r (.slice a r cap) m (n - (c + 1)) s2v (.int .u64 f) (.int .i64 ((c + 1 : Nat) : Int)) X1) := fun s2v e => by
     have e1 := STP.out;rw [step12_none (s := ⟨M,pv,f⟩) (by dsimp only;rw [HT.out];exact hz)] at e1;subst e;refine ⟨c + 1,gs,rfl,by omega,rfl,?_,?_,?_,PS.out,GX.out⟩
     ·rw [e1];exact OP.out
     ·rw [e1]
     ·rw [e1];exact LN.out
    clear hz OP LN PS GX HBX HCB PC HG s2' hs STP ON HA2 HML HST;go_wp2_with fail;go_roundg (n - (c + 1))
    case rel => exact HN1.out _ rfl
    case measure => exact HMM.out
   ·obtain ⟨L,ea,ea2⟩ := HA2.out (by omega)
    subst ea ea2;have HK0 : Hid (∀ j (h : j < k) (h' : j < (M.drop pv.length).length),((M.drop pv.length)[j]).getD c 0 = 0) := fun j h h' => by
     have := hk0 j h;rw [zPB (by rw [← HT.out];exact h')] at this;simp only [HT.out];exact this
    have HK1 : Hid (∀ (h : k < (M.drop pv.length).length),((M.drop pv.length)[k]).getD c 0 ≠ 0) := fun h => by
     rw [zPB (by rw [← HT.out];exact h)] at hk1;simp only [HT.out];exact hk1
    have hkr : top + k < r := by omega
    have HKN : Hid (ent M (top + k) c ≠ 0) := by unfold Hid ent;rw [← zUF];exact hk1
    obtain ⟨ga,qa1,qa2,qa3,qa4⟩ := LN.out.blk (i := top) (by have := HML.out;omega);obtain ⟨gb,qb1,qb2,qb3,qb4⟩ := LN.out.blk (i := top + k) (by have := HML.out;omega);have la := LN.out.line qa1;have lb := LN.out.line qb1;have hm1 : ¬ ((k : Int) < 0) := by omega
    clear hk0 hk1 hk HA2 hs
    by_cases hkp : 0 < k
    ·have hkp' : (0 : Int) < (k : Int) := by omega
     have htk : IntKind.i64.wrap ((top : Int) + (k : Int)) = ((top + k : Nat) : Int) := by rw [zRA] <;> omega
     have ht1 : (top : Int) < (r : Int) := by omega
     have ht2 : ((top + k : Nat) : Int) < (r : Int) := by omega
     have s2 := s2';have la1 := la.1;have la2 := la.2;have lb1 := lb.1;have lb2 := lb.2;have OWN := hid LN.out.own;have HBL := hid LN.out.base;obtain ⟨wS,hS⟩ : ∃ wS,(X1.setCell ⟨L,top,none⟩ (rowv n gb)).setCell ⟨L,top + k,none⟩ (rowv n ga) = wS := ⟨_,rfl⟩
     have SWP := LN.out;rw [← HML.out] at SWP;have sw := SWP.swap qa1 qb1;rw [hS,HML.out] at sw;clear SWP;obtain ⟨sw1,sw2⟩ := sw;obtain ⟨tk,htk2⟩ : ∃ tk,top + k = tk := ⟨_,rfl⟩
     rw [htk2] at htk ht2 lb1 lb2 hS sw1;obtain ⟨gs1,hgs1⟩ : ∃ gs1,(gs.set top gb).set tk ga = gs1 := ⟨_,rfl⟩
     obtain ⟨M1,hM1⟩ : ∃ M1,swE M top tk = M1 := ⟨_,rfl⟩
     rw [hgs1,hM1] at sw1;obtain ⟨ML,hML2⟩ := OWN.out;have LNS := hid sw1;have PSS := hid (PS.out.touch (show Cel X1 L 42 ML.toList from by unfold Cel;simpa using hML2) (by decide) sw2);have PCS := hid (PC.out.touch (show Cel X1 L 42 ML.toList from by unfold Cel;simpa using hML2) (by decide) sw2);have OPS := hid (OP.out.touch (show Cel X1 L 42 ML.toList from by unfold Cel;simpa using hML2) (by decide) sw2);have GXS := hid (Bk.touch GX.out sw2 (show Cel X1 L 42 ML.toList from by unfold Cel;simpa using hML2) (.inr rfl) HBL.out HBX.out);have HBS : Hid (B ≤ wS.heap.size) := by unfold Hid;have := HBX.out;have := sw2.size;omega
     have EM1 : Hid (swE M top (top + k) = M1) := by unfold Hid;rw [htk2];exact hM1
     have HM1 : Hid (M1.length = r) := by unfold Hid;rw [← hM1];simp [swE];exact HML.out
     have RM1 : Hid (ResM p M1) := by unfold Hid;rw [← hM1];exact zwF ON.out.res
     have hne : top ≠ tk := by omega
     have lb3 : (X1.setCell ⟨L,top,none⟩ (rowv n gb)).cell? ⟨L,tk,none⟩ = some (rowv n gb) := by rw [World.cell?_setCell_other _ _ _ _ (by simp)];exact lb1
     have lb4 : (X1.setCell ⟨L,top,none⟩ (rowv n gb)).frozen? ⟨L,tk,none⟩ = false := by rw [World.frozen?_setCell];exact lb2
     have hLne : L ≠ w.heap.size := fun e => by
      have h1 := (show X1.heap[w.heap.size]? = _ from PS.out)
      rw [← e,hML2] at h1;simp at h1
     have s3 : (X1.setCell ⟨L,top,none⟩ (rowv n gb)).cell? ⟨w.heap.size,2,none⟩ = some (.slice (some ⟨L,0,none⟩) r cap) := by rw [World.cell?_setCell_other _ _ _ _ (by simp)];exact s2
     have HS := hid hS;clear hne hLne LN PS PC OP GX HBX OWN HBL hML2 sw1 sw2 hgs1 hM1 qa1 qa2 qa3 qa4 qb1 qb2 qb3 qb4 la lb s2' hS htk2;go_wp2_with fail;go_region
     as_aux_lemma =>
     rw [HS.out];obtain ⟨wD,hD⟩ : ∃ wD,wS.drew = wD := ⟨_,rfl⟩
     have GD : Hid (Below wS.heap.size wS wD) := by unfold Hid;rw [← hD];exact (Below.refl _ _).drew
     rw [hD];have PSD := hid (PSS.out.step GD.out);have z0 := PSD.out.at (i := 0) rfl;have z1 := PSD.out.at (i := 1) rfl;have z2 := PSD.out.at (i := 2) rfl;have HMN := hid (zdH (w := wD) (c := n) (a := some ⟨L,0,none⟩) (l := r) (k := cap) hp hp2 hfr);clear hD HS s2 la1 la2 lb1 lb2 lb3 lb4 s3 ht1 ht2 htk;go_wp2_with fail;refine HMN.out.mono ?_;rintro e wT ⟨rfl,bT⟩;obtain ⟨f1,hf1⟩ : ∃ f1,((p : Int) - f) % (p : Int) = f1 := ⟨_,rfl⟩
     have EF1 := hid hf1;have RF1 : Hid (IsR p f1) := by unfold Hid;rw [← hf1];exact zxB (by omega) _
     rw [hf1];have bST := hid (below_step GD.out bT);have LN := hid (LNS.out.now bST.out);have PS := hid (PSS.out.step bST.out);have PC := hid (PCS.out.step bST.out);have OP := hid (OPS.out.now bST.out);have GX := hid (GXS.out.step bST.out HBS.out);have HBX : Hid (B ≤ wT.heap.size) := by unfold Hid;have := HBS.out;have := bST.out.size;omega
     clear hf1 HMN bT GD PSD z0 z1 z2 LNS PSS PCS OPS GXS HBS bST;obtain ⟨gt,qt1,qt2,qt3,qt4⟩ := LN.out.blk (i := top) (by rw [HM1.out];omega);have lt1 := LN.out.line qt1;obtain ⟨x,hx⟩ : ∃ x,ent M1 top c = x := ⟨_,rfl⟩
     have rx := (RM1.out.at top).getD (by omega) c;have ex : (rowE M1 top).getD c 0 = x := hx;rw [ex] at rx;have xc := (Row.nil12.2 qt3).at12 (i := c) (by rw [qt4];exact hlt);have ex2 : (rowE M1 top)[c]'(by rw [qt4];exact hlt) = x := by rw [← ex];simp [show c < (rowE M1 top).length by rw [qt4];exact hlt]
     rw [ex2] at xc;have s0 := PS.out.at (i := 0) rfl;have s1 := PS.out.at (i := 1) rfl;have s2 := PS.out.at (i := 2) rfl;have c0 := PC.out.at (i := 0) rfl;have l1 := lt1.1;have ux := zXE hp2 RF1.out rx;have nx := (zzC hp2 RF1.out rx).1;obtain ⟨fx,hfx⟩ : ∃ fx,f1 * x = fx := ⟨_,rfl⟩
     rw [hfx] at ux nx;have ux' : IntKind.u64.wrap (f1 * x) = fx := by rw [hfx];exact ux
     have tx : fx.tmod (p : Int) = fx % (p : Int) := zMH nx;obtain ⟨f2,hf2⟩ : ∃ f2,fx % (p : Int) = f2 := ⟨_,rfl⟩
     rw [hf2] at tx;have hp0 : ¬ (p : Int) = 0 := by omega
     have hp00 : ¬ p = 0 := by omega
     have hct : (c : Int) < (n : Int) := by omega
     have htt : (top : Int) < (r : Int) := by omega
     have HX := hid hx;have HFX := hid hfx;have HF2 := hid hf2;have ROWT := hid qt3;clear hx ex ex2 qt3 ux nx hfx hf2 lt1;go_wp2_with fail;have KB : Hid (∀ w',Below wT.heap.size wT w' → w'.cell? ⟨w.heap.size,0,none⟩ = some (.int .u64 (p : Int)) ∧ w'.cell? ⟨w.heap.size,1,none⟩ = some (.int .i64 (n : Int)) ∧ w'.cell? ⟨w.heap.size,2,none⟩ = some (.slice (some ⟨L,0,none⟩) r cap) ∧ w'.cell? ⟨cb,0,none⟩ = some (.int .i64 (c : Int)) ∧ w'.cell? ⟨L,top,none⟩ = some (rowv n gt) ∧ w'.cell? ⟨gt,c,none⟩ = some (.int .u64 x)) := fun w' h => ⟨cnow h s0,cnow h s1,cnow h s2,cnow h c0,cnow h l1,cnow h xc⟩
     refine zDA (fun w' => w'.cell? ⟨w.heap.size,0,none⟩ = some (.int .u64 (p : Int)) ∧ w'.cell? ⟨w.heap.size,1,none⟩ = some (.int .i64 (n : Int)) ∧ w'.cell? ⟨w.heap.size,2,none⟩ = some (.slice (some ⟨L,0,none⟩) r cap) ∧ w'.cell? ⟨cb,0,none⟩ = some (.int .i64 (c : Int)) ∧ w'.cell? ⟨L,top,none⟩ = some (rowv n gt) ∧ w'.cell? ⟨gt,c,none⟩ = some (.int .u64 x)) 13 (by kernel_rfl) ?_;obtain ⟨D1,hD⟩ : ∃ D1,wT.drew = D1 := ⟨_,rfl⟩
     have GB : Hid (Below wT.heap.size wT D1) := by unfold Hid;rw [← hD];exact (Below.refl _ _).drew
     rw [hD];clear hD;refine zAA (i := 0) (oi := ⟨some 51,.move (.tmp 3),25, "sheet.go:86",#[],none⟩) (v := (.int .u64 f1)) rfl (by kernel_rfl) (fun _ _ _ h => h) (Or.inl ⟨by rfl,?_⟩) (KB.out _ GB.out) ?_
     ·intro w hSw;(try dsimp only at hSw);go_simp
     simp only [Act.put,sIb,sC0,sC1];refine zAA (i := 1) (oi := ⟨some 52,.fieldAddr 54 (.tmp 1) 2,0, "sheet.go:86",#[],none⟩) (v := (.pointer (some ⟨w.heap.size,2,none⟩))) rfl (by kernel_rfl) (fun _ _ _ h => h) (Or.inl ⟨by rfl,?_⟩) (KB.out _ GB.out) ?_
     ·intro w hSw;(try dsimp only at hSw);go_simp
     simp only [Act.put,sIb,sC0,sC1];refine zAA (i := 2) (oi := ⟨some 53,.load 52 (.tmp 52),52, "sheet.go:86",#[⟨1,.data⟩],none⟩) (v := (.slice (some ⟨L,0,none⟩) r cap)) rfl (by kernel_rfl) (fun _ _ _ h => h) (Or.inl ⟨by rfl,?_⟩) (KB.out _ GB.out) ?_
     ·intro w hSw;(try dsimp only at hSw);go_simp
     simp only [Act.put,sIb,sC0,sC1];refine zAA (i := 3) (oi := ⟨some 54,.move (.tmp 5),3, "sheet.go:86",#[],none⟩) (v := (.int .i64 (top : Int))) rfl (by kernel_rfl) (fun _ _ _ h => h) (Or.inl ⟨by rfl,?_⟩) (KB.out _ GB.out) ?_
     ·intro w hSw;(try dsimp only at hSw);go_simp
     simp only [Act.put,sIb,sC0,sC1];refine zAA (i := 4) (oi := ⟨some 55,.indexAddr 52 (.tmp 53) (.tmp 54),0, "sheet.go:86",#[⟨2,.data⟩,⟨3,.data⟩],none⟩) (v := (.pointer (some ⟨L,top,none⟩))) rfl (by kernel_rfl) (fun _ _ _ h => h) (Or.inl ⟨by rfl,?_⟩) (KB.out _ GB.out) ?_
     ·intro w hSw;(try dsimp only at hSw);go_simp
     simp only [Act.put,sIb,sC0,sC1];refine zAA (i := 5) (oi := ⟨some 56,.load 42 (.tmp 55),42, "sheet.go:86",#[⟨4,.data⟩],none⟩) (v := (rowv n gt)) rfl (by kernel_rfl) (fun _ _ _ h => h) (Or.inl ⟨by rfl,?_⟩) (KB.out _ GB.out) ?_
     ·intro w hSw;(try dsimp only at hSw);go_simp
     simp only [Act.put,sIb,sC0,sC1];refine zAA (i := 6) (oi := ⟨some 57,.load 3 (.tmp 4),3, "sheet.go:86",#[],none⟩) (v := (.int .i64 (c : Int))) rfl (by kernel_rfl) (fun _ _ _ h => h) (Or.inl ⟨by rfl,?_⟩) (KB.out _ GB.out) ?_
     ·intro w hSw;(try dsimp only at hSw);go_simp
     simp only [Act.put,sIb,sC0,sC1];refine zAA (i := 7) (oi := ⟨some 58,.indexAddr 42 (.tmp 56) (.tmp 57),0, "sheet.go:86",#[⟨5,.data⟩,⟨6,.data⟩],none⟩) (v := (.pointer (some ⟨gt,c,none⟩))) rfl (by kernel_rfl) (fun _ _ _ h => h) (Or.inl ⟨by rfl,?_⟩) (KB.out _ GB.out) ?_
     ·intro w hSw;(try dsimp only at hSw);go_simp
     simp only [Act.put,sIb,sC0,sC1];refine zAA (i := 8) (oi := ⟨some 59,.load 25 (.tmp 58),25, "sheet.go:86",#[⟨7,.data⟩],none⟩) (v := (.int .u64 x)) rfl (by kernel_rfl) (fun _ _ _ h => h) (Or.inl ⟨by rfl,?_⟩) (KB.out _ GB.out) ?_
     ·intro w hSw;(try dsimp only at hSw);go_simp
     simp only [Act.put,sIb,sC0,sC1];refine zAA (i := 9) (oi := ⟨some 60,.binOp .mul 25 (.tmp 51) (.tmp 59) 25,25, "sheet.go:86",#[⟨0,.data⟩,⟨8,.data⟩],none⟩) (v := (.int .u64 fx)) rfl (by kernel_rfl) (fun _ _ _ h => h) (Or.inl ⟨by rfl,?_⟩) (KB.out _ GB.out) ?_
     ·intro w hSw;(try dsimp only at hSw);go_simp
     simp only [Act.put,sIb,sC0,sC1];refine zAA (i := 10) (oi := ⟨some 61,.fieldAddr 54 (.tmp 1) 0,0, "sheet.go:86",#[],none⟩) (v := (.pointer (some ⟨w.heap.size,0,none⟩))) rfl (by kernel_rfl) (fun _ _ _ h => h) (Or.inl ⟨by rfl,?_⟩) (KB.out _ GB.out) ?_
     ·intro w hSw;(try dsimp only at hSw);go_simp
     simp only [Act.put,sIb,sC0,sC1];refine zAA (i := 11) (oi := ⟨some 62,.load 25 (.tmp 61),25, "sheet.go:86",#[⟨10,.data⟩],none⟩) (v := (.int .u64 (p : Int))) rfl (by kernel_rfl) (fun _ _ _ h => h) (Or.inl ⟨by rfl,?_⟩) (KB.out _ GB.out) ?_
     ·intro w hSw;(try dsimp only at hSw);go_simp
     simp only [Act.put,sIb,sC0,sC1];refine zAA (i := 12) (oi := ⟨some 63,.binOp .rem 25 (.tmp 60) (.tmp 62) 25,25, "sheet.go:86",#[⟨9,.data⟩,⟨11,.data⟩],none⟩) (v := (.int .u64 f2)) rfl (by kernel_rfl) (fun _ _ _ h => h) (Or.inl ⟨by rfl,?_⟩) (KB.out _ GB.out) ?_
     ·intro w hSw;(try dsimp only at hSw);go_simp
     simp only [Act.put,sIb,sC0,sC1];refine zCA (i := 13) (o := ⟨some 3,.assign (.tmp 63),25, "sheet.go:86",#[⟨12,.data⟩,⟨0,.phase⟩,⟨1,.phase⟩,⟨2,.phase⟩,⟨3,.phase⟩,⟨4,.phase⟩,⟨5,.phase⟩,⟨6,.phase⟩,⟨7,.phase⟩,⟨8,.phase⟩,⟨9,.phase⟩,⟨10,.phase⟩,⟨11,.phase⟩,⟨12,.phase⟩],none⟩) (by kernel_rfl) rfl (fun K hK => ?_);go_simp;refine hK.out _ _ (fun h => absurd h (by decide)) ?_;clear hK
     try simp only [Act.put]
     refine zFA (by kernel_rfl) ?_ _;replace OP := hid (OP.out.now GB.out);replace LN := hid (LN.out.now GB.out);replace PS := hid (PS.out.step GB.out);replace PC := hid (PC.out.step GB.out);replace GX := hid (GX.out.step GB.out HBX.out);replace HBX : Hid (B ≤ D1.heap.size) := by unfold Hid;have := HBX.out;have := GB.out.size;omega
     replace ROWT := hid (ROWT.out.stay GB.out);replace s0 := cnow GB.out s0;replace s1 := cnow GB.out s1;replace s2 := cnow GB.out s2;replace c0 := cnow GB.out c0;replace l1 := cnow GB.out l1;replace xc := cnow GB.out xc;clear GB KB;go_wp2_with fail;have KB : Hid (∀ w',Below D1.heap.size D1 w' → w'.cell? ⟨w.heap.size,0,none⟩ = some (.int .u64 (p : Int)) ∧ w'.cell? ⟨w.heap.size,1,none⟩ = some (.int .i64 (n : Int)) ∧ w'.cell? ⟨w.heap.size,2,none⟩ = some (.slice (some ⟨L,0,none⟩) r cap) ∧ w'.cell? ⟨cb,0,none⟩ = some (.int .i64 (c : Int)) ∧ w'.cell? ⟨L,top,none⟩ = some (rowv n gt) ∧ w'.cell? ⟨gt,c,none⟩ = some (.int .u64 x)) := fun w' h => ⟨cnow h s0,cnow h s1,cnow h s2,cnow h c0,cnow h l1,cnow h xc⟩
     refine zDA (fun w' => w'.cell? ⟨w.heap.size,0,none⟩ = some (.int .u64 (p : Int)) ∧ w'.cell? ⟨w.heap.size,1,none⟩ = some (.int .i64 (n : Int)) ∧ w'.cell? ⟨w.heap.size,2,none⟩ = some (.slice (some ⟨L,0,none⟩) r cap) ∧ w'.cell? ⟨cb,0,none⟩ = some (.int .i64 (c : Int)) ∧ w'.cell? ⟨L,top,none⟩ = some (rowv n gt) ∧ w'.cell? ⟨gt,c,none⟩ = some (.int .u64 x)) 14 (by kernel_rfl) ?_;obtain ⟨D2,hD⟩ : ∃ D2,D1.drew = D2 := ⟨_,rfl⟩
     have GB : Hid (Below D1.heap.size D1 D2) := by unfold Hid;rw [← hD];exact (Below.refl _ _).drew
     rw [hD];clear hD;refine zAA (i := 0) (oi := ⟨some 64,.load 54 (.tmp 1),54, "sheet.go:87",#[],none⟩) (v := (.agg #[.int .u64 (p : Int),.int .i64 (n : Int),(.slice (some ⟨L,0,none⟩) r cap)])) rfl (by kernel_rfl) (fun _ _ _ h => h) (Or.inl ⟨by rfl,?_⟩) (KB.out _ GB.out) ?_
     ·intro w hSw;(try dsimp only at hSw);go_simp
     simp only [Act.put,sIb,sC0,sC1];refine zAA (i := 1) (oi := ⟨some 65,.fieldAddr 54 (.tmp 1) 2,0, "sheet.go:87",#[],none⟩) (v := (.pointer (some ⟨w.heap.size,2,none⟩))) rfl (by kernel_rfl) (fun _ _ _ h => h) (Or.inl ⟨by rfl,?_⟩) (KB.out _ GB.out) ?_
     ·intro w hSw;(try dsimp only at hSw);go_simp
     simp only [Act.put,sIb,sC0,sC1];refine zAA (i := 2) (oi := ⟨some 66,.load 52 (.tmp 65),52, "sheet.go:87",#[⟨1,.data⟩],none⟩) (v := (.slice (some ⟨L,0,none⟩) r cap)) rfl (by kernel_rfl) (fun _ _ _ h => h) (Or.inl ⟨by rfl,?_⟩) (KB.out _ GB.out) ?_
     ·intro w hSw;(try dsimp only at hSw);go_simp
     simp only [Act.put,sIb,sC0,sC1];refine zAA (i := 3) (oi := ⟨some 67,.move (.tmp 5),3, "sheet.go:87",#[],none⟩) (v := (.int .i64 (top : Int))) rfl (by kernel_rfl) (fun _ _ _ h => h) (Or.inl ⟨by rfl,?_⟩) (KB.out _ GB.out) ?_
     ·intro w hSw;(try dsimp only at hSw);go_simp
     simp only [Act.put,sIb,sC0,sC1];refine zAA (i := 4) (oi := ⟨some 68,.indexAddr 52 (.tmp 66) (.tmp 67),0, "sheet.go:87",#[⟨2,.data⟩,⟨3,.data⟩],none⟩) (v := (.pointer (some ⟨L,top,none⟩))) rfl (by kernel_rfl) (fun _ _ _ h => h) (Or.inl ⟨by rfl,?_⟩) (KB.out _ GB.out) ?_
     ·intro w hSw;(try dsimp only at hSw);go_simp
     simp only [Act.put,sIb,sC0,sC1];refine zAA (i := 5) (oi := ⟨some 69,.load 42 (.tmp 68),42, "sheet.go:87",#[⟨4,.data⟩],none⟩) (v := (rowv n gt)) rfl (by kernel_rfl) (fun _ _ _ h => h) (Or.inl ⟨by rfl,?_⟩) (KB.out _ GB.out) ?_
     ·intro w hSw;(try dsimp only at hSw);go_simp
     simp only [Act.put,sIb,sC0,sC1];refine zAA (i := 6) (oi := ⟨some 70,.fieldAddr 54 (.tmp 1) 2,0, "sheet.go:87",#[],none⟩) (v := (.pointer (some ⟨w.heap.size,2,none⟩))) rfl (by kernel_rfl) (fun _ _ _ h => h) (Or.inl ⟨by rfl,?_⟩) (KB.out _ GB.out) ?_
     ·intro w hSw;(try dsimp only at hSw);go_simp
     simp only [Act.put,sIb,sC0,sC1];refine zAA (i := 7) (oi := ⟨some 71,.load 52 (.tmp 70),52, "sheet.go:87",#[⟨6,.data⟩],none⟩) (v := (.slice (some ⟨L,0,none⟩) r cap)) rfl (by kernel_rfl) (fun _ _ _ h => h) (Or.inl ⟨by rfl,?_⟩) (KB.out _ GB.out) ?_
     ·intro w hSw;(try dsimp only at hSw);go_simp
     simp only [Act.put,sIb,sC0,sC1];refine zAA (i := 8) (oi := ⟨some 72,.move (.tmp 5),3, "sheet.go:87",#[],none⟩) (v := (.int .i64 (top : Int))) rfl (by kernel_rfl) (fun _ _ _ h => h) (Or.inl ⟨by rfl,?_⟩) (KB.out _ GB.out) ?_
     ·intro w hSw;(try dsimp only at hSw);go_simp
     simp only [Act.put,sIb,sC0,sC1];refine zAA (i := 9) (oi := ⟨some 73,.indexAddr 52 (.tmp 71) (.tmp 72),0, "sheet.go:87",#[⟨7,.data⟩,⟨8,.data⟩],none⟩) (v := (.pointer (some ⟨L,top,none⟩))) rfl (by kernel_rfl) (fun _ _ _ h => h) (Or.inl ⟨by rfl,?_⟩) (KB.out _ GB.out) ?_
     ·intro w hSw;(try dsimp only at hSw);go_simp
     simp only [Act.put,sIb,sC0,sC1];refine zAA (i := 10) (oi := ⟨some 74,.load 42 (.tmp 73),42, "sheet.go:87",#[⟨9,.data⟩],none⟩) (v := (rowv n gt)) rfl (by kernel_rfl) (fun _ _ _ h => h) (Or.inl ⟨by rfl,?_⟩) (KB.out _ GB.out) ?_
     ·intro w hSw;(try dsimp only at hSw);go_simp
     simp only [Act.put,sIb,sC0,sC1];refine zAA (i := 11) (oi := ⟨some 75,.load 3 (.tmp 4),3, "sheet.go:87",#[],none⟩) (v := (.int .i64 (c : Int))) rfl (by kernel_rfl) (fun _ _ _ h => h) (Or.inl ⟨by rfl,?_⟩) (KB.out _ GB.out) ?_
     ·intro w hSw;(try dsimp only at hSw);go_simp
     simp only [Act.put,sIb,sC0,sC1];refine zAA (i := 12) (oi := ⟨some 76,.indexAddr 42 (.tmp 74) (.tmp 75),0, "sheet.go:87",#[⟨10,.data⟩,⟨11,.data⟩],none⟩) (v := (.pointer (some ⟨gt,c,none⟩))) rfl (by kernel_rfl) (fun _ _ _ h => h) (Or.inl ⟨by rfl,?_⟩) (KB.out _ GB.out) ?_
     ·intro w hSw;(try dsimp only at hSw);go_simp
     simp only [Act.put,sIb,sC0,sC1];refine zAA (i := 13) (oi := ⟨some 77,.load 25 (.tmp 76),25, "sheet.go:87",#[⟨12,.data⟩],none⟩) (v := (.int .u64 x)) rfl (by kernel_rfl) (fun _ _ _ h => h) (Or.inl ⟨by rfl,?_⟩) (KB.out _ GB.out) ?_
     ·intro w hSw;(try dsimp only at hSw);go_simp
     simp only [Act.put,sIb,sC0,sC1];refine zCA (i := 14) (o := ⟨some 78,.call { callee := .value (.func 54),args := #[.tmp 64,.tmp 69,.tmp 77],argTypes := #[54,42,25] },0, "sheet.go:87",#[⟨0,.data⟩,⟨5,.data⟩,⟨13,.data⟩],none⟩) (by kernel_rfl) rfl (fun K hK => ?_);go_simp;go_at_call 54;refine (zAH (r := []) hp hp2 rx (RM1.out.at top) qt4 hn (Nat.le_refl _) (Row.nil12.2 (ROWT.out.stay GB.out))).mono ?_;rintro e w5 ⟨rfl,hrow,hT⟩;obtain ⟨rt,hrt⟩ : ∃ rt,dvL p x (rowE M1 top) = rt := ⟨_,rfl⟩
     rw [hrt] at hrow;have HRT := hid hrt;have hrl : rt.length = n := by rw [← hrt,zKE];exact qt4
     have rrt : Res p rt := by rw [← hrt];exact zHG (by omega) _ _
     have CG : Hid (Cel D2 gt 25 (ws (rowE M1 top))) := hid (ROWT.out.stay GB.out);replace LN := hid ((LN.out.now GB.out).put qt1 hrl (Row.nil12.1 hrow) hT);replace OP := hid ((OP.out.now GB.out).touch CG.out (by decide) hT);replace PS := hid ((PS.out.step GB.out).touch CG.out (by decide) hT);replace PC := hid ((PC.out.step GB.out).touch CG.out (by decide) hT);replace GX := hid (Bk.touch (GX.out.step GB.out HBX.out) hT CG.out (.inl rfl) qt2 (by have := HBX.out;have := GB.out.size;omega));replace HBX : Hid (B ≤ w5.heap.size) := by unfold Hid;have := HBX.out;have := GB.out.size;have := hT.size;omega
     have RRT := hid rrt;have HRL := hid hrl;clear hrt hrow hT rrt hrl CG ROWT GB KB s0 s1 s2 c0 l1 xc rx;refine hK.out _ _ (fun h => absurd h (by decide)) ?_;clear hK
     try simp only [Act.put]
     refine zFA (by kernel_rfl) ?_ _;have HM2 : Hid ((M1.set top rt).length = r) := by unfold Hid;rw [List.length_set];exact HM1.out
     have H0 : Hid (ClrH B w p n r (.slice (some ⟨L,0,none⟩) r cap) (.slice pa top pcap) pv cb c top rt gs1 (M1.set top rt) r (.int .i64 0) w5) :=
      ⟨0,rfl,Nat.zero_le _,rfl,OP.out,by rw [zBH];exact LN.out,PS.out,PC.out,GX.out⟩
     have s2 := PS.out.at (i := 2) rfl;have RM2 : Hid (ResM p (M1.set top rt)) := hid (RM1.out.set RRT.out);have WM2 : Hid (WidE n (M1.set top rt)) := hid (LN.out.2.2.2.2.1);have ET : Hid (rowE (M1.set top rt) top = rt) := by unfold Hid;rw [rowE_set (by rw [HM1.out];omega),if_pos rfl]
     have HCC : Hid (w.heap.size + 1 ≤ cb) := HCB;obtain ⟨M2,hM2⟩ : ∃ M2,M1.set top rt = M2 := ⟨_,rfl⟩
     rw [hM2] at HM2 H0 RM2 WM2 ET;have EM2 := hid hM2;clear OP LN PS PC GX HBX HCB qt1 qt2 qt4 hM2;go_wp2_with fail
     go_loopg [82] r (fun gk2 s82 wx => ClrH B w p n r (.slice (some ⟨L,0,none⟩) r cap) (.slice pa top pcap) pv cb c top rt gs1 M2 gk2 s82 wx)
     case atStart => exact H0.out
     case round =>
      as_aux_lemma =>
      clear H0 s2;obtain ⟨i,rfl,hir,hg2,hop,hln,hps,hpc,hG⟩ := hrel;have OP := hid hop;have LN := hid hln;have PS := hid hps;have PC := hid hpc;have GX := hid hG;have HG2 := hid hg2;clear hop hln hps hpc hG hg2
      by_cases hi : i < r
      ·have hi' : (i : Int) < (r : Int) := by omega
       obtain ⟨gi,qi1,qi2,qi3,qi4⟩ := LN.out.blk (i := i) (by rw [zlA,HM2.out];exact hi);have li := (LN.out.line qi1).1;have hwi := znD hi (by omega);have HMM2 : Hid (r - (i + 1) < gk) := by unfold Hid;rw [HG2.out];omega
       by_cases hit : i = top
       ·subst hit
        have HN1 : Hid (ClrH B w p n r (.slice (some ⟨L,0,none⟩) r cap) (.slice pa i pcap) pv cb c i rt gs1 M2 (r - (i + 1)) (.int .i64 ((i + 1 : Nat) : Int)) wr) :=
         ⟨i + 1,rfl,by omega,rfl,OP.out,by rw [zrH];exact LN.out,PS.out,PC.out,GX.out⟩
        have hbb : ((i : Int) != (i : Int)) = false := by simp
        clear OP LN PS PC GX HG2 qi1 qi2 qi3 qi4;go_wp2_with fail;go_roundg (r - (i + 1))
        case rel => exact HN1.out
        case measure => exact HMM2.out
       ·have hbb : ((i : Int) != (top : Int)) = true := by simp;omega
        rw [zfB (by rw [HM2.out];exact hi),if_pos (.inr (Nat.le_refl _))] at qi3 qi4;obtain ⟨gt,qt1,qt2,qt3,qt4⟩ := LN.out.blk (i := top) (by rw [zlA,HM2.out];omega);rw [zfB (by rw [HM2.out];omega),if_pos (.inl rfl),ET.out] at qt3 qt4;have lt1 := (LN.out.line qt1).1;have hgne : gt ≠ gi := fun e => by
         subst e;exact hit (LN.out.2.1 _ _ _ qi1 qt1)
        obtain ⟨t,ht⟩ : ∃ t,ent M2 i c = t := ⟨_,rfl⟩
        have et : (rowE M2 i).getD c 0 = t := ht;have xc := (Row.nil12.2 qi3).at12 (i := c) (by rw [qi4];exact hlt);have ex2 : (rowE M2 i)[c]'(by rw [qi4];exact hlt) = t := by rw [← et];simp [show c < (rowE M2 i).length by rw [qi4];exact hlt]
        rw [ex2] at xc;have rt1 := (RM2.out.at i).getD (by omega) c;rw [et] at rt1;have s0 := PS.out.at (i := 0) rfl;have s1 := PS.out.at (i := 1) rfl;have s2 := PS.out.at (i := 2) rfl;have c0 := PC.out.at (i := 0) rfl;have ROWI := hid qi3;have ROWT := hid qt3;have ESC : Hid (clr p c top rt M2 (i + 1) = (clr p c top rt M2 i).set i (tkL p t (rowE M2 i) rt)) := by
         unfold Hid;rw [← ht];exact zCH (by rw [HM2.out];exact hi) hit
        have HIT := hid hit;have WX1 : Hid (B ≤ wr.heap.size) := by unfold Hid;have := HB.out;have := PS.out.blk;omega
        clear ht et ex2 qi3 qt3 hit;go_wp2_with fail;have KB : Hid (∀ w',Below wr.heap.size wr w' → w'.cell? ⟨w.heap.size,0,none⟩ = some (.int .u64 (p : Int)) ∧ w'.cell? ⟨w.heap.size,1,none⟩ = some (.int .i64 (n : Int)) ∧ w'.cell? ⟨w.heap.size,2,none⟩ = some (.slice (some ⟨L,0,none⟩) r cap) ∧ w'.cell? ⟨cb,0,none⟩ = some (.int .i64 (c : Int)) ∧ w'.cell? ⟨L,top,none⟩ = some (rowv n gt) ∧ w'.cell? ⟨gi,c,none⟩ = some (.int .u64 t)) := fun w' h => ⟨cnow h s0,cnow h s1,cnow h s2,cnow h c0,cnow h lt1,cnow h xc⟩
        refine zDA (fun w' => w'.cell? ⟨w.heap.size,0,none⟩ = some (.int .u64 (p : Int)) ∧ w'.cell? ⟨w.heap.size,1,none⟩ = some (.int .i64 (n : Int)) ∧ w'.cell? ⟨w.heap.size,2,none⟩ = some (.slice (some ⟨L,0,none⟩) r cap) ∧ w'.cell? ⟨cb,0,none⟩ = some (.int .i64 (c : Int)) ∧ w'.cell? ⟨L,top,none⟩ = some (rowv n gt) ∧ w'.cell? ⟨gi,c,none⟩ = some (.int .u64 t)) 11 (by kernel_rfl) ?_;obtain ⟨D23,hD⟩ : ∃ D23,wr.drew = D23 := ⟨_,rfl⟩
        have GB : Hid (Below wr.heap.size wr D23) := by unfold Hid;rw [← hD];exact (Below.refl _ _).drew
        rw [hD];clear hD;refine zAA (i := 0) (oi := ⟨some 90,.load 54 (.tmp 1),54, "sheet.go:90",#[],none⟩) (v := (.agg #[.int .u64 (p : Int),.int .i64 (n : Int),(.slice (some ⟨L,0,none⟩) r cap)])) rfl (by kernel_rfl) (fun _ _ _ h => h) (Or.inl ⟨by rfl,?_⟩) (KB.out _ GB.out) ?_
        ·intro w hSw;(try dsimp only at hSw);go_simp
        simp only [Act.put,sIb,sC0,sC1];refine zAA (i := 1) (oi := ⟨some 91,.move (.tmp 8),42, "sheet.go:90",#[],none⟩) (v := (rowv n gi)) rfl (by kernel_rfl) (fun _ _ _ h => h) (Or.inl ⟨by rfl,?_⟩) (KB.out _ GB.out) ?_
        ·intro w hSw;(try dsimp only at hSw);go_simp
        simp only [Act.put,sIb,sC0,sC1];refine zAA (i := 2) (oi := ⟨some 92,.move (.tmp 8),42, "sheet.go:90",#[],none⟩) (v := (rowv n gi)) rfl (by kernel_rfl) (fun _ _ _ h => h) (Or.inl ⟨by rfl,?_⟩) (KB.out _ GB.out) ?_
        ·intro w hSw;(try dsimp only at hSw);go_simp
        simp only [Act.put,sIb,sC0,sC1];refine zAA (i := 3) (oi := ⟨some 93,.load 3 (.tmp 4),3, "sheet.go:90",#[],none⟩) (v := (.int .i64 (c : Int))) rfl (by kernel_rfl) (fun _ _ _ h => h) (Or.inl ⟨by rfl,?_⟩) (KB.out _ GB.out) ?_
        ·intro w hSw;(try dsimp only at hSw);go_simp
        simp only [Act.put,sIb,sC0,sC1];refine zAA (i := 4) (oi := ⟨some 94,.indexAddr 42 (.tmp 92) (.tmp 93),0, "sheet.go:90",#[⟨2,.data⟩,⟨3,.data⟩],none⟩) (v := (.pointer (some ⟨gi,c,none⟩))) rfl (by kernel_rfl) (fun _ _ _ h => h) (Or.inl ⟨by rfl,?_⟩) (KB.out _ GB.out) ?_
        ·intro w hSw;(try dsimp only at hSw);go_simp
        simp only [Act.put,sIb,sC0,sC1];refine zAA (i := 5) (oi := ⟨some 95,.load 25 (.tmp 94),25, "sheet.go:90",#[⟨4,.data⟩],none⟩) (v := (.int .u64 t)) rfl (by kernel_rfl) (fun _ _ _ h => h) (Or.inl ⟨by rfl,?_⟩) (KB.out _ GB.out) ?_
        ·intro w hSw;(try dsimp only at hSw);go_simp
        simp only [Act.put,sIb,sC0,sC1];refine zAA (i := 6) (oi := ⟨some 96,.fieldAddr 54 (.tmp 1) 2,0, "sheet.go:90",#[],none⟩) (v := (.pointer (some ⟨w.heap.size,2,none⟩))) rfl (by kernel_rfl) (fun _ _ _ h => h) (Or.inl ⟨by rfl,?_⟩) (KB.out _ GB.out) ?_
        ·intro w hSw;(try dsimp only at hSw);go_simp
        simp only [Act.put,sIb,sC0,sC1];refine zAA (i := 7) (oi := ⟨some 97,.load 52 (.tmp 96),52, "sheet.go:90",#[⟨6,.data⟩],none⟩) (v := (.slice (some ⟨L,0,none⟩) r cap)) rfl (by kernel_rfl) (fun _ _ _ h => h) (Or.inl ⟨by rfl,?_⟩) (KB.out _ GB.out) ?_
        ·intro w hSw;(try dsimp only at hSw);go_simp
        simp only [Act.put,sIb,sC0,sC1];refine zAA (i := 8) (oi := ⟨some 98,.move (.tmp 5),3, "sheet.go:90",#[],none⟩) (v := (.int .i64 (top : Int))) rfl (by kernel_rfl) (fun _ _ _ h => h) (Or.inl ⟨by rfl,?_⟩) (KB.out _ GB.out) ?_
        ·intro w hSw;(try dsimp only at hSw);go_simp
        simp only [Act.put,sIb,sC0,sC1];refine zAA (i := 9) (oi := ⟨some 99,.indexAddr 52 (.tmp 97) (.tmp 98),0, "sheet.go:90",#[⟨7,.data⟩,⟨8,.data⟩],none⟩) (v := (.pointer (some ⟨L,top,none⟩))) rfl (by kernel_rfl) (fun _ _ _ h => h) (Or.inl ⟨by rfl,?_⟩) (KB.out _ GB.out) ?_
        ·intro w hSw;(try dsimp only at hSw);go_simp
        simp only [Act.put,sIb,sC0,sC1];refine zAA (i := 10) (oi := ⟨some 100,.load 42 (.tmp 99),42, "sheet.go:90",#[⟨9,.data⟩],none⟩) (v := (rowv n gt)) rfl (by kernel_rfl) (fun _ _ _ h => h) (Or.inl ⟨by rfl,?_⟩) (KB.out _ GB.out) ?_
        ·intro w hSw;(try dsimp only at hSw);go_simp
        simp only [Act.put,sIb,sC0,sC1];refine zCA (i := 11) (o := ⟨some 101,.call { callee := .value (.func 27),args := #[.tmp 90,.tmp 91,.tmp 95,.tmp 100],argTypes := #[54,42,25,42] },0, "sheet.go:90",#[⟨0,.data⟩,⟨1,.data⟩,⟨5,.data⟩,⟨10,.data⟩],none⟩) (by kernel_rfl) rfl (fun K hK => ?_);go_simp;go_at_call 27;have CT : Calls Tryz.prog 27 #[shv p n (.slice (some ⟨L,0,none⟩) r cap),rowv n gi,.int .u64 t,rowv n gt] D23 (fun e w' => e = .returned (.tuple #[]) ∧ ClrH B w p n r (.slice (some ⟨L,0,none⟩) r cap) (.slice pa top pcap) pv cb c top rt gs1 M2 (r - (i + 1)) (.int .i64 ((i + 1 : Nat) : Int)) w') := by
         by_cases ht0 : t = 0
         ·subst ht0
          refine zeC.mono fun e w' h => ⟨h.1,i + 1,rfl,by omega,rfl,(OP.out.now GB.out).now h.2,?_,(PS.out.step GB.out).step h.2,(PC.out.step GB.out).step h.2,(GX.out.step GB.out WX1.out).step h.2 (by have := WX1.out;have := GB.out.size;omega)⟩
          have e1 := ESC.out;have e2 : tkL p 0 (rowE M2 i) rt = rowE M2 i := by unfold tkL;rw [if_pos rfl]
          rw [e2] at e1;have e3 : (clr p c top rt M2 i).set i (rowE M2 i) = clr p c top rt M2 i := zED (by simp) fun j hj => by
           rw [rowE_set (by rw [zlA,HM2.out];exact hi)]
           by_cases q : i = j
           ·subst q
            rw [if_pos rfl,zfB (by rw [HM2.out];exact hi),if_pos (.inr (Nat.le_refl _))]
           ·rw [if_neg q]
          rw [e1,e3];exact (LN.out.now GB.out).now h.2
         ·refine (zfC (r := []) (r2 := []) hp hp2 rt1 ht0 (RM2.out.at i) RRT.out qi4 HRL.out hn (Nat.le_refl _) (Nat.le_refl _) (Row.nil12.2 (ROWI.out.stay GB.out)) (Row.nil12.2 (ROWT.out.stay GB.out)) hgne).mono ?_
          rintro e w' ⟨rfl,hrow,hT⟩;have CG : Cel D23 gi 25 (ws (rowE M2 i)) := ROWI.out.stay GB.out;refine ⟨rfl,i + 1,rfl,by omega,rfl,(OP.out.now GB.out).touch CG (by decide) hT,?_,(PS.out.step GB.out).touch CG (by decide) hT,(PC.out.step GB.out).touch CG (by decide) hT,Bk.touch (GX.out.step GB.out WX1.out) hT CG (.inl rfl) qi2 (by have := WX1.out;have := GB.out.size;omega)⟩;rw [ESC.out];exact (LN.out.now GB.out).put qi1 (by rw [zuD _ _ (by rw [qi4,HRL.out])];exact qi4) (Row.nil12.1 hrow) hT
        refine CT.mono ?_;rintro e w6 ⟨rfl,hN⟩;have HN1 := hid hN;clear CT hN OP LN PS PC GX GB KB ROWI ROWT ESC HIT WX1 s0 s1 s2 c0 lt1 xc rt1 qi1 qi2 qi4 qt1 qt2 qt4 hgne li;refine hK.out _ _ (fun h => absurd h (by decide)) ?_;clear hK
        try simp only [Act.put]
        refine zFA (by kernel_rfl) ?_ _;go_wp2_with fail;go_roundg (r - (i + 1))
        case rel => exact HN1.out
        case measure => exact HMM2.out
      ·have hi' : ¬ (i : Int) < (r : Int) := by omega
       obtain rfl : r = i := by omega
       obtain ⟨Y,hY⟩ : ∃ Y,wr.alloc (.cells #[.int .i64 (c : Int)] 3) = Y := ⟨_,rfl⟩
       obtain ⟨bY,szY⟩ := zVA wr (.cells #[.int .i64 (c : Int)] 3);rw [hY] at bY szY;have PY : Hid (Cel Y wr.heap.size 3 [.int .i64 (c : Int)]) := by unfold Hid;rw [← hY];exact Cel.new wr _ _
       have hsz1 := PS.out.blk;have c0 := PC.out.at (i := 0) rfl;have OPY := hid (OP.out.now bY);have LNY := hid (LN.out.now bY);have PSY := hid (PS.out.step bY);have GY := hid (GX.out.step bY (by have := HB.out;omega));have y0 := PY.out.at (i := 0) rfl;have EY := hid hY;have HTL : Hid (pv.length ≤ 1000000000) := by unfold Hid;rw [HT.out];omega
       have HYS : Hid (w.heap.size + 1 ≤ Y.heap.size) := by unfold Hid;omega
       have HBB : Hid (B ≤ w.heap.size + 1) := by unfold Hid;have := HB.out;omega
       have HBY : Hid (B ≤ Y.heap.size) := by unfold Hid;have := HB.out;have := HYS.out;omega
       clear bY szY hY OP LN PS PC GX hsz1 HG2;go_wp2_with (at_builtin;rw [EY.out];refine zkB Y rfl (.tmp 103) (.tmp 105) rfl B (w.heap.size + 1) c n (.slice pa top pcap) (.slice (some ⟨L,0,none⟩) r cap) pv gs1 (clr p c top rt M2 r) w.heap.size c (shc p n (.slice (some ⟨L,0,none⟩) r cap)) w rfl OPY.out wr.heap.size rfl y0 HTL.out HYS.out LNY.out PSY.out GY.out HBB.out HBY.out (Nat.le_succ _) ?_)
       intro a9 cap9 w9 OP9 LN9 PS9 G9;have HN1 : Hid (RedH B w p n r (.slice (some ⟨L,0,none⟩) r cap) m (n - (c + 1)) (.slice a9 (top + 1) cap9) (.int .u64 f2) (.int .i64 ((c + 1 : Nat) : Int)) w9) := by
        have e1 := STP.out;rw [zvD (k := k) (s := ⟨M,pv,f⟩) (by dsimp only;rw [List.length_drop,HML.out,HT.out];omega) (fun j h => HK0.out j h _) (HK1.out _)] at e1;dsimp only at e1;rw [HT.out] at e1;rw [if_pos hkp,if_pos hkp] at e1;have e2 : zXA p m (c + 1) = ⟨clr p c top rt M2 r,pv ++ [c],f2⟩ := by
         rw [e1];have hx := HX.out;have h1 := EM1.out;have h2 := EF1.out;have h3 := HRT.out;have h4 := EM2.out;have h5 := HFX.out;have h6 := HF2.out;have h7 := HM1.out;rw [h1,h2,hx,h3,h4,h7,h5,h6]
        refine ⟨c + 1,gs1,rfl,by omega,rfl,?_,?_,?_,PS9.out,G9.out⟩
        ·rw [e2];have := OP9.out;rw [HT.out] at this;exact this
        ·rw [e2]
        ·rw [e2];exact LN9.out
       rw [HT.out];clear OP9 LN9 PS9 G9 OPY LNY PSY GY PY y0 EY c0;go_wp2_with fail;go_roundg (n - (c + 1))
       case rel => exact HN1.out
       case measure => exact HMM.out
    ·have hkp' : ¬ (0 : Int) < (k : Int) := by omega
     obtain rfl : k = 0 := by omega
     obtain ⟨M1,hM1⟩ : ∃ M1,M = M1 := ⟨_,rfl⟩
     obtain ⟨gs1,hgs1⟩ : ∃ gs1,gs = gs1 := ⟨_,rfl⟩
     obtain ⟨f1,hf1⟩ : ∃ f1,f = f1 := ⟨_,rfl⟩
     have EM1 := hid hM1;have EF1 := hid hf1;have HM1 : Hid (M1.length = r) := by unfold Hid;rw [← hM1];exact HML.out
     have RM1 : Hid (ResM p M1) := by unfold Hid;rw [← hM1];exact ON.out.res
     have RF1 : Hid (IsR p f1) := by unfold Hid;rw [← hf1];exact hfr
     rw [hM1,hgs1] at LN;clear qa1 qa2 qa3 qa4 qb1 qb2 qb3 qb4 la lb s2' hgs1;rw [hf1];clear hM1 hf1
     as_aux_lemma =>
     obtain ⟨gt,qt1,qt2,qt3,qt4⟩ := LN.out.blk (i := top) (by rw [HM1.out];omega);have lt1 := LN.out.line qt1;obtain ⟨x,hx⟩ : ∃ x,ent M1 top c = x := ⟨_,rfl⟩
     have rx := (RM1.out.at top).getD (by omega) c;have ex : (rowE M1 top).getD c 0 = x := hx;rw [ex] at rx;have xc := (Row.nil12.2 qt3).at12 (i := c) (by rw [qt4];exact hlt);have ex2 : (rowE M1 top)[c]'(by rw [qt4];exact hlt) = x := by rw [← ex];simp [show c < (rowE M1 top).length by rw [qt4];exact hlt]
     rw [ex2] at xc;have s0 := PS.out.at (i := 0) rfl;have s1 := PS.out.at (i := 1) rfl;have s2 := PS.out.at (i := 2) rfl;have c0 := PC.out.at (i := 0) rfl;have l1 := lt1.1;have ux := zXE hp2 RF1.out rx;have nx := (zzC hp2 RF1.out rx).1;obtain ⟨fx,hfx⟩ : ∃ fx,f1 * x = fx := ⟨_,rfl⟩
     rw [hfx] at ux nx;have ux' : IntKind.u64.wrap (f1 * x) = fx := by rw [hfx];exact ux
     have tx : fx.tmod (p : Int) = fx % (p : Int) := zMH nx;obtain ⟨f2,hf2⟩ : ∃ f2,fx % (p : Int) = f2 := ⟨_,rfl⟩
     rw [hf2] at tx;have hp0 : ¬ (p : Int) = 0 := by omega
     have hp00 : ¬ p = 0 := by omega
     have hct : (c : Int) < (n : Int) := by omega
     have htt : (top : Int) < (r : Int) := by omega
     have HX := hid hx;have HFX := hid hfx;have HF2 := hid hf2;have ROWT := hid qt3;clear hx ex ex2 qt3 ux nx hfx hf2 lt1;go_wp2_with fail;have KB : Hid (∀ w',Below X1.heap.size X1 w' → w'.cell? ⟨w.heap.size,0,none⟩ = some (.int .u64 (p : Int)) ∧ w'.cell? ⟨w.heap.size,1,none⟩ = some (.int .i64 (n : Int)) ∧ w'.cell? ⟨w.heap.size,2,none⟩ = some (.slice (some ⟨L,0,none⟩) r cap) ∧ w'.cell? ⟨cb,0,none⟩ = some (.int .i64 (c : Int)) ∧ w'.cell? ⟨L,top,none⟩ = some (rowv n gt) ∧ w'.cell? ⟨gt,c,none⟩ = some (.int .u64 x)) := fun w' h => ⟨cnow h s0,cnow h s1,cnow h s2,cnow h c0,cnow h l1,cnow h xc⟩
     refine zDA (fun w' => w'.cell? ⟨w.heap.size,0,none⟩ = some (.int .u64 (p : Int)) ∧ w'.cell? ⟨w.heap.size,1,none⟩ = some (.int .i64 (n : Int)) ∧ w'.cell? ⟨w.heap.size,2,none⟩ = some (.slice (some ⟨L,0,none⟩) r cap) ∧ w'.cell? ⟨cb,0,none⟩ = some (.int .i64 (c : Int)) ∧ w'.cell? ⟨L,top,none⟩ = some (rowv n gt) ∧ w'.cell? ⟨gt,c,none⟩ = some (.int .u64 x)) 13 (by kernel_rfl) ?_;obtain ⟨D1,hD⟩ : ∃ D1,X1.drew = D1 := ⟨_,rfl⟩
     have GB : Hid (Below X1.heap.size X1 D1) := by unfold Hid;rw [← hD];exact (Below.refl _ _).drew
     rw [hD];clear hD;refine zAA (i := 0) (oi := ⟨some 51,.move (.tmp 3),25, "sheet.go:86",#[],none⟩) (v := (.int .u64 f1)) rfl (by kernel_rfl) (fun _ _ _ h => h) (Or.inl ⟨by rfl,?_⟩) (KB.out _ GB.out) ?_
     ·intro w hSw;(try dsimp only at hSw);go_simp
     simp only [Act.put,sIb,sC0,sC1];refine zAA (i := 1) (oi := ⟨some 52,.fieldAddr 54 (.tmp 1) 2,0, "sheet.go:86",#[],none⟩) (v := (.pointer (some ⟨w.heap.size,2,none⟩))) rfl (by kernel_rfl) (fun _ _ _ h => h) (Or.inl ⟨by rfl,?_⟩) (KB.out _ GB.out) ?_
     ·intro w hSw;(try dsimp only at hSw);go_simp
     simp only [Act.put,sIb,sC0,sC1];refine zAA (i := 2) (oi := ⟨some 53,.load 52 (.tmp 52),52, "sheet.go:86",#[⟨1,.data⟩],none⟩) (v := (.slice (some ⟨L,0,none⟩) r cap)) rfl (by kernel_rfl) (fun _ _ _ h => h) (Or.inl ⟨by rfl,?_⟩) (KB.out _ GB.out) ?_
     ·intro w hSw;(try dsimp only at hSw);go_simp
     simp only [Act.put,sIb,sC0,sC1];refine zAA (i := 3) (oi := ⟨some 54,.move (.tmp 5),3, "sheet.go:86",#[],none⟩) (v := (.int .i64 (top : Int))) rfl (by kernel_rfl) (fun _ _ _ h => h) (Or.inl ⟨by rfl,?_⟩) (KB.out _ GB.out) ?_
     ·intro w hSw;(try dsimp only at hSw);go_simp
     simp only [Act.put,sIb,sC0,sC1];refine zAA (i := 4) (oi := ⟨some 55,.indexAddr 52 (.tmp 53) (.tmp 54),0, "sheet.go:86",#[⟨2,.data⟩,⟨3,.data⟩],none⟩) (v := (.pointer (some ⟨L,top,none⟩))) rfl (by kernel_rfl) (fun _ _ _ h => h) (Or.inl ⟨by rfl,?_⟩) (KB.out _ GB.out) ?_
     ·intro w hSw;(try dsimp only at hSw);go_simp
     simp only [Act.put,sIb,sC0,sC1];refine zAA (i := 5) (oi := ⟨some 56,.load 42 (.tmp 55),42, "sheet.go:86",#[⟨4,.data⟩],none⟩) (v := (rowv n gt)) rfl (by kernel_rfl) (fun _ _ _ h => h) (Or.inl ⟨by rfl,?_⟩) (KB.out _ GB.out) ?_
     ·intro w hSw;(try dsimp only at hSw);go_simp
     simp only [Act.put,sIb,sC0,sC1];refine zAA (i := 6) (oi := ⟨some 57,.load 3 (.tmp 4),3, "sheet.go:86",#[],none⟩) (v := (.int .i64 (c : Int))) rfl (by kernel_rfl) (fun _ _ _ h => h) (Or.inl ⟨by rfl,?_⟩) (KB.out _ GB.out) ?_
     ·intro w hSw;(try dsimp only at hSw);go_simp
     simp only [Act.put,sIb,sC0,sC1];refine zAA (i := 7) (oi := ⟨some 58,.indexAddr 42 (.tmp 56) (.tmp 57),0, "sheet.go:86",#[⟨5,.data⟩,⟨6,.data⟩],none⟩) (v := (.pointer (some ⟨gt,c,none⟩))) rfl (by kernel_rfl) (fun _ _ _ h => h) (Or.inl ⟨by rfl,?_⟩) (KB.out _ GB.out) ?_
     ·intro w hSw;(try dsimp only at hSw);go_simp
     simp only [Act.put,sIb,sC0,sC1];refine zAA (i := 8) (oi := ⟨some 59,.load 25 (.tmp 58),25, "sheet.go:86",#[⟨7,.data⟩],none⟩) (v := (.int .u64 x)) rfl (by kernel_rfl) (fun _ _ _ h => h) (Or.inl ⟨by rfl,?_⟩) (KB.out _ GB.out) ?_
     ·intro w hSw;(try dsimp only at hSw);go_simp
     simp only [Act.put,sIb,sC0,sC1];refine zAA (i := 9) (oi := ⟨some 60,.binOp .mul 25 (.tmp 51) (.tmp 59) 25,25, "sheet.go:86",#[⟨0,.data⟩,⟨8,.data⟩],none⟩) (v := (.int .u64 fx)) rfl (by kernel_rfl) (fun _ _ _ h => h) (Or.inl ⟨by rfl,?_⟩) (KB.out _ GB.out) ?_
     ·intro w hSw;(try dsimp only at hSw);go_simp
     simp only [Act.put,sIb,sC0,sC1];refine zAA (i := 10) (oi := ⟨some 61,.fieldAddr 54 (.tmp 1) 0,0, "sheet.go:86",#[],none⟩) (v := (.pointer (some ⟨w.heap.size,0,none⟩))) rfl (by kernel_rfl) (fun _ _ _ h => h) (Or.inl ⟨by rfl,?_⟩) (KB.out _ GB.out) ?_
     ·intro w hSw;(try dsimp only at hSw);go_simp
     simp only [Act.put,sIb,sC0,sC1];refine zAA (i := 11) (oi := ⟨some 62,.load 25 (.tmp 61),25, "sheet.go:86",#[⟨10,.data⟩],none⟩) (v := (.int .u64 (p : Int))) rfl (by kernel_rfl) (fun _ _ _ h => h) (Or.inl ⟨by rfl,?_⟩) (KB.out _ GB.out) ?_
     ·intro w hSw;(try dsimp only at hSw);go_simp
     simp only [Act.put,sIb,sC0,sC1];refine zAA (i := 12) (oi := ⟨some 63,.binOp .rem 25 (.tmp 60) (.tmp 62) 25,25, "sheet.go:86",#[⟨9,.data⟩,⟨11,.data⟩],none⟩) (v := (.int .u64 f2)) rfl (by kernel_rfl) (fun _ _ _ h => h) (Or.inl ⟨by rfl,?_⟩) (KB.out _ GB.out) ?_
     ·intro w hSw;(try dsimp only at hSw);go_simp
     simp only [Act.put,sIb,sC0,sC1];refine zCA (i := 13) (o := ⟨some 3,.assign (.tmp 63),25, "sheet.go:86",#[⟨12,.data⟩,⟨0,.phase⟩,⟨1,.phase⟩,⟨2,.phase⟩,⟨3,.phase⟩,⟨4,.phase⟩,⟨5,.phase⟩,⟨6,.phase⟩,⟨7,.phase⟩,⟨8,.phase⟩,⟨9,.phase⟩,⟨10,.phase⟩,⟨11,.phase⟩,⟨12,.phase⟩],none⟩) (by kernel_rfl) rfl (fun K hK => ?_);go_simp;refine hK.out _ _ (fun h => absurd h (by decide)) ?_;clear hK
     try simp only [Act.put]
     refine zFA (by kernel_rfl) ?_ _;replace OP := hid (OP.out.now GB.out);replace LN := hid (LN.out.now GB.out);replace PS := hid (PS.out.step GB.out);replace PC := hid (PC.out.step GB.out);replace GX := hid (GX.out.step GB.out HBX.out);replace HBX : Hid (B ≤ D1.heap.size) := by unfold Hid;have := HBX.out;have := GB.out.size;omega
     replace ROWT := hid (ROWT.out.stay GB.out);replace s0 := cnow GB.out s0;replace s1 := cnow GB.out s1;replace s2 := cnow GB.out s2;replace c0 := cnow GB.out c0;replace l1 := cnow GB.out l1;replace xc := cnow GB.out xc;clear GB KB;go_wp2_with fail;have KB : Hid (∀ w',Below D1.heap.size D1 w' → w'.cell? ⟨w.heap.size,0,none⟩ = some (.int .u64 (p : Int)) ∧ w'.cell? ⟨w.heap.size,1,none⟩ = some (.int .i64 (n : Int)) ∧ w'.cell? ⟨w.heap.size,2,none⟩ = some (.slice (some ⟨L,0,none⟩) r cap) ∧ w'.cell? ⟨cb,0,none⟩ = some (.int .i64 (c : Int)) ∧ w'.cell? ⟨L,top,none⟩ = some (rowv n gt) ∧ w'.cell? ⟨gt,c,none⟩ = some (.int .u64 x)) := fun w' h => ⟨cnow h s0,cnow h s1,cnow h s2,cnow h c0,cnow h l1,cnow h xc⟩
     refine zDA (fun w' => w'.cell? ⟨w.heap.size,0,none⟩ = some (.int .u64 (p : Int)) ∧ w'.cell? ⟨w.heap.size,1,none⟩ = some (.int .i64 (n : Int)) ∧ w'.cell? ⟨w.heap.size,2,none⟩ = some (.slice (some ⟨L,0,none⟩) r cap) ∧ w'.cell? ⟨cb,0,none⟩ = some (.int .i64 (c : Int)) ∧ w'.cell? ⟨L,top,none⟩ = some (rowv n gt) ∧ w'.cell? ⟨gt,c,none⟩ = some (.int .u64 x)) 14 (by kernel_rfl) ?_;obtain ⟨D2,hD⟩ : ∃ D2,D1.drew = D2 := ⟨_,rfl⟩
     have GB : Hid (Below D1.heap.size D1 D2) := by unfold Hid;rw [← hD];exact (Below.refl _ _).drew
     rw [hD];clear hD;refine zAA (i := 0) (oi := ⟨some 64,.load 54 (.tmp 1),54, "sheet.go:87",#[],none⟩) (v := (.agg #[.int .u64 (p : Int),.int .i64 (n : Int),(.slice (some ⟨L,0,none⟩) r cap)])) rfl (by kernel_rfl) (fun _ _ _ h => h) (Or.inl ⟨by rfl,?_⟩) (KB.out _ GB.out) ?_
     ·intro w hSw;(try dsimp only at hSw);go_simp
     simp only [Act.put,sIb,sC0,sC1];refine zAA (i := 1) (oi := ⟨some 65,.fieldAddr 54 (.tmp 1) 2,0, "sheet.go:87",#[],none⟩) (v := (.pointer (some ⟨w.heap.size,2,none⟩))) rfl (by kernel_rfl) (fun _ _ _ h => h) (Or.inl ⟨by rfl,?_⟩) (KB.out _ GB.out) ?_
     ·intro w hSw;(try dsimp only at hSw);go_simp
     simp only [Act.put,sIb,sC0,sC1];refine zAA (i := 2) (oi := ⟨some 66,.load 52 (.tmp 65),52, "sheet.go:87",#[⟨1,.data⟩],none⟩) (v := (.slice (some ⟨L,0,none⟩) r cap)) rfl (by kernel_rfl) (fun _ _ _ h => h) (Or.inl ⟨by rfl,?_⟩) (KB.out _ GB.out) ?_
     ·intro w hSw;(try dsimp only at hSw);go_simp
     simp only [Act.put,sIb,sC0,sC1];refine zAA (i := 3) (oi := ⟨some 67,.move (.tmp 5),3, "sheet.go:87",#[],none⟩) (v := (.int .i64 (top : Int))) rfl (by kernel_rfl) (fun _ _ _ h => h) (Or.inl ⟨by rfl,?_⟩) (KB.out _ GB.out) ?_
     ·intro w hSw;(try dsimp only at hSw);go_simp
     simp only [Act.put,sIb,sC0,sC1];refine zAA (i := 4) (oi := ⟨some 68,.indexAddr 52 (.tmp 66) (.tmp 67),0, "sheet.go:87",#[⟨2,.data⟩,⟨3,.data⟩],none⟩) (v := (.pointer (some ⟨L,top,none⟩))) rfl (by kernel_rfl) (fun _ _ _ h => h) (Or.inl ⟨by rfl,?_⟩) (KB.out _ GB.out) ?_
     ·intro w hSw;(try dsimp only at hSw);go_simp
     simp only [Act.put,sIb,sC0,sC1];refine zAA (i := 5) (oi := ⟨some 69,.load 42 (.tmp 68),42, "sheet.go:87",#[⟨4,.data⟩],none⟩) (v := (rowv n gt)) rfl (by kernel_rfl) (fun _ _ _ h => h) (Or.inl ⟨by rfl,?_⟩) (KB.out _ GB.out) ?_
     ·intro w hSw;(try dsimp only at hSw);go_simp
     simp only [Act.put,sIb,sC0,sC1];refine zAA (i := 6) (oi := ⟨some 70,.fieldAddr 54 (.tmp 1) 2,0, "sheet.go:87",#[],none⟩) (v := (.pointer (some ⟨w.heap.size,2,none⟩))) rfl (by kernel_rfl) (fun _ _ _ h => h) (Or.inl ⟨by rfl,?_⟩) (KB.out _ GB.out) ?_
     ·intro w hSw;(try dsimp only at hSw);go_simp
     simp only [Act.put,sIb,sC0,sC1];refine zAA (i := 7) (oi := ⟨some 71,.load 52 (.tmp 70),52, "sheet.go:87",#[⟨6,.data⟩],none⟩) (v := (.slice (some ⟨L,0,none⟩) r cap)) rfl (by kernel_rfl) (fun _ _ _ h => h) (Or.inl ⟨by rfl,?_⟩) (KB.out _ GB.out) ?_
     ·intro w hSw;(try dsimp only at hSw);go_simp
     simp only [Act.put,sIb,sC0,sC1];refine zAA (i := 8) (oi := ⟨some 72,.move (.tmp 5),3, "sheet.go:87",#[],none⟩) (v := (.int .i64 (top : Int))) rfl (by kernel_rfl) (fun _ _ _ h => h) (Or.inl ⟨by rfl,?_⟩) (KB.out _ GB.out) ?_
     ·intro w hSw;(try dsimp only at hSw);go_simp
     simp only [Act.put,sIb,sC0,sC1];refine zAA (i := 9) (oi := ⟨some 73,.indexAddr 52 (.tmp 71) (.tmp 72),0, "sheet.go:87",#[⟨7,.data⟩,⟨8,.data⟩],none⟩) (v := (.pointer (some ⟨L,top,none⟩))) rfl (by kernel_rfl) (fun _ _ _ h => h) (Or.inl ⟨by rfl,?_⟩) (KB.out _ GB.out) ?_
     ·intro w hSw;(try dsimp only at hSw);go_simp
     simp only [Act.put,sIb,sC0,sC1];refine zAA (i := 10) (oi := ⟨some 74,.load 42 (.tmp 73),42, "sheet.go:87",#[⟨9,.data⟩],none⟩) (v := (rowv n gt)) rfl (by kernel_rfl) (fun _ _ _ h => h) (Or.inl ⟨by rfl,?_⟩) (KB.out _ GB.out) ?_
     ·intro w hSw;(try dsimp only at hSw);go_simp
     simp only [Act.put,sIb,sC0,sC1];refine zAA (i := 11) (oi := ⟨some 75,.load 3 (.tmp 4),3, "sheet.go:87",#[],none⟩) (v := (.int .i64 (c : Int))) rfl (by kernel_rfl) (fun _ _ _ h => h) (Or.inl ⟨by rfl,?_⟩) (KB.out _ GB.out) ?_
     ·intro w hSw;(try dsimp only at hSw);go_simp
     simp only [Act.put,sIb,sC0,sC1];refine zAA (i := 12) (oi := ⟨some 76,.indexAddr 42 (.tmp 74) (.tmp 75),0, "sheet.go:87",#[⟨10,.data⟩,⟨11,.data⟩],none⟩) (v := (.pointer (some ⟨gt,c,none⟩))) rfl (by kernel_rfl) (fun _ _ _ h => h) (Or.inl ⟨by rfl,?_⟩) (KB.out _ GB.out) ?_
     ·intro w hSw;(try dsimp only at hSw);go_simp
     simp only [Act.put,sIb,sC0,sC1];refine zAA (i := 13) (oi := ⟨some 77,.load 25 (.tmp 76),25, "sheet.go:87",#[⟨12,.data⟩],none⟩) (v := (.int .u64 x)) rfl (by kernel_rfl) (fun _ _ _ h => h) (Or.inl ⟨by rfl,?_⟩) (KB.out _ GB.out) ?_
     ·intro w hSw;(try dsimp only at hSw);go_simp
     simp only [Act.put,sIb,sC0,sC1];refine zCA (i := 14) (o := ⟨some 78,.call { callee := .value (.func 54),args := #[.tmp 64,.tmp 69,.tmp 77],argTypes := #[54,42,25] },0, "sheet.go:87",#[⟨0,.data⟩,⟨5,.data⟩,⟨13,.data⟩],none⟩) (by kernel_rfl) rfl (fun K hK => ?_);go_simp;go_at_call 54;refine (zAH (r := []) hp hp2 rx (RM1.out.at top) qt4 hn (Nat.le_refl _) (Row.nil12.2 (ROWT.out.stay GB.out))).mono ?_;rintro e w5 ⟨rfl,hrow,hT⟩;obtain ⟨rt,hrt⟩ : ∃ rt,dvL p x (rowE M1 top) = rt := ⟨_,rfl⟩
     rw [hrt] at hrow;have HRT := hid hrt;have hrl : rt.length = n := by rw [← hrt,zKE];exact qt4
     have rrt : Res p rt := by rw [← hrt];exact zHG (by omega) _ _
     have CG : Hid (Cel D2 gt 25 (ws (rowE M1 top))) := hid (ROWT.out.stay GB.out);replace LN := hid ((LN.out.now GB.out).put qt1 hrl (Row.nil12.1 hrow) hT);replace OP := hid ((OP.out.now GB.out).touch CG.out (by decide) hT);replace PS := hid ((PS.out.step GB.out).touch CG.out (by decide) hT);replace PC := hid ((PC.out.step GB.out).touch CG.out (by decide) hT);replace GX := hid (Bk.touch (GX.out.step GB.out HBX.out) hT CG.out (.inl rfl) qt2 (by have := HBX.out;have := GB.out.size;omega));replace HBX : Hid (B ≤ w5.heap.size) := by unfold Hid;have := HBX.out;have := GB.out.size;have := hT.size;omega
     have RRT := hid rrt;have HRL := hid hrl;clear hrt hrow hT rrt hrl CG ROWT GB KB s0 s1 s2 c0 l1 xc rx;refine hK.out _ _ (fun h => absurd h (by decide)) ?_;clear hK
     try simp only [Act.put]
     refine zFA (by kernel_rfl) ?_ _;have HM2 : Hid ((M1.set top rt).length = r) := by unfold Hid;rw [List.length_set];exact HM1.out
     have H0 : Hid (ClrH B w p n r (.slice (some ⟨L,0,none⟩) r cap) (.slice pa top pcap) pv cb c top rt gs1 (M1.set top rt) r (.int .i64 0) w5) :=
      ⟨0,rfl,Nat.zero_le _,rfl,OP.out,by rw [zBH];exact LN.out,PS.out,PC.out,GX.out⟩
     have s2 := PS.out.at (i := 2) rfl;have RM2 : Hid (ResM p (M1.set top rt)) := hid (RM1.out.set RRT.out);have WM2 : Hid (WidE n (M1.set top rt)) := hid (LN.out.2.2.2.2.1);have ET : Hid (rowE (M1.set top rt) top = rt) := by unfold Hid;rw [rowE_set (by rw [HM1.out];omega),if_pos rfl]
     have HCC : Hid (w.heap.size + 1 ≤ cb) := HCB;obtain ⟨M2,hM2⟩ : ∃ M2,M1.set top rt = M2 := ⟨_,rfl⟩
     rw [hM2] at HM2 H0 RM2 WM2 ET;have EM2 := hid hM2;clear OP LN PS PC GX HBX HCB qt1 qt2 qt4 hM2;go_wp2_with fail
     go_loopg [82] r (fun gk2 s82 wx => ClrH B w p n r (.slice (some ⟨L,0,none⟩) r cap) (.slice pa top pcap) pv cb c top rt gs1 M2 gk2 s82 wx)
     case atStart => exact H0.out
     case round =>
      as_aux_lemma =>
      clear H0 s2;obtain ⟨i,rfl,hir,hg2,hop,hln,hps,hpc,hG⟩ := hrel;have OP := hid hop;have LN := hid hln;have PS := hid hps;have PC := hid hpc;have GX := hid hG;have HG2 := hid hg2;clear hop hln hps hpc hG hg2
      by_cases hi : i < r
      ·have hi' : (i : Int) < (r : Int) := by omega
       obtain ⟨gi,qi1,qi2,qi3,qi4⟩ := LN.out.blk (i := i) (by rw [zlA,HM2.out];exact hi);have li := (LN.out.line qi1).1;have hwi := znD hi (by omega);have HMM2 : Hid (r - (i + 1) < gk) := by unfold Hid;rw [HG2.out];omega
       by_cases hit : i = top
       ·subst hit
        have HN1 : Hid (ClrH B w p n r (.slice (some ⟨L,0,none⟩) r cap) (.slice pa i pcap) pv cb c i rt gs1 M2 (r - (i + 1)) (.int .i64 ((i + 1 : Nat) : Int)) wr) :=
         ⟨i + 1,rfl,by omega,rfl,OP.out,by rw [zrH];exact LN.out,PS.out,PC.out,GX.out⟩
        have hbb : ((i : Int) != (i : Int)) = false := by simp
        clear OP LN PS PC GX HG2 qi1 qi2 qi3 qi4;go_wp2_with fail;go_roundg (r - (i + 1))
        case rel => exact HN1.out
        case measure => exact HMM2.out
       ·have hbb : ((i : Int) != (top : Int)) = true := by simp;omega
        rw [zfB (by rw [HM2.out];exact hi),if_pos (.inr (Nat.le_refl _))] at qi3 qi4;obtain ⟨gt,qt1,qt2,qt3,qt4⟩ := LN.out.blk (i := top) (by rw [zlA,HM2.out];omega);rw [zfB (by rw [HM2.out];omega),if_pos (.inl rfl),ET.out] at qt3 qt4;have lt1 := (LN.out.line qt1).1;have hgne : gt ≠ gi := fun e => by
         subst e;exact hit (LN.out.2.1 _ _ _ qi1 qt1)
        obtain ⟨t,ht⟩ : ∃ t,ent M2 i c = t := ⟨_,rfl⟩
        have et : (rowE M2 i).getD c 0 = t := ht;have xc := (Row.nil12.2 qi3).at12 (i := c) (by rw [qi4];exact hlt);have ex2 : (rowE M2 i)[c]'(by rw [qi4];exact hlt) = t := by rw [← et];simp [show c < (rowE M2 i).length by rw [qi4];exact hlt]
        rw [ex2] at xc;have rt1 := (RM2.out.at i).getD (by omega) c;rw [et] at rt1;have s0 := PS.out.at (i := 0) rfl;have s1 := PS.out.at (i := 1) rfl;have s2 := PS.out.at (i := 2) rfl;have c0 := PC.out.at (i := 0) rfl;have ROWI := hid qi3;have ROWT := hid qt3;have ESC : Hid (clr p c top rt M2 (i + 1) = (clr p c top rt M2 i).set i (tkL p t (rowE M2 i) rt)) := by
         unfold Hid;rw [← ht];exact zCH (by rw [HM2.out];exact hi) hit
        have HIT := hid hit;have WX1 : Hid (B ≤ wr.heap.size) := by unfold Hid;have := HB.out;have := PS.out.blk;omega
        clear ht et ex2 qi3 qt3 hit;go_wp2_with fail;have KB : Hid (∀ w',Below wr.heap.size wr w' → w'.cell? ⟨w.heap.size,0,none⟩ = some (.int .u64 (p : Int)) ∧ w'.cell? ⟨w.heap.size,1,none⟩ = some (.int .i64 (n : Int)) ∧ w'.cell? ⟨w.heap.size,2,none⟩ = some (.slice (some ⟨L,0,none⟩) r cap) ∧ w'.cell? ⟨cb,0,none⟩ = some (.int .i64 (c : Int)) ∧ w'.cell? ⟨L,top,none⟩ = some (rowv n gt) ∧ w'.cell? ⟨gi,c,none⟩ = some (.int .u64 t)) := fun w' h => ⟨cnow h s0,cnow h s1,cnow h s2,cnow h c0,cnow h lt1,cnow h xc⟩
        refine zDA (fun w' => w'.cell? ⟨w.heap.size,0,none⟩ = some (.int .u64 (p : Int)) ∧ w'.cell? ⟨w.heap.size,1,none⟩ = some (.int .i64 (n : Int)) ∧ w'.cell? ⟨w.heap.size,2,none⟩ = some (.slice (some ⟨L,0,none⟩) r cap) ∧ w'.cell? ⟨cb,0,none⟩ = some (.int .i64 (c : Int)) ∧ w'.cell? ⟨L,top,none⟩ = some (rowv n gt) ∧ w'.cell? ⟨gi,c,none⟩ = some (.int .u64 t)) 11 (by kernel_rfl) ?_;obtain ⟨D23,hD⟩ : ∃ D23,wr.drew = D23 := ⟨_,rfl⟩
        have GB : Hid (Below wr.heap.size wr D23) := by unfold Hid;rw [← hD];exact (Below.refl _ _).drew
        rw [hD];clear hD;refine zAA (i := 0) (oi := ⟨some 90,.load 54 (.tmp 1),54, "sheet.go:90",#[],none⟩) (v := (.agg #[.int .u64 (p : Int),.int .i64 (n : Int),(.slice (some ⟨L,0,none⟩) r cap)])) rfl (by kernel_rfl) (fun _ _ _ h => h) (Or.inl ⟨by rfl,?_⟩) (KB.out _ GB.out) ?_
        ·intro w hSw;(try dsimp only at hSw);go_simp
        simp only [Act.put,sIb,sC0,sC1];refine zAA (i := 1) (oi := ⟨some 91,.move (.tmp 8),42, "sheet.go:90",#[],none⟩) (v := (rowv n gi)) rfl (by kernel_rfl) (fun _ _ _ h => h) (Or.inl ⟨by rfl,?_⟩) (KB.out _ GB.out) ?_
        ·intro w hSw;(try dsimp only at hSw);go_simp
        simp only [Act.put,sIb,sC0,sC1];refine zAA (i := 2) (oi := ⟨some 92,.move (.tmp 8),42, "sheet.go:90",#[],none⟩) (v := (rowv n gi)) rfl (by kernel_rfl) (fun _ _ _ h => h) (Or.inl ⟨by rfl,?_⟩) (KB.out _ GB.out) ?_
        ·intro w hSw;(try dsimp only at hSw);go_simp
        simp only [Act.put,sIb,sC0,sC1];refine zAA (i := 3) (oi := ⟨some 93,.load 3 (.tmp 4),3, "sheet.go:90",#[],none⟩) (v := (.int .i64 (c : Int))) rfl (by kernel_rfl) (fun _ _ _ h => h) (Or.inl ⟨by rfl,?_⟩) (KB.out _ GB.out) ?_
        ·intro w hSw;(try dsimp only at hSw);go_simp
        simp only [Act.put,sIb,sC0,sC1];refine zAA (i := 4) (oi := ⟨some 94,.indexAddr 42 (.tmp 92) (.tmp 93),0, "sheet.go:90",#[⟨2,.data⟩,⟨3,.data⟩],none⟩) (v := (.pointer (some ⟨gi,c,none⟩))) rfl (by kernel_rfl) (fun _ _ _ h => h) (Or.inl ⟨by rfl,?_⟩) (KB.out _ GB.out) ?_
        ·intro w hSw;(try dsimp only at hSw);go_simp
        simp only [Act.put,sIb,sC0,sC1];refine zAA (i := 5) (oi := ⟨some 95,.load 25 (.tmp 94),25, "sheet.go:90",#[⟨4,.data⟩],none⟩) (v := (.int .u64 t)) rfl (by kernel_rfl) (fun _ _ _ h => h) (Or.inl ⟨by rfl,?_⟩) (KB.out _ GB.out) ?_
        ·intro w hSw;(try dsimp only at hSw);go_simp
        simp only [Act.put,sIb,sC0,sC1];refine zAA (i := 6) (oi := ⟨some 96,.fieldAddr 54 (.tmp 1) 2,0, "sheet.go:90",#[],none⟩) (v := (.pointer (some ⟨w.heap.size,2,none⟩))) rfl (by kernel_rfl) (fun _ _ _ h => h) (Or.inl ⟨by rfl,?_⟩) (KB.out _ GB.out) ?_
        ·intro w hSw;(try dsimp only at hSw);go_simp
        simp only [Act.put,sIb,sC0,sC1];refine zAA (i := 7) (oi := ⟨some 97,.load 52 (.tmp 96),52, "sheet.go:90",#[⟨6,.data⟩],none⟩) (v := (.slice (some ⟨L,0,none⟩) r cap)) rfl (by kernel_rfl) (fun _ _ _ h => h) (Or.inl ⟨by rfl,?_⟩) (KB.out _ GB.out) ?_
        ·intro w hSw;(try dsimp only at hSw);go_simp
        simp only [Act.put,sIb,sC0,sC1];refine zAA (i := 8) (oi := ⟨some 98,.move (.tmp 5),3, "sheet.go:90",#[],none⟩) (v := (.int .i64 (top : Int))) rfl (by kernel_rfl) (fun _ _ _ h => h) (Or.inl ⟨by rfl,?_⟩) (KB.out _ GB.out) ?_
        ·intro w hSw;(try dsimp only at hSw);go_simp
        simp only [Act.put,sIb,sC0,sC1];refine zAA (i := 9) (oi := ⟨some 99,.indexAddr 52 (.tmp 97) (.tmp 98),0, "sheet.go:90",#[⟨7,.data⟩,⟨8,.data⟩],none⟩) (v := (.pointer (some ⟨L,top,none⟩))) rfl (by kernel_rfl) (fun _ _ _ h => h) (Or.inl ⟨by rfl,?_⟩) (KB.out _ GB.out) ?_
        ·intro w hSw;(try dsimp only at hSw);go_simp
        simp only [Act.put,sIb,sC0,sC1];refine zAA (i := 10) (oi := ⟨some 100,.load 42 (.tmp 99),42, "sheet.go:90",#[⟨9,.data⟩],none⟩) (v := (rowv n gt)) rfl (by kernel_rfl) (fun _ _ _ h => h) (Or.inl ⟨by rfl,?_⟩) (KB.out _ GB.out) ?_
        ·intro w hSw;(try dsimp only at hSw);go_simp
        simp only [Act.put,sIb,sC0,sC1];refine zCA (i := 11) (o := ⟨some 101,.call { callee := .value (.func 27),args := #[.tmp 90,.tmp 91,.tmp 95,.tmp 100],argTypes := #[54,42,25,42] },0, "sheet.go:90",#[⟨0,.data⟩,⟨1,.data⟩,⟨5,.data⟩,⟨10,.data⟩],none⟩) (by kernel_rfl) rfl (fun K hK => ?_);go_simp;go_at_call 27;have CT : Calls Tryz.prog 27 #[shv p n (.slice (some ⟨L,0,none⟩) r cap),rowv n gi,.int .u64 t,rowv n gt] D23 (fun e w' => e = .returned (.tuple #[]) ∧ ClrH B w p n r (.slice (some ⟨L,0,none⟩) r cap) (.slice pa top pcap) pv cb c top rt gs1 M2 (r - (i + 1)) (.int .i64 ((i + 1 : Nat) : Int)) w') := by
         by_cases ht0 : t = 0
         ·subst ht0
          refine zeC.mono fun e w' h => ⟨h.1,i + 1,rfl,by omega,rfl,(OP.out.now GB.out).now h.2,?_,(PS.out.step GB.out).step h.2,(PC.out.step GB.out).step h.2,(GX.out.step GB.out WX1.out).step h.2 (by have := WX1.out;have := GB.out.size;omega)⟩
          have e1 := ESC.out;have e2 : tkL p 0 (rowE M2 i) rt = rowE M2 i := by unfold tkL;rw [if_pos rfl]
          rw [e2] at e1;have e3 : (clr p c top rt M2 i).set i (rowE M2 i) = clr p c top rt M2 i := zED (by simp) fun j hj => by
           rw [rowE_set (by rw [zlA,HM2.out];exact hi)]
           by_cases q : i = j
           ·subst q
            rw [if_pos rfl,zfB (by rw [HM2.out];exact hi),if_pos (.inr (Nat.le_refl _))]
           ·rw [if_neg q]
          rw [e1,e3];exact (LN.out.now GB.out).now h.2
         ·refine (zfC (r := []) (r2 := []) hp hp2 rt1 ht0 (RM2.out.at i) RRT.out qi4 HRL.out hn (Nat.le_refl _) (Nat.le_refl _) (Row.nil12.2 (ROWI.out.stay GB.out)) (Row.nil12.2 (ROWT.out.stay GB.out)) hgne).mono ?_
          rintro e w' ⟨rfl,hrow,hT⟩;have CG : Cel D23 gi 25 (ws (rowE M2 i)) := ROWI.out.stay GB.out;refine ⟨rfl,i + 1,rfl,by omega,rfl,(OP.out.now GB.out).touch CG (by decide) hT,?_,(PS.out.step GB.out).touch CG (by decide) hT,(PC.out.step GB.out).touch CG (by decide) hT,Bk.touch (GX.out.step GB.out WX1.out) hT CG (.inl rfl) qi2 (by have := WX1.out;have := GB.out.size;omega)⟩;rw [ESC.out];exact (LN.out.now GB.out).put qi1 (by rw [zuD _ _ (by rw [qi4,HRL.out])];exact qi4) (Row.nil12.1 hrow) hT
        refine CT.mono ?_;rintro e w6 ⟨rfl,hN⟩;have HN1 := hid hN;clear CT hN OP LN PS PC GX GB KB ROWI ROWT ESC HIT WX1 s0 s1 s2 c0 lt1 xc rt1 qi1 qi2 qi4 qt1 qt2 qt4 hgne li;refine hK.out _ _ (fun h => absurd h (by decide)) ?_;clear hK
        try simp only [Act.put]
        refine zFA (by kernel_rfl) ?_ _;go_wp2_with fail;go_roundg (r - (i + 1))
        case rel => exact HN1.out
        case measure => exact HMM2.out
      ·have hi' : ¬ (i : Int) < (r : Int) := by omega
       obtain rfl : r = i := by omega
       obtain ⟨Y,hY⟩ : ∃ Y,wr.alloc (.cells #[.int .i64 (c : Int)] 3) = Y := ⟨_,rfl⟩
       obtain ⟨bY,szY⟩ := zVA wr (.cells #[.int .i64 (c : Int)] 3);rw [hY] at bY szY;have PY : Hid (Cel Y wr.heap.size 3 [.int .i64 (c : Int)]) := by unfold Hid;rw [← hY];exact Cel.new wr _ _
       have hsz1 := PS.out.blk;have c0 := PC.out.at (i := 0) rfl;have OPY := hid (OP.out.now bY);have LNY := hid (LN.out.now bY);have PSY := hid (PS.out.step bY);have GY := hid (GX.out.step bY (by have := HB.out;omega));have y0 := PY.out.at (i := 0) rfl;have EY := hid hY;have HTL : Hid (pv.length ≤ 1000000000) := by unfold Hid;rw [HT.out];omega
       have HYS : Hid (w.heap.size + 1 ≤ Y.heap.size) := by unfold Hid;omega
       have HBB : Hid (B ≤ w.heap.size + 1) := by unfold Hid;have := HB.out;omega
       have HBY : Hid (B ≤ Y.heap.size) := by unfold Hid;have := HB.out;have := HYS.out;omega
       clear bY szY hY OP LN PS PC GX hsz1 HG2;go_wp2_with (at_builtin;rw [EY.out];refine zkB Y rfl (.tmp 103) (.tmp 105) rfl B (w.heap.size + 1) c n (.slice pa top pcap) (.slice (some ⟨L,0,none⟩) r cap) pv gs1 (clr p c top rt M2 r) w.heap.size c (shc p n (.slice (some ⟨L,0,none⟩) r cap)) w rfl OPY.out wr.heap.size rfl y0 HTL.out HYS.out LNY.out PSY.out GY.out HBB.out HBY.out (Nat.le_succ _) ?_)
       intro a9 cap9 w9 OP9 LN9 PS9 G9;have HN1 : Hid (RedH B w p n r (.slice (some ⟨L,0,none⟩) r cap) m (n - (c + 1)) (.slice a9 (top + 1) cap9) (.int .u64 f2) (.int .i64 ((c + 1 : Nat) : Int)) w9) := by
        have e1 := STP.out;rw [zvD (k := 0) (s := ⟨M,pv,f⟩) (by dsimp only;rw [List.length_drop,HML.out,HT.out];omega) (fun j h => HK0.out j h _) (HK1.out _)] at e1;dsimp only at e1;rw [HT.out] at e1;rw [if_neg (show ¬ 0 < 0 by omega),if_neg (show ¬ 0 < 0 by omega)] at e1;have e2 : zXA p m (c + 1) = ⟨clr p c top rt M2 r,pv ++ [c],f2⟩ := by
         rw [e1];have hx := HX.out;have h1 := EM1.out;have h2 := EF1.out;have h3 := HRT.out;have h4 := EM2.out;have h5 := HFX.out;have h6 := HF2.out;have h7 := HM1.out;rw [h1,h2,hx,h3,h4,h7,h5,h6]
        refine ⟨c + 1,gs1,rfl,by omega,rfl,?_,?_,?_,PS9.out,G9.out⟩
        ·rw [e2];have := OP9.out;rw [HT.out] at this;exact this
        ·rw [e2]
        ·rw [e2];exact LN9.out
       rw [HT.out];clear OP9 LN9 PS9 G9 OPY LNY PSY GY PY y0 EY c0;go_wp2_with fail;go_roundg (n - (c + 1))
       case rel => exact HN1.out
       case measure => exact HMM.out
  ·have hlt' : ¬ (c : Int) < (n : Int) := by omega
   obtain rfl : c = n := by omega
   have FIN : Hid (zxH B w p c (.slice a r cap) m (.returned (.tuple #[.slice pa top pcap,.int .u64 f])) wr) := by
    refine ⟨.slice pa top pcap,gs,?_,?_,?_,G.out⟩
    ·rw [HST.out]
    ·rw [HST.out];exact OP.out
    ·rw [HST.out];exact LN.out
   clear OP LN PS G HG;go_wp2;go_ret2;exact FIN.out
end Go.Proofs.YtkklldokdnfkgaaGreat
