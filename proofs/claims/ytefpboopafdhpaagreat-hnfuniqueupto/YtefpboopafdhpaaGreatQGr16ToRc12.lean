/-
 QGr16ToRc12: Gr16, Mv18, Rc12, joined.
-/
import Derived.Test.YtefpboopafdhpaaGreatQEachM11ToRows11
import Derived.Test.YtefpboopafdhpaaGreatQCat9ToPr12
import Derived.Test.YtefpboopafdhpaaGreatQUf18ToAdd11
import Derived.Test.YtefpboopafdhpaaGreatQDu12ToHs18

set_option maxRecDepth 100000
set_option maxHeartbeats 6400000
set_option linter.unusedVariables false
set_option linter.unusedSimpArgs false
namespace Go.Proofs.YtefpboopafdhpaaGreat
open Go.ChangeShapes Go.WideShapes Go.ChangeAt Go.RowKit
def grw:List Rs→Int
 | []=>1
 | s :: r=>(1+(s.z.natAbs:Int))*grw r
theorem zpE:∀rs:List Rs,1≤grw rs
 | []=>by simp [grw]
 | s :: r=>by
  have h:=zpE r;have h2:1*1≤(1+(s.z.natAbs:Int))*grw r:=Int.mul_le_mul (by omega) h (by omega) (by omega)
  simpa [grw] using h2
theorem zpH {q:Nat→Rs} {κ:Nat→Nat}:∀l:List Nat,(∀i∈l,((q i).z.natAbs:Int)<pw (κ i))→grw (l.map q)≤pw (ksum (l.map κ))
 | [],_=>by simp [grw,ksum,pw]
 | i :: r,h=>by
  have h1:=h i (by simp);have h2:=zpH r (fun j hj=>h j (by simp [hj]));have h3:=zpE (r.map q);simp only [List.map_cons,grw,zeC,zyA];exact Int.mul_le_mul (by omega) h2 (by omega) (by have:=zmA (κ i);omega)
theorem zLF (n:Nat):grw []≤pw n:=by have:=zmA n;show (1:Int)≤_;omega
theorem Mx.lt {w:World} {v:Value} {r c:Nat} {zs:List Int} {k:Nat} (h:Mx w v r c zs k):∀z∈zs,(z.natAbs:Int)<pw k:=by
 obtain ⟨a,ps,h1,h2,h3,h4⟩:=h;intro z hz;obtain ⟨j,hj,e⟩:=List.getElem_of_mem hz;exact (h3.2 j _ z (List.getElem?_eq_getElem (by rw [h3.1];exact hj)) (by rw [List.getElem?_eq_getElem hj,e])).lt
theorem open_st16 {H:Type} {enc:TypeId×Value→H} {W:World} {fuel:Nat} {cs:List Value} {x:DataW H×List MemPlace}
  (hf:DataW.trod enc Tryz.prog W 0 (fun _=>true) true fuel 46 cs=some x) (hb:Rows.uptoBulk x.1≤1048576) :
  ∃(kind I J:Int) (nv:Bool) (av:Option Addr) (lv cv:Nat) (z:Int) (k:Nat),cs=[.int .i64 kind,.int .i64 I,.int .i64 J,.bool nv,.slice av lv cv]∧Zi W (.agg #[.bool nv,.slice av lv cv]) z k∧k+1≤Rows.uptoBulk x.1:=by
 obtain ⟨y0,y1,y2,y3,n,hx,hl,t0,t1,t2,t3⟩:=Joins.trod_struct4 Tryz.underlying46 hf;rw [Tryz.cellsSt11] at hl;rw [hx] at hb ⊢;simp only [Rows.uptoBulk,Rows.uptoBulkAll] at hb ⊢
 match cs,hl with
 | [c0,c1,c2,c3,c4],_ =>
  simp only [Tryz.cellsInt11,Tryz.cellsZ,List.drop_zero,List.drop_succ_cons,List.take_succ_cons,List.take_zero] at t0 t1 t2 t3;obtain ⟨k,e0,_,_⟩:=DataW.trod_int Tryz.underlying3 t0;obtain ⟨i,e1,_,_⟩:=DataW.trod_int Tryz.underlying3 t1;obtain ⟨j,e2,_,_⟩:=DataW.trod_int Tryz.underlying3 t2;obtain ⟨x0,x1,z,kz,e3,hz,hkz⟩:=zhD t3 (by omega);simp only [List.cons.injEq,and_true] at e0 e1 e2 e3;obtain ⟨nv,av,lv,cv,q1,q2⟩:=hz.parts11;obtain ⟨e3,e4⟩:=e3;subst e0 e1 e2 e3 e4 q1 q2;exact ⟨k,i,j,nv,av,lv,cv,z,kz,rfl,hz,by omega⟩
theorem open_sts16 {H:Type} {enc:TypeId×Value→H} {W:World} {a:Option Addr} {len cap:Nat} {d:DataW H} {p:List MemPlace}
  (h0:DataW.Trod enc Tryz.prog W 0 (fun _=>true) true 25 (.slice a len cap) d p) (hb:Rows.uptoBulk d≤1048576):∃rs,Raws W (.slice a len cap) rs 1048576∧grw rs≤pw 1048576:=by
 obtain ⟨fuel,hf⟩:=h0;rcases Deep.open_slice Tryz.underlying25 hf with ⟨hcs,_⟩ | ⟨x,l,c,m,n,D,Pl,hcs,_,hl,hm,hmm,hx,hel⟩
 ·simp [Value.cells] at hcs
  obtain ⟨rfl,rfl,rfl⟩:=hcs;exact ⟨[],⟨none,0,rfl,by simp,.inl rfl⟩,zLF _⟩
 ·simp [Value.cells] at hcs
  obtain ⟨rfl,rfl,rfl⟩:=hcs;simp only [if_true] at hmm;subst hmm;have hd:d=.slice ((List.range len).map D) ((List.range (m-len)).map fun j=>D (len+j)):=congrArg Prod.fst hx;rw [hd] at hb;simp only [Rows.uptoBulk] at hb;have e1:=zlC ((List.range len).map D);simp only [List.length_map,List.length_range] at e1;rw [Tryz.cellsSt11] at hel
  by_cases he:len=0
  ·subst he
   exact ⟨[],⟨_,_,rfl,by simp,.inl rfl⟩,zLF _⟩
  ·obtain ⟨b,off,spot⟩:=x
   obtain ⟨cs0,h10,h20⟩:=hel 0 (by omega);have hb0:Rows.uptoBulk (D 0)≤1048576:=by
    have:=bulk_in (List.mem_map_of_mem (f:=D) (List.mem_range.2 (show 0<len by omega)));omega
   obtain ⟨_,_,_,_,_,_,_,_,rfl,_⟩:=open_st11 (x:=(D 0,Pl 0)) h20 hb0;have hc:=(World.cells?_some h10).2.2 0 (by omega);rw [Deep.add_add] at hc;simp only [Nat.zero_mul,Nat.add_zero,List.getElem?_cons_zero] at hc;have hspot:spot=none:=by simpa [Addr.add] using World.cell?_spot hc
   subst hspot;have hblk:b<W.heap.size:=by
    have:=World.block_lt_of_cell? W _ hc
    simpa [Addr.add] using this
   obtain ⟨q,hq⟩:=Deep.choose_lt (α:=Rs×Nat) (n:=len) (p:=fun k s=>∃nv av lv cv,
     W.cell? ⟨b,off+k*5,none⟩=some (.int .i64 s.1.kind)∧W.cell? ⟨b,off+k*5+1,none⟩=some (.int .i64 s.1.i)∧W.cell? ⟨b,off+k*5+2,none⟩=some (.int .i64 s.1.j)∧W.cell? ⟨b,off+k*5+3,none⟩=some (.bool nv)∧W.cell? ⟨b,off+k*5+4,none⟩=some (.slice av lv cv) ∧
     Zi W (.agg #[.bool nv,.slice av lv cv]) s.1.z s.2∧s.2+1≤Rows.uptoBulk (D k)) (fun k hk=>by
    obtain ⟨cs',h1,h2⟩:=hel k (by omega);have hbi:Rows.uptoBulk (D k)≤1048576:=by
     have:=bulk_in (List.mem_map_of_mem (f:=D) (List.mem_range.2 hk));omega
    obtain ⟨kind,I,J,nv,av,lv,cv,z,kz,rfl,hz,hkz⟩:=open_st16 (x:=(D k,Pl k)) h2 hbi;have hk':=(World.cells?_some h1).2.2;have e:∀j,(⟨b,off,none⟩:Addr).add j=⟨b,off+j,none⟩:=fun j=>by unfold Addr.add;split <;> simp_all
    have c0:=hk' 0 (by omega);have c1:=hk' 1 (by omega);have c2:=hk' 2 (by omega);have c3:=hk' 3 (by omega);have c4:=hk' 4 (by omega);simp only [e] at c0 c1 c2 c3 c4;exact ⟨(⟨kind,I,J,z⟩,kz),nv,av,lv,cv,c0,c1,c2,c3,c4,hz,hkz⟩)
   have ht:=zmD (D:=D) (q:=fun i=>(q i).2) (List.range len) (fun i hi=>by
    obtain ⟨_,_,_,_,_,_,_,_,_,_,h⟩:=hq i (List.mem_range.1 hi);exact h)
   have hgr:=zpH (q:=fun i=>(q i).1) (κ:=fun i=>(q i).2) (List.range len) (fun i hi=>by
    obtain ⟨_,_,_,_,_,_,_,_,_,h,_⟩:=hq i (List.mem_range.1 hi);exact h.lt)
   have hup:=zUG (m:=ksum ((List.range len).map fun i=>(q i).2)) (n:=1048576) (by omega);refine ⟨(List.range len).map fun i=>(q i).1,⟨some ⟨b,off,none⟩,m,by simp,by simp;omega,.inr ⟨b,off,rfl,hblk,fun j s hs=>?_⟩⟩,Int.le_trans hgr hup⟩;have hj:j<len:=by simpa using (List.getElem?_eq_some_iff.1 hs).1
   rw [List.getElem?_map,List.getElem?_range hj] at hs;simp at hs;subst hs;obtain ⟨nv,av,lv,cv,q0,q1,q2,q3,q4,q5,q6⟩:=hq j hj;have hbj:=bulk_in (List.mem_map_of_mem (f:=D) (List.mem_range.2 hj));exact ⟨nv,av,lv,cv,q0,q1,q2,q3,q4,q5.more (by omega)⟩
end Go.Proofs.YtefpboopafdhpaaGreat
namespace Go.Proofs.YtefpboopafdhpaaGreat
open Go.RowKit
def zJD (m:Nat) (i:Int):Nat:=((i % 18446744073709551616) % (m:Int)).toNat
theorem zND {m:Nat} (hm:0<m) (i:Int):zJD m i<m:=by
 unfold zJD;have h1:=Int.emod_nonneg (i % 18446744073709551616) (show (m:Int)≠0 by omega);have h2:=Int.emod_lt_of_pos (i % 18446744073709551616) (show (0:Int)<(m:Int) by omega);omega
def zFE (k:Int):Bool:=decide (k.tmod 2=0)
def zjB (m:Nat) (rs:List Rs):List (Nat×Nat×Bool×Int):=rs.map fun s=>(zJD m s.i,zJD m s.j,zFE s.kind,s.z)
theorem mvL_lt18 {m:Nat} (hm:0<m) (rs:List Rs):∀s∈zjB m rs,s.1<m∧s.2.1<m:=by
 intro s hs;obtain ⟨r,-,rfl⟩:=List.mem_map.1 hs;exact ⟨zND hm _,zND hm _⟩
theorem mvX_abs18 {X:Nat→Nat→Int} {M:Int} (hM:0≤M) (h:∀a b,((X a b).natAbs:Int)≤M) (i j:Nat) (ev:Bool) (k:Int):∀a b,((mvX X i j ev k a b).natAbs:Int)≤M*(1+(k.natAbs:Int)):=by
 intro a b;have hk:(0:Int)≤k.natAbs:=by omega
 have hg:M*(1+(k.natAbs:Int))=M+M*(k.natAbs:Int):=by rw [Int.mul_add,Int.mul_one]
 have hMk:0≤M*(k.natAbs:Int):=Int.mul_nonneg hM hk;rw [hg];have h0:=h a b;have h1:=h i b;have h2:=h j b;unfold mvX
 split
 ·unfold negX;split <;> (try rw [Int.natAbs_neg]) <;> omega
 ·split
  ·unfold swpX;split
   ·omega
   ·split <;> omega
  ·unfold lesX;split
   ·have h3:((-k*X j b).natAbs:Int)≤M*(k.natAbs:Int):=by
     rw [Int.natAbs_mul,Int.natAbs_neg,Int.natCast_mul,Int.mul_comm];exact Int.mul_le_mul_of_nonneg_right h2 hk
    omega
   ·omega
theorem zMF {m:Nat}:∀(rs:List Rs) {X:Nat→Nat→Int} {M:Int},0≤M→(∀a b,((X a b).natAbs:Int)≤M)→∀a b,((mvsX (zjB m rs) X a b).natAbs:Int)≤M*grw rs
 | [],X,M,hM,h=>fun a b=>by rw [show grw []=1 from rfl,Int.mul_one];exact h a b
 | s :: r,X,M,hM,h=>fun a b=>by
  have h1:=mvX_abs18 hM h (zJD m s.i) (zJD m s.j) (zFE s.kind) s.z;have h2:=zMF (m:=m) r (Int.mul_nonneg hM (by omega)) h1 a b;rw [Int.mul_assoc] at h2;exact h2
theorem zRE:∀(rs:List Rs) (t:Nat),grw (rs.take t)≤grw rs
 | [],t=>by simp
 | s :: r,0=>zpE (s :: r)
 | s :: r,t+1=>by
  have:=zRE r t
  show (1+(s.z.natAbs:Int))*grw (r.take t)≤(1+(s.z.natAbs:Int))*grw r
  exact Int.mul_le_mul_of_nonneg_left this (by omega)
theorem mvs_lt18 {m n k K:Nat} {zs:List Int} {rs:List Rs} (hz:∀z∈zs,(z.natAbs:Int)<pw k) (hg:grw rs≤pw K) (t a b:Nat):((mvsX (zjB m (rs.take t)) (en18 n zs) a b).natAbs:Int)<pw (k+K):=by
 have hp:=zmA k;have h1:=zMF (m:=m) (rs.take t) (X:=en18 n zs) (M:=pw k-1) (by omega) (fun a b=>by
  unfold en18
  by_cases h:a*n+b<zs.length
  ·have:=hz _ (List.getElem_mem h)
   simp only [List.getD_eq_getElem?_getD,List.getElem?_eq_getElem h,Option.getD_some];omega
  ·simp only [List.getD_eq_getElem?_getD,List.getElem?_eq_none (by omega:zs.length≤a*n+b),Option.getD_none]
   show ((0:Int).natAbs:Int)≤_
   simp;omega) a b
 have h2:=zRE rs t;have h3:=zpE (rs.take t);have h5:(pw k-1)*grw (rs.take t)<pw k*grw (rs.take t):=Int.mul_lt_mul_of_pos_right (by omega) (by omega);have h6:pw k*grw (rs.take t)≤pw k*pw K:=Int.mul_le_mul_of_nonneg_left (by omega) (by omega);rw [zyA];omega
theorem mvL_snoc18 {m:Nat} {rs:List Rs} {t:Nat} {s:Rs} (h:rs[t]?=some s) (X:Nat→Nat→Int):mvsX (zjB m (rs.take (t+1))) X=mvX (mvsX (zjB m (rs.take t)) X) (zJD m s.i) (zJD m s.j) (zFE s.kind) s.z:=by
 have e:rs.take (t+1)=rs.take t ++ [s]:=by
  rw [List.take_add_one,h];rfl
 rw [e];unfold zjB;rw [List.map_append];exact zNF _ _ _
def cl18 (X Y:Nat→Nat→Int) (c:Nat):Nat→Nat→Int:=fun a b=>if b<c then Y a b else X a b
theorem cl_zero18 (X Y:Nat→Nat→Int):cl18 X Y 0=X:=by funext a b;simp [cl18]
theorem cl_all18 {m n:Nat} (X Y:Nat→Nat→Int):zG18 m n (cl18 X Y n)=zG18 m n Y:=zLB fun i j hi hj=>by simp [cl18,hj]
theorem zKD {m n i c:Nat} {F:Nat→Nat→Int} (hi:i<m) (hc:c<n) (v:Int):(zG18 m n F).set (i*n+c) v=zG18 m n fun a b=>if a=i∧b=c then v else F a b:=by
 have hlt:=zoC hi hc;refine List.ext_getElem (by simp [zqA]) fun t h1 h2=>?_
 have ht:t<m*n:=by rw [zqA] at h2;exact h2
 have hn:0<n:=by omega
 rw [List.getElem_set];simp only [zG18,List.getElem_map,List.getElem_range]
 by_cases e:i*n+c=t
 ·subst e
  have:=zgF (i:=i) hc;rw [if_pos rfl,this.1,this.2,if_pos ⟨rfl,rfl⟩]
 ·rw [if_neg e,if_neg]
  rintro ⟨rfl,rfl⟩
  apply e
  have:=Nat.div_add_mod t n;rw [Nat.mul_comm] at this;omega
theorem cl_neg18 {m n i c:Nat} {X:Nat→Nat→Int} (hi:i<m) (hc:c<n) (ev:Bool) (k:Int):(zG18 m n (cl18 X (mvX X i i ev k) c)).set (i*n+c) (- X i c)=zG18 m n (cl18 X (mvX X i i ev k) (c+1)):=by
 rw [zKD hi hc];exact zLB fun a b ha hb=>by
  unfold cl18 mvX negX;rw [if_pos rfl]
  by_cases h2:b=c
  ·subst h2
   by_cases h3:a=i <;> simp [h3]
  ·by_cases h1:b<c
   ·simp [h1,h2,Nat.lt_succ_of_lt h1]
   ·have h4:¬b<c+1:=by omega
    simp [h1,h2,h4]
theorem cl_swp18 {m n i j c:Nat} {X:Nat→Nat→Int} (hi:i<m) (hj:j<m) (hc:c<n) (hij:i≠j) (k:Int):((zG18 m n (cl18 X (mvX X i j true k) c)).set (i*n+c) (X j c)).set (j*n+c) (X i c)=zG18 m n (cl18 X (mvX X i j true k) (c+1)):=by
 rw [zKD hi hc,zKD hj hc];exact zLB fun a b ha hb=>by
  unfold cl18 mvX swpX;rw [if_neg hij,if_pos rfl]
  by_cases h2:b=c
  ·subst h2
   by_cases h3:a=j
   ·subst h3;simp [Ne.symm hij]
   ·by_cases h4:a=i
    ·subst h4;simp [hij]
    ·simp [h3,h4]
  ·by_cases h1:b<c
   ·simp [h1,h2,Nat.lt_succ_of_lt h1]
   ·have h4:¬b<c+1:=by omega
    simp [h1,h2,h4]
theorem cl_add18 {m n i j c:Nat} {X:Nat→Nat→Int} (hi:i<m) (hc:c<n) (hij:i≠j) (k:Int):(zG18 m n (cl18 X (mvX X i j false k) c)).set (i*n+c) (k*X j c+X i c)=zG18 m n (cl18 X (mvX X i j false k) (c+1)):=by
 rw [zKD hi hc];exact zLB fun a b ha hb=>by
  unfold cl18 mvX lesX;rw [if_neg hij]
  by_cases h2:b=c
  ·subst h2
   by_cases h3:a=i
   ·simp [h3];grind
   ·simp [h3]
  ·by_cases h1:b<c
   ·simp [h1,h2,Nat.lt_succ_of_lt h1]
   ·have h4:¬b<c+1:=by omega
    simp [h1,h2,h4]
theorem zCH {m n i c:Nat} {X Y:Nat→Nat→Int} (hi:i<m) (hc:c<n):(zG18 m n (cl18 X Y c)).getD (i*n+c) 0=X i c:=by
 rw [zcG hi hc];simp [cl18]
def RCk (w:World) (e:Ending) (w':World):Prop:=e=.returned (.int .i64 0)∧Below w.heap.size w w'
theorem rcheck12 {w:World} {r c:Nat} {a:Option Addr} {l cap:Nat} (hr:r≤64) (hc:c≤64) (hl:l=r*c):Calls Tryz.prog 23 #[matv r c (.slice a l cap)] w (RCk w):=by
 obtain ⟨W0,hW⟩:∃W0,w.alloc (matO r c (.slice a l cap))=W0:=⟨_,rfl⟩
 obtain ⟨b0,sz0⟩:=alo1 w (matO r c (.slice a l cap));rw [hW] at b0 sz0;have P1:Hid (Cel W0 w.heap.size 24 (matc r c (.slice a l cap))):=by unfold Hid;rw [←hW];exact Cel.new w _ _
 have x0:=P1.out.at (i:=0) rfl;have x1:=P1.out.at (i:=1) rfl;have x2:=P1.out.at (i:=2) rfl;rw [←hW] at x0 x1 x2;have G0:=hid b0;have EW:=hid hW;clear b0 sz0 hW P1;have h1:¬(r:Int)<0:=by omega
 have h2:¬(64:Int)<(r:Int):=by omega
 have h3:¬(c:Int)<0:=by omega
 have h4:¬(64:Int)<(c:Int):=by omega
 have hw:=zsB (i:=r) (c:=c) hr hc;rw [←hl] at hw;have hw2:=hw;rw [IntKind.wrap_i64] at hw2;have q0:((l:Int) != (l:Int))=false:=by simp
 clear hl;go_enter Tryz.func23,Tryz.ntmps23;go_wp2;rw [EW.out];go_ret;exact ⟨rfl,G0.out⟩
theorem rcheckM {w:World} {v:Value} {r c:Nat} {zs:List Int} {K0:Nat} (h:Mx w v r c zs K0):∀w',Below w.heap.size w w'→Calls Tryz.prog 23 #[v] w' (RCk w'):=fun w' hb=>by
 obtain ⟨a,cap,rfl,h1,h2⟩:=h.form;exact rcheck12 h1 h2 rfl
def zwF (w:World) (r c n:Nat) (e:Ending) (w':World):Prop:=∃g,e=.returned (matv r c (.slice (some ⟨g,0,none⟩) n n))∧w.heap.size≤g∧Arr w' g (List.replicate n zAF)∧Below w.heap.size w w'
theorem rblank12 {w:World} {r c n:Nat} (hr:r≤64) (hc:c≤64) (hn:r*c=n):Calls Tryz.prog 42 #[.int .i64 (r:Int),.int .i64 (c:Int)] w (zwF w r c n):=by
 obtain ⟨W0,hW⟩:∃W0,w.alloc mbox=W0:=⟨_,rfl⟩
 obtain ⟨b0,sz0⟩:=alo1 w mbox;rw [hW] at b0 sz0;have P4:=hid (zPD hW);have hm0:=zsB (i:=r) (c:=c) hr hc;have hrc:r*c≤64*64:=Nat.mul_le_mul hr hc;rw [hn] at hm0 hrc;have hm2:=hm0;rw [IntKind.wrap_i64] at hm2;have G0:=hid b0;have EW:=hid hW;have SZ:=hid sz0;clear b0 hW sz0 hn;go_enter Tryz.func42,Tryz.ntmps42;go_wp2_with (at_make;rw [EW.out];refine zlA _ rfl _ _ rfl _ _ n n rfl rfl rfl rfl (Nat.le_refl _) (by omega) ?_)
 intro w2 hrow hb2 hsz2;have PR:=hid (P4.out.step hb2);have r0:=PR.out.at (i:=0) rfl;have r1:=PR.out.at (i:=1) rfl;have r2:=PR.out.at (i:=2) rfl;have f0:=PR.out.fz 0;have f1:=PR.out.fz 1;have f2:=PR.out.fz 2;have FIN:Hid (zwF w r c n (.returned (.agg #[.int .i64 (r:Int),.int .i64 (c:Int),.slice (some ⟨W0.heap.size,0,none⟩) n n])) (put3 w2 w.heap.size (.int .i64 (r:Int)) (.int .i64 (c:Int)) (.slice (some ⟨W0.heap.size,0,none⟩) n n))) :=
  ⟨_,rfl,by have:=SZ.out;omega,hrow.put3 (by have:=SZ.out;omega) _ _ _,zzA (below_step G0.out hb2) (Nat.le_refl _) _ _ _⟩
 have PF:=hid (PR.out.put3 (.int .i64 (r:Int)) (.int .i64 (c:Int)) (.slice (some ⟨W0.heap.size,0,none⟩) n n));clear P4 hrow hb2 hsz2 G0 EW;go_wp2;exact bodyPost_ret (znG Tryz.results42 PF.out _ (by rfl)) rfl FIN.out
end Go.Proofs.YtefpboopafdhpaaGreat
