/-
 QFreshToCpy16: Fresh, Far, Cpy16, joined.
-/
import Derived.Test.YtbcgggadelnaaaaGreatQMadeToByWord
import Derived.Laws.AppendOwn
import Derived.Laws.AppendOwnNone
import Derived.Test.YtbcgggadelnaaaaGreatQWordsToBulk
import Derived.Deep.RegionLaw
import Derived.Deep.RegionHeldLaw
import Derived.Test.YtbcgggadelnaaaaGreatQTurn9
import Derived.Test.YtbcgggadelnaaaaGreatQTailLToTo18
import Derived.Test.YtbcgggadelnaaaaGreatQUnit9ToOpenM9

set_option maxRecDepth 100000
set_option maxHeartbeats 6400000
set_option linter.unusedVariables false
set_option linter.unusedSimpArgs false
namespace Go.Proofs.YtbcgggadelnaaaaGreat
open Go.RowKit
def Far (B : Nat) (w : World) (v : Value) (zs : List Int) : Prop :=
 WF zs ∧ zNH v ∧ ∃ a cap,v = .slice a zs.length cap ∧ zs.length ≤ cap ∧ zs.length ≤ 35184372088832 ∧ (zs = [] ∨ ∃ g r,B ≤ g ∧ a = some ⟨g,0,none⟩ ∧ Row w g (ws zs ++ r))
theorem Far.sl {B : Nat} {w : World} {v : Value} {zs : List Int} (h : Far B w v zs) : Sl w.heap.size w v zs := by
 obtain ⟨hw,_,a,cap,h1,h2,h3,h4⟩ := h;refine ⟨hw,a,cap,h1,h2,h3,?_⟩;rcases h4 with e | ⟨g,r,_,h5,h6⟩
 ·exact .inl e
 ·exact .inr ⟨g,0,h5,h6.lt,fun j hj => by rw [Nat.zero_add];exact h6.word hj⟩
theorem Far.form {B : Nat} {w : World} {v : Value} {zs : List Int} (h : Far B w v zs) : ∃ a cap,v = .slice a zs.length cap := by obtain ⟨_,_,a,cap,h1,_⟩ := h;exact ⟨a,cap,h1⟩
theorem run_append_empty (w : World) (ty : TypeId) (g : Nat) {B : Nat} {v : Value} {xs : List Int} (hsl : Sl B w v xs) (hf : zNH v) (hmx : xs.length ≤ 17592186044416) :
  ∃ v' w',(Builtin.append_ #[49,49] ty #[.slice (some ⟨g,0,none⟩) 0 0,v]).run Tryz.prog w = .ok v' w' ∧ Far w.heap.size w' v' xs ∧ Below w.heap.size w w' := by
 obtain ⟨i,hi,hz,hsz,hb⟩ := info_parts Tryz.infoW;have ht := Tryz.underlying49;obtain ⟨hw,ad,cap,rfl,hlc,hcm,hm⟩ := hsl;rcases hf with e | ⟨ad',n',c',e⟩
 ·simp only [Value.slice.injEq] at e
  obtain ⟨rfl,e2,rfl⟩ := e;obtain rfl : xs = [] := List.eq_nil_of_length_eq_zero e2;refine ⟨.slice (some ⟨g,0,none⟩) 0 0,w,?_,⟨WF.nil,.inr ⟨_,_,_,rfl⟩,_,0,rfl,Nat.le_refl _,Nat.zero_le _,.inl rfl⟩,Below.refl _ _⟩;simp [Builtin.append_,run_underlying ht,sizeOf,typeInfo,hi,Builtin.lenOf,Builtin.firstCells,storeCells]
 ·simp only [Value.slice.injEq] at e
  obtain ⟨rfl,_,_⟩ := e
  by_cases h0 : xs = []
  ·subst h0
   refine ⟨.slice (some ⟨g,0,none⟩) 0 0,w,?_,⟨WF.nil,.inr ⟨_,_,_,rfl⟩,_,0,rfl,Nat.le_refl _,Nat.zero_le _,.inl rfl⟩,Below.refl _ _⟩;simp [Builtin.append_,run_underlying ht,sizeOf,typeInfo,hi,Builtin.lenOf,Builtin.firstCells,loadCells,loadCellsFrom,storeCells]
  ·have hpos : 0 < xs.length := by cases xs with
    | nil => exact absurd rfl h0
    | cons x r => simp
   have hnews : ∀ j u,(ws xs)[j]? = some u → w.cell? (ad'.add j) = some u := fun j u hj => by
    have hj' : j < xs.length := by
     have := (List.getElem?_eq_some_iff.1 hj).1
     simpa [zLA] using this
    rcases hm with e | ⟨b,off,h1,h2,h3⟩
    ·exact absurd e h0
    ·simp only [Option.some.injEq] at h1
     subst h1;have e : (⟨b,off,none⟩ : Addr).add j = ⟨b,off + j,none⟩ := by unfold Addr.add;split <;> simp_all
     rw [e,h3 j hj',← hj];simp [ws,hj']
   have hfit : Builtin.nextslicecap (0 + xs.length) 0 * i.bytes ≤ 281474976710656 := by
    unfold Builtin.nextslicecap;rw [if_pos (by omega),hb];omega
   have hr := run_append_grow (P := Tryz.prog) w 49 ty 58 i (.int .u64 0) ht hi hz ⟨g,0,none⟩ 0 0 [] (by simp) (fun j v hj => by simp at hj) ad' xs.length cap (ws xs) (by rw [zLA,hsz];omega) hnews (by omega) (by omega) hfit;have hge := grownCap_ge w (0 + xs.length) 0 58;refine ⟨_,_,hr,⟨hw,.inr ⟨_,_,_,rfl⟩,_,grownCap w (0 + xs.length) 0 58,by rw [Nat.zero_add],by omega,hcm,.inr ⟨w.heap.size,(Builtin.zeroCells (Value.int .u64 0).cells (grownCap w (0 + xs.length) 0 58 - (0 + xs.length))).toList,Nat.le_refl _,rfl,?_⟩⟩,?_⟩
   ·have := heap_alloc_new w.drew (.cells (([] : List Value).toArray ++ (ws xs).toArray ++ Builtin.zeroCells (Value.int .u64 0).cells (grownCap w (0 + xs.length) 0 58 - (0 + xs.length))) 58)
    unfold Row;refine Eq.trans this ?_
    simp
   ·exact ((Below.refl w.heap.size w).drew).alloc (Nat.le_refl _) _
theorem run_append_any (w : World) (ty : TypeId) (g : Nat) {B : Nat} {v : Value} {xs : List Int} (hsl : Sl B w v xs) (hmx : xs.length ≤ 17592186044416) :
  ∃ v' w',(Builtin.append_ #[49,49] ty #[.slice (some ⟨g,0,none⟩) 0 0,v]).run Tryz.prog w = .ok v' w' ∧ Far w.heap.size w' v' xs ∧ Below w.heap.size w w' := by
 have h0 := hsl;obtain ⟨hw,ad,cap,rfl,hlc,hcm,hm⟩ := hsl;cases ad with
 | some ad => exact run_append_empty w ty g h0 (.inr ⟨_,_,_,rfl⟩) hmx
 | none =>
  obtain rfl : xs = [] := by
   rcases hm with e | ⟨b,off,e,_⟩
   ·exact e
   ·cases e
  obtain ⟨i,hi,hz,hsz,hb⟩ := info_parts Tryz.infoW;refine ⟨.slice (some ⟨g,0,none⟩) 0 0,w,?_,⟨WF.nil,.inr ⟨_,_,_,rfl⟩,_,0,rfl,Nat.le_refl _,Nat.zero_le _,.inl rfl⟩,Below.refl _ _⟩;simp [Builtin.append_,run_underlying Tryz.underlying49,sizeOf,typeInfo,hi,Builtin.lenOf,Builtin.firstCells,storeCells]
theorem step_append_any {ops : Array Oper} {o : Oper} {a : Act} {w : World} {K : Act → World → Prop} {Q : Exit → Act → World → Prop} {E : Prop} (hgd : o.guard = none) (s x : Operand)
  (hop : o.op = Op.call { callee := Callee.builtin Builtin.append,args := #[s,x],argTypes := #[49,49] })
  (g : Nat) (v : Value) (xs : List Int) (hs : a.eval s = .slice (some ⟨g,0,none⟩) 0 0) (hx : a.eval x = v) (hsl : Sl w.heap.size w v xs) (hmx : xs.length ≤ 17592186044416)
  (hK : ∀ v' w',Hid (Far w.heap.size w' v' xs) → Hid (Below w.heap.size w w') → K (a.put o.dst v') w') :
  if Region.wanted o (yielded ops a.tmps) = true then Oper.wp Tryz.prog o a w K Q else E := by
 have hw : Region.wanted o (yielded ops a.tmps) = true := by simp [Region.wanted,hgd]
 rw [if_pos hw];obtain ⟨v',w',hr,h1,h2⟩ := run_append_any w o.type g hsl hmx;unfold Oper.wp execOp;simp only [hop,resolve,invoke,builtin,Sem.run_bind,Sem.run_pure,Result.andThen_ok,List.map_toArray,List.map_cons,List.map_nil,hs,hx,hr];exact hK v' w' h1 h2
def zrH (w : World) (z : Int) (k : Nat) (e : Ending) (w' : World) : Prop := ∃ r,e = .returned r ∧ Zi w' r z k ∧ Below w.heap.size w w'
theorem Zi.parts {w : World} {v : Value} {z : Int} {k : Nat} (h : Zi w v z k) : ∃ n,∃ xs : List Int,∃ a c,v = .agg #[.bool n,.slice a xs.length c] := by
 obtain ⟨n,xs,a,c,e,-⟩ := h;exact ⟨n,xs,a,c,e⟩
def FilI (wx : World) (g n i : Nat) (F : Nat → Int) (k : Nat) : Prop := ∃ ps,Arr wx g ps ∧ ps.length = n ∧ ∀ (j : Nat) (p : Value × Value),j < i → ps[j]? = some p → Zi wx (.agg #[p.1,p.2]) (F j) k
theorem FilI.start {w : World} {g n : Nat} (h : Arr w g (List.replicate n zhA)) (F : Nat → Int) (k : Nat) : FilI w g n 0 F k := ⟨_,h,by simp,fun j p hj => by omega⟩
theorem FilI.step {w w' : World} {g n i : Nat} {F : Nat → Int} {k : Nat} (h : FilI w g n i F k) (hb : Below w.heap.size w w') : FilI w' g n i F k := by
 obtain ⟨ps,h1,h2,h3⟩ := h;exact ⟨ps,h1.step hb,h2,fun j p hj hp => (h3 j p hj hp).now hb⟩
theorem FilI.put {w : World} {g n i : Nat} {F : Nat → Int} {k : Nat} {x y : Value} (h : FilI w g n i F k) (hi : i < n) (hz : Zi w (.agg #[x,y]) (F i) k) : FilI ((w.setCell ⟨g,i * 2,none⟩ x).setCell ⟨g,i * 2 + 1,none⟩ y) g n (i + 1) F k := by
 obtain ⟨ps,h1,h2,h3⟩ := h;have hw := h1.wk (i := i) (by omega) x y;refine ⟨ps.set i (x,y),h1.put (by omega) hz.isI,by simpa using h2,fun j p hj hp => ?_⟩
 by_cases q : j = i
 ·subst q
  rw [List.getElem?_set_self (by omega),Option.some.injEq] at hp;subst hp;exact hz.wk hw
 ·rw [List.getElem?_set_ne (by omega)] at hp
  exact (h3 j p (by omega) hp).wk hw
theorem FilI.cells {w : World} {g n i j : Nat} {F : Nat → Int} {k : Nat} (h : FilI w g n i F k) (hj : j < n) : ∃ m a l c,w.cell? ⟨g,j * 2,none⟩ = some (.bool m) ∧ w.cell? ⟨g,j * 2 + 1,none⟩ = some (.slice a l c) ∧ w.frozen? ⟨g,j * 2,none⟩ = false ∧ w.frozen? ⟨g,j * 2 + 1,none⟩ = false := by
 obtain ⟨ps,h1,h2,h3⟩ := h;have hp : ps[j]? = some (ps[j]'(by omega)) := List.getElem?_eq_getElem (by omega);obtain ⟨m,a,l,c,e⟩ := h1.2 _ (List.getElem_mem (l := ps) (n := j) (by omega));have q := h1.at hp;rw [e] at q;exact ⟨m,a,l,c,q.1,q.2,h1.1.fz _,h1.1.fz _⟩
theorem FilI.done {w : World} {g n : Nat} {F : Nat → Int} {k : Nat} (h : FilI w g n n F k) {B : Nat} (hB : B ≤ g) (hn : n ≤ 1048576) : ∃ ps,Prs B w (.slice (some ⟨g,0,none⟩) n n) ps ∧ Zis w ps ((List.range n).map F) k := by
 obtain ⟨ps,h1,rfl,h3⟩ := h;refine ⟨ps,h1.prs hB hn (Nat.le_refl _),by simp,fun j p z hp hz => ?_⟩;have hj : j < ps.length := (List.getElem?_eq_some_iff.1 hp).1;rw [List.getElem?_map,List.getElem?_range hj,Option.map_some,Option.some.injEq] at hz;subst hz;exact h3 j p hj hp
theorem range_getD (zs : List Int) : (List.range zs.length).map (fun j => zs.getD j 0) = zs := by
 apply List.ext_getElem
 ·simp
 ·intro j h1 h2
  simp [h2]
theorem copyInt_any {w : World} {v : Value} {z : Int} {k : Nat} (h : Zi w v z k) (hk : k ≤ 17592186044416) : Calls Tryz.prog 47 #[v] w (zrH w z k) := by
 obtain ⟨n,xs,a,c,rfl,hs,hz,hl⟩ := h;obtain ⟨W0,hW⟩ : ∃ W0,(w.alloc (duo (.bool n) (.slice a xs.length c))).alloc zbox = W0 := ⟨_,rfl⟩
 obtain ⟨b0,sz0⟩ := zZA w (duo (.bool n) (.slice a xs.length c)) zbox;rw [hW] at b0 sz0;have pa : Duo W0 w.heap.size (.bool n) (.slice a xs.length c) := by rw [← hW];exact (Duo.new w _ _).later (by simp) _
 have PR : Hid (Duo W0 (w.heap.size + 1) (.bool false) (.slice none 0 0)) := by
  unfold Hid;rw [← hW];have := Duo.new (w.alloc (duo (.bool n) (.slice a xs.length c))) (.bool false) (.slice none 0 0)
  simpa using this
 have k0 := pa.c0;have k1 := pa.c1;have S0 := hid (hs.now b0);have G0 := hid b0;have EW := hid hW;have HL : Hid (xs.length ≤ 17592186044416) := by unfold Hid;omega
 have HLK := hid hl;have HZ := hid hz;clear hs hz hl hk b0 sz0 hW pa;go_enter Tryz.func47,Tryz.ntmps47;go_wp2_with fail;rw [EW.out];clear EW;have KB : Hid (∀ w',Below W0.heap.size W0 w' → w'.cell? ⟨w.heap.size,0,none⟩ = some (.bool n) ∧ w'.cell? ⟨w.heap.size,1,none⟩ = some (.slice a xs.length c)) := fun w' h => ⟨cnow h k0,cnow h k1⟩
 refine zEA (fun w' => w'.cell? ⟨w.heap.size,0,none⟩ = some (.bool n) ∧ w'.cell? ⟨w.heap.size,1,none⟩ = some (.slice a xs.length c)) 7 (by kernel_rfl) ?_;obtain ⟨D1,hD⟩ : ∃ D1,W0.drew = D1 := ⟨_,rfl⟩
 have GB : Hid (Below W0.heap.size W0 D1) := by unfold Hid;rw [← hD];exact (Below.refl _ _).drew
 rw [hD];clear hD;refine zFA [(0,(.pointer (some ⟨w.heap.size,0,none⟩))),(1,(.bool n)),(3,(.pointer (some ⟨w.heap.size,1,none⟩))),(4,(.slice a xs.length c))] 4 ?_ (KB.out _ GB.out) ?_
 ·simp only [zNA,gA9,g09,g19,Act.put,sI9,s09,s19]
  (repeat' (first | exact trivial | refine And.intro (Or.inl ⟨by rfl,?_⟩) ?_)) <;> (intro w hSw;(try dsimp only at hSw);go_simp)
 simp only [actV,gA9,g09,g19,Act.put,sI9,s09,s19];refine zAA (i := 2) (o := ⟨some 5,.buildSlice 49 0 #[],49, "top.go:93",#[],none⟩) (by kernel_rfl) rfl (fun K hK => ?_);go_simp;obtain ⟨V2,hW⟩ : ∃ V2,D1.alloc (.cells #[] 58) = V2 := ⟨_,rfl⟩
 obtain ⟨b,sz2⟩ := alo1 D1 (.cells #[] 58);rw [hW] at b sz2;replace GB := hid (below_step GB.out b);rw [hW];clear hW b;refine hK.out _ _ (fun _ => KB.out _ GB.out) ?_;clear hK
 try simp only [Act.put]
 refine zAA (i := 5) (o := ⟨some 8,.call { callee := .builtin .append,args := #[.tmp 5,.tmp 7],argTypes := #[49,49] },49, "top.go:93",#[⟨2,.data⟩,⟨4,.data⟩],none⟩) (by kernel_rfl) rfl (fun K hK => ?_);refine step_append_any (by rfl) (.tmp 5) (.tmp 7) (by rfl) _ _ xs (by rfl) (by rfl) (S0.out.now GB.out) HL.out ?_;intro v1 w1 hF hN;replace GB := hid (below_step GB.out hN.out);obtain ⟨a1,c1,rfl⟩ := hF.out.form;have SA := hid hF.out.sl;have PR1 := hid (PR.out.step GB.out);have G1 := hid (below_step G0.out GB.out);clear hF hN;refine hK.out _ _ (fun _ => KB.out _ GB.out) ?_;clear hK
 try simp only [Act.put]
 refine zFA [(6,(.agg #[.bool n,.slice a1 xs.length c1]))] 1 ?_ (KB.out _ GB.out) ?_
 ·simp only [zNA,gA9,g09,g19,Act.put,sI9,s09,s19]
  (repeat' (first | exact trivial | refine And.intro (Or.inl ⟨by rfl,?_⟩) ?_)) <;> (intro w hSw;(try dsimp only at hSw);go_simp)
 simp only [actV,gA9,g09,g19,Act.put,sI9,s09,s19];refine zAA (i := 7) (o := ⟨none,.store 51 (.tmp 2) (.tmp 9),0, "top.go:93",#[⟨6,.data⟩,⟨5,.chain⟩,⟨0,.phase⟩,⟨1,.phase⟩,⟨2,.phase⟩,⟨3,.phase⟩,⟨4,.phase⟩,⟨5,.phase⟩,⟨6,.phase⟩],none⟩) (by kernel_rfl) rfl (fun K hK => ?_);have r0 := PR1.out.c0;have r1 := PR1.out.c1;have f0 := PR1.out.fz 0;have f1 := PR1.out.fz 1;go_simp;clear r0 r1 f0 f1;obtain ⟨V3,hW⟩ : ∃ V3,((w1.setCell ⟨w.heap.size + 1,0,none⟩ (.bool n)).setCell ⟨w.heap.size + 1,1,none⟩ (.slice a1 xs.length c1)) = V3 := ⟨_,rfl⟩
 have PF : Hid (Duo V3 (w.heap.size + 1) (.bool n) (.slice a1 xs.length c1)) := by unfold Hid;rw [← hW];exact PR1.out.set _ _
 have FIN : Hid (zrH w z k (.returned (.agg #[.bool n,.slice a1 xs.length c1])) V3) := by
  unfold Hid;rw [← hW];exact ⟨_,rfl,(show Zi w1 _ z k from ⟨n,xs,a1,c1,rfl,SA.out,HZ.out,HLK.out⟩).wk (PR1.out.wk _ _),bset (bset G1.out (Nat.le_succ _)) (Nat.le_succ _)⟩
 rw [hW];clear hW;refine hK.out _ _ (fun h => absurd h (by decide)) ?_;clear hK
 try simp only [Act.put]
 refine zDA (by kernel_rfl) ?_ _;clear KB GB S0 PR PR1 G0 G1 SA HZ HL HLK;go_wp2;exact bodyPost_ret (zRB Tryz.results47 PF.out _ (by rfl)) rfl FIN.out
def CprH (w : World) (n : Nat) (F : Nat → Int) (k gk : Nat) (s : Value) (wx : World) : Prop :=
 ∃ i : Nat,s = .int .i64 (i : Int) ∧ i ≤ n ∧ gk = n - i ∧ FilI wx w.heap.size n i F k ∧ Below w.heap.size w wx
def zHH (w : World) (zs : List Int) (k : Nat) (e : Ending) (w' : World) : Prop := ∃ v ps,e = .returned v ∧ Prs w.heap.size w' v ps ∧ Zis w' ps zs k ∧ Below w.heap.size w w'
theorem copyRow_any {w : World} {v : Value} {zs : List Int} {k : Nat} (h : Zl w v zs k) (hk : k ≤ 17592186044416) : Calls Tryz.prog 17 #[v] w (zHH w zs k) := by
 have A0 := hid h;obtain ⟨a0,c0,rfl,hc0,hn0,hf0⟩ := h.form9;have RZ := hid (range_getD zs);obtain ⟨n,hn⟩ : ∃ n,zs.length = n := ⟨_,rfl⟩
 rw [hn] at A0 hc0 hn0 RZ ⊢;have HN := hid hn;have F0 := hid hf0;have HK := hid hk;clear h hf0 hn hk;go_enter Tryz.func17,Tryz.ntmps17;go_wp2_with (at_make;refine zRA _ rfl _ _ rfl _ _ n n rfl rfl rfl rfl (Nat.le_refl _) (by omega) ?_)
 intro w1 hrow hb1 hsz1;have H0 : Hid (CprH w n (fun j => zs.getD j 0) k n (.int .i64 0) w1) := ⟨0,rfl,Nat.zero_le _,by omega,FilI.start hrow _ _,hb1⟩
 clear hrow hb1 hsz1;go_wp2_with fail
 go_loopg [4] n (fun gk s4 wx => CprH w n (fun j => zs.getD j 0) k gk s4 wx)
 case atStart => exact H0.out
 case round =>
  clear H0;obtain ⟨i,rfl,hin,hg,hfil,hG⟩ := hrel;have FI := hid hfil;have G := hid hG;have HG := hid hg;clear hfil hG hg
  by_cases hlt : i < n
  ·have hlt' : (i : Int) < (n : Int) := by omega
   obtain ⟨b1,o1,rfl⟩ := F0.out (fun e => by have := HN.out;rw [e] at this;simp at this;omega);obtain ⟨nf,xf,adf,qf,k0,k1,zf⟩ := (A0.out.now G.out).at9 (i := i) (by rw [HN.out];exact hlt);have ZF : Hid (∀ hh : i < zs.length,zs[i] = zs.getD i 0) := fun hh => zCD hh
   rw [ZF.out (by rw [HN.out];exact hlt)] at zf;have HS := hid (copyInt_any zf HK.out);clear zf;have hw := zWA (i := i) (by omega);go_wp2_with fail;refine HS.out.mono ?_;rintro e w1 ⟨r,rfl,m1,b⟩;have FI1 := hid (FI.out.step b);have G1 := hid (below_step G.out b);have M1 := hid m1;obtain ⟨nr,xr,ar,cr,rfl⟩ := m1.parts;obtain ⟨m0,am,lm,cm,e0,e1,e2,e3⟩ := FI1.out.cells hlt;have HN1 : Hid (CprH w n (fun j => zs.getD j 0) k (n - (i + 1)) (.int .i64 ((i + 1 : Nat) : Int)) ((w1.setCell ⟨w.heap.size,i * 2,none⟩ (.bool nr)).setCell ⟨w.heap.size,i * 2 + 1,none⟩ (.slice ar xr.length cr))) :=
    ⟨i + 1,rfl,by omega,rfl,FI1.out.put hlt M1.out,bset (bset G1.out (Nat.le_refl _)) (Nat.le_refl _)⟩
   have HMM : Hid (n - (i + 1) < gk) := by unfold Hid;rw [HG.out];omega
   clear HS FI G HG FI1 G1 M1 m1 b k0 k1 ZF;go_wp2_with fail;go_roundg (n - (i + 1))
   case rel => exact HN1.out
   case measure => exact HMM.out
  ·have hlt' : ¬ (i : Int) < (n : Int) := by omega
   obtain rfl : i = n := by omega
   obtain ⟨ps,p1,p2⟩ := FI.out.done (B := w.heap.size) (Nat.le_refl _) hn0;rw [RZ.out] at p2;have FIN : Hid (zHH w zs k (.returned (.slice (some ⟨w.heap.size,0,none⟩) i i)) wr) := ⟨_,ps,rfl,p1,p2,G.out⟩
   clear FI G HG p1 p2;go_wp2;go_ret;exact FIN.out
theorem Raw.wk3 {w : World} {v : Value} {r c : Int} {l : Nat} {zs : List Int} {b : Nat} (h : Raw w v r c l zs) {x0 x1 : Int} {a : Option Addr} {l' n : Nat} (d : Cel w b 24 [.int .i64 x0,.int .i64 x1,.slice a l' n]) (y0 y1 y2 : Value) : Raw (put3 w b y0 y1 y2) v r c l zs := by
 obtain ⟨a0,cap,ps,h1,h2,h3,h4⟩ := h;refine ⟨a0,cap,ps,h1,?_,h3.wk (d.wk3 _ _ _),h4⟩;obtain ⟨a',c',e1,e2,e3,e4,e5⟩ := h2;refine ⟨a',c',e1,e2,e3,e4,?_⟩;rcases e5 with e5 | ⟨b',off,e6,e7,e8,e9⟩
 ·exact .inl e5
 ·refine .inr ⟨b',off,e6,e7,by simpa using e8,fun j p hp => ?_⟩
  have hne : b ≠ b' := by
   intro e;subst e;have hz : zs[j]? = some (zs[j]'(by rw [← h3.1];exact (List.getElem?_eq_some_iff.1 hp).1)) := List.getElem?_eq_getElem _;obtain ⟨n1,a1,l1,c1,q⟩ := (h3.2 j p _ hp hz).isI;have q1 := (e9 j p hp).1;rw [show p.1 = .bool n1 by rw [Prod.mk.injEq] at q;exact q.1] at q1;have q2 : w.heap[b]? = some (.cells #[.int .i64 x0,.int .i64 x1,.slice a l' n] 24 (0,0)) := d;simp only [World.cell?,q2] at q1;simp at q1;generalize off + j * 2 = o at q1
   match o,q1 with
   | 0,q1 => simp at q1
   | 1,q1 => simp at q1
   | 2,q1 => simp at q1
   | o + 3,q1 => simp at q1
  have e : ∀ o,(put3 w b y0 y1 y2).cell? ⟨b',o,none⟩ = w.cell? ⟨b',o,none⟩ := fun o => by
   rw [World.cell?_setCell_other _ _ _ _ (by simp <;> omega),World.cell?_setCell_other _ _ _ _ (by simp <;> omega),World.cell?_setCell_other _ _ _ _ (by simp <;> omega)]
  rw [e,e];exact e9 j p hp
def zPG (w : World) (r c : Int) (l : Nat) (zs : List Int) (e : Ending) (w' : World) : Prop := ∃ a cap,e = .returned (.agg #[.int .i64 r,.int .i64 c,.slice a l cap]) ∧ Raw w' (.agg #[.int .i64 r,.int .i64 c,.slice a l cap]) r c l zs ∧ Below w.heap.size w w'
theorem zVC {w : World} {v : Value} {r c : Int} {l : Nat} {zs : List Int} (h : Raw w v r c l zs) : Calls Tryz.prog 8 #[v] w (zPG w r c l zs) := by
 obtain ⟨a,cap,ps,rfl,hp,hz,hl,hl2⟩ := h;obtain ⟨W0,hW⟩ : ∃ W0,(w.alloc (.cells #[.int .i64 r,.int .i64 c,.slice a l cap] 24)).alloc mbox = W0 := ⟨_,rfl⟩
 obtain ⟨b0,sz0⟩ := zZA w (.cells #[.int .i64 r,.int .i64 c,.slice a l cap] 24) mbox;rw [hW] at b0 sz0;obtain ⟨pa,pr⟩ := zZB (o1 := [.int .i64 r,.int .i64 c,.slice a l cap]) hW;have k0 := pa.at (i := 0) rfl;have k1 := pa.at (i := 1) rfl;have k2 := pa.at (i := 2) rfl;have PR := hid pr;have ZL := hid ((zeF hp hz).now b0);have G0 := hid b0;have EW := hid hW;have HL := hid hl;have HL2 := hid hl2;clear hp hz b0 sz0 hW pa pr hl hl2;go_enter Tryz.func8,Tryz.ntmps8;go_wp2_with fail;rw [EW.out];clear EW;have KB : Hid (∀ w',Below W0.heap.size W0 w' → w'.cell? ⟨w.heap.size,0,none⟩ = some (.int .i64 r) ∧ w'.cell? ⟨w.heap.size,1,none⟩ = some (.int .i64 c) ∧ w'.cell? ⟨w.heap.size,2,none⟩ = some (.slice a l cap)) := fun w' h => ⟨cnow h k0,cnow h k1,cnow h k2⟩
 refine zEA (fun w' => w'.cell? ⟨w.heap.size,0,none⟩ = some (.int .i64 r) ∧ w'.cell? ⟨w.heap.size,1,none⟩ = some (.int .i64 c) ∧ w'.cell? ⟨w.heap.size,2,none⟩ = some (.slice a l cap)) 8 (by kernel_rfl) ?_;obtain ⟨D1,hD⟩ : ∃ D1,W0.drew = D1 := ⟨_,rfl⟩
 have GB : Hid (Below W0.heap.size W0 D1) := by unfold Hid;rw [← hD];exact (Below.refl _ _).drew
 rw [hD];clear hD;refine zFA [(0,(.pointer (some ⟨w.heap.size,0,none⟩))),(1,(.int .i64 r)),(2,(.pointer (some ⟨w.heap.size,1,none⟩))),(3,(.int .i64 c)),(4,(.pointer (some ⟨w.heap.size,2,none⟩))),(5,(.slice a l cap))] 6 ?_ (KB.out _ GB.out) ?_
 ·simp only [zNA,gA9,g09,g19,Act.put,sI9,s09,s19]
  (repeat' (first | exact trivial | refine And.intro (Or.inl ⟨by rfl,?_⟩) ?_)) <;> (intro w hSw;(try dsimp only at hSw);go_simp)
 simp only [actV,gA9,g09,g19,Act.put,sI9,s09,s19];refine zAA (i := 6) (o := ⟨some 9,.call { callee := .value (.func 17),args := #[.tmp 8],argTypes := #[22] },22, "top.go:103",#[⟨5,.data⟩],none⟩) (by kernel_rfl) rfl (fun K hK => ?_);go_simp;go_at_call 17;refine (copyRow_any (ZL.out.now GB.out) (by decide)).mono ?_;rintro e w2 ⟨u,qs,rfl,p1,z1,b⟩;have lz2 := (show Below _ _ _ from b).size;replace GB := hid (below_step GB.out b);have PR1 := hid (PR.out.step GB.out);have G1 := hid (below_step G0.out GB.out);obtain ⟨ar,cr,rfl,hcr,-,-,-⟩ := p1.form;have HPL : Hid (qs.length = l) := by unfold Hid;rw [z1.1,HL.out]
 rw [HPL.out] at p1 ⊢;have M1 : Hid (Raw w2 (.agg #[.int .i64 r,.int .i64 c,.slice ar l cr]) r c l zs) := ⟨ar,cr,qs,rfl,p1.mono (Nat.zero_le _),z1,HL.out,HL2.out⟩
 clear p1 z1 hcr;clear b;refine hK.out _ _ (fun _ => KB.out _ GB.out) ?_;clear hK;refine zFA [(7,(.agg #[.int .i64 r,.int .i64 c,.slice ar l cr]))] 1 ?_ (KB.out _ GB.out) ?_
 ·simp only [zNA,gA9,g09,g19,Act.put,sI9,s09,s19]
  (repeat' (first | exact trivial | refine And.intro (Or.inl ⟨by rfl,?_⟩) ?_)) <;> (intro w hSw;(try dsimp only at hSw);go_simp)
 simp only [actV,gA9,g09,g19,Act.put,sI9,s09,s19];refine zAA (i := 8) (o := ⟨none,.store 24 (.tmp 2) (.tmp 10),0, "top.go:103",#[⟨7,.data⟩,⟨6,.chain⟩,⟨0,.phase⟩,⟨1,.phase⟩,⟨2,.phase⟩,⟨3,.phase⟩,⟨4,.phase⟩,⟨5,.phase⟩,⟨6,.phase⟩,⟨7,.phase⟩],none⟩) (by kernel_rfl) rfl (fun K hK => ?_);have r0 := PR1.out.at (i := 0) rfl;have r1 := PR1.out.at (i := 1) rfl;have r2 := PR1.out.at (i := 2) rfl;have f0 := PR1.out.fz 0;have f1 := PR1.out.fz 1;have f2 := PR1.out.fz 2;go_simp;clear r0 r1 r2 f0 f1 f2;obtain ⟨V3,hW⟩ : ∃ V3,(((w2.setCell ⟨w.heap.size + 1,0,none⟩ (.int .i64 r)).setCell ⟨w.heap.size + 1,1,none⟩ (.int .i64 c)).setCell ⟨w.heap.size + 1,2,none⟩ (.slice ar l cr)) = V3 := ⟨_,rfl⟩
 have PF : Hid (Cel V3 (w.heap.size + 1) 24 [.int .i64 r,.int .i64 c,.slice ar l cr]) := by unfold Hid;rw [← hW];exact PR1.out.put3 _ _ _
 have FIN : Hid (zPG w r c l zs (.returned (.agg #[.int .i64 r,.int .i64 c,.slice ar l cr])) V3) := by
  unfold Hid;rw [← hW];exact ⟨_,_,rfl,M1.out.wk3 PR1.out _ _ _,zMA G1.out (Nat.le_succ _) _ _ _⟩
 rw [hW];clear hW;refine hK.out _ _ (fun h => absurd h (by decide)) ?_;clear hK
 try simp only [Act.put]
 refine zDA (by kernel_rfl) ?_ _;clear KB GB ZL PR PR1 G0 G1 M1 HL HL2 HPL;go_wp2;exact bodyPost_ret (zHE Tryz.results8 PF.out _ (by rfl)) rfl FIN.out
end Go.Proofs.YtbcgggadelnaaaaGreat
