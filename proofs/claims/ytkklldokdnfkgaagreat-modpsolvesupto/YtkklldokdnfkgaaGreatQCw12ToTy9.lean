/-
 QCw12ToTy9: Cw12, Ty9, joined.
-/
import Derived.Test.YtkklldokdnfkgaaGreatQRd12
import Derived.Lib.AppendZeros
import Derived.Laws.AppendOwnNone
import Derived.Test.YtkklldokdnfkgaaGreatQFil9ToCat9

set_option maxRecDepth 100000
set_option maxHeartbeats 6400000
set_option linter.unusedVariables false
set_option linter.unusedSimpArgs false
namespace Go.Proofs.YtkklldokdnfkgaaGreat
open Go.RowKit
def Sw (w : World) (u : Value) (xs : List Int) : Prop := ∃ b off cap,u = .slice (some ⟨b,off,none⟩) xs.length cap ∧ xs.length ≤ cap ∧ b < w.heap.size ∧ ∀ j (h : j < xs.length),w.cell? ⟨b,off + j,none⟩ = some (.int .u64 xs[j])
theorem Sw.now {w w' : World} {u : Value} {xs : List Int} (h : Sw w u xs) (hb : Below w.heap.size w w') : Sw w' u xs := by
 obtain ⟨b,off,cap,h1,h2,h3,h4⟩ := h;exact ⟨b,off,cap,h1,h2,Nat.lt_of_lt_of_le h3 hb.size,fun j hj => (hb.cell (p := ⟨b,off + j,none⟩) h3).trans (h4 j hj)⟩
def Rdl (w : World) (v : Value) (ls : List (List Int)) : Prop :=
 ∃ a c,v = .slice a ls.length c ∧ ls.length ≤ c ∧ ls.length ≤ 1048576 ∧ (ls = [] ∨ ∃ b off,a = some ⟨b,off,none⟩ ∧ b < w.heap.size ∧ ∀ (j : Nat) (xs : List Int),ls[j]? = some xs → ∃ u,w.cell? ⟨b,off + j,none⟩ = some u ∧ Sw w u xs)
theorem Rdl.now {w w' : World} {v : Value} {ls : List (List Int)} (h : Rdl w v ls) (hb : Below w.heap.size w w') : Rdl w' v ls := by
 obtain ⟨a,c,h1,h2,h3,h4⟩ := h;refine ⟨a,c,h1,h2,h3,?_⟩;rcases h4 with h4 | ⟨b,off,h5,h6,h7⟩
 ·exact .inl h4
 ·refine .inr ⟨b,off,h5,Nat.lt_of_lt_of_le h6 hb.size,fun j xs hp => ?_⟩
  obtain ⟨u,q1,q2⟩ := h7 j xs hp;exact ⟨u,(hb.cell (p := ⟨b,off + j,none⟩) h6).trans q1,q2.now hb⟩
theorem Rdl.form {w : World} {v : Value} {ls : List (List Int)} (h : Rdl w v ls) : ∃ a c,v = .slice a ls.length c ∧ ls.length ≤ c ∧ ls.length ≤ 1048576 ∧ (ls ≠ [] → ∃ b off,a = some ⟨b,off,none⟩) := by
 obtain ⟨a,c,h1,h2,h3,h4⟩ := h;refine ⟨a,c,h1,h2,h3,fun hne => ?_⟩;rcases h4 with h4 | ⟨b,off,h5,h6,h7⟩
 ·exact absurd h4 hne
 ·exact ⟨b,off,h5⟩
theorem Rdl.at {w : World} {b off l c : Nat} {ls : List (List Int)} (h : Rdl w (.slice (some ⟨b,off,none⟩) l c) ls) {i : Nat} {xs : List Int} (hi : ls[i]? = some xs) : ∃ u,w.cell? ⟨b,off + i,none⟩ = some u ∧ Sw w u xs := by
 obtain ⟨a',c',h1,h2,h3,h4⟩ := h;rcases h4 with h4 | ⟨b',off',h5,h6,h7⟩
 ·subst h4;simp at hi
 ·simp only [Value.slice.injEq] at h1
  obtain ⟨rfl,-,-⟩ := h1;simp only [Option.some.injEq,Addr.mk.injEq,and_true] at h5;obtain ⟨rfl,rfl⟩ := h5;exact h7 i xs hi
def OwnW (B : Nat) (w : World) (v : Value) (xs : List Int) : Prop := w.ownsRow B 25 1 v xs.length (ws xs)
theorem wpList_append_ow (w : World) {ops : Array Oper} {rest : List Oper} {o : Oper} {a : Act} {Q : Exit → Act → World → Prop}
  (hgd : o.guard = none) (s x : Operand) (hop : o.op = .call { callee := .builtin .append,args := #[s,x],argTypes := #[42,42] })
  (B : Nat) (v u : Value) (ps qs : List Int) (hs : a.eval s = v) (hB : OwnW B w v ps) (hx : a.eval x = u) (hu : Sw w u qs) (hlen : ps.length + qs.length ≤ 2097152) (hBs : B ≤ w.heap.size)
  (hK : ∀ v' w',Hid (OwnW B w' v' (ps ++ qs)) → Hid (w.grownBy w' v.ownBlock) → wpList Tryz.prog ops Q rest (a.put o.dst v') w') :
  wpList Tryz.prog ops Q (o :: rest) a w := by
 obtain ⟨i,hii,hz,hsz,hby⟩ := info_parts Tryz.infoW;obtain ⟨b,off,cu,rfl,hcu,hbs,hc⟩ := hu;refine wpList_plain hgd fun K hK' => ?_
 have hnews : ∀ j y,(ws qs)[j]? = some y → w.cell? ((⟨b,off,none⟩ : Addr).add j) = some y := fun j y hj => by
  have hjl := (List.getElem?_eq_some_iff.1 hj).1;have hjl' : j < qs.length := by simpa [ws] using hjl
  have ea : ∀ j,(⟨b,off,none⟩ : Addr).add j = ⟨b,off + j,none⟩ := fun j => by unfold Addr.add;split <;> simp_all
  rw [ea,hc j hjl',← hj];simp [ws,hjl']
 obtain ⟨v',w',hr,k1,k2,-,-⟩ := run_append_own_at (P := Tryz.prog) w B 42 o.type 25 i (.int .u64 0) 1 8 Tryz.underlying42 hii hz hsz hby rfl (by omega) v ps.length (ws ps) hB ⟨b,off,none⟩ qs.length cu (ws qs) (by simp [ws]) hnews (fun y hy => by obtain ⟨z,-,rfl⟩ := List.mem_map.1 hy;rfl) (by unfold maxLen;omega) (by omega) hBs;unfold Oper.wp execOp;simp only [hop,resolve,invoke,builtin,Sem.run_bind,Sem.run_pure,Result.andThen_ok,List.map_toArray,List.map_cons,List.map_nil,hs,hx,hr];refine hK' _ _ (hK v' w' ?_ k2);unfold Hid OwnW ws;rw [List.map_append,List.length_append];exact k1
def zaI (w : World) (e : Ending) (w' : World) : Prop := ∃ v,e = .returned v ∧ w'.ownsRow w.heap.size 25 1 v 0 [] ∧ Below w.heap.size w w'
theorem growW_any {w : World} {N : Nat} (hN : N ≤ 1048576) : Calls Tryz.prog 63 #[.slice none 0 0,.int .i64 (N : Int)] w (zaI w) := by
 have w0 : IntKind.i64.wrap (N : Int) = (N : Int) := by rw [zRA] <;> omega
 have w1 : ¬ ((N : Int) < 0) := by omega
 by_cases h0 : N = 0
 ·subst h0
  have FIN : Hid (zaI w (.returned (.slice none 0 0)) w) := ⟨_,rfl,World.ownsRow_nil _ _ _ _,Below.refl _ _⟩
  go_enter Tryz.func63,Tryz.ntmps63;go_wp2;go_ret;exact FIN.out
 ·obtain ⟨i,hii,hz,hsz,hby⟩ := info_parts Tryz.infoW
  have hrz := fun wx : World => Lib.run_append_nil_zeros (P := Tryz.prog) wx 42 3 42 25 i (.int .u64 0) .i64 .i64 Tryz.underlying42 Tryz.underlying3 hii hz N (by omega) (by omega) (by omega) (by rw [hby];omega)
  have w2 : (0 : Int) < (N : Int) := by omega
  have hge := grownCap_ge w N 0 25;have hle := grownCap_le_maxLen w N 0 25 (by unfold maxLen;omega);have FIN : Hid (zaI w (.returned (.slice (some ⟨w.heap.size,0,none⟩) 0 (grownCap w N 0 25))) (w.drew.alloc (.cells (Builtin.zeroCells (Value.int .u64 0).cells N ++ Builtin.zeroCells (Value.int .u64 0).cells (grownCap w N 0 25 - N)) 25))) := by
   refine ⟨_,rfl,World.ownsRow_made (base := w.heap.size) (size := 1) w.drew _ _ (Nat.le_refl _) hle ?_,((Below.refl _ _).drew).alloc (Nat.le_refl _) _⟩;rw [Array.size_append,size_zeroCells,size_zeroCells];have : (Value.int IntKind.u64 0).cells.size = 1 := rfl;rw [this];omega
  go_enter Tryz.func63,Tryz.ntmps63;go_wp2_with (at_builtin;refine Lib.wpList_append_run _ rfl _ _ _ _ rfl _ _ rfl rfl _ _ (hrz _) ?_)
  go_wp2;go_ret;exact FIN.out
def zbI (w : World) (n : Nat) (ls : List (List Int)) (gk : Nat) (s6 s27 : Value) (wx : World) : Prop := ∃ i : Nat,s27 = .int .i64 (i : Int) ∧ i ≤ n ∧ gk = n - i ∧ OwnW w.heap.size wx s6 (ls.take i).flatten ∧ Below w.heap.size w wx
def zOG (w : World) (xs : List Int) (e : Ending) (w' : World) : Prop := ∃ v,e = .returned v ∧ OwnW w.heap.size w' v xs ∧ Below w.heap.size w w'
theorem grown_belowW {w0 w w' : World} {v : Value} {n : Nat} {xs : List Value} (hb : Below w0.heap.size w0 w) (h : w.ownsRow w0.heap.size 25 1 v n xs) (hg : w.grownBy w' v.ownBlock) : Below w0.heap.size w0 w' := by
 refine hb.trans ⟨hg.os,hg.tape,hg.output,hg.size,fun b hb' => hg.block b (Nat.lt_of_lt_of_le hb' hb.size) (fun e => ?_)⟩;have := (World.ownsRow.lt h b e.symm).1;omega
theorem concatW_any {w : World} {m : Nat} {v : Value} {ls : List (List Int)} (hv : Rdl w v ls) (hm : WidE m ls) (hl : ls.length * m ≤ 1048576) (hm1 : m ≤ 1048576) :
  Calls Tryz.prog 42 #[v] w (zOG w ls.flatten) := by
 have V0 := hid hv;have HM := hid hm;obtain ⟨a0,c0,rfl,hc0,hn0,hf0⟩ := hv.form;have HT := hid (fun i (hi : i ≤ ls.length) => zQF (pss := ls) (fun ps hp => hm ps hp) i hi);have HFL : Hid (ls.flatten = (ls.take ls.length).flatten) := by unfold Hid;rw [List.take_length]
 obtain ⟨FT,hFT⟩ : ∃ FT,ls.flatten = FT := ⟨_,rfl⟩
 rw [hFT] at HFL ⊢;obtain ⟨n,hn⟩ : ∃ n,ls.length = n := ⟨_,rfl⟩
 rw [hn] at V0 hc0 hn0 hl HFL HT ⊢;have HN := hid hn;have F0 := hid hf0;clear hv hm hf0 hn hFT;have H0 : Hid (CatA w n m n (.int .i64 0) (.int .i64 0) w) := ⟨0,by simp,rfl,Nat.zero_le _,by omega,rfl⟩
 go_enter Tryz.func42,Tryz.ntmps42;go_wp2_with fail
 go_loopg [3,11] n (fun gk s3 s11 wx => CatA w n m gk s3 s11 wx)
 case atStart => exact H0.out
 case round =>
  clear H0;obtain ⟨i,rfl,rfl,hin,hg,hwx⟩ := hrel;have hwx' := hwx.symm;subst hwx';clear hwx;have HG := hid hg;clear hg;have him : i * m ≤ n * m := Nat.mul_le_mul_right m hin
  by_cases hlt : i < n
  ·have hlt' : (i : Int) < (n : Int) := by omega
   obtain ⟨b1,o1,rfl⟩ := F0.out (fun e => by have := HN.out;rw [e] at this;simp at this;omega);obtain ⟨u,k0,pu⟩ := V0.out.at (i := i) (List.getElem?_eq_getElem (by rw [HN.out];exact hlt));obtain ⟨bu,ou,cu,hu,-,-,-⟩ := pu;rw [HM.out _ (List.getElem_mem (l := ls) (n := i) (by rw [HN.out];exact hlt))] at hu;subst hu;have hw := zkA (i := i) (by omega);have e2 : (i + 1) * m = i * m + m := by rw [Nat.add_mul,Nat.one_mul]
   have e3 : (i + 1) * m ≤ n * m := Nat.mul_le_mul_right m hlt;have HN1 : Hid (∀ lo : Nat,lo = i * m → CatA w n m (n - (i + 1)) (.int .i64 ((lo : Int) + (m : Int))) (.int .i64 ((i + 1 : Nat) : Int)) w) := fun lo hlo => ⟨i + 1,by rw [e2,hlo];congr 1,rfl,by omega,rfl,rfl⟩
   have HMM : Hid (n - (i + 1) < gk) := by unfold Hid;rw [HG.out];omega
   obtain ⟨lo,hlo⟩ : ∃ lo,i * m = lo := ⟨_,rfl⟩
   have HR := hid (HN1.out lo hlo.symm);have hs : IntKind.i64.wrap ((lo : Int) + (m : Int)) = (lo : Int) + (m : Int) := by rw [zRA] <;> omega
   have hs' : ¬ ((lo : Int) + (m : Int) < 0) := by omega
   rw [hlo];clear HN1 HG e2 e3 hlo him;go_wp2_with fail;go_roundg (n - (i + 1))
   case rel => exact HR.out
   case measure => exact HMM.out
  ·have hlt' : ¬ (i : Int) < (n : Int) := by omega
   obtain rfl : i = n := by omega
   have HS := hid (growW_any (w := w) (N := i * m) hl);have HNN := hid hl;clear him hl;obtain ⟨N,hNN⟩ : ∃ N,i * m = N := ⟨_,rfl⟩
   rw [hNN] at HS ⊢;clear HG hNN;go_wp2_with fail;refine HS.out.mono ?_;rintro e w1 ⟨v,rfl,ho,b⟩;have H1 : Hid (zbI w i ls i v (.int .i64 0) w1) := ⟨0,rfl,Nat.zero_le _,by omega,by simpa [OwnW,ws] using ho,b⟩
   clear HS ho b;go_wp2_with fail
   go_loopg [6,27] i (fun gk s6 s27 wx => zbI w i ls gk s6 s27 wx)
   case atStart => exact H1.out
   case round =>
    clear H1;obtain ⟨j,rfl,hjn,hg,ho,hG⟩ := hrel;have OW := hid ho;have G := hid hG;have HG := hid hg;clear ho hG hg
    by_cases hlt2 : j < i
    ·have hlt2' : (j : Int) < (i : Int) := by omega
     obtain ⟨b1,o1,rfl⟩ := F0.out (fun e => by have := HN.out;rw [e] at this;simp at this;omega);obtain ⟨u,k0,pu⟩ := (V0.out.now G.out).at (i := j) (List.getElem?_eq_getElem (by rw [HN.out];exact hlt2));have hpj : ls[j]? = some (ls[j]'(by rw [HN.out];exact hlt2)) := List.getElem?_eq_getElem (by rw [HN.out];exact hlt2);have HTS := hid (take_flat_succ hpj);obtain ⟨ps,hps⟩ : ∃ ps,ls[j]'(by rw [HN.out];exact hlt2) = ps := ⟨_,rfl⟩
     rw [hps] at pu HTS;have HLN : Hid ((ls.take j).flatten.length + ps.length ≤ 2097152) := by
      unfold Hid;have := HT.out (j + 1) (by omega);rw [HTS.out,List.length_append] at this;have h2 : (j + 1) * m ≤ i * m := Nat.mul_le_mul_right m hlt2;have h3 := HNN.out;omega
     have PU := hid pu;obtain ⟨bu,ou,cu,rfl,-,-,-⟩ := pu;have hw := zkA (i := j) (by omega);clear hpj hps;go_wp2_with (at_builtin;refine wpList_append_ow _ rfl (.tmp 31) (.tmp 32) rfl w.heap.size _ _ (ls.take j).flatten ps rfl OW.out rfl PU.out HLN.out G.out.size ?_)
     intro v2 w2 ho2 hg2;have HN1 : Hid (zbI w i ls (i - (j + 1)) v2 (.int .i64 ((j + 1 : Nat) : Int)) w2) := ⟨j + 1,rfl,by omega,rfl,by rw [HTS.out];exact ho2.out,grown_belowW G.out OW.out hg2.out⟩
     have HMM : Hid (i - (j + 1) < gk) := by unfold Hid;rw [HG.out];omega
     clear OW G HG ho2 hg2 HTS HLN PU k0;go_wp2_with fail;go_roundg (i - (j + 1))
     case rel => exact HN1.out
     case measure => exact HMM.out
    ·have hlt2' : ¬ (j : Int) < (i : Int) := by omega
     obtain rfl : j = i := by omega
     rw [← HFL.out] at OW;have FIN : Hid (∀ v6,OwnW w.heap.size wr v6 FT → zOG w FT (.returned v6) wr) := fun v6 h => ⟨v6,rfl,h,G.out⟩
     have FIN2 := hid (FIN.out _ OW.out);clear FIN OW G HG;go_wp2;go_ret;exact FIN2.out
def Ty (T : TypeId) (w w' : World) : Prop := w.heap.size ≤ w'.heap.size ∧ ∀ (b : Nat) (L : Array Value) (T' : TypeId) (fr : Nat × Nat),w.heap[b]? = some (.cells L T' fr) → T' ≠ T → w'.heap[b]? = some (.cells L T' fr)
theorem Ty.trans {T : TypeId} {a b c : World} (h : Ty T a b) (h' : Ty T b c) : Ty T a c := ⟨Nat.le_trans h.1 h'.1,fun g L T' fr e hne => h'.2 g L T' fr (h.2 g L T' fr e hne) hne⟩
theorem Ty.set {T : TypeId} {w : World} {g i : Nat} {L : List Value} {u : Value} (d : Cel w g T L) : Ty T w (w.setCell ⟨g,i,none⟩ u) := by
 refine ⟨by simp,fun b L' T' fr e hne => ?_⟩;have hb : b ≠ g := fun q => by
  subst q;have := e.symm.trans (show w.heap[b]? = _ from d);simp at this;exact hne this.2.1
 exact (Below.heap_setCell w _ u b (fun q => hb (by simpa using q))).trans e
theorem Zm.ty {T : TypeId} {B k : Nat} {w w' : World} {v : Value} {z : Int} (h : Zm B w v z k) (ht : Ty T w w') (hT : 25 ≠ T) : Zm B w' v z k := by
 obtain ⟨n1,zs,a,c,e,hm,rest⟩ := h;refine ⟨n1,zs,a,c,e,?_,rest⟩;obtain ⟨hw,h | ⟨g,r,cap,h1,h2,h3,h4,h5,h6⟩⟩ := hm
 ·exact ⟨hw,.inl h⟩
 ·exact ⟨hw,.inr ⟨g,r,cap,h1,h2,h3,h4,h5,ht.2 g _ _ _ h6 hT⟩⟩
def PrsT (w : World) (v : Value) (ps : List (Value × Value)) : Prop := Prs 0 w v ps ∧ ∀ (b off l c : Nat),v = .slice (some ⟨b,off,none⟩) l c → ∃ (L : Array Value) (fr : Nat × Nat),w.heap[b]? = some (.cells L 44 fr)
theorem PrsT.ty {T : TypeId} {w w' : World} {v : Value} {ps : List (Value × Value)} (h : PrsT w v ps) (ht : Ty T w w') (hT : 44 ≠ T) : PrsT w' v ps := by
 have key : ∀ (b off l c : Nat),v = .slice (some ⟨b,off,none⟩) l c → w'.heap[b]? = w.heap[b]? := fun b off l c e => by
  obtain ⟨L,fr,q⟩ := h.2 b off l c e;rw [ht.2 b L _ fr q hT,q]
 refine ⟨?_,fun b off l c e => by
  obtain ⟨L,fr,q⟩ := h.2 b off l c e;exact ⟨L,fr,ht.2 b L _ fr q hT⟩⟩
 obtain ⟨a,c,h1,h2,h3,hx,h4⟩ := h.1;refine ⟨a,c,h1,h2,h3,hx,?_⟩;rcases h4 with h4 | ⟨b,off,h5,h5',h6,h7⟩
 ·exact .inl h4
 ·have e := key b off ps.length c (by rw [h1,h5])
  refine .inr ⟨b,off,h5,h5',Nat.lt_of_lt_of_le h6 ht.1,fun j p hp => ?_⟩;have q := h7 j p hp;exact ⟨(World.cell?_of_block (a := ⟨b,off + j * 2,none⟩) e).trans q.1,(World.cell?_of_block (a := ⟨b,off + j * 2 + 1,none⟩) e).trans q.2⟩
theorem Arr.prsT {w : World} {g : Nat} {ps : List (Value × Value)} (h : Arr w g ps) (hl : ps.length ≤ 1048576) : PrsT w (.slice (some ⟨g,0,none⟩) ps.length ps.length) ps := by
 refine ⟨h.prs (Nat.zero_le _) hl (Nat.le_refl _),fun b off l c e => ?_⟩;simp only [Value.slice.injEq,Option.some.injEq,Addr.mk.injEq] at e;obtain ⟨⟨rfl,-,-⟩,-,-⟩ := e;exact ⟨_,_,h.1⟩
def Zms (w : World) (ps : List (Value × Value)) (zs : List Int) (k : Nat) : Prop := ps.length = zs.length ∧ ∀ (j : Nat) (p : Value × Value) (z : Int),ps[j]? = some p → zs[j]? = some z → Zm 0 w (.agg #[p.1,p.2]) z k
theorem Zms.ty {T : TypeId} {w w' : World} {ps : List (Value × Value)} {zs : List Int} {k : Nat} (h : Zms w ps zs k) (ht : Ty T w w') (hT : 25 ≠ T) : Zms w' ps zs k := ⟨h.1,fun j p z hp hz => (h.2 j p z hp hz).ty ht hT⟩
theorem Zms.now {w w' : World} {ps : List (Value × Value)} {zs : List Int} {k : Nat} (h : Zms w ps zs k) (hb : Below w.heap.size w w') : Zms w' ps zs k := ⟨h.1,fun j p z hp hz => (h.2 j p z hp hz).now hb⟩
theorem Zms.zcs {w : World} {ps : List (Value × Value)} {zs : List Int} {k : Nat} (h : Zms w ps zs k) : Zcs w ps zs k := ⟨h.1,fun j p z hp hz => (h.2 j p z hp hz).zc⟩
def FilM (wx : World) (g n i : Nat) (F : Nat → Int) (k : Nat) : Prop := ∃ ps,Arr wx g ps ∧ ps.length = n ∧ ∀ (j : Nat) (p : Value × Value),j < i → ps[j]? = some p → Zm 0 wx (.agg #[p.1,p.2]) (F j) k
theorem FilM.start {w : World} {g n : Nat} (h : Arr w g (List.replicate n ztF)) (F : Nat → Int) (k : Nat) : FilM w g n 0 F k := ⟨_,h,by simp,fun j p hj => by omega⟩
theorem FilM.step {w w' : World} {g n i : Nat} {F : Nat → Int} {k : Nat} (h : FilM w g n i F k) (hb : Below w.heap.size w w') : FilM w' g n i F k := by
 obtain ⟨ps,h1,h2,h3⟩ := h;exact ⟨ps,h1.step hb,h2,fun j p hj hp => (h3 j p hj hp).now hb⟩
theorem FilM.put {w : World} {g n i : Nat} {F : Nat → Int} {k : Nat} {x y : Value} (h : FilM w g n i F k) (hi : i < n) (hz : Zm 0 w (.agg #[x,y]) (F i) k) : FilM ((w.setCell ⟨g,i * 2,none⟩ x).setCell ⟨g,i * 2 + 1,none⟩ y) g n (i + 1) F k := by
 obtain ⟨ps,h1,h2,h3⟩ := h;have ht : Ty 44 w ((w.setCell ⟨g,i * 2,none⟩ x).setCell ⟨g,i * 2 + 1,none⟩ y) := (Ty.set h1.1).trans (Ty.set (h1.1.set _ _));refine ⟨ps.set i (x,y),h1.put (by omega) hz.zi.isI,by simpa using h2,fun j p hj hp => ?_⟩
 by_cases q : j = i
 ·subst q
  rw [List.getElem?_set_self (by omega),Option.some.injEq] at hp;subst hp;exact hz.ty ht (by decide)
 ·rw [List.getElem?_set_ne (by omega)] at hp
  exact (h3 j p (by omega) hp).ty ht (by decide)
theorem FilM.cells {w : World} {g n i j : Nat} {F : Nat → Int} {k : Nat} (h : FilM w g n i F k) (hj : j < n) : ∃ m a l c,w.cell? ⟨g,j * 2,none⟩ = some (.bool m) ∧ w.cell? ⟨g,j * 2 + 1,none⟩ = some (.slice a l c) ∧ w.frozen? ⟨g,j * 2,none⟩ = false ∧ w.frozen? ⟨g,j * 2 + 1,none⟩ = false := by
 obtain ⟨ps,h1,h2,h3⟩ := h;have hp : ps[j]? = some (ps[j]'(by omega)) := List.getElem?_eq_getElem (by omega);obtain ⟨m,a,l,c,e⟩ := h1.2 _ (List.getElem_mem (l := ps) (n := j) (by omega));have q := h1.at hp;rw [e] at q;exact ⟨m,a,l,c,q.1,q.2,h1.1.fz _,h1.1.fz _⟩
theorem FilM.done {w : World} {g n : Nat} {F : Nat → Int} {k : Nat} (h : FilM w g n n F k) (hn : n ≤ 1048576) : ∃ ps,PrsT w (.slice (some ⟨g,0,none⟩) n n) ps ∧ Zms w ps ((List.range n).map F) k := by
 obtain ⟨ps,h1,rfl,h3⟩ := h;refine ⟨ps,h1.prsT hn,by simp,fun j p z hp hz => ?_⟩;have hj : j < ps.length := (List.getElem?_eq_some_iff.1 hp).1;rw [List.getElem?_map,List.getElem?_range hj,Option.map_some,Option.some.injEq] at hz;subst hz;exact h3 j p hj hp
def zzH (w : World) (zs : List Int) (k : Nat) (e : Ending) (w' : World) : Prop := ∃ u ps,e = .returned u ∧ PrsT w' u ps ∧ Zms w' ps zs k ∧ Below w.heap.size w w'
end Go.Proofs.YtkklldokdnfkgaaGreat
