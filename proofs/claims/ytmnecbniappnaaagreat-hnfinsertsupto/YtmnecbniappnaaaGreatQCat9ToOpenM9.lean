/-
 QCat9ToOpenM9: Cat9, Each9, DotsA9, ColsP9, Cols9, Prod9, Mat9, Chk9, Mul9, Unit9, Add9, Law9, Wake9, OpenM9, joined.
-/
import Derived.Test.YtmnecbniappnaaaGreatQFil9ToRowsOf9
import Derived.Lib.AppendZeros
import Derived.Laws.AppendOwnNone
import Derived.Test.YtmnecbniappnaaaGreatQAlikeToShift

set_option maxRecDepth 100000
set_option maxHeartbeats 6400000
set_option linter.unusedVariables false
set_option linter.unusedSimpArgs false
namespace Go.Proofs.YtmnecbniappnaaaGreat
open Go.RowKit
theorem zvB {w w' : World} {base : Nat} {e : TypeId} {size : Nat} {v : Value} {n : Nat} {xs : List Value} (h : w.ownsRow base e size v n xs) (hk : ∀ b,v.ownBlock = some b → b < w.heap.size → w'.heap[b]? = w.heap[b]?) : w'.ownsRow base e size v n xs := by
 obtain ⟨q1,q2 | ⟨g,cap,cur,q2,q3,q4,q5⟩⟩ := h
 ·exact ⟨q1,.inl q2⟩
 ·exact ⟨q1,.inr ⟨g,cap,cur,q2,q3,(hk g (by rw [q2];rfl) (Array.getElem?_eq_some_iff.1 q4).1).trans q4,q5⟩⟩
theorem owns_prs {w : World} {B : Nat} {v : Value} {ps : List (Value × Value)} (h : w.ownsRow B 40 2 v ps.length (flat ps)) (hl : ps.length ≤ 1048576) : Prs B w v ps := by
 have h1' := h;obtain ⟨q1,⟨q2,q3⟩ | ⟨g,cap,cur,q2,q3,q4,q5,q6⟩⟩ := h
 ·rw [q2]
  have : ps = [] := List.eq_nil_of_length_eq_zero q3;subst this;exact Prs.nil _ _
 ·refine ⟨_,cap,q2,q5,hl,(fun q => by cases q),.inr ⟨g,0,rfl,q3,(Array.getElem?_eq_some_iff.1 q4).1,fun j p hp => ?_⟩⟩
  have ea : ∀ j,(⟨g,0,none⟩ : Addr).add j = ⟨g,j,none⟩ := fun j => by unfold Addr.add;split <;> simp_all
  have c0 := World.ownsRow.cells h1' (g := g) (by rw [q2];rfl) _ _ (zlB hp).1;have c1 := World.ownsRow.cells h1' (g := g) (by rw [q2];rfl) _ _ (zlB hp).2;rw [ea] at c0 c1;rw [Nat.zero_add];exact ⟨c0,c1⟩
theorem isI_one {ps : List (Value × Value)} (h : ∀ p ∈ ps,IsI p) : ∀ u ∈ flat ps,u.oneCell' = true := by
 induction ps with
 | nil => intro u hu;simp [flat] at hu
 | cons p r ih =>
  intro u hu;obtain ⟨n,a,l,c,e⟩ := h p (by simp);simp only [flat,List.mem_cons] at hu;rw [e] at hu;rcases hu with rfl | rfl | hu
  ·rfl
  ·rfl
  ·exact ih (fun q hq => h q (by simp [hq])) u hu
def OwnP (B : Nat) (w : World) (v : Value) (ps : List (Value × Value)) : Prop := w.ownsRow B 40 2 v ps.length (flat ps)
theorem wpList_append_pairs (w : World) {ops : Array Oper} {rest : List Oper} {o : Oper} {a : Act} {Q : Exit → Act → World → Prop}
  (hgd : o.guard = none) (s x : Operand) (hop : o.op = .call { callee := .builtin .append,args := #[s,x],argTypes := #[22,22] })
  (B : Nat) (v u : Value) (ps qs : List (Value × Value)) (hs : a.eval s = v) (hB : OwnP B w v ps) (hx : a.eval x = u) (B' : Nat) (hu : Prs B' w u qs) (hi : ∀ p ∈ qs,IsI p) (hlen : ps.length + qs.length ≤ 1048576) (hBs : B ≤ w.heap.size)
  (hK : ∀ v' w',OwnP B w' v' (ps ++ qs) → Hid (w.grownBy w' v.ownBlock) → wpList Tryz.prog ops Q rest (a.put o.dst v') w') :
  wpList Tryz.prog ops Q (o :: rest) a w := by
 obtain ⟨i,hii,hz,hsz,hby⟩ := info_parts Tryz.infoZ9;obtain ⟨au,cu,rfl,h2,h3,hn,h4⟩ := hu;rcases au with _ | ad
 ·have e : qs = [] := by
   rcases h4 with h4 | ⟨b,off,q,_⟩
   ·exact h4
   ·cases q
  subst e;have := hn rfl;subst this;refine wpList_append_own_none hgd s x 22 hop B 40 i 2 Tryz.underlying22 hii v ps.length (flat ps) hs hB hx ?_;have := hK v w (by simpa using hB) ⟨rfl,rfl,rfl,Nat.le_refl _,fun _ _ _ => rfl⟩;exact this
 ·refine wpList_plain hgd fun K hK' => ?_
  have hnews : ∀ j y,(flat qs)[j]? = some y → w.cell? (ad.add j) = some y := fun j y hj => by
   have hjl := (List.getElem?_eq_some_iff.1 hj).1;rw [zSC] at hjl;rcases h4 with rfl | ⟨b,off,q,_,_,hc⟩
   ·simp at hjl
   ·obtain rfl : ad = ⟨b,off,none⟩ := by simpa using q
    have ea : ∀ j,(⟨b,off,none⟩ : Addr).add j = ⟨b,off + j,none⟩ := fun j => by unfold Addr.add;split <;> simp_all
    rw [ea];have hp : qs[j / 2]? = some (qs[j / 2]'(by omega)) := List.getElem?_eq_getElem (by omega);have hf := zlB hp;have hq := hc _ _ hp;rcases Nat.mod_two_eq_zero_or_one j with m | m
    ·have e : j / 2 * 2 = j := by omega
     rw [e] at hf hq;rw [hq.1,← hf.1,hj]
    ·have e : j / 2 * 2 + 1 = j := by omega
     rw [Nat.add_assoc,e] at hq;rw [e] at hf;rw [hq.2,← hf.2,hj]
  obtain ⟨v',w',hr,k1,k2,-,-⟩ := run_append_own_at (P := Tryz.prog) w B 22 o.type 40 i (.agg #[.bool false,.slice none 0 0]) 2 32 Tryz.underlying22 hii hz hsz hby rfl (by omega) v ps.length (flat ps) hB ad qs.length cu (flat qs) (zSC qs) hnews (isI_one hi) (by unfold maxLen;omega) (by omega) hBs;unfold Oper.wp execOp;simp only [hop,resolve,invoke,builtin,Sem.run_bind,Sem.run_pure,Result.andThen_ok,List.map_toArray,List.map_cons,List.map_nil,hs,hx,hr];refine hK' _ _ (hK v' w' ?_ k2);unfold OwnP;rw [zTC,List.length_append];exact k1
def Grew (w : World) (e : Ending) (w' : World) : Prop := ∃ v,e = .returned v ∧ w'.ownsRow w.heap.size 40 2 v 0 [] ∧ Below w.heap.size w w'
theorem grow_any {w : World} {N : Nat} (hN : N ≤ 1048576) : Calls Tryz.prog 55 #[.slice none 0 0,.int .i64 (N : Int)] w (Grew w) := by
 have w0 : IntKind.i64.wrap (N : Int) = (N : Int) := by rw [zZA] <;> omega
 have w1 : ¬ ((N : Int) < 0) := by omega
 by_cases h0 : N = 0
 ·subst h0
  have FIN : Hid (Grew w (.returned (.slice none 0 0)) w) := ⟨_,rfl,World.ownsRow_nil _ _ _ _,Below.refl _ _⟩
  go_enter Tryz.func55,Tryz.ntmps55;go_wp2;go_ret;exact FIN.out
 ·obtain ⟨i,hii,hz,hsz,hby⟩ := info_parts Tryz.infoZ9
  have hrz := fun wx : World => Lib.run_append_nil_zeros (P := Tryz.prog) wx 22 3 22 40 i (.agg #[.bool false,.slice none 0 0]) .i64 .i64 Tryz.underlying22 Tryz.underlying3 hii hz N (by omega) (by omega) (by omega) (by rw [hby];omega)
  have w2 : (0 : Int) < (N : Int) := by omega
  have hge := grownCap_ge w N 0 40;have hle := grownCap_le_maxLen w N 0 40 (by unfold maxLen;omega);have FIN : Hid (Grew w (.returned (.slice (some ⟨w.heap.size,0,none⟩) 0 (grownCap w N 0 40))) (w.drew.alloc (.cells (Builtin.zeroCells (Value.agg #[.bool false,.slice none 0 0]).cells N ++ Builtin.zeroCells (Value.agg #[.bool false,.slice none 0 0]).cells (grownCap w N 0 40 - N)) 40))) := by
   refine ⟨_,rfl,World.ownsRow_made (base := w.heap.size) (size := 2) w.drew _ _ (Nat.le_refl _) hle ?_,((Below.refl _ _).drew).alloc (Nat.le_refl _) _⟩;rw [Array.size_append,size_zeroCells,size_zeroCells];have : (Value.agg #[Value.bool false,Value.slice none 0 0]).cells.size = 2 := rfl;rw [this];omega
  go_enter Tryz.func55,Tryz.ntmps55;go_wp2_with (at_builtin;refine Lib.wpList_append_run _ rfl _ _ _ _ rfl _ _ rfl rfl _ _ (hrz _) ?_)
  go_wp2;go_ret;exact FIN.out
def zKI (m : Nat) (pss : List (List (Value × Value))) : Prop := ∀ ps ∈ pss,ps.length = m ∧ ∀ p ∈ ps,IsI p
theorem take_flat {α : Type} {m : Nat} {pss : List (List α)} (h : ∀ ps ∈ pss,ps.length = m) (i : Nat) (hi : i ≤ pss.length) : (pss.take i).flatten.length = i * m := by
 induction i with
 | zero => simp
 | succ i ih =>
  rw [List.take_succ_eq_append_getElem (by omega),List.flatten_append,List.length_append,ih (by omega),List.flatten_cons,List.flatten_nil,List.append_nil,h _ (List.getElem_mem _),Nat.add_mul,Nat.one_mul]
theorem take_flat_succ {α : Type} {pss : List (List α)} {i : Nat} {ps : List α} (h : pss[i]? = some ps) : (pss.take (i + 1)).flatten = (pss.take i).flatten ++ ps := by
 obtain ⟨hi,e⟩ := List.getElem?_eq_some_iff.1 h;rw [List.take_succ_eq_append_getElem hi,List.flatten_append,e]
 simp
def CatA (w : World) (n m : Nat) (gk : Nat) (s3 s11 : Value) (wx : World) : Prop := ∃ i : Nat,s3 = .int .i64 ((i * m : Nat) : Int) ∧ s11 = .int .i64 (i : Int) ∧ i ≤ n ∧ gk = n - i ∧ wx = w
def CatB (w : World) (n : Nat) (pss : List (List (Value × Value))) (gk : Nat) (s6 s27 : Value) (wx : World) : Prop := ∃ i : Nat,s27 = .int .i64 (i : Int) ∧ i ≤ n ∧ gk = n - i ∧ OwnP w.heap.size wx s6 (pss.take i).flatten ∧ Below w.heap.size w wx
def zEI (w : World) (ps : List (Value × Value)) (e : Ending) (w' : World) : Prop := ∃ v,e = .returned v ∧ Prs w.heap.size w' v ps ∧ Below w.heap.size w w'
theorem grown_below {B : Nat} {w0 w w' : World} {v : Value} {n : Nat} {xs : List Value} (hb : Below w0.heap.size w0 w) (h : w.ownsRow w0.heap.size 40 2 v n xs) (hg : w.grownBy w' v.ownBlock) : Below w0.heap.size w0 w' := by
 refine hb.trans ⟨hg.os,hg.tape,hg.output,hg.size,fun b hb' => hg.block b (Nat.lt_of_lt_of_le hb' hb.size) (fun e => ?_)⟩;have := (World.ownsRow.lt h b e.symm).1;omega
theorem zZE {w : World} {B m : Nat} {v : Value} {pss : List (List (Value × Value))} (hv : Prr B w v pss) (hm : zKI m pss) (hl : pss.length * m ≤ 1048576) (hm1 : m ≤ 1048576) :
  Calls Tryz.prog 31 #[v] w (zEI w pss.flatten) := by
 have V0 := hid hv;have HM := hid hm;obtain ⟨a0,c0,rfl,hc0,hn0,hf0⟩ := hv.form;have HT := hid (fun i (hi : i ≤ pss.length) => take_flat (fun ps hp => (hm ps hp).1) i hi);have HFL : Hid (pss.flatten = (pss.take pss.length).flatten) := by unfold Hid;rw [List.take_length]
 obtain ⟨FT,hFT⟩ : ∃ FT,pss.flatten = FT := ⟨_,rfl⟩
 rw [hFT] at HFL ⊢;obtain ⟨n,hn⟩ : ∃ n,pss.length = n := ⟨_,rfl⟩
 rw [hn] at V0 hc0 hn0 hl HFL HT ⊢;have HN := hid hn;have F0 := hid hf0;clear hv hm hf0 hn hFT;have H0 : Hid (CatA w n m n (.int .i64 0) (.int .i64 0) w) := ⟨0,by simp,rfl,Nat.zero_le _,by omega,rfl⟩
 go_enter Tryz.func31,Tryz.ntmps31;go_wp2_with fail
 go_loopg [3,11] n (fun gk s3 s11 wx => CatA w n m gk s3 s11 wx)
 case atStart => exact H0.out
 case round =>
  clear H0;obtain ⟨i,rfl,rfl,hin,hg,hwx⟩ := hrel;have hwx' := hwx.symm;subst hwx';clear hwx;have HG := hid hg;clear hg;have him : i * m ≤ n * m := Nat.mul_le_mul_right m hin
  by_cases hlt : i < n
  ·have hlt' : (i : Int) < (n : Int) := by omega
   obtain ⟨b1,o1,rfl⟩ := F0.out (fun e => by have := HN.out;rw [e] at this;simp at this;omega);obtain ⟨u,k0,pu⟩ := V0.out.at (i := i) (List.getElem?_eq_getElem (by rw [HN.out];exact hlt));obtain ⟨au,cu,hu,-,-,-,-⟩ := pu.form;rw [(HM.out _ (List.getElem_mem (l := pss) (n := i) (by rw [HN.out];exact hlt))).1] at hu;subst hu;have hw := zVA (i := i) (by omega);have e2 : (i + 1) * m = i * m + m := by rw [Nat.add_mul,Nat.one_mul]
   have e3 : (i + 1) * m ≤ n * m := Nat.mul_le_mul_right m hlt;have HN1 : Hid (∀ lo : Nat,lo = i * m → CatA w n m (n - (i + 1)) (.int .i64 ((lo : Int) + (m : Int))) (.int .i64 ((i + 1 : Nat) : Int)) w) := fun lo hlo => ⟨i + 1,by rw [e2,hlo];congr 1,rfl,by omega,rfl,rfl⟩
   have HMM : Hid (n - (i + 1) < gk) := by unfold Hid;rw [HG.out];omega
   obtain ⟨lo,hlo⟩ : ∃ lo,i * m = lo := ⟨_,rfl⟩
   have HR := hid (HN1.out lo hlo.symm);have hs : IntKind.i64.wrap ((lo : Int) + (m : Int)) = (lo : Int) + (m : Int) := by rw [zZA] <;> omega
   have hs' : ¬ ((lo : Int) + (m : Int) < 0) := by omega
   rw [hlo];clear HN1 pu HG e2 e3 hlo him;go_wp2_with fail;go_roundg (n - (i + 1))
   case rel => exact HR.out
   case measure => exact HMM.out
  ·have hlt' : ¬ (i : Int) < (n : Int) := by omega
   obtain rfl : i = n := by omega
   have HS := hid (grow_any (w := w) (N := i * m) hl);have HNN := hid hl;clear him hl;obtain ⟨N,hNN⟩ : ∃ N,i * m = N := ⟨_,rfl⟩
   rw [hNN] at HS ⊢;clear HG hNN;go_wp2_with fail;refine HS.out.mono ?_;rintro e w1 ⟨v,rfl,ho,b⟩;have H1 : Hid (CatB w i pss i v (.int .i64 0) w1) := ⟨0,rfl,Nat.zero_le _,by omega,by simpa [OwnP,flat] using ho,b⟩
   clear HS ho b;go_wp2_with fail
   go_loopg [6,27] i (fun gk s6 s27 wx => CatB w i pss gk s6 s27 wx)
   case atStart => exact H1.out
   case round =>
    clear H1;obtain ⟨j,rfl,hjn,hg,ho,hG⟩ := hrel;have OW := hid ho;have G := hid hG;have HG := hid hg;clear ho hG hg
    by_cases hlt2 : j < i
    ·have hlt2' : (j : Int) < (i : Int) := by omega
     obtain ⟨b1,o1,rfl⟩ := F0.out (fun e => by have := HN.out;rw [e] at this;simp at this;omega);obtain ⟨u,k0,pu⟩ := (V0.out.now G.out).at (i := j) (List.getElem?_eq_getElem (by rw [HN.out];exact hlt2));have hpj : pss[j]? = some (pss[j]'(by rw [HN.out];exact hlt2)) := List.getElem?_eq_getElem (by rw [HN.out];exact hlt2);have HM1 := hid (HM.out _ (List.getElem_mem (l := pss) (n := j) (by rw [HN.out];exact hlt2)));have HTS := hid (take_flat_succ hpj);obtain ⟨ps,hps⟩ : ∃ ps,pss[j]'(by rw [HN.out];exact hlt2) = ps := ⟨_,rfl⟩
     rw [hps] at pu HM1 HTS;have HLN : Hid ((pss.take j).flatten.length + ps.length ≤ 1048576) := by
      unfold Hid;have := HT.out (j + 1) (by omega);rw [HTS.out,List.length_append] at this;have h2 : (j + 1) * m ≤ i * m := Nat.mul_le_mul_right m hlt2;have h3 := HNN.out;omega
     have PU := hid pu;obtain ⟨au,cu,rfl,-,-,-,-⟩ := pu.form;have hw := zVA (i := j) (by omega);clear hpj hps pu;go_wp2_with (at_builtin;refine wpList_append_pairs _ rfl (.tmp 31) (.tmp 32) rfl w.heap.size _ _ (pss.take j).flatten ps rfl OW.out rfl B PU.out HM1.out.2 HLN.out G.out.size ?_)
     intro v2 w2 ho2 hg2;have HN1 : Hid (CatB w i pss (i - (j + 1)) v2 (.int .i64 ((j + 1 : Nat) : Int)) w2) := ⟨j + 1,rfl,by omega,rfl,by rw [HTS.out];exact ho2,grown_below (B := 0) G.out OW.out hg2.out⟩
     have HMM : Hid (i - (j + 1) < gk) := by unfold Hid;rw [HG.out];omega
     clear OW G HG ho2 hg2 HTS HLN PU HM1 k0;go_wp2_with fail;go_roundg (i - (j + 1))
     case rel => exact HN1.out
     case measure => exact HMM.out
    ·have hlt2' : ¬ (j : Int) < (i : Int) := by omega
     obtain rfl : j = i := by omega
     rw [← HFL.out] at OW;have FIN : Hid (∀ v6,OwnP w.heap.size wr v6 FT → zEI w FT (.returned v6) wr) := fun v6 h => ⟨v6,rfl,owns_prs h (by have h1 := HT.out j (Nat.le_refl _);rw [← HFL.out] at h1;have := HNN.out;omega),G.out⟩
     have FIN2 := hid (FIN.out _ OW.out);clear FIN OW G HG;go_wp2;go_ret;exact FIN2.out
theorem zGI {f : Func} {s : Nat} (hr : f.results = #[ResultVar.cell s 24]) {W : World} {b : Nat} {x0 x1 x2 : Value} (h : Cel W b 24 [x0,x1,x2]) (tmps : Array Value) (ht : tmps[s]? = some (.pointer (some ⟨b,0,none⟩))) :
  (results f tmps).run Tryz.prog W = .ok (.agg #[x0,x1,x2]) W := by
 simp [results,hr,go_sem,ht,h.at (i := 0) rfl,h.at (i := 1) rfl,h.at (i := 2) rfl]
theorem zMF {f : Func} {s1 s3 : Nat} (hr : f.results = #[ResultVar.cell s1 24,ResultVar.tmp s3]) {W : World} {b : Nat} {x0 x1 x2 e : Value} (h : Cel W b 24 [x0,x1,x2]) (tmps : Array Value) (ht : tmps[s1]? = some (.pointer (some ⟨b,0,none⟩))) (he : tmps[s3]? = some e) :
  (results f tmps).run Tryz.prog W = .ok (.tuple #[.agg #[x0,x1,x2],e]) W := by
 simp [results,hr,go_sem,ht,he,h.at (i := 0) rfl,h.at (i := 1) rfl,h.at (i := 2) rfl]
abbrev put3 (w : World) (b : Nat) (y0 y1 y2 : Value) : World := ((w.setCell ⟨b,0,none⟩ y0).setCell ⟨b,1,none⟩ y1).setCell ⟨b,2,none⟩ y2
theorem Cel.put3 {w : World} {b : Nat} {T : TypeId} {x0 x1 x2 : Value} (h : Cel w b T [x0,x1,x2]) (y0 y1 y2 : Value) : Cel (put3 w b y0 y1 y2) b T [y0,y1,y2] := ((h.set 0 y0).set 1 y1).set 2 y2
theorem zTA {B b : Nat} {w0 w : World} (h : Below B w0 w) (hb : B ≤ b) (y0 y1 y2 : Value) : Below B w0 (Go.Proofs.YtmnecbniappnaaaGreat.put3 w b y0 y1 y2) := bset (bset (bset h hb) hb) hb
theorem Prs.put3 {B b : Nat} {w : World} {v : Value} {ps : List (Value × Value)} (h : Prs B w v ps) (hb : b < B) (y0 y1 y2 : Value) : Prs B (Go.Proofs.YtmnecbniappnaaaGreat.put3 w b y0 y1 y2) v ps := ((h.off hb).off hb).off hb
def NoWs (L : List Value) : Prop := ∀ u ∈ L,NoW u
theorem noWs_mat (r c : Int) (a : Option Addr) (l n : Nat) : NoWs [.int .i64 r,.int .i64 c,.slice a l n] := by
 intro u hu x e;simp at hu;rcases hu with rfl | rfl | rfl <;> simp at e
theorem Cel.wk3 {w : World} {b : Nat} {T : TypeId} {r c : Int} {a : Option Addr} {l n : Nat} (h : Cel w b T [.int .i64 r,.int .i64 c,.slice a l n]) (y0 y1 y2 : Value) : Wk w (Go.Proofs.YtmnecbniappnaaaGreat.put3 w b y0 y1 y2) := by
 have q := noWs_mat r c a l n;exact ((h.wk (i := 0) rfl (q _ (by simp)) y0).trans ((h.set 0 y0).wk (i := 1) rfl (q _ (by simp)) y1)).trans (((h.set 0 y0).set 1 y1).wk (i := 2) rfl (q _ (by simp)) y2)
abbrev mbox : Obj := .cells #[.int .i64 0,.int .i64 0,.slice none 0 0] 24
theorem zkB {w W0 : World} (hW : w.alloc mbox = W0) : Cel W0 w.heap.size 24 [.int .i64 0,.int .i64 0,.slice none 0 0] := by rw [← hW];exact Cel.new w _ _
def zYG (w : World) (g n : Nat) (F : Nat → Int) (k gk : Nat) (s : Value) (wx : World) : Prop :=
 ∃ i : Nat,s = .int .i64 (i : Int) ∧ i ≤ n ∧ gk = n - i ∧ Fil wx g n i F k ∧ Below w.heap.size w wx
def zBI (w : World) (zs : List Int) (k : Nat) (e : Ending) (w' : World) : Prop := ∃ u ps,e = .returned u ∧ Prs w.heap.size w' u ps ∧ Zcs w' ps zs k ∧ Below w.heap.size w w'
def Ziss (w : World) (pss : List (List (Value × Value))) (zss : List (List Int)) (k : Nat) : Prop := pss.length = zss.length ∧ ∀ (j : Nat) (ps : List (Value × Value)),pss[j]? = some ps → Zis w ps (zss.getD j []) k
structure Kp (N g : Nat) (w wx : World) : Prop where
 os : wx.os = w.os
 tape : wx.tape = w.tape
 output : wx.output = w.output
 size : w.heap.size ≤ wx.heap.size
 block : ∀ b,b < N → b ≠ g → wx.heap[b]? = w.heap[b]?

def Zcss (w : World) (pss : List (List (Value × Value))) (zss : List (List Int)) (k : Nat) : Prop := pss.length = zss.length ∧ ∀ (j : Nat) (ps : List (Value × Value)),pss[j]? = some ps → Zcs w ps (zss.getD j []) k
theorem Zcs.append {w : World} {ps qs : List (Value × Value)} {zs ys : List Int} {k : Nat} (h : Zcs w ps zs k) (h' : Zcs w qs ys k) : Zcs w (ps ++ qs) (zs ++ ys) k := by
 refine ⟨by simp [h.1,h'.1],fun j p z hp hz => ?_⟩
 by_cases q : j < ps.length
 ·rw [List.getElem?_append_left q] at hp
  rw [List.getElem?_append_left (by rw [← h.1];exact q)] at hz;exact h.2 j p z hp hz
 ·rw [List.getElem?_append_right (by omega)] at hp
  rw [List.getElem?_append_right (by rw [← h.1];omega),← h.1] at hz;exact h'.2 _ p z hp hz
theorem Zcss.flat {w : World} {k : Nat} : ∀ {pss : List (List (Value × Value))} {zss : List (List Int)},Zcss w pss zss k → Zcs w pss.flatten zss.flatten k
 | [],[],_ => ⟨rfl,fun j p z hp => by simp at hp⟩
 | [],z :: zss,h => by have := h.1;simp at this
 | p :: pss,[],h => by have := h.1;simp at this
 | p :: pss,z :: zss,h => by
  have h1 := h.2 0 p rfl;have h2 : Zcss w pss zss k := ⟨by have := h.1;simpa using this,fun j ps hp => by simpa using h.2 (j + 1) ps (by simpa using hp)⟩
  simpa using Zcs.append h1 (Zcss.flat h2)
theorem Zcss.now {w w' : World} {pss : List (List (Value × Value))} {zss : List (List Int)} {k : Nat} (h : Zcss w pss zss k) (hb : Below w.heap.size w w') : Zcss w' pss zss k := ⟨h.1,fun j ps hp => (h.2 j ps hp).now hb⟩
def Mx (w : World) (v : Value) (r c : Nat) (zs : List Int) (k : Nat) : Prop := ∃ at_ ps,v = matv r c at_ ∧ Prs 0 w at_ ps ∧ Zis w ps zs k ∧ zs.length = r * c ∧ r ≤ 64 ∧ c ≤ 64
def Mc (w : World) (v : Value) (r c : Nat) (zs : List Int) (k : Nat) : Prop := ∃ at_ ps,v = matv r c at_ ∧ Prs 0 w at_ ps ∧ Zcs w ps zs k ∧ zs.length = r * c ∧ r ≤ 64 ∧ c ≤ 64
theorem Mx.now {w w' : World} {v : Value} {r c : Nat} {zs : List Int} {k : Nat} (h : Mx w v r c zs k) (hb : Below w.heap.size w w') : Mx w' v r c zs k := by
 obtain ⟨a,ps,h1,h2,h3,h4⟩ := h;exact ⟨a,ps,h1,h2.now hb,h3.now hb,h4⟩
theorem Mc.now {w w' : World} {v : Value} {r c : Nat} {zs : List Int} {k : Nat} (h : Mc w v r c zs k) (hb : Below w.heap.size w w') : Mc w' v r c zs k := by
 obtain ⟨a,ps,h1,h2,h3,h4⟩ := h;exact ⟨a,ps,h1,h2.now hb,h3.now hb,h4⟩
theorem Mc.mx {w : World} {v : Value} {r c : Nat} {zs : List Int} {k : Nat} (h : Mc w v r c zs k) : Mx w v r c zs k := by
 obtain ⟨a,ps,h1,h2,h3,h4⟩ := h;exact ⟨a,ps,h1,h2,h3.zis,h4⟩
theorem Mx.form {w : World} {v : Value} {r c : Nat} {zs : List Int} {k : Nat} (h : Mx w v r c zs k) : ∃ a cap,v = matv r c (.slice a (r * c) cap) ∧ r ≤ 64 ∧ c ≤ 64 := by
 obtain ⟨a,ps,h1,h2,h3,h4,h5,h6⟩ := h;obtain ⟨a0,c0,rfl,-,-,-,-⟩ := h2.form;rw [h3.1,h4] at h1;exact ⟨a0,c0,h1,h5,h6⟩
def zfE (w : World) (r c : Nat) (zs : List Int) (k : Nat) (e : Ending) (w' : World) : Prop := ∃ v,e = .returned v ∧ Mc w' v r c zs k ∧ Below w.heap.size w w'
theorem ziss_rows {w : World} {ps : List (Value × Value)} {xs : List Int} {k r m : Nat} (h : Zis w ps xs k) : Ziss w (rowsL r m ps) (rowsL r m xs) k := by
 refine ⟨by simp [rowsL],fun j qs hq => ?_⟩;have hj : j < r := by simpa [rowsL] using (List.getElem?_eq_some_iff.1 hq).1
 rw [zDG hj,Option.some.injEq] at hq;have e : (rowsL r m xs).getD j [] = (xs.drop (j * m)).take m := by simp [rowsL,hj]
 rw [e,← hq];refine ⟨by simp [h.1],fun t p z hp hz => ?_⟩;rw [List.getElem?_take] at hp hz
 by_cases q : t < m
 ·rw [if_pos q,List.getElem?_drop] at hp hz
  exact h.2 _ p z hp hz
 ·rw [if_neg q] at hp;cases hp
theorem rows_len {r m : Nat} {xs : List Int} (hl : xs.length = r * m) : ∀ row ∈ rowsL r m xs,row.length = m := by
 intro row hrow;simp only [rowsL,List.mem_map,List.mem_range] at hrow;obtain ⟨i,hi,rfl⟩ := hrow;have h5 : (i + 1) * m ≤ r * m := Nat.mul_le_mul_right m hi;have h6 : (i + 1) * m = i * m + m := by rw [Nat.add_mul,Nat.one_mul]
 simp
 omega
abbrev matO (r c : Nat) (at_ : Value) : Obj := .cells #[.int .i64 (r : Int),.int .i64 (c : Int),at_] 24
theorem zoD {w : World} {r c : Nat} (hr : r ≤ 64) (hc : c ≤ 64) : Calls Tryz.prog 27 #[.int .i64 (r : Int),.int .i64 (c : Int)] w fun e w' => e = .returned (.bool true) ∧ w' = w := by
 have h1 : (0 : Int) ≤ (r : Int) := by omega
 have h2 : (0 : Int) ≤ (c : Int) := by omega
 have h3 : (r : Int) ≤ 64 := by omega
 have h4 : (c : Int) ≤ 64 := by omega
 have h5 : max (r : Int) (c : Int) ≤ 64 := by omega
 have h6 : 0 ≤ min (r : Int) (c : Int) := by omega
 go_enter Tryz.func27,Tryz.ntmps27;go_wp2;go_ret;exact ⟨rfl,rfl⟩
theorem zoC {w : World} {v : Value} {r c : Nat} {zs : List Int} {k : Nat} (h : Mx w v r c zs k) : Calls Tryz.prog 13 #[v] w fun e w' => e = .returned (.int .i64 0) ∧ Below w.heap.size w w' := by
 obtain ⟨a,cap,rfl,hr,hc⟩ := h.form;have hm0 := zsB (i := r) (c := c) hr hc;obtain ⟨n,hn⟩ : ∃ n,r * c = n := ⟨_,rfl⟩
 rw [hn] at hm0;have hm2 := hm0;rw [IntKind.wrap_i64] at hm2;rw [hn];obtain ⟨W0,hW⟩ : ∃ W0,w.alloc (matO r c (.slice a n cap)) = W0 := ⟨_,rfl⟩
 obtain ⟨b0,sz0⟩ := alo1 w (matO r c (.slice a n cap));rw [hW] at b0 sz0;have P1 : Hid (Cel W0 w.heap.size 24 (matc r c (.slice a n cap))) := by unfold Hid;rw [← hW];exact Cel.new w _ _
 have x0 := P1.out.at (i := 0) rfl;have x1 := P1.out.at (i := 1) rfl;have x2 := P1.out.at (i := 2) rfl;rw [← hW] at x0 x1 x2;have HS := hid (zoD (w := W0) hr hc);have G0 := hid b0;have EW := hid hW;have q0 : ((n : Int) != (n : Int)) = false := by simp
 clear b0 sz0 hW h hn P1;go_enter Tryz.func13,Tryz.ntmps13;go_wp2_with fail;rw [EW.out];refine HS.out.mono ?_;rintro e w1 ⟨rfl,rfl⟩;rw [EW.out] at x0 x1 x2;go_wp2;go_ret;exact ⟨rfl,G0.out⟩
def zTH (w : World) (r c : Nat) (zs : List Int) (k : Nat) (e : Ending) (w' : World) : Prop := ∃ v,e = .returned (.tuple #[v,.int .i64 0]) ∧ Mc w' v r c zs k ∧ Below w.heap.size w w'
theorem Mc.wk {w : World} {v : Value} {r c : Nat} {zs : List Int} {k b : Nat} (h : Mc w v r c zs k) {x0 x1 : Int} {a : Option Addr} {l n : Nat} (d : Cel w b 24 [.int .i64 x0,.int .i64 x1,.slice a l n]) (y0 y1 y2 : Value) : Mc (put3 w b y0 y1 y2) v r c zs k := by
 obtain ⟨at_,ps,h1,h2,h3,h4⟩ := h;refine ⟨at_,ps,h1,?_,h3.wk (d.wk3 _ _ _),h4⟩;obtain ⟨a',c',e1,e2,e3,e4,e5⟩ := h2;refine ⟨a',c',e1,e2,e3,e4,?_⟩;rcases e5 with e5 | ⟨b',off,e6,e7,e8,e9⟩
 ·exact .inl e5
 ·refine .inr ⟨b',off,e6,e7,by simpa using e8,fun j p hp => ?_⟩
  have hne : b ≠ b' := by
   intro e;subst e;have hz : zs[j]? = some (zs[j]'(by rw [← h3.1];exact (List.getElem?_eq_some_iff.1 hp).1)) := List.getElem?_eq_getElem _;obtain ⟨n1,a1,l1,c1,q⟩ := (h3.2 j p _ hp hz).zi.isI;have q1 := (e9 j p hp).1;rw [show p.1 = .bool n1 by rw [Prod.mk.injEq] at q;exact q.1] at q1;have q2 : w.heap[b]? = some (.cells #[.int .i64 x0,.int .i64 x1,.slice a l n] 24 (0,0)) := d;simp only [World.cell?,q2] at q1;simp at q1;generalize off + j * 2 = o at q1
   match o,q1 with
   | 0,q1 => simp at q1
   | 1,q1 => simp at q1
   | 2,q1 => simp at q1
   | o + 3,q1 => simp at q1
  have e : ∀ o,(put3 w b y0 y1 y2).cell? ⟨b',o,none⟩ = w.cell? ⟨b',o,none⟩ := fun o => by
   rw [World.cell?_setCell_other _ _ _ _ (by simp <;> omega),World.cell?_setCell_other _ _ _ _ (by simp <;> omega),World.cell?_setCell_other _ _ _ _ (by simp <;> omega)]
  rw [e,e];exact e9 j p hp
theorem Arr.ne {w : World} {g b i : Nat} {u : Value} {ps : List (Value × Value)} (h : Arr w g ps) (hne : b ≠ g) : Arr (w.setCell ⟨b,i,none⟩ u) g ps := ⟨h.1.ne hne,h.2⟩
theorem Arr.put3 {w : World} {g b : Nat} {ps : List (Value × Value)} (h : Arr w g ps) (hne : b ≠ g) (y0 y1 y2 : Value) : Arr (put3 w b y0 y1 y2) g ps := ((h.ne hne).ne hne).ne hne

theorem Zcs.at9 {B : Nat} {w : World} {b off l c : Nat} {ps : List (Value × Value)} {zs : List Int} {k : Nat} (h : Prs B w (.slice (some ⟨b,off,none⟩) l c) ps) (hz : Zcs w ps zs k) {i : Nat} (hi : i < zs.length) : ∃ n,∃ xs : List Int,∃ a c,w.cell? ⟨b,off + i * 2,none⟩ = some (.bool n) ∧ w.cell? ⟨b,off + i * 2 + 1,none⟩ = some (.slice a xs.length c) ∧ Zc w (.agg #[.bool n,.slice a xs.length c]) zs[i] k := by
 have hp : ps[i]? = some (ps[i]'(by rw [hz.1];exact hi)) := List.getElem?_eq_getElem _;have q := h.at hp;have z := hz.2 i _ _ hp (List.getElem?_eq_getElem hi);have z' := z;obtain ⟨n,xs,a,c,e,-⟩ := z;simp only [Value.agg.injEq,Array.mk.injEq,List.cons.injEq,and_true] at e;rw [e.1,e.2] at q;rw [e.1,e.2] at z';exact ⟨n,xs,a,c,q.1,q.2,z'⟩
def zJI (w : World) (n gk : Nat) (s : Value) (wx : World) : Prop := ∃ i : Nat,s = .int .i64 (i : Int) ∧ i ≤ n ∧ gk = n - i ∧ Below w.heap.size w wx
def Snd (r c : Int) (l : Nat) : Prop := 0 ≤ r ∧ r ≤ 64 ∧ 0 ≤ c ∧ c ≤ 64 ∧ (l : Int) = r * c
def zXC (w : World) (r c : Int) (l : Nat) (e : Ending) (w' : World) : Prop := ∃ b : Bool,e = .returned (.bool b) ∧ (b = true ↔ Snd r c l) ∧ Below w.heap.size w w'

open Go.ChangeShapes Go.WideShapes Go.ChangeAt Go.RowKit
theorem Tryz.cellsM9 : Tryz.prog.cellsOf 24 = 3 := by kernel_rfl
theorem Tryz.cellsI9 : Tryz.prog.cellsOf 3 = 1 := by kernel_rfl
theorem Tryz.cellsL9 : Tryz.prog.cellsOf 22 = 1 := by kernel_rfl
def Raw (w : World) (v : Value) (r c : Int) (l : Nat) (zs : List Int) : Prop := ∃ a cap ps,v = .agg #[.int .i64 r,.int .i64 c,.slice a l cap] ∧ Prs 0 w (.slice a l cap) ps ∧ Zis w ps zs 1048576 ∧ zs.length = l ∧ l ≤ 1048576
theorem Raw.mx {w : World} {v : Value} {r c l : Nat} {zs : List Int} (h : Raw w v (r : Int) (c : Int) l zs) (hs : Snd (r : Int) (c : Int) l) : Mx w v r c zs 1048576 := by
 obtain ⟨a,cap,ps,h1,h2,h3,h4,h5⟩ := h;obtain ⟨s1,s2,s3,s4,s5⟩ := hs;exact ⟨_,ps,h1,h2,h3,by rw [h4];exact Int.ofNat.inj (by simpa using s5),by omega,by omega⟩
theorem trod_struct3m {H : Type} {enc : TypeId × Value → H} {P : Program} {w : World} {base : Nat} {spare : Nat → Bool} {held : Bool} {t : TypeId} {f0 f1 f2 : Field} {fuel : Nat} {cs : List Value} {x : DataW H × List MemPlace} (ht : P.underlying t = some (.struct #[f0,f1,f2]))
  (h : DataW.trod enc P w base spare held fuel t cs = some x) :
  ∃ y0 y1 y2 n,x.1 = .agg [y0.1,y1.1,y2.1] ∧ cs.length = P.cellsOf t ∧ DataW.trod enc P w base spare held n f0.type ((cs.drop f0.offset).take (P.cellsOf f0.type)) = some y0 ∧ DataW.trod enc P w base spare held n f1.type ((cs.drop f1.offset).take (P.cellsOf f1.type)) = some y1 ∧ DataW.trod enc P w base spare held n f2.type ((cs.drop f2.offset).take (P.cellsOf f2.type)) = some y2 := by
 obtain ⟨xs,n,_,rfl,hl,hlen,hf⟩ := DataW.trod_struct ht h
 match xs,hlen with
 | [y0,y1,y2],_ => exact ⟨y0,y1,y2,n,by simp,hl,by simpa using hf 0 f0 rfl,by simpa using hf 1 f1 rfl,by simpa using hf 2 f2 rfl⟩
theorem open_list9 {H : Type} {enc : TypeId × Value → H} {W : World} {fuel : Nat} {v : Value} {y : DataW H × List MemPlace}
  (hf : DataW.trod enc Tryz.prog W 0 (fun _ => true) true fuel 22 [v] = some y) (hb : Rows.uptoBulk y.1 ≤ 1048576) :
  ∃ a l cap ps zs,v = .slice a l cap ∧ Prs 0 W (.slice a l cap) ps ∧ Zis W ps zs 1048576 ∧ zs.length = l ∧ l ≤ 1048576 := by
 have hn : ∀ c,v = .slice none 0 c → c = 0 := by
  rcases Deep.open_slice Tryz.underlying22 hf with ⟨hcs,_⟩ | ⟨x,len,cap,m,n,D,Pl,hcs,_⟩
  ·simp only [List.cons.injEq,and_true] at hcs
   intro c e;rw [hcs] at e
   simpa using e.symm
  ·simp only [List.cons.injEq,and_true] at hcs
   intro c e;rw [hcs] at e;simp at e
 obtain ⟨zs,ks,h1,h2⟩ := zOE hf hb;have hz := h1.zl (K := 1048576) (by omega);obtain ⟨ps,p1,p2⟩ := hz.prs hn;obtain ⟨a,c,e,-,hl,-⟩ := hz;subst e;exact ⟨a,zs.length,c,ps,zs,rfl,p1,p2,rfl,hl⟩
theorem open_mat9 {H : Type} {enc : TypeId × Value → H} {W : World} {r : Reach} {b0 : Nat} {v : Value} {d : DataW H} {p : List MemPlace}
  (hv : Value.okWide Tryz.prog W r b0 24 v) (h0 : DataW.Trod enc Tryz.prog W 0 (fun _ => true) true 24 v d p) (hb : Rows.uptoBulk d ≤ 1048576) :
  ∃ r c l zs,Raw W v r c l zs := by
 obtain ⟨cs,rfl,hsz⟩ := okWide_struct Tryz.underlying24 hv;obtain ⟨fuel,hf⟩ := h0;obtain ⟨y0,y1,y2,n,hx,hl,t0,t1,t2⟩ := trod_struct3m Tryz.underlying24 hf;obtain ⟨L,rfl⟩ : ∃ L : List Value,cs = L.toArray := ⟨cs.toList,by simp⟩
 simp only [Value.cells] at hl t0 t1 t2;rw [Tryz.cellsM9] at hl;have hx' : d = .agg [y0.1,y1.1,y2.1] := hx;subst hx';simp only [Rows.uptoBulk,Rows.uptoBulkAll] at hb
 match L,hl with
 | [e0,e1,e2],_ =>
  simp only [Tryz.cellsI9,Tryz.cellsL9,List.drop_zero,List.drop_succ_cons,List.take_succ_cons,List.take_zero] at t0 t1 t2;obtain ⟨k0,q0,_,_⟩ := DataW.trod_int Tryz.underlying3 t0;obtain ⟨k1,q1,_,_⟩ := DataW.trod_int Tryz.underlying3 t1;simp only [List.cons.injEq,and_true] at q0 q1;subst q0 q1;obtain ⟨a,l,cap,ps,zs,rfl,h1,h2,h3,h4⟩ := open_list9 t2 (by omega);exact ⟨_,_,l,zs,a,cap,ps,rfl,h1,h2,h3,h4⟩
end Go.Proofs.YtmnecbniappnaaaGreat
