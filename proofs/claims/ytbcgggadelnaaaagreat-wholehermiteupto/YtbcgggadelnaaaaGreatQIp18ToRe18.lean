/-
 QIp18ToRe18: Ip18, Ha18, Ca18, Le18, Re18, joined.
-/
import Derived.Test.YtbcgggadelnaaaaGreatQSt18ToIo18
import Derived.Lib.JoinLaws
import Derived.Test.YtbcgggadelnaaaaGreatQExt6

set_option maxRecDepth 100000
set_option maxHeartbeats 6400000
set_option linter.unusedVariables false
set_option linter.unusedSimpArgs false
namespace Go.Proofs.YtbcgggadelnaaaaGreat
open Go.RowKit Go.Shelf Go.Lib
theorem insert_grow18 {B r vb x y p Bp : Nat} {w : World} {t : List Value} {ρ γ : Nat → Nat} (hp : p < r) (hr : r < 64) (hB : B ≤ w.heap.size) (hc : Cel w Bp 148 (sc18 r ρ γ ++ t))
  (hv : Cel w vb 148 [.int .i64 (x : Int),.int .i64 (y : Int)]) :
  Calls Tryz.prog 102 #[.slice (some ⟨Bp,0,none⟩) r r,.int .i64 (p : Int),.slice (some ⟨vb,0,none⟩) 1 1] w (zqF B w (.slice (some ⟨Bp,0,none⟩) r r) (r + 1) (insF p x ρ) (insF p y γ)) := by
 obtain ⟨i0,hi0,hz0,hzs,hzb⟩ := info_parts zlE;have hsz : (Tryz.prog.info? 148).map (·.size) = some 2 := by rw [hi0];simp [hzs]
 obtain ⟨cs,hcs⟩ : ∃ cs,cs = sc18 r ρ γ := ⟨_,rfl⟩
 have hcl : cs.length = r * 2 := by rw [hcs,zeA]
 rw [← hcs] at hc;have hbw := hc.blk;have hvw := hv.blk;have hone : ∀ v ∈ cs,v.oneCell' = true := by rw [hcs];exact zxF r ρ γ
 have hcell : ∀ j v,cs[j]? = some v → w.cell? ⟨Bp,j,none⟩ = some v := fun j v hj => hc.at (by rw [List.getElem?_append_left (List.getElem?_eq_some_iff.1 hj).1];exact hj)
 have hold : (Builtin.firstCells i0.size p (.slice (some ⟨Bp,0,none⟩) p r)).run Tryz.prog w.drew = .ok (cs.take (p * 2)).toArray w.drew := by
  rw [hzs];exact run_firstCells_some w.drew 2 p ⟨Bp,0,none⟩ p r (cs.take (p * 2)) (by rw [List.length_take];omega) (fun j v hj => by
   rw [Addr.add_lit,Nat.zero_add];rw [List.getElem?_take] at hj
   split at hj
   ·exact hcell j v hj
   ·cases hj)
 obtain ⟨G,hG⟩ : ∃ G,grownCap w (r + 1) r 148 = G := ⟨_,rfl⟩
 have hGn : r + 1 ≤ G := by rw [← hG];exact grownCap_ge w _ _ _
 have hG63 : G ≤ maxLen := by rw [← hG];exact grownCap_le_maxLen w (r + 1) r 148 (by unfold maxLen;omega)
 obtain ⟨Z,hZ⟩ : ∃ Z : Array Value,Builtin.zeroCells (Value.agg #[.int .i64 0,.int .i64 0]).cells (r + 1 - p) ++ Builtin.zeroCells (Value.agg #[.int .i64 0,.int .i64 0]).cells (G - (r + 1)) = Z := ⟨_,rfl⟩
 have hZs : Z.size = (r + 1 - p) * 2 + (G - (r + 1)) * 2 := by
  have hz : ∀ k,(Builtin.zeroCells (Value.agg #[.int .i64 0,.int .i64 0]).cells k).size = k * 2 := fun k => by
   simp [Builtin.zeroCells,Value.cells]
  rw [← hZ,Array.size_append,hz,hz]
 obtain ⟨cur0,hcur0⟩ : ∃ cur0 : Array Value,(cs.take (p * 2)).toArray ++ Z = cur0 := ⟨_,rfl⟩
 have hrz : ∀ ty,(Builtin.append_ #[73,3] ty #[.slice (some ⟨Bp,0,none⟩) p r,.int .i64 ((r + 1 - p : Nat) : Int)]).run Tryz.prog w = .ok (.slice (some ⟨w.heap.size,0,none⟩) (r + 1) G) (w.drew.alloc (.cells cur0 148)) := fun ty => by
  have h := Lib.run_append_grow_zeros w 73 3 ty 148 i0 _ .i64 .i64 Tryz.underlying73 Tryz.underlying3 hi0 hz0 (some ⟨Bp,0,none⟩) p r (cs.take (p * 2)) hold (r + 1 - p) (by omega) (by omega) (by omega) (by omega) (by rw [hzb];omega) (by rw [hzb,show p + (r + 1 - p) = r + 1 by omega];exact growslice_fits (by omega) (by omega));rw [show p + (r + 1 - p) = r + 1 by omega,hG,Array.append_assoc,hZ,hcur0] at h;exact h
 have hs0 : cur0.size = G * 2 := by rw [← hcur0,Array.size_append,hZs];simp [hcl];omega
 obtain ⟨W1,hW1⟩ : ∃ W1,w.drew.alloc (.cells cur0 148) = W1 := ⟨_,rfl⟩
 have hg0 : W1.heap[w.heap.size]? = some (.cells cur0 148 (0,0)) := by rw [← hW1];exact World.alloc_heap_new w.drew _
 have bw1 : Below w.heap.size w W1 := by rw [← hW1];exact (((Below.refl _ w).drew).alloc (Nat.le_refl _) _)
 obtain ⟨cur1,hcur1⟩ : ∃ cur1 : Array Value,cur1 = (cur0.toList.take (p * 2) ++ [Value.int .i64 (x : Int),Value.int .i64 (y : Int)] ++ cur0.toList.drop (p * 2 + 2)).toArray := ⟨_,rfl⟩
 have hs1 : cur1.size = G * 2 := by rw [hcur1];simp [hs0];omega
 have hvc : Cel W1 vb 148 [.int .i64 (x : Int),.int .i64 (y : Int)] := hv.step bw1;have hcpA : ∀ W : World,W.heap = W1.heap → ∀ ty dc,(Builtin.copy_ #[73,73] ty #[.slice (some ⟨w.heap.size,p * 2,none⟩) (r + 1 - p) dc,.slice (some ⟨vb,0,none⟩) 1 1]).run Tryz.prog W = .ok (goInt ((1 : Nat) : Int)) (W.setRow w.heap.size cur1) := fun W hW ty dc => by
  have h := zBB (P := Tryz.prog) W 73 73 ty 148 w.heap.size (p * 2) (r + 1 - p) dc ⟨vb,0,none⟩ 1 1 cur0 148 [Value.int .i64 (x : Int),Value.int .i64 (y : Int)] 1 Tryz.underlying73 hsz (by rw [hW];exact hg0) (by simp only [Nat.min_def];split <;> omega) rfl
   (fun j v hj => by
    rw [Addr.add_lit,Nat.zero_add];have := hvc.at hj;simp only [World.cell?,hW] at this ⊢;exact this)
   (by simp [hs0];omega) (by intro u hu;simp at hu;rcases hu with rfl | rfl <;> rfl)
  rw [h];simp only [List.length_cons,List.length_nil,Nat.zero_add,Nat.reduceAdd];rw [← hcur1]
 obtain ⟨W2,hW2⟩ : ∃ W2,W1.setRow w.heap.size cur1 = W2 := ⟨_,rfl⟩
 have hg1 : W2.heap[w.heap.size]? = some (.cells cur1 148 (0,0)) := by rw [← hW2];exact setRow_heap W1 w.heap.size cur0 cur1 _ _ hg0
 have hc2 : Cel W2 Bp 148 (cs ++ t) := by
  rw [← hW2]
  show (W1.setRow w.heap.size cur1).heap[Bp]? = _
  unfold World.setRow;rw [Array.getElem?_modify,if_neg (by omega)];exact hc.step bw1
 have hdl : (cs.drop (p * 2)).length = (r - p) * 2 := by rw [List.length_drop,hcl];omega
 obtain ⟨cur2,hcur2⟩ : ∃ cur2 : Array Value,cur2 = (cur1.toList.take ((p + 1) * 2) ++ cs.drop (p * 2) ++ cur1.toList.drop ((p + 1) * 2 + (cs.drop (p * 2)).length)).toArray := ⟨_,rfl⟩
 have hlen2 : cur2.size = G * 2 := by rw [hcur2];simp [hs1,hdl];omega
 have hcpB : ∀ W : World,W.heap = W2.heap → ∀ ty dc sc,(Builtin.copy_ #[73,73] ty #[.slice (some ⟨w.heap.size,(p + 1) * 2,none⟩) (r - p) dc,.slice (some ⟨Bp,p * 2,none⟩) (r - p) sc]).run Tryz.prog W = .ok (goInt ((r - p : Nat) : Int)) (W.setRow w.heap.size cur2) := fun W hW ty dc sc => by
  have h := zBB (P := Tryz.prog) W 73 73 ty 148 w.heap.size ((p + 1) * 2) (r - p) dc ⟨Bp,p * 2,none⟩ (r - p) sc cur1 148 (cs.drop (p * 2)) (r - p) Tryz.underlying73 hsz (by rw [hW];exact hg1) (by simp only [Nat.min_def];split <;> omega) hdl
   (fun j v hj => by
    rw [Addr.add_lit];rw [List.getElem?_drop] at hj;have hjl := (List.getElem?_eq_some_iff.1 hj).1;have := hc2.at (i := p * 2 + j) (v := v) (by rw [List.getElem?_append_left hjl];exact hj);simp only [World.cell?,hW] at this ⊢;exact this)
   (by rw [hdl,hs1];omega) (fun v hv => hone v (List.mem_of_mem_drop hv))
  rw [h,← hcur2]
 have hfin : cur2.toList = sc18 (r + 1) (insF p x ρ) (insF p y γ) ++ cur2.toList.drop ((r + 1) * 2) := by
  obtain ⟨d,hd⟩ : ∃ d,r = p + d := ⟨r - p,by omega⟩
  have e := zOD (p := p) (x := x) (y := y) (ρ := ρ) (γ := γ) d;rw [← hd,← hcs] at e;rw [e];have e0 : cur0.toList = cs.take (p * 2) ++ Z.toList := by rw [← hcur0];simp
  have l0 : (cs.take (p * 2)).length = p * 2 := by rw [List.length_take];omega
  have e1 : cur1.toList = cs.take (p * 2) ++ [Value.int .i64 (x : Int),Value.int .i64 (y : Int)] ++ cur0.toList.drop (p * 2 + 2) := by
   rw [hcur1,e0,List.take_append_of_le_length (by omega),List.take_take,Nat.min_self]
  have l1 : (cs.take (p * 2) ++ [Value.int .i64 (x : Int),Value.int .i64 (y : Int)]).length = (p + 1) * 2 := by simp [l0];omega
  have t1 : cur1.toList.take ((p + 1) * 2) = cs.take (p * 2) ++ [Value.int .i64 (x : Int),Value.int .i64 (y : Int)] := by rw [e1,← l1,List.take_left]
  obtain ⟨Y,hY⟩ : ∃ Y,cur1.toList.drop ((p + 1) * 2 + (cs.drop (p * 2)).length) = Y := ⟨_,rfl⟩
  have e2 : cur2.toList = (cs.take (p * 2) ++ [Value.int .i64 (x : Int),Value.int .i64 (y : Int)] ++ cs.drop (p * 2)) ++ Y := by rw [hcur2,t1,hY]
  have l3 : (cs.take (p * 2) ++ [Value.int .i64 (x : Int),Value.int .i64 (y : Int)] ++ cs.drop (p * 2)).length = (r + 1) * 2 := by rw [List.length_append,l1,hdl];omega
  rw [e2,← l3,List.drop_left]
 have FIN : Hid (∀ W : World,W.heap = (W2.setRow w.heap.size cur2).heap → W.os = w.os → W.tape = w.tape → W.output = w.output → zqF B w (.slice (some ⟨Bp,0,none⟩) r r) (r + 1) (insF p x ρ) (insF p y γ) (.returned (.slice (some ⟨w.heap.size,0,none⟩) (r + 1) G)) W) := fun W h1 h2 h3 h4 => by
  have ht : Touch (fun b => (Value.slice (some ⟨Bp,0,none⟩) r r).ownBlock = some b) w (W2.setRow w.heap.size cur2) := by
   rw [← hW2];exact zAB (zAB (Touch.ofBelow bw1) (.inl (Nat.le_refl _)) _) (.inl (Nat.le_refl _)) _
  refine ⟨_,rfl,.inr ⟨by omega,w.heap.size,G,cur2.toList.drop ((r + 1) * 2),rfl,hGn,hB,hG63,by simp [hlen2];omega,?_⟩,⟨h2,h3,h4,by rw [h1];exact ht.size,fun b hb hn => by rw [h1];exact ht.block b hb hn⟩⟩;rw [← hfin]
  show W.heap[w.heap.size]? = _
  rw [h1];have := setRow_heap W2 w.heap.size cur1 cur2 _ _ hg1;rw [this]
 have hz2 : ¬ ((p : Int) = (r : Int)) := by omega
 have hz3 : (r : Int) < (r : Int) + 1 := by omega
 have hw1 : IntKind.i64.wrap ((p : Int) + 1) = (p : Int) + 1 := by rw [IntKind.wrap_i64];omega
 have hw2 : IntKind.i64.wrap ((r : Int) + 1) = (r : Int) + 1 := by rw [IntKind.wrap_i64];omega
 have hw3 : IntKind.i64.wrap ((r : Int) + 1 - (p : Int)) = ((r + 1 - p : Nat) : Int) := by rw [IntKind.wrap_i64];omega
 have htn : ((p : Int) + 1).toNat = p + 1 := by omega
 have hb1 : (0 : Int) ≤ (p : Int) + 1 := by omega
 have hpr : (p : Int) ≤ (r : Int) := by omega
 have hpr2 : (p : Int) ≤ (r : Int) + 1 := by omega
 have hpr3 : (p : Int) + 1 ≤ (r : Int) + 1 := by omega
 have hpr4 : p ≤ r := by omega
 have hpr5 : p ≤ r + 1 := by omega
 have hb2 : ¬ (G = p + 1) := by omega
 have hb3 : ¬ (G = p) := by omega
 have hb4 : ¬ (r = p) := by omega
 have hrz' := hrz 73;have hqA := hcpA ((w.alloc (.cells cur0 148)).drew) (by rw [← hW1];rfl) 3 (G - p);have hqB := hcpB ((((w.alloc (.cells cur0 148)).drew).setRow w.heap.size cur1).drew) (by rw [← hW2,← hW1];rfl) 3 (G - (p + 1)) (r - p);have EW : Hid ((W2.setRow w.heap.size cur2).heap = (((((w.alloc (.cells cur0 148)).drew).setRow w.heap.size cur1).drew).setRow w.heap.size cur2).heap) := by unfold Hid;rw [← hW2,← hW1];rfl
 clear hc hv hcs hcl hbw hvw hone hcell hold hG hZ hZs hcur0 hs0 hW1 hg0 bw1 hcur1 hs1 hvc hcpA hW2 hg1 hc2 hdl hcur2 hlen2 hcpB hfin hrz hi0 hz0 hzs hzb hsz;go_enter Tryz.func102,Tryz.ntmps102;go_wp2_with (at_builtin;refine Lib.wpList_append_run _ rfl _ _ _ _ rfl _ _ rfl rfl _ _ hrz' ?_)
 go_region;go_wp2;go_ret;exact FIN.out _ EW.out.symm rfl rfl rfl
end Go.Proofs.YtbcgggadelnaaaaGreat
namespace Go.Proofs.YtbcgggadelnaaaaGreat
open Go.RowKit
attribute [local go_sem] zQC
theorem exch_same18 {w : World} {bs i : Nat} (hi : i ≤ 64) : Calls Tryz.prog 104 #[.pointer (some ⟨bs,0,none⟩),.int .i64 (i : Int),.int .i64 (i : Int)] w fun e w' => e = .returned (.tuple #[]) ∧ w' = w := by
 go_enter Tryz.func104,Tryz.ntmps104;go_wp2;refine bodyPost_ret (results_none rfl _ _ _) rfl ?_;exact ⟨rfl,rfl⟩
end Go.Proofs.YtbcgggadelnaaaaGreat
namespace Go.Proofs.YtbcgggadelnaaaaGreat
open Go.RowKit
def Mq18 (W wx : World) (s1 s2 : Value) (z1 z2 : Int) (k : Nat) : Prop :=
 ∃ b1 b2 n1 a1 l1 c1 n2 a2 l2 c2,s1 = .pointer (some ⟨b1,0,none⟩) ∧ s2 = .pointer (some ⟨b2,0,none⟩) ∧ W.heap.size ≤ b1 ∧ W.heap.size ≤ b2 ∧ Duo wx b1 (.bool n1) (.slice a1 l1 c1) ∧ Duo wx b2 (.bool n2) (.slice a2 l2 c2)
  ∧ Zm 0 wx (.agg #[.bool n1,.slice a1 l1 c1]) z1 k ∧ Zm 0 wx (.agg #[.bool n2,.slice a2 l2 c2]) z2 k ∧ Below W.heap.size W wx
def Mo18 (W wx : World) (s1 : Value) (z1 : Int) (k : Nat) : Prop :=
 ∃ b1 n1 a1 l1 c1,s1 = .pointer (some ⟨b1,0,none⟩) ∧ W.heap.size ≤ b1 ∧ Duo wx b1 (.bool n1) (.slice a1 l1 c1) ∧ Zm 0 wx (.agg #[.bool n1,.slice a1 l1 c1]) z1 k ∧ Below W.heap.size W wx
theorem zbC {a g : Int} (h : g ∣ a) (h0 : g ≠ 0) : (a.tdiv g).natAbs ≤ a.natAbs ∧ a = g * a.tdiv g := by
 obtain ⟨q,rfl⟩ := h;rw [Int.mul_tdiv_cancel_left _ h0];refine ⟨?_,rfl⟩;rw [Int.natAbs_mul];have : 1 * q.natAbs ≤ g.natAbs * q.natAbs := Nat.mul_le_mul_right _ (by omega);omega
theorem Lv18.mixE {n i r c p T : Nat} {ρ γ : Nat → Nat} {X A : Nat → Nat → Int} (h : Lv18 n i r ρ γ X A c p T) (hp : p < r) (hc : γ p = c) (hn0 : X i c ≠ 0) {g x y : Int} (hv : ExtV (X (ρ p) c) (X i c) g x y) :
  0 < g ∧ (X i c).tmod g = 0 ∧ (X (ρ p) c).tmod g = 0 ∧ Lv18 n i r ρ γ (mixX X (ρ p) i x y (-((X i c).tdiv g)) ((X (ρ p) c).tdiv g)) A (c + 1) (p + 1) T ∧ x.natAbs ≤ bd18 T p ∧ y.natAbs ≤ bd18 T p ∧ ((X i c).tdiv g).natAbs ≤ bd18 T p ∧ ((X (ρ p) c).tdiv g).natAbs ≤ bd18 T p := by
 have hp0 := h.ec.pos p hp;have hcn := h.ec.cl p hp;rw [hc] at hp0 hcn;have d1 : g ∣ X (ρ p) c := by rw [hv.gcd];exact Int.gcd_dvd_left _ _
 have d2 : g ∣ X i c := by rw [hv.gcd];exact Int.gcd_dvd_right _ _
 have g0 : 0 < g := by
  rw [hv.gcd];have := Int.gcd_pos_of_ne_zero_left (X i c) (show X (ρ p) c ≠ 0 by omega);omega
 obtain ⟨e1,e2⟩ := zbC d1 (by omega);obtain ⟨e3,e4⟩ := zbC d2 (by omega);obtain ⟨s1,s2,-⟩ := hv.small;have b2 := h.b2 p c (Nat.le_refl _) hp hcn;have b3 := h.b3 c hcn;have bT := zVF h.one p;obtain ⟨P,hP⟩ : ∃ P,X (ρ p) c = P := ⟨_,rfl⟩
 obtain ⟨N,hN⟩ : ∃ N,X i c = N := ⟨_,rfl⟩
 obtain ⟨u,hu⟩ : ∃ u,N.tdiv g = u := ⟨_,rfl⟩
 obtain ⟨v,hv'⟩ : ∃ v,P.tdiv g = v := ⟨_,rfl⟩
 have hl := hv.lin;rw [hP,hN] at hl;have tm1 : (X i c).tmod g = 0 := Int.tmod_eq_zero_of_dvd d2;have tm2 : (X (ρ p) c).tmod g = 0 := Int.tmod_eq_zero_of_dvd d1;rw [hP] at e1 e2 s2 b2 hp0 tm2;rw [hN] at e3 e4 s1 b3 hn0 tm1;rw [hv'] at e1 e2;rw [hu] at e3 e4;have hdet : x * v - y * (-u) = 1 := by
  refine Int.eq_of_mul_eq_mul_left (show g ≠ 0 by omega) ?_;have : g * (x * v - y * -u) = (g * v) * x + (g * u) * y := by grind
  rw [this,← e2,← e4,hl,Int.mul_one]
 refine ⟨g0,by rw [hN];exact tm1,by rw [hP];exact tm2,?_,by omega,by omega,by rw [hN,hu];omega,by rw [hP,hv'];omega⟩;rw [hN,hP,hu,hv'];refine h.mix hp hc hdet ?_ ?_ (by omega) (by rw [Int.natAbs_neg];omega) (by omega) (by omega)
 ·rw [hP,hN,e2,e4]
  have : -u * (g * v) + v * (g * u) = 0 := by grind
  rw [← e2,← e4] at this ⊢;exact this
 ·rw [hP,hN]
  have : x * P + y * N = g := by rw [← hl];grind
  omega
theorem zBF {f : Func} {s1 s2 s3 : Nat} (hr : f.results = #[ResultVar.tmp s1,ResultVar.tmp s2,ResultVar.tmp s3]) {W : World} {u v x : Value} (tmps : Array Value) (hu : tmps[s1]? = some u) (hv : tmps[s2]? = some v) (hx : tmps[s3]? = some x) : (results f tmps).run Tryz.prog W = .ok (.tuple #[u,v,x]) W := by
 simp [results,hr,go_sem,hu,hv,hx]
theorem fdv_ediv18 {z p : Int} (hp : 0 < p) : fdv z p = z / p := by
 have e := Int.mul_tdiv_add_tmod z p;have c2 : cmpI p 0 = 1 := by unfold cmpI;split <;> (try split) <;> omega
 have l1 := Int.tmod_lt_of_pos z hp;have l2 : -p < z.tmod p := by
  have := Int.tmod_lt_of_pos (-z) hp;rw [Int.neg_tmod] at this;omega
 unfold fdv;rw [c2,Int.mul_one]
 by_cases q : z.tmod p < 0
 ·have : cmpI (z.tmod p) 0 < 0 := by unfold cmpI;split <;> (try split) <;> omega
  rw [if_pos this];have := (Int.ediv_emod_unique (a := z) (b := p) (r := z.tmod p + p) (q := z.tdiv p - 1) hp).2 ⟨by rw [Int.mul_sub];omega,by omega,by omega⟩;omega
 ·have : ¬ cmpI (z.tmod p) 0 < 0 := by unfold cmpI;split <;> (try split) <;> omega
  rw [if_neg this];have := (Int.ediv_emod_unique (a := z) (b := p) (r := z.tmod p) (q := z.tdiv p) hp).2 ⟨by omega,by omega,by omega⟩;omega
theorem isReduced18 {w : World} {n n' : Bool} {a a' : Option Addr} {l l' c c' : Nat} {z y : Int} {k : Nat} (h : Zm 0 w (.agg #[.bool n,.slice a l c]) z k) (h' : Zm 0 w (.agg #[.bool n',.slice a' l' c']) y k) : Calls Tryz.prog 128 #[.agg #[.bool n,.slice a l c],.agg #[.bool n',.slice a' l' c']] w fun e w' => e = .returned (.bool (decide (0 ≤ z ∧ z < y))) ∧ Below w.heap.size w w' := by
 obtain ⟨W0,hW0⟩ : ∃ W0,(w.alloc (duo (.bool n) (.slice a l c))).alloc (duo (.bool n') (.slice a' l' c')) = W0 := ⟨_,rfl⟩
 obtain ⟨b0,sz0⟩ := zZA w (duo (.bool n) (.slice a l c)) (duo (.bool n') (.slice a' l' c'));rw [hW0] at b0 sz0;have p0 : Duo W0 (w.heap.size) (.bool n) (.slice a l c) := by rw [← hW0];exact zCA (zGA (by simp)) _
 have p1 : Duo W0 (w.heap.size + 1) (.bool n') (.slice a' l' c') := by rw [← hW0];exact zGA (by simp)
 have HS := hid (zrA (h.now b0).zi);have Z0 := hid (h.now b0);have Z1 := hid (h'.now b0);have B0 := hid b0;have D0 := hid p0;have D1 := hid p1;have i0 := p0.c0;have i1 := p0.c1;have EW := hid hW0;rw [← hW0] at i0 i1;obtain ⟨sd,hsd⟩ : ∃ sd,decide (0 ≤ z ∧ z < y) = sd := ⟨_,rfl⟩
 have HSD := hid hsd;rw [hsd];have hsz : cmpI z 0 = -1 ∧ z < 0 ∨ 0 ≤ cmpI z 0 ∧ 0 ≤ z := by unfold cmpI;split <;> (try split) <;> omega
 obtain ⟨sg,hsg⟩ : ∃ sg,cmpI z 0 = sg := ⟨_,rfl⟩
 rw [hsg] at hsz HS;have HSZ := hid hsz;clear h h' b0 sz0 p0 p1 hW0 hsd hsg hsz;go_enter Tryz.func128,Tryz.ntmps128;go_upto_region 1 with fail
 rw [EW.out];rw [EW.out] at i0 i1;go_wp2_with fail;refine HS.out.mono ?_;rintro e w1 ⟨rfl,b⟩;rcases HSZ.out with ⟨hq,hz⟩ | ⟨hq,hz⟩
 ·subst hq
  have FF : Hid (false = sd ∧ Below w.heap.size w w1) := ⟨by rw [← HSD.out];exact (decide_eq_false (by omega)).symm,below_step B0.out b⟩
  clear HS b hz HSD HSZ EW i0 i1;go_wp2;go_ret;exact ⟨by rw [FF.out.1];rfl,FF.out.2⟩
 ·have hq2 : (0 : Int) ≤ sg := hq
  have HC := hid (zSI (Z0.out.now b).zi (Z1.out.now b).zi);have j0 := (D0.out.step b).c0;have j1 := (D0.out.step b).c1;have k0 := (D1.out.step b).c0;have k1 := (D1.out.step b).c1;have hcy : cmpI z y = -1 ∧ z < y ∨ 0 ≤ cmpI z y ∧ ¬ z < y := by unfold cmpI;split <;> (try split) <;> omega
  obtain ⟨cy,hcye⟩ : ∃ cy,cmpI z y = cy := ⟨_,rfl⟩
  rw [hcye] at hcy HC;have HCY := hid hcy;have BB := hid b;have HZ := hid hz;clear HS b hz HSZ EW i0 i1 hcy hcye hq;go_wp2_with fail;refine HC.out.mono ?_;rintro e w2 ⟨rfl,b⟩;rcases HCY.out with ⟨hq,hl⟩ | ⟨hq,hl⟩
  ·subst hq
   have FF : Hid (true = sd ∧ Below w.heap.size w w2) := ⟨by rw [← HSD.out];exact (decide_eq_true ⟨HZ.out,hl⟩).symm,below_step (below_step B0.out BB.out) b⟩
   clear HC b hl HSD HCY BB HZ j0 j1 k0 k1;go_wp2;go_ret;exact ⟨by rw [FF.out.1];rfl,FF.out.2⟩
  ·have hq3 : ¬ cy < 0 := by omega
   have FF : Hid (false = sd ∧ Below w.heap.size w w2) := ⟨by rw [← HSD.out];exact (decide_eq_false (by omega)).symm,below_step (below_step B0.out BB.out) b⟩
   clear HC b hl HSD HCY BB HZ j0 j1 k0 k1 hq;go_wp2;go_ret;have q0 : decide (cy < 0) = sd := by rw [← FF.out.1];exact decide_eq_false (by omega)
   exact ⟨by rw [← q0];rfl,FF.out.2⟩
theorem Lw18.pw {m n K r T a b kw : Nat} {ρ γ : Nat → Nat} {X A : Nat → Nat → Int} (h : Lw18 m n K r ρ γ X A T a b) (hTb : Tb18 m n A T) (hb : b ≤ a + 65) (hT : ((bd18 T 128 : Nat) : Int) < Proofs.YtbcgggadelnaaaaGreat.pw kw) : ∀ t j,t < K → j < n → ((X t j).natAbs : Int) < Proofs.YtbcgggadelnaaaaGreat.pw kw := fun t j ht hj => by
 have a := h.any hTb hb t j ht hj;omega
end Go.Proofs.YtbcgggadelnaaaaGreat
