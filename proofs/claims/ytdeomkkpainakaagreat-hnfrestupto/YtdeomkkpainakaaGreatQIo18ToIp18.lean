/-
 QIo18ToIp18: Io18, Ip18, joined.
-/
import Derived.Test.YtdeomkkpainakaaGreatQLd18ToIn18
import Derived.Lib.JoinLaws

set_option maxRecDepth 100000
set_option maxHeartbeats 6400000
set_option linter.unusedVariables false
set_option linter.unusedSimpArgs false
namespace Go.Proofs.YtdeomkkpainakaaGreat
open Go.RowKit Go.Shelf Go.Lib
theorem zGB {P : Program} (w : World) (dT sT ty elem : TypeId) (g o dLen dCap : Nat) (a : Addr) (sLen sCap : Nat) (cur : Array Value) (t : TypeId) (cs : List Value) (k : Nat)
  (hu : P.underlying dT = some (.slice elem)) (hs : (P.info? elem).map (·.size) = some 2)
  (hg : w.heap[g]? = some (.cells cur t (0,0))) (hk : k = Nat.min sLen dLen) (hn : cs.length = k * 2)
  (hsrc : ∀ j v,cs[j]? = some v → w.cell? (a.add j) = some v) (hfit : o + cs.length ≤ cur.size) (h1 : ∀ v ∈ cs,v.oneCell' = true) :
  (Builtin.copy_ #[dT,sT] ty #[.slice (some ⟨g,o,none⟩) dLen dCap,.slice (some a) sLen sCap]).run P w =
   .ok (goInt k) (w.setRow g (cur.toList.take o ++ cs ++ cur.toList.drop (o + cs.length)).toArray) := by
 have hl := run_loadCells_list (P := P) w a cs hsrc;have hst := run_storeCells_at P g o t cs 0 cur w hg (by simpa using hfit) h1;cases hq : P.info? elem with
 | none => simp [hq] at hs
 | some i =>
  have hi : i.size = 2 := by simpa [hq] using hs
  simp [Builtin.copy_,run_underlying hu,Builtin.lenOf,Builtin.firstCells,sizeOf,typeInfo,hq,hi,← hk,← hn,hl,hst]
theorem zFB {S : Nat → Prop} {w0 w : World} (h : Touch S w0 w) {g : Nat} (hg : w0.heap.size ≤ g ∨ S g) (cs : Array Value) : Touch S w0 (w.setRow g cs) := by
 refine ⟨h.os,h.tape,h.output,?_,fun b hb hn => ?_⟩
 ·have := h.size
  simpa [World.setRow] using this
 ·rw [← h.block b hb hn]
  unfold World.setRow;rw [Array.getElem?_modify,if_neg (by
   rintro rfl;rcases hg with q | q
   ·omega
   ·exact hn q)]
theorem insert_shift18 {B r vb x y p Bp cap : Nat} {w : World} {t : List Value} {ρ γ : Nat → Nat} (hp : p < r) (hr : r < 64) (hroom : r + 1 ≤ cap) (hB : B ≤ Bp) (hc63 : cap ≤ 9223372036854775807) (htl : t.length + r * 2 = cap * 2) (hc : Cel w Bp 118 (sc18 r ρ γ ++ t))
  (hv : Cel w vb 118 [Value.int .i64 (x : Int),Value.int .i64 (y : Int)]) (hne : vb ≠ Bp) :
  Calls Tryz.prog 87 #[.slice (some ⟨Bp,0,none⟩) r cap,.int .i64 (p : Int),.slice (some ⟨vb,0,none⟩) 1 1] w (zxF B w (.slice (some ⟨Bp,0,none⟩) r cap) (r + 1) (insF p x ρ) (insF p y γ)) := by
 have hsz : (Tryz.prog.info? 118).map (·.size) = some 2 := by
  obtain ⟨i,hii,hz,hsz,hby⟩ := info_parts zuE;rw [hii];simp [hsz]
 obtain ⟨cs,hcs⟩ : ∃ cs,cs = sc18 r ρ γ := ⟨_,rfl⟩
 have hcl : cs.length = r * 2 := by rw [hcs,zeA]
 obtain ⟨cur0,hcur0⟩ : ∃ cur0 : Array Value,cur0 = (cs ++ t).toArray := ⟨_,rfl⟩
 have hg0 : w.heap[Bp]? = some (.cells cur0 118 (0,0)) := by rw [hcur0,hcs];exact hc
 have hs0 : cur0.size = cap * 2 := by rw [hcur0];simp [hcl];omega
 obtain ⟨cur1,hcur1⟩ : ∃ cur1 : Array Value,cur1 = (cur0.toList.take ((p + 1) * 2) ++ cs.drop (p * 2) ++ cur0.toList.drop ((p + 1) * 2 + (cs.drop (p * 2)).length)).toArray := ⟨_,rfl⟩
 have hdl : (cs.drop (p * 2)).length = (r - p) * 2 := by rw [List.length_drop,hcl];omega
 have hs1 : cur1.size = cap * 2 := by rw [hcur1];simp [hdl,hs0];omega
 have hone : ∀ v ∈ cs,v.oneCell' = true := by rw [hcs];exact zEG r ρ γ
 have hcp1 : Hid (∀ W : World,W.heap = w.heap → ∀ ty dc sc,(Builtin.copy_ #[83,83] ty #[.slice (some ⟨Bp,(p + 1) * 2,none⟩) (r - p) dc,.slice (some ⟨Bp,p * 2,none⟩) (r + 1 - p) sc]).run Tryz.prog W = .ok (goInt ((r - p : Nat) : Int)) (W.setRow Bp cur1)) := fun W hW ty dc sc => by
  have h := zGB (P := Tryz.prog) W 83 83 ty 118 Bp ((p + 1) * 2) (r - p) dc ⟨Bp,p * 2,none⟩ (r + 1 - p) sc cur0 118 (cs.drop (p * 2)) (r - p) Tryz.underlying83 hsz (by rw [hW];exact hg0) (by simp only [Nat.min_def];split <;> omega) hdl
   (fun j v hj => by
    rw [Addr.add_lit];rw [List.getElem?_drop] at hj;have hjl := (List.getElem?_eq_some_iff.1 hj).1;simp only [World.cell?,hW,hg0];rw [hcur0];simp only [List.getElem?_toArray];rw [List.getElem?_append_left hjl];exact hj)
   (by rw [hdl,hs0];omega) (fun v hv => hone v (List.mem_of_mem_drop hv))
  rw [h,← hcur1]
 obtain ⟨cur2,hcur2⟩ : ∃ cur2 : Array Value,cur2 = (cur1.toList.take (p * 2) ++ [Value.int .i64 (x : Int),Value.int .i64 (y : Int)] ++ cur1.toList.drop (p * 2 + 2)).toArray := ⟨_,rfl⟩
 obtain ⟨W1,hW1⟩ : ∃ W1,w.setRow Bp cur1 = W1 := ⟨_,rfl⟩
 have hg1 : W1.heap[Bp]? = some (.cells cur1 118 (0,0)) := by rw [← hW1];exact setRow_heap w Bp cur0 cur1 _ _ hg0
 have hv1 : Cel W1 vb 118 [Value.int .i64 (x : Int),Value.int .i64 (y : Int)] := by
  rw [← hW1]
  show (w.setRow Bp cur1).heap[vb]? = _
  unfold World.setRow;rw [Array.getElem?_modify,if_neg (Ne.symm hne)];exact hv
 have hcp2 : Hid (∀ W : World,W.heap = W1.heap → ∀ ty dc,(Builtin.copy_ #[83,83] ty #[.slice (some ⟨Bp,p * 2,none⟩) (r + 1 - p) dc,.slice (some ⟨vb,0,none⟩) 1 1]).run Tryz.prog W = .ok (goInt ((1 : Nat) : Int)) (W.setRow Bp cur2)) := fun W hW ty dc => by
  have h := zGB (P := Tryz.prog) W 83 83 ty 118 Bp (p * 2) (r + 1 - p) dc ⟨vb,0,none⟩ 1 1 cur1 118 [Value.int .i64 (x : Int),Value.int .i64 (y : Int)] 1 Tryz.underlying83 hsz (by rw [hW];exact hg1) (by simp only [Nat.min_def];split <;> omega) rfl
   (fun j v hj => by
    rw [Addr.add_lit,Nat.zero_add];have := hv1.at hj;simp only [World.cell?,hW] at this ⊢;exact this)
   (by simp [hs1];omega) (by intro u hu;simp at hu;rcases hu with rfl | rfl <;> rfl)
  rw [h];simp only [List.length_cons,List.length_nil,Nat.zero_add,Nat.reduceAdd];rw [← hcur2]
 have hfin : cur2.toList = sc18 (r + 1) (insF p x ρ) (insF p y γ) ++ cur2.toList.drop ((r + 1) * 2) := by
  obtain ⟨d,hd⟩ : ∃ d,r = p + d := ⟨r - p,by omega⟩
  have e := zRD (p := p) (x := x) (y := y) (ρ := ρ) (γ := γ) d;rw [← hd,← hcs] at e;rw [e];have e0 : cur0.toList = cs ++ t := by rw [hcur0]
  have e1 : cur1.toList = (cs ++ t).take ((p + 1) * 2) ++ cs.drop (p * 2) ++ (cs ++ t).drop ((p + 1) * 2 + (cs.drop (p * 2)).length) := by rw [hcur1,e0]
  have e2 : cur2.toList = cur1.toList.take (p * 2) ++ [Value.int .i64 (x : Int),Value.int .i64 (y : Int)] ++ cur1.toList.drop (p * 2 + 2) := by rw [hcur2]
  have l1 : ((cs ++ t).take ((p + 1) * 2)).length = (p + 1) * 2 := by rw [List.length_take,List.length_append];omega
  have t1 : cur1.toList.take (p * 2) = cs.take (p * 2) := by
   rw [e1,List.append_assoc,List.take_append_of_le_length (by omega),List.take_take,Nat.min_eq_left (by omega),List.take_append_of_le_length (by omega)]
  have t2 : cur1.toList.drop (p * 2 + 2) = cs.drop (p * 2) ++ (cs ++ t).drop ((p + 1) * 2 + (cs.drop (p * 2)).length) := by
   rw [e1,List.append_assoc,List.drop_append_of_le_length (by omega),List.drop_of_length_le (by omega),List.nil_append]
  rw [t1,t2] at e2;have l3 : (cs.take (p * 2) ++ [Value.int .i64 (x : Int),Value.int .i64 (y : Int)] ++ cs.drop (p * 2)).length = (r + 1) * 2 := by
   simp [hdl,List.length_take,hcl];omega
  obtain ⟨Z,hZ⟩ : ∃ Z,(cs ++ t).drop ((p + 1) * 2 + (cs.drop (p * 2)).length) = Z := ⟨_,rfl⟩
  rw [hZ] at e2;have e3 : cur2.toList = (cs.take (p * 2) ++ [Value.int .i64 (x : Int),Value.int .i64 (y : Int)] ++ cs.drop (p * 2)) ++ Z := by rw [e2];simp only [List.append_assoc]
  rw [e3,← l3,List.drop_left]
 have hlen2 : cur2.size = cap * 2 := by rw [hcur2];simp [hs1];omega
 have FIN : Hid (∀ W : World,W.heap = (W1.setRow Bp cur2).heap → W.os = w.os → W.tape = w.tape → W.output = w.output → zxF B w (.slice (some ⟨Bp,0,none⟩) r cap) (r + 1) (insF p x ρ) (insF p y γ) (.returned (.slice (some ⟨Bp,0,none⟩) (r + 1) cap)) W) := fun W h1 h2 h3 h4 => by
  have ht : Touch (fun b => (Value.slice (some ⟨Bp,0,none⟩) r cap).ownBlock = some b) w (W1.setRow Bp cur2) := by
   rw [← hW1];have hS : (Value.slice (some ⟨Bp,0,none⟩) r cap).ownBlock = some Bp := rfl;exact zFB (zFB (Touch.refl (fun b => (Value.slice (some ⟨Bp,0,none⟩) r cap).ownBlock = some b) w) (.inr hS) _) (.inr hS) _
  refine ⟨_,rfl,.inr ⟨by omega,Bp,cap,cur2.toList.drop ((r + 1) * 2),rfl,hroom,hB,hc63,by simp [hlen2];omega,?_⟩,⟨h2,h3,h4,by rw [h1];exact ht.size,fun b hb hn => by rw [h1];exact ht.block b hb hn⟩⟩;rw [← hfin]
  show W.heap[Bp]? = _
  rw [h1];have := setRow_heap W1 Bp cur1 cur2 _ _ hg1;rw [this]
 have hvb := hv.blk;have hov : Hid (∀ W : World,W.heap = w.heap → ∀ lb cb,(callFunc 112 #[.slice (some ⟨vb,0,none⟩) 1 1,.slice (some ⟨Bp,(p + 1) * 2,none⟩) lb cb]).run Tryz.prog W = .ok (.value (.bool false)) W) := fun W hW lb cb => by
  rw [run_callFunc_extern Tryz.func112 (by kernel_rfl) (by kernel_rfl) (by kernel_rfl) (e := Extern.SlicesOverlaps.overlaps #[83,83] #[4]) (by kernel_rfl),
   Lib.run_overlaps_apart W 83 4 118 Tryz.underlying83 2 (fun w => by
    obtain ⟨i,hii,hz,hsz,hby⟩ := info_parts zuE;simp [sizeOf,typeInfo,hii,hsz]) ⟨vb,0,none⟩ ⟨Bp,(p + 1) * 2,none⟩ 1 1 lb cb hne 118 118 2 (cap * 2) (by simp [World.shape?,hW,show w.heap[vb]? = _ from hv]) (by simp [World.shape?,hW,hg0,hs0]) (by omega) (by simp [World.frozen?,hW,show w.heap[vb]? = _ from hv]) (by simp [World.frozen?,hW,show w.heap[vb]? = _ from hv])]
  rfl
 have hz2 : ¬ ((p : Int) = (r : Int)) := by omega
 have hz3 : ¬ (cap : Int) < (r : Int) + 1 := by omega
 have hz4 : ¬ (cap < r + 1) := by omega
 have hw1 : IntKind.i64.wrap ((p : Int) + 1) = (p : Int) + 1 := by rw [IntKind.wrap_i64];omega
 have hw2 : IntKind.i64.wrap ((r : Int) + 1) = (r : Int) + 1 := by rw [IntKind.wrap_i64];omega
 have htn : ((p : Int) + 1).toNat = p + 1 := by omega
 have htr : ((r : Int) + 1).toNat = r + 1 := by omega
 have hb1 : (0 : Int) ≤ (p : Int) + 1 := by omega
 have hb0 : (0 : Int) ≤ (r : Int) + 1 := by omega
 have hbr : (r : Int) + 1 ≤ (cap : Int) := by omega
 have hpr : (p : Int) ≤ (r : Int) := by omega
 have hpr2 : (p : Int) ≤ (r : Int) + 1 := by omega
 have hpr3 : (p : Int) + 1 ≤ (r : Int) + 1 := by omega
 have hpr4 : p ≤ r := by omega
 have hpr5 : p ≤ r + 1 := by omega
 have hb2 : ¬ (cap = p + 1) := by omega
 have hb4 : ¬ (cap = p) := by omega
 have EW1 := hid hW1;have hov' := hov.out;clear hc hv hcs hcl hcur0 hg0 hs0 hcur1 hdl hs1 hone hcur2 hW1 hg1 hv1 hfin hlen2 hvb hov;go_enter Tryz.func87,Tryz.ntmps87;go_wp2_with (simp only [hov' _ rfl])
 have hq1 := hcp1.out w.drew rfl 3 (cap - (p + 1)) (cap - p);go_region;clear hq1;have hq2 := hcp2.out (w.drew.setRow Bp cur1) (by rw [← EW1.out];rfl) 3 (cap - p);go_wp2;go_ret;exact FIN.out _ (by rw [← EW1.out];rfl) rfl rfl rfl
theorem insert_grow18 {B r vb x y p Bp : Nat} {w : World} {t : List Value} {ρ γ : Nat → Nat} (hp : p < r) (hr : r < 64) (hB : B ≤ w.heap.size) (hc : Cel w Bp 118 (sc18 r ρ γ ++ t))
  (hv : Cel w vb 118 [.int .i64 (x : Int),.int .i64 (y : Int)]) :
  Calls Tryz.prog 87 #[.slice (some ⟨Bp,0,none⟩) r r,.int .i64 (p : Int),.slice (some ⟨vb,0,none⟩) 1 1] w (zxF B w (.slice (some ⟨Bp,0,none⟩) r r) (r + 1) (insF p x ρ) (insF p y γ)) := by
 obtain ⟨i0,hi0,hz0,hzs,hzb⟩ := info_parts zuE;have hsz : (Tryz.prog.info? 118).map (·.size) = some 2 := by rw [hi0];simp [hzs]
 obtain ⟨cs,hcs⟩ : ∃ cs,cs = sc18 r ρ γ := ⟨_,rfl⟩
 have hcl : cs.length = r * 2 := by rw [hcs,zeA]
 rw [← hcs] at hc;have hbw := hc.blk;have hvw := hv.blk;have hone : ∀ v ∈ cs,v.oneCell' = true := by rw [hcs];exact zEG r ρ γ
 have hcell : ∀ j v,cs[j]? = some v → w.cell? ⟨Bp,j,none⟩ = some v := fun j v hj => hc.at (by rw [List.getElem?_append_left (List.getElem?_eq_some_iff.1 hj).1];exact hj)
 have hold : (Builtin.firstCells i0.size p (.slice (some ⟨Bp,0,none⟩) p r)).run Tryz.prog w.drew = .ok (cs.take (p * 2)).toArray w.drew := by
  rw [hzs];exact run_firstCells_some w.drew 2 p ⟨Bp,0,none⟩ p r (cs.take (p * 2)) (by rw [List.length_take];omega) (fun j v hj => by
   rw [Addr.add_lit,Nat.zero_add];rw [List.getElem?_take] at hj
   split at hj
   ·exact hcell j v hj
   ·cases hj)
 obtain ⟨G,hG⟩ : ∃ G,grownCap w (r + 1) r 118 = G := ⟨_,rfl⟩
 have hGn : r + 1 ≤ G := by rw [← hG];exact grownCap_ge w _ _ _
 have hG63 : G ≤ maxLen := by rw [← hG];exact grownCap_le_maxLen w (r + 1) r 118 (by unfold maxLen;omega)
 obtain ⟨Z,hZ⟩ : ∃ Z : Array Value,Builtin.zeroCells (Value.agg #[.int .i64 0,.int .i64 0]).cells (r + 1 - p) ++ Builtin.zeroCells (Value.agg #[.int .i64 0,.int .i64 0]).cells (G - (r + 1)) = Z := ⟨_,rfl⟩
 have hZs : Z.size = (r + 1 - p) * 2 + (G - (r + 1)) * 2 := by
  have hz : ∀ k,(Builtin.zeroCells (Value.agg #[.int .i64 0,.int .i64 0]).cells k).size = k * 2 := fun k => by
   simp [Builtin.zeroCells,Value.cells]
  rw [← hZ,Array.size_append,hz,hz]
 obtain ⟨cur0,hcur0⟩ : ∃ cur0 : Array Value,(cs.take (p * 2)).toArray ++ Z = cur0 := ⟨_,rfl⟩
 have hrz : ∀ ty,(Builtin.append_ #[83,3] ty #[.slice (some ⟨Bp,0,none⟩) p r,.int .i64 ((r + 1 - p : Nat) : Int)]).run Tryz.prog w = .ok (.slice (some ⟨w.heap.size,0,none⟩) (r + 1) G) (w.drew.alloc (.cells cur0 118)) := fun ty => by
  have h := Lib.run_append_grow_zeros w 83 3 ty 118 i0 _ .i64 .i64 Tryz.underlying83 Tryz.underlying3 hi0 hz0 (some ⟨Bp,0,none⟩) p r (cs.take (p * 2)) hold (r + 1 - p) (by omega) (by omega) (by omega) (by omega) (by rw [hzb];omega) (by rw [hzb,show p + (r + 1 - p) = r + 1 by omega];exact growslice_fits (by omega) (by omega));rw [show p + (r + 1 - p) = r + 1 by omega,hG,Array.append_assoc,hZ,hcur0] at h;exact h
 have hs0 : cur0.size = G * 2 := by rw [← hcur0,Array.size_append,hZs];simp [hcl];omega
 obtain ⟨W1,hW1⟩ : ∃ W1,w.drew.alloc (.cells cur0 118) = W1 := ⟨_,rfl⟩
 have hg0 : W1.heap[w.heap.size]? = some (.cells cur0 118 (0,0)) := by rw [← hW1];exact World.alloc_heap_new w.drew _
 have bw1 : Below w.heap.size w W1 := by rw [← hW1];exact (((Below.refl _ w).drew).alloc (Nat.le_refl _) _)
 obtain ⟨cur1,hcur1⟩ : ∃ cur1 : Array Value,cur1 = (cur0.toList.take (p * 2) ++ [Value.int .i64 (x : Int),Value.int .i64 (y : Int)] ++ cur0.toList.drop (p * 2 + 2)).toArray := ⟨_,rfl⟩
 have hs1 : cur1.size = G * 2 := by rw [hcur1];simp [hs0];omega
 have hvc : Cel W1 vb 118 [.int .i64 (x : Int),.int .i64 (y : Int)] := hv.step bw1;have hcpA : ∀ W : World,W.heap = W1.heap → ∀ ty dc,(Builtin.copy_ #[83,83] ty #[.slice (some ⟨w.heap.size,p * 2,none⟩) (r + 1 - p) dc,.slice (some ⟨vb,0,none⟩) 1 1]).run Tryz.prog W = .ok (goInt ((1 : Nat) : Int)) (W.setRow w.heap.size cur1) := fun W hW ty dc => by
  have h := zGB (P := Tryz.prog) W 83 83 ty 118 w.heap.size (p * 2) (r + 1 - p) dc ⟨vb,0,none⟩ 1 1 cur0 118 [Value.int .i64 (x : Int),Value.int .i64 (y : Int)] 1 Tryz.underlying83 hsz (by rw [hW];exact hg0) (by simp only [Nat.min_def];split <;> omega) rfl
   (fun j v hj => by
    rw [Addr.add_lit,Nat.zero_add];have := hvc.at hj;simp only [World.cell?,hW] at this ⊢;exact this)
   (by simp [hs0];omega) (by intro u hu;simp at hu;rcases hu with rfl | rfl <;> rfl)
  rw [h];simp only [List.length_cons,List.length_nil,Nat.zero_add,Nat.reduceAdd];rw [← hcur1]
 obtain ⟨W2,hW2⟩ : ∃ W2,W1.setRow w.heap.size cur1 = W2 := ⟨_,rfl⟩
 have hg1 : W2.heap[w.heap.size]? = some (.cells cur1 118 (0,0)) := by rw [← hW2];exact setRow_heap W1 w.heap.size cur0 cur1 _ _ hg0
 have hc2 : Cel W2 Bp 118 (cs ++ t) := by
  rw [← hW2]
  show (W1.setRow w.heap.size cur1).heap[Bp]? = _
  unfold World.setRow;rw [Array.getElem?_modify,if_neg (by omega)];exact hc.step bw1
 have hdl : (cs.drop (p * 2)).length = (r - p) * 2 := by rw [List.length_drop,hcl];omega
 obtain ⟨cur2,hcur2⟩ : ∃ cur2 : Array Value,cur2 = (cur1.toList.take ((p + 1) * 2) ++ cs.drop (p * 2) ++ cur1.toList.drop ((p + 1) * 2 + (cs.drop (p * 2)).length)).toArray := ⟨_,rfl⟩
 have hlen2 : cur2.size = G * 2 := by rw [hcur2];simp [hs1,hdl];omega
 have hcpB : ∀ W : World,W.heap = W2.heap → ∀ ty dc sc,(Builtin.copy_ #[83,83] ty #[.slice (some ⟨w.heap.size,(p + 1) * 2,none⟩) (r - p) dc,.slice (some ⟨Bp,p * 2,none⟩) (r - p) sc]).run Tryz.prog W = .ok (goInt ((r - p : Nat) : Int)) (W.setRow w.heap.size cur2) := fun W hW ty dc sc => by
  have h := zGB (P := Tryz.prog) W 83 83 ty 118 w.heap.size ((p + 1) * 2) (r - p) dc ⟨Bp,p * 2,none⟩ (r - p) sc cur1 118 (cs.drop (p * 2)) (r - p) Tryz.underlying83 hsz (by rw [hW];exact hg1) (by simp only [Nat.min_def];split <;> omega) hdl
   (fun j v hj => by
    rw [Addr.add_lit];rw [List.getElem?_drop] at hj;have hjl := (List.getElem?_eq_some_iff.1 hj).1;have := hc2.at (i := p * 2 + j) (v := v) (by rw [List.getElem?_append_left hjl];exact hj);simp only [World.cell?,hW] at this ⊢;exact this)
   (by rw [hdl,hs1];omega) (fun v hv => hone v (List.mem_of_mem_drop hv))
  rw [h,← hcur2]
 have hfin : cur2.toList = sc18 (r + 1) (insF p x ρ) (insF p y γ) ++ cur2.toList.drop ((r + 1) * 2) := by
  obtain ⟨d,hd⟩ : ∃ d,r = p + d := ⟨r - p,by omega⟩
  have e := zRD (p := p) (x := x) (y := y) (ρ := ρ) (γ := γ) d;rw [← hd,← hcs] at e;rw [e];have e0 : cur0.toList = cs.take (p * 2) ++ Z.toList := by rw [← hcur0];simp
  have l0 : (cs.take (p * 2)).length = p * 2 := by rw [List.length_take];omega
  have e1 : cur1.toList = cs.take (p * 2) ++ [Value.int .i64 (x : Int),Value.int .i64 (y : Int)] ++ cur0.toList.drop (p * 2 + 2) := by
   rw [hcur1,e0,List.take_append_of_le_length (by omega),List.take_take,Nat.min_self]
  have l1 : (cs.take (p * 2) ++ [Value.int .i64 (x : Int),Value.int .i64 (y : Int)]).length = (p + 1) * 2 := by simp [l0];omega
  have t1 : cur1.toList.take ((p + 1) * 2) = cs.take (p * 2) ++ [Value.int .i64 (x : Int),Value.int .i64 (y : Int)] := by rw [e1,← l1,List.take_left]
  obtain ⟨Y,hY⟩ : ∃ Y,cur1.toList.drop ((p + 1) * 2 + (cs.drop (p * 2)).length) = Y := ⟨_,rfl⟩
  have e2 : cur2.toList = (cs.take (p * 2) ++ [Value.int .i64 (x : Int),Value.int .i64 (y : Int)] ++ cs.drop (p * 2)) ++ Y := by rw [hcur2,t1,hY]
  have l3 : (cs.take (p * 2) ++ [Value.int .i64 (x : Int),Value.int .i64 (y : Int)] ++ cs.drop (p * 2)).length = (r + 1) * 2 := by rw [List.length_append,l1,hdl];omega
  rw [e2,← l3,List.drop_left]
 have FIN : Hid (∀ W : World,W.heap = (W2.setRow w.heap.size cur2).heap → W.os = w.os → W.tape = w.tape → W.output = w.output → zxF B w (.slice (some ⟨Bp,0,none⟩) r r) (r + 1) (insF p x ρ) (insF p y γ) (.returned (.slice (some ⟨w.heap.size,0,none⟩) (r + 1) G)) W) := fun W h1 h2 h3 h4 => by
  have ht : Touch (fun b => (Value.slice (some ⟨Bp,0,none⟩) r r).ownBlock = some b) w (W2.setRow w.heap.size cur2) := by
   rw [← hW2];exact zFB (zFB (Touch.ofBelow bw1) (.inl (Nat.le_refl _)) _) (.inl (Nat.le_refl _)) _
  refine ⟨_,rfl,.inr ⟨by omega,w.heap.size,G,cur2.toList.drop ((r + 1) * 2),rfl,hGn,hB,hG63,by simp [hlen2];omega,?_⟩,⟨h2,h3,h4,by rw [h1];exact ht.size,fun b hb hn => by rw [h1];exact ht.block b hb hn⟩⟩;rw [← hfin]
  show W.heap[w.heap.size]? = _
  rw [h1];have := setRow_heap W2 w.heap.size cur1 cur2 _ _ hg1;rw [this]
 have hz2 : ¬ ((p : Int) = (r : Int)) := by omega
 have hz3 : (r : Int) < (r : Int) + 1 := by omega
 have hw1 : IntKind.i64.wrap ((p : Int) + 1) = (p : Int) + 1 := by rw [IntKind.wrap_i64];omega
 have hw2 : IntKind.i64.wrap ((r : Int) + 1) = (r : Int) + 1 := by rw [IntKind.wrap_i64];omega
 have hw3 : IntKind.i64.wrap ((r : Int) + 1 - (p : Int)) = ((r + 1 - p : Nat) : Int) := by rw [IntKind.wrap_i64];omega
 have htn : ((p : Int) + 1).toNat = p + 1 := by omega
 have hb1 : (0 : Int) ≤ (p : Int) + 1 := by omega
 have hpr : (p : Int) ≤ (r : Int) := by omega
 have hpr2 : (p : Int) ≤ (r : Int) + 1 := by omega
 have hpr3 : (p : Int) + 1 ≤ (r : Int) + 1 := by omega
 have hpr4 : p ≤ r := by omega
 have hpr5 : p ≤ r + 1 := by omega
 have hb2 : ¬ (G = p + 1) := by omega
 have hb3 : ¬ (G = p) := by omega
 have hb4 : ¬ (r = p) := by omega
 have hrz' := hrz 83;have hqA := hcpA ((w.alloc (.cells cur0 118)).drew) (by rw [← hW1];rfl) 3 (G - p);have hqB := hcpB ((((w.alloc (.cells cur0 118)).drew).setRow w.heap.size cur1).drew) (by rw [← hW2,← hW1];rfl) 3 (G - (p + 1)) (r - p);have EW : Hid ((W2.setRow w.heap.size cur2).heap = (((((w.alloc (.cells cur0 118)).drew).setRow w.heap.size cur1).drew).setRow w.heap.size cur2).heap) := by unfold Hid;rw [← hW2,← hW1];rfl
 clear hc hv hcs hcl hbw hvw hone hcell hold hG hZ hZs hcur0 hs0 hW1 hg0 bw1 hcur1 hs1 hvc hcpA hW2 hg1 hc2 hdl hcur2 hlen2 hcpB hfin hrz hi0 hz0 hzs hzb hsz;go_enter Tryz.func87,Tryz.ntmps87;go_wp2_with (at_builtin;refine Lib.wpList_append_run _ rfl _ _ _ _ rfl _ _ rfl rfl _ _ hrz' ?_)
 go_region;go_wp2;go_ret;exact FIN.out _ EW.out.symm rfl rfl rfl
end Go.Proofs.YtdeomkkpainakaaGreat
