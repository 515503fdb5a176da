import Derived.Test.YtnfkibjoconphaaGreatQKm12
import Derived.Test.YtnfkibjoconphaaGreatQPure9ToWk12
set_option maxRecDepth 100000
set_option maxHeartbeats 6400000
set_option linter.unusedVariables false
set_option linter.unusedSimpArgs false
namespace Go.Proofs.YtnfkibjoconphaaGreat
open Go.RowKit
theorem modpKernels_any {w : World} {v : Value} {r c : Int} {l p : Nat} {zs : List Int} (h : Raw w v r c l zs) :
  Calls Tryz.prog 3 #[v,.int .u64 (p : Int)] w fun e w' => e = .returned (.bool true) ∧ Below w.heap.size w w' := by
 have h0 := h;obtain ⟨a,cap,ps,rfl,h2,h3,h4,h5⟩ := h
 by_cases hs : Snd r c l
 ·obtain ⟨r',rfl⟩ : ∃ r' : Nat,r = (r' : Int) := ⟨r.toNat,by have := hs.1;omega⟩
  obtain ⟨c',rfl⟩ : ∃ c' : Nat,c = (c' : Int) := ⟨c.toNat,by have := hs.2.2.1;omega⟩
  have hm := h0.mx hs;rcases Bool.eq_false_or_eq_true (gdB p) with q | q
  ·exact modpKernels_ok q hm
  ·exact modpKernels_no h5 hs q (fun w' hb => hm.chk w' hb)
 ·exact modpKernels_un h5 hs (fun w' hb => check_no hs)
end Go.Proofs.YtnfkibjoconphaaGreat
