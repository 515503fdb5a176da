import Derived.Test.YtjjpodnjljfheaaGreatQTf18
import Derived.Test.YtjjpodnjljfheaaGreatQUnit9ToDz12
set_option maxRecDepth 100000
set_option maxHeartbeats 6400000
set_option linter.unusedVariables false
set_option linter.unusedSimpArgs false
namespace Go.Proofs.YtjjpodnjljfheaaGreat
open Go.RowKit
theorem hnfTransforms_any {w:World} {v:Value} {r c:Int} {l:Nat} {zs:List Int} (h:Raw w v r c l zs) :
  Calls Tryz.prog 3 #[v] w fun e w'=>e=.returned (.bool true)∧Below w.heap.size w w':=by
 have h0:=h;obtain ⟨a,cap,ps,rfl,h2,h3,h4,h5⟩:=h
 by_cases hs:Snd r c l
 ·obtain ⟨r',rfl⟩:∃r':Nat,r=(r':Int):=⟨r.toNat,by have:=hs.1;omega⟩
  obtain ⟨c',rfl⟩:∃c':Nat,c=(c':Int):=⟨c.toNat,by have:=hs.2.2.1;omega⟩
  exact hnfTransforms_ok rfl (h0.mx hs)
 ·exact hnfTransforms_un h5 hs
end Go.Proofs.YtjjpodnjljfheaaGreat
