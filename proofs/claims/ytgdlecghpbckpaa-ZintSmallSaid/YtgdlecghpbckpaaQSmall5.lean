/-
  Small5: the walk of ZintSmall.
-/
import Derived.Test.YtgdlecghpbckpaaQSmall1
import Derived.Test.YtgdlecghpbckpaaQSmall2
import Derived.Test.YtgdlecghpbckpaaQSmall3
namespace Go.Proofs.Ytgdlecghpbckpaa
open Go.RowKit
set_option linter.unusedVariables false

theorem zintSmall_any {w : World} {X Y : Int} (hx0 : -9223372036854775808 ≤ X) (hx1 : X ≤ 9223372036854775807) (hy0 : -9223372036854775808 ≤ Y) (hy1 : Y ≤ 9223372036854775807) :
    Calls Try.prog 3 #[.int .i64 X, .int .i64 Y] w fun e w' => e = .returned (.bool true) ∧ Below w.heap.size w w' := by
  by_cases h0 : Y = 0
  · exact zintSmall_zero hx0 hx1 hy0 hy1 h0
  · by_cases hp : 0 < Y
    · by_cases ho : 9223372036854775807 - Y < X
      · exact zintSmall_posOver hx0 hx1 hy0 hy1 hp ho
      · by_cases hb : X = -9223372036854775808
        · exact zintSmall_posFitB hx0 hx1 hy0 hy1 hp hb
        · exact zintSmall_posFit hx0 hx1 hy0 hy1 hp ho hb
    · by_cases hq : Y = -1
      · by_cases ho : X < -9223372036854775808 - Y
        · exact zintSmall_oneOver hx0 hx1 hy0 hy1 (by omega) hq ho
        · exact zintSmall_oneFit hx0 hx1 hy0 hy1 (by omega) hq ho
      · by_cases ho : X < -9223372036854775808 - Y
        · by_cases hb : X = -9223372036854775808
          · exact zintSmall_negOverB hx0 hx1 hy0 hy1 (by omega) hq hb
          · exact zintSmall_negOver hx0 hx1 hy0 hy1 (by omega) hq ho hb
        · exact zintSmall_negFit hx0 hx1 hy0 hy1 (by omega) hq ho
end Go.Proofs.Ytgdlecghpbckpaa
