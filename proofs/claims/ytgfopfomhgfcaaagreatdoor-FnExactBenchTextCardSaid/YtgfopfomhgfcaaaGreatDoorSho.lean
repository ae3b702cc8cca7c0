/- Shots as values; the laws' conversion of a shot. -/
import Derived.Test.YtgfopfomhgfcaaaGreatDoorB0
import Derived.Test.YtgfopfomhgfcaaaGreatDoorB1
namespace Go.Proofs.YtgfopfomhgfcaaaGreatDoor
open Go.RowKit Go.Sort

abbrev sho (t a b c d : Int) : Value := .agg #[.int .i64 t, .int .i64 a, .int .i64 b, .int .i64 c, .int .i64 d]
end Go.Proofs.YtgfopfomhgfcaaaGreatDoor
