/- WALKS: ErrorsFrom: the program, and both sides joined. -/
import Derived.Test.YtjhlpaeenjbljaaEg
namespace Go.Proofs.Ytjhlpaeenjbljaa
open Go.RowKit Go.Sort

theorem gives0 {w w' : World} {e : Ending} {C : Int} (h : e = .returned (.tuple #[scl 0 0 none 0 0, .int .i64 C]) ∧ Gr w w') : GivesS w w' e 0 0 [] C := ⟨none, 0, h.1, own_nilF _ _, h.2⟩
end Go.Proofs.Ytjhlpaeenjbljaa
