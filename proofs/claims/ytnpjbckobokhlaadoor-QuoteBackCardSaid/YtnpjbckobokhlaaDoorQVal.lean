/-
  What Unquote answers, as a value.
-/
import Derived.Test.YtnpjbckobokhlaaDoorQm
import Derived.Test.YtnpjbckobokhlaaDoorQuoP
namespace Go.Proofs.YtnpjbckobokhlaaDoor
/-- A text, a place, an error. -/
abbrev uqv (x : List UInt8 × Nat × Int) : Value := .tuple #[.string ⟨x.1.toArray⟩, .int .i64 x.2.1, .int .i64 x.2.2]
end Go.Proofs.YtnpjbckobokhlaaDoor
