/- The library's contracts at this program: none are laid. -/
import Derived.Test.YtlnffdkaleapbaaChecked
namespace Go.Proofs
end Go.Proofs
