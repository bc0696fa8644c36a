/-
  The laws' own within and Data.
-/
import Derived.Test.YtjdikhelabibnaaGreatH6p
import Derived.Test.YtjdikhelabibnaaGreatBa
namespace Go.Proofs.YtjdikhelabibnaaGreat
open Go.RowKit

end Go.Proofs.YtjdikhelabibnaaGreat
