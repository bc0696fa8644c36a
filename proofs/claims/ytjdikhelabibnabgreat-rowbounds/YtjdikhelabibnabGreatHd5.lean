/-
  The laws' own within and Data.
-/
import Derived.Test.YtjdikhelabibnabGreatH6p
import Derived.Test.YtjdikhelabibnabGreatBa
namespace Go.Proofs.YtjdikhelabibnabGreat
open Go.RowKit

end Go.Proofs.YtjdikhelabibnabGreat
