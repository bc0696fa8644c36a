/-
  slices.Chunk of two pieces, and its iterator.
-/
import Derived.Test.YtjdikhelabibnaaGreatRy
import Derived.Test.YtjdikhelabibnaaGreatM6
import Derived.Test.YtjdikhelabibnaaGreatBa
namespace Go.Proofs.YtjdikhelabibnaaGreat
open Go.RowKit Go.Shelf

end Go.Proofs.YtjdikhelabibnaaGreat
