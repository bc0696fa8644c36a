/-
  slices.Chunk of two pieces, and its iterator.
-/
import Derived.Test.YtjdikhelabibnabGreatRy
import Derived.Test.YtjdikhelabibnabGreatM6
import Derived.Test.YtjdikhelabibnabGreatBa
namespace Go.Proofs.YtjdikhelabibnabGreat
open Go.RowKit Go.Shelf

end Go.Proofs.YtjdikhelabibnabGreat
