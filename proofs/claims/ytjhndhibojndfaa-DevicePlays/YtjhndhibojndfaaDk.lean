/- Sorting, off the shelf: tickets, and blocks by their places. -/
import Derived.Test.YtjhndhibojndfaaDb
import Derived.Test.YtjhndhibojndfaaSo
import Derived.Shelf.SlSortCmp.WholeK
import Derived.Shelf.SlSortCmp.NoneTotal
import Derived.Shelf.SlicesG.Cmp
import Derived.Shelf.Lay
import Derived.Ground.SlsfProg
import Derived.Ground.SlgcProg
import Derived.Deep.RegionLaw
import Derived.Deep.RegionHeld3
namespace Go.Proofs
open Go.Shelf Go.RowKit Go.Lib Go.Sort
shelf_lay_g SlLaysF0.n6 Slsf 6 at Try 36 as Try.sortBks
shelf_lay_g SlLaysC2.n5 Slgc 5 at Try 47 as Try.cmpInt
end Go.Proofs
namespace Go.Proofs.Ytjhndhibojndfaa
open Go.Shelf Go.RowKit Go.Lib Go.Sort
end Go.Proofs.Ytjhndhibojndfaa
