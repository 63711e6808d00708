import Derived.Test.YtpcmemcanpgadaaGreatDoorPureR
import Derived.Deep.RegionHeld
/-! Within a round: a region that draws its order, what it reads held the while. -/

namespace Go
open Go.RowKit

theorem round_held {l m : Nat} {P : Program} {id : Nat} {Q : Exit → Act → World → Prop} {a : Act} {w : World} {ops : Array Oper} (S : World → Prop) (hm : P.follows .mixedOrders = true) (hd : noDefer ops = true) (hq : ¬ LetsOut Q)
    (hS : S w.drew) (h : S w.drew → wpAnyH P .any ops Q S ops.size (Array.replicate ops.size false) a w.drew) : (Code.region id ops true).wpIn (Fence.wide.inRound l) m P Q a w :=
  wpIn_region_any hm (wpAnyIn_of_wpAny hd hq _ _ _ _ (wpAny_of_held _ _ _ _ (h hS)))

end Go
