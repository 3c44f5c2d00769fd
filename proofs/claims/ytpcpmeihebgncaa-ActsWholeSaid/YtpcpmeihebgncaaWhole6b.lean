/-
  The walk of ActsWhole, its arguments in their order. No condition.
-/
import Derived.Test.YtpcpmeihebgncaaWhole6
namespace Go.Proofs.Ytpcpmeihebgncaa
open Go.RowKit
theorem whole_walk2 (D1 : Option Addr) (c1 : Nat) (xs : List Int) (D2 : Option Addr) (c2 : Nat) (ys : List Int) (w : World) (hr1 : ReadI w (.slice D1 xs.length c1) xs) (hr2 : ReadI w (.slice D2 ys.length c2) ys) : Calls Try.prog 6 #[.slice D1 xs.length c1, .slice D2 ys.length c2] w (TrueBelow w) := whole_walk D1 D2 c1 c2 xs ys w hr1 hr2
end Go.Proofs.Ytpcpmeihebgncaa
