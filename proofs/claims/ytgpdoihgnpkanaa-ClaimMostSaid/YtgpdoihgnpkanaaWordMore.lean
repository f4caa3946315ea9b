/-
  Contracts of Taken, Next, and of what the statements ask of a word by themselves. No condition.
-/
import Derived.Test.YtgpdoihgnpkanaaWordCalls
namespace Go.Proofs.Ytgpdoihgnpkanaa
open Go.RowKit

end Go.Proofs.Ytgpdoihgnpkanaa
