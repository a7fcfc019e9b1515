/-
  Many in one: VotSr.
-/
import Derived.Test.YtpjllbgipcfedaaZVotesCount9
import Derived.Shelf.Lay
import Derived.Test.YtpjllbgipcfedaaRows
section
namespace Go.Proofs.Ytpjllbgipcfedaa
open Go Go.Eng
shelf_lay Lays.n189 Nm 189 at Try as Try.lays189
end Go.Proofs.Ytpjllbgipcfedaa
end
