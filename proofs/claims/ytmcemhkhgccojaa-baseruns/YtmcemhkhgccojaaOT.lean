/- A list of the call's own, one thing behind the other appended to it. -/
import Derived.Test.YtmcemhkhgccojaaY8A
import Derived.Test.YtmcemhkhgccojaaY8B
namespace Go.Proofs.Ytmcemhkhgccojaa
open Go.RowKit

end Go.Proofs.Ytmcemhkhgccojaa
