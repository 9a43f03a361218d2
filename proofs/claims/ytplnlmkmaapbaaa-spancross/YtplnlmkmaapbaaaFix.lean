import Derived.Test.YtplnlmkmaapbaaaSmall
namespace Go.Proofs.Ytplnlmkmaapbaaa
open Go Go.RowKit

def fixV (V M : List Int) (i : Nat) (b : Bool) : List Int := setb (can V M) i b
def fixM (M : List Int) (i : Nat) : List Int := setb M i true

end Go.Proofs.Ytplnlmkmaapbaaa
