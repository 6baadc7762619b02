/-
  The walks of layer lex's laws in the form that the frame asks for, over the calls' contracts as proved of what landed (LexQj: lexC).
-/
import Derived.Test.YtljccnboijdpfaaDoorLexQj
import Derived.Test.YtljccnboijdpfaaDoorLexWhite
import Derived.Test.YtljccnboijdpfaaDoorLexPlaces
namespace Go.Proofs.YtljccnboijdpfaaDoor
open Go.RowKit

theorem lexJoined_law (s : ByteArray) (w : World) (hs : s.size ≤ 9223372036854775807) :
    Calls Tryd.prog 3 #[.string s] w fun e w' => e = .returned (.bool true) ∧ Below w.heap.size w w' := lexJoined_any lexC s hs w
theorem lexPlaces_law (s : ByteArray) (w : World) (_ : s.size ≤ 9223372036854775807) :
    Calls Tryd.prog 4 #[.string s] w fun e w' => e = .returned (.bool true) ∧ Below w.heap.size w w' := lexPlaces_any lexC s w
theorem lexQuote_law (s : ByteArray) (cut : Int) (w : World) (hs : s.size ≤ 9223372036854775807) (_ : (Lit.int .i64 cut).wf = true) :
    Calls Tryd.prog 5 #[.string s, .int .i64 cut] w fun e w' => e = .returned (.bool true) ∧ Below w.heap.size w w' := lexQuote_any lexC s cut hs w
theorem lexParts_law (a b : ByteArray) (w : World) (_ : a.size ≤ 9223372036854775807) (_ : b.size ≤ 9223372036854775807) :
    Calls Tryd.prog 6 #[.string a, .string b] w fun e w' => e = .returned (.bool true) ∧ Below w.heap.size w w' := lexParts_any lexC a b w
theorem lexWhite_law (s : ByteArray) (k : Int) (w : World) (_ : s.size ≤ 9223372036854775807) (_ : (Lit.int .i64 k).wf = true) :
    Calls Tryd.prog 7 #[.string s, .int .i64 k] w fun e w' => e = .returned (.bool true) ∧ Below w.heap.size w w' := lexWhite_any lexC s k w
end Go.Proofs.YtljccnboijdpfaaDoor
