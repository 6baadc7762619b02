/-
  What a row's reading says of the arguments of layer sel's laws: MatOpen, and the words that the seat's cards share.
-/
import Derived.Test.YtgahahichplpkaaDoorLabOpen
import Derived.Test.YtgahahichplpkaaDoorMatOpen
