/-
  What the walks of layer lex's laws, and of the layers above, lean on: the contracts of All and Quote, as words (proved of what landed in another text).
-/
import Derived.Test.YtgahahichplpkaaDoorTokMem
import Derived.Test.YtgahahichplpkaaDoorLexFacts
namespace Go.Proofs.YtgahahichplpkaaDoor
open Go.RowKit

def str (l : Lx.T) : ByteArray := ⟨l.toArray⟩
theorem str_list (l : Lx.T) : (str l).data.toList = l := rfl
theorem str_len (l : Lx.T) : (str l).size = l.length := by rw [Lib.size_eq]; rfl
theorem str_of {S : ByteArray} {l : Lx.T} (h : S.data.toList = l) : S = str l := by
  subst h; unfold str; cases S; simp
/-- A token at its place, n octets in all. -/
def place (n : Nat) (t : Lx.Tok) : Tk := (t.1, n - t.2.1, str t.2.2)
def flatT (t : Tk) : Nat × Lx.T := (t.1, t.2.2.data.toList)
theorem flat_place (n : Nat) (l : List Lx.Tok) : (l.map (place n)).map flatT = l.map Lx.flat := by
  rw [List.map_map]; rfl
def allT (l : Lx.T) : List Tk × Nat × Int := ((Lx.lex 65536 l).1.map (place l.length), l.length - (Lx.lex 65536 l).2.1.length, (Lx.lex 65536 l).2.2)
def AllTC : Prop := ∀ (s : ByteArray) (l : Lx.T) (ts : List Tk) (q x : Nat) (z : Int), s.size ≤ 1000000 → s.data.toList = l → allT l = (ts, x, z) → q = ts.length → ∀ w : World,
  Calls Tryd.prog 21 #[.string s] w fun e w' => ∃ B d, e = .returned (.tuple #[.slice B q d, .int .i64 (x : Int), .int .i64 z]) ∧ Hid (Rt w' w'.heap.size B ts) ∧ Hid (Cap q d) ∧ Below w.heap.size w w'
def QuoteC : Prop := ∀ (s S : ByteArray), s.size ≤ 1000000 → S.data.toList = Lx.quote s.data.toList → ∀ w : World,
  Calls Tryd.prog 36 #[.string s] w fun e w' => e = .returned (.string S) ∧ Below w.heap.size w w'
end Go.Proofs.YtgahahichplpkaaDoor
