/-
  The contracts of the calls that layer frame stands on: PutUint and GetUint of codec, Update and Sum of crc, as words; whole numbers of 32 bits.
-/
import Derived.Test.YtmcmlfmfhljphaaFrMem
namespace Go.Proofs.Ytmcmlfmfhljphaa
open Go.RowKit Go.Proofs.Ytmcmlfmfhljphaa.Kp

def PutUC : Prop := ∀ (nz : Int) (A : Option Addr) (n c : Nat) (l m : List Nat) (k : Nat), -9223372036854775808 ≤ nz → nz ≤ 9223372036854775807 → n = l.length → l.length ≤ 4000000 → Cap n c → Kc.putU l nz = m → k = m.length → ∀ w : World, Rb w w.heap.size A l →
  Calls Try.prog 16 #[.slice A n c, .int .i64 nz] w fun e w' => ∃ A' c', e = .returned (.slice A' k c') ∧ Hid (Rb w' w'.heap.size A' m) ∧ Hid (Cap k c') ∧ Below w.heap.size w w'
def GetUC : Prop := ∀ (A : Option Addr) (n c : Nat) (l r : List Nat) (x k : Nat) (z : Int), n = l.length → Cap n c → Kc.getU l = (x, r, z) → k = r.length → ∀ w : World, Rb w w.heap.size A l →
  Calls Try.prog 18 #[.slice A n c] w fun e w' => ∃ A' c', e = .returned (.tuple #[.int .i64 (x : Int), .slice A' k c', .int .i64 z]) ∧ Hid (Rb w' w'.heap.size A' r) ∧ Hid (Cap k c') ∧ Below w.heap.size w w'
def UpdC : Prop := ∀ (cz : Int) (c : Nat) (A : Option Addr) (n k : Nat) (l : List Nat) (z : Nat), cz = (c : Int) → c < 4294967296 → n = l.length → upd c l = z → ∀ w : World, Rb w w.heap.size A l →
  Calls Try.prog 23 #[.int .u32 cz, .slice A n k] w fun e w' => e = .returned (.int .u32 (z : Int)) ∧ Below w.heap.size w w'
def SumC : Prop := ∀ (A : Option Addr) (n k : Nat) (l : List Nat) (z : Nat), n = l.length → Kp.sum l = z → ∀ w : World, Rb w w.heap.size A l →
  Calls Try.prog 22 #[.slice A n k] w fun e w' => e = .returned (.int .u32 (z : Int)) ∧ Below w.heap.size w w'

/-! ### whole numbers of 32 bits -/
theorem x32 {a b : Nat} (ha : a < 4294967296) (hb : b < 4294967296) : bits .xor .u32 (a : Int) (b : Int) = ((a ^^^ b : Nat) : Int) := u32_xor_nat a b ha hb
/-- The same, the second one as a whole number. -/
theorem x32z {a b : Nat} {bz : Int} (hbz : bz = (b : Int)) (ha : a < 4294967296) (hb : b < 4294967296) : bits .xor .u32 (a : Int) bz = ((a ^^^ b : Nat) : Int) := by
  subst hbz; exact x32 ha hb
theorem x8 {a b : Nat} (ha : a < 256) (hb : b < 256) : bits .xor .u8 (a : Int) (b : Int) = ((a ^^^ b : Nat) : Int) := u8_xor_nat a b ha hb
theorem low1 {a : Nat} (ha : a < 4294967296) : bits .and .u32 (a : Int) 1 = ((a % 2 : Nat) : Int) := by
  rw [show (1 : Int) = ((1 : Nat) : Int) from rfl, u32_and_nat a 1 ha (by decide), Nat.and_one_is_mod]
theorem low8 {a : Nat} (ha : a < 4294967296) : bits .and .u32 (a : Int) 255 = ((a % 256 : Nat) : Int) := by
  rw [show (255 : Int) = ((255 : Nat) : Int) from rfl, u32_and_nat a 255 ha (by decide), show (255 : Nat) = 2 ^ 8 - 1 from rfl, Nat.and_two_pow_sub_one_eq_mod]

end Go.Proofs.Ytmcmlfmfhljphaa
