/-
  What the walks of layer crc's laws lean on: the three calls' contracts, as words (proved of what landed in another text); the examples; CrcStep, CrcIs.
-/
import Derived.Test.YtahghjggkigehaaCrcRef
import Derived.Lib.SlBytesConst
import Derived.Lib.SmallJoins
namespace Go.Proofs.Ytahghjggkigehaa
open Go.RowKit Go.Proofs.Ytahghjggkigehaa.Kp

def StepC : Prop := ∀ (cz xz : Int) (c x z : Nat), cz = (c : Int) → xz = (x : Int) → c < 4294967296 → x < 256 → Kp.step c x = z → ∀ w : World,
  Calls Try.prog 10 #[.int .u32 cz, .int .u8 xz] w fun e w' => e = .returned (.int .u32 (z : Int)) ∧ Below w.heap.size w w'
def UpdC : Prop := ∀ (cz : Int) (c : Nat) (A : Option Addr) (n k : Nat) (l : List Nat) (z : Nat), cz = (c : Int) → c < 4294967296 → n = l.length → upd c l = z → ∀ w : World, Rb w w.heap.size A l →
  Calls Try.prog 12 #[.int .u32 cz, .slice A n k] w fun e w' => e = .returned (.int .u32 (z : Int)) ∧ Below w.heap.size w w'
def SumC : Prop := ∀ (A : Option Addr) (n k : Nat) (l : List Nat) (z : Nat), n = l.length → Kp.sum l = z → ∀ w : World, Rb w w.heap.size A l →
  Calls Try.prog 14 #[.slice A n k] w fun e w' => e = .returned (.int .u32 (z : Int)) ∧ Below w.heap.size w w'

theorem rb_new (w : World) (C : Array Value) (t : TypeId) (fr : Nat × Nat) (l : List Nat) (hC : C = (vals l).toArray) (hl : l.length ≤ 9223372036854775807) (hs : ∀ x ∈ l, x < 256) :
    Rb (w.alloc (.cells C t fr)) (w.alloc (.cells C t fr)).heap.size (some ⟨w.heap.size, 0, none⟩) l :=
  ⟨hl, hs, fun _ => ⟨w.heap.size, 0, rfl, by show _ < (w.heap.push _).size; rw [Array.size_push]; omega, fun j u hu => by
    rw [World.cell?_alloc_mark, hC, Nat.zero_add]
    unfold vals
    rw [List.getElem?_toArray, List.getElem?_map, hu]; rfl⟩⟩
set_option maxHeartbeats 1600000 in
theorem awake_any (HStep : StepC) (HSum : SumC) (w : World) :
    Calls Try.prog 9 #[] w fun e w' => e = .returned (.bool true) ∧ Below w.heap.size w w' := by
  have hcv := Lib.run_convert_bytes_const (P := Try.prog) w 23 5 #[.int .u8 49, .int .u8 50, .int .u8 51, .int .u8 52, .int .u8 53, .int .u8 54, .int .u8 55, .int .u8 56, .int .u8 57] 9 9 Try.underlying23 Try.underlying5
  have HR := Lib.hid (rb_new w #[.int .u8 49, .int .u8 50, .int .u8 51, .int .u8 52, .int .u8 53, .int .u8 54, .int .u8 55, .int .u8 56, .int .u8 57] 5 (9, 10) [49, 50, 51, 52, 53, 54, 55, 56, 57] rfl (by decide) (by decide))
  have HB := Lib.hid (below_alloc w (.cells #[.int .u8 49, .int .u8 50, .int .u8 51, .int .u8 52, .int .u8 53, .int .u8 54, .int .u8 55, .int .u8 56, .int .u8 57] 5 (9, 10)))
  go_enter Try.func9, Try.ntmps9
  go_wp2_with fail
  refine (HSum _ 9 9 _ 3421780262 rfl ex1 _ HR.out).mono ?_
  rintro e w1 ⟨rfl, hw1⟩
  have hb1 := below_on HB.out hw1
  clear hw1 hcv HR HB
  go_wp2_with fail
  refine (HSum _ 0 0 [] 0 rfl ex2 _ (Rb.none_ _ _ _)).mono ?_
  rintro e w2 ⟨rfl, hw2⟩
  have hb2 := below_on hb1 hw2
  clear hw2 hb1
  go_wp2_with fail
  refine (HStep 1 0 1 0 1996959894 rfl rfl (by decide) (by decide) ex3 _).mono ?_
  rintro e w3 ⟨rfl, hw3⟩
  have hb3 := below_on hb2 hw3
  go_wp2_with fail
  go_ret
  exact ⟨rfl, hb3⟩

theorem eqz {a b : Nat} : ((a : Int) = (b : Int)) ↔ a = b := by omega
theorem beq_iff {a b c d : Int} (h : a = b ↔ c = d) : ((a == b) == (c == d)) = true := by
  rw [beq_iff_eq, Bool.eq_iff_iff, beq_iff_eq, beq_iff_eq]; exact h
set_option maxHeartbeats 1600000 in
theorem crcStep_any (HStep : StepC) (HSum : SumC) (c d x y : Nat) (hc : c < 4294967296) (hd : d < 4294967296) (hx : x < 256) (hy : y < 256) (w : World) :
    Calls Try.prog 7 #[.int .u32 (c : Int), .int .u32 (d : Int), .int .u8 (x : Int), .int .u8 (y : Int)] w fun e w' => e = .returned (.bool true) ∧ Below w.heap.size w w' := by
  obtain ⟨z1, hz1⟩ : ∃ z, Kp.step c x = z := ⟨_, rfl⟩
  obtain ⟨z2, hz2⟩ : ∃ z, Kp.step d x = z := ⟨_, rfl⟩
  obtain ⟨z3, hz3⟩ : ∃ z, Kp.step c y = z := ⟨_, rfl⟩
  obtain ⟨o, ho⟩ : ∃ o, c % 256 = o := ⟨_, rfl⟩
  obtain ⟨q, hq⟩ : ∃ q, c / 256 = q := ⟨_, rfl⟩
  have ho8 : o < 256 := by omega
  have h1 : (((z1 : Int) == (z2 : Int)) == ((c : Int) == (d : Int))) = true := beq_iff (by rw [eqz, eqz, ← hz1, ← hz2]; exact step_sum hc hd hx)
  have h2 : (((z1 : Int) == (z3 : Int)) == ((x : Int) == (y : Int))) = true := beq_iff (by rw [eqz, eqz, ← hz1, ← hz3]; exact step_oct hc hx hy)
  have e1 : bits .and .u32 (c : Int) 255 = (o : Int) := by rw [low8 hc, ho]
  have e2 : (c : Int) / 256 = (q : Int) := by omega
  have hw8 : IntKind.u8.wrap (o : Int) = (o : Int) := by rw [IntKind.wrap_u8']; omega
  have HZ1 := Lib.hid hz1
  have HZ2 := Lib.hid hz2
  have HZ3 := Lib.hid hz3
  have HZ4 : Hid (Kp.step c o = q) := Lib.hid (by rw [← ho, ← hq]; exact step_own c)
  clear hz1 hz2 hz3 ho hq
  go_enter Try.func7, Try.ntmps7
  go_wp2_with fail
  refine (awake_any HStep HSum _).mono ?_
  rintro e w1 ⟨rfl, hb1⟩
  go_wp2_with fail
  refine (HStep c x c x z1 rfl rfl hc hx HZ1.out _).mono ?_
  rintro e w2 ⟨rfl, hw⟩
  have hb2 := below_on hb1 hw
  clear hw hb1
  go_wp2_with fail
  refine (HStep d x d x z2 rfl rfl hd hx HZ2.out _).mono ?_
  rintro e w3 ⟨rfl, hw⟩
  have hb3 := below_on hb2 hw
  clear hw hb2
  go_wp2_with fail
  refine (HStep c x c x z1 rfl rfl hc hx HZ1.out _).mono ?_
  rintro e w4 ⟨rfl, hw⟩
  have hb4 := below_on hb3 hw
  clear hw hb3
  go_wp2_with fail
  refine (HStep c y c y z3 rfl rfl hc hy HZ3.out _).mono ?_
  rintro e w5 ⟨rfl, hw⟩
  have hb5 := below_on hb4 hw
  clear hw hb4
  go_wp2_with fail
  refine (HStep c o c o q rfl rfl hc ho8 HZ4.out _).mono ?_
  rintro e w6 ⟨rfl, hw⟩
  have hb6 := below_on hb5 hw
  clear hw hb5
  go_wp2_with fail
  go_ret
  exact ⟨rfl, hb6⟩

set_option maxHeartbeats 1600000 in
theorem crcIs_any (HStep : StepC) (HUpd : UpdC) (HSum : SumC) (c x : Nat) (hc : c < 4294967296) (hx : x < 256) (A : Option Addr) (n k : Nat) (l : List Nat) (w : World) (hn : n = l.length) (hr : Rb w w.heap.size A l) :
    Calls Try.prog 3 #[.int .u32 (c : Int), .int .u8 (x : Int), .slice A n k] w fun e w' => e = .returned (.bool true) ∧ Below w.heap.size w w' := by
  have HN := Lib.hid hn
  have HR := Lib.hid hr
  obtain ⟨z1, hz1⟩ : ∃ z, Kp.step c x = z := ⟨_, rfl⟩
  obtain ⟨z2, hz2⟩ : ∃ z, upd c l = z := ⟨_, rfl⟩
  obtain ⟨z3, hz3⟩ : ∃ z, Kp.sum l = z := ⟨_, rfl⟩
  have HZ1 := Lib.hid hz1
  have HZ2 := Lib.hid hz2
  have HZ3 := Lib.hid hz3
  clear hz1 hz2 hz3 hn hr
  go_enter Try.func3, Try.ntmps3
  go_wp2_with fail
  refine (awake_any HStep HSum _).mono ?_
  rintro e w1 ⟨rfl, hb1⟩
  by_cases hbig : (1000 : Int) < (n : Int)
  · go_wp2_with fail
    go_ret
    exact ⟨rfl, hb1⟩
  go_wp2_with fail
  refine (HStep c x c x z1 rfl rfl hc hx HZ1.out _).mono ?_
  rintro e w2 ⟨rfl, hw⟩
  have hb2 := below_on hb1 hw
  clear hw hb1
  go_wp2_with fail
  refine (rstep_of c x hc hx z1 HZ1.out _).mono ?_
  rintro e w3 ⟨rfl, hw⟩
  have hb3 := below_on hb2 hw
  clear hw hb2
  go_wp2_with fail
  refine (HUpd c c A n k l z2 rfl hc HN.out HZ2.out _ (HR.out.on hb3)).mono ?_
  rintro e w4 ⟨rfl, hw⟩
  have hb4 := below_on hb3 hw
  clear hw hb3
  go_wp2_with fail
  refine (rupd_of c hc A n k l HN.out z2 HZ2.out _ (HR.out.on hb4)).mono ?_
  rintro e w5 ⟨rfl, hw⟩
  have hb5 := below_on hb4 hw
  clear hw hb4
  go_wp2_with fail
  refine (HSum A n k l z3 HN.out HZ3.out _ (HR.out.on hb5)).mono ?_
  rintro e w6 ⟨rfl, hw⟩
  have hb6 := below_on hb5 hw
  clear hw hb5
  go_wp2_with fail
  refine (rsum_of A n k l HN.out z3 HZ3.out _ (HR.out.on hb6)).mono ?_
  rintro e w7 ⟨rfl, hw⟩
  have hb7 := below_on hb6 hw
  clear hw hb6
  go_wp2_with fail
  go_ret
  exact ⟨rfl, hb7⟩
end Go.Proofs.Ytahghjggkigehaa
