/-
  The walks of layer lex as landed: begins, skip, meant; strings.Cut at an LF.
-/
import Derived.Test.YtgahahichplpkaaDoorLexShelf
import Derived.Test.YtgahahichplpkaaDoorLexWay
namespace Go.Proofs.YtgahahichplpkaaDoor
open Go.RowKit

theorem str_tl (l : Lx.T) : (str l).toList = l := by rw [Lib.toList_data]; rfl
theorem u8_back (c : UInt8) : ((c.toNat : Int)).toNat.toUInt8 = c := by
  rw [Int.toNat_natCast]
  exact UInt8.ofNat_toNat
theorem begins_of (s k : ByteArray) (l kl : Lx.T) (b : Bool) (hl : s.data.toList = l) (hk : k.data.toList = kl) (hb : Lx.bg kl l = b) (w : World) :
    Calls Tryd.prog 60 #[.string s, .string k] w fun e w' => e = .returned (.bool b) ∧ Below w.heap.size w w' := by
  subst hb hk
  cases l with
  | nil =>
    obtain rfl : s = str [] := str_of hl
    clear hl
    have hT := str_tl []
    go_enter Tryd.func60, Tryd.ntmps60
    go_wp2_with fail
    go_ret
    exact ⟨rfl, Below.refl _ _⟩
  | cons c r =>
    obtain rfl : s = str (c :: r) := str_of hl
    clear hl
    have hT := str_tl (c :: r)
    have hsz : (str (c :: r)).size = r.length + 1 := by rw [str_len]; rfl
    have hix := Lib.contains_iff_indexByte k.data.toList c
    have hc : (((str (c :: r))[0]'(by rw [hsz]; omega)).toNat : Int).toNat.toUInt8 = c := u8_back c
    go_enter Tryd.func60, Tryd.ntmps60
    go_wp2_with fail
    refine (Tryd.strings_IndexByte _ _ _).mono ?_
    rintro e w1 ⟨rfl, rfl⟩
    rw [hc]
    go_wp2_with fail
    go_ret
    refine ⟨?_, Below.refl _ _⟩
    rw [Lx.bg_cons, hix]
    rfl
/-- What the program makes of an octet behind a backslash. -/
theorem meant_of (c : UInt8) (w : World) :
    Calls Tryd.prog 78 #[.int .u8 (c.toNat : Int)] w fun e w' => e = .returned (.tuple #[.int .u8 ((Lx.mean c).1.toNat : Int), .bool (Lx.mean c).2]) ∧ Below w.heap.size w w' := by
  have h256 : c.toNat < 256 := c.toNat_lt
  have e0 : (c.toNat : Int) = 110 ↔ c.toNat = 110 := by omega
  by_cases h1 : c.toNat = 110
  · have hm : Lx.mean c = (10, true) := by unfold Lx.mean; rw [if_pos h1]
    rw [hm, h1]
    go_enter Tryd.func78, Tryd.ntmps78
    go_wp2_with fail
    go_ret2
    exact ⟨rfl, Below.refl _ _⟩
  · by_cases h2 : c.toNat = 92
    · have hm : Lx.mean c = (c, true) := by unfold Lx.mean; rw [if_neg h1, if_pos (.inl h2)]
      rw [hm, h2]
      go_enter Tryd.func78, Tryd.ntmps78
      go_wp2_with fail
      go_ret2
      exact ⟨rfl, Below.refl _ _⟩
    · by_cases h3 : c.toNat = 34
      · have hm : Lx.mean c = (c, true) := by unfold Lx.mean; rw [if_neg h1, if_pos (.inr h3)]
        rw [hm, h3]
        go_enter Tryd.func78, Tryd.ntmps78
        go_wp2_with fail
        go_ret2
        exact ⟨rfl, Below.refl _ _⟩
      · have hm : Lx.mean c = (0, false) := by unfold Lx.mean; rw [if_neg h1, if_neg (by omega)]
        rw [hm]
        obtain ⟨z, hz⟩ : ∃ z : Int, (c.toNat : Int) = z := ⟨_, rfl⟩
        have z1 : z ≠ 110 := by omega
        have z2 : z ≠ 92 := by omega
        have z3 : z ≠ 34 := by omega
        rw [hz]
        clear e0 hz
        go_enter Tryd.func78, Tryd.ntmps78
        go_wp2_with fail
        go_ret2
        exact ⟨rfl, Below.refl _ _⟩
set_option maxHeartbeats 800000 in
theorem cut_in (l : Lx.T) (hlen : l.length ≤ 1000000) (w : World) :
    Calls Tryd.prog 76 #[.string (str l), .string ⟨#[10]⟩] w fun e w' => ∃ a b, e = .returned (.tuple #[.string a, .string (str (Lx.behind l)), .bool b]) ∧ Below w.heap.size w w' := by
  have hidx : Lib.indexByte (str l).data.toList 10 = Lib.index l [10] := (Lib.index_one l 10).symm
  by_cases hi : 0 ≤ Lib.index l [10]
  · obtain ⟨n, hn⟩ : ∃ n : Nat, Lib.index l [10] = n := ⟨(Lib.index l [10]).toNat, by omega⟩
    have hb : Lx.behind l = l.drop (n + 1) := by
      unfold Lx.behind Lib.cut
      rw [if_pos hi, hn]
      rfl
    have hlt : n < l.length := by
      have h := Lib.indexByte_some (l := l) (c := 10) (o := n) (by rw [← Lib.index_one]; exact hn)
      exact (List.getElem?_eq_some_iff.1 h.1).1
    have hsz : (str l).size = l.length := str_len l
    have hcut : (str l).extract (n + 1) l.length = str (l.drop (n + 1)) := by
      apply str_of
      simp only [str, ByteArray.data_extract, Array.toList_extract, List.extract_eq_take_drop]
      exact List.take_of_length_le (by rw [List.length_drop]; exact Nat.le_refl _)
    rw [hb]
    go_enter Tryd.func76, Tryd.ntmps76
    go_wp2_with fail
    refine (Tryd.stringslite_Index_one _ _ _).mono ?_
    rintro e w1 ⟨rfl, rfl⟩
    rw [hidx, hn]
    clear hn hidx hb
    go_wp2_with fail
    go_quiet (fail)
    go_wp2_with fail
    go_ret3
    exact ⟨_, _, rfl, below_drewN _ _⟩
  · have hm : Lib.index l [10] = -1 := by
      have := Lib.indexByte_ge l 10
      rw [← Lib.index_one] at this
      omega
    have hb : Lx.behind l = [] := by
      unfold Lx.behind Lib.cut
      rw [if_neg hi]
    rw [hb]
    go_enter Tryd.func76, Tryd.ntmps76
    go_wp2_with fail
    refine (Tryd.stringslite_Index_one _ _ _).mono ?_
    rintro e w1 ⟨rfl, rfl⟩
    rw [hidx, hm]
    clear hidx hm
    go_wp2_with fail
    go_ret3
    exact ⟨_, _, rfl, Below.refl _ _⟩
/-- What stands behind the first LF. -/
theorem cut_of (s : ByteArray) (l : Lx.T) (hl : s.data.toList = l) (hs : s.size ≤ 1000000) (w : World) :
    Calls Tryd.prog 61 #[.string s, .string ⟨#[10]⟩] w fun e w' => ∃ a b, e = .returned (.tuple #[.string a, .string (str (Lx.behind l)), .bool b]) ∧ Below w.heap.size w w' := by
  obtain rfl : s = str l := str_of hl
  clear hl
  have hlen : l.length ≤ 1000000 := by rw [← str_len]; exact hs
  go_enter Tryd.func61, Tryd.ntmps61
  go_wp2_with fail
  refine (cut_in l hlen _).mono ?_
  rintro e w1 ⟨a, b, rfl, hw1⟩
  go_wp2_with fail
  go_ret3
  exact ⟨a, b, rfl, hw1⟩
theorem trimW_of (s : ByteArray) (l : Lx.T) (hl : s.data.toList = l) (w : World) :
    Calls Tryd.prog 59 #[.string s, .string ⟨#[32, 9, 13, 10]⟩] w fun e w' => e = .returned (.string (str (l.dropWhile Lx.isW))) ∧ Below w.heap.size w w' := by
  subst hl
  refine (Tryd.strings_TrimLeft s ⟨#[32, 9, 13, 10]⟩ w (by decide) (by decide)).mono fun e w' ⟨he, hw⟩ => ⟨?_, hw⟩
  rw [he, show (⟨#[32, 9, 13, 10]⟩ : ByteArray).data.toList = Lx.whiteL from rfl, Lx.trim_is _ _ Lx.white_is]
  rfl
theorem trimK_of (s k : ByteArray) (l kl : Lx.T) (f : UInt8 → Bool) (hl : s.data.toList = l) (hk : k.data.toList = kl) (hs : k.size < 4294967281) (ha : kl.all (fun b => decide (b.toNat < 128)) = true) (hf : ∀ c, kl.contains c = f c) (w : World) :
    Calls Tryd.prog 59 #[.string s, .string k] w fun e w' => e = .returned (.string (str (l.dropWhile f))) ∧ Below w.heap.size w w' := by
  subst hl hk
  refine (Tryd.strings_TrimLeft s k w hs ha).mono fun e w' ⟨he, hw⟩ => ⟨?_, hw⟩
  rw [he, Lx.trim_is _ _ hf]
  rfl
set_option maxHeartbeats 800000 in
theorem skip_of (s : ByteArray) (l : Lx.T) (hl : s.data.toList = l) (hs : l.length ≤ 1000000) (w : World) :
    Calls Tryd.prog 43 #[.string s] w fun e w' => e = .returned (.string (str (Lx.bl false l))) ∧ Below w.heap.size w w' := by
  go_enter Tryd.func43, Tryd.ntmps43
  go_wp2_with fail
  refine (trimW_of s l hl _).mono ?_
  rintro e w1 ⟨rfl, hw1⟩
  have h0 : (l.dropWhile Lx.isW).length ≤ l.length := Lx.drop_len _ _
  have hb0 := Lx.bl_drop l
  go_wp2_with fail
  go_loopg [0, 3, 4, 5] (l.dropWhile Lx.isW).length (fun g s0 s3 s4 s5 wx => ∃ m : Lx.T, s0 = .string (str (m.dropWhile Lx.isW)) ∧ (m.dropWhile Lx.isW).length = g ∧ g ≤ 1000000 ∧ Lx.bl false m = Lx.bl false l ∧ Below w.heap.size w wx)
  case atStart => exact ⟨l, rfl, rfl, by omega, rfl, hw1⟩
  case round =>
    obtain ⟨m, rfl, hg, hg6, hm, hwx⟩ := hrel
    cases hbg : Lx.bg [35] (m.dropWhile Lx.isW) with
    | false =>
      have hd := Lx.bl_done m hbg
      rw [hd, hm] at hbg ⊢
      go_wp2_with fail
      refine (begins_of _ _ (Lx.bl false l) [35] false rfl rfl hbg _).mono ?_
      rintro e w2 ⟨rfl, hw2⟩
      have hb2 := below_on hwx hw2
      go_wp2_with fail
      go_ret
      exact ⟨rfl, hb2⟩
    | true =>
      obtain ⟨hm1, hm2⟩ := Lx.bl_more hbg
      rw [Lx.bl_drop (Lx.behind _), Lx.bl_drop m, hm] at hm1
      have hsz : (str (m.dropWhile Lx.isW)).size ≤ 1000000 := by rw [str_len]; omega
      go_wp2_with fail
      refine (begins_of _ _ (m.dropWhile Lx.isW) [35] true rfl rfl hbg _).mono ?_
      rintro e w2 ⟨rfl, hw2⟩
      have hb2 := below_on hwx hw2
      go_wp2_with fail
      refine (cut_of _ (m.dropWhile Lx.isW) rfl hsz _).mono ?_
      rintro e w3 ⟨a, b, rfl, hw3⟩
      have hb3 := below_on hb2 hw3
      go_wp2_with fail
      refine (trimW_of _ (Lx.behind (m.dropWhile Lx.isW)) rfl _).mono ?_
      rintro e w4 ⟨rfl, hw4⟩
      have hb4 := below_on hb3 hw4
      go_wp2_with fail
      go_roundg ((Lx.behind (m.dropWhile Lx.isW)).dropWhile Lx.isW).length
      case measure => omega
      case rel => exact ⟨Lx.behind (m.dropWhile Lx.isW), rfl, rfl, by omega, hm1, hb4⟩
end Go.Proofs.YtgahahichplpkaaDoor
