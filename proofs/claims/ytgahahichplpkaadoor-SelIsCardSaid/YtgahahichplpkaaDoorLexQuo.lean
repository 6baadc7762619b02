/-
  The walk of layer lex's Quote as landed.
-/
import Derived.Test.YtgahahichplpkaaDoorLexAll
namespace Go.Proofs.YtgahahichplpkaaDoor
open Go.RowKit

theorem body_cons (c : UInt8) (r : Lx.T) : Lx.body (c :: r) = Lx.esc c ++ Lx.body r := rfl
theorem body_le2 : ∀ s : Lx.T, (Lx.body s).length ≤ 2 * s.length
  | [] => Nat.le_refl _
  | c :: s => by
    have ih := body_le2 s
    have h1 : (Lx.esc c).length ≤ 2 := by
      unfold Lx.esc
      split
      · simp
      · split <;> simp
    rw [body_cons, List.length_append, List.length_cons]
    omega
set_option maxHeartbeats 3200000 in
theorem quote_of : QuoteC := by
  intro s S hs hS w
  obtain ⟨l, hl⟩ : ∃ l, s.data.toList = l := ⟨_, rfl⟩
  rw [hl] at hS
  obtain rfl : s = str l := str_of hl
  clear hl
  obtain ⟨n, hn⟩ : ∃ n, l.length = n := ⟨_, rfl⟩
  have hsz : (str l).size = n := by rw [str_len, hn]
  rw [hsz] at hs
  have HS := Lib.hid hS
  have HN := Lib.hid hn
  clear hS hn
  have hbl0 := Lib.fresh_isBuilder 81 5 w
  have hbB : Below w.heap.size w (w.alloc (.cells #[.pointer none, .slice none 0 0] 81)) := below_alloc w _
  obtain ⟨B, hB⟩ : ∃ B, w.heap.size = B := ⟨_, rfl⟩
  rw [hB] at hbl0 hbB ⊢
  obtain ⟨V, hV⟩ : ∃ V, w.alloc (.cells #[.pointer none, .slice none 0 0] 81) = V := ⟨_, rfl⟩
  rw [hV] at hbl0 hbB
  have hVs := hbB.size
  have HB0 := Lib.hid hbl0
  clear hbl0
  go_enter Tryd.func36, Tryd.ntmps36
  go_wp2_with fail
  try rw [hV]
  refine (Tryd.Builder_WriteByte B B [] 34 V HB0.out (by simp) (by omega)).mono ?_
  rintro e w1 ⟨rfl, hbl1, hw1⟩
  have HB1 := Lib.hid hbl1
  have hb1 := hbB.trans hw1
  clear hbl1 hw1
  go_wp2_with fail
  go_loopg [4, 5, 9] n (fun g s4 s5 s9 wx => ∃ (i : Nat) (out rest : Lx.T), s9 = .int .i64 i ∧ i + g = n ∧ g = rest.length ∧ out.length ≤ 2 * i + 1 ∧ Hid (l.drop i = rest) ∧ Hid (out ++ (Lx.body rest ++ [34]) = Lx.quote l) ∧ Hid (Tryd.Bld B B out wx) ∧ Below B w wx)
  case atStart => exact ⟨0, [34], l, rfl, by omega, HN.out.symm, by simp, Lib.hid rfl, Lib.hid rfl, HB1, hb1⟩
  case round =>
    obtain ⟨i, out, rest, rfl, hi, hg, hol, HD, HI, HB, hwx⟩ := hrel
    have hszx := hwx.size
    cases rest with
    | nil =>
      obtain rfl : gk = 0 := hg
      obtain rfl : i = n := by omega
      go_wp2_with fail
      refine (Tryd.Builder_WriteByte B B out 34 _ HB.out (by omega) (by omega)).mono ?_
      rintro e w2 ⟨rfl, hbl2, hw2⟩
      have HB2 := Lib.hid hbl2
      have hb2 := hwx.trans hw2
      clear hbl2
      go_wp2_with fail
      refine (Tryd.Builder_String_any B B (out ++ [34]) _ HB2.out (by have := hb2.size; omega)).mono ?_
      rintro e w3 ⟨rfl, hw3⟩
      go_wp2_with fail
      go_ret
      refine ⟨?_, hb2.trans hw3⟩
      have h := HI.out
      rw [show Lx.body [] = [] from rfl, List.nil_append, ← HS.out] at h
      have e : S = ⟨(out ++ [34]).toArray⟩ := str_of h.symm
      rw [e]
      rfl
    | cons c rs =>
      obtain ⟨hlt0, hci, hdr⟩ := tail_at HD.out rfl
      have hlt : i < n := by simp only [List.length_cons] at hg; omega
      have hltz : (i : Int) < (n : Int) := by omega
      have hlts : i < (str l).size := by rw [hsz]; exact hlt
      have hc : (str l)[i]'hlts = c := by
        have : l[i]'hlt0 = c := by
          rw [List.getElem?_eq_getElem hlt0] at hci
          exact Option.some.inj hci
        exact this
      have hgl : gk = rs.length + 1 := hg
      have HDR := Lib.hid hdr
      clear hdr hci hg
      by_cases h10 : c.toNat = 10
      · obtain rfl : c = 10 := UInt8.toNat_inj.1 h10
        have HI2 : Hid ((out ++ [92, 110]) ++ (Lx.body rs ++ [34]) = Lx.quote l) := Lib.hid (by rw [← HI.out, body_cons]; simp [Lx.esc])
        go_wp2_with fail
        refine (Tryd.Builder_WriteString B B out [92, 110] _ rfl _ HB.out (by simp only [List.length_cons, List.length_nil]; omega) (by omega)).mono ?_
        rintro e w2 ⟨rfl, hbl2, hw2⟩
        have HB2 := Lib.hid hbl2
        have hb2 := hwx.trans hw2
        clear hbl2
        go_wp2_with fail
        go_roundg rs.length
        case measure => omega
        case rel => exact ⟨i + 1, out ++ [92, 110], rs, by simp, by omega, rfl, by simp only [List.length_append, List.length_cons, List.length_nil]; omega, HDR, HI2, HB2, hb2⟩
      · by_cases h2 : c.toNat = 92 ∨ c.toNat = 34
        · have HI2 : Hid (((out ++ [92]) ++ [c]) ++ (Lx.body rs ++ [34]) = Lx.quote l) := Lib.hid (by rw [← HI.out, body_cons, Lx.esc, if_pos h2]; simp)
          have h2' : c = 92 ∨ c = 34 := h2.imp (fun h => UInt8.toNat_inj.1 h) (fun h => UInt8.toNat_inj.1 h)
          rcases h2' with rfl | rfl
          · go_wp2_with fail
            refine (Tryd.Builder_WriteByte B B out 92 _ HB.out (by omega) (by omega)).mono ?_
            rintro e w2 ⟨rfl, hbl2, hw2⟩
            have HB2 := Lib.hid hbl2
            have hb2 := hwx.trans hw2
            have hs2 := hb2.size
            clear hbl2
            go_wp2_with fail
            refine (Tryd.Builder_WriteByte B B (out ++ [92]) 92 _ HB2.out (by simp only [List.length_append, List.length_cons, List.length_nil]; omega) (by omega)).mono ?_
            rintro e w3 ⟨rfl, hbl3, hw3⟩
            have HB3 := Lib.hid hbl3
            have hb3 := hb2.trans hw3
            clear hbl3
            go_wp2_with fail
            go_roundg rs.length
            case measure => omega
            case rel => exact ⟨i + 1, _, rs, by simp, by omega, rfl, by simp only [List.length_append, List.length_cons, List.length_nil]; omega, HDR, HI2, HB3, hb3⟩
          · go_wp2_with fail
            refine (Tryd.Builder_WriteByte B B out 92 _ HB.out (by omega) (by omega)).mono ?_
            rintro e w2 ⟨rfl, hbl2, hw2⟩
            have HB2 := Lib.hid hbl2
            have hb2 := hwx.trans hw2
            have hs2 := hb2.size
            clear hbl2
            go_wp2_with fail
            refine (Tryd.Builder_WriteByte B B (out ++ [92]) 34 _ HB2.out (by simp only [List.length_append, List.length_cons, List.length_nil]; omega) (by omega)).mono ?_
            rintro e w3 ⟨rfl, hbl3, hw3⟩
            have HB3 := Lib.hid hbl3
            have hb3 := hb2.trans hw3
            clear hbl3
            go_wp2_with fail
            go_roundg rs.length
            case measure => omega
            case rel => exact ⟨i + 1, _, rs, by simp, by omega, rfl, by simp only [List.length_append, List.length_cons, List.length_nil]; omega, HDR, HI2, HB3, hb3⟩
        · have HI2 : Hid ((out ++ [c]) ++ (Lx.body rs ++ [34]) = Lx.quote l) := Lib.hid (by rw [← HI.out, body_cons, Lx.esc, if_neg h2, if_neg h10]; simp)
          have n92 : c.toNat ≠ 92 := fun h => h2 (.inl h)
          have n34 : c.toNat ≠ 34 := fun h => h2 (.inr h)
          clear h2
          go_wp2_with fail
          refine (Tryd.Builder_WriteByte B B out c _ HB.out (by omega) (by omega)).mono ?_
          rintro e w2 ⟨rfl, hbl2, hw2⟩
          have HB2 := Lib.hid hbl2
          have hb2 := hwx.trans hw2
          clear hbl2
          go_wp2_with fail
          go_roundg rs.length
          case measure => omega
          case rel => exact ⟨i + 1, out ++ [c], rs, by simp, by omega, rfl, by simp only [List.length_append, List.length_cons, List.length_nil]; omega, HDR, HI2, HB2, hb2⟩
end Go.Proofs.YtgahahichplpkaaDoor
