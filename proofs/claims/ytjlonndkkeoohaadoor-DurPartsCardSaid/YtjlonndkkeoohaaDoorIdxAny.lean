/-
  strings.IndexRune at a rune that is no ASCII one over an ASCII text, and strings.IndexAny over any text where its second argument is ASCII, of two octets or more: over any program that bears the library's bodies.
-/
import Derived.Shelf.Strings.IndexAnyAll
import Derived.Shelf.Small.Utf8
import Derived.Laws.Runes
import Derived.Laws.RangeAny
import Derived.Lib.OthersKept
import Derived.Lib.TrimU
import Derived.Lib.Hide
import Derived.WalkMore
import Derived.Deep.DeepBigQuietO
namespace Go.Proofs.YtjlonndkkeoohaaDoor
open Go.Shelf Go.RowKit Go.Lib
variable {P : Program} {ρ : Ren}

/-- Of a rune that begins with a high octet all its octets are high. -/
theorem decode_conts (s : ByteArray) (i k : Nat) (h0 : 128 ≤ (s.get! (i + 0)).toNat) (hk : k < (Utf8.decode s i).2) : 128 ≤ (s.get! (i + k)).toNat := by
  revert hk
  simp only [Utf8.decode]
  repeat' split
  all_goals
    intro hk
    simp only [Bool.and_eq_true, decide_eq_true_eq, beq_iff_eq] at *
    have hk4 : k = 0 ∨ k = 1 ∨ k = 2 ∨ k = 3 := by omega
    rcases hk4 with rfl | rfl | rfl | rfl
    · exact h0
    all_goals omega
theorem noAny_width {s chars : ByteArray} {i : Nat} (hc : ∀ b ∈ chars.data.toList, b.toNat < 128) (h : Lib.NoAny s.data.toList chars.data.toList i) (hi : i < s.size) (h0 : 128 ≤ (s[i]'hi).toNat) :
    Lib.NoAny s.data.toList chars.data.toList (i + (Utf8.decode s i).2) := by
  intro j b hj hb
  by_cases hji : j < i
  · exact h j b hji hb
  · have hlt : j < s.size := by
      have := (List.getElem?_eq_some_iff.mp hb).1
      rw [Lib.size_eq]; exact this
    have e0 : s.get! (i + 0) = s[i]'hi := get_at s i hi
    have hb2 := decode_conts s i (j - i) (by rw [e0]; exact h0) (by omega)
    have e1 : s.get! (i + (j - i)) = s[j]'hlt := by rw [show i + (j - i) = j + 0 by omega]; exact get_at s j hlt
    have e2 : s.data.toList[j]? = some (s[j]'hlt) := Lib.data_getElem? s j hlt
    rw [e2] at hb
    obtain rfl := Option.some.inj hb
    rw [e1] at hb2
    cases hcon : chars.data.toList.contains (s[j]'hlt) with
    | false => rfl
    | true =>
      have := hc _ (List.contains_iff_mem.mp hcon)
      omega

theorem indexByte_high (s : ByteArray) (a e : Nat) (c : UInt8) (hs : ∀ b ∈ s.data.toList, b.toNat < 128) (hc : 128 ≤ c.toNat) : Lib.indexByte (s.extract a e).data.toList c = -1 := by
  rw [← Lib.firstIdx_eq]; exact firstIdx_ascii s a e c hs hc

set_option maxHeartbeats 4000000 in
set_option maxRecDepth 1000000 in
/-- No ASCII text has a rune that is none. -/
theorem any_IndexRune_high (L : Lays.n152 P ρ) (s : ByteArray) (r : Int) (w : World) (h0 : 128 ≤ r) (h1 : r ≤ 1114111) (hs : ∀ b ∈ s.data.toList, b.toNat < 128) :
    Calls P (ρ.f 152) #[.string s, .int .i32 r] w fun e w' => e = .returned (.int .i64 (-1)) ∧ Below w.heap.size w w' := by
  have HS := Lib.hid hs
  clear hs
  have t3 := L.t3; have a3 := L.a3; have z3 := L.z3; have v3 := L.v3
  have t4 := L.t4; have a4 := L.a4; have z4 := L.z4; have v4 := L.v4
  have t5 := L.t5; have a5 := L.a5; have z5 := L.z5; have v5 := L.v5
  have t9 := L.t9; have a9 := L.a9; have z9 := L.z9; have v9 := L.v9
  have t21 := L.t21; have a21 := L.a21; have z21 := L.z21; have v21 := L.v21
  have e119 : ∀ args w, (callFunc (ρ.f 119) args).run P w = .ok (.enter (ρ.f 119) args) w := enters_of L.f119 (by kernel_rfl) rfl
  have e137 : ∀ args w, (callFunc (ρ.f 137) args).run P w = .ok (.enter (ρ.f 137) args) w := enters_of L.f137 (by kernel_rfl) rfl
  by_cases hr : r = 65533
  · subst hr
    go_enter L.f152, Body.n152_ntmps ρ
    go_wp2_with fail
    go_loopg [5, 6] s.size (fun gf _ _ wx => ∃ pos : Nat, pos + gf = s.size ∧ wx.heap[w.heap.size]? = some (.stringIter s pos) ∧ Below w.heap.size w wx)
    case atStart => exact ⟨0, by omega, World.iter_heap w s 0, (Below.refl _ w).alloc (Nat.le_refl _) _⟩
    case round =>
      obtain ⟨pos, hg, hit, hbw⟩ := hrel
      cases gk with
      | zero =>
        obtain rfl : pos = s.size := by omega
        have hnx : ∀ ty, (Instr.next (.pointer (some ⟨w.heap.size, 0, none⟩)) true ty).run P wr = _ := fun ty => Lib.run_next_end_at wr w.heap.size s s.size ty hit (by omega)
        clear hit
        go_wp2_with fail
        go_ret
        exact ⟨rfl, hbw⟩
      | succ g =>
        have hi : pos < s.size := by omega
        have hx : (s[pos]'hi).toNat < 128 := HS.out _ (by
          have := Lib.data_getElem? s pos hi
          exact List.mem_of_getElem? this)
        have hnx : ∀ ty, (Instr.next (.pointer (some ⟨w.heap.size, 0, none⟩)) true ty).run P wr = _ := fun ty => Lib.run_next_ascii_at wr w.heap.size s pos ty hit hi hx
        have hit2 := Lib.hid (Lib.iterAt_heap wr w.heap.size s pos (pos + 1) hit)
        have hbw2 := Lib.below_iterAt hbw (k := w.heap.size) (Nat.le_refl _) s (pos + 1)
        generalize wr.iterAt w.heap.size s (pos + 1) = W at hnx hit2 hbw2
        generalize (s[pos]'hi).toNat = x at hnx hx
        have hne : (((x : Nat) : Int) == 65533) = false := beq_eq_false_iff_ne.2 (by omega)
        clear hit
        go_wp2_with fail
        go_roundg g
        case measure => omega
        case rel => exact ⟨pos + 1, by omega, hit2.out, hbw2⟩
  · have hrb : (r == 65533) = false := beq_eq_false_iff_ne.2 hr
    cases hv : Lib.validRune r with
    | false =>
      go_enter L.f152, Body.n152_ntmps ρ
      go_wp2_with (go_at_fn (ρ.f 119); refine (Any.utf8_ValidRune { L with } _ _).mono ?_; rintro e w' ⟨rfl, hw⟩; rw [hw, hv])
      go_ret
      exact ⟨rfl, Below.refl _ _⟩
    | true =>
      obtain ⟨n1, n2, n3⟩ := encode_facts r (by rw [Go.validRune_eq]; exact hv) h0
      generalize hR : Utf8.encode r = R at n1 n2 n3
      have n4 := n3 (by omega)
      obtain ⟨c, hc⟩ : ∃ c : UInt8, R[R.size - 1]'(by omega) = c := ⟨_, rfl⟩
      rw [hc] at n4
      clear n3
      obtain ⟨m, hm⟩ : ∃ m : Nat, R.size = m + 1 := ⟨R.size - 1, by omega⟩
      have hRc : ∀ h : m < R.size, R[m]'h = c := by
        intro h
        rw [← hc]
        congr 1
        omega
      have hRc' := hRc (by omega)
      clear hc hRc
      have hmz : (m : Int) < (R.size : Int) := by omega
      have hconv : ∀ w, (convert (ρ.t 21) (ρ.t 9) (.int .i32 r)).run P w = .ok (.string R) w := by
        intro w
        rw [run_convert_int_string w (ρ.t 21) (ρ.t 9) .i32 r (by rw [t21]; rfl) t9, hR]
      have hm1 : (R.size : Int) - 1 = (m : Int) := by omega
      by_cases hlt : m < s.size
      · have hltz : (m : Int) < (s.size : Int) := by omega
        have hltz1 : (m : Int) + 1 ≤ (s.size : Int) := by omega
        obtain ⟨b, hb⟩ : ∃ b : UInt8, s[m]'hlt = b := ⟨_, rfl⟩
        have hbl : b.toNat < 128 := HS.out _ (by
          rw [← hb]
          have := Lib.data_getElem? s m hlt
          exact List.mem_of_getElem? this)
        have hbc : (((b.toNat : Nat) : Int) == ((c.toNat : Nat) : Int)) = false := beq_eq_false_iff_ne.2 (by omega)
        have hbc' : (((b.toNat : Nat) : Int) != ((c.toNat : Nat) : Int)) = true := by rw [bne, hbc]; rfl
        have mixed := L.mixed
        have hixb : ∀ w, Calls P (ρ.f 137) #[.string (s.extract (m + 1) s.size), .int .u8 (c.toNat : Int)] w fun e w' => e = .returned (.int .i64 (-1)) ∧ ∃ q, w' = w.drewN q := fun w => by
          refine (Any.strings_IndexByte { L with } (s.extract (m + 1) s.size) (c.toNat : Int) w).mono ?_
          rintro e w' ⟨rfl, hw⟩
          have hback : ((c.toNat : Int)).toNat.toUInt8 = c := by simp
          rw [hback, indexByte_high s _ _ c HS.out n4]
          exact ⟨rfl, 0, hw⟩
        clear hR
        go_enter L.f152, Body.n152_ntmps ρ
        go_wp2_with (go_at_fn (ρ.f 119); refine (Any.utf8_ValidRune { L with } _ _).mono ?_; rintro e w' ⟨rfl, hw⟩; rw [hw, hv])
        go_step3
        go_wp2_with fail
        go_loopg [9, 10, 11, 12] 1 (fun _ s9 _ _ _ wx => s9 = .int .i64 m ∧ wx = w)
        case atStart => exact ⟨rfl, rfl⟩
        case round =>
          obtain ⟨rfl, rfl⟩ := hrel
          go_wp2_with fail
          go_step3
          go_wp2_with fail
          go_big_quiet_o (fail)
          have hb1 : Below wr.heap.size wr (wr.drewN nq) := (Below.refl _ wr).trans ⟨rfl, rfl, rfl, Nat.le_refl _, fun _ _ => rfl⟩
          generalize wr.drewN nq = w2 at hb1 ⊢
          go_wp2_with fail
          go_big_quiet_o (first | (go_at_fn (ρ.f 137); refine Calls.quiet_of (hixb _)))
          go_wp2_with fail
          rw [Exit.noGoto_ret]
          go_wp2_with fail
          rw [Exit.noGoto_ret]
          go_ret
          exact ⟨rfl, hb1.trans ⟨rfl, rfl, rfl, Nat.le_refl _, fun _ _ => rfl⟩⟩
      · have hltz : ¬ (m : Int) < (s.size : Int) := by omega
        clear hR
        go_enter L.f152, Body.n152_ntmps ρ
        go_wp2_with (go_at_fn (ρ.f 119); refine (Any.utf8_ValidRune { L with } _ _).mono ?_; rintro e w' ⟨rfl, hw⟩; rw [hw, hv])
        go_step3
        go_wp2_with fail
        go_loopg [9, 10, 11, 12] 1 (fun _ s9 _ _ _ wx => s9 = .int .i64 m ∧ wx = w)
        case atStart => exact ⟨rfl, rfl⟩
        case round =>
          obtain ⟨rfl, rfl⟩ := hrel
          go_wp2_with fail
          rw [Exit.noGoto_ret]
          go_ret
          exact ⟨rfl, Below.refl _ _⟩

set_option maxHeartbeats 8000000 in
set_option maxRecDepth 1000000 in
theorem any_IndexAny_short (L : Lays.n153 P ρ) (s chars : ByteArray) (w : World) (h2 : 2 ≤ chars.size) (h8 : s.size ≤ 8) (hc : ∀ b ∈ chars.data.toList, b.toNat < 128) :
    Calls P (ρ.f 153) #[.string s, .string chars] w fun e w' => e = .returned (.int .i64 (Lib.indexAny s.data.toList chars.data.toList)) ∧ Below w.heap.size w w' := by
  have HA := Lib.hid hc
  clear hc
  have hemp : chars.toList.isEmpty = false := by
    rw [Lib.toList_data]
    cases h : chars.data.toList with
    | nil => have := Lib.size_eq chars; rw [h, List.length_nil] at this; omega
    | cons _ _ => rfl
  have hn1 : ((chars.size : Int) == 1) = false := beq_eq_false_iff_ne.2 (by omega)
  have h8z : decide ((8 : Int) < (s.size : Int)) = false := decide_eq_false (by omega)
  have t3 := L.t3; have a3 := L.a3; have z3 := L.z3; have v3 := L.v3
  have t4 := L.t4; have a4 := L.a4; have z4 := L.z4; have v4 := L.v4
  have t5 := L.t5; have a5 := L.a5; have z5 := L.z5; have v5 := L.v5
  have t9 := L.t9; have a9 := L.a9; have z9 := L.z9; have v9 := L.v9
  have t21 := L.t21; have a21 := L.a21; have z21 := L.z21; have v21 := L.v21
  have e152 : ∀ args w, (callFunc (ρ.f 152) args).run P w = .ok (.enter (ρ.f 152) args) w := enters_of L.f152 (by kernel_rfl) rfl
  have e226 : ∀ args w, (callFunc (ρ.f 226) args).run P w = .ok (.enter (ρ.f 226) args) w := enters_of L.f226 (by kernel_rfl) rfl
  go_enter L.f153, Body.n153_ntmps ρ
  go_wp2_with (go_at_fn (ρ.f 226); refine (Any.strings_shouldUseASCIISet { L with } _ _).mono ?_; rintro e w' ⟨rfl, hw⟩; rw [hw, h8z])
  go_loopg [9, 10] s.size (fun g _ _ wx => ∃ i : Nat, s.size ≤ i + g ∧ wx.heap[w.heap.size]? = some (.stringIter s i) ∧ Below w.heap.size w wx ∧ Hid (Lib.NoAny s.data.toList chars.data.toList i))
  case atStart => exact ⟨0, by omega, World.iter_heap w s 0, (Below.refl _ w).alloc (Nat.le_refl _) _, Lib.hid (Lib.NoAny.zero _ _)⟩
  case round =>
    obtain ⟨i, hig, hit, hbw, HN⟩ := hrel
    by_cases hi : i < s.size
    · obtain ⟨g, rfl⟩ : ∃ g, gk = g + 1 := ⟨gk - 1, by omega⟩
      obtain ⟨x, hx⟩ : ∃ x : UInt8, s[i]'hi = x := ⟨_, rfl⟩
      have Hx : Hid (s.data.toList[i]? = some x) := Lib.hid (by rw [← hx]; exact Lib.data_getElem? s i hi)
      by_cases hx128 : x.toNat < 128
      · have hnx : ∀ ty, (Instr.next (.pointer (some ⟨w.heap.size, 0, none⟩)) true ty).run P wr = _ := fun ty => Lib.run_next_ascii_at wr w.heap.size s i ty hit hi (by rw [hx]; exact hx128)
        rw [hx] at hnx
        have hit2 := Lib.hid (Lib.iterAt_heap wr w.heap.size s i (i + 1) hit)
        have hbw2 := Lib.below_iterAt hbw (k := w.heap.size) (Nat.le_refl _) s (i + 1)
        generalize wr.iterAt w.heap.size s (i + 1) = W at hnx hit2 hbw2
        clear hit hx
        have hcon := Lib.contains_iff_indexByte chars.data.toList x
        have hback : ((x.toNat : Int)).toNat.toUInt8 = x := by simp
        cases hin : chars.data.toList.contains x
        · rw [hin] at hcon
          have hlt : ¬ ((0 : Int) ≤ Lib.indexByte chars.data.toList x) := of_decide_eq_false hcon.symm
          clear hcon
          go_wp2_with (go_at_fn (ρ.f 152); refine (Any.strings_IndexRune_ascii { L with } _ _ _ (by omega) (by omega)).mono ?_; rintro e w' ⟨rfl, hw⟩; rw [hw, hback])
          go_roundg g
          case measure => omega
          case rel => exact ⟨i + 1, by omega, hit2.out, hbw2, Lib.hid (HN.out.succ Hx.out hin)⟩
        · rw [hin] at hcon
          have hge : (0 : Int) ≤ Lib.indexByte chars.data.toList x := of_decide_eq_true hcon.symm
          clear hcon
          go_wp2_with (go_at_fn (ρ.f 152); refine (Any.strings_IndexRune_ascii { L with } _ _ _ (by omega) (by omega)).mono ?_; rintro e w' ⟨rfl, hw⟩; rw [hw, hback])
          go_ret
          exact ⟨by rw [Lib.indexAny_hit HN.out Hx.out hin]; rfl, hbw2⟩
      · have hnx : ∀ ty, (Instr.next (.pointer (some ⟨w.heap.size, 0, none⟩)) true ty).run P wr = _ := fun ty => Lib.run_next_any_at wr w.heap.size s i ty hit hi
        have HNw := Lib.hid (noAny_width HA.out HN.out hi (by rw [hx]; omega))
        have hR1 := (decode_high s i hi (by rw [hx]; omega)).1
        have hR2 := Lib.rune_le s i
        have hK := Lib.width_pos s i
        obtain ⟨R, hR⟩ : ∃ R, (Utf8.decode s i).1 = R := ⟨_, rfl⟩
        obtain ⟨K, hKK⟩ : ∃ K, (Utf8.decode s i).2 = K := ⟨_, rfl⟩
        rw [hR] at hnx hR1 hR2
        rw [hKK] at hnx hK HNw
        have hit2 := Lib.iterAt_heap wr w.heap.size s i (i + K) hit
        have hbw2 := Lib.below_iterAt hbw (k := w.heap.size) (Nat.le_refl _) s (i + K)
        generalize wr.iterAt w.heap.size s (i + K) = W at hnx hit2 hbw2
        have hlt : w.heap.size < W.heap.size := by
          rcases Nat.lt_or_ge w.heap.size W.heap.size with h | h
          · exact h
          · rw [Array.getElem?_eq_none h] at hit2; simp at hit2
        have Hit2 := Lib.hid hit2
        clear hit hx hit2 hR hKK
        go_wp2_with (go_at_fn (ρ.f 152); refine (any_IndexRune_high { L with } chars (R : Int) _ (by omega) (by omega) HA.out).mono ?_; rintro e w' ⟨rfl, hw⟩)
        go_roundg g
        case measure => omega
        case rel => exact ⟨i + K, by omega, by rw [hw.block _ hlt]; exact Hit2.out, hbw2.trans (hw.mono (by omega)), HNw⟩
    · have hnx : ∀ ty, (Instr.next (.pointer (some ⟨w.heap.size, 0, none⟩)) true ty).run P wr = _ := fun ty => Lib.run_next_end_at wr w.heap.size s i ty hit hi
      have HF : Hid (Lib.indexAny s.data.toList chars.data.toList = -1) := Lib.hid (Lib.indexAny_none (fun j b hj hb => HN.out j b (by rw [← Lib.size_eq] at hj; omega) hb))
      clear hit
      go_wp2_with fail
      go_ret
      exact ⟨by rw [HF.out]; rfl, hbw⟩

/-- strings.IndexAny over any text, where what is sought is ASCII, of two octets or more. -/
theorem any_IndexAny (L : Lays.n153 P ρ) (h116 : (P.info? (ρ.t 116)).map (fun i => (i.zero, i.size)) = some (some (.agg (Array.replicate 256 (.bool false))), 256)) (s chars : ByteArray) (w : World) (h2 : 2 ≤ chars.size) (hcs : chars.size ≤ 1000000) (hs : s.size < 4294967281) (hc : ∀ b ∈ chars.data.toList, b.toNat < 128) :
    Calls P (ρ.f 153) #[.string s, .string chars] w fun e w' => e = .returned (.int .i64 (Lib.indexAny s.data.toList chars.data.toList)) ∧ Below w.heap.size w w' := by
  by_cases h8 : s.size ≤ 8
  · exact any_IndexAny_short L s chars w h2 h8 hc
  · refine (Any.strings_IndexAny_long L (zero_of_info h116).1 (zero_of_info h116).2 s chars w h2 (by omega) hs (by omega) (fun j b hb => hc b (List.mem_of_getElem? hb))).mono fun e w' ⟨h1, h2⟩ => ⟨h1, ?_⟩
    rw [h2]
    exact ((Below.refl _ _).alloc (Nat.le_refl _) _).alloc (by simp) _
end Go.Proofs.YtjlonndkkeoohaaDoor
