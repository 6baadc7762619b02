/-
  What a name is, octet by octet.
  The walks of label.isDigit, isLetter, Name, and of the document's Letter, Name.
  The walks of label.tooLarge, anyMisnamed, Sane, orNone.
-/
import Derived.Test.YtkoeggjfdcpokaaGreatDoorPlnA
import Derived.Test.YtkoeggjfdcpokaaGreatDoorMemA
import Derived.Lib.Hide
import Derived.Test.YtkoeggjfdcpokaaGreatDoorShelfG
import Derived.Shelf.SlicesQ.IndexFunc
namespace Go.Proofs.YtkoeggjfdcpokaaGreatDoor
open Go.RowKit Go.Proofs.YtkoeggjfdcpokaaGreatDoor.Lp

theorem ret_bool {a b : Bool} (h : a = b) : Ending.returned (.bool a) = .returned (.bool b) := by rw [h]
theorem nameB_iff (s : ByteArray) : nameB s = true ↔ 1 ≤ s.size ∧ s.size ≤ 64 ∧ (∀ h : 0 < s.size, digB (s[0]'h) = false) ∧ s.data.toList.all okc = true := by
  unfold nameB nameL
  rw [tl, ← Lib.size_eq]
  simp only [Bool.and_eq_true, decide_eq_true_eq, Bool.not_eq_true', and_assoc]
  constructor
  · rintro ⟨h1, h2, h3, h4⟩
    refine ⟨h1, h2, fun h => ?_, h4⟩
    rw [← h3]
    congr 1
    cases hd : s.data.toList with
    | nil => have := Lib.size_eq s; rw [hd, List.length_nil] at this; omega
    | cons a r =>
      show s.data[0] = _
      rw [← Array.getElem_toList]
      simp [hd]
  · rintro ⟨h1, h2, h3, h4⟩
    refine ⟨h1, h2, ?_, h4⟩
    rw [← h3 h1]
    congr 1
    cases hd : s.data.toList with
    | nil => have := Lib.size_eq s; rw [hd, List.length_nil] at this; omega
    | cons a r =>
      show _ = s.data[0]
      rw [← Array.getElem_toList]
      simp [hd]
theorem nameB_no {s : ByteArray} (h : ¬ (1 ≤ s.size ∧ s.size ≤ 64 ∧ (∀ h : 0 < s.size, digB (s[0]'h) = false) ∧ s.data.toList.all okc = true)) : nameB s = false := by
  rw [← nameB_iff] at h; simpa using h
end Go.Proofs.YtkoeggjfdcpokaaGreatDoor
namespace Go.Proofs.YtkoeggjfdcpokaaGreatDoor
open Go.RowKit Go.Proofs.YtkoeggjfdcpokaaGreatDoor.Lp


theorem isDigit_of (c : UInt8) (b : Bool) (h : digB c = b) (w : World) :
    Calls Tryz.prog 71 #[.int .u8 (c.toNat : Int)] w fun e w' => e = .returned (.bool b) ∧ w = w' := by
  have H := Lib.hid h
  clear h
  by_cases h1 : 48 ≤ c.toNat
  · by_cases h2 : c.toNat ≤ 57
    · obtain rfl : b = true := by rw [← H.out]; unfold digB; simp [h1, h2]
      go_enter Tryz.func71, Tryz.ntmps71
      go_wp2
      go_ret
      exact ⟨ret_bool (by simp; omega), rfl⟩
    · obtain rfl : b = false := by rw [← H.out]; unfold digB; simp [h2]
      go_enter Tryz.func71, Tryz.ntmps71
      go_wp2
      go_ret
      exact ⟨ret_bool (by simp; omega), rfl⟩
  · obtain rfl : b = false := by rw [← H.out]; unfold digB; simp [h1]
    go_enter Tryz.func71, Tryz.ntmps71
    go_wp2
    go_ret
    exact ⟨rfl, rfl⟩

theorem isLetter_of (c : UInt8) (b : Bool) (h : letB c = b) (w : World) :
    Calls Tryz.prog 72 #[.int .u8 (c.toNat : Int)] w fun e w' => e = .returned (.bool b) ∧ w = w' := by
  have H := Lib.hid h
  clear h
  have hcs : (97 ≤ c.toNat ∧ c.toNat ≤ 122 ∧ b = true) ∨ (122 < c.toNat ∧ b = false) ∨ (90 < c.toNat ∧ c.toNat < 97 ∧ b = false) ∨ (65 ≤ c.toNat ∧ c.toNat ≤ 90 ∧ b = true) ∨ (c.toNat < 65 ∧ b = false) := by
    rw [← H.out]; unfold letB
    simp
    omega
  clear H
  rcases hcs with ⟨h1, h2, rfl⟩ | ⟨h1, rfl⟩ | ⟨h1, h2, rfl⟩ | ⟨h1, h2, rfl⟩ | ⟨h1, rfl⟩
  all_goals
    go_enter Tryz.func72, Tryz.ntmps72
    go_wp2
    go_ret
    first | exact ⟨rfl, rfl⟩ | exact ⟨ret_bool (by simp; omega), rfl⟩

/-! ### names -/
theorem all_take_snoc (s : ByteArray) (k : Nat) (h : k < s.size) (f : UInt8 → Bool) : (s.data.toList.take (k + 1)).all f = ((s.data.toList.take k).all f && f (s[k]'h)) := by
  rw [List.take_succ_eq_append_getElem (by simpa using h), List.all_append]
  simp
  rfl
set_option maxHeartbeats 3200000 in
theorem name_of (s : ByteArray) (b : Bool) (hb : nameB s = b) (w : World) :
    Calls Tryz.prog 46 #[.string s] w fun e w' => e = .returned (.bool b) ∧ w = w' := by
  have HB := Lib.hid hb
  clear hb
  by_cases h0 : s.size = 0
  · have hb : b = false := by rw [← HB.out]; exact nameB_no (by omega)
    subst hb
    have he : s.toList = [] := by
      rw [tl]; exact List.length_eq_zero_iff.1 (by rw [← Lib.size_eq]; exact h0)
    have he' : s.toList.isEmpty = true := by rw [he]; rfl
    go_enter Tryz.func46, Tryz.ntmps46
    go_wp2
    go_ret
    exact ⟨rfl, rfl⟩
  · have hpos : 0 < s.size := by omega
    have he : ¬ s.toList = [] := by
      rw [tl]; intro h; have := Lib.size_eq s; rw [h, List.length_nil] at this; omega
    have he' : s.toList.isEmpty = false := by simpa using he
    by_cases h64 : s.size ≤ 64
    · obtain ⟨c0, hc0⟩ : ∃ c, s[0]'hpos = c := ⟨_, rfl⟩
      cases hd : digB c0 with
      | true =>
        have hb : b = false := by
          rw [← HB.out]; refine nameB_no ?_
          rintro ⟨_, _, h, _⟩
          have h' := h hpos
          rw [hc0, hd] at h'; cases h'
        subst hb
        go_enter Tryz.func46, Tryz.ntmps46
        go_wp2_with (go_at_call 71; refine (isDigit_of c0 true hd _).mono ?_; rintro e w' ⟨rfl, rfl⟩)
        go_ret
        exact ⟨rfl, rfl⟩
      | false =>
        have HN : Hid (nameB s = s.data.toList.all okc) := Lib.hid (by
          cases ha : s.data.toList.all okc with
          | true => exact (nameB_iff s).2 ⟨by omega, h64, fun h => by rw [hc0]; exact hd, ha⟩
          | false => refine nameB_no ?_; rintro ⟨_, _, _, h⟩; rw [ha] at h; cases h)
        go_enter Tryz.func46, Tryz.ntmps46
        go_wp2_with (go_at_call 71; refine (isDigit_of c0 false hd _).mono ?_; rintro e w' ⟨rfl, rfl⟩)
        go_loopg [3, 4, 19] s.size (fun g _ _ s19 wx => ∃ i : Nat, i + g = s.size ∧ s19 = .int .i64 i ∧ Hid ((s.data.toList.take i).all okc = true) ∧ wx = w)
        case atStart => exact ⟨0, by omega, rfl, Lib.hid (by simp), rfl⟩
        case round =>
          obtain ⟨i, hi, rfl, HA, rfl⟩ := hrel
          clear hd hc0 he he' h0 hpos
          cases gk with
          | zero =>
            obtain rfl : i = s.size := by omega
            have hb : b = true := by
              rw [← HB.out, HN.out]
              have := HA.out
              rw [Lib.size_eq, List.take_length] at this
              exact this
            subst hb
            go_wp2
            go_ret
            exact ⟨rfl, rfl⟩
          | succ g =>
            have hlt : i < s.size := by omega
            have hltz : (i : Int) < (s.size : Int) := by omega
            obtain ⟨c, hc⟩ : ∃ c, s[i]'hlt = c := ⟨_, rfl⟩
            have HS : Hid ((s.data.toList.take (i + 1)).all okc = okc c) := Lib.hid (by
              rw [all_take_snoc s i hlt, HA.out, hc]; rfl)
            have Hno : okc c = false → b = false := fun h => by
              rw [← HB.out, HN.out]
              cases ha : s.data.toList.all okc with
              | false => rfl
              | true =>
                have : okc c = true := List.all_eq_true.1 ha c (by rw [← hc]; exact Array.getElem_mem_toList _)
                rw [h] at this; cases this
            have HNo := Lib.hid Hno
            clear Hno
            cases hl : letB c with
            | true =>
              have HO : Hid (okc c = true) := Lib.hid (by unfold okc; rw [hl]; rfl)
              go_wp2_with (go_at_call 72; refine (isLetter_of c true hl _).mono ?_; rintro e w' ⟨rfl, rfl⟩)
              go_roundg g
              case measure => omega
              case rel => exact ⟨i + 1, by omega, by simp, Lib.hid (by rw [HS.out, HO.out]), rfl⟩
            | false =>
              cases hdg : digB c with
              | true =>
                have HO : Hid (okc c = true) := Lib.hid (by unfold okc; rw [hdg]; simp)
                go_wp2_with (first | (go_at_call 72; refine (isLetter_of c false hl _).mono ?_; rintro e w' ⟨rfl, rfl⟩) | (go_at_call 71; refine (isDigit_of c true hdg _).mono ?_; rintro e w' ⟨rfl, rfl⟩))
                go_roundg g
                case measure => omega
                case rel => exact ⟨i + 1, by omega, by simp, Lib.hid (by rw [HS.out, HO.out]), rfl⟩
              | false =>
                by_cases hu : c.toNat = 95
                · have HO : Hid (okc c = true) := Lib.hid (by unfold okc; simp [hu])
                  have hub : ((c.toNat : Int) == 95) = true := by simp; omega
                  clear hu
                  go_wp2_with (first | (go_at_call 72; refine (isLetter_of c false hl _).mono ?_; rintro e w' ⟨rfl, rfl⟩) | (go_at_call 71; refine (isDigit_of c false hdg _).mono ?_; rintro e w' ⟨rfl, rfl⟩))
                  go_roundg g
                  case measure => omega
                  case rel => exact ⟨i + 1, by omega, by simp, Lib.hid (by rw [HS.out, HO.out]), rfl⟩
                · have hb : b = false := HNo.out (by unfold okc; simp [hl, hdg, hu])
                  subst hb
                  have hub : ((c.toNat : Int) == 95) = false := by simp; omega
                  go_wp2_with (first | (go_at_call 72; refine (isLetter_of c false hl _).mono ?_; rintro e w' ⟨rfl, rfl⟩) | (go_at_call 71; refine (isDigit_of c false hdg _).mono ?_; rintro e w' ⟨rfl, rfl⟩))
                  go_ret
                  exact ⟨rfl, rfl⟩
    · have hb : b = false := by rw [← HB.out]; exact nameB_no (by omega)
      subst hb
      go_enter Tryz.func46, Tryz.ntmps46
      go_wp2
      go_ret
      exact ⟨rfl, rfl⟩

end Go.Proofs.YtkoeggjfdcpokaaGreatDoor
namespace Go.Proofs.YtkoeggjfdcpokaaGreatDoor
open Go.RowKit Go.Proofs.YtkoeggjfdcpokaaGreatDoor.Lp

/-! ### a predicate on pairs handed to slices.ContainsFunc -/
theorem contains_none (A : Option Addr) (c : Nat) (v : Value) (w : World) :
    Calls Tryz.prog 98 #[.slice A 0 c, v] w fun e w' => e = .returned (.bool false) ∧ w = w' := by
  have h0 : ∀ W : World, Calls Tryz.prog 116 #[.slice A 0 c, v] W fun e w' => e = .returned (.int .i64 (-1)) ∧ W = w' := by
    intro W
    go_enter Tryz.func116, Tryz.ntmps116
    go_wp2
    go_loopg [5, 8] 1 (fun _ _ s8 wx => s8 = .int .i64 0 ∧ wx = W)
    case atStart => exact ⟨rfl, rfl⟩
    case round =>
      obtain ⟨rfl, rfl⟩ := hrel
      go_wp2
      go_ret
      exact ⟨rfl, rfl⟩
  go_enter Tryz.func98, Tryz.ntmps98
  go_wp2_with (go_at_call 116; refine (h0 _).mono ?_; rintro e w' ⟨rfl, rfl⟩)
  go_ret
  exact ⟨rfl, rfl⟩
theorem contains_any (g : Nat) (p : Pr → Bool) (eg : ∀ args w, (callFunc g args).run Tryz.prog w = .ok (.enter g args) w) (A : Option Addr) (c n : Nat) (l : List Pr) (hn : n = l.length) (w : World) (hr : Rd w w.heap.size A l)
    (hp : PredBelow Tryz.prog g #[] (fun x : Pr => .agg (enc x).toArray) p w) :
    Calls Tryz.prog 98 #[.slice A n c, .func (.func g) #[] #[]] w fun e w' => e = .returned (.bool (l.any p)) ∧ Below w.heap.size w w' := by
  subst hn
  by_cases hl : l = []
  · subst hl
    refine (contains_none A c _ w).mono ?_
    rintro e w' ⟨rfl, rfl⟩
    exact ⟨rfl, Below.refl _ _⟩
  · obtain ⟨b, off, rfl, hb, hc⟩ := hr.mem hl
    have := AnyQ.slices_ContainsFunc Tryz.containsG 2 Tryz.isAgg73 Tryz.sizeOf73 enc (fun _ => rfl) p g #[] eg b off l.length c l w hp (Nat.le_refl _) hr.len hb (by
      intro j hj i v hv
      refine hc (j * 2 + i) v ?_ |> fun h => by rw [← Nat.add_assoc] at h; exact h
      obtain ⟨h0, h1⟩ := cells_at l j hj
      rw [getElem!_pos l j hj] at hv
      match i, hv with
      | 0, hv => rw [← hv]; exact h0
      | 1, hv => rw [← hv]; exact h1)
    rw [List.take_length] at this
    exact this

theorem big_pred (w : World) : PredBelow Tryz.prog 99 #[] (fun x : Pr => .agg (enc x).toArray) bigV w := by
  rintro W ⟨N, V⟩ hb
  show Calls Tryz.prog 99 #[.agg #[.string N, .string V]] W _
  by_cases h : 64 < V.size
  · have hB : bigV (N, V) = true := by simp [bigV, h]
    rw [hB]
    clear hB
    go_enter Tryz.func99, Tryz.ntmps99
    go_wp2
    go_ret
    exact ⟨ret_bool (by simp; omega), hb.alloc hb.size _⟩
  · have hB : bigV (N, V) = false := by simp [bigV]; omega
    rw [hB]
    clear hB
    go_enter Tryz.func99, Tryz.ntmps99
    go_wp2
    go_ret
    exact ⟨ret_bool (by simp; omega), hb.alloc hb.size _⟩
theorem bad_pred (w : World) : PredBelow Tryz.prog 100 #[] (fun x : Pr => .agg (enc x).toArray) badN w := by
  rintro W ⟨N, V⟩ hb
  show Calls Tryz.prog 100 #[.agg #[.string N, .string V]] W _
  unfold badN
  obtain ⟨b, hB⟩ : ∃ b, nameB N = b := ⟨_, rfl⟩
  have HB := Lib.hid hB
  show Calls _ _ _ _ fun e w' => e = .returned (.bool (!nameB N)) ∧ _
  rw [hB]
  clear hB
  go_enter Tryz.func100, Tryz.ntmps100
  go_wp2_with (go_at_call 46; refine (name_of N b HB.out _).mono ?_; rintro e w' ⟨rfl, rfl⟩)
  go_ret
  exact ⟨rfl, hb.alloc hb.size _⟩
theorem eg49 : ∀ args w, (callFunc 99 args).run Tryz.prog w = .ok (.enter 99 args) w := enters_of Tryz.func99 (by kernel_rfl) rfl
theorem eg50 : ∀ args w, (callFunc 100 args).run Tryz.prog w = .ok (.enter 100 args) w := enters_of Tryz.func100 (by kernel_rfl) rfl

theorem large_of (A : Option Addr) (c n : Nat) (l : List Pr) (hn : n = l.length) (b : Bool) (hb : large l = b) (w : World) (hr : Rd w w.heap.size A l) :
    Calls Tryz.prog 74 #[.slice A n c] w fun e w' => e = .returned (.bool b) ∧ Below w.heap.size w w' := by
  have HB := Lib.hid hb
  clear hb
  have hc := contains_any 99 bigV eg49 A c n l hn w hr (big_pred w)
  by_cases h16 : 16 < n
  · have hb : b = true := by rw [← HB.out]; unfold large; simp [← hn, h16]
    subst hb
    clear hc hn
    go_enter Tryz.func74, Tryz.ntmps74
    go_wp2
    go_ret
    exact ⟨rfl, Below.refl _ _⟩
  · have hb : l.any bigV = b := by rw [← HB.out]; unfold large; simp [← hn, h16]
    rw [hb] at hc
    have hz : decide ((16 : Int) < (n : Int)) = false := by simp; omega
    clear hb hn
    go_enter Tryz.func74, Tryz.ntmps74
    go_wp2_with (go_at_call 98; refine hc.mono ?_; rintro e w' ⟨rfl, hw⟩)
    go_ret
    exact ⟨rfl, hw⟩
theorem misn_of (A : Option Addr) (c n : Nat) (l : List Pr) (hn : n = l.length) (b : Bool) (hb : misn l = b) (w : World) (hr : Rd w w.heap.size A l) :
    Calls Tryz.prog 75 #[.slice A n c] w fun e w' => e = .returned (.bool b) ∧ Below w.heap.size w w' := by
  have hc := contains_any 100 badN eg50 A c n l hn w hr (bad_pred w)
  rw [show l.any badN = b from hb] at hc
  clear hb hn
  go_enter Tryz.func75, Tryz.ntmps75
  go_wp2_with (go_at_call 98; refine hc.mono ?_; rintro e w' ⟨rfl, hw⟩)
  go_ret
  exact ⟨rfl, hw⟩

theorem rising_at : ∀ (l : List Pr), rising l = true ↔ ∀ i p q, l[i]? = some p → l[i + 1]? = some q → blt p.1 q.1 = true
  | [] => by simp [rising]
  | [x] => by simp [rising]
  | x :: y :: r => by
    have ih := rising_at (y :: r)
    unfold rising
    rw [Bool.and_eq_true, ih]
    constructor
    · rintro ⟨h0, h⟩ i p q hp hq
      cases i with
      | zero =>
        simp at hp hq
        subst hp hq
        exact h0
      | succ i => exact h i p q (by simpa using hp) (by simpa using hq)
    · intro h
      exact ⟨h 0 x y rfl rfl, fun i p q hp hq => h (i + 1) p q (by simpa using hp) (by simpa using hq)⟩
theorem ex_at {l : List Pr} {k : Nat} (h : k < l.length) : ∃ N V, l[k]? = some (N, V) := ⟨_, _, List.getElem?_eq_getElem h⟩

set_option maxHeartbeats 1600000 in
theorem sane_of (A : Option Addr) (c n : Nat) (l : List Pr) (hn : n = l.length) (b : Bool) (hb : saneB l = b) (w : World) (hr : Rd w w.heap.size A l) :
    Calls Tryz.prog 49 #[.slice A n c] w fun e w' => e = .returned (.bool b) ∧ Below w.heap.size w w' := by
  have HB := Lib.hid hb
  have HN := Lib.hid hn
  have hlen : n ≤ 9223372036854775807 := by rw [hn]; exact hr.len
  clear hb hn
  cases h1 : large l with
  | true =>
    have hb : b = false := by rw [← HB.out]; unfold saneB; rw [h1]; rfl
    subst hb
    go_enter Tryz.func49, Tryz.ntmps49
    go_wp2_with (go_at_call 74; refine (large_of A c n l HN.out true h1 _ hr).mono ?_; rintro e w1 ⟨rfl, hw1⟩)
    go_ret
    exact ⟨rfl, hw1⟩
  | false =>
    cases h2 : misn l with
    | true =>
      have hb : b = false := by rw [← HB.out]; unfold saneB; rw [h2]; simp
      subst hb
      go_enter Tryz.func49, Tryz.ntmps49
      go_wp2_with fail
      refine (large_of A c n l HN.out false h1 _ hr).mono ?_
      rintro e w1 ⟨rfl, hw1⟩
      go_wp2_with fail
      refine (misn_of A c n l HN.out true h2 _ (hr.on hw1)).mono ?_
      rintro e w2 ⟨rfl, hw2⟩
      go_wp2_with fail
      go_ret
      exact ⟨rfl, below_on hw1 hw2⟩
    | false =>
      have HR : Hid (saneB l = rising l) := Lib.hid (by unfold saneB; rw [h1, h2]; simp)
      go_enter Tryz.func49, Tryz.ntmps49
      go_wp2_with fail
      refine (large_of A c n l HN.out false h1 _ hr).mono ?_
      rintro e w1 ⟨rfl, hw1⟩
      go_wp2_with fail
      refine (misn_of A c n l HN.out false h2 _ (hr.on hw1)).mono ?_
      rintro e w2 ⟨rfl, hw2⟩
      have hw12 := below_on hw1 hw2
      clear h1 h2 hw1 hw2
      go_wp2_with fail
      go_loopg [3] n (fun g s3 wx => ∃ j : Nat, s3 = .int .i64 ((j : Int) + 1) ∧ n ≤ j + 1 + g ∧ (j + 1 ≤ n ∨ j = 0) ∧ Hid (∀ i p q, i < j → l[i]? = some p → l[i + 1]? = some q → blt p.1 q.1 = true) ∧ Below w.heap.size w wx)
      case atStart => exact ⟨0, by simp, by omega, .inr rfl, Lib.hid (fun i _ _ hi => by omega), hw12⟩
      case round =>
        obtain ⟨j, rfl, hg, hj, HA, hwx⟩ := hrel
        by_cases hlt : j + 1 < n
        · have hltz : (j : Int) + 1 < (n : Int) := by omega
          obtain ⟨bk, off, rfl, hbk, hc⟩ := (hr.below hwx).all (by have := HN.out; omega)
          obtain ⟨N0, V0, hp0⟩ := ex_at (l := l) (k := j) (by have := HN.out; omega)
          obtain ⟨N1, V1, hp1⟩ := ex_at (l := l) (k := j + 1) (by have := HN.out; omega)
          have c0 := (hc _ _ hp0).1
          have c1 := (hc _ _ hp1).1
          have HP0 := Lib.hid hp0
          have HP1 := Lib.hid hp1
          clear hc hp0 hp1
          have hbk' : bk < wr.heap.size := by have := hwx.size; omega
          cases hlss : Op.bytesLess N0.toList N1.toList with
          | true =>
            have HA' : Hid (∀ i p q, i < j + 1 → l[i]? = some p → l[i + 1]? = some q → blt p.1 q.1 = true) := Lib.hid (by
              intro i p q hi hp hq
              by_cases e : i = j
              · subst e
                rw [HP0.out] at hp
                rw [HP1.out] at hq
                cases hp; cases hq
                exact hlss
              · exact HA.out i p q (by omega) hp hq)
            go_wp2_with fail
            go_quiet (fail)
            go_wp2_with fail
            go_roundg (n - (j + 2))
            case measure => omega
            case rel => exact ⟨j + 1, by simp, by omega, by omega, HA', below_on hwx (below_drewN _ _)⟩
          | false =>
            have hb : b = false := by
              rw [← HB.out, HR.out]
              cases hr : rising l with
              | false => rfl
              | true =>
                have := (rising_at l).1 hr j _ _ HP0.out HP1.out
                unfold blt at this
                rw [hlss] at this; cases this
            subst hb
            go_wp2_with fail
            go_quiet (fail)
            go_wp2_with fail
            go_ret
            exact ⟨rfl, below_on hwx (below_drewN _ _)⟩
        · have hltz : ¬ (j : Int) + 1 < (n : Int) := by omega
          have hb : b = true := by
            rw [← HB.out, HR.out, rising_at]
            intro i p q hp hq
            refine HA.out i p q ?_ hp hq
            have := (List.getElem?_eq_some_iff.1 hq).1
            have := HN.out
            omega
          subst hb
          go_wp2_with fail
          go_ret
          exact ⟨rfl, hwx⟩

end Go.Proofs.YtkoeggjfdcpokaaGreatDoor
