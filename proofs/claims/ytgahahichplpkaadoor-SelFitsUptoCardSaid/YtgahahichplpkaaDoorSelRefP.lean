/-
  The walk of the document's Print of layer sel.
-/
import Derived.Test.YtgahahichplpkaaDoorSelRefS
import Derived.Test.YtgahahichplpkaaDoorRfQuote
namespace Go.Proofs.YtgahahichplpkaaDoor
open Go.RowKit Go.Proofs.YtgahahichplpkaaDoor.Lp
open Go.Proofs.YtgahahichplpkaaDoor.Sl (Mt Sel Tf)

def pre : Bool → List Mt → Lx.T
  | _, [] => []
  | b, m :: r => (if b then 123 else 44) :: (Sl.mTxt m ++ pre false r)
theorem prM_pre : ∀ (r : List Mt) (b : Bool), Sl.prM b r = pre b r ++ [125]
  | [], _ => rfl
  | m :: r, b => by
    show (if b then 123 else 44) :: (Sl.mTxt m ++ Sl.prM false r) = (if b then 123 else 44) :: (Sl.mTxt m ++ pre false r) ++ [125]
    rw [prM_pre r false]; simp
theorem pre_snoc : ∀ (r : List Mt) (b : Bool) (m : Mt), pre b (r ++ [m]) = pre b r ++ ((if b = true ∧ r = [] then 123 else 44) :: Sl.mTxt m)
  | [], b, m => by
    show (if b then 123 else 44) :: (Sl.mTxt m ++ []) = [] ++ _
    simp
  | x :: r, b, m => by
    show (if b then 123 else 44) :: (Sl.mTxt x ++ pre false (r ++ [m])) = ((if b then 123 else 44) :: (Sl.mTxt x ++ pre false r)) ++ _
    rw [pre_snoc r false m]
    simp
theorem pre_next {l : List Mt} {i : Nat} {m : Mt} (h : l[i]? = some m) : pre true (l.take (i + 1)) = pre true (l.take i) ++ ((if i = 0 then 123 else 44) :: Sl.mTxt m) := by
  have hlt := (List.getElem?_eq_some_iff.1 h).1
  rw [List.take_add_one, h]
  show pre true (l.take i ++ [m]) = _
  rw [pre_snoc]
  congr 2
  have : l.take i = [] ↔ i = 0 := by
    rw [List.take_eq_nil_iff]
    constructor
    · rintro (h | h)
      · exact h
      · subst h; simp at hlt
    · exact .inl
  simp [this]
theorem sane_parts {N : ByteArray} {l : List Mt} (h : Sl.saneS (N, l) = true) : N.size ≤ 64 ∧ l.length ≤ 8 ∧ ∀ m ∈ l, m.1.size ≤ 64 ∧ m.2.1.size ≤ 64 := by
  refine ⟨name_size h, ?_, ?_⟩
  · unfold Sl.saneS at h
    simp only [Bool.and_eq_true, decide_eq_true_eq] at h
    exact h.1.2
  · intro m hm
    unfold Sl.saneS at h
    simp only [Bool.and_eq_true, decide_eq_true_eq] at h
    have := (List.all_eq_true.1 h.2) m hm
    unfold Sl.mOk nameB nameL at this
    rw [tl] at this
    simp only [Bool.and_eq_true, decide_eq_true_eq] at this
    have h1 := this.1.1.1.2
    rw [Array.length_toList] at h1
    exact ⟨h1, this.2⟩
set_option maxHeartbeats 6400000 in
theorem rprintS_of (N : ByteArray) (A : Option Addr) (c n : Nat) (l : List Mt) (S : ByteArray) (hNs : N.size ≤ 9223372036854775807) (hn : n = l.length) (hS : S.data.toList = Sl.prS (N, l)) (w : World) (hr : Rq w w.heap.size A l) :
    Calls Tryd.prog 17 #[sv N A n c] w fun e w' => e = .returned (.string S) ∧ Below w.heap.size w w' := by
  have HN := Lib.hid hn
  have HS := Lib.hid hS
  have HR := Lib.hid hr
  clear hn hS hr
  obtain ⟨b1, hb1⟩ : ∃ b, Sl.saneS (N, l) = b := ⟨_, rfl⟩
  have H1 := Lib.hid hb1
  clear hb1
  go_enter Tryd.func17, Tryd.ntmps17
  obtain ⟨W, P, hW, hP, hb0, d0, d1, hPW⟩ := box_sel w N A n c
  have X1 : Hid (Bx W P N A n c) := Lib.hid ⟨d0, d1, hPW⟩
  have HB0 : Hid (Below w.heap.size w W) := Lib.hid (hP ▸ hb0)
  have HRW := Lib.hid (HR.out.on HB0.out)
  clear hb0 HR
  go_wp2_with fail
  refine (rsaneS_of N A c n l b1 hNs HN.out H1.out W HRW.out).mono ?_
  rintro e w1 ⟨rfl, hV1⟩
  clear d0 d1
  cases b1 with
  | false =>
    have : S = ⟨#[]⟩ := Lp.ext (by rw [Lp.tl, HS.out, Lp.tl]; unfold Sl.prS; rw [H1.out]; rfl)
    subst this
    go_wp2_with fail
    go_ret
    exact ⟨rfl, below_on HB0.out hV1⟩
  | true =>
    obtain ⟨hN64, hl8, hms⟩ := sane_parts H1.out
    have HMs := Lib.hid hms
    have hn8 : n ≤ 8 := by rw [HN.out]; exact hl8
    clear hms hl8
    obtain ⟨d0, d1, _⟩ := X1.out.on hV1
    go_wp2_with fail
    go_loopg [3, 4] n (fun g s3 s4 wx => ∃ (i : Nat) (T : ByteArray), i + g = n ∧ s4 = .int .i64 i ∧ s3 = .string T ∧ T.size ≤ 64 + 300 * i ∧ Hid (T.data.toList = N.data.toList ++ pre true (l.take i)) ∧ Below W.heap.size W wx)
    case atStart => exact ⟨0, N, by omega, rfl, rfl, by omega, Lib.hid (by simp [pre]), hV1⟩
    case round =>
      obtain ⟨i, T, hi, rfl, rfl, hTs, HT, hwx⟩ := hrel
      clear d0 d1
      obtain ⟨d0, d1, _⟩ := X1.out.on hwx
      cases gk with
      | zero =>
        obtain rfl : i = n := by omega
        have hTl := HT.out
        rw [List.take_of_length_le (by rw [HN.out]; exact Nat.le_refl _)] at hTl
        by_cases h0 : i = 0
        · subst h0
          have hl : l = [] := List.length_eq_zero_iff.1 HN.out.symm
          have : S = T := Lp.ext (by
            rw [Lp.tl, Lp.tl, HS.out, hTl]; unfold Sl.prS; rw [H1.out, hl]; rfl)
          subst this
          clear hTl
          go_wp2_with fail
          go_ret
          exact ⟨rfl, by have := below_on HB0.out hwx; rwa [hP] at this⟩
        · have h0z : (0 : Int) < (i : Int) := by omega
          have hl : ¬ l = [] := fun e => h0 (by rw [HN.out, e]; rfl)
          have : T ++ (⟨#[125]⟩ : ByteArray) = S := Lp.ext (by
            rw [Lp.tl, Lp.tl, HS.out, ByteArray.data_append]
            unfold Sl.prS
            rw [if_pos H1.out]
            show _ = N.data.toList ++ (if l = [] then [] else Sl.prM true l)
            rw [if_neg hl, prM_pre]
            simp [hTl])
          have HTS := Lib.hid this
          clear hTl this h0
          go_wp2_with fail
          go_ret
          refine ⟨?_, below_on HB0.out hwx⟩
          rw [← HTS.out]
          rfl
      | succ g =>
        have hlt : i < n := by omega
        have hltz : (i : Int) < (n : Int) := by omega
        obtain ⟨a1, a2, a3, ha⟩ := getM (l := l) (k := i) (by have := HN.out; omega)
        obtain ⟨bk, off, rfl, hbk, c0, c1, c2⟩ := (HRW.out.on hwx).get ha
        obtain ⟨ha1, ha2⟩ := HMs.out _ (List.mem_of_getElem? ha)
        have HNx := Lib.hid (pre_next ha)
        obtain ⟨Q, hQ⟩ : ∃ Q : ByteArray, Q.data.toList = Lx.quote a2.data.toList := ⟨str _, rfl⟩
        have hQs : Q.size ≤ 130 := by
          have hbl := body_len a2.data.toList
          show Q.data.size ≤ _
          rw [← Array.length_toList, hQ]
          unfold Lx.quote
          rw [List.length_cons, List.length_append, List.length_singleton]
          have hsl : a2.data.toList.length ≤ 64 := by rw [Array.length_toList]; exact ha2
          omega
        have HQ := Lib.hid hQ
        have ha2' : a2.size ≤ 1000000 := by have : a2.size ≤ 64 := ha2; omega
        have ha1' : a1.size ≤ 64 := ha1
        clear ha hQ ha1 ha2
        by_cases hi0 : i = 0
        · subst hi0
          simp only [Nat.zero_mul, Nat.add_zero] at c0 c1 c2
          cases a3 with
          | true =>
            go_wp2_with fail
            refine (rquote_of a2 Q ha2' HQ.out wr).mono ?_
            rintro e w4 ⟨rfl, hw4⟩
            have hV4 := below_on hwx hw4
            go_wp2_with fail
            go_roundg g
            case measure => omega
            case rel =>
              refine ⟨0 + 1, T ++ (⟨#[123]⟩ : ByteArray) ++ a1 ++ (⟨#[33]⟩ : ByteArray) ++ (⟨#[61]⟩ : ByteArray) ++ Q, by omega, by simp, rfl, ?_, Lib.hid ?_, hV4⟩
              · simp only [ByteArray.size_append]
                have h1 : (⟨#[123]⟩ : ByteArray).size = 1 := rfl
                have h2 : (⟨#[61]⟩ : ByteArray).size = 1 := rfl
                have h3 : (⟨#[33]⟩ : ByteArray).size = 1 := rfl
                omega
              · rw [HNx.out]
                simp only [ByteArray.data_append, Array.toList_append, HT.out, HQ.out, Sl.mTxt]
                simp
          | false =>
            go_wp2_with fail
            refine (rquote_of a2 Q ha2' HQ.out wr).mono ?_
            rintro e w4 ⟨rfl, hw4⟩
            have hV4 := below_on hwx hw4
            go_wp2_with fail
            go_roundg g
            case measure => omega
            case rel =>
              refine ⟨0 + 1, T ++ (⟨#[123]⟩ : ByteArray) ++ a1 ++ (⟨#[61]⟩ : ByteArray) ++ Q, by omega, by simp, rfl, ?_, Lib.hid ?_, hV4⟩
              · simp only [ByteArray.size_append]
                have h1 : (⟨#[123]⟩ : ByteArray).size = 1 := rfl
                have h2 : (⟨#[61]⟩ : ByteArray).size = 1 := rfl
                have h3 : (⟨#[33]⟩ : ByteArray).size = 1 := rfl
                omega
              · rw [HNx.out]
                simp only [ByteArray.data_append, Array.toList_append, HT.out, HQ.out, Sl.mTxt]
                simp
        · have hiz : ((i : Int) == 0) = false := by simp; omega
          cases a3 with
          | true =>
            go_wp2_with fail
            refine (rquote_of a2 Q ha2' HQ.out wr).mono ?_
            rintro e w4 ⟨rfl, hw4⟩
            have hV4 := below_on hwx hw4
            go_wp2_with fail
            go_roundg g
            case measure => omega
            case rel =>
              refine ⟨i + 1, T ++ (⟨#[44]⟩ : ByteArray) ++ a1 ++ (⟨#[33]⟩ : ByteArray) ++ (⟨#[61]⟩ : ByteArray) ++ Q, by omega, by simp, rfl, ?_, Lib.hid ?_, hV4⟩
              · simp only [ByteArray.size_append]
                have h1 : (⟨#[44]⟩ : ByteArray).size = 1 := rfl
                have h2 : (⟨#[61]⟩ : ByteArray).size = 1 := rfl
                have h3 : (⟨#[33]⟩ : ByteArray).size = 1 := rfl
                omega
              · rw [HNx.out]
                simp only [ByteArray.data_append, Array.toList_append, HT.out, HQ.out, Sl.mTxt, hi0]
                simp
          | false =>
            go_wp2_with fail
            refine (rquote_of a2 Q ha2' HQ.out wr).mono ?_
            rintro e w4 ⟨rfl, hw4⟩
            have hV4 := below_on hwx hw4
            go_wp2_with fail
            go_roundg g
            case measure => omega
            case rel =>
              refine ⟨i + 1, T ++ (⟨#[44]⟩ : ByteArray) ++ a1 ++ (⟨#[61]⟩ : ByteArray) ++ Q, by omega, by simp, rfl, ?_, Lib.hid ?_, hV4⟩
              · simp only [ByteArray.size_append]
                have h1 : (⟨#[44]⟩ : ByteArray).size = 1 := rfl
                have h2 : (⟨#[61]⟩ : ByteArray).size = 1 := rfl
                have h3 : (⟨#[33]⟩ : ByteArray).size = 1 := rfl
                omega
              · rw [HNx.out]
                simp only [ByteArray.data_append, Array.toList_append, HT.out, HQ.out, Sl.mTxt, hi0]
                simp
end Go.Proofs.YtgahahichplpkaaDoor
