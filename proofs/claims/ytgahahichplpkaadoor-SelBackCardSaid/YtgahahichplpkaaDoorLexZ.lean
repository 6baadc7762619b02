/-
  lex.All's contract over tokens of any numbers; how long a selector's text is.
-/
import Derived.Test.YtgahahichplpkaaDoorSelBase
namespace Go.Proofs.YtgahahichplpkaaDoor
open Go.RowKit Go.Proofs.YtgahahichplpkaaDoor.Lp
open Go.Proofs.YtgahahichplpkaaDoor.Sl (Mt Sel Tf)

def flatK (t : Tz) : Tf := (t.1, t.2.2)
theorem flatK_place (n : Nat) (l : List Lx.Tok) : ((l.map (place n)).map lz).map flatK = (l.map Lx.flat).map Sl.tf := by
  rw [List.map_map, List.map_map, List.map_map]; rfl
def allZ (l : Lx.T) : List Tz × Nat × Int := ((allT l).1.map lz, (allT l).2.1, (allT l).2.2)
def AllZC : Prop := ∀ (s : ByteArray) (l : Lx.T) (ts : List Tz) (q x : Nat) (z : Int), s.size ≤ 1000000 → s.data.toList = l → allZ l = (ts, x, z) → q = ts.length → ∀ w : World,
  Calls Tryd.prog 21 #[.string s] w fun e w' => ∃ B d, e = .returned (.tuple #[.slice B q d, .int .i64 (x : Int), .int .i64 z]) ∧ Hid (Rz w' w'.heap.size B ts) ∧ Hid (Cap q d) ∧ Below w.heap.size w w'
theorem allz_of (h : AllTC) : AllZC := by
  intro s l ts q x z h1 h2 h3 h4 w
  unfold allZ at h3
  simp only [Prod.mk.injEq] at h3
  obtain ⟨rfl, rfl, rfl⟩ := h3
  refine (h s l (allT l).1 q (allT l).2.1 (allT l).2.2 h1 h2 rfl (by rw [h4, List.length_map]) w).mono ?_
  rintro e w1 ⟨B, d, he, hr, hc, hb⟩
  exact ⟨B, d, he, Lib.hid hr.out.z, hc, hb⟩
/-! ### what a parse bounds -/
theorem print_len {s : Sel} : (Sl.prS s).length ≤ 100000 := by
  unfold Sl.prS
  split
  · rename_i h
    unfold Sl.saneS at h
    simp only [Bool.and_eq_true, decide_eq_true_eq] at h
    obtain ⟨⟨h1, h2⟩, h3⟩ := h
    have nm : ∀ x : ByteArray, nameB x = true → x.data.toList.length ≤ 64 := by
      intro x hx
      unfold nameB nameL at hx
      rw [tl] at hx
      simp only [Bool.and_eq_true, decide_eq_true_eq] at hx
      exact hx.1.1.2
    have qt : ∀ l : Lx.T, (Lx.quote l).length ≤ 2 * l.length + 2 := by
      intro l
      have : (Lx.body l).length ≤ 2 * l.length := by
        induction l with
        | nil => simp [Lx.body]
        | cons c r ih =>
          show (Lx.esc c ++ Lx.body r).length ≤ _
          rw [List.length_append, List.length_cons]
          have : (Lx.esc c).length ≤ 2 := by
            unfold Lx.esc
            split
            · simp
            · split <;> simp
          omega
      unfold Lx.quote
      rw [List.length_cons, List.length_append]
      simp; omega
    have ms : ∀ (r : List Mt) (b : Bool), r.all Sl.mOk = true → (Sl.prM b r).length ≤ 1 + 200 * r.length := by
      intro r
      induction r with
      | nil => intro b _; simp [Sl.prM]
      | cons m r ih =>
        intro b hr
        simp only [List.all_cons, Bool.and_eq_true] at hr
        have := ih false hr.2
        have hm := hr.1
        unfold Sl.mOk at hm
        simp only [Bool.and_eq_true, decide_eq_true_eq] at hm
        have a1 := nm _ hm.1
        have a2 := qt m.2.1.data.toList
        have a3 : m.2.1.data.toList.length ≤ 64 := by rw [Array.length_toList]; exact hm.2
        show ((if b then 123 else 44) :: (Sl.mTxt m ++ Sl.prM false r)).length ≤ _
        rw [List.length_cons, List.length_append, List.length_cons]
        unfold Sl.mTxt
        rw [List.length_append, List.length_append, List.length_cons]
        have a4 : (if m.2.2 then [33] else ([] : Lx.T)).length ≤ 1 := by split <;> simp
        omega
    have n1 := nm _ h1
    rw [List.length_append]
    split
    · rw [List.length_nil]; omega
    · have := ms s.2 true h3
      omega
  · simp

theorem parse_at {l : List Tf} {i : Nat} : Sl.parse l (i : Int) = Sl.parseN l i := by
  unfold Sl.parse
  rw [if_neg (by omega)]
  congr 1
theorem name_size {N : ByteArray} {l : List Mt} (h : Sl.saneS (N, l) = true) : N.size ≤ 64 := by
  unfold Sl.saneS nameB nameL at h
  rw [tl] at h
  simp only [Bool.and_eq_true, decide_eq_true_eq] at h
  have := h.1.1.1.1.2
  rw [Array.length_toList] at this
  exact this
end Go.Proofs.YtgahahichplpkaaDoor
