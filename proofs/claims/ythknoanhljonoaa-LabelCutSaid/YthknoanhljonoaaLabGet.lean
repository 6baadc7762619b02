/-
  The walk of label.Get.
-/
import Derived.Test.YthknoanhljonoaaLabSane
namespace Go.Proofs.Ythknoanhljonoaa
open Go.RowKit Go.Proofs.Ythknoanhljonoaa.Lp

def gotV : Option ByteArray → Value
  | some V => .tuple #[.string V, .bool true]
  | none => .tuple #[.string ⟨#[]⟩, .bool false]
theorem get_hit : ∀ {l : List Pr} {i : Nat} {N V n : ByteArray}, l[i]? = some (N, V) → N = n → (∀ j p, j < i → l[j]? = some p → p.1 ≠ n) → getS l n = some V
  | [], i, _, _, _, h, _, _ => by simp at h
  | x :: r, 0, N, V, n, h, e, _ => by
    simp at h
    subst h
    unfold getS
    rw [List.find?_cons]
    simp [e]
  | x :: r, i + 1, N, V, n, h, e, hj => by
    have h0 := hj 0 x (by omega) rfl
    have := get_hit (l := r) (i := i) (N := N) (V := V) (n := n) (by simpa using h) e (fun j p hj' hp => hj (j + 1) p (by omega) (by simpa using hp))
    unfold getS at this ⊢
    rw [List.find?_cons]
    simp [h0]
    simpa using this
theorem get_miss {l : List Pr} {n : ByteArray} (h : ∀ (j : Nat) (p : Pr), l[j]? = some p → p.1 ≠ n) : getS l n = none := by
  rw [get_none]
  intro hm
  obtain ⟨p, hp, e⟩ := List.mem_map.1 hm
  obtain ⟨j, hj, rfl⟩ := List.mem_iff_getElem.1 hp
  exact h j _ (List.getElem?_eq_getElem hj) e
theorem beq_no {a b : ByteArray} (h : a ≠ b) : (a.toList == b.toList) = false := by rw [beq_tl]; simpa using h

set_option maxHeartbeats 1600000 in
theorem get_of (A : Option Addr) (c n : Nat) (l : List Pr) (hn : n = l.length) (nm : ByteArray) (o : Option ByteArray) (ho : getS (asL l) nm = o) (w : World) (hr : Rd w w.heap.size A l) :
    Calls Try.prog 14 #[.slice A n c, .string nm] w fun e w' => e = .returned (gotV o) ∧ Below w.heap.size w w' := by
  have HO := Lib.hid ho
  have HN := Lib.hid hn
  clear ho hn
  go_enter Try.func14, Try.ntmps14
  go_wp2_with fail
  refine (orNone_of A c n l HN.out _ hr).mono ?_
  rintro e w1 ⟨A', c', rfl, hr1, hw1⟩
  have hr1' := hr1.out
  have hlen := hr1'.len
  generalize asL l = m at HO hr1 hr1' hlen
  obtain ⟨k, hk⟩ : ∃ k, m.length = k := ⟨_, rfl⟩
  have HK := Lib.hid hk
  rw [hk] at hlen ⊢
  clear hk hr
  go_wp2_with fail
  go_loopg [7, 11] k (fun g _ s11 wx => ∃ i : Nat, i + g = k ∧ s11 = .int .i64 i ∧ Hid (∀ j p, j < i → m[j]? = some p → p.1 ≠ nm) ∧ Below w1.heap.size w1 wx)
  case atStart => exact ⟨0, by omega, rfl, Lib.hid (fun j _ hj => by omega), Below.refl _ _⟩
  case round =>
    obtain ⟨i, hi, rfl, HA, hwx⟩ := hrel
    cases gk with
    | zero =>
      obtain rfl : i = k := by omega
      have ho : o = none := by
        rw [← HO.out]
        refine get_miss fun j p hp => HA.out j p ?_ hp
        have := (List.getElem?_eq_some_iff.1 hp).1
        have := HK.out
        omega
      subst ho
      go_wp2_with fail
      go_ret2
      exact ⟨rfl, below_on hw1 hwx⟩
    | succ g =>
      have hlt : i < k := by omega
      have hltz : (i : Int) < (k : Int) := by omega
      obtain ⟨bk, off, rfl, hbk, hc⟩ := (hr1'.below hwx).all (by have := HK.out; omega)
      obtain ⟨N, V, hp⟩ := ex_at (l := m) (k := i) (by have := HK.out; omega)
      obtain ⟨c0, c1⟩ := hc _ _ hp
      have HP := Lib.hid hp
      clear hc hp hr1'
      have hbk' : bk < wr.heap.size := by have := hwx.size; omega
      by_cases he : N = nm
      · have ho : o = some V := by rw [← HO.out]; exact get_hit HP.out he HA.out
        subst ho
        have het : N.toList = nm.toList := by rw [he]
        clear he
        go_wp2_with fail
        go_ret2
        exact ⟨rfl, below_on hw1 (hwx.alloc hwx.size _)⟩
      · have heb := beq_no he
        have HE := Lib.hid he
        clear he
        go_wp2_with fail
        go_roundg g
        case measure => omega
        case rel => exact ⟨i + 1, by omega, by simp, Lib.hid (fun j p hj hp => by
          by_cases e : j = i
          · subst e; rw [HP.out] at hp; cases hp; exact HE.out
          · exact HA.out j p (by omega) hp), hwx.alloc hwx.size _⟩
end Go.Proofs.Ythknoanhljonoaa
