/-
  The walk of layer codec's law CodecMany: it answers true; how a slice of whole numbers reads in memory.
-/
import Derived.Test.YtnieojdlmanckaaCodLaw
namespace Go.Proofs.Ytnieojdlmanckaa
open Go.RowKit Go.Proofs.Ytnieojdlmanckaa.Lp

/-- A slice (its address A) holds the whole numbers l, in blocks below B. -/
structure Ri (w : World) (B : Nat) (A : Option Addr) (l : List Int) : Prop where
  len : l.length ≤ 9223372036854775807
  small : ∀ x ∈ l, -9223372036854775808 ≤ x ∧ x ≤ 9223372036854775807
  mem : l ≠ [] → ∃ b off, A = some ⟨b, off, none⟩ ∧ b < B ∧ ∀ j u, l[j]? = some u → w.cell? ⟨b, off + j, none⟩ = some (.int .i64 u)
theorem Ri.none_ (w : World) (B : Nat) (A : Option Addr) : Ri w B A [] := ⟨by simp, by simp, fun h => absurd rfl h⟩
theorem Ri.on {w w' : World} {A : Option Addr} {l : List Int} (h : Ri w w.heap.size A l) (hb : Below w.heap.size w w') : Ri w' w'.heap.size A l :=
  ⟨h.len, h.small, fun hn => by
    obtain ⟨b, off, e, hlt, hc⟩ := h.mem hn
    exact ⟨b, off, e, by have := hb.size; omega, fun j u hu => (hb.cell hlt).trans (hc j u hu)⟩⟩
theorem Ri.at_ {w : World} {B : Nat} {A : Option Addr} {l : List Int} (h : Ri w B A l) {k : Nat} (hk : k < l.length) :
    ∃ b off, A = some ⟨b, off, none⟩ ∧ b < B ∧ w.cell? ⟨b, off + k, none⟩ = some (.int .i64 l[k]) := by
  have hn : l ≠ [] := fun e => by subst e; simp at hk
  obtain ⟨b, off, e, hb, hc⟩ := h.mem hn
  exact ⟨b, off, e, hb, hc _ _ (List.getElem?_eq_getElem hk)⟩

def encs (l : List Int) : List Nat := l.flatMap fun i => Kc.enc (Kc.zig i)
def within (i : Int) : Prop := -576460752303423488 ≤ i ∧ i ≤ 576460752303423488
theorem encs_snoc (l : List Int) (i : Int) : encs (l ++ [i]) = encs l ++ Kc.enc (Kc.zig i) := by simp [encs]
theorem encs_cons (l : List Int) (i : Int) : encs (i :: l) = Kc.enc (Kc.zig i) ++ encs l := rfl
theorem encs_len : ∀ {l : List Int}, (∀ i ∈ l, within i) → (encs l).length ≤ 9 * l.length
  | [], _ => by simp [encs]
  | i :: r, h => by
    have ih := encs_len (l := r) (fun q hq => h q (by simp [hq]))
    have := Kc.enc_len9 (Kc.zig_le (h i (by simp)))
    rw [encs_cons, List.length_append, List.length_cons]
    omega
set_option maxHeartbeats 6400000 in
theorem codecMany_any (H : Cod) (A : Option Addr) (c n : Nat) (l : List Int) (w : World) (hn : n = l.length) (hr : Ri w w.heap.size A l) :
    Calls Try.prog 7 #[.slice A n c] w fun e w' => e = .returned (.bool true) ∧ Below w.heap.size w w' := by
  have HN := Lib.hid hn
  have HR := Lib.hid hr
  have hlen : n ≤ 9223372036854775807 := by rw [hn]; exact hr.len
  clear hn hr
  obtain ⟨N, hN⟩ : ∃ N, min n 50 = N := ⟨_, rfl⟩
  have hN1 : N ≤ 50 := by omega
  have hN2 : N ≤ n := by omega
  have hN3 : N < 50 → N = n := by omega
  clear hN
  go_enter Try.func7, Try.ntmps7
  go_wp2_with fail
  refine (awake_any H _).mono ?_
  rintro e w1 ⟨rfl, hb1⟩
  go_wp2_with fail
  go_loopg [4, 5] N (fun g s4 s5 wx => ∃ (i k c' : Nat) (X : Option Addr), i + g = N ∧ s5 = .int .i64 i ∧ s4 = .slice X k c' ∧ Hid (k = (encs (l.take i)).length) ∧ Hid (Cap k c') ∧ Hid (Rb wx wx.heap.size X (encs (l.take i))) ∧ Hid (∀ x ∈ l.take i, within x) ∧ Below w.heap.size w wx)
  case atStart => exact ⟨0, 0, 0, none, by omega, rfl, rfl, Lib.hid (by simp [encs]), Lib.hid cap0, Lib.hid (by rw [List.take_zero]; exact Rb.none_ _ _ _), Lib.hid (by simp), hb1⟩
  case round =>
    obtain ⟨i, k, c', X, hi, rfl, rfl, HK, HC, HX, HW, hwx⟩ := hrel
    cases gk with
    | zero =>
      obtain rfl : i = N := by omega
      have HDi : Hid (l.take i = (l.take i).drop 0) := Lib.hid (by rw [List.drop_zero])
      have HLt : Hid ((l.take i).length = i) := Lib.hid (by rw [List.length_take]; have := HN.out; omega)
      obtain ⟨L, hL⟩ : ∃ L, l.take i = L := ⟨_, rfl⟩
      have HLL : Hid (∀ j, j < i → l[j]? = L[j]?) := Lib.hid (fun j hj => by rw [← hL, List.getElem?_take, if_pos hj])
      rw [hL] at HK HX HW HDi HLt
      clear hL
      rcases (show (((i : Int) < (n : Int)) ∧ ¬ ((i : Int) < 50)) ∨ ¬ ((i : Int) < (n : Int)) by omega) with ⟨h1, h2⟩ | h1 <;> go_wp2_with fail
      all_goals (
        go_loopg [4, 6] i (fun g s4 s6 wy => ∃ (j k c' : Nat) (X : Option Addr), j + g = i ∧ s6 = .int .i64 j ∧ s4 = .slice X k c' ∧ Hid (k = (encs (L.drop j)).length) ∧ Hid (Cap k c') ∧ Hid (Rb wy wy.heap.size X (encs (L.drop j))) ∧ Below w.heap.size w wy)
        case atStart => exact ⟨0, k, c', X, by omega, rfl, rfl, by rw [List.drop_zero]; exact HK, HC, by rw [List.drop_zero]; exact HX, hwx⟩
        case round =>
          obtain ⟨j, k, c', X, hj, rfl, rfl, HK, HC, HX, hwy⟩ := hrel
          cases gk with
          | zero =>
            obtain rfl : j = i := by omega
            have hk0 : k = 0 := by
              rw [HK.out, List.drop_eq_nil_of_le (by have := HLt.out; omega)]; rfl
            subst hk0
            first
            | (go_wp2_with fail
               go_ret
               exact ⟨rfl, hwy⟩)
          | succ g =>
            have hjn : (j : Int) < (n : Int) := by omega
            have hj50 : (j : Int) < 50 := by omega
            have hjl : j < l.length := by have := HN.out; omega
            have hjL : j < L.length := by have := HLt.out; omega
            obtain ⟨v, hv⟩ : ∃ v, L[j] = v := ⟨_, rfl⟩
            have hlv : l[j] = v := by
              have := HLL.out j (by omega)
              rw [List.getElem?_eq_getElem hjl, List.getElem?_eq_getElem hjL, hv] at this
              exact Option.some.inj this
            have hvw : within v := HW.out v (by rw [← hv]; exact List.getElem_mem hjL)
            have HE : Hid (encs (L.drop j) = Kc.enc (Kc.zig v) ++ encs (L.drop (j + 1))) := Lib.hid (by rw [List.drop_eq_getElem_cons hjL, encs_cons, hv])
            have HG : Hid (Kc.getI (encs (L.drop j)) = (v, encs (L.drop (j + 1)), 0)) := Lib.hid (by rw [HE.out]; exact Kc.getI_enc hvw _)
            obtain ⟨k2, hk2⟩ : ∃ k2, (encs (L.drop (j + 1))).length = k2 := ⟨_, rfl⟩
            have HK2 := Lib.hid hk2.symm
            clear hk2 hv
            have HLV := Lib.hid hlv
            clear hlv
            go_wp2_with fail
            refine (H.getI X k c' _ _ v k2 0 HK.out HC.out HG.out HK2.out _ HX.out).mono ?_
            rintro e w2 ⟨A2, c2, rfl, HR2, HC2, hw2⟩
            have hb2 := below_on hwy hw2
            clear hw2
            obtain ⟨bk, off, rfl, hbk, hc0⟩ := (HR.out.on hb2).at_ hjl
            rw [HLV.out] at hc0
            have hvv : (v == v) = true := by simp
            go_wp2_with fail
            go_roundg g
            case measure => omega
            case rel => exact ⟨j + 1, k2, c2, A2, by omega, by simp, rfl, HK2, HC2, HR2, hb2⟩)
    | succ g =>
      have hlt : i < n := by omega
      have hltz : (i : Int) < (n : Int) := by omega
      have h50 : (i : Int) < 50 := by omega
      have hil : i < l.length := by have := HN.out; omega
      obtain ⟨bk, off, rfl, hbk, hc0⟩ := (HR.out.on hwx).at_ hil
      obtain ⟨v, hv⟩ : ∃ v, l[i] = v := ⟨_, rfl⟩
      rw [hv] at hc0
      have hvb := HR.out.small v (by rw [← hv]; exact List.getElem_mem hil)
      have HT : Hid (l.take (i + 1) = l.take i ++ [v]) := Lib.hid (by rw [List.take_succ_eq_append_getElem hil, hv])
      clear hv
      by_cases h1 : v < -576460752303423488
      · go_wp2_with fail
        go_ret
        exact ⟨rfl, hwx⟩
      by_cases h2 : 576460752303423488 < v
      · go_wp2_with fail
        go_ret
        exact ⟨rfl, hwx⟩
      have hwi : within v := ⟨by omega, by omega⟩
      have hb9 := encs_len HW.out
      rw [List.length_take] at hb9
      obtain ⟨k2, hk2⟩ : ∃ k2, (encs (l.take (i + 1))).length = k2 := ⟨_, rfl⟩
      have HK2 := Lib.hid hk2.symm
      have HW2 : Hid (∀ x ∈ l.take (i + 1), within x) := Lib.hid (by
        rw [HT.out]
        intro x hx
        rcases List.mem_append.1 hx with hx | hx
        · exact HW.out x hx
        · simp at hx; subst hx; exact hwi)
      have HP : Hid (Kc.putI (encs (l.take i)) v = encs (l.take (i + 1))) := Lib.hid (by rw [Kc.putI_ok hwi, HT.out, encs_snoc])
      have HB : Hid ((encs (l.take i)).length ≤ 4000000) := Lib.hid (by omega)
      clear hk2 hb9
      go_wp2_with fail
      refine (H.putI v X k c' (encs (l.take i)) _ k2 hvb.1 hvb.2 HK.out HB.out HC.out HP.out HK2.out _ HX.out).mono ?_
      rintro e w2 ⟨A2, c2, rfl, HR2, HC2, hw2⟩
      have hb2 := below_on hwx hw2
      clear hw2
      go_wp2_with fail
      go_roundg g
      case measure => omega
      case rel => exact ⟨i + 1, k2, c2, A2, by omega, by simp, rfl, HK2, HC2, HR2, HW2, hb2⟩
end Go.Proofs.Ytnieojdlmanckaa
