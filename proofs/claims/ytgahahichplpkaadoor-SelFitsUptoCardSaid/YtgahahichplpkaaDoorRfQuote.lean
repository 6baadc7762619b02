/-
  The walk of the document's Quote of layer lex, for the layers above.
-/
import Derived.Test.YtgahahichplpkaaDoorOct
import Derived.Test.YtgahahichplpkaaDoorLexFacts
import Derived.Deep.DeepCutAuto
namespace Go.Proofs.YtgahahichplpkaaDoor
open Go.RowKit

def nb (l : Lx.T) : List Nat := l.map UInt8.toNat
theorem nb_small (l : Lx.T) : ∀ x ∈ nb l, x < 256 := by
  intro x hx
  obtain ⟨c, _, rfl⟩ := List.mem_map.1 hx
  exact UInt8.toNat_lt c
theorem nb_app (a b : Lx.T) : nb (a ++ b) = nb a ++ nb b := List.map_append
theorem nb_len (l : Lx.T) : (nb l).length = l.length := List.length_map _
theorem tx_nb (l : Lx.T) : (Kc.tx (nb l)).data.toList = l := by
  unfold Kc.tx nb
  rw [List.map_map]
  show List.map (UInt8.ofNat ∘ UInt8.toNat) l = l
  conv => rhs; rw [← List.map_id l]
  exact List.map_congr_left fun x _ => by simp
theorem body_snoc (s : ByteArray) (k : Nat) (h : k < s.size) : Lx.body (s.data.toList.take (k + 1)) = Lx.body (s.data.toList.take k) ++ Lx.esc (s[k]'h) := by
  have e : s.data.toList.take (k + 1) = s.data.toList.take k ++ [s[k]'h] := by
    have h' : k < s.data.toList.length := by rw [Array.length_toList]; exact h
    rw [List.take_add_one, List.getElem?_eq_getElem h']
    rfl
  rw [e]
  unfold Lx.body
  rw [List.flatMap_append]
  simp
theorem body_len (l : Lx.T) : (Lx.body l).length ≤ 2 * l.length := by
  induction l with
  | nil => simp [Lx.body]
  | cons c r ih =>
    show (Lx.esc c ++ Lx.body r).length ≤ _
    rw [List.length_append, List.length_cons]
    have : (Lx.esc c).length ≤ 2 := by
      unfold Lx.esc
      split
      · simp
      · split <;> simp
    omega
theorem ownB_one (w : World) (x : Nat) (base : Nat) (hb : base ≤ w.heap.size) : OwnB (w.alloc (.cells #[oct x] 5)) base (.slice (some ⟨w.heap.size, 0, none⟩) 1 1) [x] :=
  ⟨rfl, .inr ⟨w.heap.size, 1, #[oct x], rfl, hb, heap_alloc_new w _, Nat.le_refl _, by unfold maxLen; omega, rfl, rfl⟩⟩
set_option maxHeartbeats 6400000 in
theorem rquote_of (s S : ByteArray) (hs : s.size ≤ 1000000) (hS : S.data.toList = Lx.quote s.data.toList) (w : World) :
    Calls Tryd.prog 38 #[.string s] w fun e w' => e = .returned (.string S) ∧ Below w.heap.size w w' := by
  have HS := Lib.hid hS
  obtain ⟨n, hn⟩ : ∃ n, s.size = n := ⟨_, rfl⟩
  have hn1 : n ≤ 1000000 := by omega
  clear hS
  go_enter Tryd.func38, Tryd.ntmps38
  go_wp2_with fail
  go_loopg [3, 4] n (fun g s3 s4 wx => ∃ i : Nat, i + g = n ∧ s4 = .int .i64 i ∧ Hid (OwnB wx w.heap.size s3 (nb (34 :: Lx.body (s.data.toList.take i)))) ∧ Below w.heap.size w wx)
  case atStart => exact ⟨0, by omega, rfl, Lib.hid (ownB_one w 34 w.heap.size (Nat.le_refl _)), below_alloc w _⟩
  case round =>
    obtain ⟨i, hi, rfl, HO, hwx⟩ := hrel
    have hlen : (nb (34 :: Lx.body (s.data.toList.take i))).length ≤ 2 * i + 1 := by
      rw [nb_len, List.length_cons]
      have := body_len (s.data.toList.take i)
      rw [List.length_take] at this
      omega
    obtain ⟨out, hout⟩ : ∃ out, nb (34 :: Lx.body (s.data.toList.take i)) = out := ⟨_, rfl⟩
    rw [hout] at hlen HO
    have HOut := Lib.hid hout
    clear hout
    cases gk with
    | zero =>
      obtain rfl : i = n := by omega
      obtain ⟨A, c, hv⟩ := OwnB.slice HO.out
      subst hv
      obtain ⟨T, hT⟩ : ∃ T, Kc.tx out = T := ⟨_, rfl⟩
      have hsm : ∀ x ∈ out, x < 256 := by rw [← HOut.out]; exact nb_small _
      have hcv := conv_rb (n := out.length) (c := c) rfl (OwnB.rb HO.out (by omega) hsm) hT
      have hTl : T.data.toList = 34 :: Lx.body s.data.toList := by
        rw [← hT, ← HOut.out, tx_nb, List.take_of_length_le (by rw [Array.length_toList]; exact Nat.le_of_eq hn)]
      have hTs : T.size ≤ 9000000 := by
        show T.data.size ≤ _
        rw [← Array.length_toList, hTl, List.length_cons]
        have hbl := body_len s.data.toList
        have hsl : s.data.toList.length = i := by rw [Array.length_toList]; exact hn
        rw [hsl] at hbl
        omega
      have HTl := Lib.hid hTl
      clear hT hTl hsm
      obtain ⟨m, hm⟩ : ∃ m, out.length = m := ⟨_, rfl⟩
      rw [hm] at hcv ⊢
      clear hm
      go_wp2_with fail
      go_ret
      refine ⟨?_, hwx⟩
      have : T ++ (⟨#[34]⟩ : ByteArray) = S := by
        apply Lp.ext
        rw [Lp.tl, Lp.tl, HS.out, ByteArray.data_append]
        simp [HTl.out, Lx.quote]
      rw [← this]
      rfl
    | succ g =>
      have hlt : i < s.size := by omega
      have hltz : (i : Int) < (n : Int) := by omega
      obtain ⟨c, hc⟩ : ∃ c, s[i]'hlt = c := ⟨_, rfl⟩
      have HB : Hid (nb (34 :: Lx.body (s.data.toList.take (i + 1))) = out ++ nb (Lx.esc c)) := Lib.hid (by
        rw [body_snoc s i hlt, hc, ← HOut.out, ← nb_app]; rfl)
      have hc8 := UInt8.toNat_lt c
      have hsz := hwx.size
      by_cases h92 : c.toNat = 92
      · have e : nb (Lx.esc c) = [92, 92] := by unfold Lx.esc; rw [if_pos (.inl h92)]; simp [nb, h92]
        rw [e] at HB
        have hz : ((c.toNat : Int) == 92) = true := by simp; omega
        have hl : out.length + ([92, 92] : List Nat).length ≤ 8000000 := by simp; omega
        clear e
        go_wp2_with (at_builtin; refine wp_app _ rfl _ _ rfl w.heap.size _ out [92, 92] rfl (OwnB.alloc HO.out _) _ 2 2 rfl rfl (rb_new wr _ _ (0, 0) [92, 92] rfl (by simp) (by simp; try omega)) hl (by show _ ≤ (wr.heap.push _).size; rw [Array.size_push]; omega) ?_; intro v4 w4 hown4 hb4)
        go_roundg g
        case measure => omega
        case rel => exact ⟨i + 1, by omega, by simp, Lib.hid (HB.out ▸ hown4), (hwx.alloc hsz _).trans hb4⟩
      by_cases h34 : c.toNat = 34
      · have e : nb (Lx.esc c) = [92, 34] := by unfold Lx.esc; rw [if_pos (.inr h34)]; simp [nb, h34]
        rw [e] at HB
        have hz : ((c.toNat : Int) == 92) = false := by simp; omega
        have hz2 : ((c.toNat : Int) == 34) = true := by simp; omega
        have hl : out.length + ([92, 34] : List Nat).length ≤ 8000000 := by simp; omega
        clear e
        go_wp2_with (at_builtin; refine wp_app _ rfl _ _ rfl w.heap.size _ out [92, 34] rfl (OwnB.alloc HO.out _) _ 2 2 rfl rfl (rb_new wr _ _ (0, 0) [92, 34] rfl (by simp) (by simp; try omega)) hl (by show _ ≤ (wr.heap.push _).size; rw [Array.size_push]; omega) ?_; intro v4 w4 hown4 hb4)
        go_roundg g
        case measure => omega
        case rel => exact ⟨i + 1, by omega, by simp, Lib.hid (HB.out ▸ hown4), (hwx.alloc hsz _).trans hb4⟩
      by_cases h10 : c.toNat = 10
      · have e : nb (Lx.esc c) = [92, 110] := by unfold Lx.esc; rw [if_neg (by omega), if_pos h10]; simp [nb]
        rw [e] at HB
        have hz : ((c.toNat : Int) == 92) = false := by simp; omega
        have hz2 : ((c.toNat : Int) == 34) = false := by simp; omega
        have hz3 : ((c.toNat : Int) == 10) = true := by simp; omega
        have hl : out.length + ([92, 110] : List Nat).length ≤ 8000000 := by simp; omega
        clear e
        go_wp2_with (at_builtin; refine wp_app _ rfl _ _ rfl w.heap.size _ out [92, 110] rfl (OwnB.alloc HO.out _) _ 2 2 rfl rfl (rb_new wr _ _ (0, 0) [92, 110] rfl (by simp) (by simp; try omega)) hl (by show _ ≤ (wr.heap.push _).size; rw [Array.size_push]; omega) ?_; intro v4 w4 hown4 hb4)
        go_roundg g
        case measure => omega
        case rel => exact ⟨i + 1, by omega, by simp, Lib.hid (HB.out ▸ hown4), (hwx.alloc hsz _).trans hb4⟩
      by_cases hno : False
      · exact hno.elim
      · have e : nb (Lx.esc c) = [c.toNat] := by unfold Lx.esc; rw [if_neg (by omega), if_neg h10]; rfl
        rw [e] at HB
        have hz : ((c.toNat : Int) == 92) = false := by simp; omega
        have hz2 : ((c.toNat : Int) == 34) = false := by simp; omega
        have hz3 : ((c.toNat : Int) == 10) = false := by simp; omega
        clear h92 h34 h10
        have hl : out.length + ([c.toNat] : List Nat).length ≤ 8000000 := by simp; omega
        clear e
        go_wp2_with (at_builtin; refine wp_app _ rfl _ _ rfl w.heap.size _ out [c.toNat] rfl (OwnB.alloc HO.out _) _ 1 1 rfl rfl (rb_new wr _ _ (0, 0) [c.toNat] rfl (by simp) (by simp; try omega)) hl (by show _ ≤ (wr.heap.push _).size; rw [Array.size_push]; omega) ?_; intro v4 w4 hown4 hb4)
        go_roundg g
        case measure => omega
        case rel => exact ⟨i + 1, by omega, by simp, Lib.hid (HB.out ▸ hown4), (hwx.alloc hsz _).trans hb4⟩
end Go.Proofs.YtgahahichplpkaaDoor
