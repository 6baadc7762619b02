/-
  The walk of PutUint of layer codec, for the layers above: a copy by bytes.Clone, the groups one by one.
-/
import Derived.Test.YtmcmlfmfhljphaaFrCon
import Derived.Deep.DeepCutAuto
import Derived.Lib.AppendStr
namespace Go.Proofs.Ytmcmlfmfhljphaa
open Go.RowKit

theorem wrap8 {x : Nat} (h : x < 256) : IntKind.u8.wrap (x : Int) = (x : Int) := by rw [IntKind.wrap_u8']; omega
/-- Blocks that are no rows of octets stay as they are. -/
def Kq (w w' : World) : Prop := ∀ (k : Nat) (C : Array Value) (e : TypeId) (fr : Nat × Nat), e ≠ 5 → w.heap[k]? = some (.cells C e fr) → w'.heap[k]? = some (.cells C e fr)
theorem Kq.refl (w : World) : Kq w w := fun _ _ _ _ _ h => h
theorem Kq.trans {a b c : World} (h : Kq a b) (k : Kq b c) : Kq a c := fun i C e fr he hi => k i C e fr he (h i C e fr he hi)
theorem Kq.alloc {a b : World} (h : Kq a b) (o : Obj) : Kq a (b.alloc o) := fun i C e fr he hi => by
  have h1 := h i C e fr he hi
  rw [heap_alloc_old b o (Array.getElem?_eq_some_iff.1 h1).1]
  exact h1
theorem Kq.grown {w w' : World} {base : Nat} {v : Value} {l : List Nat} (h : OwnB w base v l) (hg : w.grownBy w' v.ownBlock) : Kq w w' := fun i C e fr he hi => by
  rw [hg.block i (Array.getElem?_eq_some_iff.1 hi).1 ?_]
  · exact hi
  · intro hk
    rcases h.2 with ⟨rfl, _⟩ | ⟨g, cap, cur, rfl, _, hgg, _⟩
    · simp [Value.ownBlock] at hk
    · simp only [Value.ownBlock, Option.some.injEq] at hk
      subst hk
      rw [hgg] at hi
      injection hi with hi
      injection hi with _ h2
      exact he h2.symm
theorem Kq.cell {w w' : World} (h : Kq w w') {k d : Nat} {C : Array Value} {e : TypeId} {fr : Nat × Nat} (hk : w.heap[k]? = some (.cells C e fr)) (he : e ≠ 5) : w'.cell? ⟨k, d, none⟩ = w.cell? ⟨k, d, none⟩ :=
  World.cell?_of_block ((h k C e fr he hk).trans hk.symm)
theorem wp_appk (w : World) {ops : Array Oper} {rest : List Oper} {o : Oper} {a : Act} {Q : Exit → Act → World → Prop} (hgd : o.guard = none) (s x : Operand)
    (ho : o.op = .call { callee := .builtin .append, args := #[s, x], argTypes := #[25, 25] })
    (base : Nat) (v : Value) (l m : List Nat) (hs : a.eval s = v) (hown : OwnB w base v l) (A : Addr) (n c : Nat) (hn : n = m.length) (hx : a.eval x = .slice (some A) n c) (hr : Rb w w.heap.size (some A) m)
    (hlen : l.length + m.length ≤ 8000000) (hbase : base ≤ w.heap.size)
    (h : ∀ v' w', OwnB w' base v' (l ++ m) → Below base w w' → Kq w w' → wpList Try.prog ops Q rest (a.put o.dst v') w') : wpList Try.prog ops Q (o :: rest) a w := by
  subst hn
  obtain ⟨i0, hi, hz0, hz1, hz2⟩ := info_parts info_oct
  refine wpList_append_own _ hgd s x 25 ho base 5 i0 _ 1 1 Try.underlying25 hi hz0 hz1 hz2 rfl (by decide) v l.length (vals l) hs hown A m.length c (vals m) hx (by rw [vals_len]; omega) ?_ (vals_one' m) (by unfold maxLen; omega) (by omega) hbase ?_
  · intro j u hj
    have hm : m ≠ [] := fun e => by subst e; simp [vals] at hj
    obtain ⟨b, off, e, _, hc⟩ := hr.mem hm
    cases e
    unfold vals at hj
    rw [List.getElem?_map] at hj
    obtain ⟨x, hx, rfl⟩ := Option.map_eq_some_iff.1 hj
    have := hc j x hx
    rwa [Addr.add_lit]
  · intro v' w' ho' hg _
    refine h v' w' ?_ ((Below.refl base w).grown hg hbase (OwnB.base hown)) (Kq.grown hown hg)
    unfold OwnB
    rw [vals_app, List.length_append]
    exact ho'
/-- A text behind a row of the call's own. -/
theorem put_end {w w' : World} {base : Nat} {v : Value} {m : List Nat} {k : Nat} (hk : k = m.length) (hown : OwnB w' base v m) (hm : m.length ≤ 9223372036854775807) (hs : ∀ x ∈ m, x < 256) (hb : Below w.heap.size w w') :
    ∃ A' c', Ending.returned v = .returned (.slice A' k c') ∧ Hid (Rb w' w'.heap.size A' m) ∧ Hid (Cap k c') ∧ Below w.heap.size w w' := by
  obtain ⟨A, c, hv⟩ := OwnB.slice hown
  subst hk hv
  exact ⟨A, c, rfl, Lib.hid (OwnB.rb hown hm hs), Lib.hid (OwnB.cap hown), hb⟩

set_option maxHeartbeats 1600000 in
theorem clone_of (A : Option Addr) (n c : Nat) (l : List Nat) (hn : n = l.length) (hl : l.length ≤ 4000000) (w : World) (hr : Rb w w.heap.size A l) :
    Calls Try.prog 15 #[.slice A n c] w fun e w' => ∃ v, e = .returned v ∧ Hid (OwnB w' w.heap.size v l) ∧ Below w.heap.size w w' := by
  have HN := Lib.hid hn
  clear hn
  have hl1 : ([] : List Nat).length + l.length ≤ 8000000 := by rw [List.length_nil]; omega
  go_enter Try.func15, Try.ntmps15
  cases A with
  | none =>
    have hm : l = [] := by
      cases l with
      | nil => rfl
      | cons p r => obtain ⟨b, off, e, _⟩ := hr.mem (by simp); cases e
    subst hm
    have heq := fun W => Lib.run_eql_slice_nil (P := Try.prog) W 25 5 none n c 0 0 Try.underlying25
    go_wp2_with fail
    go_ret
    exact ⟨_, rfl, Lib.hid (OwnB.nil _ _), Below.refl _ _⟩
  | some a =>
    have heq := fun W => Lib.run_eql_slice_nil (P := Try.prog) W 25 5 (some a) n c 0 0 Try.underlying25
    go_wp2_with (at_builtin; refine wp_app _ rfl _ _ rfl w.heap.size _ [] l rfl (ownB_made w) (some a) n c HN.out rfl (hr.on (below_alloc _ _)) hl1 (by simp) ?_; intro v1 w1 hown1 hb1)
    rw [List.nil_append] at hown1
    go_ret
    exact ⟨_, rfl, Lib.hid hown1, (below_alloc w (.cells #[] 5)).trans hb1⟩
set_option maxHeartbeats 3200000 in
theorem appU_of (base : Nat) (v : Value) (x : Nat) (l m : List Nat) (hx : x ≤ 1152921504606846976) (hm : l ++ Kc.enc x = m) (hl : l.length ≤ 4000000) (w : World) (hown : OwnB w base v l) (hbase : base ≤ w.heap.size) :
    Calls Try.prog 21 #[v, .int .i64 (x : Int)] w fun e w' => ∃ v', e = .returned v' ∧ Hid (OwnB w' base v' m) ∧ Below base w w' ∧ Hid (Kq w w') := by
  have HE := Lib.hid hm
  have HO := Lib.hid hown
  have hml : m.length ≤ 4000009 := by rw [← HE.out, List.length_append]; have := Kc.enc_len9 hx; omega
  have HML := Lib.hid hml
  clear hm hml hown
  go_enter Try.func21, Try.ntmps21
  go_wp2_with fail
  go_loopg [0, 1] x (fun g s0 s1 wx => ∃ (u : Nat) (o : List Nat), u = g ∧ u ≤ 1152921504606846976 ∧ s1 = .int .i64 u ∧ Hid (o ++ Kc.enc u = m) ∧ Hid (OwnB wx base s0 o) ∧ Below base w wx ∧ Hid (Kq w wx))
  case atStart => exact ⟨x, l, rfl, hx, rfl, HE, HO, Below.refl _ _, Lib.hid (Kq.refl _)⟩
  case round =>
    obtain ⟨u, o, rfl, hu, rfl, HU, HOo, hwx, HKp⟩ := hrel
    have hol : o.length ≤ 4000009 := by
      have h := congrArg List.length HU.out
      rw [List.length_append] at h
      have := HML.out
      omega
    by_cases h8 : u < 128
    · have h8z : ¬ (128 : Int) ≤ (u : Int) := by omega
      have hw8 := wrap8 (x := u) (by omega)
      have hl2 : o.length + [u].length ≤ 8000000 := by simp; omega
      have HU' : Hid (o ++ [u] = m) := Lib.hid (by rw [← HU.out, Kc.enc_lo h8])
      have hsz := hwx.size
      go_wp2_with (at_builtin; refine wp_appk _ rfl _ _ rfl base _ o [u] rfl (OwnB.alloc HOo.out _) _ 1 1 rfl rfl (rb_new wr _ _ (0, 0) [u] rfl (by simp) (by simp; omega)) hl2 (by show _ ≤ (wr.heap.push _).size; rw [Array.size_push]; omega) ?_; intro v4 w4 hown4 hb4 hk4)
      go_ret
      exact ⟨_, rfl, Lib.hid (HU'.out ▸ hown4), (hwx.alloc (by omega) _).trans hb4, Lib.hid ((HKp.out.alloc _).trans hk4)⟩
    · have h8z : (128 : Int) ≤ (u : Int) := by omega
      obtain ⟨q, hq⟩ : ∃ q, u / 128 = q := ⟨_, rfl⟩
      obtain ⟨r, hr⟩ : ∃ r, 128 + u % 128 = r := ⟨_, rfl⟩
      have hr8 : r < 256 := by omega
      have e1 : (u : Int) / 128 = (q : Int) := by omega
      have e2 : (128 : Int) + (u : Int) % 128 = (r : Int) := by omega
      have hw8 := wrap8 hr8
      have hl2 : o.length + [r].length ≤ 8000000 := by simp; omega
      have HU' : Hid ((o ++ [r]) ++ Kc.enc q = m) := Lib.hid (by rw [← HU.out, Kc.enc_hi h8, hq, hr]; simp)
      have hsz := hwx.size
      have hqu : q < u := by omega
      clear hq hr
      go_wp2_with (at_builtin; refine wp_appk _ rfl _ _ rfl base _ o [r] rfl (OwnB.alloc HOo.out _) _ 1 1 rfl rfl (rb_new wr _ _ (0, 0) [r] rfl (by simp) (by simp; omega)) hl2 (by show _ ≤ (wr.heap.push _).size; rw [Array.size_push]; omega) ?_; intro v4 w4 hown4 hb4 hk4)
      go_roundg q
      case measure => omega
      case rel => exact ⟨q, o ++ [r], rfl, by omega, by simp, HU', Lib.hid hown4, (hwx.alloc (by omega) _).trans hb4, Lib.hid ((HKp.out.alloc _).trans hk4)⟩
set_option maxHeartbeats 1600000 in
theorem putU_own (nz : Int) (A : Option Addr) (n c : Nat) (l m : List Nat) (_ : -9223372036854775808 ≤ nz) (_ : nz ≤ 9223372036854775807) (hn : n = l.length) (hl : l.length ≤ 4000000) (hm : Kc.putU l nz = m) (w : World) (hr : Rb w w.heap.size A l) :
    Calls Try.prog 16 #[.slice A n c, .int .i64 nz] w fun e w' => ∃ v, e = .returned v ∧ Hid (OwnB w' w.heap.size v m) ∧ Below w.heap.size w w' := by
  have HN := Lib.hid hn
  have HM := Lib.hid hm
  have HS := Lib.hid hr.small
  clear hn hm
  go_enter Try.func16, Try.ntmps16
  by_cases h0 : nz < 0
  · go_wp2_with fail
    refine (clone_of A n c l HN.out hl w hr).mono ?_
    rintro e w1 ⟨v, rfl, HO, hb⟩
    go_wp2_with fail
    go_ret
    have e : l = m := by rw [← HM.out, Kc.putU_no (by omega)]
    exact ⟨v, rfl, Lib.hid (e ▸ HO.out), hb⟩
  by_cases h1 : 1152921504606846976 < nz
  · go_wp2_with fail
    refine (clone_of A n c l HN.out hl w hr).mono ?_
    rintro e w1 ⟨v, rfl, HO, hb⟩
    go_wp2_with fail
    go_ret
    have e : l = m := by rw [← HM.out, Kc.putU_no (by omega)]
    exact ⟨v, rfl, Lib.hid (e ▸ HO.out), hb⟩
  obtain ⟨x, rfl⟩ : ∃ x : Nat, nz = (x : Int) := ⟨nz.toNat, by omega⟩
  have hx : x ≤ 1152921504606846976 := by omega
  have HE : Hid (l ++ Kc.enc x = m) := Lib.hid (by rw [← HM.out, Kc.putU_ok hx])
  have HML : Hid (m.length ≤ 4000009) := Lib.hid (by rw [← HE.out, List.length_append]; have := Kc.enc_len9 hx; omega)
  have HMs : Hid (∀ y ∈ m, y < 256) := Lib.hid (by
    rw [← HE.out]
    intro y hy
    rcases List.mem_append.1 hy with hy | hy
    · exact HS.out y hy
    · exact Kc.enc_small _ y hy)
  go_wp2_with fail
  refine (clone_of A n c l HN.out hl w hr).mono ?_
  rintro e w1 ⟨v, rfl, HO, hb⟩
  go_wp2_with fail
  refine (appU_of w.heap.size v x l m hx HE.out hl w1 HO.out hb.size).mono ?_
  rintro e w2 ⟨v2, rfl, HO2, hb2, _⟩
  go_wp2_with fail
  go_ret
  exact ⟨v2, rfl, HO2, hb.trans hb2⟩
theorem putU_of : PutUC := by
  intro nz A n c l m k hz1 hz2 hn hl _ hm hk w hr
  have hs := hr.small
  refine (putU_own nz A n c l m hz1 hz2 hn hl hm w hr).mono ?_
  rintro e w' ⟨v, rfl, HO, hb⟩
  have hml : m.length ≤ 4000009 ∧ ∀ y ∈ m, y < 256 := by
    by_cases h : 0 ≤ nz ∧ nz ≤ 1152921504606846976
    · obtain ⟨x, rfl⟩ : ∃ x : Nat, nz = (x : Int) := ⟨nz.toNat, by omega⟩
      have hx : x ≤ 1152921504606846976 := by omega
      rw [← hm, Kc.putU_ok hx]
      refine ⟨by rw [List.length_append]; have := Kc.enc_len9 hx; omega, fun y hy => ?_⟩
      rcases List.mem_append.1 hy with hy | hy
      · exact hs y hy
      · exact Kc.enc_small _ y hy
    · rw [← hm, Kc.putU_no (by omega)]
      exact ⟨by omega, hs⟩
  exact put_end hk HO.out (by omega) hml.2 hb
end Go.Proofs.Ytmcmlfmfhljphaa
