/-
  The walks of the four calls of layer codec that put: a copy by bytes.Clone, the groups one by one, a text behind its size, the pairs one behind the other.
-/
import Derived.Test.YtnieojdlmanckaaCodLaw
import Derived.Deep.DeepCutAuto
import Derived.Lib.AppendStr
namespace Go.Proofs.Ytnieojdlmanckaa
open Go.RowKit Go.Proofs.Ytnieojdlmanckaa.Lp

theorem wrap8 {x : Nat} (h : x < 256) : IntKind.u8.wrap (x : Int) = (x : Int) := by rw [IntKind.wrap_u8']; omega
theorem str_vals (s : ByteArray) : Lib.strCells s = vals (Kc.bs s) := by
  unfold Lib.strCells vals Kc.bs oct
  rw [List.map_map]; rfl
/-- Blocks that are no rows of octets stay as they are. -/
def Kp (w w' : World) : Prop := ∀ (k : Nat) (C : Array Value) (e : TypeId) (fr : Nat × Nat), e ≠ 5 → w.heap[k]? = some (.cells C e fr) → w'.heap[k]? = some (.cells C e fr)
theorem Kp.refl (w : World) : Kp w w := fun _ _ _ _ _ h => h
theorem Kp.trans {a b c : World} (h : Kp a b) (k : Kp b c) : Kp a c := fun i C e fr he hi => k i C e fr he (h i C e fr he hi)
theorem Kp.alloc {a b : World} (h : Kp a b) (o : Obj) : Kp a (b.alloc o) := fun i C e fr he hi => by
  have h1 := h i C e fr he hi
  rw [heap_alloc_old b o (Array.getElem?_eq_some_iff.1 h1).1]
  exact h1
theorem Kp.grown {w w' : World} {base : Nat} {v : Value} {l : List Nat} (h : OwnB w base v l) (hg : w.grownBy w' v.ownBlock) : Kp w w' := fun i C e fr he hi => by
  rw [hg.block i (Array.getElem?_eq_some_iff.1 hi).1 ?_]
  · exact hi
  · intro hk
    rcases h.2 with ⟨rfl, _⟩ | ⟨g, cap, cur, rfl, _, hgg, _⟩
    · simp [Value.ownBlock] at hk
    · simp only [Value.ownBlock, Option.some.injEq] at hk
      subst hk
      rw [hgg] at hi
      injection hi with hi
      injection hi with _ h2
      exact he h2.symm
theorem Kp.cell {w w' : World} (h : Kp w w') {k d : Nat} {C : Array Value} {e : TypeId} {fr : Nat × Nat} (hk : w.heap[k]? = some (.cells C e fr)) (he : e ≠ 5) : w'.cell? ⟨k, d, none⟩ = w.cell? ⟨k, d, none⟩ :=
  World.cell?_of_block ((h k C e fr he hk).trans hk.symm)
theorem wp_appk (w : World) {ops : Array Oper} {rest : List Oper} {o : Oper} {a : Act} {Q : Exit → Act → World → Prop} (hgd : o.guard = none) (s x : Operand)
    (ho : o.op = .call { callee := .builtin .append, args := #[s, x], argTypes := #[23, 23] })
    (base : Nat) (v : Value) (l m : List Nat) (hs : a.eval s = v) (hown : OwnB w base v l) (A : Addr) (n c : Nat) (hn : n = m.length) (hx : a.eval x = .slice (some A) n c) (hr : Rb w w.heap.size (some A) m)
    (hlen : l.length + m.length ≤ 8000000) (hbase : base ≤ w.heap.size)
    (h : ∀ v' w', OwnB w' base v' (l ++ m) → Below base w w' → Kp w w' → wpList Try.prog ops Q rest (a.put o.dst v') w') : wpList Try.prog ops Q (o :: rest) a w := by
  subst hn
  obtain ⟨i0, hi, hz0, hz1, hz2⟩ := info_parts info_oct
  refine wpList_append_own _ hgd s x 23 ho base 5 i0 _ 1 1 Try.underlying23 hi hz0 hz1 hz2 rfl (by decide) v l.length (vals l) hs hown A m.length c (vals m) hx (by rw [vals_len]; omega) ?_ (vals_one' m) (by unfold maxLen; omega) (by omega) hbase ?_
  · intro j u hj
    have hm : m ≠ [] := fun e => by subst e; simp [vals] at hj
    obtain ⟨b, off, e, _, hc⟩ := hr.mem hm
    cases e
    unfold vals at hj
    rw [List.getElem?_map] at hj
    obtain ⟨x, hx, rfl⟩ := Option.map_eq_some_iff.1 hj
    have := hc j x hx
    rwa [Addr.add_lit]
  · intro v' w' ho' hg _
    refine h v' w' ?_ ((Below.refl base w).grown hg hbase (OwnB.base hown)) (Kp.grown hown hg)
    unfold OwnB
    rw [vals_app, List.length_append]
    exact ho'
/-- A text behind a row of the call's own. -/
theorem wp_apps (w : World) {ops : Array Oper} {rest : List Oper} {o : Oper} {a : Act} {Q : Exit → Act → World → Prop} (hgd : o.guard = none) (s x : Operand)
    (ho : o.op = .call { callee := .builtin .append, args := #[s, x], argTypes := #[23, 9] })
    (base : Nat) (v : Value) (l : List Nat) (hs : a.eval s = v) (hown : OwnB w base v l) (S : ByteArray) (hx : a.eval x = .string S)
    (hlen : l.length + S.size ≤ 8000000) (hbase : base ≤ w.heap.size)
    (h : ∀ v' w', OwnB w' base v' (l ++ Kc.bs S) → Below base w w' → Kp w w' → wpList Try.prog ops Q rest (a.put o.dst v') w') : wpList Try.prog ops Q (o :: rest) a w := by
  obtain ⟨i0, hi, hz0, hz1, hz2⟩ := info_parts info_oct
  refine Lib.wpList_append_own_string w hgd s x 23 9 ho base 5 i0 Try.underlying23 Try.underlying9 hi hz0 hz1 hz2 v l.length (vals l) hs hown S hx (by unfold maxLen; omega) (by omega) hbase ?_
  intro v' w' ho' hg _
  refine h v' w' ?_ ((Below.refl base w).grown hg hbase (OwnB.base hown)) (Kp.grown hown hg)
  unfold OwnB
  rw [vals_app, List.length_append, Kc.bs_len, ← str_vals]
  exact ho'
/-- A row of the call's own is the answer. -/
theorem put_end {w w' : World} {base : Nat} {v : Value} {m : List Nat} {k : Nat} (hk : k = m.length) (hown : OwnB w' base v m) (hm : m.length ≤ 9223372036854775807) (hs : ∀ x ∈ m, x < 256) (hb : Below w.heap.size w w') :
    ∃ A' c', Ending.returned v = .returned (.slice A' k c') ∧ Hid (Rb w' w'.heap.size A' m) ∧ Hid (Cap k c') ∧ Below w.heap.size w w' := by
  obtain ⟨A, c, hv⟩ := OwnB.slice hown
  subst hk hv
  exact ⟨A, c, rfl, Lib.hid (OwnB.rb hown hm hs), Lib.hid (OwnB.cap hown), hb⟩

set_option maxHeartbeats 1600000 in
theorem clone_of (A : Option Addr) (n c : Nat) (l : List Nat) (hn : n = l.length) (hl : l.length ≤ 4000000) (w : World) (hr : Rb w w.heap.size A l) :
    Calls Try.prog 23 #[.slice A n c] w fun e w' => ∃ v, e = .returned v ∧ Hid (OwnB w' w.heap.size v l) ∧ Below w.heap.size w w' := by
  have HN := Lib.hid hn
  clear hn
  have hl1 : ([] : List Nat).length + l.length ≤ 8000000 := by rw [List.length_nil]; omega
  go_enter Try.func23, Try.ntmps23
  cases A with
  | none =>
    have hm : l = [] := by
      cases l with
      | nil => rfl
      | cons p r => obtain ⟨b, off, e, _⟩ := hr.mem (by simp); cases e
    subst hm
    have heq := fun W => Lib.run_eql_slice_nil (P := Try.prog) W 23 5 none n c 0 0 Try.underlying23
    go_wp2_with fail
    go_ret
    exact ⟨_, rfl, Lib.hid (OwnB.nil _ _), Below.refl _ _⟩
  | some a =>
    have heq := fun W => Lib.run_eql_slice_nil (P := Try.prog) W 23 5 (some a) n c 0 0 Try.underlying23
    go_wp2_with (at_builtin; refine wp_app _ rfl _ _ rfl w.heap.size _ [] l rfl (ownB_made w) (some a) n c HN.out rfl (hr.on (below_alloc _ _)) hl1 (by simp) ?_; intro v1 w1 hown1 hb1)
    rw [List.nil_append] at hown1
    go_ret
    exact ⟨_, rfl, Lib.hid hown1, (below_alloc w (.cells #[] 5)).trans hb1⟩
set_option maxHeartbeats 3200000 in
theorem appU_of (base : Nat) (v : Value) (x : Nat) (l m : List Nat) (hx : x ≤ 1152921504606846976) (hm : l ++ Kc.enc x = m) (hl : l.length ≤ 4000000) (w : World) (hown : OwnB w base v l) (hbase : base ≤ w.heap.size) :
    Calls Try.prog 22 #[v, .int .i64 (x : Int)] w fun e w' => ∃ v', e = .returned v' ∧ Hid (OwnB w' base v' m) ∧ Below base w w' ∧ Hid (Kp w w') := by
  have HE := Lib.hid hm
  have HO := Lib.hid hown
  have hml : m.length ≤ 4000009 := by rw [← HE.out, List.length_append]; have := Kc.enc_len9 hx; omega
  have HML := Lib.hid hml
  clear hm hml hown
  go_enter Try.func22, Try.ntmps22
  go_wp2_with fail
  go_loopg [0, 1] x (fun g s0 s1 wx => ∃ (u : Nat) (o : List Nat), u = g ∧ u ≤ 1152921504606846976 ∧ s1 = .int .i64 u ∧ Hid (o ++ Kc.enc u = m) ∧ Hid (OwnB wx base s0 o) ∧ Below base w wx ∧ Hid (Kp w wx))
  case atStart => exact ⟨x, l, rfl, hx, rfl, HE, HO, Below.refl _ _, Lib.hid (Kp.refl _)⟩
  case round =>
    obtain ⟨u, o, rfl, hu, rfl, HU, HOo, hwx, HKp⟩ := hrel
    have hol : o.length ≤ 4000009 := by
      have h := congrArg List.length HU.out
      rw [List.length_append] at h
      have := HML.out
      omega
    by_cases h8 : u < 128
    · have h8z : ¬ (128 : Int) ≤ (u : Int) := by omega
      have hw8 := wrap8 (x := u) (by omega)
      have hl2 : o.length + [u].length ≤ 8000000 := by simp; omega
      have HU' : Hid (o ++ [u] = m) := Lib.hid (by rw [← HU.out, Kc.enc_lo h8])
      have hsz := hwx.size
      go_wp2_with (at_builtin; refine wp_appk _ rfl _ _ rfl base _ o [u] rfl (OwnB.alloc HOo.out _) _ 1 1 rfl rfl (rb_new wr _ _ (0, 0) [u] rfl (by simp) (by simp; omega)) hl2 (by show _ ≤ (wr.heap.push _).size; rw [Array.size_push]; omega) ?_; intro v4 w4 hown4 hb4 hk4)
      go_ret
      exact ⟨_, rfl, Lib.hid (HU'.out ▸ hown4), (hwx.alloc (by omega) _).trans hb4, Lib.hid ((HKp.out.alloc _).trans hk4)⟩
    · have h8z : (128 : Int) ≤ (u : Int) := by omega
      obtain ⟨q, hq⟩ : ∃ q, u / 128 = q := ⟨_, rfl⟩
      obtain ⟨r, hr⟩ : ∃ r, 128 + u % 128 = r := ⟨_, rfl⟩
      have hr8 : r < 256 := by omega
      have e1 : (u : Int) / 128 = (q : Int) := by omega
      have e2 : (128 : Int) + (u : Int) % 128 = (r : Int) := by omega
      have hw8 := wrap8 hr8
      have hl2 : o.length + [r].length ≤ 8000000 := by simp; omega
      have HU' : Hid ((o ++ [r]) ++ Kc.enc q = m) := Lib.hid (by rw [← HU.out, Kc.enc_hi h8, hq, hr]; simp)
      have hsz := hwx.size
      have hqu : q < u := by omega
      clear hq hr
      go_wp2_with (at_builtin; refine wp_appk _ rfl _ _ rfl base _ o [r] rfl (OwnB.alloc HOo.out _) _ 1 1 rfl rfl (rb_new wr _ _ (0, 0) [r] rfl (by simp) (by simp; omega)) hl2 (by show _ ≤ (wr.heap.push _).size; rw [Array.size_push]; omega) ?_; intro v4 w4 hown4 hb4 hk4)
      go_roundg q
      case measure => omega
      case rel => exact ⟨q, o ++ [r], rfl, by omega, by simp, HU', Lib.hid hown4, (hwx.alloc (by omega) _).trans hb4, Lib.hid ((HKp.out.alloc _).trans hk4)⟩
set_option maxHeartbeats 1600000 in
theorem appT_of (base : Nat) (v : Value) (s : ByteArray) (l m : List Nat) (hs : s.size ≤ 65536) (hm : l ++ Kc.encT (Kc.bs s) = m) (hl : l.length ≤ 4000000) (w : World) (hown : OwnB w base v l) (hbase : base ≤ w.heap.size) :
    Calls Try.prog 24 #[v, .string s] w fun e w' => ∃ v', e = .returned v' ∧ Hid (OwnB w' base v' m) ∧ Below base w w' ∧ Hid (Kp w w') := by
  obtain ⟨l1, h1⟩ : ∃ l1, l ++ Kc.enc s.size = l1 := ⟨_, rfl⟩
  have HM : Hid (l1 ++ Kc.bs s = m) := Lib.hid (by rw [← hm, ← h1]; unfold Kc.encT; rw [Kc.bs_len, List.append_assoc])
  have hl1 : l1.length + s.size ≤ 8000000 := by rw [← h1, List.length_append]; have := Kc.enc_len9 (n := s.size) (by omega); omega
  have H1 := Lib.hid h1
  clear hm h1
  go_enter Try.func24, Try.ntmps24
  go_wp2_with fail
  refine (appU_of base v s.size l l1 (by omega) H1.out hl w hown hbase).mono ?_
  rintro e w1 ⟨v1, rfl, HO, hb, hk⟩
  have hsz := hb.size
  go_wp2_with (at_builtin; refine wp_apps _ rfl _ _ rfl base v1 l1 rfl HO.out s rfl hl1 (by omega) ?_; intro v2 w2 hown2 hb2 hk2)
  go_ret
  exact ⟨_, rfl, Lib.hid (HM.out ▸ hown2), hb.trans hb2, Lib.hid (hk.out.trans hk2)⟩
set_option maxHeartbeats 1600000 in
theorem putU_of : PutUC := by
  intro nz A n c l m k hz1 hz2 hn hl hc hm hk w hr
  have HN := Lib.hid hn
  have HM := Lib.hid hm
  have HK := Lib.hid hk
  have HS := Lib.hid hr.small
  clear hn hm hk hc
  go_enter Try.func14, Try.ntmps14
  by_cases h0 : nz < 0
  · go_wp2_with fail
    refine (clone_of A n c l HN.out hl w hr).mono ?_
    rintro e w1 ⟨v, rfl, HO, hb⟩
    go_wp2_with fail
    go_ret
    have e : l = m := by rw [← HM.out, Kc.putU_no (by omega)]
    exact put_end (HK.out) (e ▸ HO.out) (by rw [← e]; omega) (by rw [← e]; exact HS.out) hb
  by_cases h1 : 1152921504606846976 < nz
  · go_wp2_with fail
    refine (clone_of A n c l HN.out hl w hr).mono ?_
    rintro e w1 ⟨v, rfl, HO, hb⟩
    go_wp2_with fail
    go_ret
    have e : l = m := by rw [← HM.out, Kc.putU_no (by omega)]
    exact put_end (HK.out) (e ▸ HO.out) (by rw [← e]; omega) (by rw [← e]; exact HS.out) hb
  obtain ⟨x, rfl⟩ : ∃ x : Nat, nz = (x : Int) := ⟨nz.toNat, by omega⟩
  have hx : x ≤ 1152921504606846976 := by omega
  have HE : Hid (l ++ Kc.enc x = m) := Lib.hid (by rw [← HM.out, Kc.putU_ok hx])
  have HML : Hid (m.length ≤ 4000009) := Lib.hid (by rw [← HE.out, List.length_append]; have := Kc.enc_len9 hx; omega)
  have HMs : Hid (∀ y ∈ m, y < 256) := Lib.hid (by
    rw [← HE.out]
    intro y hy
    rcases List.mem_append.1 hy with hy | hy
    · exact HS.out y hy
    · exact Kc.enc_small _ y hy)
  go_wp2_with fail
  refine (clone_of A n c l HN.out hl w hr).mono ?_
  rintro e w1 ⟨v, rfl, HO, hb⟩
  go_wp2_with fail
  refine (appU_of w.heap.size v x l m hx HE.out hl w1 HO.out hb.size).mono ?_
  rintro e w2 ⟨v2, rfl, HO2, hb2, _⟩
  go_wp2_with fail
  go_ret
  exact put_end HK.out HO2.out (by have := HML.out; omega) HMs.out (hb.trans hb2)
theorem putI_zig {l : List Nat} {nz : Int} (h : -576460752303423488 ≤ nz ∧ nz ≤ 576460752303423488) : Kc.putI l nz = Kc.putU l (Kc.zig nz : Nat) := by
  rw [Kc.putI_ok h, Kc.putU_ok (Kc.zig_le h)]
set_option maxHeartbeats 1600000 in
theorem putI_of : PutIC := by
  intro nz A n c l m k hz1 hz2 hn hl hc hm hk w hr
  have HN := Lib.hid hn
  have HM := Lib.hid hm
  have HK := Lib.hid hk
  have HC := Lib.hid hc
  have HS := Lib.hid hr.small
  clear hn hm hk hc
  go_enter Try.func13, Try.ntmps13
  by_cases h0 : 0 ≤ nz
  · by_cases h1 : nz ≤ 576460752303423488
    · obtain ⟨z2, h3⟩ : ∃ z2, 2 * nz = z2 := ⟨_, rfl⟩
      have e1 : IntKind.i64.wrap (2 * nz) = z2 := by rw [← h3]; exact IntWalk.i64_in _ (by omega)
      have hput : Hid (Kc.putU l z2 = m) := Lib.hid (by
        rw [← HM.out, putI_zig ⟨by omega, h1⟩, ← h3]
        congr 1
        unfold Kc.zig
        rw [if_pos h0]; omega)
      go_wp2_with fail
      refine (putU_of z2 A n c l m k (by omega) (by omega) HN.out hl HC.out hput.out HK.out w hr).mono ?_
      rintro e w1 ⟨A1, c1, rfl, h⟩
      go_wp2_with fail
      go_ret
      exact ⟨A1, c1, rfl, h⟩
    · have h2 : ¬ nz < 0 := by omega
      have e : l = m := by rw [← HM.out]; unfold Kc.putI; rw [if_neg (by omega)]
      go_wp2_with fail
      refine (clone_of A n c l HN.out hl w hr).mono ?_
      rintro e w1 ⟨v, rfl, HO, hb⟩
      go_wp2_with fail
      go_ret
      exact put_end (HK.out) (e ▸ HO.out) (by rw [← e]; omega) (by rw [← e]; exact HS.out) hb
  · by_cases h1 : -576460752303423488 ≤ nz
    · have h2 : nz < 0 := by omega
      obtain ⟨z2, h3⟩ : ∃ z2, -2 * nz - 1 = z2 := ⟨_, rfl⟩
      have e0 : IntKind.i64.wrap (-2 * nz) = -2 * nz := IntWalk.i64_in _ (by omega)
      have e1 : IntKind.i64.wrap (-2 * nz - 1) = z2 := by rw [← h3]; exact IntWalk.i64_in _ (by omega)
      have hput : Hid (Kc.putU l z2 = m) := Lib.hid (by
        rw [← HM.out, putI_zig ⟨h1, by omega⟩, ← h3]
        congr 1
        unfold Kc.zig
        rw [if_neg h0]; omega)
      go_wp2_with fail
      refine (putU_of z2 A n c l m k (by omega) (by omega) HN.out hl HC.out hput.out HK.out w hr).mono ?_
      rintro e w1 ⟨A1, c1, rfl, h⟩
      go_wp2_with fail
      go_ret
      exact ⟨A1, c1, rfl, h⟩
    · have e : l = m := by rw [← HM.out]; unfold Kc.putI; rw [if_neg (by omega)]
      go_wp2_with fail
      refine (clone_of A n c l HN.out hl w hr).mono ?_
      rintro e w1 ⟨v, rfl, HO, hb⟩
      go_wp2_with fail
      go_ret
      exact put_end (HK.out) (e ▸ HO.out) (by rw [← e]; omega) (by rw [← e]; exact HS.out) hb
set_option maxHeartbeats 1600000 in
theorem putT_of : PutTC := by
  intro s A n c l m k hs hn hl hc hm hk w hr
  have HN := Lib.hid hn
  have HM := Lib.hid hm
  have HK := Lib.hid hk
  have HS := Lib.hid hr.small
  clear hn hm hk hc
  go_enter Try.func12, Try.ntmps12
  by_cases h0 : 65536 < s.size
  · have e : l = m := by rw [← HM.out]; unfold Kc.putT; rw [Kc.bs_len, if_neg (by omega)]
    go_wp2_with fail
    refine (clone_of A n c l HN.out (by omega) w hr).mono ?_
    rintro e w1 ⟨v, rfl, HO, hb⟩
    go_wp2_with fail
    go_ret
    exact put_end (HK.out) (e ▸ HO.out) (by rw [← e]; omega) (by rw [← e]; exact HS.out) hb
  · have hs2 : s.size ≤ 65536 := by omega
    have HE : Hid (l ++ Kc.encT (Kc.bs s) = m) := Lib.hid (by rw [← HM.out, Kc.putT_ok (by rw [Kc.bs_len]; exact hs2)])
    have HMs : Hid (m.length ≤ 9000000 ∧ ∀ y ∈ m, y < 256) := Lib.hid (by
      rw [← HE.out]
      have := Kc.encT_len (l := Kc.bs s) (by rw [Kc.bs_len]; exact hs2)
      rw [Kc.bs_len] at this
      refine ⟨by rw [List.length_append]; omega, fun y hy => ?_⟩
      rcases List.mem_append.1 hy with hy | hy
      · exact HS.out y hy
      · exact Kc.encT_small (Kc.bs_small s) y hy)
    go_wp2_with fail
    refine (clone_of A n c l HN.out (by omega) w hr).mono ?_
    rintro e w1 ⟨v, rfl, HO, hb⟩
    go_wp2_with fail
    refine (appT_of w.heap.size v s l m hs2 HE.out (by omega) w1 HO.out hb.size).mono ?_
    rintro e w2 ⟨v2, rfl, HO2, hb2, _⟩
    go_wp2_with fail
    go_ret
    exact put_end HK.out HO2.out (by have := HMs.out.1; omega) HMs.out.2 (hb.trans hb2)
end Go.Proofs.Ytnieojdlmanckaa
