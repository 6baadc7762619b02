/-
  A row of pairs of the call's own that is appended to; a set of names in a map of the call's own: the laws at the operations; the walks of label.names and label.drop.
-/
import Derived.Test.YthknoanhljonoaaLabSane
import Derived.Maps.OwnOps
import Derived.Maps.OwnSet
import Derived.Maps.Views
import Derived.Carry
namespace Go.Proofs.Ythknoanhljonoaa
open Go.RowKit Go.Maps Go.Proofs.Ythknoanhljonoaa.Lp

/-! ### appended -/
theorem info_pair : (Try.prog.info? 38).map (fun i => (i.zero, i.size, i.bytes)) = some (some (.agg #[.string ⟨#[]⟩, .string ⟨#[]⟩]), 2, 32) := by kernel_rfl
theorem run_app_none {w : World} {base : Nat} {v : Value} {n : Nat} {xs : List Value} (hown : w.ownsRow base 38 2 v n xs) (ty : TypeId) (c : Nat) :
    (Builtin.append_ #[22, 22] ty #[v, .slice none 0 c]).run Try.prog w = .ok v w := by
  obtain ⟨i0, hi, _, _, _⟩ := info_parts info_pair
  rcases hown.2 with ⟨rfl, rfl⟩ | ⟨g, cap, cur, rfl, _, _, hnc, _⟩
  · simp [Builtin.append_, run_underlying Try.underlying22, sizeOf, typeInfo, hi, Builtin.lenOf, Builtin.firstCells]
  · simp [Builtin.append_, run_underlying Try.underlying22, sizeOf, typeInfo, hi, Builtin.lenOf, Builtin.firstCells, hnc, storeCells]
theorem Own.base {w : World} {base : Nat} {v : Value} {l : List Pr} (h : Own w base v l) : ∀ k, v.ownBlock = some k → base ≤ k := by
  intro k hk
  rcases h.2 with ⟨rfl, _⟩ | ⟨g, cap, cur, rfl, hb, _⟩
  · simp [Value.ownBlock] at hk
  · simp [Value.ownBlock] at hk
    omega
theorem Own.nil (w : World) (base : Nat) : Own w base (.slice none 0 0) [] := ⟨rfl, .inl ⟨rfl, rfl⟩⟩
theorem Own.alloc {w : World} {base : Nat} {v : Value} {l : List Pr} (h : Own w base v l) (o : Obj) : Own (w.alloc o) base v l := World.ownsRow.alloc h o
theorem Own.below {w w' : World} {base : Nat} {v : Value} {l : List Pr} (h : Own w base v l) (hb : Below w.heap.size w w') : Own w' base v l := by
  refine ⟨h.1, ?_⟩
  rcases h.2 with h0 | ⟨g, cap, cur, hv, hbs, hg, hr⟩
  · exact .inl h0
  · exact .inr ⟨g, cap, cur, hv, hbs, (hb.block g (Array.getElem?_eq_some_iff.1 hg).1).trans hg, hr⟩
theorem Own.mono {w : World} {base base' : Nat} {v : Value} {l : List Pr} (h : Own w base v l) (hb : base' ≤ base) : Own w base' v l := by
  refine ⟨h.1, ?_⟩
  rcases h.2 with h0 | ⟨g, cap, cur, hv, hbs, hr⟩
  · exact .inl h0
  · exact .inr ⟨g, cap, cur, hv, by omega, hr⟩
theorem wp_app (w : World) {ops : Array Oper} {rest : List Oper} {o : Oper} {a : Act} {Q : Exit → Act → World → Prop} (hgd : o.guard = none) (s x : Operand)
    (ho : o.op = .call { callee := .builtin .append, args := #[s, x], argTypes := #[22, 22] })
    (base : Nat) (v : Value) (l m : List Pr) (hs : a.eval s = v) (hown : Own w base v l) (A : Option Addr) (n c : Nat) (hn : n = m.length) (hx : a.eval x = .slice A n c) (hr : Rd w w.heap.size A m)
    (hlen : l.length + m.length ≤ 1000000) (hbase : base ≤ w.heap.size)
    (h : ∀ v' w', Own w' base v' (l ++ m) → Below base w w' → wpList Try.prog ops Q rest (a.put o.dst v') w') : wpList Try.prog ops Q (o :: rest) a w := by
  subst hn
  obtain ⟨i0, hi, hz0, hz1, hz2⟩ := info_parts info_pair
  cases A with
  | none =>
    have hm : m = [] := by
      cases m with
      | nil => rfl
      | cons p r => obtain ⟨b, off, e, _⟩ := hr.mem (by simp); cases e
    subst hm
    refine wpList_plain hgd fun K hK => ?_
    have hrun := run_app_none hown o.type c
    unfold Oper.wp
    simp only [List.length_nil] at hx
    simp [execOp, ho, resolve, invoke, builtin, hs, hx, hrun, Result.andThen]
    exact hK _ _ (h v w (by simpa using hown) (Below.refl _ _))
  | some ad =>
    refine wpList_append_own _ hgd s x 22 ho base 38 i0 _ 2 32 Try.underlying22 hi hz0 hz1 hz2 rfl (by decide) v l.length (cells l) hs hown ad m.length c (cells m) hx (cells_len m) ?_ (cells_one' m) (by unfold maxLen; omega) (by omega) hbase ?_
    · intro j u hj
      have hm : m ≠ [] := fun e => by subst e; simp [cells] at hj
      obtain ⟨b, off, e, _, hc⟩ := hr.mem hm
      cases e
      have := hc j u hj
      rwa [Addr.add_lit]
    · intro v' w' ho' hg _
      refine h v' w' ?_ ((Below.refl base w).grown hg hbase (Own.base hown))
      unfold Own
      rw [cells_app, List.length_append]
      exact ho'

/-- A pair in a block of its own. -/
theorem rd_new (W : World) (N V : ByteArray) (h1 : N.size ≤ 9223372036854775807) (h2 : V.size ≤ 9223372036854775807) {k : Nat} (hk : k = W.heap.size) :
    Rd (W.alloc (.cells #[.string N, .string V] 38)) (W.alloc (.cells #[.string N, .string V] 38)).heap.size (some ⟨k, 0, none⟩) [(N, V)] := by
  subst hk
  refine ⟨by simp, ?_, fun _ => ⟨W.heap.size, 0, rfl, by simp, ?_⟩⟩
  · intro p hp
    rw [List.mem_singleton.1 hp]
    exact ⟨h1, h2⟩
  · intro j u hu
    match j, hu with
    | 0, hu => cases hu; go_simp
    | 1, hu => cases hu; go_simp

/-! ### a set of names -/
def key (s : ByteArray) : Lit := .string s.data.toList
theorem key_ne {a b : ByteArray} : key a = key b ↔ a = b := by
  unfold key
  constructor
  · intro h
    injection h with h
    exact ext (by rw [tl, tl, h])
  · rintro rfl; rfl
theorem key_lit (s : ByteArray) : WideAt.IsKeyLit (key s) := trivial
theorem keyed : Keyed Try.prog 9 := string_keyed Try.underlying9
theorem key_of (s : ByteArray) (h : s.size ≤ 9223372036854775807) : keyOf Try.prog 9 (.string s) = some (key s) := WideMaps.keyOf_string_mk Try.underlying9 (by unfold maxLen; omega)
theorem zero_bool (w : World) : (zeroValue 4).run Try.prog w = .ok (.bool false) w := by kernel_rfl
def yes : DataW Unit := .lit (.bool true)
def set (l : List Pr) : DataW Unit := setOf yes ((nms l).map key)
theorem set_snoc (l : List Pr) (p : Pr) : set (l ++ [p]) = (set l).put (key p.1) yes := by
  unfold set nms
  rw [List.map_append, List.map_append]
  exact setOf_snoc yes _ _
theorem set_keys (l : List Pr) : ∀ x ∈ (nms l).map key, WideAt.IsKeyLit x := by
  intro x hx
  obtain ⟨s, _, rfl⟩ := List.mem_map.1 hx
  exact key_lit s
theorem set_isMap (l : List Pr) : IsMap (set l) := (tidy_setOf yes _ (set_keys l)).isMap
theorem set_at_len : ∀ (k : Nat) (l : List Pr) (x : ByteArray) (z : DataW Unit), l.length = k → (set l).atKey (key x) z = if Lp.has l x then yes else z
  | 0, l, x, z, h => by
    obtain rfl := List.length_eq_zero_iff.1 h
    rfl
  | k + 1, l, x, z, h => by
    have hne : l ≠ [] := fun e => by subst e; simp at h
    have e := List.dropLast_concat_getLast hne
    have hk : l.dropLast.length = k := by rw [List.length_dropLast]; omega
    have ih := set_at_len k l.dropLast x z hk
    rw [← e, set_snoc]
    have hh : Lp.has (l.dropLast ++ [l.getLast hne]) x = (Lp.has l.dropLast x || decide ((l.getLast hne).1 = x)) := by simp [Lp.has]
    rw [hh]
    by_cases e : (l.getLast hne).1 = x
    · rw [← e, atKey_put_same (set_isMap _) (key_lit _)]
      simp
    · rw [atKey_put_other (fun h => e (key_ne.1 h).symm), ih]
      simp [e]
theorem set_at (l : List Pr) (x : ByteArray) (z : DataW Unit) : (set l).atKey (key x) z = if Lp.has l x then yes else z := set_at_len _ l x z rfl
/-- How many names there are. -/
theorem add_len : ∀ (xs L : List Lit), L.length ≤ (xs.foldl addKey L).length ∧ (xs.foldl addKey L).length ≤ L.length + xs.length
  | [], L => by simp
  | x :: r, L => by
    have ih := add_len r (addKey L x)
    have h1 : L.length ≤ (addKey L x).length ∧ (addKey L x).length ≤ L.length + 1 := by
      unfold addKey
      split
      · omega
      · simp
    rw [List.foldl_cons, List.length_cons]
    omega
theorem any_key (L : List Lit) (s : ByteArray) : (L.any fun y => y.sameKey (key s)) = true ↔ key s ∈ L := by
  rw [List.any_eq_true]
  constructor
  · rintro ⟨y, hy, hs⟩
    rw [← WideAt.sameKey_eq hs]; exact hy
  · intro hm
    exact ⟨_, hm, WideAt.sameKey_self (key_lit s)⟩
theorem add_full : ∀ (l : List Pr) (L : List Lit), (∀ x ∈ L, WideAt.IsKeyLit x) → ((((nms l).map key).foldl addKey L).length = L.length + l.length ↔ (nms l).Nodup ∧ ∀ p ∈ l, key p.1 ∉ L)
  | [], L, _ => by simp [nms]
  | p :: r, L, h => by
    have hb := add_len ((nms r).map key) (addKey L (key p.1))
    have hlen : ((nms r).map key).length = r.length := by simp [nms]
    show (((nms r).map key).foldl addKey (addKey L (key p.1))).length = _ ↔ _
    by_cases hm : key p.1 ∈ L
    · have he : addKey L (key p.1) = L := by
        unfold addKey
        rw [if_pos ((any_key L p.1).2 hm)]
      rw [he] at hb ⊢
      constructor
      · intro e; rw [List.length_cons] at e; omega
      · rintro ⟨_, h2⟩
        exact absurd hm (h2 p (by simp))
    · have he : addKey L (key p.1) = L ++ [key p.1] := by
        unfold addKey
        rw [if_neg (fun hx => hm ((any_key L p.1).1 hx))]
      rw [he]
      have ih := add_full r (L ++ [key p.1]) (fun x hx => by
        rcases List.mem_append.1 hx with hx | hx
        · exact h x hx
        · rw [List.mem_singleton.1 hx]; exact key_lit _)
      rw [List.length_append, List.length_singleton] at ih
      rw [List.length_cons, show L.length + (r.length + 1) = L.length + 1 + r.length by omega, ih]
      unfold nms
      rw [List.map_cons, List.nodup_cons]
      constructor
      · rintro ⟨h1, h2⟩
        refine ⟨⟨fun hx => ?_, h1⟩, fun q hq => ?_⟩
        · obtain ⟨q, hq, e⟩ := List.mem_map.1 hx
          exact h2 q hq (by rw [e]; simp)
        · rcases List.mem_cons.1 hq with rfl | hq
          · exact hm
          · exact fun hx => h2 q hq (List.mem_append.2 (.inl hx))
      · rintro ⟨⟨h1, h2⟩, h3⟩
        refine ⟨h2, fun q hq hx => ?_⟩
        rcases List.mem_append.1 hx with hx | hx
        · exact h3 q (by simp [hq]) hx
        · have := key_ne.1 (List.mem_singleton.1 hx)
          exact h1 (List.mem_map.2 ⟨q, hq, this⟩)
theorem set_size (l : List Pr) : Maps.size (set l) ≤ l.length ∧ (Maps.size (set l) < l.length ↔ twice l = true) := by
  have h : Maps.size (set l) = (((nms l).map key).foldl addKey []).length := size_setOf yes _ (set_keys l)
  have hb := add_len ((nms l).map key) []
  have hlen : ((nms l).map key).length = l.length := by simp [nms]
  have hf := add_full l [] (by simp)
  simp only [List.length_nil, Nat.zero_add, List.not_mem_nil, not_false_eq_true, implies_true, and_true] at hf hb
  unfold twice
  rw [Bool.not_eq_true', decide_eq_false_iff_not, ← hf]
  omega

/-- A map of the call's own that tells of names whether they are meant. -/
def Sees (w : World) (b : Nat) (g : ByteArray → Bool) : Prop :=
  ∃ n D, w.ownsMap Try.prog 9 (plainElem (H := Unit) Try.prog 4) b n D ∧ ∀ x, D.atKey (key x) (.lit (.bool false)) = .lit (.bool (g x))
theorem ownsMap_below {w w' : World} {b n : Nat} {D : DataW Unit} (h : w.ownsMap Try.prog 9 (plainElem (H := Unit) Try.prog 4) b n D) (hb : Below w.heap.size w w') : w'.ownsMap Try.prog 9 (plainElem (H := Unit) Try.prog 4) b n D := by
  have hlt := World.ownsMap.lt h
  obtain ⟨es, clock, he, hr⟩ := h
  exact ⟨es, clock, (hb.block b hlt).trans he, hr⟩
theorem Sees.below {w w' : World} {b : Nat} {g : ByteArray → Bool} (h : Sees w b g) (hb : Below w.heap.size w w') : Sees w' b g := by
  obtain ⟨n, D, h1, h2⟩ := h
  exact ⟨n, D, ownsMap_below h1 hb, h2⟩
theorem Sees.look {w : World} {b : Nat} {g : ByteArray → Bool} (h : Sees w b g) (s : ByteArray) (hs : s.size ≤ 9223372036854775807) :
    (Instr.lookup 43 (.map (some b)) (.string s) false).run Try.prog w = .ok (.bool (g s)) w := by
  obtain ⟨n, D, h1, h2⟩ := h
  obtain ⟨v, ps, hrun, hv⟩ := World.ownsMap.lookup h1 keyed Try.underlying43 (zero_bool w) (plainElem_bool Try.underlying4 false) (key_of s hs)
  rw [h2 s] at hv
  rw [hrun]
  unfold plainElem at hv
  rw [Try.underlying4] at hv
  cases v <;> simp at hv
  rw [hv.1]
theorem wp_insert (w : World) {ops : Array Oper} {rest : List Oper} {o : Oper} {a : Act} {Q : Exit → Act → World → Prop}
    (hg : o.guard = none) (m x v : Operand) (hop : o.op = Op.insert 43 m x v) (b n : Nat) (l : List Pr)
    (hm : a.eval m = .map (some b)) (hown : w.ownsMap Try.prog 9 (plainElem (H := Unit) Try.prog 4) b n (set l)) (hn : n ≤ 1000000) (s V : ByteArray) (hx : a.eval x = .string s) (hv : a.eval v = .bool true) (hs : s.size ≤ 9223372036854775807)
    (hK : ∀ w', w'.ownsMap Try.prog 9 (plainElem (H := Unit) Try.prog 4) b (n + 1) (set (l ++ [(s, V)])) → w.grownBy w' (some b) → wpList Try.prog ops Q rest (a.put o.dst undef) w') :
    wpList Try.prog ops Q (o :: rest) a w := by
  refine wpList_plain hg fun K' hK' => ?_
  obtain ⟨w', hrun, r1, r2⟩ := World.ownsMap.update hown keyed Try.underlying43 (by unfold maxLen; omega) (key_of s hs) (plainElem_bool Try.underlying4 true)
  rw [set_snoc] at hK
  unfold Oper.wp
  simp [execOp, hop, hm, hx, hv, hrun, Result.andThen]
  exact hK' _ _ (hK w' r1 r2)
theorem wp_update (w : World) {ops : Array Oper} {rest : List Oper} {o : Oper} {a : Act} {Q : Exit → Act → World → Prop}
    (hg : o.guard = none) (m x v : Operand) (hop : o.op = Op.mapUpdate 43 m x v) (b n : Nat) (l : List Pr)
    (hm : a.eval m = .map (some b)) (hown : w.ownsMap Try.prog 9 (plainElem (H := Unit) Try.prog 4) b n (set l)) (hn : n ≤ 1000000) (s V : ByteArray) (hx : a.eval x = .string s) (hv : a.eval v = .bool true) (hs : s.size ≤ 9223372036854775807)
    (hK : ∀ w', w'.ownsMap Try.prog 9 (plainElem (H := Unit) Try.prog 4) b (n + 1) (set (l ++ [(s, V)])) → w.grownBy w' (some b) → wpList Try.prog ops Q rest (a.put o.dst undef) w') :
    wpList Try.prog ops Q (o :: rest) a w := by
  refine wpList_plain hg fun K' hK' => ?_
  obtain ⟨w', hrun, r1, r2⟩ := World.ownsMap.update hown keyed Try.underlying43 (by unfold maxLen; omega) (key_of s hs) (plainElem_bool Try.underlying4 true)
  rw [set_snoc] at hK
  unfold Oper.wp
  simp [execOp, hop, hm, hx, hv, hrun, Result.andThen]
  exact hK' _ _ (hK w' r1 r2)
theorem set_sees {w : World} {b n : Nat} {l : List Pr} (h : w.ownsMap Try.prog 9 (plainElem (H := Unit) Try.prog 4) b n (set l)) : Sees w b (Lp.has l) :=
  ⟨n, set l, h, fun x => by rw [set_at]; cases Lp.has l x <;> rfl⟩

/-! ### label.names -/
set_option maxHeartbeats 1600000 in
theorem names_of (A : Option Addr) (c n : Nat) (l : List Pr) (hn : n = l.length) (h40 : n ≤ 1000) (w : World) (hr : Rd w w.heap.size A l) :
    Calls Try.prog 31 #[.slice A n c] w fun e w' => ∃ b m, e = .returned (.map (some b)) ∧ Hid (w'.ownsMap Try.prog 9 (plainElem (H := Unit) Try.prog 4) b m (set l)) ∧ Below w.heap.size w w' := by
  have HN := Lib.hid hn
  clear hn
  have hmm := @run_makeMap Try.prog
  go_enter Try.func31, Try.ntmps31
  go_wp2_with fail
  go_loopg [5, 9] n (fun g _ s9 wx => ∃ i : Nat, i + g = n ∧ s9 = .int .i64 i ∧ Hid (wx.ownsMap Try.prog 9 (plainElem (H := Unit) Try.prog 4) w.heap.size i (set (l.take i))) ∧ Below w.heap.size w wx)
  case atStart => exact ⟨0, by omega, rfl, Lib.hid (World.ownsMap_made w _ _ _), below_alloc _ _⟩
  case round =>
    obtain ⟨i, hi, rfl, HM, hwx⟩ := hrel
    cases gk with
    | zero =>
      obtain rfl : i = n := by omega
      go_wp2_with fail
      go_ret
      refine ⟨_, i, rfl, Lib.hid ?_, hwx⟩
      have := HM.out
      rwa [HN.out, List.take_length, ← HN.out] at this
    | succ g =>
      have hlt : i < n := by omega
      have hltz : (i : Int) < (n : Int) := by omega
      obtain ⟨bk, off, rfl, hbk, hc⟩ := (hr.below hwx).all (by have := HN.out; omega)
      obtain ⟨N, V, hp⟩ := ex_at (l := l) (k := i) (by have := HN.out; omega)
      obtain ⟨c0, c1⟩ := hc _ _ hp
      have hbk' : bk < wr.heap.size := by have := hwx.size; omega
      have HT : Hid (l.take (i + 1) = l.take i ++ [(N, V)]) := Lib.hid (by
        obtain ⟨h1, h2⟩ := List.getElem?_eq_some_iff.1 hp
        rw [List.take_succ_eq_append_getElem h1, h2])
      have HSz := Lib.hid (hr.size _ (List.mem_of_getElem? hp)).1
      clear hc hp hr
      go_wp2_with (at_mapUpdate; refine wp_update _ rfl _ _ _ rfl w.heap.size i (l.take i) rfl (World.ownsMap.alloc HM.out _) (by omega) N V rfl rfl HSz.out ?_; intro w2 hown2 hgr2)
      rw [← HT.out] at hown2
      have Hown2 := Lib.hid hown2
      clear hown2
      have hw2 : Below w.heap.size w w2 := (hwx.alloc hwx.size _).grown hgr2 (by have := hwx.size; simp; omega) (fun k hk => by injection hk with hk; omega)
      go_wp2_with fail
      go_roundg g
      case measure => omega
      case rel => exact ⟨i + 1, by omega, by simp, Hown2, hw2⟩

/-! ### label.drop -/
set_option maxHeartbeats 3200000 in
theorem drop_of (A : Option Addr) (c n : Nat) (l : List Pr) (hn : n = l.length) (h40 : n ≤ 1000) (b : Nat) (g : ByteArray → Bool) (w : World) (hr : Rd w w.heap.size A l) (hg : Sees w b g) :
    Calls Try.prog 43 #[.slice A n c, .map (some b)] w fun e w' => ∃ v, e = .returned v ∧ Hid (Own w' w.heap.size v (drop l g)) ∧ Below w.heap.size w w' := by
  have HN := Lib.hid hn
  have HG := Lib.hid hg
  clear hn hg
  go_enter Try.func43, Try.ntmps43
  go_wp2_with fail
  go_loopg [5, 7, 10] n (fun gf s5 _ s10 wx => ∃ i : Nat, i + gf = n ∧ s10 = .int .i64 i ∧ Hid (Own wx w.heap.size s5 (drop (l.take i) g)) ∧ Below w.heap.size w wx)
  case atStart => exact ⟨0, by omega, rfl, Lib.hid (Own.nil _ _), Below.refl _ _⟩
  case round =>
    obtain ⟨i, hi, rfl, HM, hwx⟩ := hrel
    cases gk with
    | zero =>
      obtain rfl : i = n := by omega
      go_wp2_with fail
      go_ret
      refine ⟨_, rfl, Lib.hid ?_, hwx⟩
      have := HM.out
      rwa [HN.out, List.take_length] at this
    | succ gf =>
      have hlt : i < n := by omega
      have hltz : (i : Int) < (n : Int) := by omega
      obtain ⟨bk, off, rfl, hbk, hc⟩ := (hr.below hwx).all (by have := HN.out; omega)
      obtain ⟨N, V, hp⟩ := ex_at (l := l) (k := i) (by have := HN.out; omega)
      obtain ⟨c0, c1⟩ := hc _ _ hp
      have hbk' : bk < wr.heap.size := by have := hwx.size; omega
      have HT : Hid (l.take (i + 1) = l.take i ++ [(N, V)]) := Lib.hid (by
        obtain ⟨h1, h2⟩ := List.getElem?_eq_some_iff.1 hp
        rw [List.take_succ_eq_append_getElem h1, h2])
      have hsz := hr.size _ (List.mem_of_getElem? hp)
      have HSz := Lib.hid hsz
      have hlook := ((HG.out.below hwx).below (below_alloc wr (.cells #[.string N, .string V] 38))).look N hsz.1
      clear hc hp hr hsz
      cases hgN : g N with
      | true =>
        rw [hgN] at hlook
        have HD : Hid (drop (l.take (i + 1)) g = drop (l.take i) g) := Lib.hid (by
          rw [HT.out, drop_app]
          simp [drop, hgN])
        clear hgN
        go_wp2_with fail
        go_roundg gf
        case measure => omega
        case rel => exact ⟨i + 1, by omega, by simp, Lib.hid (by rw [HD.out]; exact Own.alloc HM.out _), hwx.alloc hwx.size _⟩
      | false =>
        rw [hgN] at hlook
        have HD : Hid (drop (l.take (i + 1)) g = drop (l.take i) g ++ [(N, V)]) := Lib.hid (by
          rw [HT.out, drop_app]
          simp [drop, hgN])
        clear hgN
        have hdl : (drop (l.take i) g).length ≤ 1000 := Nat.le_trans (drop_sub _ _).length_le (by rw [List.length_take]; omega)
        have hbs := hwx.size
        go_wp2_with (at_builtin; refine wp_app _ rfl _ _ rfl w.heap.size _ (drop (l.take i) g) [(N, V)] rfl (Own.alloc (Own.alloc HM.out _) _) _ 1 _ rfl rfl (rd_new _ N V HSz.out.1 HSz.out.2 (by simp)) (by simp; omega) (by simp; omega) ?_; intro v2 w2 hown2 hb2)
        rw [← HD.out] at hown2
        have Hown2 := Lib.hid hown2
        clear hown2
        go_wp2_with fail
        go_roundg gf
        case measure => omega
        case rel => exact ⟨i + 1, by omega, by simp, Hown2, ((hwx.alloc hbs _).alloc (by simp; omega) _).trans hb2⟩
end Go.Proofs.Ythknoanhljonoaa
