/-
  What the laws of layer label say, on plain lists.
-/
import Derived.Test.YtgahahichplpkaaDoorLabPlain
namespace Go.Proofs.YtgahahichplpkaaDoor.Lp

/-! ### the order of labels -/
theorem cmpP_self (x : Pr) : cmpP x x = 0 := by simp [cmpP, cmpT_self]
theorem cmpP_zero {x y : Pr} (h : cmpP x y = 0) : x = y := by
  unfold cmpP at h
  by_cases h1 : cmpT x.1 y.1 = 0
  · rw [if_pos h1] at h
    exact Prod.ext (cmpT_zero h1) (cmpT_zero h)
  · rw [if_neg h1] at h; exact absurd h h1
theorem cmpP_flip (x y : Pr) : cmpP y x = - cmpP x y := by
  unfold cmpP
  rw [cmpT_flip x.1 y.1, cmpT_flip x.2 y.2]
  by_cases h : cmpT x.1 y.1 = 0
  · simp [h]
  · rw [if_neg h, if_neg (by omega)]
theorem cmpP_bd (x y : Pr) : -1 ≤ cmpP x y ∧ cmpP x y ≤ 1 := by
  unfold cmpP; split
  · exact cmpT_bd _ _
  · exact cmpT_bd _ _
theorem cmpT_trans {a b c : ByteArray} (h1 : cmpT a b < 0) (h2 : cmpT b c < 0) : cmpT a c < 0 :=
  (cmpT_neg a c).2 (blt_trans ((cmpT_neg a b).1 h1) ((cmpT_neg b c).1 h2))
theorem cmpP_neg {x y : Pr} : cmpP x y < 0 ↔ cmpT x.1 y.1 < 0 ∨ (x.1 = y.1 ∧ cmpT x.2 y.2 < 0) := by
  unfold cmpP
  by_cases h : cmpT x.1 y.1 = 0
  · rw [if_pos h]
    have := cmpT_zero h
    simp [this, cmpT_self]
  · rw [if_neg h]
    constructor
    · exact .inl
    · rintro (h' | ⟨h', _⟩)
      · exact h'
      · rw [h', cmpT_self] at h; exact absurd rfl h
theorem cmpP_trans {x y z : Pr} (h1 : cmpP x y < 0) (h2 : cmpP y z < 0) : cmpP x z < 0 := by
  rw [cmpP_neg] at *
  rcases h1 with h1 | ⟨e1, h1⟩
  · rcases h2 with h2 | ⟨e2, h2⟩
    · exact .inl (cmpT_trans h1 h2)
    · exact .inl (e2 ▸ h1)
  · rcases h2 with h2 | ⟨e2, h2⟩
    · exact .inl (e1 ▸ h2)
    · exact .inr ⟨e1.trans e2, cmpT_trans h1 h2⟩
theorem cmpL_self : ∀ a : List Pr, cmpL a a = 0
  | [] => rfl
  | x :: xs => by unfold cmpL; rw [if_pos (cmpP_self x)]; exact cmpL_self xs
theorem cmpL_flip : ∀ a b : List Pr, cmpL b a = - cmpL a b
  | [], [] => rfl
  | [], _ :: _ => rfl
  | _ :: _, [] => rfl
  | x :: xs, y :: ys => by
    unfold cmpL
    rw [cmpP_flip x y, cmpL_flip xs ys]
    by_cases h : cmpP x y = 0
    · simp [h]
    · rw [if_neg h, if_neg (by omega)]
theorem cmpL_zero : ∀ {a b : List Pr}, cmpL a b = 0 → a = b
  | [], [], _ => rfl
  | [], _ :: _, h => by simp [cmpL] at h
  | _ :: _, [], h => by simp [cmpL] at h
  | x :: xs, y :: ys, h => by
    unfold cmpL at h
    by_cases h1 : cmpP x y = 0
    · rw [if_pos h1] at h
      rw [cmpP_zero h1, cmpL_zero h]
    · rw [if_neg h1] at h; exact absurd h h1
theorem cmpL_bd : ∀ a b : List Pr, -1 ≤ cmpL a b ∧ cmpL a b ≤ 1
  | [], [] => by simp [cmpL]
  | [], _ :: _ => by simp [cmpL]
  | _ :: _, [] => by simp [cmpL]
  | x :: xs, y :: ys => by
    unfold cmpL; split
    · exact cmpL_bd xs ys
    · exact cmpP_bd x y
theorem cmpL_cons {x y : Pr} {xs ys : List Pr} : cmpL (x :: xs) (y :: ys) ≤ 0 ↔ cmpP x y < 0 ∨ (x = y ∧ cmpL xs ys ≤ 0) := by
  conv => lhs; unfold cmpL
  by_cases h : cmpP x y = 0
  · rw [if_pos h]
    have := cmpP_zero h
    simp [this, cmpP_self]
  · rw [if_neg h]
    constructor
    · intro h'; exact .inl (by omega)
    · rintro (h' | ⟨h', _⟩)
      · omega
      · rw [h', cmpP_self] at h; exact absurd rfl h
theorem cmpL_trans : ∀ {a b c : List Pr}, cmpL a b ≤ 0 → cmpL b c ≤ 0 → cmpL a c ≤ 0
  | [], _, [], _, _ => by simp [cmpL]
  | [], _, _ :: _, _, _ => by simp [cmpL]
  | _ :: _, [], _, h, _ => by simp [cmpL] at h
  | _ :: _, _ :: _, [], _, h => by simp [cmpL] at h
  | x :: xs, y :: ys, z :: zs, h1, h2 => by
    rw [cmpL_cons] at *
    rcases h1 with h1 | ⟨rfl, h1⟩
    · rcases h2 with h2 | ⟨rfl, h2⟩
      · exact .inl (cmpP_trans h1 h2)
      · exact .inl h1
    · rcases h2 with h2 | ⟨rfl, h2⟩
      · exact .inl h2
      · exact .inr ⟨rfl, cmpL_trans h1 h2⟩
theorem cmpL_take : ∀ (l : List Pr) (k : Nat), cmpL (l.take k) l = if k < l.length then -1 else 0
  | [], k => by simp [cmpL]
  | x :: r, 0 => by simp [cmpL]
  | x :: r, k + 1 => by
    rw [List.take_succ_cons]
    unfold cmpL
    rw [if_pos (cmpP_self x), cmpL_take r k]
    simp

/-! ### what is made -/
theorem made_len {l : List Pr} (h : wrong l = 0) : (makeS l).length = l.length := (make_perm h).length_eq
theorem made_got {l : List Pr} (h : wrong l = 0) {p : Pr} (hp : p ∈ l) : getS (makeS l) p.1 = some p.2 :=
  (get_perm (wrong_zero h).2.2 (make_perm h) p.1).trans ((get_mem (wrong_zero h).2.2).2 hp)
theorem made_turned {l : List Pr} (h : wrong l = 0) : wrong l.reverse = 0 ∧ makeS l.reverse = makeS l :=
  ⟨by rw [wrong_perm (List.reverse_perm l)]; exact h, make_like h (List.reverse_perm l)⟩
theorem made_again {l : List Pr} (h : wrong l = 0) : wrong (makeS l) = 0 ∧ makeS (makeS l) = makeS l :=
  ⟨sane_wrong (make_sane h), sane_make (make_sane h)⟩
theorem made_no {l : List Pr} (h : wrong l ≠ 0) : saneB l = false := by
  cases hs : saneB l with
  | false => rfl
  | true => exact absurd (sane_wrong hs) h

/-! ### with one more, without one -/
theorem sane_nodup {l : List Pr} (h : saneB l = true) : (nms l).Nodup := ((sane_iff l).1 h).2.2.nodup
theorem one_nodup (n v : ByteArray) : (nms [(n, v)]).Nodup := by simp [nms]
theorem has_one (n v x : ByteArray) : has [(n, v)] x = decide (n = x) := by simp [has]
theorem withP_is {l : List Pr} (h : saneB l = true) (n v : ByteArray) : withP l n v = drop l (fun x => decide (n = x)) ++ [(n, v)] := by
  unfold withP repl
  rw [asL_sane h]
  congr 1
  congr 1
  funext x
  exact has_one n v x
theorem with_wrong {l : List Pr} {n v : ByteArray} (h : saneB l = true) (hw : wrong (withP l n v) ≠ 0) : nameB n = false ∨ 64 < v.size ∨ l.length = 16 := by
  cases hn : nameB n with
  | false => exact .inl rfl
  | true =>
    by_cases hv : 64 < v.size
    · exact .inr (.inl hv)
    · refine .inr (.inr ?_)
      have hl := sane_len h
      obtain ⟨h1, h2, h3⟩ := (sane_iff l).1 h
      by_cases hx : l.length = 16
      · exact hx
      · refine absurd (wrong_of ?_ ?_ ?_) hw
        · rw [withP_is h, large_iff] at *
          have hs := (drop_sub l fun x => decide (n = x)).length_le
          refine ⟨by rw [List.length_append]; simp; omega, ?_⟩
          rw [big_app]
          have : (drop l fun x => decide (n = x)).any bigV = false := by
            rw [List.any_eq_false] at *
            exact fun x hx => h1.2 x ((drop_sub l _).subset hx)
          rw [this]
          simp [bigV]; omega
        · rw [withP_is h, misn_app]
          have : misn (drop l fun x => decide (n = x)) = false := by
            unfold misn at *
            rw [List.any_eq_false] at *
            exact fun x hx => h2 x ((drop_sub l _).subset hx)
          rw [this]
          simp [misn, badN, hn]
        · unfold withP
          rw [asL_sane h]
          exact repl_nodup (sane_nodup h) (one_nodup n v)
theorem with_nodup {l : List Pr} {n v : ByteArray} (hw : wrong (withP l n v) = 0) : (nms (withP l n v)).Nodup := (wrong_zero hw).2.2
theorem with_got {l : List Pr} {n v : ByteArray} (h : saneB l = true) (hw : wrong (withP l n v) = 0) (x : ByteArray) : getS (makeS (withP l n v)) x = if x = n then some v else getS l x := by
  rw [get_perm (with_nodup hw) (make_perm hw)]
  unfold withP
  rw [get_repl, asL_sane h]
  by_cases e : x = n
  · subst e; simp [getS]
  · have : ¬ n = x := fun e' => e e'.symm
    simp [getS, this, e]
theorem drop_perm {l m : List Pr} (h : l.Perm m) (g : ByteArray → Bool) : (drop l g).Perm (drop m g) := h.filter _
theorem drop_app (a b : List Pr) (g : ByteArray → Bool) : drop (a ++ b) g = drop a g ++ drop b g := List.filter_append a b
theorem without_is {l : List Pr} (h : saneB l = true) (n : ByteArray) : without l n = drop l (fun x => decide (x = n)) := by unfold without; rw [asL_sane h]
theorem eq_fun (n : ByteArray) : (fun x : ByteArray => decide (n = x)) = fun x => decide (x = n) := by
  funext x; exact decide_eq_decide.2 ⟨Eq.symm, Eq.symm⟩
theorem drop_idem (l : List Pr) (g : ByteArray → Bool) : drop (drop l g) g = drop l g := by
  rw [drop_drop]; congr 1; funext n; simp
theorem with_without {l : List Pr} {n v : ByteArray} (h : saneB l = true) (hw : wrong (withP l n v) = 0) : without (makeS (withP l n v)) n = without l n := by
  rw [without_is (make_sane hw), without_is h]
  refine ris_unique (((sane_iff _).1 (make_sane hw)).2.2.sublist (drop_sub _ _)) (((sane_iff _).1 h).2.2.sublist (drop_sub _ _)) ?_
  refine (drop_perm (make_perm hw) _).trans ?_
  rw [withP_is h, drop_app, eq_fun, drop_idem]
  simp [drop]
theorem without_sane {l : List Pr} (h : saneB l = true) (n : ByteArray) : saneB (without l n) = true := by
  rw [without_is h]; exact sane_sub h (drop_sub _ _)
theorem without_got {l : List Pr} (h : saneB l = true) (n x : ByteArray) : getS (without l n) x = if x = n then none else getS l x := by
  rw [without_is h, get_drop]; simp
theorem with_len {l : List Pr} {n v : ByteArray} (h : saneB l = true) (hw : wrong (withP l n v) = 0) : (makeS (withP l n v)).length = (without l n).length + 1 := by
  rw [made_len hw, withP_is h, without_is h, eq_fun, List.length_append]; rfl

/-! ### merged -/
theorem repl_none (l : List Pr) : repl l [] = l := by
  unfold repl
  rw [drop_no l _ (fun p _ => rfl), List.append_nil]
theorem merge_is {a b : List Pr} (ha : saneB a = true) (hb : saneB b = true) : merge a b = repl a b := by unfold merge; rw [asL_sane ha, asL_sane hb]
theorem merge_none {a : List Pr} (ha : saneB a = true) : wrong (merge a []) = 0 ∧ makeS (merge a []) = a := by
  rw [merge_is ha sane_nil, repl_none]
  exact ⟨sane_wrong ha, sane_make ha⟩
theorem misn_sub {l m : List Pr} (h : misn l = false) (hs : m.Sublist l) : misn m = false := by
  unfold misn at *
  rw [List.any_eq_false] at *
  exact fun x hx => h x (hs.subset hx)
theorem big_sub {l m : List Pr} (h : l.any bigV = false) (hs : m.Sublist l) : m.any bigV = false := by
  rw [List.any_eq_false] at *
  exact fun x hx => h x (hs.subset hx)
theorem merge_wrong {a b : List Pr} (ha : saneB a = true) (hb : saneB b = true) (hw : wrong (merge a b) ≠ 0) : wrong (merge a b) = 4 ∧ 16 < a.length + b.length := by
  rw [merge_is ha hb] at *
  obtain ⟨a1, a2, a3⟩ := (sane_iff a).1 ha
  obtain ⟨b1, b2, b3⟩ := (sane_iff b).1 hb
  have hm : misn (repl a b) = false := by
    unfold repl
    rw [misn_app, misn_sub a2 (drop_sub _ _), b2]; rfl
  have hn : (nms (repl a b)).Nodup := repl_nodup a3.nodup b3.nodup
  cases hl : large (repl a b) with
  | false => exact absurd (wrong_of hl hm hn) hw
  | true =>
    refine ⟨by unfold wrong; simp [hl], ?_⟩
    have hg : (repl a b).any bigV = false := by
      unfold repl
      rw [big_app, big_sub ((large_iff a).1 a1).2 (drop_sub _ _), ((large_iff b).1 b1).2]; rfl
    unfold large at hl
    rw [hg] at hl
    have hs := (drop_sub a (has b)).length_le
    simp [repl] at hl
    omega
theorem merge_got {a b : List Pr} (ha : saneB a = true) (hb : saneB b = true) (hw : wrong (merge a b) = 0) (x : ByteArray) : getS (makeS (merge a b)) x = (getS b x).or (getS a x) := by
  rw [get_perm (wrong_zero hw).2.2 (make_perm hw), merge_is ha hb, get_repl]
theorem drop_own (b : List Pr) : drop b (has b) = [] := by
  unfold drop
  rw [List.filter_eq_nil_iff]
  intro p hp
  have : has b p.1 = true := has_iff.2 (List.mem_map.2 ⟨p, hp, rfl⟩)
  simp [this]
theorem merge_twice {a b : List Pr} (ha : saneB a = true) (hb : saneB b = true) (hw : wrong (merge a b) = 0) :
    wrong (merge (makeS (merge a b)) b) = 0 ∧ makeS (merge (makeS (merge a b)) b) = makeS (merge a b) := by
  have hp : (merge (makeS (merge a b)) b).Perm (makeS (merge a b)) := by
    rw [merge_is (make_sane hw) hb]
    have h1 : (drop (makeS (merge a b)) (has b)).Perm (drop a (has b)) := by
      refine (drop_perm (make_perm hw) _).trans ?_
      rw [merge_is ha hb]
      unfold repl
      rw [drop_app, drop_own, drop_idem, List.append_nil]
    unfold repl
    refine (h1.append_right b).trans ?_
    refine List.Perm.trans ?_ (make_perm hw).symm
    rw [merge_is ha hb]
    exact List.Perm.refl _
  have h2 := make_sane hw
  exact ⟨by rw [wrong_perm hp]; exact sane_wrong h2, by rw [make_like (sane_wrong h2) hp]; exact sane_make h2⟩

/-! ### cut -/
theorem repl_apart {a b : List Pr} (h : (nms (a ++ b)).Nodup) : repl a b = a ++ b := by
  unfold repl
  rw [drop_no]
  intro p hp
  rw [has_no]
  rw [nms_app, List.nodup_append] at h
  exact fun hm => h.2.2 p.1 (List.mem_map.2 ⟨p, hp, rfl⟩) p.1 hm rfl
theorem cut_sane {l : List Pr} (h : saneB l = true) (k : Nat) : saneB (l.take k) = true ∧ saneB (l.drop k) = true :=
  ⟨sane_sub h (List.take_sublist _ _), sane_sub h (List.drop_sublist _ _)⟩
theorem cut_merge {l : List Pr} (h : saneB l = true) (k : Nat) : wrong (merge (l.take k) (l.drop k)) = 0 ∧ makeS (merge (l.take k) (l.drop k)) = l := by
  obtain ⟨h1, h2⟩ := cut_sane h k
  have e : merge (l.take k) (l.drop k) = l := by
    rw [merge_is h1 h2, repl_apart, List.take_append_drop]
    rw [List.take_append_drop]; exact sane_nodup h
  rw [e]; exact ⟨sane_wrong h, sane_make h⟩
theorem cut_turned {l : List Pr} (h : saneB l = true) (k : Nat) : wrong (merge (l.drop k) (l.take k)) = 0 ∧ makeS (merge (l.drop k) (l.take k)) = l := by
  obtain ⟨h1, h2⟩ := cut_sane h k
  have hp : (l.drop k ++ l.take k).Perm l := by
    have := List.perm_append_comm (l₁ := l.drop k) (l₂ := l.take k)
    rw [List.take_append_drop] at this; exact this
  have e : merge (l.drop k) (l.take k) = l.drop k ++ l.take k := by
    rw [merge_is h2 h1, repl_apart]
    exact (nms_perm hp).nodup_iff.2 (sane_nodup h)
  rw [e]; exact ⟨by rw [wrong_perm hp]; exact sane_wrong h, by rw [make_like (sane_wrong h) hp]; exact sane_make h⟩

/-! ### the document's answer: insertion, and taking away one by one -/
/-- Where a pair goes among those that lie there: behind all whose names are not behind its own. -/
def pos (out : List Pr) (n : ByteArray) : Nat → Nat
  | 0 => 0
  | k + 1 => if blt n (out.getD k default).1 then pos out n k else k + 1
def ins (out : List Pr) (x : Pr) : List Pr := out.take (pos out x.1 out.length) ++ x :: out.drop (pos out x.1 out.length)
theorem pos_le (out : List Pr) (n : ByteArray) : ∀ k, pos out n k ≤ k
  | 0 => Nat.le_refl _
  | k + 1 => by
    unfold pos; split
    · exact Nat.le_succ_of_le (pos_le out n k)
    · exact Nat.le_refl _
theorem pos_behind (out : List Pr) (n : ByteArray) : ∀ k j, pos out n k ≤ j → j < k → blt n (out.getD j default).1 = true
  | 0, j, _, h => by omega
  | k + 1, j, h1, h2 => by
    unfold pos at h1
    split at h1
    · rename_i hb
      by_cases e : j = k
      · subst e; exact hb
      · exact pos_behind out n k j h1 (by omega)
    · omega
theorem pos_ahead (out : List Pr) (n : ByteArray) : ∀ k, 0 < pos out n k → blt n (out.getD (pos out n k - 1) default).1 = false
  | 0, h => by simp [pos] at h
  | k + 1, h => by
    unfold pos at h ⊢
    split
    · rename_i hb
      rw [if_pos hb] at h
      exact pos_ahead out n k h
    · rename_i hb
      simpa using hb
theorem ins_perm (out : List Pr) (x : Pr) : (ins out x).Perm (out ++ [x]) := by
  unfold ins
  refine List.perm_middle.trans ?_
  rw [List.take_append_drop]
  exact (List.perm_append_comm (l₁ := [x]) (l₂ := out))
theorem ins_ris {out : List Pr} {x : Pr} (h : Ris out) (hx : x.1 ∉ nms out) : Ris (ins out x) := by
  have hle := pos_le out x.1 out.length
  have hbe := pos_behind out x.1 out.length
  have hah := pos_ahead out x.1 out.length
  unfold ins
  generalize pos out x.1 out.length = k at hle hbe hah ⊢
  have hget : ∀ (i j : Nat) (hi : i < out.length) (hj : j < out.length), i < j → blt out[i].1 out[j].1 = true := fun i j hi hj hij => List.pairwise_iff_getElem.1 h i j hi hj hij
  have hD : ∀ (j : Nat) (hj : j < out.length), out.getD j default = out[j] := fun j hj => by
    rw [List.getD_eq_getElem?_getD, List.getElem?_eq_getElem hj]; rfl
  have h1 : ∀ p ∈ out.take k, blt p.1 x.1 = true := by
    intro p hp
    obtain ⟨i, hi, rfl⟩ := List.mem_iff_getElem.1 hp
    rw [List.length_take] at hi
    rw [List.getElem_take]
    have hio : i < out.length := by omega
    have hk := hah (by omega)
    rw [hD (k - 1) (by omega)] at hk
    have hle' : blt x.1 out[i].1 = false := by
      by_cases e : i = k - 1
      · subst e; exact hk
      · exact le_trans' (a := out[i].1) (b := out[k - 1].1) (blt_asymm (hget i (k - 1) hio (by omega) (by omega))) hk
    rcases blt_total out[i].1 x.1 with h' | h' | h'
    · exact h'
    · exact absurd (List.mem_map.2 ⟨out[i], List.getElem_mem hio, h'⟩) hx
    · rw [h'] at hle'; cases hle'
  have h2 : ∀ p ∈ out.drop k, blt x.1 p.1 = true := by
    intro p hp
    obtain ⟨i, hi, rfl⟩ := List.mem_iff_getElem.1 hp
    rw [List.length_drop] at hi
    rw [List.getElem_drop]
    have := hbe (k + i) (by omega) (by omega)
    rw [hD (k + i) (by omega)] at this
    exact this
  unfold Ris
  rw [List.pairwise_append]
  refine ⟨h.sublist (List.take_sublist _ _), List.pairwise_cons.2 ⟨h2, h.sublist (List.drop_sublist _ _)⟩, fun p hp q hq => ?_⟩
  rcases List.mem_cons.1 hq with rfl | hq
  · exact h1 p hp
  · exact blt_trans (h1 p hp) (h2 q hq)
def inss (out l : List Pr) : List Pr := l.foldl ins out
theorem inss_perm : ∀ (l out : List Pr), (inss out l).Perm (out ++ l)
  | [], out => by simp [inss]
  | x :: r, out => by
    refine (inss_perm r (ins out x)).trans ?_
    refine ((ins_perm out x).append_right r).trans ?_
    simp
theorem inss_ris : ∀ (l out : List Pr), Ris out → (nms (out ++ l)).Nodup → Ris (inss out l)
  | [], _, h, _ => h
  | x :: r, out, h, hn => by
    refine inss_ris r (ins out x) (ins_ris h ?_) ?_
    · rw [nms_app, List.nodup_append] at hn
      exact fun hm => hn.2.2 x.1 hm x.1 (by simp [nms]) rfl
    · refine (nms_perm ?_).nodup_iff.2 hn
      refine ((ins_perm out x).append_right r).trans ?_
      simp
theorem inss_make {l : List Pr} (h : wrong l = 0) : inss [] l = makeS l :=
  (make_is h (by simpa using inss_perm l []) (inss_ris l [] List.Pairwise.nil (by simpa using (wrong_zero h).2.2))).symm
theorem ins_len (out : List Pr) (x : Pr) : (ins out x).length = out.length + 1 := by
  rw [(ins_perm out x).length_eq, List.length_append]; rfl
theorem inss_snoc (out l : List Pr) (x : Pr) : inss out (l ++ [x]) = ins (inss out l) x := by simp [inss, List.foldl_append]

def dels (a b : List Pr) : List Pr := b.foldl (fun o p => drop o fun x => decide (x = p.1)) a
theorem dels_is : ∀ (b a : List Pr), dels a b = drop a (has b)
  | [], a => by
    unfold dels
    rw [drop_no a _ (fun p _ => rfl)]; rfl
  | p :: r, a => by
    show dels (drop a fun x => decide (x = p.1)) r = _
    rw [dels_is r, drop_drop]
    congr 1
    funext n
    show (decide (n = p.1) || has r n) = has (p :: r) n
    unfold has
    rw [List.any_cons]
    congr 1
    exact decide_eq_decide.2 ⟨Eq.symm, Eq.symm⟩
theorem dels_sub (b a : List Pr) : (dels a b).Sublist a := by rw [dels_is]; exact drop_sub _ _
theorem dels_snoc (a b : List Pr) (p : Pr) : dels a (b ++ [p]) = drop (dels a b) fun x => decide (x = p.1) := by simp [dels, List.foldl_append]
theorem merge_dels (a b : List Pr) : merge a b = dels (asL a) (asL b) ++ asL b := by rw [dels_is]; rfl
theorem with_without_app (l : List Pr) (n v : ByteArray) : withP l n v = without l n ++ [(n, v)] := by
  unfold withP repl without
  congr 1
  congr 1
  rw [← eq_fun]
  funext x
  exact has_one n v x

end Go.Proofs.YtgahahichplpkaaDoor.Lp
