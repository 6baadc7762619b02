/-
  The walks of label.Make's comparison and of label.Make: a copy, sorted by slices.SortFunc.
-/
import Derived.Test.YthknoanhljonoaaLabMap
import Derived.Test.YthknoanhljonoaaShelf
import Derived.Shelf.SlicesE.Clone
import Derived.Shelf.SlSortCmp.WholeK
import Derived.Shelf.SlSortCmp.NoneTotal
namespace Go.Proofs.Ythknoanhljonoaa
open Go.RowKit Go.Maps Go.Proofs.Ythknoanhljonoaa.Lp Go.Sort

theorem scmp_of (a b : ByteArray) (z : Int) (hz : cmpT a b = z) (w : World) :
    Calls Try.prog 35 #[.string a, .string b] w fun e w' => e = .returned (.int .i64 z) ∧ w' = w := by
  refine (Try.strings_Compare a b w).mono ?_
  rintro e w' ⟨rfl, rfl⟩
  rw [cmpT_eq, hz]
  exact ⟨rfl, rfl⟩

theorem byname_of (x y : Pr) (W : World) :
    Calls Try.prog 34 #[.agg (enc x).toArray, .agg (enc y).toArray] W fun e w' => e = .returned (.int .i64 (cmpT x.1 y.1)) ∧ ∃ q os', w' = grow (W.drewN q) os' := by
  obtain ⟨N, V⟩ := x
  obtain ⟨M, U⟩ := y
  show Calls Try.prog 34 #[.agg #[.string N, .string V], .agg #[.string M, .string U]] W _
  obtain ⟨z, hz⟩ : ∃ z, cmpT N M = z := ⟨_, rfl⟩
  have HZ := Lib.hid hz
  show Calls _ _ _ _ fun e w' => e = .returned (.int .i64 (cmpT N M)) ∧ _
  rw [hz]
  clear hz
  go_enter Try.func34, Try.ntmps34
  go_wp2_with (go_at_call 35; refine (scmp_of N M z HZ.out _).mono ?_; rintro e w' ⟨rfl, rfl⟩)
  go_ret
  exact ⟨rfl, 0, _, by rw [alloc_eq_grow, alloc_eq_grow, grow_grow]; rfl⟩

theorem byname_swo : SWO (ltOf fun x y : Pr => cmpT x.1 y.1) := by
  have h : ∀ x y : Pr, ltOf (fun x y : Pr => cmpT x.1 y.1) x y = blt x.1 y.1 := fun x y => by
    unfold ltOf
    rw [Bool.eq_iff_iff, decide_eq_true_eq, cmpT_neg]
  refine ⟨fun x => ?_, fun x y z h1 h2 => ?_, fun x y z h1 h2 => ?_⟩
  · rw [h]; exact blt_irrefl _
  · rw [h] at *; exact blt_trans h1 h2
  · rw [h] at *; exact le_trans' h2 h1
theorem eg34 : ∀ args w, (callFunc 34 args).run Try.prog w = .ok (.enter 34 args) w := enters_of Try.func34 (by kernel_rfl) rfl

/-! ### the row that is sorted -/
theorem flat_cells (l : List Pr) (j : Nat) (hj : j < (flatK enc 2 l.toArray).size) : (cells l)[j]? = some ((flatK enc 2 l.toArray)[j]!) := by
  have hj' : j < l.length * 2 := by simpa using hj
  rw [get_flatK enc 2 l.toArray j (by simpa using hj')]
  have hk : j / 2 < l.length := by omega
  have he : (l.toArray)[j / 2]! = l[j / 2] := by
    rw [getElem!_pos l.toArray (j / 2) (by simpa using hk)]
    simp
  rw [he]
  obtain ⟨h0, h1⟩ := cells_at l (j / 2) hk
  rcases (show j % 2 = 0 ∨ j % 2 = 1 by omega) with e | e
  · rw [show j / 2 * 2 = j by omega] at h0
    rw [h0, e]; rfl
  · rw [show j / 2 * 2 + 1 = j by omega] at h1
    rw [h1, e]; rfl
theorem Own.holds {w : World} {base blk c : Nat} {l : List Pr} (h : Own w base (.slice (some ⟨blk, 0, none⟩) l.length c) l) (hn : l ≠ []) : HoldsK enc 2 w blk 0 l.toArray ∧ blk < w.heap.size ∧ base ≤ blk := by
  have h0 : 0 < l.length := List.length_pos_iff.2 hn
  rcases h.2 with ⟨hv, _⟩ | ⟨g, cap, cur, hv, hb, hg, hr⟩
  · injection hv with h1; cases h1
  · have : blk = g := by injection hv with h1; injection h1 with h1; injection h1
    subst this
    refine ⟨fun j hj => ⟨?_, by simp [World.frozen?, hg]⟩, (Array.getElem?_eq_some_iff.1 hg).1, hb⟩
    have := World.ownsRow.cells h (g := blk) rfl j _ (flat_cells l j hj)
    rw [Addr.add_lit] at this
    exact this
theorem holds_rd {w : World} {blk : Nat} {l : List Pr} (h : HoldsK enc 2 w blk 0 l.toArray) (hlt : blk < w.heap.size) (hlen : l.length ≤ 9223372036854775807) (hs : ∀ p ∈ l, p.1.size ≤ 9223372036854775807 ∧ p.2.size ≤ 9223372036854775807) :
    Rd w w.heap.size (some ⟨blk, 0, none⟩) l :=
  ⟨hlen, hs, fun _ => ⟨blk, 0, rfl, hlt, fun j u hu => by
    have hj : j < (flatK enc 2 l.toArray).size := by
      have := (List.getElem?_eq_some_iff.1 hu).1
      rw [cells_len] at this
      simpa using this
    have := (h j hj).1
    rw [flat_cells l j hj] at hu
    cases hu
    exact this⟩⟩
theorem grown_sorted {w : World} {g n : Nat} {os : Array Obj} (d : Array Pr) : w.grownBy (sortWorldK enc 2 w g 0 n d os) (some g) := by
  refine ⟨rfl, rfl, rfl, by simp [sortWorldK, putRowK], fun k hk hne => ?_⟩
  unfold sortWorldK
  rw [heap_grow_old _ _ (by simpa [putRowK] using hk)]
  have : g ≠ k := fun e => hne (by rw [e])
  simp [putRowK, putRow, mapBlock, Sort.ahead, Array.getElem?_modify, this]

/-- slices.SortFunc by names, over a row of the call's own whose names are all unlike: it holds the pairs in order of their names. -/
theorem sort_of (base blk c n : Nat) (l : List Pr) (hn : n = l.length) (h0 : l ≠ []) (hd : (nms l).Nodup) (hlen : l.length ≤ 1000) (hs : ∀ p ∈ l, p.1.size ≤ 9223372036854775807 ∧ p.2.size ≤ 9223372036854775807) (w : World)
    (ho : Own w base (.slice (some ⟨blk, 0, none⟩) n c) l) (hbase : base ≤ w.heap.size) :
    Calls Try.prog 33 #[.slice (some ⟨blk, 0, none⟩) n c, .func (.func 34) #[] #[]] w fun e w' => e = .returned (.tuple #[]) ∧ Hid (Rd w' w'.heap.size (some ⟨blk, 0, none⟩) (sorted l)) ∧ Below base w w' := by
  subst hn
  obtain ⟨hH, hblk, hbb⟩ := Own.holds ho h0
  have hcon := AnyQ.slices_SortFunc Try.sortG 2 Try.isAgg38 Try.sizeOf38 enc (fun _ => rfl) (fun x v hv => by
    simp only [enc, List.mem_cons, List.not_mem_nil, or_false] at hv
    rcases hv with rfl | rfl <;> rfl) (fun x y : Pr => cmpT x.1 y.1) byname_swo 34 #[] blk 0 c l.toArray w eg34 (fun _ _ _ _ x y => byname_of x y _) hH hblk (by simp; omega)
  have e : l.toArray.size = l.length := by simp
  rw [e] at hcon
  refine hcon.mono ?_
  rintro e w' ⟨rfl, d', m, os, hp, hsrt, rfl⟩
  obtain ⟨hsz, _, hperm⟩ := hp
  have hz : d'.size = l.length := by rw [hsz]; simp
  have hpl : d'.toList.Perm l := by
    have h1 : (d'.extract 0 l.length).toList = d'.toList := by rw [← hz]; simp
    have h2 : (l.toArray.extract 0 l.length).toList = l := by simp
    rw [h1, h2] at hperm
    exact hperm
  have hris : Ris d'.toList := by
    have hn2 : (nms d'.toList).Nodup := (nms_perm hpl).nodup_iff.2 hd
    unfold nms at hn2
    rw [List.nodup_iff_pairwise_ne, List.pairwise_map] at hn2
    unfold Ris
    rw [List.pairwise_iff_getElem] at hn2 ⊢
    intro i j hi hj hij
    have h3 := hsrt i j (Nat.zero_le _) hij (by rw [← hz]; simpa using hj)
    rw [getElem!_pos d' i (by simpa using hi), getElem!_pos d' j (by simpa using hj)] at h3
    have h4 : blt d'.toList[j].1 d'.toList[i].1 = false := by
      unfold ltOf at h3
      simp only [decide_eq_false_iff_not] at h3
      rw [cmpT_neg] at h3
      simpa using h3
    rcases blt_total d'.toList[i].1 d'.toList[j].1 with h | h | h
    · exact h
    · exact absurd h (hn2 i j hi hj hij)
    · rw [h4] at h; cases h
  have hso : sorted l = d'.toList := sorted_eq hris hpl
  refine ⟨rfl, Lib.hid ?_, (Below.refl _ _).grown (grown_sorted d') hbase (fun k hk => by injection hk with hk; omega)⟩
  rw [hso]
  have hH2 : HoldsK enc 2 (sortWorldK enc 2 w blk 0 m d' os) blk 0 d'.toList.toArray := by
    have := holdsK_sortWorldK_c enc 2 w blk 0 l.toArray d' m os hH hblk (by rw [hz]; simp)
    simpa using this
  refine holds_rd hH2 (Nat.lt_of_lt_of_le hblk (size_sortWorldK_c enc 2 w blk 0 m d' os)) ?_ ?_
  · rw [hpl.length_eq]; omega
  · exact fun p hp => hs p (hpl.mem_iff.1 hp)

/-! ### copied -/
theorem own_made (w : World) : Own (w.alloc (.cells #[] 38)) w.heap.size (.slice (some ⟨w.heap.size, 0, none⟩) 0 0) [] := World.ownsRow_made w #[] 0 (Nat.le_refl _) (Nat.zero_le _) (by simp)
theorem clone_of (A : Option Addr) (c n : Nat) (l : List Pr) (hn : n = l.length) (hlen : l.length ≤ 1000) (w : World) (hr : Rd w w.heap.size A l) :
    Calls Try.prog 32 #[.slice A n c] w fun e w' => ∃ v, e = .returned v ∧ Hid (Own w' w.heap.size v l) ∧ Below w.heap.size w w' := by
  have HN := Lib.hid hn
  clear hn
  have q22 : ∀ (w : World) (a : Option Addr) (n c n' c' : Nat), (binOp .eql 22 (.slice a n c) (.slice none n' c')).run Try.prog w = .ok (.bool a.isNone) w := fun w a n c n' c' => Lib.run_eql_slice_nil w _ _ a n c n' c' Try.underlying22
  cases A with
  | none =>
    have hm : l = [] := by
      cases l with
      | nil => rfl
      | cons p r => obtain ⟨b, off, e, _⟩ := hr.mem (by simp); cases e
    subst hm
    go_enter Try.func32, Try.ntmps32
    go_wp2_with fail
    go_ret
    exact ⟨_, rfl, Lib.hid (Own.nil _ _), Below.refl _ _⟩
  | some ad =>
    go_enter Try.func32, Try.ntmps32
    go_wp2_with (at_builtin; refine wp_app _ rfl _ _ rfl w.heap.size _ [] l rfl (own_made w) _ n c HN.out rfl (hr.on (below_alloc _ _)) (by simp; omega) (by simp) ?_; intro v2 w2 hown2 hb2)
    go_ret
    exact ⟨_, rfl, Lib.hid hown2, (below_alloc _ _).trans hb2⟩

/-! ### made -/
theorem make_len (l : List Pr) : (makeS l).length ≤ 16 ∨ wrong l ≠ 0 := by
  by_cases h : wrong l = 0
  · refine .inl ?_
    rw [made_len h]
    have := ((large_iff l).1 (wrong_zero h).1).1
    exact this
  · exact .inr h

set_option maxHeartbeats 1600000 in
theorem make_of (A : Option Addr) (c n : Nat) (l : List Pr) (hn : n = l.length) (z : Int) (hz : wrong l = z) (w : World) (hr : Rd w w.heap.size A l) :
    Calls Try.prog 12 #[.slice A n c] w fun e w' => ∃ A' c', e = .returned (.tuple #[.slice A' (makeS l).length c', .int .i64 z]) ∧ Hid (Rd w' w'.heap.size A' (makeS l)) ∧ Below w.heap.size w w' := by
  have HN := Lib.hid hn
  have HZ := Lib.hid hz
  clear hn hz
  cases h1 : large l with
  | true =>
    have hz : z = 4 := by rw [← HZ.out]; unfold wrong; simp [h1]
    have HM : Hid (makeS l = []) := Lib.hid (make_no (by rw [HZ.out, hz]; omega))
    subst hz
    go_enter Try.func12, Try.ntmps12
    go_wp2_with (go_at_call 29; refine (large_of A c n l HN.out true h1 _ hr).mono ?_; rintro e w1 ⟨rfl, hw1⟩)
    go_ret2
    exact ⟨none, 0, by rw [HM.out]; rfl, by rw [HM.out]; exact Lib.hid (Rd.none_ _ _ _), hw1⟩
  | false =>
    cases h2 : misn l with
    | true =>
      have hz : z = 7 := by rw [← HZ.out]; unfold wrong; simp [h1, h2]
      have HM : Hid (makeS l = []) := Lib.hid (make_no (by rw [HZ.out, hz]; omega))
      subst hz
      go_enter Try.func12, Try.ntmps12
      go_wp2_with fail
      refine (large_of A c n l HN.out false h1 _ hr).mono ?_
      rintro e w1 ⟨rfl, hw1⟩
      go_wp2_with fail
      refine (misn_of A c n l HN.out true h2 _ (hr.on hw1)).mono ?_
      rintro e w2 ⟨rfl, hw2⟩
      go_wp2_with fail
      go_ret2
      exact ⟨none, 0, by rw [HM.out]; rfl, by rw [HM.out]; exact Lib.hid (Rd.none_ _ _ _), below_on hw1 hw2⟩
    | false =>
      have h16 : n ≤ 16 := by
        have := ((large_iff l).1 h1).1
        have := HN.out
        omega
      have HSz := Lib.hid (set_size l)
      go_enter Try.func12, Try.ntmps12
      go_wp2_with fail
      refine (large_of A c n l HN.out false h1 _ hr).mono ?_
      rintro e w1 ⟨rfl, hw1⟩
      go_wp2_with fail
      refine (misn_of A c n l HN.out false h2 _ (hr.on hw1)).mono ?_
      rintro e w2 ⟨rfl, hw2⟩
      have hw12 := below_on hw1 hw2
      go_wp2_with fail
      refine (names_of A c n l HN.out (by omega) _ (hr.on hw12)).mono ?_
      rintro e w3 ⟨b, m, rfl, HM3, hw3⟩
      have hw13 := below_on hw12 hw3
      have hlen := World.ownsMap.len HM3.out Try.underlying43 3
      obtain ⟨sz, hsz⟩ : ∃ sz, Maps.size (set l) = sz := ⟨_, rfl⟩
      rw [hsz] at hlen
      have HS : Hid (sz ≤ n ∧ (sz < n ↔ twice l = true)) := Lib.hid (by
        have := HSz.out
        rw [hsz, ← HN.out] at this
        exact this)
      clear hsz hw1 hw2 hw3 hw12
      cases h3 : twice l with
      | true =>
        have hz : z = 6 := by rw [← HZ.out]; unfold wrong; simp [h1, h2, h3]
        have HM : Hid (makeS l = []) := Lib.hid (make_no (by rw [HZ.out, hz]; omega))
        have hlt : sz < n := (HS.out.2).2 h3
        have hltz : (sz : Int) < (n : Int) := by omega
        subst hz
        go_wp2_with fail
        go_ret2
        exact ⟨none, 0, by rw [HM.out]; rfl, by rw [HM.out]; exact Lib.hid (Rd.none_ _ _ _), hw13⟩
      | false =>
        have hz : z = 0 := by rw [← HZ.out]; unfold wrong; simp [h1, h2, h3]
        have HM : Hid (makeS l = sorted l) := Lib.hid (make_eq (by rw [HZ.out, hz]))
        have HD : Hid ((nms l).Nodup) := Lib.hid (by unfold twice at h3; simpa using h3)
        have hge : ¬ sz < n := fun h => by have := (HS.out.2).1 h; rw [h3] at this; cases this
        have hgez : ¬ (sz : Int) < (n : Int) := by omega
        subst hz
        go_wp2_with fail
        refine (clone_of A c n l HN.out (by have := HN.out; omega) _ (hr.on hw13)).mono ?_
        rintro e w4 ⟨v, rfl, HO, hw4⟩
        have hw14 := below_on hw13 hw4
        obtain ⟨A', c', rfl⟩ := Own.slice HO.out
        rw [← HN.out] at HO ⊢
        by_cases h0 : l = []
        · have hn0 : n = 0 := by rw [HN.out, h0]; rfl
          subst hn0
          have HM0 : Hid (makeS l = []) := Lib.hid (by rw [HM.out, h0]; exact List.length_eq_zero_iff.1 (by rw [(sorted_perm []).length_eq]; rfl))
          clear h0
          go_wp2_with fail
          refine (AnyF.slices_SortFunc_none Try.sortG A' c' _ _).mono ?_
          rintro e w5 ⟨rfl, rfl⟩
          go_wp2_with fail
          go_ret2
          exact ⟨A', c', by rw [HM0.out]; rfl, by rw [HM0.out]; exact Lib.hid (Rd.none_ _ _ _), hw14⟩
        · have hpos : 0 < n := by rw [HN.out]; exact List.length_pos_iff.2 h0
          obtain ⟨blk, rfl⟩ : ∃ blk, A' = some ⟨blk, 0, none⟩ := by
            rcases HO.out.2 with ⟨hv, e⟩ | ⟨g, cap, cur, hv, _⟩
            · rw [← HN.out] at e; omega
            · injection hv with hv; exact ⟨g, hv⟩
          have H0 := Lib.hid h0
          clear h0
          go_wp2_with fail
          refine (sort_of w3.heap.size blk c' n l HN.out H0.out HD.out (by have := HN.out; omega) hr.size _ HO.out hw4.size).mono ?_
          rintro e w5 ⟨rfl, HR5, hw5⟩
          go_wp2_with fail
          go_ret2
          refine ⟨_, c', ?_, by rw [HM.out]; exact HR5, hw14.trans (hw5.mono hw13.size)⟩
          rw [HM.out, (sorted_perm l).length_eq, ← HN.out]
          rfl
end Go.Proofs.Ythknoanhljonoaa
