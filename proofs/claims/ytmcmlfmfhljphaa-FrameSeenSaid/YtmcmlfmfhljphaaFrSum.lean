/-
  The walks of Step, Update and Sum of layer crc as they landed: the table of 256 by a function, the steps by octets.
-/
import Derived.Test.YtmcmlfmfhljphaaFrCon
import Derived.Deep.WholeRow
import Derived.Deep.MidRow
import Derived.Laws.ResultCell
namespace Go.Proofs.Ytmcmlfmfhljphaa
open Go.RowKit Go.Proofs.Ytmcmlfmfhljphaa.Kp

/-! ### the table as cells -/
def tabC (i : Nat) : Array Value := ((List.range 256).map fun j => if j < i then Value.int .u32 ((it 8 j : Nat) : Int) else .int .u32 0).toArray
theorem tabC_size (i : Nat) : (tabC i).size = 256 := by simp [tabC]
theorem tabC_at (i j : Nat) (hj : j < 256) : (tabC i)[j]? = some (if j < i then Value.int .u32 ((it 8 j : Nat) : Int) else .int .u32 0) := by
  unfold tabC
  rw [List.getElem?_toArray, List.getElem?_map, List.getElem?_range hj]; rfl
theorem tabC_zero : Array.replicate 256 (Value.int .u32 0) = tabC 0 := by
  apply Array.ext_getElem?
  intro j
  by_cases hj : j < 256
  · rw [tabC_at 0 j hj, Array.getElem?_replicate, if_pos hj, if_neg (Nat.not_lt_zero j)]
  · rw [Array.getElem?_eq_none (by simp; omega), Array.getElem?_eq_none (by rw [tabC_size]; omega)]
theorem tabC_set (i : Nat) (hi : i < 256) : (tabC i).setIfInBounds i (.int .u32 ((it 8 i : Nat) : Int)) = tabC (i + 1) := by
  apply Array.ext_getElem?
  intro j
  rw [Array.getElem?_setIfInBounds]
  by_cases hj : j < 256
  · rw [tabC_at (i + 1) j hj]
    by_cases h : i = j
    · subst h
      rw [if_pos rfl, if_pos (by rw [tabC_size]; omega), if_pos (Nat.lt_succ_self i)]
    · rw [if_neg h, tabC_at i j hj]
      by_cases h2 : j < i
      · rw [if_pos h2, if_pos (by omega)]
      · rw [if_neg h2, if_neg (by omega)]
  · rw [show (tabC (i + 1))[j]? = none from Array.getElem?_eq_none (by rw [tabC_size]; omega), if_neg (by omega), Array.getElem?_eq_none (by rw [tabC_size]; omega)]
theorem tabC_one (i : Nat) : (tabC i).all (·.oneCell') = true := by
  refine Array.all_eq_true_iff_forall_mem.2 fun v hv => ?_
  unfold tabC at hv
  rw [List.mem_toArray, List.mem_map] at hv
  obtain ⟨j, _, rfl⟩ := hv
  split <;> rfl
theorem zero_tab : ∀ w, (zeroValue 52).run Try.prog w = .ok (.agg (tabC 0)) w :=
  fun w => by rw [← tabC_zero]; exact (zero_of_info (n := 256) (by kernel_rfl)).1 w
theorem size_tab : (Try.prog.info? 52).map (·.size) = some 256 := (zero_of_info (P := Try.prog) (v := .agg (Array.replicate 256 (.int .u32 0))) (by kernel_rfl)).2

set_option maxHeartbeats 1600000 in
theorem eight_of (cz : Int) (c : Nat) (hcz : cz = (c : Int)) (hc : c < 4294967296) (z : Nat) (hz : it 8 c = z) (w : World) :
    Calls Try.prog 25 #[.int .u32 cz] w fun e w' => e = .returned (.int .u32 (z : Int)) ∧ w' = w := by
  subst hcz
  have HZ := Lib.hid hz
  clear hz
  go_enter Try.func25, Try.ntmps25
  go_wp2_with fail
  go_loopg [0, 3, 4] 8 (fun g s0 s3 s4 wx => ∃ (i v : Nat), i + g = 8 ∧ s4 = .int .i64 i ∧ s0 = .int .u32 v ∧ v < 4294967296 ∧ Hid (it g v = z) ∧ wx = w)
  case atStart => exact ⟨0, c, by omega, rfl, rfl, hc, HZ, rfl⟩
  case round =>
    obtain ⟨i, v, hi, rfl, rfl, hv, HI, rfl⟩ := hrel
    cases gk with
    | zero =>
      obtain rfl : i = 8 := by omega
      obtain rfl : v = z := HI.out
      go_wp2_with fail
      go_ret
      exact ⟨rfl, rfl⟩
    | succ g =>
      have hlt : (i : Int) < 8 := by omega
      obtain ⟨h, hh⟩ : ∃ h, v / 2 = h := ⟨_, rfl⟩
      have e2 : (v : Int) / 2 = (h : Int) := by omega
      have hhl : h < 2147483648 := by omega
      by_cases hodd : v % 2 = 1
      · have e1 : bits .and .u32 (v : Int) 1 = 1 := by rw [low1 hv, hodd]; rfl
        obtain ⟨u, hu⟩ : ∃ u, h ^^^ 3988292384 = u := ⟨_, rfl⟩
        have hul : u < 4294967296 := by rw [← hu]; exact xor_lt (by omega) (by omega)
        have e3 : bits .xor .u32 (h : Int) 3988292384 = (u : Int) := by rw [← hu]; exact x32 (b := 3988292384) (by omega) (by omega)
        have HO : Hid (one v = u) := Lib.hid (by unfold one; rw [if_pos hodd, hh, hu])
        clear hu hh hodd
        go_wp2_with fail
        go_roundg g
        case measure => omega
        case rel => exact ⟨i + 1, u, by omega, by simp, rfl, hul, Lib.hid (by rw [← HI.out]; show it g u = it g (one v); rw [HO.out]), rfl⟩
      · have e1 : bits .and .u32 (v : Int) 1 = 0 := by rw [low1 hv, show v % 2 = 0 by omega]; rfl
        have HO : Hid (one v = h) := Lib.hid (by unfold one; rw [if_neg hodd, hh])
        clear hh hodd
        go_wp2_with fail
        go_roundg g
        case measure => omega
        case rel => exact ⟨i + 1, h, by omega, by simp, rfl, by omega, Lib.hid (by rw [← HI.out]; show it g h = it g (one v); rw [HO.out]), rfl⟩

theorem setRow_under (w : World) (b : Nat) (c : Array Value) (o : Obj) (hb : b < w.heap.size) : (w.alloc o).setRow b c = (w.setRow b c).alloc o := by
  simp only [World.setRow, World.alloc]
  congr 1
  apply Array.ext_getElem?
  intro i
  simp only [Array.getElem?_modify, Array.getElem?_push, Array.size_modify]
  by_cases h : b = i
  · subst h
    simp [show ¬ b = w.heap.size by omega]
  · simp [h]
theorem results_cell {fn : Func} {p : Tmp} {ty : TypeId} (h : fn.results = #[.cell p ty]) (tmps : Array Value) (P : Program) (w : World) :
    (results fn tmps).run P w = ((asAddr (tmps.getD p undef)).run P w).andThen fun a w₁ => (loadVar ty a).run P w₁ := by
  simp only [results, h]
  simp [Sem.run_bind, Result.andThen]
theorem run_under (w : World) (c c' : Array Value) (o : Obj) (hc : c.size = 256) (hc' : c'.size = 256) (h1 : c'.all (·.oneCell') = true) :
    (storeCells ⟨w.heap.size, 0, none⟩ c'.toList).run Try.prog ((w.alloc (.cells c 52)).alloc o) = .ok () ((w.alloc (.cells c' 52)).alloc o) := by
  have hb : ((w.alloc (.cells c 52)).alloc o).heap[w.heap.size]? = some (.cells c 52) := by
    show ((w.heap.push _).push _)[w.heap.size]? = _
    simp [Array.getElem?_push]
  rw [run_storeCells_from w.heap.size 52 c'.toList 0 c _ hb (by rw [Array.length_toList, hc, hc']) (fun v hv => (Array.all_eq_true_iff_forall_mem.1 h1) v (by simpa using hv)), List.take_zero, List.nil_append, Array.toArray_toList,
    setRow_under _ _ _ _ (by show _ < (w.heap.push _).size; rw [Array.size_push]; omega), World.setRow_alloc_new]

set_option maxHeartbeats 4000000 in
set_option maxRecDepth 1000000 in
theorem table_of (w : World) :
    Calls Try.prog 24 #[] w fun e w' => e = .returned (.agg (tabC 256)) ∧ w' = (w.alloc (.cells (tabC 256) 52)).alloc (.cells (tabC 256) 52) := by
  have hz := zero_tab
  go_enter Try.func24, Try.ntmps24
  go_wp2_with fail
  clear hz
  go_loopg [2, 3] 256 (fun g s2 s3 wx => ∃ i : Nat, i + g = 256 ∧ s3 = .int .i64 i ∧ wx = (w.alloc (.cells (tabC 0) 52)).alloc (.cells (tabC i) 52))
  case atStart => exact ⟨0, by omega, rfl, rfl⟩
  case round =>
    obtain ⟨i, hi, rfl, rfl⟩ := hrel
    cases gk with
    | zero =>
      obtain rfl : i = 256 := by omega
      clear hi
      go_wp2_with fail
      refine wp_load_mid 52 _ rfl (w.heap.size + 1) 0 rfl (tabC 256).toList _ ?_ Try.underlying52 rfl (by rw [Array.length_toList, tabC_size]; exact size_tab) ?_
      · intro j v hv
        rw [Nat.zero_add, World.cell?_alloc_at _ _ _ _ (by show _ = (w.heap.push _).size; rw [Array.size_push])]
        simpa using hv
      rw [Array.toArray_toList]
      go_wp2_with fail
      rw [run_under w (tabC 0) (tabC 256) _ (tabC_size 0) (tabC_size 256) (tabC_one 256), Result.andThen_ok, Oper.upon_skip]
      go_wp2_with fail
      refine bodyPost_ret (v := .agg (tabC 256)) ?_ rfl ⟨rfl, rfl⟩
      rw [results_cell rfl]
      have hld := run_loadVar_mid (P := Try.prog) ((w.alloc (.cells (tabC 256) 52)).alloc (.cells (tabC 256) 52)) w.heap.size 0 52 (tabC 256).toList _ (fun j v hv => by
        rw [Nat.zero_add, World.cell?_alloc_lt _ _ _ (by show w.heap.size < (w.heap.push _).size; rw [Array.size_push]; omega), World.cell?_alloc_at _ _ _ _ rfl]
        simpa using hv) Try.underlying52 rfl (by rw [Array.length_toList, tabC_size]; exact size_tab)
      rw [Array.toArray_toList] at hld
      simp [asAddr, Act.put, Result.andThen, hld]
    | succ g =>
      have hlt : i < 256 := by omega
      have hltz : (i : Int) < 256 := by omega
      obtain ⟨u, hu⟩ : ∃ u, it 8 i = u := ⟨_, rfl⟩
      have HS : Hid ((tabC i).setIfInBounds i (.int .u32 (u : Int)) = tabC (i + 1)) := Lib.hid (by rw [← hu]; exact tabC_set i hlt)
      have hwr : IntKind.u32.wrap (i : Int) = (i : Int) := by rw [IntKind.wrap_u32']; omega
      have hsz := tabC_size i
      have HU := Lib.hid hu
      clear hu
      go_wp2_with fail
      refine (eight_of _ i rfl (by omega) u HU.out _).mono ?_
      rintro e w2 ⟨rfl, rfl⟩
      go_wp2_with fail
      go_roundg g
      case measure => omega
      case rel => exact ⟨i + 1, by omega, by simp, by rw [HS.out]⟩

set_option maxHeartbeats 1600000 in
set_option maxRecDepth 1000000 in
theorem updC : UpdC := by
  intro cz c A n k l z hcz hc hn hz w hr
  subst hcz
  have HZ := Lib.hid hz
  have HN := Lib.hid hn
  have HS := Lib.hid hr.small
  have hlen : n ≤ 9223372036854775807 := by rw [hn]; exact hr.len
  by_cases h0 : n = 0
  · subst h0
    have hl : l = [] := List.length_eq_zero_iff.1 hn.symm
    obtain rfl : c = z := by rw [← hz, hl]; rfl
    clear hz hn HZ HN
    go_enter Try.func23, Try.ntmps23
    go_wp2_with fail
    go_ret
    exact ⟨rfl, Below.refl _ _⟩
  have hz0 : ¬ ((n : Int) = 0) := by omega
  clear hz hn
  have hzt := zero_tab
  go_enter Try.func23, Try.ntmps23
  go_wp2_with fail
  refine (table_of _).mono ?_
  rintro e w1 ⟨rfl, rfl⟩
  go_wp2_with fail
  clear hzt
  have hsc : (storeCells ⟨w.heap.size + 1 + 1, 0, none⟩ (tabC 256).toList).run Try.prog (((w.alloc (.cells (tabC 256) 52)).alloc (.cells (tabC 256) 52)).alloc (.cells (tabC 0) 52)) = .ok () (((w.alloc (.cells (tabC 256) 52)).alloc (.cells (tabC 256) 52)).alloc (.cells (tabC 256) 52)) := by
    have := run_storeCells_new (P := Try.prog) ((w.alloc (.cells (tabC 256) 52)).alloc (.cells (tabC 256) 52)) 52 (tabC 0) (tabC 256) (by rw [tabC_size]; exact size_tab) (by rw [tabC_size, tabC_size]) (tabC_one 256)
    simpa using this
  rw [hsc, Result.andThen_ok, Oper.upon_skip]
  clear hsc
  have hbw : Below w.heap.size w (((w.alloc (.cells (tabC 256) 52)).alloc (.cells (tabC 256) 52)).alloc (.cells (tabC 256) 52)) := below_on (below_on (below_alloc w _) (below_alloc _ _)) (below_alloc _ _)
  have htab : ∀ j < 256, (((w.alloc (.cells (tabC 256) 52)).alloc (.cells (tabC 256) 52)).alloc (.cells (tabC 256) 52)).cell? ⟨w.heap.size + 1 + 1, j, none⟩ = some (.int .u32 ((it 8 j : Nat) : Int)) := fun j hj => by
    rw [World.cell?_alloc_at _ _ _ _ (by simp), tabC_at 256 j hj, if_pos hj]
  revert hbw htab
  generalize ((w.alloc (.cells (tabC 256) 52)).alloc (.cells (tabC 256) 52)).alloc (.cells (tabC 256) 52) = W
  intro hbw htab
  have HT := Lib.hid htab
  clear htab
  have hrW := hr.on hbw
  clear hr
  go_wp2_with fail
  go_loopg [0, 15] n (fun g s0 s15 wx => ∃ (i v : Nat), i + g = n ∧ s15 = .int .i64 i ∧ s0 = .int .u32 v ∧ v < 4294967296 ∧ Hid (upd v (l.drop i) = z) ∧ W = wx)
  case atStart => exact ⟨0, c, by omega, rfl, rfl, hc, HZ, rfl⟩
  case round =>
    obtain ⟨i, v, hi, rfl, rfl, hv, HI, rfl⟩ := hrel
    cases gk with
    | zero =>
      obtain rfl : i = n := by omega
      obtain rfl : v = z := by rw [← HI.out, HN.out, List.drop_length]; rfl
      clear hi
      go_wp2_with fail
      go_ret
      exact ⟨rfl, hbw⟩
    | succ g =>
      have hlt : i < n := by omega
      have hltz : (i : Int) < (n : Int) := by omega
      have hil : i < l.length := by have := HN.out; omega
      obtain ⟨bk, off, rfl, hbk, hc0⟩ := hrW.at_ hil
      obtain ⟨x, hx⟩ : ∃ x, l[i] = x := ⟨_, rfl⟩
      have hxl : x < 256 := by rw [← hx]; exact HS.out _ (List.getElem_mem hil)
      obtain ⟨o, ho⟩ : ∃ o, v % 256 = o := ⟨_, rfl⟩
      obtain ⟨q, hq⟩ : ∃ q, v / 256 = q := ⟨_, rfl⟩
      have ho8 : o < 256 := by omega
      obtain ⟨y, hy⟩ : ∃ y, o ^^^ x = y := ⟨_, rfl⟩
      have hy8 : y < 256 := by rw [← hy]; exact xor_lt8 ho8 hxl
      obtain ⟨t, ht⟩ : ∃ t, it 8 y = t := ⟨_, rfl⟩
      have htl : t < 4294967296 := by rw [← ht]; exact it_lt 8 (by omega)
      obtain ⟨u, hu⟩ : ∃ u, q ^^^ t = u := ⟨_, rfl⟩
      have hul : u < 4294967296 := by rw [← hu]; exact xor_lt (by omega) htl
      have HU : Hid (upd u (l.drop (i + 1)) = z) := Lib.hid (by rw [← HI.out, List.drop_eq_getElem_cons hil, upd_cons, hx, step_table v x hxl, ho, hq, hy, ht, Nat.xor_comm, hu])
      have e1 : (v : Int) / 256 = (q : Int) := by omega
      have e2 : IntKind.u8.wrap (v : Int) = (o : Int) := by rw [IntKind.wrap_u8']; omega
      have e3 : bits .xor .u8 (o : Int) (x : Int) = (y : Int) := by rw [← hy]; exact x8 ho8 hxl
      have e4 : bits .xor .u32 (q : Int) (t : Int) = (u : Int) := by rw [← hu]; exact x32 (by omega) htl
      have hyz : (y : Int) < 256 := by omega
      have hct : W.cell? ⟨w.heap.size + 1 + 1, y, none⟩ = some (.int .u32 (t : Int)) := by rw [← ht]; exact HT.out y hy8
      unfold oct at hc0
      rw [hx] at hc0
      clear hx hrW ho hq hy ht hu hbk
      go_wp2_with fail
      go_roundg g
      case measure => omega
      case rel => exact ⟨i + 1, u, by omega, by simp, rfl, hul, HU, rfl⟩

theorem ones32 : (4294967295 : Int) = ((4294967295 : Nat) : Int) := by omega
set_option maxHeartbeats 1600000 in
theorem sumC : SumC := by
  intro A n k l z hn hz w hr
  obtain ⟨u, hu⟩ : ∃ u, upd 4294967295 l = u := ⟨_, rfl⟩
  have hul : u < 4294967296 := by rw [← hu]; exact upd_lt l (by omega) hr.small
  have hz' : u ^^^ 4294967295 = z := by rw [← hz]; unfold Kp.sum; rw [hu]
  have e2 : bits .xor .u32 IntKind.u32.max (u : Int) = (z : Int) := by rw [← hz', Nat.xor_comm]; exact x32 (a := 4294967295) (by omega) hul
  have hc := fun W => updC 4294967295 4294967295 A n k l u ones32 (by omega) hn hu W
  clear hu hz hz' hn
  go_enter Try.func22, Try.ntmps22
  go_wp2_with fail
  refine (hc _ hr).mono ?_
  rintro e w2 ⟨rfl, hw2⟩
  clear hc
  go_wp2_with fail
  go_ret
  exact ⟨rfl, hw2⟩
end Go.Proofs.Ytmcmlfmfhljphaa
