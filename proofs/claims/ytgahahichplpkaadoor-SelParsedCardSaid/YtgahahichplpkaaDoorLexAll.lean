/-
  The walk of layer lex's All as landed.
-/
import Derived.Test.YtgahahichplpkaaDoorLexFirst
namespace Go.Proofs.YtgahahichplpkaaDoor
open Go.RowKit

/-- What All comes to, where `out` is told already. -/
def ansT (n : Nat) (out : List Tk) (q : List Lx.Tok × Lx.T × Int) : List Tk × Nat × Int := (out ++ q.1.map (place n), n - q.2.1.length, q.2.2)
theorem ans_nil (l : Lx.T) : ansT l.length [] (Lx.lex 65536 l) = allT l := rfl
theorem ans_stop (n m : Nat) (out : List Tk) (q : Lx.T) (h : Lx.bl false q = []) : ansT n out (Lx.lex m q) = (out, n, 0) := by
  rw [Lx.lex_stop m q h]
  simp [ansT]
theorem ans_large (n : Nat) (out : List Tk) (q : Lx.T) (h : Lx.bl false q ≠ []) : ansT n out (Lx.lex 0 q) = (out, n - (Lx.bl false q).length, 4) := by
  rw [Lx.lex_zero_more q h]
  simp [ansT]
theorem ans_err (n m : Nat) (out : List Tk) (q : Lx.T) (h : Lx.bl false q ≠ []) {k : Nat} {t r : Lx.T} {z : Int} (ho : Lx.one (Lx.bl false q) = (k, t, r, z)) (hz : z ≠ 0) : ansT n out (Lx.lex (m + 1) q) = (out, n - r.length, z) := by
  rw [Lx.lex_err m q h ho hz]
  simp [ansT]
theorem ans_step (n m : Nat) (out : List Tk) (q : Lx.T) (h : Lx.bl false q ≠ []) {k : Nat} {t r : Lx.T} (ho : Lx.one (Lx.bl false q) = (k, t, r, 0)) : ansT n out (Lx.lex (m + 1) q) = ansT n (out ++ [(k, n - (Lx.bl false q).length, str t)]) (Lx.lex m r) := by
  rw [Lx.lex_step m q h ho]
  simp [ansT, place]

theorem body_ge : ∀ s : Lx.T, s.length ≤ (Lx.body s).length
  | [] => Nat.le_refl _
  | c :: s => by
    have ih := body_ge s
    have e : Lx.body (c :: s) = Lx.esc c ++ Lx.body s := rfl
    have h1 : 1 ≤ (Lx.esc c).length := by
      unfold Lx.esc
      split
      · simp
      · split <;> simp
    rw [e, List.length_append, List.length_cons]
    omega
theorem txt_ge (k : Nat) (s : Lx.T) : s.length ≤ (Lx.txt k s).length := by
  unfold Lx.txt
  split
  · have := body_ge s
    simp only [Lx.quote, List.length_cons, List.length_append]
    omega
  · exact Nat.le_refl _
theorem ext_drop (l : Lx.T) (i n : Nat) (h : l.length = n) : (str l).extract i n = str (l.drop i) := by
  subst h
  apply str_of
  simp only [str, ByteArray.data_extract, Array.toList_extract, List.extract_eq_take_drop]
  exact List.take_of_length_le (by rw [List.length_drop]; exact Nat.le_refl _)
theorem below_alloc2 (w : World) (o o' : Obj) : Below w.heap.size w ((w.alloc o).alloc o') := ((Below.refl _ _).alloc (Nat.le_refl _) o).alloc (by show _ ≤ (w.heap.push o).size; rw [Array.size_push]; omega) o'
set_option maxHeartbeats 6400000 in
theorem all_of : AllTC := by
  intro s l ts q x z hs hl ha hq w
  obtain rfl : s = str l := str_of hl
  clear hl
  obtain ⟨n, hn⟩ : ∃ n, l.length = n := ⟨_, rfl⟩
  have hsz : (str l).size = n := by rw [str_len, hn]
  rw [hsz] at hs
  have HA : Hid (ansT n [] (Lx.lex 65536 l) = (ts, x, z)) := Lib.hid (by rw [← hn, ans_nil]; exact ha)
  have HQ := Lib.hid hq
  have HN := Lib.hid hn
  clear ha hq
  go_enter Tryd.func21, Tryd.ntmps21
  go_wp2_with fail
  refine (skip_of _ l rfl (by omega) _).mono ?_
  rintro e w1 ⟨rfl, hw1⟩
  have hbl := Lx.bl_len false l
  go_wp2_with fail
  go_loopg [5, 6, 7, 8, 9, 10] (Lx.bl false l).length (fun g s5 s6 s7 s8 s9 s10 wx => ∃ (out : List Tk) (m : Nat) (p : Lx.T), s6 = .string (str (Lx.bl false p)) ∧ g = (Lx.bl false p).length ∧ g ≤ n ∧ out.length + m = 65536 ∧ Hid (OwnT wx w.heap.size s5 out) ∧ Hid (∀ t ∈ out, t.2.2.size ≤ 9223372036854775807) ∧ Hid (ansT n out (Lx.lex m p) = (ts, x, z)) ∧ Below w.heap.size w wx)
  case atStart => exact ⟨[], 65536, l, rfl, rfl, by omega, rfl, Lib.hid (OwnT.nil _ _), Lib.hid (by simp), HA, hw1⟩
  case round =>
    obtain ⟨out, m, p, rfl, hg, hgn, hom, HO, HZ, HI, hwx⟩ := hrel
    obtain ⟨X, cx, rfl, hcx⟩ := OwnT.slice HO.out
    have hol : out.length ≤ 65536 := by omega
    have hrt := OwnT.rt HO.out (by omega) HZ.out
    have HRT := Lib.hid hrt
    have HCX := Lib.hid hcx
    clear hrt hcx
    obtain ⟨o, ho⟩ : ∃ o, out.length = o := ⟨_, rfl⟩
    rw [ho] at hom hol HCX HO
    rw [ho]
    have HOL := Lib.hid ho
    clear ho
    cases hb : Lx.bl false p with
    | nil =>
      have h := HI.out
      rw [ans_stop n m out p hb] at h
      simp only [Prod.mk.injEq] at h
      obtain ⟨rfl, rfl, rfl⟩ := h
      obtain rfl : q = o := by rw [HQ.out]; exact HOL.out
      have hT := str_tl []
      go_wp2_with fail
      go_ret3
      exact ⟨X, cx, rfl, HRT, HCX, hwx⟩
    | cons c r =>
      have hne : Lx.bl false p ≠ [] := by rw [hb]; simp
      have hT := str_tl (c :: r)
      have hszr : (str (c :: r)).size = r.length + 1 := by rw [str_len]; rfl
      have hgr : gk = r.length + 1 := by rw [hg, hb]; rfl
      obtain ⟨v, hv⟩ : ∃ v, r.length = v := ⟨_, rfl⟩
      rw [hv] at hszr hgr
      have HV := Lib.hid hv
      clear hv
      obtain ⟨a, hat⟩ : ∃ a : Nat, n = a + (v + 1) := ⟨n - (v + 1), by omega⟩
      have hatz : (n : Int) - ((v : Int) + 1) = (a : Int) := by omega
      cases m with
      | zero =>
        have h := HI.out
        rw [ans_large n out p hne, hb, List.length_cons, HV.out, show n - (v + 1) = a by omega] at h
        simp only [Prod.mk.injEq] at h
        obtain ⟨rfl, rfl, rfl⟩ := h
        obtain rfl : q = o := by rw [HQ.out]; exact HOL.out
        obtain rfl : q = 65536 := by omega
        go_wp2_with fail
        go_ret3
        exact ⟨X, cx, rfl, HRT, HCX, hwx⟩
      | succ m =>
        have hne6 : ((o : Int) == 65536) = false := by rw [beq_eq_false_iff_ne]; omega
        rcases hone : Lx.one (c :: r) with ⟨k, tx, r', y⟩
        have hone' : Lx.one (Lx.bl false p) = (k, tx, r', y) := by rw [hb]; exact hone
        have hr'1 : r'.length ≤ v + 1 := by
          by_cases hy : y = 0
          · subst hy
            have := Lx.one_shorter hone
            have := HV.out
            simp only [List.length_cons] at *
            omega
          · obtain ⟨⟨pp, hpp⟩, _, _⟩ := Lx.one_err (by simp) hone hy
            have := congrArg List.length hpp
            have := HV.out
            simp only [List.length_append, List.length_cons] at *
            omega
        obtain ⟨y2, hy2⟩ : ∃ y2 : Nat, v + 1 - r'.length = y2 := ⟨_, rfl⟩
        have HONE := Lib.hid hone
        have HR' := Lib.hid hr'1
        have HY2 := Lib.hid hy2
        clear hone hr'1 hy2
        go_wp2_with fail
        refine (first_of _ c r tx r' k y2 y rfl (by have := HV.out; omega) HONE.out (by rw [HV.out, HY2.out]) _).mono ?_
        rintro e w2 ⟨rfl, hw2⟩
        have hb2 := below_on hwx hw2
        have hsz2 := hb2.size
        by_cases hy : y = 0
        · subst hy
          have hxx := HI.out
          rw [ans_step n m out p hne hone', hb, List.length_cons, HV.out, show n - (v + 1) = a by omega] at hxx
          have HI2 := Lib.hid hxx
          have hsrc := Lx.one_src HONE.out
          have htl : tx.length ≤ v + 1 := by
            have h1 := txt_ge k tx
            have h2 := congrArg List.length hsrc
            have := HV.out
            rw [List.length_append, List.length_cons] at h2
            omega
          have hdrop : (c :: r).drop y2 = r' := by
            have hl2 := congrArg List.length hsrc
            have := HV.out
            have := HY2.out
            have := HR'.out
            rw [List.length_append, List.length_cons] at hl2
            rw [hsrc, show y2 = (Lx.txt k tx).length by omega, List.drop_left]
          have hext : (str (c :: r)).extract y2 (v + 1) = str r' := by
            rw [ext_drop _ y2 (v + 1) (by rw [List.length_cons, HV.out]), hdrop]
          have hy2v : (y2 : Int) ≤ (v : Int) + 1 := by have := HY2.out; omega
          have hlb := Lx.bl_len false r'
          have hpos : 0 < y2 := by
            have h1 := Lx.one_shorter HONE.out
            have := HY2.out
            have := HV.out
            rw [List.length_cons] at h1
            omega
          have hry : r'.length + y2 = v + 1 := by have := HY2.out; have := HR'.out; omega
          clear hsrc hdrop
          have htx : (str tx).size ≤ 9223372036854775807 := by rw [str_len]; omega
          have hHO := OwnT.below HO.out hw2
          have HO2 := Lib.hid hHO
          have hV : (w2.alloc (.cells #[.int .i64 (k : Int), .int .i64 (a : Int), .string (str tx)] 39)).heap.size = w2.heap.size + 1 := Array.size_push _
          have hrn := rt_new (w2.alloc (.cells #[.int .i64 (k : Int), .int .i64 (a : Int), .string (str tx)] 39)) k a (str tx) htx
          rw [hV] at hrn
          have HRN := Lib.hid hrn
          have hbe := (hb2.alloc hsz2 (.cells #[.int .i64 (k : Int), .int .i64 (a : Int), .string (str tx)] 39)).alloc (by rw [hV]; omega) (.cells #[.int .i64 (k : Int), .int .i64 (a : Int), .string (str tx)] 39)
          have hbs : w.heap.size ≤ ((w2.alloc (.cells #[.int .i64 (k : Int), .int .i64 (a : Int), .string (str tx)] 39)).alloc (.cells #[.int .i64 (k : Int), .int .i64 (a : Int), .string (str tx)] 39)).heap.size := by
            have : ((w2.alloc (.cells #[.int .i64 (k : Int), .int .i64 (a : Int), .string (str tx)] 39)).alloc (.cells #[.int .i64 (k : Int), .int .i64 (a : Int), .string (str tx)] 39)).heap.size = (w2.alloc (.cells #[.int .i64 (k : Int), .int .i64 (a : Int), .string (str tx)] 39)).heap.size + 1 := Array.size_push _
            rw [hV] at this
            omega
          clear hHO hrn hV hxx
          go_wp2_with (at_builtin; refine wp_appt _ rfl _ _ rfl w.heap.size _ out [(k, a, str tx)] rfl (OwnT.below HO2.out (below_alloc2 _ _ _)) _ 1 1 rfl rfl HRN.out (by have := HOL.out; simp only [List.length_singleton]; omega) hbs ?_; intro v3 w3 hown3 hb3)
          have hbf := hbe.trans hb3
          clear hbe hb3
          refine (skip_of _ r' rfl (by omega) _).mono ?_
          rintro e w4 ⟨rfl, hw4⟩
          have hHO3 := OwnT.below hown3 hw4
          have HO3 := Lib.hid hHO3
          have hb4 := below_on hbf hw4
          clear hHO3 hown3 hbf hw4
          go_wp2_with fail
          go_roundg (Lx.bl false r').length
          case measure => omega
          case rel => exact ⟨out ++ [(k, a, str tx)], m, r', rfl, rfl, by omega, by rw [List.length_append, List.length_singleton, HOL.out]; omega, HO3, Lib.hid (by
            intro u hu
            rcases List.mem_append.1 hu with hu | hu
            · exact HZ.out u hu
            · rw [List.mem_singleton] at hu
              subst hu
              exact htx), HI2, hb4⟩
        · have h := HI.out
          rw [ans_err n m out p hne hone' hy] at h
          simp only [Prod.mk.injEq] at h
          obtain ⟨rfl, hxx, rfl⟩ := h
          obtain rfl : q = o := by rw [HQ.out]; exact HOL.out
          have hax : (a : Int) + (y2 : Int) = (x : Int) := by have := HY2.out; have := HR'.out; omega
          have hyb : (y != 0) = true := by simpa using hy
          have hxb : (x : Int) ≤ 1000000 := by have := HY2.out; omega
          clear hy hxx
          go_wp2_with fail
          go_ret3
          exact ⟨X, cx, rfl, Lib.hid (HRT.out.on (hw2.alloc hw2.size _)), HCX, hb2.alloc hsz2 _⟩
end Go.Proofs.YtgahahichplpkaaDoor
