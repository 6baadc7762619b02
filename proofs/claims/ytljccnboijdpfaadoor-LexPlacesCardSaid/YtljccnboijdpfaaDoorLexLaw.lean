/-
  What the walks of layer lex's laws lean on: the calls' contracts, as words (All's: LexCon; proved of what landed in another text); the example; plain, Same.
-/
import Derived.Test.YtljccnboijdpfaaDoorLexCon
import Derived.Laws.StructEq
namespace Go.Proofs.YtljccnboijdpfaaDoor
open Go.RowKit

def QuoteC : Prop := ∀ (s S : ByteArray), s.size ≤ 1000000 → S.data.toList = Lx.quote s.data.toList → ∀ w : World,
  Calls Tryd.prog 13 #[.string s] w fun e w' => e = .returned (.string S) ∧ Below w.heap.size w w'
def JoinC : Prop := ∀ (B : Option Addr) (d q : Nat) (ts : List Tk) (S : ByteArray), q = ts.length → Cap q d → S.size ≤ 1000000 → S.data.toList = Lx.joinP (ts.map flatT) → ∀ w : World, Rt w w.heap.size B ts →
  Calls Tryd.prog 10 #[.slice B q d] w fun e w' => e = .returned (.string S) ∧ Below w.heap.size w w'
/-- All three. -/
structure LexC : Prop where
  all : AllTC
  quote : QuoteC
  join : JoinC

/-! ### tokens compared -/
theorem neq_tok (k a : Int) (s : ByteArray) (w : World) : (binOp .neq 32 (.agg #[.int .i64 k, .int .i64 a, .string s]) (.agg #[.int .i64 k, .int .i64 a, .string s])).run Tryd.prog w = .ok (.bool false) w := by
  have u9 := Tryd.underlying9
  have a9 := Tryd.isAgg9
  have z9 := Tryd.sizeOf9
  have u3 := Tryd.underlying3
  have a3 := Tryd.isAgg3
  have z3 := Tryd.sizeOf3
  have hS : Tryd.prog.underlying 32 = some (.struct (Tryd.prog.fieldsOf 32)) := by kernel_rfl
  have hp : Tryd.prog.stoodInHeld 32 = false := by kernel_rfl
  rw [run_neq_struct, show (10000 : Nat) = 9999 + 1 from rfl, run_equalIn_agg w 9999 32 _ _ hS hp]
  simp only [Program.fieldsOf, Tryd.underlying32]
  go_simp
theorem eq_tok (k a : Int) (s : ByteArray) (w : World) : (binOp .eql 32 (.agg #[.int .i64 k, .int .i64 a, .string s]) (.agg #[.int .i64 k, .int .i64 a, .string s])).run Tryd.prog w = .ok (.bool true) w := by
  have u9 := Tryd.underlying9
  have a9 := Tryd.isAgg9
  have z9 := Tryd.sizeOf9
  have u3 := Tryd.underlying3
  have a3 := Tryd.isAgg3
  have z3 := Tryd.sizeOf3
  have hS : Tryd.prog.underlying 32 = some (.struct (Tryd.prog.fieldsOf 32)) := by kernel_rfl
  have hp : Tryd.prog.stoodInHeld 32 = false := by kernel_rfl
  rw [run_eql_struct, show (10000 : Nat) = 9999 + 1 from rfl, run_equalIn_agg w 9999 32 _ _ hS hp]
  simp only [Program.fieldsOf, Tryd.underlying32]
  go_simp
theorem guard_tok : Tryd.prog.eqGuardType Tryd.prog.depth 32 = false := by kernel_rfl

set_option maxHeartbeats 1600000 in
theorem same_of (A B : Option Addr) (c d n : Nat) (L : List Tk) (hn : n = L.length) (w : World) (hr : Rt w w.heap.size A L) (hs : Rt w w.heap.size B L) :
    Calls Tryd.prog 11 #[.slice A n c, .slice B n d] w fun e w' => e = .returned (.bool true) ∧ Below w.heap.size w w' := by
  have HN := Lib.hid hn
  have HR := Lib.hid hr
  have HS := Lib.hid hs
  have hlen : n ≤ 9223372036854775807 := by rw [hn]; exact hr.len
  have hnn : ((n : Int) != (n : Int)) = false := by simp
  clear hn hr hs
  go_enter Tryd.func11, Tryd.ntmps11
  go_wp2_with fail
  clear hnn
  go_loopg [5] n (fun g s5 wx => ∃ i : Nat, i + g = n ∧ s5 = .int .i64 i ∧ Below w.heap.size w wx)
  case atStart => exact ⟨0, by omega, rfl, Below.refl _ _⟩
  case round =>
    obtain ⟨i, hi, rfl, hwx⟩ := hrel
    cases gk with
    | zero =>
      obtain rfl : i = n := by omega
      go_wp2_with fail
      go_ret
      exact ⟨rfl, hwx⟩
    | succ g =>
      have hlt : i < n := by omega
      have hltz : (i : Int) < (n : Int) := by omega
      have hil : i < L.length := by have := HN.out; omega
      obtain ⟨bk, off, rfl, hbk, c0, c1, c2⟩ := (HR.out.on hwx).at_ hil
      obtain ⟨bk2, off2, rfl, hbk2, d0, d1, d2⟩ := (HS.out.on hwx).at_ hil
      obtain ⟨k, hk⟩ : ∃ k, L[i].1 = k := ⟨_, rfl⟩
      obtain ⟨a, ha⟩ : ∃ k, L[i].2.1 = k := ⟨_, rfl⟩
      obtain ⟨s, hs⟩ : ∃ k, L[i].2.2 = k := ⟨_, rfl⟩
      rw [hk] at c0 d0
      rw [ha] at c1 d1
      rw [hs] at c2 d2
      have hbk' : bk < wr.heap.size := hbk
      have hbk2' : bk2 < wr.heap.size := hbk2
      have hgp := guard_tok
      have hne := neq_tok (k : Int) (a : Int) s
      clear hk ha hs
      go_wp2_with fail
      go_quiet (fail)
      go_wp2_with fail
      go_roundg g
      case measure => omega
      case rel => exact ⟨i + 1, by omega, by simp, below_on hwx (below_drewN _ _)⟩
/-- A token without its place. -/
def bare (t : Tk) : Tk := (t.1, 0, t.2.2)
set_option maxHeartbeats 1600000 in
theorem plain_of (A : Option Addr) (c n : Nat) (L M : List Tk) (hn : n = L.length) (hM : L.map bare = M) (h6 : n ≤ 100000) (w : World) (hr : Rt w w.heap.size A L) :
    Calls Tryd.prog 12 #[.slice A n c] w fun e w' => ∃ B d, e = .returned (.slice B n d) ∧ Hid (Rt w' w'.heap.size B M) ∧ Hid (Cap n d) ∧ Below w.heap.size w w' := by
  subst hM
  have HN := Lib.hid hn
  have HR := Lib.hid hr
  have hlen : n ≤ 9223372036854775807 := by omega
  clear hn hr
  go_enter Tryd.func12, Tryd.ntmps12
  go_wp2_with fail
  go_loopg [3, 4] n (fun g s3 s4 wx => ∃ i : Nat, i + g = n ∧ s4 = .int .i64 i ∧ Hid (OwnT wx w.heap.size s3 ((L.take i).map bare)) ∧ Below w.heap.size w wx)
  case atStart => exact ⟨0, by omega, rfl, Lib.hid (by rw [List.take_zero]; exact OwnT.nil _ _), Below.refl _ _⟩
  case round =>
    obtain ⟨i, hi, rfl, HO, hwx⟩ := hrel
    have hil0 : ((L.take i).map bare).length = i := by rw [List.length_map, List.length_take]; have := HN.out; omega
    obtain ⟨X, cx, rfl, hcx⟩ := OwnT.slice HO.out
    rw [hil0] at hcx HO ⊢
    cases gk with
    | zero =>
      obtain rfl : i = n := by omega
      have ht : (L.take i).map bare = L.map bare := by rw [List.take_of_length_le (by have := HN.out; omega)]
      have HO' := HO.out
      rw [ht] at HO'
      have hrt := OwnT.rt HO' (by rw [List.length_map]; have := HN.out; omega) (by
        intro t ht
        obtain ⟨u, hu, rfl⟩ := List.mem_map.1 ht
        exact HR.out.size u hu)
      have HRT := Lib.hid hrt
      have HCX := Lib.hid hcx
      clear HO' hrt HO ht hcx
      go_wp2_with fail
      go_ret
      exact ⟨X, cx, rfl, HRT, HCX, hwx⟩
    | succ g =>
      have hlt : i < n := by omega
      have hltz : (i : Int) < (n : Int) := by omega
      have hil : i < L.length := by have := HN.out; omega
      obtain ⟨bk, off, rfl, hbk0, c0', c1, c2'⟩ := HR.out.at_ hil
      have c0 := (hwx.cell (p := ⟨bk, off + i * 3, none⟩) hbk0).trans c0'
      have c2 := (hwx.cell (p := ⟨bk, off + i * 3 + 2, none⟩) hbk0).trans c2'
      have hbk : bk < wr.heap.size := by have := hwx.size; omega
      clear c0' c2'
      obtain ⟨k, hk⟩ : ∃ k, L[i].1 = k := ⟨_, rfl⟩
      obtain ⟨s, hs⟩ : ∃ k, L[i].2.2 = k := ⟨_, rfl⟩
      have hss : s.size ≤ 9223372036854775807 := by rw [← hs]; exact HR.out.size _ (List.getElem_mem hil)
      have HT : Hid ((L.take (i + 1)).map bare = (L.take i).map bare ++ [(k, 0, s)]) := Lib.hid (by rw [List.take_succ_eq_append_getElem hil, List.map_append, ← hk, ← hs]; rfl)
      rw [hk] at c0
      rw [hs] at c2
      clear c1 hk hs
      have e0 : wr.drew.cell? ⟨bk, off + i * 3, none⟩ = some (.int .i64 (k : Int)) := c0
      have e2 : wr.drew.cell? ⟨bk, off + i * 3 + 2, none⟩ = some (.string s) := c2
      have f0 : (wr.drew.alloc (.cells #[.int .i64 (k : Int), .int .i64 ((0 : Nat) : Int), .string s] 32)).cell? ⟨bk, off + i * 3, none⟩ = some (.int .i64 (k : Int)) := by rw [World.cell?_alloc_lt _ _ _ hbk]; exact c0
      have f2 : (wr.drew.alloc (.cells #[.int .i64 (k : Int), .int .i64 ((0 : Nat) : Int), .string s] 32)).cell? ⟨bk, off + i * 3 + 2, none⟩ = some (.string s) := by rw [World.cell?_alloc_lt _ _ _ hbk]; exact c2
      have h0 : (wr.alloc (.cells #[.int .i64 (k : Int), .int .i64 0, .string s] 32)).drew.cell? ⟨bk, off + i * 3, none⟩ = some (.int .i64 (k : Int)) := f0
      have h2 : (wr.alloc (.cells #[.int .i64 (k : Int), .int .i64 0, .string s] 32)).drew.cell? ⟨bk, off + i * 3 + 2, none⟩ = some (.string s) := f2
      have HOw : Hid (OwnT (wr.drew.alloc (.cells #[.int .i64 (k : Int), .int .i64 ((0 : Nat) : Int), .string s] 32)) w.heap.size (.slice X i cx) ((L.take i).map bare)) := Lib.hid (HO.out.below ((Below.refl _ _).drew.alloc (Nat.le_refl _) _))
      have HRn := Lib.hid (rt_new wr.drew k 0 s hss)
      have hbs : w.heap.size ≤ (wr.drew.alloc (.cells #[.int .i64 (k : Int), .int .i64 ((0 : Nat) : Int), .string s] 32)).heap.size := by
        have := hwx.size
        show _ ≤ (wr.heap.push _).size
        rw [Array.size_push]; omega
      have hbw2 : Below w.heap.size w (wr.drew.alloc (.cells #[.int .i64 (k : Int), .int .i64 ((0 : Nat) : Int), .string s] 32)) := hwx.drew.alloc hwx.size _
      have hle : ((L.take i).map bare).length ≤ 1000000 := by omega
      go_wp2_with fail
      go_region_held_law (fun w' => w'.cell? ⟨bk, off + i * 3, none⟩ = some (.int .i64 (k : Int)) ∧ w'.cell? ⟨bk, off + i * 3 + 2, none⟩ = some (.string s))
        (first
          | with_reducible exact ⟨e0, e2⟩
          | with_reducible exact ⟨h0, h2⟩
          | exact ⟨(hb4.cell (p := ⟨bk, off + i * 3, none⟩) hbk0).trans f0, (hb4.cell (p := ⟨bk, off + i * 3 + 2, none⟩) hbk0).trans f2⟩)
        ((refine step_tok (by rfl) _ _ (by rfl) w.heap.size _ ((L.take i).map bare) (k, 0, s) (by rfl) HOw.out ⟨wr.heap.size, 0, none⟩ (by rfl) HRn.out hle hbs ?_; intro v4 w4 hown4 hb4))
      all_goals
        have HO4 : Hid (OwnT w4 w.heap.size v4 ((L.take (i + 1)).map bare)) := Lib.hid (HT.out ▸ hown4)
        have hb5 := hbw2.trans hb4
        clear hown4 hb4
        go_wp2_with fail
        go_roundg g
        case measure => omega
        case rel => exact ⟨i + 1, by omega, by simp, HO4, hb5⟩

/-! ### the document's example -/
def exT : List Tk := [(1, 0, str [97]), (4, 1, str [62, 61]), (2, 3, str [49, 115])]
theorem ex_1 : allT [97, 62, 61, 49, 115, 35, 32, 120] = (exT, 8, 0) := by decide +kernel
theorem ex_2 : allT [97, 32, 34, 98] = ([(1, 0, str [97])], 2, 12) := by decide +kernel
theorem ex_q : (⟨#[34, 97, 92, 34, 92, 110, 34]⟩ : ByteArray).data.toList = Lx.quote (⟨#[97, 34, 10]⟩ : ByteArray).data.toList := by decide +kernel
theorem ex_j : (⟨#[97, 32, 62, 61, 32, 49, 115]⟩ : ByteArray).data.toList = Lx.joinP (exT.map flatT) := by decide +kernel
set_option maxHeartbeats 3200000 in
theorem awake_any (H : LexC) (w : World) :
    Calls Tryd.prog 8 #[] w fun e w' => e = .returned (.bool true) ∧ Below w.heap.size w w' := by
  go_enter Tryd.func8, Tryd.ntmps8
  go_wp2_with fail
  refine (H.all ⟨#[97, 62, 61, 49, 115, 35, 32, 120]⟩ _ exT 3 8 0 (by decide) rfl ex_1 rfl _).mono ?_
  rintro e w1 ⟨B1, d1, rfl, HR1, HC1, hw1⟩
  go_wp2_with fail
  refine (H.all ⟨#[97, 32, 34, 98]⟩ _ [(1, 0, str [97])] 1 2 12 (by decide) rfl ex_2 rfl _).mono ?_
  rintro e w2 ⟨B2, d2, rfl, _, _, hw2⟩
  have hb2 := below_on hw1 hw2
  have hr2 := HR1.out.on hw2
  have HR2 := Lib.hid hr2
  obtain ⟨b, o, rfl, hbk, a0, a1, a2⟩ := hr2.at_ (k := 0) (by decide)
  obtain ⟨_, _, hA, _, b0, b1, b2⟩ := hr2.at_ (k := 1) (by decide)
  cases hA
  obtain ⟨_, _, hA, _, c0, c1, c2⟩ := hr2.at_ (k := 2) (by decide)
  cases hA
  rw [Nat.zero_mul, Nat.add_zero] at a0 a1 a2
  have e00 : w2.cell? ⟨b, o, none⟩ = some (.int .i64 1) := a0
  have e01 : w2.cell? ⟨b, o + 1, none⟩ = some (.int .i64 0) := a1
  have e02 : w2.cell? ⟨b, o + 2, none⟩ = some (.string ⟨#[97]⟩) := a2
  have e10 : w2.cell? ⟨b, o + 3, none⟩ = some (.int .i64 4) := b0
  have e11 : w2.cell? ⟨b, o + 3 + 1, none⟩ = some (.int .i64 1) := b1
  have e12 : w2.cell? ⟨b, o + 3 + 2, none⟩ = some (.string ⟨#[62, 61]⟩) := b2
  have e20 : w2.cell? ⟨b, o + 6, none⟩ = some (.int .i64 2) := c0
  have e21 : w2.cell? ⟨b, o + 6 + 1, none⟩ = some (.int .i64 3) := c1
  have e22 : w2.cell? ⟨b, o + 6 + 2, none⟩ = some (.string ⟨#[49, 115]⟩) := c2
  have q1 := eq_tok 1 0 ⟨#[97]⟩ w2
  have q2 := eq_tok 4 1 ⟨#[62, 61]⟩ w2
  have q3 := eq_tok 2 3 ⟨#[49, 115]⟩ w2
  have hgp := guard_tok
  clear a0 a1 a2 b0 b1 b2 c0 c1 c2 hr2 hw1 hw2 HR1
  go_wp2_with fail
  refine (H.quote ⟨#[97, 34, 10]⟩ ⟨#[34, 97, 92, 34, 92, 110, 34]⟩ (by decide) ex_q _).mono ?_
  rintro e w3 ⟨rfl, hw3⟩
  go_wp2_with fail
  refine (H.join _ d1 3 exT ⟨#[97, 32, 62, 61, 32, 49, 115]⟩ rfl HC1.out (by decide) ex_j _ (HR2.out.on hw3)).mono ?_
  rintro e w4 ⟨rfl, hw4⟩
  go_wp2_with fail
  go_ret
  exact ⟨rfl, below_on hb2 (below_on hw3 hw4)⟩
end Go.Proofs.YtljccnboijdpfaaDoor
