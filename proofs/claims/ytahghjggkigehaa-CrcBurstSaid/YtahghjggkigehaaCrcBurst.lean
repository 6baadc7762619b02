/-
  The walk of layer crc's law CrcBurst.
-/
import Derived.Test.YtahghjggkigehaaCrcApp
import Derived.Laws.OwnMore
namespace Go.Proofs.Ytahghjggkigehaa
open Go.RowKit Go.Proofs.Ytahghjggkigehaa.Kp

theorem mask_bd24 (k : Int) : 0 ≤ bits .and .i64 k 16777215 ∧ bits .and .i64 k 16777215 ≤ 16777215 := by
  have h1 : (BitVec.ofInt 64 16777215).toNat = 16777215 := by decide
  have h2 : (BitVec.ofInt 64 k &&& BitVec.ofInt 64 16777215).toNat ≤ 16777215 := by
    rw [BitVec.toNat_and, h1]
    exact Nat.and_le_right
  have e : bits .and .i64 k 16777215 = (((BitVec.ofInt 64 k &&& BitVec.ofInt 64 16777215).toNat : Nat) : Int) := by
    show IntKind.i64.wrap ((BitVec.ofInt 64 k &&& BitVec.ofInt 64 16777215).toNat : Int) = _
    exact IntWalk.i64_in _ (by omega)
  rw [e]
  omega
theorem bit_at (k : Int) (n : Nat) (hn : 5 ≤ n) : ∃ t : Nat, (bits .and .i64 k 16777215).tmod (8 * (n : Int) - 31) = (t : Int) ∧ t + 32 ≤ 8 * n := by
  obtain ⟨h1, _⟩ := mask_bd24 k
  generalize bits .and .i64 k 16777215 = b at h1
  have h2 := Int.tmod_nonneg (8 * (n : Int) - 31) h1
  have h3 := Int.tmod_lt_of_pos b (show (0 : Int) < 8 * (n : Int) - 31 by omega)
  exact ⟨(b.tmod (8 * (n : Int) - 31)).toNat, by omega, by omega⟩
set_option maxHeartbeats 6400000 in
set_option maxRecDepth 100000 in
theorem crcBurst_any (HStep : StepC) (HSum : SumC) (A : Option Addr) (n k : Nat) (l : List Nat) (p : Int) (y : Nat) (hy : y < 4294967296) (w : World) (hn : n = l.length) (hr : Rb w w.heap.size A l) :
    Calls Try.prog 5 #[.slice A n k, .int .i64 p, .int .u32 (y : Int)] w fun e w' => e = .returned (.bool true) ∧ Below w.heap.size w w' := by
  have HN := Lib.hid hn
  have HR := Lib.hid hr
  have HS := Lib.hid hr.small
  clear hn hr
  go_enter Try.func5, Try.ntmps5
  go_wp2_with fail
  refine (awake_any HStep HSum _).mono ?_
  rintro e w1 ⟨rfl, hb1⟩
  by_cases h5 : (n : Int) < 5
  · have hd : decide ((n : Int) < 5) = true := by simpa using h5
    go_wp2_with fail
    go_ret
    exact ⟨rfl, hb1⟩
  have hd5 : decide ((n : Int) < 5) = false := by simpa using h5
  by_cases hbig : (1000 : Int) < (n : Int)
  · have hd : decide ((1000 : Int) < (n : Int)) = true := by simpa using hbig
    go_wp2_with fail
    go_ret
    exact ⟨rfl, hb1⟩
  have hdb : decide ((1000 : Int) < (n : Int)) = false := by simpa using hbig
  obtain ⟨t, ht, htn⟩ := bit_at p n (by omega)
  have hmod : ¬ (8 * (n : Int) - 31 = 0) := by omega
  have hl1 : ([] : List Nat).length + l.length ≤ 1000000 := by have := HN.out; simp; omega
  go_wp2_with (at_builtin; refine wp_app _ rfl _ _ rfl w1.heap.size _ [] l rfl (own_made w1) A n k HN.out rfl ((HR.out.on hb1).on (below_alloc _ _)) hl1 (by simp) ?_; intro v3 w3 hown3 hb3)
  obtain ⟨g, cap, hv⟩ := _root_.Go.Joins.ownsRow_form hown3 (by have := HN.out; simp; omega)
  have hg1 : w1.heap.size ≤ g := Own.base hown3 g (by rw [hv]; rfl)
  have hlen : ([] ++ l : List Nat).length = n := by have := HN.out; simp; omega
  have HO : Hid (w3.ownsRow w1.heap.size 5 1 (.slice (some ⟨g, 0, none⟩) n cap) n (vals (burst l t y 0))) := Lib.hid (by
    have h := hown3
    unfold Own at h
    rw [hlen] at h
    rw [hv, hlen] at h
    exact h)
  rw [hlen] at hv
  subst hv
  have hb3' := (below_alloc w1 _).trans hb3
  have hb4 := below_on hb1 hb3'
  have hgw : w.heap.size ≤ g := Nat.le_trans hb1.size hg1
  clear hb3 hb3' hown3
  go_wp2_with fail
  go_loopg [10, 11] 32 (fun gg s10 s11 wx => ∃ i : Nat, i + gg = 32 ∧ s10 = .int .i64 i ∧ Hid (wx.ownsRow w1.heap.size 5 1 (.slice (some ⟨g, 0, none⟩) n cap) n (vals (burst l t y i))) ∧ Below w.heap.size w wx)
  case atStart => exact ⟨0, by omega, rfl, HO, hb4⟩
  case round =>
    obtain ⟨i, hi, rfl, HOi, hwx⟩ := hrel
    cases gk with
    | zero =>
      obtain rfl : i = 32 := by omega
      obtain ⟨m, hm⟩ : ∃ m, burst l t y 32 = m := ⟨_, rfl⟩
      have hml : m.length = n := by rw [← hm, burst_len]; exact HN.out.symm
      have HRm : Hid (Rb wr wr.heap.size (some ⟨g, 0, none⟩) m) := Lib.hid (Own.rb (base := w1.heap.size) (c := cap) (by
        have h := HOi.out
        rw [hm] at h
        unfold Own
        rw [hml]
        exact h) (by omega) (by rw [← hm]; exact burst_lt HS.out t y 32))
      obtain ⟨z1, hz1⟩ : ∃ z, Kp.sum m = z := ⟨_, rfl⟩
      obtain ⟨z2, hz2⟩ : ∃ z, Kp.sum l = z := ⟨_, rfl⟩
      have hq : (((z1 : Int) == (z2 : Int)) == ((y : Int) == 0)) = true := beq_iff (by
        rw [eqz, ← hz1, ← hz2, ← hm, sum_burst l t y (by have := HN.out; omega) hy]
        omega)
      have HM := Lib.hid hml.symm
      have HZ1 := Lib.hid hz1
      have HZ2 := Lib.hid hz2
      clear hm hml hz1 hz2 HOi ht
      go_wp2_with fail
      refine (HSum _ n cap m z1 HM.out HZ1.out _ HRm.out).mono ?_
      rintro e w5 ⟨rfl, hw⟩
      have hb5 := below_on hwx hw
      clear hw hwx
      go_wp2_with fail
      refine (HSum A n k l z2 HN.out HZ2.out _ (HR.out.on hb5)).mono ?_
      rintro e w6 ⟨rfl, hw⟩
      have hb6 := below_on hb5 hw
      go_wp2_with fail
      go_ret
      exact ⟨rfl, hb6⟩
    | succ gg =>
      have hlt : (i : Int) < 32 := by omega
      obtain ⟨h, hh⟩ : ∃ h, y / 2 ^ i = h := ⟨_, rfl⟩
      have e2 : (y : Int) / 2 ^ i = (h : Int) := by rw [← hh]; norm_cast
      have hhl : h < 4294967296 := by rw [← hh]; exact Nat.lt_of_le_of_lt (Nat.div_le_self _ _) hy
      by_cases hodd : h % 2 = 1
      · have e1 : bits .and .u32 (h : Int) 1 = 1 := by rw [low1 hhl, hodd]; rfl
        obtain ⟨q, hq⟩ : ∃ q, (t + i) / 8 = q := ⟨_, rfl⟩
        obtain ⟨r, hr⟩ : ∃ r, (t + i) % 8 = r := ⟨_, rfl⟩
        have hqn : q < n := by omega
        have hqz : (q : Int) < (n : Int) := by omega
        have hr8 : r < 8 := by omega
        have eq1 : ((t : Int) + (i : Int)) / 8 = (q : Int) := by omega
        have eq2 : ((t : Int) + (i : Int)) % 8 = (r : Int) := by omega
        obtain ⟨m, hm⟩ : ∃ m, burst l t y i = m := ⟨_, rfl⟩
        have hml : q < m.length := by rw [← hm, burst_len, ← HN.out]; exact hqn
        obtain ⟨x, hx⟩ : ∃ x, m[q] = x := ⟨_, rfl⟩
        have hxl : x < 256 := by rw [← hx]; exact (by rw [← hm]; exact burst_lt HS.out t y i : ∀ x ∈ m, x < 256) _ (List.getElem_mem hml)
        have hcell : wr.cell? ⟨g, q, none⟩ = some (.int .u8 (x : Int)) := by
          have := World.ownsRow.cells HOi.out (g := g) rfl q (oct x) (by rw [hm]; unfold vals; rw [List.getElem?_map, List.getElem?_eq_getElem hml, hx]; rfl)
          rw [Addr.add_lit, Nat.zero_add] at this
          exact this
        have hfr : wr.frozen? ⟨g, q, none⟩ = false := World.ownsRow.frozenAt HOi.out q
        have hp : 2 ^ r < 256 := Nat.pow_lt_pow_right (a := 2) (by decide) hr8
        obtain ⟨pw, hpw⟩ : ∃ pw, 2 ^ r = pw := ⟨_, rfl⟩
        have epw : (2 : Int) ^ r = (pw : Int) := by rw [← hpw]; norm_cast
        obtain ⟨x', hx'⟩ : ∃ x', x ^^^ pw = x' := ⟨_, rfl⟩
        have ex' : bits .xor .u8 (x : Int) (pw : Int) = (x' : Int) := by rw [← hx']; exact x8 hxl (by omega)
        have hwp : IntKind.u8.wrap (pw : Int) = (pw : Int) := by rw [IntKind.wrap_u8']; omega
        have HB : Hid (burst l t y (i + 1) = m.set q x') := Lib.hid (by
          show (if y / 2 ^ i % 2 = 1 then _ else _) = _
          rw [if_pos (by rw [hh]; exact hodd), hm]
          unfold Kp.flip
          rw [hq, hr, List.getD_eq_getElem?_getD, List.getElem?_eq_getElem hml, hx, hpw, ← hx']
          rfl)
        have HSt : Hid ((wr.setCell ⟨g, q, none⟩ (oct x')).ownsRow w1.heap.size 5 1 (.slice (some ⟨g, 0, none⟩) n cap) n (vals (burst l t y (i + 1)))) := Lib.hid (by
          rw [HB.out]
          have := (World.ownsRow.stored HOi.out q (oct x')).1
          rw [hm] at this
          unfold vals at this ⊢
          rw [List.map_set]
          exact this)
        have hwx' := hwx.setCell (p := ⟨g, q, none⟩) hgw (oct x')
        unfold oct at HSt hwx'
        clear hx hx' hm hq hr hpw HB
        go_wp2_with fail
        go_roundg gg
        case measure => omega
        case rel => exact ⟨i + 1, by omega, by simp, HSt, hwx'⟩
      · have e1 : bits .and .u32 (h : Int) 1 = 0 := by rw [low1 hhl, show h % 2 = 0 by omega]; rfl
        have HB : Hid (burst l t y (i + 1) = burst l t y i) := Lib.hid (by show (if y / 2 ^ i % 2 = 1 then _ else _) = _; rw [if_neg (by rw [hh]; exact hodd)])
        go_wp2_with fail
        go_roundg gg
        case measure => omega
        case rel => exact ⟨i + 1, by omega, by simp, by rw [HB.out]; exact HOi, hwx⟩
end Go.Proofs.Ytahghjggkigehaa
