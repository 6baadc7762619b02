/-
  The walk of layer frame's law FrameSeen: it answers true.
-/
import Derived.Test.YtmcmlfmfhljphaaFrMany
import Derived.Deep.DeepCutAuto
import Derived.Laws.OwnMore
import Derived.Lib.SmallJoins
import Derived.Laws.BitsAllLaws
namespace Go.Proofs.Ytmcmlfmfhljphaa
open Go.RowKit

/-! ### whole numbers of 32 bits -/
theorem x32 {a b : Nat} (ha : a < 4294967296) (hb : b < 4294967296) : bits .xor .u32 (a : Int) (b : Int) = ((a ^^^ b : Nat) : Int) := u32_xor_nat a b ha hb
/-- The same, the second one as a whole number. -/
theorem x32z {a b : Nat} {bz : Int} (hbz : bz = (b : Int)) (ha : a < 4294967296) (hb : b < 4294967296) : bits .xor .u32 (a : Int) bz = ((a ^^^ b : Nat) : Int) := by
  subst hbz; exact x32 ha hb
theorem x8 {a b : Nat} (ha : a < 256) (hb : b < 256) : bits .xor .u8 (a : Int) (b : Int) = ((a ^^^ b : Nat) : Int) := u8_xor_nat a b ha hb
theorem low1 {a : Nat} (ha : a < 4294967296) : bits .and .u32 (a : Int) 1 = ((a % 2 : Nat) : Int) := by
  rw [show (1 : Int) = ((1 : Nat) : Int) from rfl, u32_and_nat a 1 ha (by decide), Nat.and_one_is_mod]
theorem low8 {a : Nat} (ha : a < 4294967296) : bits .and .u32 (a : Int) 255 = ((a % 256 : Nat) : Int) := by
  rw [show (255 : Int) = ((255 : Nat) : Int) from rfl, u32_and_nat a 255 ha (by decide), show (255 : Nat) = 2 ^ 8 - 1 from rfl, Nat.and_two_pow_sub_one_eq_mod]
theorem mask_bd24 (k : Int) : 0 ≤ bits .and .i64 k 16777215 ∧ bits .and .i64 k 16777215 ≤ 16777215 := by
  have h1 : (BitVec.ofInt 64 16777215).toNat = 16777215 := by decide
  have h2 : (BitVec.ofInt 64 k &&& BitVec.ofInt 64 16777215).toNat ≤ 16777215 := by
    rw [BitVec.toNat_and, h1]
    exact Nat.and_le_right
  have e : bits .and .i64 k 16777215 = (((BitVec.ofInt 64 k &&& BitVec.ofInt 64 16777215).toNat : Nat) : Int) := by
    show IntKind.i64.wrap ((BitVec.ofInt 64 k &&& BitVec.ofInt 64 16777215).toNat : Int) = _
    exact IntWalk.i64_in _ (by omega)
  rw [e]
  omega
theorem bit_at (k : Int) (n : Nat) : ∃ t : Nat, (8 : Int) + (bits .and .i64 k 16777215).tmod (8 * (n : Int) + 1) = (t : Int) ∧ 8 ≤ t ∧ t ≤ 8 * n + 8 := by
  obtain ⟨h1, _⟩ := mask_bd24 k
  generalize bits .and .i64 k 16777215 = b at h1
  have h2 := Int.tmod_nonneg (8 * (n : Int) + 1) h1
  have h3 := Int.tmod_lt_of_pos b (show (0 : Int) < 8 * (n : Int) + 1 by omega)
  exact ⟨(8 + b.tmod (8 * (n : Int) + 1)).toNat, by omega, by omega, by omega⟩
set_option maxHeartbeats 6400000 in
set_option maxRecDepth 100000 in
theorem frameSeen_any (H : Frm) (A : Option Addr) (c q : Nat) (p : List Nat) (at_ : Int) (y : Nat) (w : World) (hq : q = p.length) (hr : Rb w w.heap.size A p) (hqc : Cap q c) (hy : y < 4294967296) :
    Calls Try.prog 4 #[.slice A q c, .int .i64 at_, .int .u32 (y : Int)] w fun e w' => e = .returned (.bool true) ∧ Below w.heap.size w w' := by
  have HQ := Lib.hid hq
  have HR := Lib.hid hr
  have HQC := Lib.hid hqc
  clear hq hr hqc
  go_enter Try.func4, Try.ntmps4
  go_wp2_with fail
  refine (awake_any H _).mono ?_
  rintro e w0 ⟨rfl, hb0⟩
  by_cases h0 : (100 : Int) < (q : Int)
  · go_wp2_with fail
    go_ret
    exact ⟨rfl, hb0⟩
  have hp100 : p.length ≤ 100 := by have := HQ.out; omega
  obtain ⟨E, hE⟩ : ∃ E, Kf.rcd p = E := ⟨_, rfl⟩
  obtain ⟨n, hn⟩ : ∃ n, q + 5 = n := ⟨_, rfl⟩
  have hEl : n = E.length := by rw [← hE, Kf.rcd_len, Kc.enc_lo (by omega), ← hn, HQ.out]; simp; omega
  have hnz : (q : Int) + 5 = (n : Int) := by omega
  have hne : ((n : Int) != (n : Int)) = false := by simp
  obtain ⟨t, ht, ht8, htq⟩ := bit_at at_ q
  have htn : t + 32 ≤ 8 * n := by omega
  have hmod : ¬ (8 * (q : Int) + 1 = 0) := by omega
  have HG : Hid (Kf.get (Kp.burst E t y 32) = if y = 0 then (p, [], 0) else ([], [], 5)) := Lib.hid (by
    rw [← hE, show t = (t - 8) + 8 by omega]
    exact Kf.get_burst hp100 (by have := HQ.out; omega) hy)
  have HS : Hid (∀ x ∈ E, x < 256) := Lib.hid (by rw [← hE]; exact Kf.rcd_small HR.out.small)
  have HPE : Hid (Kf.put [] p = E) := Lib.hid (by rw [Kf.put_ok (by omega), hE, List.nil_append])
  have HN := Lib.hid hEl
  have hn105 : n ≤ 105 := by have := HQ.out; omega
  have hn5 : 5 ≤ n := by omega
  clear hE hEl hp100
  go_wp2_with fail
  have hown0 := ownB_made w0
  have hba := below_alloc w0 (.cells #[] 5)
  have HOWN : Hid (∀ W, Below (w0.alloc (.cells #[] 5)).heap.size (w0.alloc (.cells #[] 5)) W → OwnB W w0.heap.size (.slice (some ⟨w0.heap.size, 0, none⟩) 0 0) []) := Lib.hid (fun W h => hown0.below h)
  clear hown0
  refine (H.put none A 0 0 q c [] p E n rfl (by decide) cap0 HQ.out HQC.out HPE.out HN.out _ (Rb.none_ _ _ _) (HR.out.on (below_on hb0 hba))).mono ?_
  rintro e w1 ⟨A1, c1, rfl, HR1, HC1, hw1⟩
  have hb1 : Below w.heap.size w w1 := below_on hb0 (below_on hba hw1)
  have hown1 := HOWN.out w1 hw1
  have hbs : w0.heap.size ≤ w1.heap.size := by
    have := hw1.size
    have h2 : (w0.alloc (.cells #[] 5)).heap.size = w0.heap.size + 1 := by show (w0.heap.push _).size = _; simp
    omega
  have hgw0 := hb0.size
  have hbA : Below w0.heap.size w0 w1 := below_on hba hw1
  clear hw1 HOWN hba
  have hl1 : ([] : List Nat).length + E.length ≤ 8000000 := by have := HN.out; rw [List.length_nil]; omega
  go_upto_region 5 with (at_builtin; refine wp_app _ rfl _ _ rfl w0.heap.size _ [] E rfl hown1 A1 n c1 HN.out rfl HR1.out hl1 hbs ?_; intro v3 w3 hown3 hb3)
  obtain ⟨g, cap, hv⟩ := _root_.Go.Joins.ownsRow_form hown3 (by have := HN.out; simp; omega)
  have hg1 : w0.heap.size ≤ g := OwnB.base hown3 g (by rw [hv]; rfl)
  have hlen : ([] ++ E : List Nat).length = n := by have := HN.out; simp; omega
  have HO : Hid (w3.ownsRow w0.heap.size 5 1 (.slice (some ⟨g, 0, none⟩) n cap) n (vals (Kp.burst E t y 0))) := Lib.hid (by
    have h := hown3
    unfold OwnB at h
    rw [hlen] at h
    rw [hv, hlen] at h
    exact h)
  have HCap : Hid (Cap n cap) := Lib.hid (by
    rw [hv] at hown3
    have := OwnB.cap hown3
    rwa [hlen] at this)
  rw [hlen] at hv
  subst hv
  have hb4 := below_on hb0 (hbA.trans hb3)
  have hgw : w.heap.size ≤ g := Nat.le_trans hgw0 hg1
  clear hb3 hbA hown3 hown1 HR1 HC1 hb1 hbs hl1
  go_wp2_with fail
  go_loopg [10, 11] 32 (fun gg s10 s11 wx => ∃ i : Nat, i + gg = 32 ∧ s10 = .int .i64 i ∧ Hid (wx.ownsRow w0.heap.size 5 1 (.slice (some ⟨g, 0, none⟩) n cap) n (vals (Kp.burst E t y i))) ∧ Below w.heap.size w wx)
  case atStart => exact ⟨0, by omega, rfl, HO, hb4⟩
  case round =>
    obtain ⟨i, hi, rfl, HOi, hwx⟩ := hrel
    cases gk with
    | zero =>
      obtain rfl : i = 32 := by omega
      obtain ⟨m, hm⟩ : ∃ m, Kp.burst E t y 32 = m := ⟨_, rfl⟩
      have hml : m.length = n := by rw [← hm, Kp.burst_len]; exact HN.out.symm
      have HRm : Hid (Rb wr wr.heap.size (some ⟨g, 0, none⟩) m) := Lib.hid (OwnB.rb (base := w0.heap.size) (c := cap) (by
        have h := HOi.out
        rw [hm] at h
        unfold OwnB
        rw [hml]
        exact h) (by omega) (by rw [← hm]; exact Kp.burst_lt HS.out t y 32))
      have HM := Lib.hid hml.symm
      have HG' := HG.out
      rw [hm] at HG'
      by_cases hy0 : y = 0
      · rw [if_pos hy0] at HG'
        have HGm := Lib.hid HG'
        have hyz : ((y : Int) == 0) = true := by simp; omega
        clear hm hml HOi ht HG' hy0
        go_wp2_with fail
        refine (H.get _ n cap m p [] q 0 0 HM.out HCap.out HGm.out HQ.out rfl _ HRm.out).mono ?_
        rintro e w5 ⟨B5, d5, A5, c5, rfl, HP5, HD5, _, _, hw⟩
        have hb5 := below_on hwx hw
        obtain ⟨S, hS⟩ : ∃ S, Kc.tx p = S := ⟨_, rfl⟩
        have hcv1 := conv_rb (c := d5) HQ.out HP5.out hS
        have hcv2 := conv_rb (c := c) HQ.out (HR.out.on hb5) hS
        have hSS : (S.toList == S.toList) = true := by simp
        clear hw hwx hS HP5 HD5
        go_wp2_with fail
        go_ret
        exact ⟨rfl, hb5⟩
      · rw [if_neg hy0] at HG'
        have HGm := Lib.hid HG'
        have hyz : ((y : Int) == 0) = false := by simp; omega
        clear hm hml HOi ht HG' hy0
        go_wp2_with fail
        refine (H.get _ n cap m [] [] 0 0 5 HM.out HCap.out HGm.out rfl rfl _ HRm.out).mono ?_
        rintro e w5 ⟨B5, d5, A5, c5, rfl, HP5, HD5, _, _, hw⟩
        have hb5 := below_on hwx hw
        clear hw hwx HP5 HD5
        go_wp2_with fail
        go_ret
        exact ⟨rfl, hb5⟩
    | succ gg =>
      have hlt : (i : Int) < 32 := by omega
      obtain ⟨h, hh⟩ : ∃ h, y / 2 ^ i = h := ⟨_, rfl⟩
      have e2 : (y : Int) / 2 ^ i = (h : Int) := by rw [← hh]; norm_cast
      have hhl : h < 4294967296 := by rw [← hh]; exact Nat.lt_of_le_of_lt (Nat.div_le_self _ _) hy
      by_cases hodd : h % 2 = 1
      · have e1 : bits .and .u32 (h : Int) 1 = 1 := by rw [low1 hhl, hodd]; rfl
        obtain ⟨q, hq⟩ : ∃ q, (t + i) / 8 = q := ⟨_, rfl⟩
        obtain ⟨r, hr⟩ : ∃ r, (t + i) % 8 = r := ⟨_, rfl⟩
        have hqn : q < n := by omega
        have hqz : (q : Int) < (n : Int) := by omega
        have hr8 : r < 8 := by omega
        have eq1 : ((t : Int) + (i : Int)) / 8 = (q : Int) := by omega
        have eq2 : ((t : Int) + (i : Int)) % 8 = (r : Int) := by omega
        obtain ⟨m, hm⟩ : ∃ m, Kp.burst E t y i = m := ⟨_, rfl⟩
        have hml : q < m.length := by rw [← hm, Kp.burst_len, ← HN.out]; exact hqn
        obtain ⟨x, hx⟩ : ∃ x, m[q] = x := ⟨_, rfl⟩
        have hxl : x < 256 := by rw [← hx]; exact (by rw [← hm]; exact Kp.burst_lt HS.out t y i : ∀ x ∈ m, x < 256) _ (List.getElem_mem hml)
        have hcell : wr.cell? ⟨g, q, none⟩ = some (.int .u8 (x : Int)) := by
          have := World.ownsRow.cells HOi.out (g := g) rfl q (oct x) (by rw [hm]; unfold vals; rw [List.getElem?_map, List.getElem?_eq_getElem hml, hx]; rfl)
          rw [Addr.add_lit, Nat.zero_add] at this
          exact this
        have hfr : wr.frozen? ⟨g, q, none⟩ = false := World.ownsRow.frozenAt HOi.out q
        have hp : 2 ^ r < 256 := Nat.pow_lt_pow_right (a := 2) (by decide) hr8
        obtain ⟨pw, hpw⟩ : ∃ pw, 2 ^ r = pw := ⟨_, rfl⟩
        have epw : (2 : Int) ^ r = (pw : Int) := by rw [← hpw]; norm_cast
        obtain ⟨x', hx'⟩ : ∃ x', x ^^^ pw = x' := ⟨_, rfl⟩
        have ex' : bits .xor .u8 (x : Int) (pw : Int) = (x' : Int) := by rw [← hx']; exact x8 hxl (by omega)
        have hwp : IntKind.u8.wrap (pw : Int) = (pw : Int) := by rw [IntKind.wrap_u8']; omega
        have HB : Hid (Kp.burst E t y (i + 1) = m.set q x') := Lib.hid (by
          show (if y / 2 ^ i % 2 = 1 then _ else _) = _
          rw [if_pos (by rw [hh]; exact hodd), hm]
          unfold Kp.flip
          rw [hq, hr, List.getD_eq_getElem?_getD, List.getElem?_eq_getElem hml, hx, hpw, ← hx']
          rfl)
        have HSt : Hid ((wr.setCell ⟨g, q, none⟩ (oct x')).ownsRow w0.heap.size 5 1 (.slice (some ⟨g, 0, none⟩) n cap) n (vals (Kp.burst E t y (i + 1)))) := Lib.hid (by
          rw [HB.out]
          have := (World.ownsRow.stored HOi.out q (oct x')).1
          rw [hm] at this
          unfold vals at this ⊢
          rw [List.map_set]
          exact this)
        have hwx' := hwx.setCell (p := ⟨g, q, none⟩) hgw (oct x')
        unfold oct at HSt hwx'
        clear hx hx' hm hq hr hpw HB
        go_wp2_with fail
        go_roundg gg
        case measure => omega
        case rel => exact ⟨i + 1, by omega, by simp, HSt, hwx'⟩
      · have e1 : bits .and .u32 (h : Int) 1 = 0 := by rw [low1 hhl, show h % 2 = 0 by omega]; rfl
        have HB : Hid (Kp.burst E t y (i + 1) = Kp.burst E t y i) := Lib.hid (by show (if y / 2 ^ i % 2 = 1 then _ else _) = _; rw [if_neg (by rw [hh]; exact hodd)])
        go_wp2_with fail
        go_roundg gg
        case measure => omega
        case rel => exact ⟨i + 1, by omega, by simp, by rw [HB.out]; exact HOi, hwx⟩
end Go.Proofs.Ytmcmlfmfhljphaa
