/-
  The walk of layer crc's law CrcAdds.
-/
import Derived.Test.YtahghjggkigehaaCrcApp
import Derived.Deep.DeepCutAuto
import Derived.Deep.RegionHeld
import Derived.Deep.RegionHeldLaw
import Derived.Deep.AppendLies
namespace Go.Proofs.Ytahghjggkigehaa
open Go.RowKit Go.Proofs.Ytahghjggkigehaa.Kp

theorem min4 (ts : Array TypeId) (ty : TypeId) (x y z a : Nat) (ha : a = min (min (min x y) z) 1000) (W : World) :
    (Builtin.min_ ts ty #[.int .i64 (x : Int), .int .i64 (y : Int), .int .i64 (z : Int), .int .i64 1000]).run Try.prog W = .ok (.int .i64 (a : Int)) W := by
  have h : (Builtin.min_ ts ty #[.int .i64 (x : Int), .int .i64 (y : Int), .int .i64 (z : Int), .int .i64 1000]).run Try.prog W = .ok (.int .i64 (if (1000 : Int) < (if (z : Int) < (if (y : Int) < (x : Int) then (y : Int) else x) then (z : Int) else (if (y : Int) < (x : Int) then (y : Int) else x)) then 1000 else (if (z : Int) < (if (y : Int) < (x : Int) then (y : Int) else x) then (z : Int) else (if (y : Int) < (x : Int) then (y : Int) else x)))) W := by
    simp [Builtin.min_, Builtin.min2]
  rw [h]
  congr 2
  subst ha
  split <;> split <;> omega
/-- One octet more, at a step of a region that draws its order. -/
theorem step_app {w : World} {ops : Array Oper} {o : Oper} {a : Act} {K : Act → World → Prop} {Q : Exit → Act → World → Prop} {E : Prop} (hgd : o.guard = none) (s x : Operand)
    (ho : o.op = .call { callee := .builtin .append, args := #[s, x], argTypes := #[23, 23] })
    (base : Nat) (v : Value) (l : List Nat) (u : Nat) (hs : a.eval s = v) (hown : Own w base v l) (ad : Addr) (hx : a.eval x = .slice (some ad) 1 1) (hr : Rb w w.heap.size (some ad) [u])
    (hlen : l.length ≤ 1000) (hbase : base ≤ w.heap.size)
    (h : ∀ v' w', Own w' base v' (l ++ [u]) → Below base w w' → K (a.put o.dst v') w') :
    if Region.wanted o (yielded ops a.tmps) = true then Oper.wp Try.prog o a w K Q else E := by
  obtain ⟨i0, hi, hz0, hz1, hz2⟩ := info_parts info_oct
  refine step_append_lies w hgd s x 23 ho base 5 i0 _ 1 1 Try.underlying23 hi hz0 hz1 hz2 rfl (by decide) v l.length (vals l) hs hown ad 1 1 (vals [u]) hx (by rw [vals_len]; rfl) ?_ (vals_one' _) (by omega) (by unfold maxLen; omega) (by omega) hbase _ rfl ?_
  · intro j y hj
    obtain ⟨b, off, e, _, hc⟩ := hr.mem (by simp)
    cases e
    unfold vals at hj
    rw [List.getElem?_map] at hj
    obtain ⟨x', hx', rfl⟩ := Option.map_eq_some_iff.1 hj
    have := hc j x' hx'
    rwa [Addr.add_lit]
  · intro g cap w' ho' hg _ _
    refine h _ w' ?_ ((Below.refl base w).grown hg hbase (Own.base hown))
    unfold Own
    rw [vals_app, List.length_append]
    exact ho'
def three (l m o : List Nat) : List Nat := List.zipWith (· ^^^ ·) (List.zipWith (· ^^^ ·) l m) o
theorem three_len {l m o : List Nat} {a : Nat} (h1 : l.length = a) (h2 : m.length = a) (h3 : o.length = a) : (three l m o).length = a := by simp [three, h1, h2, h3]

theorem zip_lt {l m : List Nat} (hl : ∀ x ∈ l, x < 256) (hm : ∀ x ∈ m, x < 256) : ∀ x ∈ List.zipWith (· ^^^ ·) l m, x < 256 := by
  intro x hx
  obtain ⟨i, hi, rfl⟩ := List.getElem_of_mem hx
  rw [List.getElem_zipWith]
  exact xor_lt8 (hl _ (List.getElem_mem _)) (hm _ (List.getElem_mem _))
theorem three_lt {l m o : List Nat} (hl : ∀ x ∈ l, x < 256) (hm : ∀ x ∈ m, x < 256) (ho : ∀ x ∈ o, x < 256) : ∀ x ∈ three l m o, x < 256 := zip_lt (zip_lt hl hm) ho
set_option maxHeartbeats 6400000 in
set_option maxRecDepth 100000 in
theorem crcAdds_any (HStep : StepC) (HSum : SumC) (A : Option Addr) (n k : Nat) (l : List Nat) (B : Option Addr) (n2 k2 : Nat) (m : List Nat) (C : Option Addr) (n3 k3 : Nat) (o : List Nat) (w : World)
    (hn : n = l.length) (hr : Rb w w.heap.size A l) (hnk : n ≤ k ∧ k ≤ 9223372036854775807) (hn2 : n2 = m.length) (hr2 : Rb w w.heap.size B m) (hnk2 : n2 ≤ k2 ∧ k2 ≤ 9223372036854775807) (hn3 : n3 = o.length) (hr3 : Rb w w.heap.size C o) (hnk3 : n3 ≤ k3 ∧ k3 ≤ 9223372036854775807) :
    Calls Try.prog 6 #[.slice A n k, .slice B n2 k2, .slice C n3 k3] w fun e w' => e = .returned (.bool true) ∧ Below w.heap.size w w' := by
  have HN := Lib.hid hn
  have HR := Lib.hid hr
  have HN2 := Lib.hid hn2
  have HR2 := Lib.hid hr2
  have HN3 := Lib.hid hn3
  have HR3 := Lib.hid hr3
  obtain ⟨hnc, hcm⟩ := hnk
  obtain ⟨hnc2, hcm2⟩ := hnk2
  obtain ⟨hnc3, hcm3⟩ := hnk3
  clear hn hr hn2 hr2 hn3 hr3
  go_enter Try.func6, Try.ntmps6
  go_wp2_with fail
  refine (awake_any HStep HSum _).mono ?_
  rintro e w1 ⟨rfl, hb1⟩
  obtain ⟨a, ha⟩ : ∃ a, min (min (min n n2) n3) 1000 = a := ⟨_, rfl⟩
  have hmin := fun ts ty W => min4 ts ty n n2 n3 a ha.symm W
  have ha1 : a ≤ n := by omega
  have ha2 : a ≤ n2 := by omega
  have ha3 : a ≤ n3 := by omega
  have ha4 : a ≤ 1000 := by omega
  clear ha
  obtain ⟨xs, hxs⟩ : ∃ xs, three (l.take a) (m.take a) (o.take a) = xs := ⟨_, rfl⟩
  have HL1 : Hid (a = (l.take a).length) := Lib.hid (by rw [List.length_take]; have := HN.out; omega)
  have HL2 : Hid (a = (m.take a).length) := Lib.hid (by rw [List.length_take]; have := HN2.out; omega)
  have HL3 : Hid (a = (o.take a).length) := Lib.hid (by rw [List.length_take]; have := HN3.out; omega)
  have HXl : Hid (xs.length = a) := Lib.hid (by rw [← hxs]; exact three_len HL1.out.symm HL2.out.symm HL3.out.symm)
  have HX := Lib.hid hxs
  clear hxs
  go_wp2_with fail
  go_loopg [9, 10] a (fun g s9 s10 wx => ∃ i : Nat, i + g = a ∧ s10 = .int .i64 i ∧ Hid (Own wx w1.heap.size s9 (xs.take i)) ∧ Below w1.heap.size w1 wx)
  case atStart => exact ⟨0, by omega, rfl, Lib.hid (Own.nil _ _), Below.refl _ _⟩
  case round =>
    obtain ⟨i, hi, rfl, HO, hwx⟩ := hrel
    cases gk with
    | zero =>
      obtain rfl : i = a := by omega
      obtain ⟨A9, c9, hv⟩ := Own.slice HO.out
      have hxt : xs.take i = xs := List.take_of_length_le (by have := HXl.out; omega)
      have HS9 : Hid (∀ x ∈ xs, x < 256) := Lib.hid (by rw [← HX.out]; exact three_lt (fun x hx => HR.out.small x (List.mem_of_mem_take hx)) (fun x hx => HR2.out.small x (List.mem_of_mem_take hx)) (fun x hx => HR3.out.small x (List.mem_of_mem_take hx)))
      have HR9 : Hid (Rb wr wr.heap.size A9 xs) := Lib.hid (Own.rb (base := w1.heap.size) (c := c9) (by
        have h := HO.out
        rw [hv, hxt] at h
        exact h) (by have := HXl.out; omega) HS9.out)
      rw [hxt, HXl.out] at hv
      subst hv
      have HX9 : Hid (i = xs.length) := Lib.hid HXl.out.symm
      have hbw := below_on hb1 hwx
      obtain ⟨z0, hz0⟩ : ∃ z, Kp.sum xs = z := ⟨_, rfl⟩
      obtain ⟨z1, hz1⟩ : ∃ z, Kp.sum (l.take i) = z := ⟨_, rfl⟩
      obtain ⟨z2, hz2⟩ : ∃ z, Kp.sum (m.take i) = z := ⟨_, rfl⟩
      obtain ⟨z3, hz3⟩ : ∃ z, Kp.sum (o.take i) = z := ⟨_, rfl⟩
      obtain ⟨z12, hz12⟩ : ∃ z, z1 ^^^ z2 = z := ⟨_, rfl⟩
      have g1 : z1 < 4294967296 := by rw [← hz1]; exact sum_lt (fun x hx => HR.out.small x (List.mem_of_mem_take hx))
      have g2 : z2 < 4294967296 := by rw [← hz2]; exact sum_lt (fun x hx => HR2.out.small x (List.mem_of_mem_take hx))
      have g3 : z3 < 4294967296 := by rw [← hz3]; exact sum_lt (fun x hx => HR3.out.small x (List.mem_of_mem_take hx))
      have g12 : z12 < 4294967296 := by rw [← hz12]; exact xor_lt g1 g2
      have ex1 : bits .xor .u32 (z1 : Int) (z2 : Int) = (z12 : Int) := by rw [x32 g1 g2, hz12]
      have ex2 : bits .xor .u32 (z12 : Int) (z3 : Int) = (z0 : Int) := by
        rw [x32 g12 g3, ← hz12, ← hz0, ← HX.out, ← hz1, ← hz2, ← hz3]
        congr 1
        exact (sum_three _ _ _ (by rw [← HL1.out, ← HL2.out]) (by rw [← HL1.out, ← HL3.out])).symm
      have HZ0 := Lib.hid hz0
      have HZ1 := Lib.hid hz1
      have HZ2 := Lib.hid hz2
      have HZ3 := Lib.hid hz3
      have ha1z : (i : Int) ≤ (n : Int) := by omega
      have ha2z : (i : Int) ≤ (n2 : Int) := by omega
      have ha3z : (i : Int) ≤ (n3 : Int) := by omega
      have ha1c : (i : Int) ≤ (k : Int) := by omega
      have ha2c : (i : Int) ≤ (k2 : Int) := by omega
      have ha3c : (i : Int) ≤ (k3 : Int) := by omega
      clear hz0 hz1 hz2 hz3 hz12 hxt HO hmin
      go_upto_region 8 with fail
      have tok1 : True := trivial
      have tok2 : True := trivial
      have tok3 : True := trivial
      have tok4 : True := trivial
      go_region_held (fun _ => True) (trivial) (first
        | (go_at_call 14; clear tok1; refine (HSum A9 i c9 xs z0 HX9.out HZ0.out _ (HR9.out.on (Below.refl _ _).drew)).mono ?_; rintro e w5 ⟨rfl, hw5⟩; have hb5 := below_on hbw.drew hw5)
        | (go_at_call 14; clear tok2; refine (HSum A i k (l.take i) z1 HL1.out HZ1.out _ ((HR.out.on hb5).take i)).mono ?_; rintro e w6 ⟨rfl, hw6⟩; have hb6 := below_on hb5 hw6)
        | (go_at_call 14; clear tok3; refine (HSum B i k2 (m.take i) z2 HL2.out HZ2.out _ ((HR2.out.on hb6).take i)).mono ?_; rintro e w7 ⟨rfl, hw7⟩; have hb7 := below_on hb6 hw7)
        | (go_at_call 14; clear tok4; refine (HSum C i k3 (o.take i) z3 HL3.out HZ3.out _ ((HR3.out.on hb7).take i)).mono ?_; rintro e w8 ⟨rfl, hw8⟩; have hb8 := below_on hb7 hw8))
      all_goals
        go_wp2_with fail
        go_ret
        exact ⟨rfl, hb8⟩
    | succ g =>
      have hltz : (i : Int) < (a : Int) := by omega
      have hil1 : i < l.length := by have := HN.out; omega
      have hil2 : i < m.length := by have := HN2.out; omega
      have hil3 : i < o.length := by have := HN3.out; omega
      have hiz1 : (i : Int) < (n : Int) := by omega
      have hiz2 : (i : Int) < (n2 : Int) := by omega
      have hiz3 : (i : Int) < (n3 : Int) := by omega
      obtain ⟨A9, c9, hv⟩ := Own.slice HO.out
      have HOs := HO.out
      rw [hv] at HOs
      have hxtl : (xs.take i).length = i := by rw [List.length_take, HXl.out]; omega
      rw [hxtl] at hv
      rw [hxtl] at HOs
      subst hv
      obtain ⟨b1, o1, rfl, hp1, c1⟩ := ((HR.out.on hb1).below hwx).at_ hil1
      obtain ⟨b2, o2, rfl, hp2, c2⟩ := ((HR2.out.on hb1).below hwx).at_ hil2
      obtain ⟨b3, o3, rfl, hp3, c3⟩ := ((HR3.out.on hb1).below hwx).at_ hil3
      unfold oct at c1 c2 c3
      obtain ⟨x1, hx1⟩ : ∃ x, l[i] = x := ⟨_, rfl⟩
      obtain ⟨x2, hx2⟩ : ∃ x, m[i] = x := ⟨_, rfl⟩
      obtain ⟨x3, hx3⟩ : ∃ x, o[i] = x := ⟨_, rfl⟩
      have l1 : x1 < 256 := by rw [← hx1]; exact HR.out.small _ (List.getElem_mem hil1)
      have l2 : x2 < 256 := by rw [← hx2]; exact HR2.out.small _ (List.getElem_mem hil2)
      have l3 : x3 < 256 := by rw [← hx3]; exact HR3.out.small _ (List.getElem_mem hil3)
      obtain ⟨u, hu⟩ : ∃ u, x1 ^^^ x2 = u := ⟨_, rfl⟩
      obtain ⟨v, hvv⟩ : ∃ v, u ^^^ x3 = v := ⟨_, rfl⟩
      have lu : u < 256 := by rw [← hu]; exact xor_lt8 l1 l2
      have lv : v < 256 := by rw [← hvv]; exact xor_lt8 lu l3
      have eu : bits .xor .u8 (x1 : Int) (x2 : Int) = (u : Int) := by rw [x8 l1 l2, hu]
      have ev : bits .xor .u8 (u : Int) (x3 : Int) = (v : Int) := by rw [x8 lu l3, hvv]
      have HT : Hid (xs.take i ++ [v] = xs.take (i + 1)) := Lib.hid (by
        have h : xs[i]? = some v := by
          rw [← HX.out]
          unfold three
          have hlt : i < a := by omega
          simp [List.getElem?_zipWith, hlt, List.getElem?_eq_getElem hil1, List.getElem?_eq_getElem hil2, List.getElem?_eq_getElem hil3, hx1, hx2, hx3, hu, hvv]
        rw [List.take_add_one, h]; rfl)
      rw [hx1] at c1
      rw [hx2] at c2
      rw [hx3] at c3
      clear hx1 hx2 hx3 hu hvv HO
      have q1 : b1 < wr.heap.size := by have := hwx.size; omega
      have q2 : b2 < wr.heap.size := by have := hwx.size; omega
      have q3 : b3 < wr.heap.size := by have := hwx.size; omega
      have d1 : wr.drew.cell? ⟨b1, o1 + i, none⟩ = some (.int .u8 (x1 : Int)) := c1
      have d2 : wr.drew.cell? ⟨b2, o2 + i, none⟩ = some (.int .u8 (x2 : Int)) := c2
      have d3 : wr.drew.cell? ⟨b3, o3 + i, none⟩ = some (.int .u8 (x3 : Int)) := c3
      obtain ⟨W2, hW2⟩ : ∃ W2, wr.drew.alloc (.cells #[.int .u8 (v : Int)] 5) = W2 := ⟨_, rfl⟩
      have f1 : (wr.drew.alloc (.cells #[.int .u8 (v : Int)] 5)).cell? ⟨b1, o1 + i, none⟩ = some (.int .u8 (x1 : Int)) := by rw [World.cell?_alloc_lt _ _ _ q1]; exact c1
      have f2 : (wr.drew.alloc (.cells #[.int .u8 (v : Int)] 5)).cell? ⟨b2, o2 + i, none⟩ = some (.int .u8 (x2 : Int)) := by rw [World.cell?_alloc_lt _ _ _ q2]; exact c2
      have f3 : (wr.drew.alloc (.cells #[.int .u8 (v : Int)] 5)).cell? ⟨b3, o3 + i, none⟩ = some (.int .u8 (x3 : Int)) := by rw [World.cell?_alloc_lt _ _ _ q3]; exact c3
      have h1 : (wr.alloc (.cells #[.int .u8 (v : Int)] 5)).drew.cell? ⟨b1, o1 + i, none⟩ = some (.int .u8 (x1 : Int)) := f1
      have h2 : (wr.alloc (.cells #[.int .u8 (v : Int)] 5)).drew.cell? ⟨b2, o2 + i, none⟩ = some (.int .u8 (x2 : Int)) := f2
      have h3 : (wr.alloc (.cells #[.int .u8 (v : Int)] 5)).drew.cell? ⟨b3, o3 + i, none⟩ = some (.int .u8 (x3 : Int)) := f3
      have HOw : Hid (Own (wr.drew.alloc (.cells #[.int .u8 (v : Int)] 5)) w1.heap.size (.slice A9 i c9) (xs.take i)) := Lib.hid (Own.alloc (World.ownsRow.drew HOs) _)
      have HRn : Hid (Rb (wr.drew.alloc (.cells #[.int .u8 (v : Int)] 5)) (wr.drew.alloc (.cells #[.int .u8 (v : Int)] 5)).heap.size (some ⟨wr.heap.size, 0, none⟩) [v]) := Lib.hid (rb_new wr.drew _ _ (0, 0) [v] rfl (by simp) (by intro x hx; simp at hx; omega))
      have hbs : w1.heap.size ≤ (wr.drew.alloc (.cells #[.int .u8 (v : Int)] 5)).heap.size := by
        have := hwx.size
        show _ ≤ (wr.heap.push _).size
        rw [Array.size_push]; omega
      have hbw2 : Below w1.heap.size w1 (wr.drew.alloc (.cells #[.int .u8 (v : Int)] 5)) := hwx.drew.alloc hwx.size _
      have hle : (xs.take i).length ≤ 1000 := by omega
      clear HOs hW2 W2
      go_upto_region 7 with fail
      go_region_held_law (fun w' => w'.cell? ⟨b1, o1 + i, none⟩ = some (.int .u8 (x1 : Int)) ∧ w'.cell? ⟨b2, o2 + i, none⟩ = some (.int .u8 (x2 : Int)) ∧ w'.cell? ⟨b3, o3 + i, none⟩ = some (.int .u8 (x3 : Int)))
        (first
          | with_reducible exact ⟨d1, d2, d3⟩
          | with_reducible exact ⟨h1, h2, h3⟩
          | exact ⟨(hb4.cell (p := ⟨b1, o1 + i, none⟩) hp1).trans f1, (hb4.cell (p := ⟨b2, o2 + i, none⟩) hp2).trans f2, (hb4.cell (p := ⟨b3, o3 + i, none⟩) hp3).trans f3⟩)
        ((refine step_app (by rfl) _ _ (by rfl) w1.heap.size _ (xs.take i) v (by rfl) HOw.out ⟨wr.heap.size, 0, none⟩ (by rfl) HRn.out hle hbs ?_; intro v4 w4 hown4 hb4))
      all_goals
        have HO4 : Hid (Own w4 w1.heap.size v4 (xs.take (i + 1))) := Lib.hid (HT.out ▸ hown4)
        have hb5 := hbw2.trans hb4
        clear hown4 hb4
        go_wp2_with fail
        go_roundg g
        case measure => omega
        case rel => exact ⟨i + 1, by omega, by simp, HO4, hb5⟩
end Go.Proofs.Ytahghjggkigehaa
