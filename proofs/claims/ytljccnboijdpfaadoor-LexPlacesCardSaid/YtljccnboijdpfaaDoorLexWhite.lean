/-
  The walk of layer lex's law LexWhite: it answers true.
-/
import Derived.Test.YtljccnboijdpfaaDoorLexParts
namespace Go.Proofs.YtljccnboijdpfaaDoor
open Go.RowKit

def wt : Nat → Lx.T
  | 0 => [32]
  | 1 => [9]
  | 2 => [13, 10]
  | 3 => [35, 32, 120, 32, 34, 10]
  | _ => [10, 32, 35, 32, 59, 32, 10, 9]
theorem wt_wh : ∀ d, Lx.Wh (wt d)
  | 0 => Lx.wh_32
  | 1 => Lx.wh_9
  | 2 => Lx.wh_app Lx.wh_13 Lx.wh_10
  | 3 => Lx.wh_remark (w := [32, 120, 32, 34]) (by decide)
  | n + 4 => Lx.wh_app Lx.wh_10 (Lx.wh_app Lx.wh_32 (Lx.wh_app (Lx.wh_remark (w := [32, 59, 32]) (by decide)) Lx.wh_9))
theorem wt_starts : ∀ d, Lx.Starts (wt d)
  | 0 => ⟨32, [], rfl, .inl (by decide)⟩
  | 1 => ⟨9, [], rfl, .inl (by decide)⟩
  | 2 => ⟨13, [10], rfl, .inl (by decide)⟩
  | 3 => ⟨35, [32, 120, 32, 34, 10], rfl, .inr (by decide)⟩
  | n + 4 => ⟨10, [32, 35, 32, 59, 32, 10, 9], rfl, .inl (by decide)⟩
theorem wt_len : ∀ d, (wt d).length ≤ 8
  | 0 => by decide
  | 1 => by decide
  | 2 => by decide
  | 3 => by decide
  | n + 4 => Nat.le_refl 8
def ws : Nat → List (Nat × Lx.T) → List (Lx.T × (Nat × Lx.T))
  | _, [] => []
  | k, p :: r => (wt (k % 5), p) :: ws (k + 1) r
def cc (k : Nat) (L : List (Nat × Lx.T)) (f : Lx.T) : Lx.T := Lx.asm (ws k L) f
theorem ws_map : ∀ (k : Nat) (L : List (Nat × Lx.T)), (ws k L).map (·.2) = L
  | _, [] => rfl
  | k, p :: r => by
    show p :: (ws (k + 1) r).map (·.2) = _
    rw [ws_map]
theorem ws_mem : ∀ (k : Nat) (L : List (Nat × Lx.T)), ∀ x ∈ ws k L, (∃ d, x.1 = wt d) ∧ x.2 ∈ L
  | _, [], _, h => by simp [ws] at h
  | k, p :: r, x, h => by
    rcases List.mem_cons.1 h with rfl | h
    · exact ⟨⟨_, rfl⟩, by simp⟩
    · obtain ⟨a, b⟩ := ws_mem (k + 1) r x h
      exact ⟨a, by simp [b]⟩
theorem asm_app : ∀ (L : List (Lx.T × (Nat × Lx.T))) (f : Lx.T), Lx.asm L f = Lx.asm L [] ++ f
  | [], f => by simp [Lx.asm]
  | x :: r, f => by
    show x.1 ++ (Lx.txt x.2.1 x.2.2 ++ Lx.asm r f) = (x.1 ++ (Lx.txt x.2.1 x.2.2 ++ Lx.asm r [])) ++ f
    rw [asm_app r f]
    simp [List.append_assoc]
theorem cc_snoc : ∀ (k : Nat) (L : List (Nat × Lx.T)) (p : Nat × Lx.T), cc k (L ++ [p]) [] = cc k L [] ++ wt ((k + L.length) % 5) ++ Lx.txt p.1 p.2
  | k, [], p => by simp [cc, ws, Lx.asm]
  | k, q :: r, p => by
    have ih := cc_snoc (k + 1) r p
    show wt (k % 5) ++ (Lx.txt q.1 q.2 ++ cc (k + 1) (r ++ [p]) []) = (wt (k % 5) ++ (Lx.txt q.1 q.2 ++ cc (k + 1) r [])) ++ wt ((k + (r.length + 1)) % 5) ++ Lx.txt p.1 p.2
    rw [ih, show k + 1 + r.length = k + (r.length + 1) by omega]
    simp [List.append_assoc]
theorem cc_len : ∀ (k : Nat) (L : List (Nat × Lx.T)), (cc k L []).length ≤ (L.map fun p => (Lx.txt p.1 p.2).length).sum + 8 * L.length
  | _, [] => by simp [cc, ws, Lx.asm]
  | k, p :: r => by
    have ih := cc_len (k + 1) r
    have h := wt_len (k % 5)
    show (wt (k % 5) ++ (Lx.txt p.1 p.2 ++ cc (k + 1) r [])).length ≤ _
    simp only [List.length_append, List.map_cons, List.sum_cons, List.length_cons]
    omega
/-- All of tokens with white between. -/
theorem allT_white {L : List (Nat × Lx.T)} (h1 : L.length ≤ 65536) (h2 : ∀ p ∈ L, Lx.Good p.1 p.2) (k d : Nat) : ∃ ts, allT (cc k L [] ++ wt d) = (ts, (cc k L [] ++ wt d).length, 0) ∧ ts.map bare = L.map fun p => (p.1, 0, str p.2) := by
  have hlen : (ws k L).length = L.length := by
    have := congrArg List.length (ws_map k L)
    rwa [List.length_map] at this
  have hf : Lx.bl false (wt d) = [] := by
    have := wt_wh d []
    rwa [List.append_nil] at this
  obtain ⟨a, b, c⟩ := Lx.lex_asm (ws k L) (wt d) 65536 (by omega) (fun x hx => by
    obtain ⟨⟨e, he⟩, hm⟩ := ws_mem k L x hx
    exact ⟨by rw [he]; exact wt_wh e, h2 _ hm⟩) (fun x hx => by
    obtain ⟨⟨e, he⟩, _⟩ := ws_mem k L x (List.mem_of_mem_tail hx)
    rw [he]; exact wt_starts e) hf (by have := (wt_starts d).sep []; rwa [List.append_nil] at this)
  rw [asm_app, ws_map] at a
  rw [asm_app] at b c
  refine ⟨(Lx.lex 65536 (cc k L [] ++ wt d)).1.map (place (cc k L [] ++ wt d).length), ?_, ?_⟩
  · show ((Lx.lex 65536 (cc k L [] ++ wt d)).1.map _, (cc k L [] ++ wt d).length - (Lx.lex 65536 (cc k L [] ++ wt d)).2.1.length, (Lx.lex 65536 (cc k L [] ++ wt d)).2.2) = _
    have b' : (Lx.lex 65536 (cc k L [] ++ wt d)).2.1 = [] := b
    have c' : (Lx.lex 65536 (cc k L [] ++ wt d)).2.2 = 0 := c
    rw [b', c']; rfl
  · rw [bare_place]
    have a' : (Lx.lex 65536 (cc k L [] ++ wt d)).1.map Lx.flat = L := a
    rw [a']
theorem Rt.one {w : World} {B : Nat} {A : Option Addr} {l : List Tk} (h : Rt w B A l) {c i : Nat} (hi : i < l.length) (hc' : l.length ≤ c) : Rt w B (if c = i then A else A.map fun x => x.add (i * 3)) [l[i]] :=
  ⟨by simp, fun t ht => by simp at ht; subst ht; exact h.size _ (List.getElem_mem hi), fun _ => by
    have hl : l ≠ [] := fun e => by subst e; simp at hi
    obtain ⟨b, off, e, hb, hc⟩ := h.mem hl
    rw [if_neg (by omega), e]
    refine ⟨b, off + i * 3, by simp [Addr.add], hb, fun j u hu => ?_⟩
    rw [Nat.add_assoc]
    refine hc _ u ?_
    have e2 : tcells (l.drop i) = (tcells l).drop (i * 3) := tcells_drop l i
    rw [List.drop_eq_getElem_cons hi] at e2
    have e3 : tcells (l[i] :: l.drop (i + 1)) = tcells [l[i]] ++ tcells (l.drop (i + 1)) := tcells_app [l[i]] _
    rw [e3] at e2
    have hj := (List.getElem?_eq_some_iff.1 hu).1
    rw [← List.getElem?_drop, ← e2, List.getElem?_append_left hj]
    exact hu⟩
theorem mem_sum : ∀ (l : List Nat), ∀ x ∈ l, x ≤ l.sum
  | [], _, h => by simp at h
  | a :: r, x, h => by
    rw [List.sum_cons]
    rcases List.mem_cons.1 h with rfl | h
    · omega
    · have := mem_sum r x h
      omega
def W (d : Nat) : ByteArray := str (wt d)
set_option maxHeartbeats 6400000 in
set_option maxRecDepth 100000 in
theorem lexWhite_any (H : LexC) (s : ByteArray) (k : Int) (w : World) :
    Calls Tryd.prog 7 #[.string s, .int .i64 k] w fun e w' => e = .returned (.bool true) ∧ Below w.heap.size w w' := by
  go_enter Tryd.func7, Tryd.ntmps7
  go_wp2_with fail
  refine (awake_any H _).mono ?_
  rintro e w1 ⟨rfl, hb1⟩
  by_cases h0 : (2000 : Int) < (s.size : Int)
  · go_wp2_with fail
    go_ret
    exact ⟨rfl, hb1⟩
  have hsl : s.data.toList.length = s.size := (Lib.size_eq s).symm
  obtain ⟨l, hl⟩ : ∃ l, s.data.toList = l := ⟨_, rfl⟩
  rw [hl] at hsl
  obtain ⟨⟨ts, x, z⟩, hall⟩ : ∃ g, allT l = g := ⟨_, rfl⟩
  obtain ⟨L, hL⟩ : ∃ L, (Lx.lex 65536 l).1.map Lx.flat = L := ⟨_, rfl⟩
  have hts : ts.map flatT = L := by rw [← hL, ← flat_place l.length]; unfold allT at hall; rw [Prod.mk.injEq] at hall; rw [← hall.1]
  have htb : ts.map bare = L.map fun p => (p.1, 0, str p.2) := by rw [← hL, ← bare_place l.length]; unfold allT at hall; rw [Prod.mk.injEq] at hall; rw [← hall.1]
  have htl : ts.length = L.length := by rw [← hts, List.length_map]
  have hcnt := (ch_sum _ _ _ (Lx.lex_ch 65536 l))
  have hLl : L.length = (Lx.lex 65536 l).1.length := by rw [← hL, List.length_map]
  have hsum : (L.map fun p => (Lx.txt p.1 p.2).length).sum ≤ l.length := by
    have e : (L.map fun p => (Lx.txt p.1 p.2).length) = (Lx.lex 65536 l).1.map fun t => (Lx.txt t.1 t.2.2).length := by rw [← hL, List.map_map]; rfl
    rw [e]
    omega
  have hgood : ∀ p ∈ L, Lx.Good p.1 p.2 := by rw [← hL]; exact lex_goodP 65536 l
  obtain ⟨hm1, hm2⟩ := mask_bd k
  obtain ⟨K, hK⟩ : ∃ K : Nat, bits .and .i64 k 65535 = (K : Int) := ⟨(bits .and .i64 k 65535).toNat, by omega⟩
  have hK2 : K ≤ 65535 := by omega
  obtain ⟨ts2, hj1, hj3⟩ := allT_white (L := L) (by omega) hgood K (K % 5)
  obtain ⟨q, hq⟩ : ∃ q, ts.length = q := ⟨_, rfl⟩
  obtain ⟨M, hM⟩ : ∃ M, ts.map bare = M := ⟨_, rfl⟩
  have ht2l : ts2.length = q := by
    have := congrArg List.length hj3
    rw [List.length_map, List.length_map] at this
    omega
  have HQ := Lib.hid hq.symm
  have HQ2 : Hid (q = ts2.length) := Lib.hid ht2l.symm
  have HM := Lib.hid hM
  have HM2 : Hid (ts2.map bare = M) := Lib.hid (by rw [← hM, htb, hj3])
  have HML : Hid (q = M.length) := Lib.hid (by rw [← hM, List.length_map]; omega)
  have HLq : Hid (q = L.length) := Lib.hid (by omega)
  have HA1 := Lib.hid hall
  have HA2 := Lib.hid hj1
  have HL := Lib.hid hl
  have HTS := Lib.hid hts
  have HCL : Hid (∀ i, (cc K (L.take i) []).length ≤ 20000) := Lib.hid (fun i => by
    have h1 := cc_len K (L.take i)
    have h2 : ((L.take i).map fun p => (Lx.txt p.1 p.2).length).sum ≤ (L.map fun p => (Lx.txt p.1 p.2).length).sum := by
      conv => rhs; rw [← List.take_append_drop i L, List.map_append, List.sum_append]
      omega
    rw [List.length_take] at h1
    omega)
  have HTL : Hid (∀ p ∈ L, (Lx.txt p.1 p.2).length ≤ 2000) := Lib.hid (fun p hp => by
    have := mem_sum (L.map fun p => (Lx.txt p.1 p.2).length) _ (List.mem_map_of_mem hp)
    omega)
  have hq5 : q ≤ 2000 := by omega
  have hs1 : s.size ≤ 1000000 := by omega
  clear hsl hl hall hL hts htb htl hcnt hLl hsum hgood hm1 hm2 hj1 hj3 hq hM ht2l
  go_wp2_with fail
  refine (H.all s l ts q x z hs1 HL.out HA1.out HQ.out _).mono ?_
  rintro e w2 ⟨B2, d2, rfl, HR2, HC2, hw2⟩
  have hb2 := below_on hb1 hw2
  clear hw2 hb1
  obtain ⟨hd1, hd2⟩ := HC2.out
  have hcells : ∀ d, d < 5 → (w2.alloc (.cells #[.string (W 0), .string (W 1), .string (W 2), .string (W 3), .string (W 4)] 9)).cell? ⟨w2.heap.size, d, none⟩ = some (.string (W d)) := by
    intro d hd
    rw [World.cell?_alloc_at _ _ _ _ rfl]
    match d, hd with
    | 0, _ => rfl
    | 1, _ => rfl
    | 2, _ => rfl
    | 3, _ => rfl
    | 4, _ => rfl
  obtain ⟨w3, hw3⟩ : ∃ W3, w2.alloc (.cells #[.string (W 0), .string (W 1), .string (W 2), .string (W 3), .string (W 4)] 9) = W3 := ⟨_, rfl⟩
  have hb23 : Below w2.heap.size w2 w3 := by rw [← hw3]; exact below_alloc w2 _
  have hsz : w2.heap.size < w3.heap.size := by rw [← hw3]; show _ < (w2.heap.push _).size; simp
  rw [hw3] at hcells
  have HCe := Lib.hid hcells
  have hw3' : w2.alloc (.cells #[.string ⟨#[32]⟩, .string ⟨#[9]⟩, .string ⟨#[13, 10]⟩, .string ⟨#[35, 32, 120, 32, 34, 10]⟩, .string ⟨#[10, 32, 35, 32, 59, 32, 10, 9]⟩] 9) = w3 := hw3
  have HR3 := Lib.hid (HR2.out.on hb23)
  have hb3 := below_on hb2 hb23
  clear hcells hw3 hb2 HR2
  go_wp2_with fail
  go_loopg [10, 11] q (fun g s10 s11 wx => ∃ (i : Nat) (O : ByteArray), i + g = q ∧ s11 = .int .i64 i ∧ s10 = .string O ∧ Hid (O.data.toList = cc K (L.take i) []) ∧ Below w3.heap.size w3 wx)
  case atStart => exact ⟨0, ⟨#[]⟩, by omega, rfl, rfl, Lib.hid (by simp [cc, ws, Lx.asm]), Below.refl _ _⟩
  case round =>
    obtain ⟨i, O, hi, rfl, rfl, HO, hwx⟩ := hrel
    have hbx := below_on hb3 hwx
    have HRx := Lib.hid (HR3.out.on hwx)
    cases gk with
    | zero =>
      obtain rfl : i = q := by omega
      have hO := HO.out
      rw [List.take_of_length_le (by have := HLq.out; omega)] at hO
      obtain ⟨d, hd⟩ : ∃ d, K % 5 = d := ⟨_, rfl⟩
      have hd5 : d < 5 := by omega
      have hcell := (hwx.cell (p := ⟨w2.heap.size, d, none⟩) hsz).trans (HCe.out d hd5)
      have hbd := HCL.out L.length
      rw [List.take_of_length_le (Nat.le_refl _)] at hbd
      have hwl := wt_len d
      have hadd := add_str (a := O) (b := W d) hO (str_list (wt d)) (by omega)
      obtain ⟨O1, hO1⟩ : ∃ O1, str (cc K L [] ++ wt d) = O1 := ⟨_, rfl⟩
      rw [hO1] at hadd
      have hO1s : O1.size = (cc K L [] ++ wt d).length := by rw [← hO1, str_len]
      have hO1b : O1.size ≤ 1000000 := by rw [hO1s, List.length_append]; omega
      have HO1 : Hid (O1.data.toList = cc K L [] ++ wt d) := Lib.hid (by rw [← hO1]; rfl)
      have HA3 : Hid (allT (cc K L [] ++ wt d) = (ts2, O1.size, 0)) := Lib.hid (by rw [hO1s, ← hd]; exact HA2.out)
      have t1 : (K : Int).tmod 5 = (d : Int) := by rw [Int.tmod_eq_emod_of_nonneg (by omega)]; omega
      have t2 : (K : Int) % 5 = (d : Int) := by omega
      have hdz : (d : Int) < 5 := by omega
      have hzz : ((O1.size : Int) == (O1.size : Int)) = true := by simp
      clear hd hO hO1 hO1s hbd hwl
      go_wp2_with fail
      refine (H.all O1 _ ts2 i O1.size 0 hO1b HO1.out HA3.out HQ2.out _).mono ?_
      rintro e w4 ⟨B4, d4, rfl, HR4, HC4, hw4⟩
      have hb4 := below_on hbx hw4
      have HRy := Lib.hid (HRx.out.on hw4)
      clear hw4 hbx HRx
      go_wp2_with fail
      refine (plain_of B2 d2 i ts M HQ.out HM.out (by omega) _ HRy.out).mono ?_
      rintro e w5 ⟨B5, d5, rfl, HR5, _, hw5⟩
      have hb5 := below_on hb4 hw5
      have HR4' := Lib.hid (HR4.out.on hw5)
      clear hw5 hb4 HR4 HRy
      go_wp2_with fail
      refine (plain_of B4 d4 i ts2 M HQ2.out HM2.out (by omega) _ HR4'.out).mono ?_
      rintro e w6 ⟨B6, d6, rfl, HR6, _, hw6⟩
      have hb6 := below_on hb5 hw6
      have HR5' := Lib.hid (HR5.out.on hw6)
      clear hw6 hb5 HR4' HR5
      go_wp2_with fail
      refine (same_of B5 B6 d5 d6 i M HML.out _ HR5'.out HR6.out).mono ?_
      rintro e w7 ⟨rfl, hw7⟩
      go_wp2_with fail
      go_ret
      exact ⟨rfl, below_on hb6 hw7⟩
    | succ g =>
      have hlt : i < q := by omega
      have hltz : (i : Int) < (q : Int) := by omega
      have hil : i < ts.length := by have := HQ.out; omega
      have hiL : i < L.length := by have := HLq.out; omega
      obtain ⟨d, hd⟩ : ∃ d, (K + i) % 5 = d := ⟨_, rfl⟩
      have hd5 : d < 5 := by omega
      obtain ⟨u, hu⟩ : ∃ u, K + i = u := ⟨_, rfl⟩
      have hw1 : IntKind.i64.wrap ((K : Int) + (i : Int)) = (u : Int) := by rw [IntWalk.i64_in _ (by omega)]; omega
      have t1 : (u : Int).tmod 5 = (d : Int) := by rw [Int.tmod_eq_emod_of_nonneg (by omega)]; omega
      have t2 : (u : Int) % 5 = (d : Int) := by omega
      have hdz : (d : Int) < 5 := by omega
      have hi1 : IntKind.i64.wrap ((i : Int) + 1) = ((i + 1 : Nat) : Int) := by rw [IntWalk.i64_in _ (by omega)]; omega
      have hcell := (hwx.cell (p := ⟨w2.heap.size, d, none⟩) hsz).trans (HCe.out d hd5)
      obtain ⟨X, hX⟩ : ∃ X, (if d2 = i then B2 else B2.map fun x => x.add (i * 3)) = X := ⟨_, rfl⟩
      obtain ⟨t, ht⟩ : ∃ t, ts[i] = t := ⟨_, rfl⟩
      have hLi : L[i] = flatT t := by
        rw [← ht]
        have := HTS.out
        have h2 : (ts.map flatT)[i]'(by rw [List.length_map]; exact hil) = L[i] := by simp only [this]
        rw [← h2, List.getElem_map]
      obtain ⟨E, hE⟩ : ∃ E, Lx.txt (flatT t).1 (flatT t).2 = E := ⟨_, rfl⟩
      have hEl : E.length ≤ 2000 := by rw [← hE, ← hLi]; exact HTL.out _ (List.getElem_mem hiL)
      have HX : Hid (∀ V, Below wr.heap.size wr V → Rt V V.heap.size X [t]) := Lib.hid (fun V h => by
        have := (HRx.out.on h).one (c := d2) hil (by have := HQ.out; omega)
        rw [hX, ht] at this
        exact this)
      have HJ : Hid ((str E).data.toList = Lx.joinP ([t].map flatT)) := Lib.hid (by rw [str_list, ← hE]; rfl)
      have hbd := HCL.out i
      have hwl := wt_len d
      have hadd1 := add_str (a := O) (b := W d) HO.out (str_list (wt d)) (by omega)
      obtain ⟨O1, hO1⟩ : ∃ O1, str (cc K (L.take i) [] ++ wt d) = O1 := ⟨_, rfl⟩
      rw [hO1] at hadd1
      have hadd2 := add_str (a := O1) (b := str E) (l := cc K (L.take i) [] ++ wt d) (by rw [← hO1]; rfl) (str_list E) (by rw [List.length_append]; omega)
      obtain ⟨S, hS⟩ : ∃ S, str E = S := ⟨_, rfl⟩
      obtain ⟨O2, hO2⟩ : ∃ O2, str (cc K (L.take i) [] ++ wt d ++ E) = O2 := ⟨_, rfl⟩
      rw [hO2, hS] at hadd2
      rw [hS] at HJ
      have hSb : S.size ≤ 1000000 := by rw [← hS, str_len]; omega
      have HO2 : Hid (O2.data.toList = cc K (L.take (i + 1)) []) := Lib.hid (by
        rw [← hO2, str_list, List.take_succ_eq_append_getElem hiL, cc_snoc, List.length_take, Nat.min_eq_left (by omega), hd, hLi, hE])
      have HCd : Hid (Cap 1 (d2 - i)) := Lib.hid ⟨by omega, by omega⟩
      have hic : (i : Int) ≤ (d2 : Int) := by omega
      have hic1 : ((i + 1 : Nat) : Int) ≤ (d2 : Int) := by omega
      have hii : (i : Int) ≤ ((i + 1 : Nat) : Int) := by omega
      have h00 : (0 : Int) ≤ (i : Int) := by omega
      have hcd : wr.drew.cell? ⟨w2.heap.size, d, none⟩ = some (.string (W d)) := hcell
      have hblk : w2.heap.size < wr.heap.size := by have := hwx.size; omega
      clear hd hu ht hLi hE hEl hO1 hO2 hS hbd hwl hil hiL
      go_wp2_with fail
      first | (go_region_held (fun V => V.cell? ⟨w2.heap.size, d, none⟩ = some (.string (W d)))
        (first | exact (hbc.cell (p := ⟨w2.heap.size, d, none⟩) hblk).trans hcell | exact hcd)
        (first | (go_at_call 10; refine (H.join X (d2 - i) 1 [t] S rfl HCd.out hSb HJ.out _ (HX.out _ (Below.refl _ _).drew)).mono ?_; rintro e w6 ⟨rfl, hw6⟩; have hbc := below_on (Below.refl wr.heap.size wr).drew hw6))) | fail
      all_goals
        go_wp2_with fail
        go_roundg g
        case measure => omega
        case rel => exact ⟨i + 1, O2, by omega, by simp, rfl, HO2, below_on hwx hbc⟩
end Go.Proofs.YtljccnboijdpfaaDoor
