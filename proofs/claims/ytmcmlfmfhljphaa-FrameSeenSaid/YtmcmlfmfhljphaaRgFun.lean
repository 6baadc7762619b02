/-
  A range over a function whose iterator keeps variables of its own in cells, and calls: one law, by states. The invariant I tells of a state what the cells hold, the caller's and the iterator's; the iterator may do what it likes between two rounds, if I holds of a state behind it and what is no cells from the loop's start on stays.
-/
import Derived.Test.YtmcmlfmfhljphaaWb
import Derived.RangeFuncNested
import Derived.RangeFuncLeaves
import Derived.RangeFuncWrites
namespace Go.Proofs.Ytmcmlfmfhljphaa
open Go.RowKit

/-- How a round may be left. -/
def rgEnd {σ : Type} (B : Nat) (I : σ → World → Prop) (Ix : Code → σ → World → Prop) (s : σ) (W : World) : Exit → Act → World → Prop
  | .normal, _, W' => KeepsFrom B W W' ∧ I s W'
  | .ret, _, W' => KeepsFrom B W W' ∧ Ix .ret s W'
  | .exit id, _, W' => KeepsFrom B W W' ∧ Ix (.exit id) s W'
  | .goto t, _, W' => KeepsFrom B W W' ∧ Ix (.goto t) s W'
  | .panic _, _, _ => False
  | .outgrown, _, _ => False

/-- What an iterator owes, told of states. -/
def RgSeq {σ α : Type} (n : Nat) (P : Program) (gf : Nat) (lb : Array Value) (encs : α → Array Value) (B : Nat) (I : σ → World → Prop) (s0 : σ) (nx : σ → α → σ) (Gn : σ → α → Prop) (Fin : σ → Prop) : Prop :=
  ∀ (l : Nat) (J Jx : σ → World → Prop) (W : World), (∀ s A, J s A → I s A) → (∀ s s' A C, J s A → I s' C → KeepsFrom B A C → J s' C) →
    (∀ s x W1, J s W1 → Gn s x → YieldAt Fence.wide (n - 1) P l (encs x) W1 fun e W' => (e = .returned (.bool true) ∧ J (nx s x) W') ∨ (e = .returned (.bool false) ∧ Jx (nx s x) W')) →
    J s0 W → CallsIn Fence.wide n P gf (#[.func (.yield l) #[] #[]] ++ lb) W fun e W' => (∃ v, e = .returned v) ∧ ((∃ s, Fin s ∧ J s W') ∨ (∃ s, Jx s W'))

theorem wp_rgState {σ α : Type} {n : Nat} {P : Program} {g : Operand} {ps : Array Tmp} {assign body : Code} {Q : Exit → Act → World → Prop} {a : Act} {w : World}
    {gf : Nat} {lb : Array Value} (hg : a.eval g = .func (.func gf) #[] lb) (eg : ∀ args w, (callFunc gf args).run P w = .ok (.enter gf args) w)
    {encs : α → Array Value} (hps : ∀ x, (encs x).size = ps.size)
    (I : σ → World → Prop) (Ix : Code → σ → World → Prop) (hI : OwnFrom w.heap.size I) (hIx : ∀ c, OwnFrom w.heap.size (Ix c))
    (s0 : σ) (h0 : I s0 w) (nx : σ → α → σ) (Gn : σ → α → Prop) (Fin : σ → Prop)
    (hseq : RgSeq (n - 1) P gf lb encs w.heap.size I s0 nx Gn Fin) (a₁ : α → Act)
    (hassign : ∀ (l : Nat) (x : α) (W : World) (K : Act → World → Prop), K (a₁ x) W →
      assign.wpIn (Fence.wide.inRound l) (n - 1 - 1) P (Exit.then K (fun _ _ _ => False)) { tmps := (ps.zip (encs x)).foldl (fun t (p, v) => t.setIfInBounds p v) a.tmps, defers := [] } W)
    (hbody : ∀ (l : Nat) (s : σ) (x : α) (W : World), I s W → Gn s x → body.wpIn (Fence.wide.inRound l) (n - 1 - 1) P (rgEnd w.heap.size I Ix (nx s x) W) (a₁ x) W)
    (hdone : ∀ (D : Nat) (s : σ) (W : World), w.heap.size ≤ D → Fin s → I s W → W.heap[D]? = some (.deferred (some [])) → Q .normal { a with defers := { target := .collected D, args := #[] } :: a.defers } W)
    (hstop : ∀ (D : Nat) (c : Code) (s : σ) (W : World), w.heap.size ≤ D → Ix c s W → W.heap[D]? = some (.deferred (some [])) → c.wpIn Fence.wide n P Q { a with defers := { target := .collected D, args := #[] } :: a.defers } W) :
    (Code.rangeFunc g ps assign body).wpIn Fence.wide n P Q a w := by
  refine wpIn_rangeFunc fun fn hfn => ?_
  obtain ⟨B, hB⟩ : ∃ B, w.heap.size = B := ⟨_, rfl⟩
  obtain ⟨R, hR⟩ : ∃ R : LoopState → Option Code → Loop, R = fun st pe => { state := st, pending := pe, fn, tmps := a.tmps, params := ps, assign, body, defers := w.heap.size } := ⟨_, rfl⟩
  have two : ((w.alloc (.deferred (some []))).alloc (.loop (R .ready none))).heap[B + 1]? = some (.loop (R .ready none)) := by
    have := World.alloc_heap_new (w.alloc (.deferred (some []))) (.loop (R .ready none))
    rwa [World.size_alloc, hB] at this
  have one : ((w.alloc (.deferred (some []))).alloc (.loop (R .ready none))).heap[B]? = some (.deferred (some [])) := by
    rw [← hB]; exact (Below.heap_alloc _ _ _ (by simp)).trans (World.alloc_heap_new w _)
  have start := hI.alloc (Obj.loop (R .ready none)) (hI.alloc (Obj.deferred (some [])) h0)
  rw [hB] at hI hIx hseq hbody hdone hstop
  have enter := run_enterLoop_outer (P := P) (w := w) fn a.tmps ps assign body
  obtain ⟨W0, hW0⟩ : ∃ W0, (w.alloc (.deferred (some []))).alloc (.loop (R .ready none)) = W0 := ⟨_, rfl⟩
  rw [hW0] at one two start
  refine ⟨B + 1, [{ target := .collected B, args := #[] }], W0, { target := .fn (.func gf) lb, args := #[.func (.yield (B + 1)) #[] #[]] }, W0, gf, #[.func (.yield (B + 1)) #[] #[]] ++ lb, W0, ?_, ?_, fun _ _ => trivial, ?_, fun h => (by cases h), ?_⟩
  · rw [← hW0, hR, ← hB]; exact enter
  · simp only [resolve, hg]
    simp [go_sem]
  · simp [invoke, go_sem, eg]
  refine (hseq (B + 1)
    (fun s W => I s W ∧ W.heap[B + 1]? = some (.loop (R .ready none)) ∧ W.heap[B]? = some (.deferred (some [])))
    (fun s W => ∃ c, Ix c s W ∧ W.heap[B + 1]? = some (.loop (R .done (some c))) ∧ W.heap[B]? = some (.deferred (some [])))
    W0 (fun _ _ h => h.1) (fun s s' A C h hC hk => ⟨hC, hk.same _ _ (Nat.le_succ B) h.2.1 rfl, hk.same _ _ (Nat.le_refl B) h.2.2 rfl⟩) ?_ ⟨start, two, one⟩).mono ?_
  · rintro s x W ⟨hi, hl, hk⟩ hgo
    have hlt : B + 1 < W.heap.size := (Array.getElem?_eq_some_iff.1 hl).1
    have hy := run_yield (P := P) (args := encs x) hl (by rw [hR]; exact hps x)
    rw [hR] at hy
    refine ⟨fn, _, assign, body, hy, roundIn_of_wpIn hfn (hassign _ x W _ ⟨_, run_beginRound hl (by rw [hR]), ?_⟩)⟩
    have hl2 := World.putObj_heap_same (w := W) (o := .loop { R .ready none with state := .busy }) hlt
    have hk2 := (World.putObj_heap_other (w := W) (o := .loop { R .ready none with state := .busy }) (show B ≠ B + 1 by omega)).trans hk
    have fin : ∀ (j : Option Code) (V : World), KeepsFrom B (W.putObj (B + 1) (.loop { R .ready none with state := .busy })) V →
        ∃ V', (Instr.endRound (B + 1) j).run P V = .ok (.bool j.isNone) V' ∧ V' = V.putObj (B + 1) (.loop (R (if j.isNone then .ready else .done) j)) ∧
          V.heap[B + 1]? = some (.loop { R .ready none with state := .busy }) ∧
          V'.heap[B + 1]? = some (.loop (R (if j.isNone then .ready else .done) j)) ∧ V'.heap[B]? = some (.deferred (some [])) := by
      intro j V hkv
      have h3 := hkv.same _ _ (Nat.le_succ B) hl2 rfl
      have h4 := run_endRound (P := P) j h3
      rw [hR] at h4 h3 ⊢
      exact ⟨_, h4, rfl, h3, World.putObj_heap_same (Array.getElem?_eq_some_iff.1 h3).1, (World.putObj_heap_other (by omega)).trans (hkv.same _ _ (Nat.le_refl B) hk2 rfl)⟩
    refine wpIn_mono (hbody _ s x _ (hI.putObj _ hi (Nat.le_succ B) hl rfl) hgo) ?_
    rintro e b V hp
    have stop : ∀ c, KeepsFrom B (W.putObj (B + 1) (.loop { R .ready none with state := .busy })) V → Ix c (nx s x) V → ∃ v V', (Instr.endRound (B + 1) (some c)).run P V = .ok v V' ∧
        ((Ending.returned v = .returned (.bool true) ∧ I (nx s x) V' ∧ V'.heap[B + 1]? = some (.loop (R .ready none)) ∧ V'.heap[B]? = some (.deferred (some []))) ∨
         (Ending.returned v = .returned (.bool false) ∧ ∃ c, Ix c (nx s x) V' ∧ V'.heap[B + 1]? = some (.loop (R .done (some c))) ∧ V'.heap[B]? = some (.deferred (some [])))) := by
      intro c hkv hx
      obtain ⟨V', h1, rfl, h3, h4, h5⟩ := fin (some c) V hkv
      exact ⟨_, _, h1, .inr ⟨rfl, c, (hIx c).putObj _ hx (Nat.le_succ B) h3 rfl, h4, h5⟩⟩
    cases e with
    | normal =>
      obtain ⟨V', h1, rfl, h3, h4, h5⟩ := fin none V hp.1
      exact ⟨_, _, h1, .inl ⟨rfl, hI.putObj _ hp.2 (Nat.le_succ B) h3 rfl, h4, h5⟩⟩
    | ret => exact stop _ hp.1 hp.2
    | exit id => exact stop _ hp.1 hp.2
    | goto t => exact stop _ hp.1 hp.2
    | panic ch => exact hp.elim
    | outgrown => exact hp.elim
  · rintro e V ⟨⟨v, rfl⟩, (⟨s, hF, hi, hl, hk⟩ | ⟨s, c, hi, hl, hk⟩)⟩
    · have h := run_endLoop (P := P) hl (by rw [hR]; simp)
      exact ⟨none, _, by rw [hR] at h; exact h, hdone _ s _ (Nat.le_refl B) hF (hI.putObj _ hi (Nat.le_succ B) hl rfl) ((World.putObj_heap_other (by omega)).trans hk)⟩
    · have h := run_endLoop (P := P) hl (by rw [hR]; simp)
      exact ⟨some c, _, by rw [hR] at h; exact h, hstop _ c s _ (Nat.le_refl B) ((hIx c).putObj _ hi (Nat.le_succ B) hl rfl) ((World.putObj_heap_other (by omega)).trans hk)⟩
/-- The same where the assignment to the loop's left sides turns the world (a loop variable that lies in a block of its own): As tells of each round's value what holds behind it. -/
theorem wp_rgStateA {σ α : Type} {n : Nat} {P : Program} {g : Operand} {ps : Array Tmp} {assign body : Code} {Q : Exit → Act → World → Prop} {a : Act} {w : World}
    {gf : Nat} {lb : Array Value} (hg : a.eval g = .func (.func gf) #[] lb) (eg : ∀ args w, (callFunc gf args).run P w = .ok (.enter gf args) w)
    {encs : α → Array Value} (hps : ∀ x, (encs x).size = ps.size)
    (I : σ → World → Prop) (Ix : Code → σ → World → Prop) (hI : OwnFrom w.heap.size I) (hIx : ∀ c, OwnFrom w.heap.size (Ix c))
    (s0 : σ) (h0 : I s0 w) (nx : σ → α → σ) (Gn : σ → α → Prop) (Fin : σ → Prop)
    (hseq : RgSeq (n - 1) P gf lb encs w.heap.size I s0 nx Gn Fin) (As : α → Act → σ → World → Prop) (hAs : ∀ x b, OwnFrom w.heap.size (As x b))
    (hassign : ∀ (l : Nat) (s : σ) (x : α) (W : World) (K : Act → World → Prop), I s W → Gn s x → (∀ b W', KeepsFrom w.heap.size W W' → As x b s W' → K b W') →
      assign.wpIn (Fence.wide.inRound l) (n - 1 - 1) P (Exit.then K (fun _ _ _ => False)) { tmps := (ps.zip (encs x)).foldl (fun t (p, v) => t.setIfInBounds p v) a.tmps, defers := [] } W)
    (hbody : ∀ (l : Nat) (s : σ) (x : α) (b : Act) (W : World), As x b s W → Gn s x → body.wpIn (Fence.wide.inRound l) (n - 1 - 1) P (rgEnd w.heap.size I Ix (nx s x) W) b W)
    (hdone : ∀ (D : Nat) (s : σ) (W : World), w.heap.size ≤ D → Fin s → I s W → W.heap[D]? = some (.deferred (some [])) → Q .normal { a with defers := { target := .collected D, args := #[] } :: a.defers } W)
    (hstop : ∀ (D : Nat) (c : Code) (s : σ) (W : World), w.heap.size ≤ D → Ix c s W → W.heap[D]? = some (.deferred (some [])) → c.wpIn Fence.wide n P Q { a with defers := { target := .collected D, args := #[] } :: a.defers } W) :
    (Code.rangeFunc g ps assign body).wpIn Fence.wide n P Q a w := by
  refine wpIn_rangeFunc fun fn hfn => ?_
  obtain ⟨B, hB⟩ : ∃ B, w.heap.size = B := ⟨_, rfl⟩
  obtain ⟨R, hR⟩ : ∃ R : LoopState → Option Code → Loop, R = fun st pe => { state := st, pending := pe, fn, tmps := a.tmps, params := ps, assign, body, defers := w.heap.size } := ⟨_, rfl⟩
  have two : ((w.alloc (.deferred (some []))).alloc (.loop (R .ready none))).heap[B + 1]? = some (.loop (R .ready none)) := by
    have := World.alloc_heap_new (w.alloc (.deferred (some []))) (.loop (R .ready none))
    rwa [World.size_alloc, hB] at this
  have one : ((w.alloc (.deferred (some []))).alloc (.loop (R .ready none))).heap[B]? = some (.deferred (some [])) := by
    rw [← hB]; exact (Below.heap_alloc _ _ _ (by simp)).trans (World.alloc_heap_new w _)
  have start := hI.alloc (Obj.loop (R .ready none)) (hI.alloc (Obj.deferred (some [])) h0)
  rw [hB] at hI hIx hAs hseq hassign hbody hdone hstop
  have enter := run_enterLoop_outer (P := P) (w := w) fn a.tmps ps assign body
  obtain ⟨W0, hW0⟩ : ∃ W0, (w.alloc (.deferred (some []))).alloc (.loop (R .ready none)) = W0 := ⟨_, rfl⟩
  rw [hW0] at one two start
  refine ⟨B + 1, [{ target := .collected B, args := #[] }], W0, { target := .fn (.func gf) lb, args := #[.func (.yield (B + 1)) #[] #[]] }, W0, gf, #[.func (.yield (B + 1)) #[] #[]] ++ lb, W0, ?_, ?_, fun _ _ => trivial, ?_, fun h => (by cases h), ?_⟩
  · rw [← hW0, hR, ← hB]; exact enter
  · simp only [resolve, hg]
    simp [go_sem]
  · simp [invoke, go_sem, eg]
  refine (hseq (B + 1)
    (fun s W => I s W ∧ W.heap[B + 1]? = some (.loop (R .ready none)) ∧ W.heap[B]? = some (.deferred (some [])))
    (fun s W => ∃ c, Ix c s W ∧ W.heap[B + 1]? = some (.loop (R .done (some c))) ∧ W.heap[B]? = some (.deferred (some [])))
    W0 (fun _ _ h => h.1) (fun s s' A C h hC hk => ⟨hC, hk.same _ _ (Nat.le_succ B) h.2.1 rfl, hk.same _ _ (Nat.le_refl B) h.2.2 rfl⟩) ?_ ⟨start, two, one⟩).mono ?_
  · rintro s x W ⟨hi, hl, hk⟩ hgo
    have hlt : B + 1 < W.heap.size := (Array.getElem?_eq_some_iff.1 hl).1
    have hy := run_yield (P := P) (args := encs x) hl (by rw [hR]; exact hps x)
    rw [hR] at hy
    refine ⟨fn, _, assign, body, hy, roundIn_of_wpIn hfn (hassign _ s x W _ hi hgo fun b0 W2 hk02 hx2 => ?_)⟩
    have hl := hk02.same _ _ (Nat.le_succ B) hl rfl
    have hk := hk02.same _ _ (Nat.le_refl B) hk rfl
    have hlt : B + 1 < W2.heap.size := (Array.getElem?_eq_some_iff.1 hl).1
    refine ⟨_, run_beginRound hl (by rw [hR]), ?_⟩
    clear hy hi hk02
    have hl2 := World.putObj_heap_same (w := W2) (o := .loop { R .ready none with state := .busy }) hlt
    have hk2 := (World.putObj_heap_other (w := W2) (o := .loop { R .ready none with state := .busy }) (show B ≠ B + 1 by omega)).trans hk
    have fin : ∀ (j : Option Code) (V : World), KeepsFrom B (W2.putObj (B + 1) (.loop { R .ready none with state := .busy })) V →
        ∃ V', (Instr.endRound (B + 1) j).run P V = .ok (.bool j.isNone) V' ∧ V' = V.putObj (B + 1) (.loop (R (if j.isNone then .ready else .done) j)) ∧
          V.heap[B + 1]? = some (.loop { R .ready none with state := .busy }) ∧
          V'.heap[B + 1]? = some (.loop (R (if j.isNone then .ready else .done) j)) ∧ V'.heap[B]? = some (.deferred (some [])) := by
      intro j V hkv
      have h3 := hkv.same _ _ (Nat.le_succ B) hl2 rfl
      have h4 := run_endRound (P := P) j h3
      rw [hR] at h4 h3 ⊢
      exact ⟨_, h4, rfl, h3, World.putObj_heap_same (Array.getElem?_eq_some_iff.1 h3).1, (World.putObj_heap_other (by omega)).trans (hkv.same _ _ (Nat.le_refl B) hk2 rfl)⟩
    refine wpIn_mono (hbody _ s x _ _ ((hAs x _).putObj _ hx2 (Nat.le_succ B) hl rfl) hgo) ?_
    rintro e b V hp
    have stop : ∀ c, KeepsFrom B (W2.putObj (B + 1) (.loop { R .ready none with state := .busy })) V → Ix c (nx s x) V → ∃ v V', (Instr.endRound (B + 1) (some c)).run P V = .ok v V' ∧
        ((Ending.returned v = .returned (.bool true) ∧ I (nx s x) V' ∧ V'.heap[B + 1]? = some (.loop (R .ready none)) ∧ V'.heap[B]? = some (.deferred (some []))) ∨
         (Ending.returned v = .returned (.bool false) ∧ ∃ c, Ix c (nx s x) V' ∧ V'.heap[B + 1]? = some (.loop (R .done (some c))) ∧ V'.heap[B]? = some (.deferred (some [])))) := by
      intro c hkv hx
      obtain ⟨V', h1, rfl, h3, h4, h5⟩ := fin (some c) V hkv
      exact ⟨_, _, h1, .inr ⟨rfl, c, (hIx c).putObj _ hx (Nat.le_succ B) h3 rfl, h4, h5⟩⟩
    cases e with
    | normal =>
      obtain ⟨V', h1, rfl, h3, h4, h5⟩ := fin none V hp.1
      exact ⟨_, _, h1, .inl ⟨rfl, hI.putObj _ hp.2 (Nat.le_succ B) h3 rfl, h4, h5⟩⟩
    | ret => exact stop _ hp.1 hp.2
    | exit id => exact stop _ hp.1 hp.2
    | goto t => exact stop _ hp.1 hp.2
    | panic ch => exact hp.elim
    | outgrown => exact hp.elim
  · rintro e V ⟨⟨v, rfl⟩, (⟨s, hF, hi, hl, hk⟩ | ⟨s, c, hi, hl, hk⟩)⟩
    · have h := run_endLoop (P := P) hl (by rw [hR]; simp)
      exact ⟨none, _, by rw [hR] at h; exact h, hdone _ s _ (Nat.le_refl B) hF (hI.putObj _ hi (Nat.le_succ B) hl rfl) ((World.putObj_heap_other (by omega)).trans hk)⟩
    · have h := run_endLoop (P := P) hl (by rw [hR]; simp)
      exact ⟨some c, _, by rw [hR] at h; exact h, hstop _ c s _ (Nat.le_refl B) ((hIx c).putObj _ hi (Nat.le_succ B) hl rfl) ((World.putObj_heap_other (by omega)).trans hk)⟩
end Go.Proofs.Ytmcmlfmfhljphaa
