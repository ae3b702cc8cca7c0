/- A range over a function that is left by a return in one of its rounds, told by 'Gr'. -/
import Derived.Test.YtadpoocafhddeaaDoorRgf
namespace Go.Proofs.YtadpoocafhddeaaDoor
open Go.RowKit Go.Sort

section
variable {F : Fence} {n : Nat} {P : Program}
/-- How the body of the last round is left: by a return. -/
def brkPost (I : World → Prop) (W : World) : Exit → Act → World → Prop
  | .ret, _, W' => KeepsOthers W W' ∧ I W'
  | _, _, _ => False
/-- What a function that hands things to its yield owes, if its yield says 'no more' at the thing M: it has handed those ahead of it, and returns. -/
def HandsB (F : Fence) (n : Nat) (P : Program) (gf : Nat) (lb : Array Value) (enc : Nat → Array Value) (M : Nat) (I : Nat → World → Prop) (w : World) : Prop :=
  ∀ (l : Nat) (J : Nat → World → Prop) (Jx : World → Prop) (W1 : World), Gr w W1 → (∀ k W W', J k W → Gr W W' → J k W') → (∀ k W, J k W → I k W) → (∀ W W', Jx W → Gr W W' → Jx W') →
    (∀ k W, J k W → k < M → YieldAt F (n - 1) P l (enc k) W fun e W' => e = .returned (.bool true) ∧ J (k + 1) W') →
    (∀ W, J M W → YieldAt F (n - 1) P l (enc M) W fun e W' => e = .returned (.bool false) ∧ Jx W') → J 0 W1 →
    CallsIn F n P gf (#[.func (.yield l) #[] #[]] ++ lb) W1 fun e W' => (∃ v, e = .returned v) ∧ Jx W'

theorem wpIn_rangeFunc_brk {g : Operand} {ps : Array Tmp} {assign body : Code} {Q : Exit → Act → World → Prop} {a : Act} {w : World}
    (hro : F.round = none) (h1 : 1 ≤ n) {gf : Nat} {lb : Array Value} (hg : a.eval g = .func (.func gf) #[] lb) (hFg : F.fn gf) (eg : ∀ args w, (callFunc gf args).run P w = .ok (.enter gf args) w)
    {enc : Nat → Array Value} {M : Nat} (I : Nat → World → Prop) (Ix : World → Prop) (hseq : HandsB F (n - 1) P gf lb enc M I w) (hps : ∀ k, (enc k).size = ps.size)
    (hIg : ∀ k W W', I k W → Gr W W' → I k W') (hIp : ∀ k W r o o', I k W → W.heap[r]? = some o → o.isCells = false → w.heap.size ≤ r → I k (W.putObj r o'))
    (hXg : ∀ W W', Ix W → Gr W W' → Ix W') (hXp : ∀ W r o o', Ix W → W.heap[r]? = some o → o.isCells = false → w.heap.size ≤ r → Ix (W.putObj r o')) (h0 : I 0 w)
    (hround : ∀ l k W, I k W → k < M → w.heap.size + 1 < W.heap.size → assign.wpIn (F.inRound l) (n - 1 - 1) P (Exit.then (fun a₁ W₁ => KeepsOthers W W₁ ∧ ∀ o o', W₁.heap[w.heap.size + 1]? = some o → o.isCells = false → body.wpIn (F.inRound l) (n - 1 - 1) P (grPost (I (k + 1)) (W₁.putObj (w.heap.size + 1) o')) a₁ (W₁.putObj (w.heap.size + 1) o')) (fun _ _ _ => False))
      { tmps := (ps.zip (enc k)).foldl (fun t (p, v) => t.setIfInBounds p v) a.tmps, defers := [] } W)
    (hlast : ∀ l W, I M W → w.heap.size + 1 < W.heap.size → assign.wpIn (F.inRound l) (n - 1 - 1) P (Exit.then (fun a₁ W₁ => KeepsOthers W W₁ ∧ ∀ o o', W₁.heap[w.heap.size + 1]? = some o → o.isCells = false → body.wpIn (F.inRound l) (n - 1 - 1) P (brkPost Ix (W₁.putObj (w.heap.size + 1) o')) a₁ (W₁.putObj (w.heap.size + 1) o')) (fun _ _ _ => False))
      { tmps := (ps.zip (enc M)).foldl (fun t (p, v) => t.setIfInBounds p v) a.tmps, defers := [] } W)
    (hdone : ∀ W, Ix W → W.heap[w.heap.size]? = some (.deferred (some [])) → Code.ret.wpIn F n P Q { a with defers := { target := .collected w.heap.size, args := #[] } :: a.defers } W) :
    (Code.rangeFunc g ps assign body).wpIn F n P Q a w := by
  refine wpIn_rangeFunc ?_
  intro fn hfn
  rw [hro]
  obtain ⟨rec, hrec⟩ : ∃ rec : LoopState → Option Code → Loop, rec = fun st pe => { state := st, pending := pe, fn, tmps := a.tmps, params := ps, assign, body, defers := w.heap.size } := ⟨_, rfl⟩
  obtain ⟨W1, hW1⟩ : ∃ W1, (w.alloc (.deferred (some []))).alloc (.loop (rec .ready none)) = W1 := ⟨_, rfl⟩
  have hL1 : W1.heap[w.heap.size + 1]? = some (.loop (rec .ready none)) := by
    rw [← hW1]; have := World.alloc_heap_new (w.alloc (.deferred (some []))) (.loop (rec .ready none)); rwa [World.size_alloc] at this
  have hK1 : W1.heap[w.heap.size]? = some (.deferred (some [])) := by
    rw [← hW1]; exact (Below.heap_alloc _ _ _ (by simp)).trans (World.alloc_heap_new w _)
  have hG1 : Gr w W1 := by rw [← hW1]; exact ((Gr.refl w).trans (Gr.alloc _ _)).trans (Gr.alloc _ _)
  refine ⟨w.heap.size + 1, [{ target := .collected w.heap.size, args := #[] }], W1, { target := .fn (.func gf) lb, args := #[.func (.yield (w.heap.size + 1)) #[] #[]] }, W1, gf,
    #[.func (.yield (w.heap.size + 1)) #[] #[]] ++ lb, W1, ?_, ?_, ?_, ?_, fun _ => h1, ?_⟩
  · rw [← hW1, hrec]; exact run_enterLoop_outer _ _ _ _ _
  · simp only [resolve, hg]
    simp [go_sem]
  · intro f' hf'; simp [Target.leads] at hf'; subst hf'; exact hFg
  · simp [invoke, go_sem, eg]
  · have enter : ∀ (k : Nat) (W : World) (R : Ending → World → Prop) (post : World → Exit → Act → World → Prop), W.heap[w.heap.size + 1]? = some (.loop (rec .ready none)) → W.heap[w.heap.size]? = some (.deferred (some [])) → w.heap.size + 1 < W.heap.size →
        assign.wpIn (F.inRound (w.heap.size + 1)) (n - 1 - 1) P (Exit.then (fun a₁ W₁ => KeepsOthers W W₁ ∧ ∀ o o', W₁.heap[w.heap.size + 1]? = some o → o.isCells = false → body.wpIn (F.inRound (w.heap.size + 1)) (n - 1 - 1) P (post (W₁.putObj (w.heap.size + 1) o')) a₁ (W₁.putObj (w.heap.size + 1) o')) (fun _ _ _ => False))
          { tmps := (ps.zip (enc k)).foldl (fun t (p, v) => t.setIfInBounds p v) a.tmps, defers := [] } W →
        (∀ e a3 W2 W3, W2.heap[w.heap.size + 1]? = some (.loop { rec .ready none with state := .busy }) → W2.heap[w.heap.size]? = some (.deferred (some [])) → post W2 e a3 W3 → roundPost P (w.heap.size + 1) R e a3 W3) →
        YieldAt F (n - 1 - 1) P (w.heap.size + 1) (enc k) W R := by
      intro k W R post hl hk hlt hb hpost
      have hy := run_yield (P := P) (args := enc k) hl (by rw [hrec]; exact hps k)
      rw [hrec] at hy
      refine ⟨fn, _, assign, body, hy, roundIn_of_wpIn hfn (wpIn_mono hb ?_)⟩
      rintro e a₂ W₂ hp
      cases e with
      | normal =>
        obtain ⟨hk2, hb2⟩ := hp
        have hl2 := hk2.same _ _ hl rfl
        have hd2 := hk2.same _ _ hk rfl
        refine ⟨_, run_beginRound hl2 (by rw [hrec]), ?_⟩
        have hlt2 : w.heap.size + 1 < W₂.heap.size := (Array.getElem?_eq_some_iff.1 hl2).1
        refine wpIn_mono (hb2 _ _ hl2 rfl) ?_
        intro e a3 W3 hp
        exact hpost e a3 _ W3 (World.putObj_heap_same (o := .loop { rec .ready none with state := .busy }) hlt2) ((World.putObj_heap_other (o := .loop { rec .ready none with state := .busy }) (show w.heap.size ≠ w.heap.size + 1 by omega)).trans hd2) hp
      | _ => exact hp.elim
    refine (hseq (w.heap.size + 1)
      (fun k W => I k W ∧ W.heap[w.heap.size + 1]? = some (.loop (rec .ready none)) ∧ W.heap[w.heap.size]? = some (.deferred (some [])))
      (fun W => Ix W ∧ W.heap[w.heap.size + 1]? = some (.loop (rec .done (some .ret))) ∧ W.heap[w.heap.size]? = some (.deferred (some [])))
      W1 hG1
      (fun k W W' ⟨hi, hl, hk⟩ hg' => ⟨hIg k W W' hi hg', hg'.others.same _ _ hl rfl, hg'.others.same _ _ hk rfl⟩)
      (fun k W h => h.1)
      (fun W W' ⟨hi, hl, hk⟩ hg' => ⟨hXg W W' hi hg', hg'.others.same _ _ hl rfl, hg'.others.same _ _ hk rfl⟩) ?_ ?_ ⟨hIg 0 w W1 h0 hG1, hL1, hK1⟩).mono ?_
    · rintro k W ⟨hi, hl, hk⟩ hlen
      have hlt : w.heap.size + 1 < W.heap.size := (Array.getElem?_eq_some_iff.1 hl).1
      refine enter k W _ (fun W2 => grPost (I (k + 1)) W2) hl hk hlt (hround (w.heap.size + 1) k W hi hlen hlt) ?_
      intro e a3 W2 W3 hl2 hd2 hp
      cases e with
      | normal =>
        obtain ⟨hk3, hi3⟩ := hp
        have hl3 := hk3.same _ _ hl2 rfl
        have hd3 := hk3.same _ _ hd2 rfl
        have hr := run_endRound (P := P) none hl3
        refine ⟨_, _, hr, rfl, hIp _ _ _ _ _ hi3 hl3 rfl (by omega), ?_, (World.putObj_heap_other (by omega)).trans hd3⟩
        rw [World.putObj_heap_same (Array.getElem?_eq_some_iff.1 hl3).1, hrec]
        rfl
      | _ => exact hp.elim
    · rintro W ⟨hi, hl, hk⟩
      have hlt : w.heap.size + 1 < W.heap.size := (Array.getElem?_eq_some_iff.1 hl).1
      refine enter M W _ (fun W2 => brkPost Ix W2) hl hk hlt (hlast (w.heap.size + 1) W hi hlt) ?_
      intro e a3 W2 W3 hl2 hd2 hp
      cases e with
      | ret =>
        obtain ⟨hk3, hi3⟩ := hp
        have hl3 := hk3.same _ _ hl2 rfl
        have hd3 := hk3.same _ _ hd2 rfl
        have hr := run_endRound (P := P) (some .ret) hl3
        refine ⟨_, _, hr, rfl, hXp _ _ _ _ hi3 hl3 rfl (by omega), ?_, (World.putObj_heap_other (by omega)).trans hd3⟩
        rw [World.putObj_heap_same (Array.getElem?_eq_some_iff.1 hl3).1, hrec]
        rfl
      | _ => exact hp.elim
    · rintro e W2 ⟨⟨v, rfl⟩, hi, hl, hk⟩
      refine ⟨some .ret, _, by have := run_endLoop (P := P) hl (by rw [hrec]; simp); rw [hrec] at this; exact this, ?_⟩
      exact hdone _ (hXp _ _ _ _ hi hl rfl (by omega)) ((World.putObj_heap_other (by omega)).trans hk)
end
end Go.Proofs.YtadpoocafhddeaaDoor
