/- A range over a function, told by 'Gr': the function may end by a panic; append in a fenced walk. -/
import Derived.RangeFuncKeeps
import Derived.RangeFuncBound
import Derived.RangeFuncCalls
import Derived.RangeFuncLeaves
import Derived.Shelf.Abstract
import Derived.Shelf.RegionOpen
import Derived.WalkKit
import Derived.OwnWalkIn
import Derived.TacticsInMore
import Derived.LoopNIn
import Derived.LoopIn
import Derived.Test.YtgfopfomhgfcaaaGreatDoorIs
namespace Go.Proofs.YtgfopfomhgfcaaaGreatDoor
open Go.RowKit Go.Sort

theorem Gr.putObj {w w' : World} (h : Gr w w') {l : Nat} (hl : w.heap.size ≤ l) (o : Obj) : Gr w (w'.putObj l o) :=
  h.heap rfl rfl rfl rfl (by simp) fun k hk => World.putObj_heap_other (by omega)
theorem Gr.others {w w' : World} (h : Gr w w') : KeepsOthers w w' :=
  ⟨h.size, fun k o hk _ => by rw [h.block (Array.getElem?_eq_some_iff.1 hk).1]; exact hk⟩

theorem wide_fn (f : FuncId) : Fence.wide.fn f = True := rfl
theorem wide_depth : Fence.wide.depth = none := rfl
section
variable {F : Fence} {n : Nat} {P : Program}
theorem wpListIn_append_gr {w : World} {ops : Array Oper} {rest : List Oper} {o : Oper} {a : Act} {Q : Exit → Act → World → Prop} (hgd : o.guard = none) (s x : Operand) (t : TypeId)
    (ho : o.op = .call { callee := .builtin .append, args := #[s, x], argTypes := #[t, t] })
    (base : Nat) (e : TypeId) (i : TypeInfo) (z : Value) (size bytes : Nat) (ht : P.underlying t = some (.slice e)) (hi : P.info? e = some i) (hz : i.zero = some z)
    (hsize : i.size = size) (hby : i.bytes = bytes) (hzs : z.cells.size = size) (hsz : 0 < size)
    (v : Value) (k : Nat) (xs : List Value) (hs : a.eval s = v) (hown : w.ownsRow base e size v k xs)
    (ad : Addr) (m c : Nat) (news : List Value) (hx : a.eval x = .slice (some ad) m c) (hl : news.length = m * size) (hnews : ∀ j u, news[j]? = some u → w.cell? (ad.add j) = some u) (h1 : ∀ u ∈ news, u.oneCell' = true)
    (hm0 : 0 < m) (h63 : k + m ≤ maxLen) (hbytes : (k + m) * bytes ≤ 140737488355328) (hbase : base ≤ w.heap.size)
    (h : ∀ v' w', w'.ownsRow base e size v' (k + m) (xs ++ news) → w.grownBy w' v.ownBlock → (v'.ownBlock = v.ownBlock ∨ v'.ownBlock = some w.heap.size) → (∀ W0, Gr W0 w → W0.heap.size ≤ base → Gr W0 w') → wpListIn F n P ops Q rest (a.put o.dst v') w') :
    wpListIn F n P ops Q (o :: rest) a w := by
  refine wpListIn_plain hgd fun K hK => ?_
  obtain ⟨v', w', hr, h2, h3, _⟩ := run_append_own w base t o.type e i z size bytes ht hi hz hsize hby hzs hsz v k xs hown ad m c news hl hnews h1 h63 hbytes hbase
  obtain ⟨h4, h5⟩ := append_gr base t o.type e i z size ht hi hz hsize k xs hown ad m c news hl hnews h1 hm0 h63 (by rw [hby]; exact hbytes) hr
  unfold Oper.wpIn
  refine ⟨?_, ?_⟩
  · simp [Oper.about, ho, resolve, Target.leads, Sem.run_pure]
  · rw [Oper.semAt_plain F _ _ (by rw [ho]; intro c hc'; cases hc')]
    simp [execOp, ho, resolve, invoke, builtin, hs, hx, hr, Result.andThen]
    exact hK _ _ (h v' w' h2 h3 h4 h5)

/-- How the body of a round is left: off its end alone. -/
def grPost (I : World → Prop) (W : World) : Exit → Act → World → Prop
  | .normal, _, W' => KeepsOthers W W' ∧ I W'
  | _, _, _ => False
/-- How such a function ends. -/
def handsPost (S : Option (List PanicEntry → Prop)) (N : Nat) (J : Nat → World → Prop) (e : Ending) (W' : World) : Prop :=
  match S with
  | none => (∃ v, e = .returned v) ∧ J N W'
  | some S => ∃ ch k, e = .panicked ch ∧ S ch ∧ J k W'
/-- What a function that hands N things to its yield owes: it hands them all, and returns; or it ends by a panic on the way. -/
def Hands (F : Fence) (n : Nat) (P : Program) (gf : Nat) (lb : Array Value) (enc : Nat → Array Value) (N : Nat) (I : Nat → World → Prop) (S : Option (List PanicEntry → Prop)) (w : World) : Prop :=
  ∀ (l : Nat) (J : Nat → World → Prop) (W1 : World), Gr w W1 → (∀ k W W', J k W → Gr W W' → J k W') → (∀ k W, J k W → I k W) →
    (∀ k W, J k W → k < N → YieldAt F (n - 1) P l (enc k) W fun e W' => e = .returned (.bool true) ∧ J (k + 1) W') → J 0 W1 →
    CallsIn F n P gf (#[.func (.yield l) #[] #[]] ++ lb) W1 (handsPost S N J)

theorem wpIn_rangeFunc_gr {g : Operand} {ps : Array Tmp} {assign body : Code} {Q : Exit → Act → World → Prop} {a : Act} {w : World}
    (hro : F.round = none) (h1 : 1 ≤ n) {gf : Nat} {lb : Array Value} (hg : a.eval g = .func (.func gf) #[] lb) (hFg : F.fn gf) (eg : ∀ args w, (callFunc gf args).run P w = .ok (.enter gf args) w)
    {enc : Nat → Array Value} {N : Nat} {S : Option (List PanicEntry → Prop)} (I : Nat → World → Prop) (hseq : Hands F (n - 1) P gf lb enc N I S w) (hps : ∀ k, (enc k).size = ps.size)
    (hIg : ∀ k W W', I k W → Gr W W' → I k W') (hIp : ∀ k W r o o', I k W → W.heap[r]? = some o → o.isCells = false → w.heap.size ≤ r → I k (W.putObj r o')) (h0 : I 0 w)
    (hround : ∀ l k W, I k W → k < N → w.heap.size + 1 < W.heap.size → assign.wpIn (F.inRound l) (n - 1 - 1) P (Exit.then (fun a₁ W₁ => KeepsOthers W W₁ ∧ ∀ o o', W₁.heap[w.heap.size + 1]? = some o → o.isCells = false → body.wpIn (F.inRound l) (n - 1 - 1) P (grPost (I (k + 1)) (W₁.putObj (w.heap.size + 1) o')) a₁ (W₁.putObj (w.heap.size + 1) o')) (fun _ _ _ => False))
      { tmps := (ps.zip (enc k)).foldl (fun t (p, v) => t.setIfInBounds p v) a.tmps, defers := [] } W)
    (hdone : ∀ W, S = none → I N W → W.heap[w.heap.size]? = some (.deferred (some [])) → Q .normal { a with defers := { target := .collected w.heap.size, args := #[] } :: a.defers } W)
    (hpan : ∀ S' ch k W, S = some S' → S' ch → I k W → W.heap[w.heap.size]? = some (.deferred (some [])) → Q (.panic ch) { a with defers := { target := .collected w.heap.size, args := #[] } :: a.defers } W) :
    (Code.rangeFunc g ps assign body).wpIn F n P Q a w := by
  refine wpIn_rangeFunc ?_
  intro fn hfn
  rw [hro]
  obtain ⟨rec, hrec⟩ : ∃ rec : LoopState → Option Code → Loop, rec = fun st pe => { state := st, pending := pe, fn, tmps := a.tmps, params := ps, assign, body, defers := w.heap.size } := ⟨_, rfl⟩
  obtain ⟨W1, hW1⟩ : ∃ W1, (w.alloc (.deferred (some []))).alloc (.loop (rec .ready none)) = W1 := ⟨_, rfl⟩
  have hL1 : W1.heap[w.heap.size + 1]? = some (.loop (rec .ready none)) := by
    rw [← hW1]; have := World.alloc_heap_new (w.alloc (.deferred (some []))) (.loop (rec .ready none)); rwa [World.size_alloc] at this
  have hK1 : W1.heap[w.heap.size]? = some (.deferred (some [])) := by
    rw [← hW1]; exact (Below.heap_alloc _ _ _ (by simp)).trans (World.alloc_heap_new w _)
  have hG1 : Gr w W1 := by rw [← hW1]; exact ((Gr.refl w).trans (Gr.alloc _ _)).trans (Gr.alloc _ _)
  refine ⟨w.heap.size + 1, [{ target := .collected w.heap.size, args := #[] }], W1, { target := .fn (.func gf) lb, args := #[.func (.yield (w.heap.size + 1)) #[] #[]] }, W1, gf,
    #[.func (.yield (w.heap.size + 1)) #[] #[]] ++ lb, W1, ?_, ?_, ?_, ?_, fun _ => h1, ?_⟩
  · rw [← hW1, hrec]; exact run_enterLoop_outer _ _ _ _ _
  · simp only [resolve, hg]
    simp [go_sem]
  · intro f' hf'; simp [Target.leads] at hf'; subst hf'; exact hFg
  · simp [invoke, go_sem, eg]
  · refine (hseq (w.heap.size + 1)
      (fun k W => I k W ∧ W.heap[w.heap.size + 1]? = some (.loop (rec .ready none)) ∧ W.heap[w.heap.size]? = some (.deferred (some [])))
      W1 hG1
      (fun k W W' ⟨hi, hl, hk⟩ hg' => ⟨hIg k W W' hi hg', hg'.others.same _ _ hl rfl, hg'.others.same _ _ hk rfl⟩)
      (fun k W h => h.1) ?_ ⟨hIg 0 w W1 h0 hG1, hL1, hK1⟩).mono ?_
    · rintro k W ⟨hi, hl, hk⟩ hlen
      have hlt : w.heap.size + 1 < W.heap.size := (Array.getElem?_eq_some_iff.1 hl).1
      have hy := run_yield (P := P) (args := enc k) hl (by rw [hrec]; exact hps k)
      rw [hrec] at hy
      refine ⟨fn, _, assign, body, hy, roundIn_of_wpIn hfn (wpIn_mono (hround (w.heap.size + 1) k W hi hlen hlt) ?_)⟩
      rintro e a₂ W₂ hp
      cases e with
      | normal =>
        obtain ⟨hk2, hb⟩ := hp
        have hl2 := hk2.same _ _ hl rfl
        have hd2 := hk2.same _ _ hk rfl
        refine ⟨_, run_beginRound hl2 (by rw [hrec]), ?_⟩
        refine wpIn_mono (hb _ _ hl2 rfl) ?_
        rintro e a3 W3 hp
        have hlt2 : w.heap.size + 1 < W₂.heap.size := (Array.getElem?_eq_some_iff.1 hl2).1
        cases e with
        | normal =>
          obtain ⟨hk3, hi3⟩ := hp
          have hl3 := hk3.same _ _ (World.putObj_heap_same (o := .loop { rec .ready none with state := .busy }) hlt2) rfl
          have hd3 := hk3.same _ _ ((World.putObj_heap_other (o := .loop { rec .ready none with state := .busy }) (show w.heap.size ≠ w.heap.size + 1 by omega)).trans hd2) rfl
          have hr := run_endRound (P := P) none hl3
          refine ⟨_, _, hr, rfl, hIp _ _ _ _ _ hi3 hl3 rfl (by omega), ?_, (World.putObj_heap_other (by omega)).trans hd3⟩
          rw [World.putObj_heap_same (Array.getElem?_eq_some_iff.1 hl3).1, hrec]
          rfl
        | _ => exact hp.elim
      | _ => exact hp.elim
    · rintro e W2 hp
      cases S with
      | none =>
        obtain ⟨⟨v, rfl⟩, hi, hl, hk⟩ := hp
        exact ⟨none, _, by have := run_endLoop (P := P) hl (by rw [hrec]; simp); rw [hrec] at this; exact this, hdone _ rfl (hIp _ _ _ _ _ hi hl rfl (by omega)) ((World.putObj_heap_other (by omega)).trans hk)⟩
      | some S' =>
        obtain ⟨ch, k, rfl, hS, hi, hl, hk⟩ := hp
        exact hpan S' ch k W2 rfl hS hi hk
end
end Go.Proofs.YtgfopfomhgfcaaaGreatDoor
