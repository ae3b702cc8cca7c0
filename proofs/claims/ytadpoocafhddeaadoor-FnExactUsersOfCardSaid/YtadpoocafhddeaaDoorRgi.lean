/- Regions that draw their order, and panics, in the round of a range over a function. -/
import Derived.Test.YtadpoocafhddeaaDoorRgf
import Derived.Test.YtadpoocafhddeaaDoorReg
import Derived.OrdersIn
namespace Go.Proofs.YtadpoocafhddeaaDoor
open Go.RowKit Go.Sort

section
variable {P : Program} {l : List Oper} {Q : Exit → Act → World → Prop} {a aF : Act} {w : World}
theorem any_headA {al sts : List Nat} {own : Nat → Nat} {blk0 blk1 : Nat → Obj} {mk : Nat → Nat → Value} (n : Nat) (hB : headBA al sts own n l = true)
    (hrun : ∀ j ∈ al, ∀ o, l[j]? = some o → ∀ (w : World), (execOp aF.eval o).run P w = .ok (.value (mk j w.heap.size)) (w.alloc (blk0 j)))
    (hsto : ∀ k ∈ sts, StoreOkA P l aF own blk0 blk1 mk k)
    (hq : ∀ wb, Gr w wb → wpQuiet P l.toArray (fun w' => ∃ p : GrownBy, w' = grow (wb.drewN p.n) p.os) (fun x => x = aF) (headOps (al ++ sts) n 0 l) a)
    (hT : ∀ listed a' w' bs, (∀ i, i < n → listed.getD i false = true) → SimA l al sts own n a aF { w with drawn := w.drawn + 1 } blk0 blk1 mk listed a' w' bs → wpList P l.toArray Q (l.drop n) a' w') : wpAny P .any l.toArray Q l.toArray.size (Array.replicate l.toArray.size false) a { w with drawn := w.drawn + 1 } := by
  have HK := headOk_ofA hB
  have hlt := HK.lt
  have := head_allA (P := P) (Q := Q) (blk0 := blk0) (blk1 := blk1) (mk := mk) (w0 := { w with drawn := w.drawn + 1 }) HK hrun hsto (fun wb h => hq wb (gr_drawn h)) hT n (Array.replicate l.length false) a { w with drawn := w.drawn + 1 } (fun _ => 0)
    (by
      unfold undone
      rw [List.filter_eq_self.2 (fun i _ => by rw [getD_replicate_false]; rfl)]; simp)
    ⟨by simp, fun j oj _ hl => (by rw [getD_replicate_false] at hl; cases hl), fun t _ ht => getD_in (by simpa using ht) (getD_replicate_false _ _)⟩
    ⟨Gr.refl _, rfl, rfl, fun i d _ hl => (by rw [getD_replicate_false] at hl; cases hl), fun i d _ hl => (by rw [getD_replicate_false] at hl; cases hl), fun i j _ _ hl => (by rw [getD_replicate_false] at hl; cases hl), fun _ _ => rfl⟩
  rw [show n + (l.length - n) = l.toArray.size by simp; omega] at this
  simpa using this


theorem any_regA {o : Oper} {b0 : Obj} (mk : Nat → Value) (n i d : Nat) (hB : headBA [i] [] (fun _ => i) n l = true) (ho : l[i]? = some o) (hod : o.dst = some d) (hda : d < a.tmps.size)
    (h : ∃ aF, (∀ wb, Gr w wb → wpQuiet P l.toArray (fun w' => ∃ p : GrownBy, w' = grow (wb.drewN p.n) p.os) (fun x => x = aF) (headOps [i] n 0 l) a) ∧
      (∀ (w : World), (execOp aF.eval o).run P w = .ok (.value (mk w.heap.size)) (w.alloc b0)) ∧
      ∀ w' b, Gr w w' → w.heap.size ≤ b → w'.heap[b]? = some b0 → wpList P l.toArray Q (l.drop n) (aF.put (some d) (mk b)) w') : wpAny P .any l.toArray Q l.toArray.size (Array.replicate l.toArray.size false) a { w with drawn := w.drawn + 1 } := by
  obtain ⟨aF, hq, hrun, hT⟩ := h
  refine any_headA (blk0 := fun _ => b0) (blk1 := fun _ => b0) (mk := fun _ => mk) n hB (fun j h o' ho' => ?_) (fun j h => by cases h) hq fun listed a' w' bs hl S => ?_
  · have : j = i := by simpa using h
    subst this
    have : o' = o := Option.some.inj (ho'.symm.trans ho)
    subst this
    exact hrun
  · have HK := headOk_ofA hB
    obtain ⟨e1, e2, e3⟩ := sim_finalA HK (hq w (Gr.refl w)) hl S
    have hdi : dstOf l i = some d := by simp [dstOf, ho, hod]
    obtain ⟨_, _, _, _, hin, _⟩ := HK.als i (by simp)
    obtain ⟨s1, s2, s3⟩ := S.als i d (by simp) (hl i hin) hdi
    have e : a' = aF.put (some d) (mk (bs i)) := act_ext (by rw [put_defers]; exact e1) fun s => by
      by_cases hs : s = d
      · subst hs
        rw [s1 hda, put_at _ _ _ (by rw [← e2, S.size]; exact hda)]
      · rw [put_ne _ _ _ _ (fun he => hs (Option.some.inj he).symm)]
        exact e3 s fun j hj hd => by
          have : j = i := by simpa using hj
          subst this
          exact hs (Option.some.inj (hd.symm.trans hdi))
    rw [e]
    exact hT w' (bs i) (gr_drawn S.grown) s2 (s3.2 (fun ⟨s, hs, _⟩ => by cases hs))
end
section
variable {P : Program} {l : List Oper}
theorem any_regP {Q : Exit → Act → World → Prop} {a : Act} {w : World} {o : Oper} (c : Nat) (D : List Nat) (hB : badB [] D c l = true) (ho : l[c]? = some o)
    (h : ∃ aF f args, (∀ wb, Gr w wb → wpQuiet P l.toArray (fun w' => ∃ p : GrownBy, w' = grow (wb.drewN p.n) p.os) (fun x => x = aF) (headOps (c :: D) l.length 0 l) a) ∧
      (∀ w', (execOp aF.eval o).run P w' = .ok (.enter f args) w') ∧
      ∀ w', Gr w w' → Calls P f args w' fun e w'' => ∃ ch, e = .panicked ch ∧ ∀ a', a'.defers = a.defers → Q (.panic ch) a' w'') : wpAny P .any l.toArray Q l.toArray.size (Array.replicate l.toArray.size false) a { w with drawn := w.drawn + 1 } := by
  obtain ⟨aF, f, args, hq, he, hc⟩ := h
  have HK := badOk_of hB
  have := head_bad (P := P) (Q := Q) (blk := fun _ => default) (w0 := { w with drawn := w.drawn + 1 }) HK (fun j h => by cases h) (fun wb h => hq wb (gr_drawn h))
    (fun o' ho' a' w' K hd hex hg => by
      have : o' = o := Option.some.inj (ho'.symm.trans ho)
      subst this
      unfold Oper.wp
      rw [hex, he w']
      simp only [Oper.upon]
      exact (hc w' (gr_drawn hg)).mono fun e w'' ⟨ch, h1, h2⟩ => by subst h1; exact h2 a' hd)
    l.length (Array.replicate l.length false) a { w with drawn := w.drawn + 1 }
    (by
      unfold undone
      rw [List.filter_eq_self.2 (fun i _ => by rw [getD_replicate_false]; rfl)]; simp)
    ⟨Gr.refl _, rfl, rfl, by simp, fun i _ => getD_replicate_false _ _, fun i d hl => (by rw [getD_replicate_false] at hl; cases hl), fun _ _ => rfl⟩
  simpa using this
end

/-! ### In a round -/
section
variable {P : Program} {n : Nat} {lp : Nat}
theorem oper_round {o : Oper} {a : Act} {w : World} {K : Act → World → Prop} {Q : Exit → Act → World → Prop} (hd : ∀ c, o.op ≠ .defer c) (h : o.wp P a w K Q) : o.wpIn (Fence.wide.inRound lp) n P a w K Q := by
  refine ⟨fun _ _ => trivial, ?_⟩
  rw [Oper.semAt_plain (Fence.wide.inRound lp) _ _ hd]
  unfold Oper.wp at h
  generalize (execOp a.eval o).run P w = r at h
  cases r with
  | ok nx w' =>
    cases nx <;> first | exact h | exact h.elim | skip
    case enter f args => exact ⟨fun hd => (by cases hd), callsIn_wide.2 h⟩
    case row r args => exact ⟨fun hd => (by cases hd), fun c cs _ => let ⟨v, w'', q, s⟩ := h c cs; ⟨v, w'', q, stepsIn_wide.2 s⟩⟩
  | halt x w' => cases x <;> first | exact h | exact h.elim
theorem anyIn_round {ops : Array Oper} {Q : Exit → Act → World → Prop} (hd : ∀ (i : Nat) (o : Oper), ops[i]? = some o → ∀ c, o.op ≠ .defer c) (hno : ¬ LetsOut Q) :
    ∀ (fuel : Nat) (listed : Array Bool) (a : Act) (w : World), wpAny P .any ops Q fuel listed a w → wpAnyIn (Fence.wide.inRound lp) n P .any ops Q fuel listed a w
  | 0, _, _, _, h => h
  | fuel + 1, listed, a, w, h => ⟨h.1, fun i hi => by
      have h2 := h.2 i hi
      unfold wpOp at h2
      unfold wpOpIn
      cases ho : ops[i]? with
      | none => simp only [ho] at h2; exact anyIn_round hd hno fuel _ _ _ h2
      | some o =>
        simp only [ho] at h2 ⊢
        by_cases hw : Region.wanted o (yielded ops a.tmps) = true
        · rw [if_pos hw] at h2 ⊢
          rcases h2 with h2 | h2
          · exact Oper.wpIn_mono (fun a' w' h' => anyIn_round hd hno fuel _ a' w' h') (oper_round (hd i o ho) h2)
          · exact absurd h2.2 hno
        · rw [if_neg hw] at h2 ⊢
          exact ⟨fun _ _ => trivial, anyIn_round hd hno fuel _ _ _ h2⟩⟩
theorem region_round {ops : Array Oper} {id : Nat} {Q : Exit → Act → World → Prop} {a : Act} {w : World} (hm : P.follows .mixedOrders = true) (hd : ∀ (i : Nat) (o : Oper), ops[i]? = some o → ∀ c, o.op ≠ .defer c) (hno : ¬ LetsOut Q)
    (h : wpAny P .any ops Q ops.size (Array.replicate ops.size false) a { w with drawn := w.drawn + 1 }) : (Code.region id ops true).wpIn (Fence.wide.inRound lp) n P Q a w :=
  wpIn_region_any hm (anyIn_round hd hno _ _ _ _ h)
end

theorem nodefer {ops : Array Oper} (h : ops.all (fun o => match o.op with | .defer _ => false | _ => true) = true) : ∀ (i : Nat) (o : Oper), ops[i]? = some o → ∀ c, o.op ≠ .defer c := by
  intro i o ho c hc
  have := Array.all_eq_true_iff_forall_mem.1 h o (Array.mem_of_getElem? ho)
  rw [hc] at this
  cases this
/-! ### A round that may end by a panic -/
section
variable {F : Fence} {n : Nat} {P : Program}
def roundPostP (P : Program) (l : Nat) (R : Ending → World → Prop) : Exit → Act → World → Prop
  | .normal, _, w => ∃ v w', (Instr.endRound l none).run P w = .ok v w' ∧ R (.returned v) w'
  | .panic ch, a, w => a.defers = [] ∧ R (.panicked ch) w
  | _, _, _ => False
theorem roundIn_of_wpInP {l : Nat} {f : FuncId} {fn : Func} {tmps : Array Value} {assign body : Code} {w : World} {R : Ending → World → Prop} (hF : F.fn f) (hf : P.funcs[f]? = some fn)
    (h : assign.wpIn (F.inRound l) n P (Exit.then (fun a₁ w₁ => ∃ w₂, (Instr.beginRound l).run P w₁ = .ok () w₂ ∧ body.wpIn (F.inRound l) n P (roundPostP P l R) a₁ w₂) (fun _ _ _ => False))
      { tmps := tmps, defers := [] } w) :
    RoundIn F n P l f tmps assign body w R := by
  refine ⟨hF, fun c cs hr => ?_⟩
  let b : Frame := { (default : Frame) with fn := f, kind := .normal, roundOf := some l }
  have hb0 : Frame.round l f tmps assign body .normal = b.atR { tmps := tmps, defers := [] } [.code assign, .beginRound, .code body] := by
    simp [Frame.round, Frame.atR, b]
  have hr' : (F.inRound l).room ((c :: cs).length + 1 + n) := hr
  have hF' : (F.inRound l).fn b.fn := hF
  obtain ⟨e, a₁, w₁, hq, harr⟩ := h b [.beginRound, .code body] (c :: cs) rfl hF' hr'
  rw [← hb0] at harr
  cases e with
  | normal =>
    obtain ⟨w₂, hbr, hbody⟩ := hq
    have s1 : StepsIn (Machine.fenced P (F.inRound l)) P (lone (b.atR a₁ [.beginRound, .code body]) (c :: cs) w₁) (lone (b.atR a₁ [.code body]) (c :: cs) w₂) :=
      .one (fenced_calm (fr := b.atR a₁ [.beginRound, .code body]) hF' hr' rfl) (stepR_beginRound rfl hbr)
    obtain ⟨e₂, a₂, w₃, hq₂, harr₂⟩ := hbody b [] (c :: cs) rfl hF' hr'
    cases e₂ with
    | normal =>
      obtain ⟨v, w₄, hend, hR⟩ := hq₂
      exact ⟨.returned v, w₄, hR, (StepsIn.trans harr s1).trans (StepsIn.trans harr₂ (.one (fenced_calm (fr := b.atR a₂ []) hF' hr' rfl) (stepR_round_end rfl rfl hend)))⟩
    | panic ch =>
      obtain ⟨hdf, hR⟩ := hq₂
      obtain ⟨todo, hs⟩ := harr₂
      have hl : ({ b.atR a₂ todo with mode := .panicking ch } : Frame).leaving P w₃ (.panicked ch) := ⟨rfl, hdf, fn, hf⟩
      exact ⟨.panicked ch, w₃, hR, (StepsIn.trans harr s1).trans (StepsIn.trans hs (.one (fenced_leaving (n := n) hF' hr' hl) (step_leave_panicked hl)))⟩
    | _ => exact hq₂.elim
  | _ => exact hq.elim

/-! ### The activation of one function -/
/-- 'wpIn' of the frames of function f alone. -/
def wpF (f : FuncId) (F : Fence) (n : Nat) (P : Program) (c : Code) (Q : Exit → Act → World → Prop) (a : Act) (w : World) : Prop :=
  ∀ (b : Frame) (k : List Item) (cs : List Frame), b.fn = f → b.roundOf = F.round → F.fn b.fn → F.room (cs.length + 1 + n) →
    ∃ e a' w', Q e a' w' ∧ ArrivesIn (Machine.fenced P F) P (lone (b.atR a (.code c :: k)) cs w) b k cs e a' w'
variable {f : FuncId} {Q : Exit → Act → World → Prop} {a : Act} {w : World}
theorem wpF_of {c : Code} (h : c.wpIn F n P Q a w) : wpF f F n P c Q a w := fun b k cs _ hro hb hr => h b k cs hro hb hr
theorem wpF_seq {x y : Code} (h : wpF f F n P x (Exit.then (wpF f F n P y Q) Q) a w) : wpF f F n P (Code.seq x y) Q a w := by
  intro b k cs hf hro hb hr
  have h0 : (lone (b.atR a (.code (.seq x y) :: k)) cs w).fenced P F := fenced_calm hb hr rfl
  obtain ⟨e, a₁, w₁, hq, harr⟩ := h b (.code y :: k) cs hf hro hb hr
  cases e with
  | normal =>
    obtain ⟨e₂, a₂, w₂, hq₂, harr₂⟩ := hq b k cs hf hro hb hr
    exact ⟨e₂, a₂, w₂, hq₂, .of_steps (.head h0 stepR_seq harr) harr₂⟩
  | exit id => exact ⟨_, a₁, w₁, hq, .of_steps (.one h0 stepR_seq) (.pass (x := .code y) rfl (fun _ _ => .inl (by simp)) harr)⟩
  | goto l => exact ⟨_, a₁, w₁, hq, .of_steps (.one h0 stepR_seq) (.pass (x := .code y) rfl (fun _ _ => .inl (by simp)) harr)⟩
  | ret => exact ⟨_, a₁, w₁, hq, .of_steps (.one h0 stepR_seq) (.pass (x := .code y) rfl (fun _ _ => .inl (by simp)) harr)⟩
  | panic ch => exact ⟨_, a₁, w₁, hq, .of_steps (.one h0 stepR_seq) (.pass (x := .code y) rfl (fun _ _ => .inl (by simp)) harr)⟩
  | outgrown => exact ⟨_, a₁, w₁, hq, .of_steps (.one h0 stepR_seq) (.pass (x := .code y) rfl (fun _ _ => .inl (by simp)) harr)⟩
theorem wpF_block {id : Nat} {c : Code} (h : wpF f F n P c (Exit.inBlock id Q) a w) : wpF f F n P (Code.block id c) Q a w := by
  intro b k cs hf hro hb hr
  have h0 : (lone (b.atR a (.code (.block id c) :: k)) cs w).fenced P F := fenced_calm hb hr rfl
  obtain ⟨e, a₁, w₁, hq, harr⟩ := h b (.inBlock id :: k) cs hf hro hb hr
  cases e with
  | normal => exact ⟨.normal, a₁, w₁, hq, .head h0 stepR_block (StepsIn.trans harr (.one (fenced_calm hb hr rfl) stepR_inBlock))⟩
  | exit id' =>
    by_cases hid : id' = id
    · simp only [Exit.inBlock, hid, if_true] at hq
      exact ⟨.normal, a₁, w₁, hq, .head h0 stepR_block (harr.1 k (by simp [exitTo, hid]))⟩
    · simp only [Exit.inBlock, hid, if_false] at hq
      have this : (id == id') = false := by simp; exact fun h => hid h.symm
      have hx : exitTo id' (.inBlock id :: k) = exitTo id' k := by simp [exitTo, this]
      exact ⟨.exit id', a₁, w₁, hq, fun k' hk => .head h0 stepR_block (harr.1 k' (by rw [hx]; exact hk)),
        fun hr' hk => let ⟨k₁, h1, h2⟩ := harr.2 hr' (by rw [hx]; exact hk); ⟨k₁, h1, .head h0 stepR_block h2⟩⟩
  | goto l =>
    have hx : gotoIn l (.inBlock id :: k) = gotoIn l k := by simp [gotoIn]
    exact ⟨_, a₁, w₁, hq, fun k' hk => .head h0 stepR_block (harr.1 k' (by rw [hx]; exact hk)),
      fun hr' hk => let ⟨k₁, h1, h2⟩ := harr.2 hr' (by rw [hx]; exact hk); ⟨k₁, h1, .head h0 stepR_block h2⟩⟩
  | ret => exact ⟨_, a₁, w₁, hq, .of_steps (.one h0 stepR_block) harr⟩
  | panic ch => exact ⟨_, a₁, w₁, hq, .of_steps (.one h0 stepR_block) harr⟩
  | outgrown => exact ⟨_, a₁, w₁, hq, .of_steps (.one h0 stepR_block) harr⟩
theorem callsIn_of_wpF_marks {fn : Func} {c : Code} {args : Array Value} {R : Ending → World → Prop}
    (hf : P.funcs[f]? = some fn) (hb : fn.body = some c) (hF : F.fn f)
    (h : wpF f F n P c (bodyPostM F n P fn R) { tmps := args ++ Array.replicate (fn.ntmps - args.size) undef, defers := [] } w) (hro : F.round = none := by rfl) : CallsIn F n P f args w R := by
  refine ⟨hF, fun cs hr => ?_⟩
  let b : Frame := { (default : Frame) with fn := f, kind := .normal, roundOf := none }
  have henter : Frame.enter P f args .normal =
      b.atR { tmps := args ++ Array.replicate (fn.ntmps - args.size) undef, defers := [] } [.code c] := by
    simp [Frame.enter, Frame.atR, hf, hb, b]
  obtain ⟨e, a', w', hq, harr⟩ := h b [] cs rfl hro.symm hF hr
  rw [← henter] at harr
  cases e with
  | normal =>
    obtain ⟨e', w'', fr', hR, hs, hfn, hl⟩ := leaves_stepsInM a'.defers .returning w' { b.atR a' [] with mode := .returning } cs rfl rfl rfl hf rfl hF hr hq
    exact ⟨e', w'', fr', hR, ComesIn.of_steps (StepsIn.trans harr (.one (fenced_calm (fr := b.atR a' []) hF hr rfl) (stepR_end rfl))) hs, hfn, hl⟩
  | ret =>
    obtain ⟨todo, hs₀⟩ := harr.1 rfl
    obtain ⟨e', w'', fr', hR, hs, hfn, hl⟩ := leaves_stepsInM a'.defers .returning w' { b.atR a' todo with mode := .returning } cs rfl rfl rfl hf rfl hF hr hq
    exact ⟨e', w'', fr', hR, ComesIn.of_steps hs₀ hs, hfn, hl⟩
  | panic chain =>
    obtain ⟨todo, hs₀⟩ := harr
    obtain ⟨e', w'', fr', hR, hs, hfn, hl⟩ := leaves_stepsInM a'.defers (.panicking chain) w' { b.atR a' todo with mode := .panicking chain } cs rfl rfl rfl hf rfl hF hr hq
    exact ⟨e', w'', fr', hR, ComesIn.of_steps hs₀ hs, hfn, hl⟩
  | exit id => exact hq.elim
  | goto l => exact hq.elim
  | outgrown => exact ⟨.outgrown, w', b, hq, harr.resolve_left (by simp [b]), rfl, trivial⟩
theorem wpF_rangeFunc {g : Operand} {ps : Array Tmp} {assign body : Code}
    (h : ∃ (l : Nat) (mark : List Deferred) (w₁ : World) (d : Deferred) (w₁' : World) (gf : FuncId) (args : Array Value) (w₂ : World),
      (Instr.enterLoop f a.tmps ps assign body F.round).run P w = .ok (l, mark) w₁ ∧
      (resolve a.eval (rangeCall g l) 0).run P w₁ = .ok d w₁' ∧
      (∀ f', Target.leads P w₁' d.target d.args = some f' → F.fn f') ∧
      (invoke d.target d.args).run P w₁' = .ok (.enter gf args) w₂ ∧
      (F.depth.isSome = true → 1 ≤ n) ∧
      CallsIn F (n - 1) P gf args w₂ (rangePost F n P l Q { a with defers := mark ++ a.defers })) :
    wpF f F n P (Code.rangeFunc g ps assign body) Q a w := by
  intro b k cs hbf hro hb hr
  obtain ⟨l, mark, w₁, d, w₁', gf, args, w₂, he, hres, hlead, hinv, hn, hF, hcall⟩ := h
  rw [← hbf, ← hro] at he
  have h0 : (lone (b.atR a (.code (.rangeFunc g ps assign body) :: k)) cs w).fenced P F := by
    refine fenced_lone (.inl hb) (fun f' hf' => hlead f' ?_) (Fence.room_le hr (by omega))
    have hev := Frame.eval_atR b a (.code (.rangeFunc g ps assign body) :: k)
    simp only [Frame.atR] at hev
    simp only [Frame.about, Frame.atR, he, hev, hres] at hf'
    exact hf'
  have henter := stepR_rangeFunc (P := P) (b := b) (a := a) (k := k) (cs := cs) (w := w) he hres hinv
  have hroom : F.room ((b.atR { a with defers := mark ++ a.defers } (.inRangeFunc l :: k) :: cs).length + 1 + (n - 1)) := Fence.room_enter hr hn
  obtain ⟨e, w₃, fr, hR, hsteps, hfn, hleave⟩ := hcall (b.atR { a with defers := mark ++ a.defers } (.inRangeFunc l :: k) :: cs) hroom
  cases e with
  | outgrown =>
    obtain ⟨a₀, w₀, hq⟩ := hR
    exact ⟨.outgrown, a₀, w₀, hq, .inr (Outgrown.of_steps (.one henter) hsteps)⟩
  | returned v =>
    have hl : (lone fr (b.atR { a with defers := mark ++ a.defers } (.inRangeFunc l :: k) :: cs) w₃).fenced P F := fenced_leaving (hfn ▸ hF) hroom hleave
    obtain ⟨jump, w₄, hend, hj⟩ := hR
    have sback : StepsIn (Machine.fenced P F) P (lone (b.atR a (.code (.rangeFunc g ps assign body) :: k)) cs w) (lone (b.atR { a with defers := mark ++ a.defers } ((jump.map Item.code).toList ++ k)) cs w₄) := by
      refine .head h0 henter (StepsIn.trans hsteps (.head hl ?_ (.one (fenced_calm (fr := b.atR { a with defers := mark ++ a.defers } (.endRangeFunc l :: k)) hb hr rfl) (stepR_endRangeFunc hend))))
      rw [← finish_atR_inRangeFunc l v]; exact step_leave_returned hleave
    cases jump with
    | none => exact ⟨.normal, _, w₄, hj, sback⟩
    | some c =>
      obtain ⟨e', a'', w₅, hq, harr⟩ := hj b k cs hro hb hr
      exact ⟨e', a'', w₅, hq, .of_steps sback harr⟩
  | panicked chain =>
    have hl : (lone fr (b.atR { a with defers := mark ++ a.defers } (.inRangeFunc l :: k) :: cs) w₃).fenced P F := fenced_leaving (hfn ▸ hF) hroom hleave
    refine ⟨.panic chain, _, w₃, hR, .inRangeFunc l :: k, .head h0 henter (StepsIn.trans hsteps (.one hl ?_))⟩
    rw [← Frame.raise_atR]; exact step_leave_panicked hleave

/-- How the body of a round is left: off its end, or by a panic. -/
def grPostP (I : World → Prop) (T : List PanicEntry → World → Prop) (W : World) : Exit → Act → World → Prop
  | .normal, _, W' => KeepsOthers W W' ∧ I W'
  | .panic ch, a, W' => a.defers = [] ∧ KeepsOthers W W' ∧ T ch W'
  | _, _, _ => False
def handsPostP (N : Nat) (J : Nat → World → Prop) (T : List PanicEntry → World → Prop) (e : Ending) (W' : World) : Prop :=
  ((∃ v, e = .returned v) ∧ J N W') ∨ ∃ ch, e = .panicked ch ∧ T ch W'
/-- What a function that hands N things to its yield owes, yield being one that may panic. -/
def HandsP (F : Fence) (n : Nat) (P : Program) (gf : Nat) (lb : Array Value) (enc : Nat → Array Value) (N : Nat) (I : Nat → World → Prop) (w : World) : Prop :=
  ∀ (l : Nat) (J : Nat → World → Prop) (T : List PanicEntry → World → Prop) (W1 : World), Gr w W1 → (∀ k W W', J k W → Gr W W' → J k W') → (∀ k W, J k W → I k W) →
    (∀ k W, J k W → k < N → YieldAt F (n - 1) P l (enc k) W fun e W' => (e = .returned (.bool true) ∧ J (k + 1) W') ∨ ∃ ch, e = .panicked ch ∧ T ch W') → J 0 W1 →
    CallsIn F n P gf (#[.func (.yield l) #[] #[]] ++ lb) W1 (handsPostP N J T)
theorem wpF_rangeFunc_gr {g : Operand} {ps : Array Tmp} {assign body : Code} {fn : Func} (hfn : P.funcs[f]? = some fn) (hFf : F.fn f)
    (hro : F.round = none) (h1 : 1 ≤ n) {gf : Nat} {lb : Array Value} (hg : a.eval g = .func (.func gf) #[] lb) (hFg : F.fn gf) (eg : ∀ args w, (callFunc gf args).run P w = .ok (.enter gf args) w)
    {enc : Nat → Array Value} {N : Nat} (I : Nat → World → Prop) (T : List PanicEntry → World → Prop) (hseq : HandsP F (n - 1) P gf lb enc N I w) (hps : ∀ k, (enc k).size = ps.size)
    (hIg : ∀ k W W', I k W → Gr W W' → I k W') (hIp : ∀ k W r o o', I k W → W.heap[r]? = some o → o.isCells = false → w.heap.size ≤ r → I k (W.putObj r o')) (h0 : I 0 w)
    (hround : ∀ l k W, I k W → k < N → w.heap.size + 1 < W.heap.size → assign.wpIn (F.inRound l) (n - 1 - 1) P (Exit.then (fun a₁ W₁ => KeepsOthers W W₁ ∧ ∀ o o', W₁.heap[w.heap.size + 1]? = some o → o.isCells = false → body.wpIn (F.inRound l) (n - 1 - 1) P (grPostP (I (k + 1)) T (W₁.putObj (w.heap.size + 1) o')) a₁ (W₁.putObj (w.heap.size + 1) o')) (fun _ _ _ => False))
      { tmps := (ps.zip (enc k)).foldl (fun t (p, v) => t.setIfInBounds p v) a.tmps, defers := [] } W)
    (hdone : ∀ W, I N W → W.heap[w.heap.size]? = some (.deferred (some [])) → Q .normal { a with defers := { target := .collected w.heap.size, args := #[] } :: a.defers } W)
    (hpan : ∀ ch W, T ch W → W.heap[w.heap.size]? = some (.deferred (some [])) → Q (.panic ch) { a with defers := { target := .collected w.heap.size, args := #[] } :: a.defers } W) :
    wpF f F n P (Code.rangeFunc g ps assign body) Q a w := by
  refine wpF_rangeFunc ?_
  rw [hro]
  obtain ⟨rec, hrec⟩ : ∃ rec : LoopState → Option Code → Loop, rec = fun st pe => { state := st, pending := pe, fn := f, tmps := a.tmps, params := ps, assign, body, defers := w.heap.size } := ⟨_, rfl⟩
  obtain ⟨W1, hW1⟩ : ∃ W1, (w.alloc (.deferred (some []))).alloc (.loop (rec .ready none)) = W1 := ⟨_, rfl⟩
  have hL1 : W1.heap[w.heap.size + 1]? = some (.loop (rec .ready none)) := by
    rw [← hW1]; have := World.alloc_heap_new (w.alloc (.deferred (some []))) (.loop (rec .ready none)); rwa [World.size_alloc] at this
  have hK1 : W1.heap[w.heap.size]? = some (.deferred (some [])) := by
    rw [← hW1]; exact (Below.heap_alloc _ _ _ (by simp)).trans (World.alloc_heap_new w _)
  have hG1 : Gr w W1 := by rw [← hW1]; exact ((Gr.refl w).trans (Gr.alloc _ _)).trans (Gr.alloc _ _)
  refine ⟨w.heap.size + 1, [{ target := .collected w.heap.size, args := #[] }], W1, { target := .fn (.func gf) lb, args := #[.func (.yield (w.heap.size + 1)) #[] #[]] }, W1, gf,
    #[.func (.yield (w.heap.size + 1)) #[] #[]] ++ lb, W1, ?_, ?_, ?_, ?_, fun _ => h1, ?_⟩
  · rw [← hW1, hrec]; exact run_enterLoop_outer _ _ _ _ _
  · simp only [resolve, hg]
    simp [go_sem]
  · intro f' hf'; simp [Target.leads] at hf'; subst hf'; exact hFg
  · simp [invoke, go_sem, eg]
  · refine (hseq (w.heap.size + 1)
      (fun k W => I k W ∧ W.heap[w.heap.size + 1]? = some (.loop (rec .ready none)) ∧ W.heap[w.heap.size]? = some (.deferred (some [])))
      (fun ch W => T ch W ∧ W.heap[w.heap.size]? = some (.deferred (some [])))
      W1 hG1
      (fun k W W' ⟨hi, hl, hk⟩ hg' => ⟨hIg k W W' hi hg', hg'.others.same _ _ hl rfl, hg'.others.same _ _ hk rfl⟩)
      (fun k W h => h.1) ?_ ⟨hIg 0 w W1 h0 hG1, hL1, hK1⟩).mono ?_
    · rintro k W ⟨hi, hl, hk⟩ hlen
      have hlt : w.heap.size + 1 < W.heap.size := (Array.getElem?_eq_some_iff.1 hl).1
      have hy := run_yield (P := P) (args := enc k) hl (by rw [hrec]; exact hps k)
      rw [hrec] at hy
      refine ⟨f, _, assign, body, hy, roundIn_of_wpInP hFf hfn (wpIn_mono (hround (w.heap.size + 1) k W hi hlen hlt) ?_)⟩
      rintro e a₂ W₂ hp
      cases e with
      | normal =>
        obtain ⟨hk2, hb⟩ := hp
        have hl2 := hk2.same _ _ hl rfl
        have hd2 := hk2.same _ _ hk rfl
        refine ⟨_, run_beginRound hl2 (by rw [hrec]), ?_⟩
        refine wpIn_mono (hb _ _ hl2 rfl) ?_
        rintro e a3 W3 hp
        have hlt2 : w.heap.size + 1 < W₂.heap.size := (Array.getElem?_eq_some_iff.1 hl2).1
        cases e with
        | normal =>
          obtain ⟨hk3, hi3⟩ := hp
          have hl3 := hk3.same _ _ (World.putObj_heap_same (o := .loop { rec .ready none with state := .busy }) hlt2) rfl
          have hd3 := hk3.same _ _ ((World.putObj_heap_other (o := .loop { rec .ready none with state := .busy }) (show w.heap.size ≠ w.heap.size + 1 by omega)).trans hd2) rfl
          have hr := run_endRound (P := P) none hl3
          refine ⟨_, _, hr, .inl ⟨rfl, hIp _ _ _ _ _ hi3 hl3 rfl (by omega), ?_, (World.putObj_heap_other (by omega)).trans hd3⟩⟩
          rw [World.putObj_heap_same (Array.getElem?_eq_some_iff.1 hl3).1, hrec]
          rfl
        | panic ch =>
          obtain ⟨hdf, hk3, ht3⟩ := hp
          have hd3 := hk3.same _ _ ((World.putObj_heap_other (o := .loop { rec .ready none with state := .busy }) (show w.heap.size ≠ w.heap.size + 1 by omega)).trans hd2) rfl
          exact ⟨hdf, .inr ⟨ch, rfl, ht3, hd3⟩⟩
        | _ => exact hp.elim
      | _ => exact hp.elim
    · rintro e W2 (⟨⟨v, rfl⟩, hi, hl, hk⟩ | ⟨ch, rfl, ht, hk⟩)
      · exact ⟨none, _, by have := run_endLoop (P := P) hl (by rw [hrec]; simp); rw [hrec] at this; exact this, hdone _ (hIp _ _ _ _ _ hi hl rfl (by omega)) ((World.putObj_heap_other (by omega)).trans hk)⟩
      · exact hpan ch W2 ht hk
end
end Go.Proofs.YtadpoocafhddeaaDoor
