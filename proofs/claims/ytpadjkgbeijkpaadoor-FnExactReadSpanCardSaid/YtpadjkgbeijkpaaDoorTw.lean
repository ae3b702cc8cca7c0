/- TEXTS READ: ReadFrac of both sides, joined; what is laid for readers. -/
import Derived.Test.YtpadjkgbeijkpaaDoorTv
import Derived.Test.YtpadjkgbeijkpaaDoorDl
import Derived.Stop.LaidErr
import Derived.HandedShaped
namespace Go.Proofs.YtpadjkgbeijkpaaDoor
open Go.RowKit Go.Sort

theorem itoa_inj {p q : Int} (h1 : -10000000000 < p) (h2 : p < 10000000000) (h3 : -10000000000 < q) (h4 : q < 10000000000) (h : Lib.itoa p = Lib.itoa q) : p = q := by
  have e1 := rdS_itoa h1 h2
  rw [h, rdS_itoa h3 h4] at e1
  exact (Option.some.inj e1).symm
theorem txtFl_inj {a b c d : Int} (h1 : okB a b = true) (h2 : okB c d = true) (h : txtFl a b = txtFl c d) : a = c ∧ b = d := by
  obtain ⟨a1, a2, a3, a4⟩ := okB_bd h1
  obtain ⟨c1, c2, c3, c4⟩ := okB_bd h2
  by_cases hb : b = 1
  · subst hb
    have e1 : txtFl a 1 = Lib.itoa a := by simp [txtFl]
    have hd : d = 1 := txtFl_one (p := c) (by rw [← h, e1]; exact no47 a)
    subst hd
    have e2 : txtFl c 1 = Lib.itoa c := by simp [txtFl]
    rw [e1, e2] at h
    exact ⟨itoa_inj (by omega) (by omega) (by omega) (by omega) h, rfl⟩
  · by_cases hd : d = 1
    · subst hd
      have e2 : txtFl c 1 = Lib.itoa c := by simp [txtFl]
      exact absurd (txtFl_one (p := a) (by rw [h, e2]; exact no47 c)) hb
    · unfold txtFl at h
      rw [if_neg hb, if_neg hd] at h
      obtain ⟨e1, e2⟩ := part_eq (no47 a) (no47 c) h
      exact ⟨itoa_inj (by omega) (by omega) (by omega) (by omega) e1, itoa_inj (by omega) (by omega) (by omega) (by omega) e2⟩
/-- What ReadFrac gives. -/
theorem bothReadFrac (s : ByteArray) (hs : s.size ≤ 1048576) : ∃ a b C : Int, (∀ w, Calls Tryd.prog 9 #[.string s] w fun e w' => e = .returned (.tuple #[fr a b, .int .i64 C]) ∧ Gr w w') ∧ (∀ w, Hid (TxW w) → Calls Tryd.prog 10 #[.string s] w fun e w' => e = .returned (.tuple #[fr a b, .int .i64 C]) ∧ Bl w w') := by
  by_cases hF : ∃ a b, okB a b = true ∧ s.data.toList = txtFl a b
  · obtain ⟨a, b, hk, he⟩ := hF
    refine ⟨a, b, 0, fun w => (sReadFrac s w hs).mono ?_, fun w T => (iReadFrac s w hs T).mono ?_⟩
    all_goals
      rintro e w' ⟨⟨a', b', ⟨hk', he', rfl⟩ | ⟨hno, _⟩⟩, hg⟩
      · obtain ⟨rfl, rfl⟩ := txtFl_inj hk hk' (he.symm.trans he')
        exact ⟨rfl, hg⟩
      · exact absurd he (hno a b hk)
  · refine ⟨0, 0, 5, fun w => (sReadFrac s w hs).mono ?_, fun w T => (iReadFrac s w hs T).mono ?_⟩
    all_goals
      rintro e w' ⟨⟨a', b', ⟨hk', he', rfl⟩ | ⟨hno, rfl⟩⟩, hg⟩
      · exact absurd ⟨a', b', hk', he'⟩ hF
      · exact ⟨rfl, hg⟩
/-- The plain wrap, with what is laid and with the world's shape. -/
theorem handed_of {H : Type} {enc : TypeId × Value → H} {a : Assume} {C : Checked} {os : Os} {f : FuncId} {fn : Func} {s : ChangeSpec} {conds : List PathCond} {apart fresh handsOn again : Bool} {X : World → Array Value → Prop}
    (hX : ∀ (w w' : World) (args : Array Value), w.heap = w'.heap → X w args → X w' args)
    (own : ownKnob C.prog.godebug = none) (started : os.Started) (noInit : C.prog.inits.idxOf? f = none) (hfn : C.prog.funcs[f]? = some fn)
    (witness : ∃ (w : World) (tape : Tape) (i : Input), w.os = os ∧ (w.forCall tape i).Shaped C.prog ∧ i.vars = [] ∧ Input.okWide C.prog (w.forCall tape i) .any w.heap.size f i ∧
      ((s.pre enc C.prog fn conds apart (w.forCall tape i).memory i.args ∧ X (w.forCall tape i).memory i.args) ∧ sizedMet enc C.prog fn (OpenSpec.ofChange s) apart (w.forCall tape i).memory i.args) ∧ a.holds C.prog (lone (Frame.enter C.prog f i.args .normal) [] (w.forCall tape i)))
    (hc : ∀ (W : World) (base : Nat) (args : Array Value) (ds gs : List (DataW H)) (before : List MemPlace),
      (∀ (j : Nat) t v, fn.params[j]? = some t → args[j]? = some v → Value.okWide C.prog W .any base t v) → DataW.Whole enc C.prog fn.params.toList s.vars apart W args.toList ds gs before → X W args → W.ShapedOpen C.prog →
      Calls C.prog f args W fun e W' => ∃ v, e = .returned v ∧ s.post enc C.prog fn apart fresh handsOn again W args v W') :
    ReturnsInHanded a C os f .any (fun w args => (s.pre enc C.prog fn conds apart w args ∧ X w args) ∧ sizedMet enc C.prog fn (OpenSpec.ofChange s) apart w args) (s.post enc C.prog fn apart fresh handsOn again) :=
  returnsInHanded_of_calls own started noInit witness fun w tape i _ hsh _ hok hpre _ => by
    obtain ⟨_, _, _, fn', hfn', _, _, _, _, hval⟩ := hok
    obtain rfl : fn' = fn := Option.some.inj (hfn'.symm.trans hfn)
    obtain ⟨⟨⟨ds, gs, before, hw, _⟩, hx⟩, _⟩ := hpre
    exact (hc _ w.heap.size i.args ds gs before hval (DataW.Whole.of_heap (w' := w.forCall tape i) (by rfl) hw) (hX _ _ _ (by rfl) hx) hsh).mono fun e W' ⟨v, he, hp⟩ => by
      subst he
      exact ChangeSpec.post_blind hp
theorem es_of_laid {l : List (String × DataW Unit)} {W : World} (hm : ("strconv.ErrSyntax", Rows.laid_strconv_ErrSyntax) ∈ l) (h : laidMetH Tryd.prog l W) : ∃ tp p, W.var? Tryd.prog "strconv.ErrSyntax" = some #[.iface tp p] := by
  obtain ⟨g, t, cs, fuel, p, h1, h2, h3, h4⟩ := laidMet_of_H h _ _ hm rfl
  obtain rfl := Option.some.inj (es_at.symm.trans h1)
  obtain rfl : 70 = t := Option.some.inj ((show (Tryd.prog.globals[1]?).map (·.type) = some 70 by kernel_rfl).symm.trans h2)
  obtain ⟨f1, u, v, hcs, _⟩ := iface_of_trod Tryd.underlying70 h4
  exact ⟨u, v, by rw [h3]; exact congrArg some (Array.ext' hcs)⟩
theorem er_of_laid {l : List (String × DataW Unit)} {W : World} (hm : ("strconv.ErrRange", Rows.laid_strconv_ErrRange) ∈ l) (h : laidMetH Tryd.prog l W) : ∃ tp p, W.var? Tryd.prog "strconv.ErrRange" = some #[.iface tp p] := by
  obtain ⟨g, t, cs, fuel, p, h1, h2, h3, h4⟩ := laidMet_of_H h _ _ hm rfl
  obtain rfl := Option.some.inj (er_at.symm.trans h1)
  obtain rfl : 70 = t := Option.some.inj ((show (Tryd.prog.globals[2]?).map (·.type) = some 70 by kernel_rfl).symm.trans h2)
  obtain ⟨f1, u, v, hcs, _⟩ := iface_of_trod Tryd.underlying70 h4
  exact ⟨u, v, by rw [h3]; exact congrArg some (Array.ext' hcs)⟩
theorem ml_of_shape {W : World} (h : W.ShapedOpen Tryd.prog) : ∃ m, W.cell? ⟨0, 0, none⟩ = some (.int .i64 m) :=
  cell_of_shapedOpen_int (t := 3) (zero := #[.int .i64 0]) h (of_decide_eq_true (by kernel_rfl)) (by kernel_rfl) rfl (by kernel_rfl) (by kernel_rfl) Tryd.underlying3
theorem TxW_of_laid {l : List (String × DataW Unit)} {W : World} (h1 : ("internal/strconv.uint64pow10", Rows.laid_internal_strconv_uint64pow10) ∈ l) (h2 : ("strconv.ErrSyntax", Rows.laid_strconv_ErrSyntax) ∈ l) (h3 : ("strconv.ErrRange", Rows.laid_strconv_ErrRange) ∈ l) (h : laidMetH Tryd.prog l W) (hs : W.ShapedOpen Tryd.prog) : TxW W :=
  ⟨Pow_of_laid h1 h, ml_of_shape hs, es_of_laid h2 h, er_of_laid h3 h⟩
end Go.Proofs.YtpadjkgbeijkpaaDoor
