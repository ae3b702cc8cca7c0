/- WALKS: MulSpans, the reference: the loop over the four products; both sides joined. Written by gen_mw.py. -/
import Derived.Test.YteopkbeokiomlaaMv
namespace Go.Proofs.Yteopkbeokiomlaa
open Go.RowKit Go.Sort

/-- Numerator and denominator of the products, before they are reduced. -/
def rawM (a b c d a' b' c' d' : Int) : Nat → Int × Int
  | 0 => (a*a', b*b')
  | 1 => (a*c', b*d')
  | 2 => (c*a', d*b')
  | _ => (c*c', d*d')
def gM (r : Nat → Int × Int) (k : Nat) : Bool := okB (redP (r k).1 (r k).2) (redQ (r k).1 (r k).2)
def eM (r : Nat → Int × Int) (k : Nat) : Int × Int := (redP (r k).1 (r k).2, redQ (r k).1 (r k).2)
/-- The loop's code, its least and its greatest product, behind k rounds. -/
def TS (r : Nat → Int × Int) : Nat → Int × (Int × Int) × (Int × Int)
  | 0 => (0, (0, 0), (0, 0))
  | k + 1 => if gM r k then ((TS r k).1, if k = 0 then eM r k else mnS (TS r k).2.1 (eM r k), if k = 0 then eM r k else mxS (TS r k).2.2 (eM r k)) else (3, (TS r k).2.1, (TS r k).2.2)
theorem TS_bad {r : Nat → Int × Int} {k : Nat} {s : Int × (Int × Int) × (Int × Int)} (h : gM r k = false) (hT : TS r k = s) : TS r (k + 1) = (3, s.2.1, s.2.2) := by
  subst hT
  rw [TS, h]
  rfl
theorem TS_good0 {r : Nat → Int × Int} (h : gM r 0 = true) : TS r (0 + 1) = (0, eM r 0, eM r 0) := by
  rw [TS, h]
  rfl
theorem TS_good {r : Nat → Int × Int} {k : Nat} {s : Int × (Int × Int) × (Int × Int)} (hk : k ≠ 0) (h : gM r k = true) (hT : TS r k = s) : TS r (k + 1) = (s.1, mnS s.2.1 (eM r k), mxS s.2.2 (eM r k)) := by
  subst hT
  rw [TS, h]
  simp [hk]
theorem TS_end3 (r : Nat → Int × Int) (h : gM r 0 = false ∨ gM r 1 = false ∨ gM r 2 = false ∨ gM r 3 = false) : (TS r 4).1 = 3 := by
  have key : ∀ k, (TS r k).1 = 3 → (TS r (k + 1)).1 = 3 := fun k hk => by
    cases hg : gM r k with
    | false => rw [TS_bad hg rfl]
    | true =>
      by_cases h0 : k = 0
      · subst h0
        exact absurd hk (by show ¬ (0 : Int) = 3; decide)
      · rw [TS_good h0 hg rfl]; exact hk
  rcases h with h | h | h | h
  · exact key 3 (key 2 (key 1 (by rw [TS_bad h rfl])))
  · exact key 3 (key 2 (by rw [TS_bad h rfl]))
  · exact key 3 (by rw [TS_bad h rfl])
  · rw [TS_bad h rfl]
theorem TS_end0 (r : Nat → Int × Int) (h0 : gM r 0 = true) (h1 : gM r 1 = true) (h2 : gM r 2 = true) (h3 : gM r 3 = true) : TS r 4 = (0, [eM r 1, eM r 2, eM r 3].foldl mnS (eM r 0), [eM r 1, eM r 2, eM r 3].foldl mxS (eM r 0)) := by
  rw [TS_good (by omega) h3 (TS_good (by omega) h2 (TS_good (by omega) h1 (TS_good0 h0)))]
  rfl
def bdM (x : Int × Int) : Prop := -1000000000 ≤ x.1 ∧ x.1 ≤ 1000000000 ∧ 0 ≤ x.2 ∧ x.2 ≤ 1000000000
theorem bdM_ok {x : Int × Int} (h : okB x.1 x.2 = true) : bdM x := by
  obtain ⟨h1, h2, h3, h4⟩ := okB_bd h
  exact ⟨h3, h4, by omega, h2⟩
theorem TS_bd (r : Nat → Int × Int) : ∀ k, bdM (TS r k).2.1 ∧ bdM (TS r k).2.2
  | 0 => by unfold TS bdM; simp
  | k + 1 => by
    obtain ⟨i1, i2⟩ := TS_bd r k
    unfold TS
    cases h : gM r k with
    | false => simpa using ⟨i1, i2⟩
    | true =>
      have he : bdM (eM r k) := bdM_ok h
      simp only [if_true]
      constructor
      · split
        · exact he
        · unfold mnS; split <;> assumption
      · split
        · exact he
        · unfold mxS; split <;> assumption
theorem scmp_bd (P Q x y : Int) (w : World) (h : okB P Q = true) (hb : bdM (x, y)) :
    Calls Try.prog 138 #[fr P Q, fr x y] w fun e w' => e = .returned (.int .i64 (cmpI P Q x y)) ∧ Gr w w' := by
  obtain ⟨b1, b2, b3, b4⟩ := okB_bd h
  obtain ⟨d1, d2, d3, d4⟩ := hb
  have q0 := mul_bd (x := P) (y := y) b3 b4 (by simp only at *; omega) d4
  have q2 := mul_bd (x := x) (y := Q) d1 d2 (by omega) b2
  exact scmp P Q x y w q0.1 q0.2 q2.1 q2.2
theorem cells8 {w : World} {b : Nat} {x0 x1 x2 x3 x4 x5 x6 x7 : Value} {T : TypeId} (h : w.heap[b]? = some (.cells #[x0, x1, x2, x3, x4, x5, x6, x7] T)) : w.cell? ⟨b, 0, none⟩ = some x0 ∧ w.cell? ⟨b, 1, none⟩ = some x1 ∧ w.cell? ⟨b, 2, none⟩ = some x2 ∧ w.cell? ⟨b, 3, none⟩ = some x3 ∧ w.cell? ⟨b, 4, none⟩ = some x4 ∧ w.cell? ⟨b, 5, none⟩ = some x5 ∧ w.cell? ⟨b, 6, none⟩ = some x6 ∧ w.cell? ⟨b, 7, none⟩ = some x7 := by
  simp [World.cell?, h]
theorem Gr.at8M {w wb : World} {b : Nat} {x0 x1 x2 x3 x4 x5 x6 x7 : Value} {T : TypeId} (hb : Gr w wb) (h : w.heap[b]? = some (.cells #[x0, x1, x2, x3, x4, x5, x6, x7] T)) :
    (∀ (m : Nat) (os : Array Obj), (grow (wb.drewN m) os).cell? ⟨b, 0, none⟩ = some x0) ∧ (∀ (m : Nat) (os : Array Obj), (grow (wb.drewN m) os).cell? ⟨b, 1, none⟩ = some x1) ∧ (∀ (m : Nat) (os : Array Obj), (grow (wb.drewN m) os).cell? ⟨b, 2, none⟩ = some x2) ∧ (∀ (m : Nat) (os : Array Obj), (grow (wb.drewN m) os).cell? ⟨b, 3, none⟩ = some x3) ∧
    (∀ (m : Nat) (os : Array Obj), (grow (wb.drewN m) os).cell? ⟨b, 4, none⟩ = some x4) ∧ (∀ (m : Nat) (os : Array Obj), (grow (wb.drewN m) os).cell? ⟨b, 5, none⟩ = some x5) ∧ (∀ (m : Nat) (os : Array Obj), (grow (wb.drewN m) os).cell? ⟨b, 6, none⟩ = some x6) ∧ (∀ (m : Nat) (os : Array Obj), (grow (wb.drewN m) os).cell? ⟨b, 7, none⟩ = some x7) :=
  have hl := (Array.getElem?_eq_some_iff.1 h).1
  have c := cells8 h
  ⟨fun m os => (hb.at m os b 0 hl).trans c.1, fun m os => (hb.at m os b 1 hl).trans c.2.1, fun m os => (hb.at m os b 2 hl).trans c.2.2.1, fun m os => (hb.at m os b 3 hl).trans c.2.2.2.1, fun m os => (hb.at m os b 4 hl).trans c.2.2.2.2.1, fun m os => (hb.at m os b 5 hl).trans c.2.2.2.2.2.1, fun m os => (hb.at m os b 6 hl).trans c.2.2.2.2.2.2.1, fun m os => (hb.at m os b 7 hl).trans c.2.2.2.2.2.2.2⟩
set_option maxRecDepth 20000 in
set_option maxHeartbeats 4000000 in
theorem sl01Times (a b c d a' b' c' d' : Int) (w : World) (h1 : okB a b = true) (h2 : okB c d = true) (h3 : okB a' b' = true) (h4 : okB c' d' = true) :
    Calls Try.prog 76 #[sp a b c d, sp a' b' c' d'] w fun e w' => e = .returned (if (TS (rawM a b c d a' b' c' d') 4).1 = 0 then .tuple #[sp (TS (rawM a b c d a' b' c' d') 4).2.1.1 (TS (rawM a b c d a' b' c' d') 4).2.1.2 (TS (rawM a b c d a' b' c' d') 4).2.2.1 (TS (rawM a b c d a' b' c' d') 4).2.2.2, .int .i64 0] else .tuple #[sp 0 0 0 0, .int .i64 (TS (rawM a b c d a' b' c' d') 4).1]) ∧ Gr w w' := by
  have h1 := hid h1; have h2 := hid h2; have h3 := hid h3; have h4 := hid h4
  go_enter Try.func76, Try.ntmps76
  go_wp2_with fail
  go_loopw [7, 9] (fun pv u wr => ∃ (k : Nat), u = .int .i64 (k : Int) ∧ pv = .int .i64 (TS (rawM a b c d a' b' c' d') k).1 ∧ k ≤ 4 ∧ Gr w wr ∧ wr.heap[w.heap.size + 1 + 1]? = some (.cells #[.int .i64 0, .int .i64 0, .int .i64 0, .int .i64 0] 30) ∧ wr.heap[w.heap.size + 1 + 1 + 1]? = some (.cells #[.int .i64 a, .int .i64 b, .int .i64 c, .int .i64 d, .int .i64 a', .int .i64 b', .int .i64 c', .int .i64 d'] 169) ∧ wr.heap[w.heap.size + 1 + 1 + 1 + 1]? = some (.cells #[.int .i64 (TS (rawM a b c d a' b' c' d') k).2.1.1, .int .i64 (TS (rawM a b c d a' b' c' d') k).2.1.2, .int .i64 (TS (rawM a b c d a' b' c' d') k).2.2.1, .int .i64 (TS (rawM a b c d a' b' c' d') k).2.2.2] 30)) (fun _ u _ => 4 - (intOf u).toNat)
  case atStart =>
    have y2 := (((Gr.refl _).al (.cells #[.int .i64 a, .int .i64 b, .int .i64 c, .int .i64 d, .int .i64 a', .int .i64 b', .int .i64 c', .int .i64 d'] 169)).al (.cells #[.int .i64 0, .int .i64 0, .int .i64 0, .int .i64 0] 30)).keep (alloc1 (w := (w.alloc (.cells #[.int .i64 a, .int .i64 b, .int .i64 c, .int .i64 d] 30)).alloc (.cells #[.int .i64 a', .int .i64 b', .int .i64 c', .int .i64 d'] 30)) (A := (.cells #[.int .i64 0, .int .i64 0, .int .i64 0, .int .i64 0] 30)) (Gr.refl _)).1
    have y3 := ((Gr.refl _).al (.cells #[.int .i64 0, .int .i64 0, .int .i64 0, .int .i64 0] 30)).keep (alloc1 (w := ((w.alloc (.cells #[.int .i64 a, .int .i64 b, .int .i64 c, .int .i64 d] 30)).alloc (.cells #[.int .i64 a', .int .i64 b', .int .i64 c', .int .i64 d'] 30)).alloc (.cells #[.int .i64 0, .int .i64 0, .int .i64 0, .int .i64 0] 30)) (A := (.cells #[.int .i64 a, .int .i64 b, .int .i64 c, .int .i64 d, .int .i64 a', .int .i64 b', .int .i64 c', .int .i64 d'] 169)) (Gr.refl _)).1
    have y4 := (alloc1 (w := (((w.alloc (.cells #[.int .i64 a, .int .i64 b, .int .i64 c, .int .i64 d] 30)).alloc (.cells #[.int .i64 a', .int .i64 b', .int .i64 c', .int .i64 d'] 30)).alloc (.cells #[.int .i64 0, .int .i64 0, .int .i64 0, .int .i64 0] 30)).alloc (.cells #[.int .i64 a, .int .i64 b, .int .i64 c, .int .i64 d, .int .i64 a', .int .i64 b', .int .i64 c', .int .i64 d'] 169)) (A := (.cells #[.int .i64 0, .int .i64 0, .int .i64 0, .int .i64 0] 30)) (Gr.refl _)).1
    exact ⟨0, rfl, rfl, by omega, (((((Gr.refl _).al _).al _).al _).al _).al _, by simpa using y2, by simpa using y3, by simpa [TS] using y4⟩
  case round =>
    obtain ⟨k, rfl, rfl, hk, hg, y2, y3, y4⟩ := hrel
    have GW := hid hg; have Y2 := hid y2; have Y3 := hid y3; have Y4 := hid y4
    clear hg y2 y3 y4
    have hbd := TS_bd (rawM a b c d a' b' c' d') k
    rcases (show k = 0 ∨ k = 1 ∨ k = 2 ∨ k = 3 ∨ k = 4 by omega) with rfl | rfl | rfl | rfl | rfl
    · have hT : TS (rawM a b c d a' b' c' d') 0 = (0, (0, 0), (0, 0)) := rfl
      have Y4 : Hid (wr.heap[w.heap.size + 1 + 1 + 1 + 1]? = some (.cells #[.int .i64 0, .int .i64 0, .int .i64 0, .int .i64 0] 30)) := Y4
      clear hbd
      obtain ⟨b1, b2, b3, b4⟩ := okB_bd h1.out
      obtain ⟨d1, d2, d3, d4⟩ := okB_bd h3.out
      have hmul := fun w => sl01Mul a b a' b' w b1 b2 b3 b4 d1 d2 d3 d4
      clear b1 b2 b3 b4 d1 d2 d3 d4
      obtain ⟨_, _, _, _, _, _, _, _⟩ := cells8 Y3.out
      have _ := ltb Y3.out
      have L4 := hid (ltb Y4.out)
      cases hg : gM (rawM a b c d a' b' c' d') 0 with
      | false =>
        have hgf : okB (redP (a*a') (b*b')) (redQ (a*a') (b*b')) = false := hg
        have e1 : rP (a*a') (b*b') = 0 := by unfold rP; rw [hgf]; rfl
        have e2 : rQ (a*a') (b*b') = 0 := by unfold rQ; rw [hgf]; rfl
        have e3 : rC (a*a') (b*b') = 3 := by unfold rC; rw [hgf]; rfl
        rw [e1, e2, e3] at hmul
        have HM := hid hmul
        have HS := hid (TS_bad hg hT)
        clear hmul hg hgf e1 e2 e3 hT
        go_wp2_with fail
        refine wp_reg1s #[.int .i64 0, .int .i64 0] 16 14 10 15 40 (by kernel_rfl) (by kernel_rfl) rfl rfl (by simp) rfl rfl (by decide) (fun _ _ => by kernel_rfl) (by kernel_rfl) ?_
        apply Exists.intro; apply Exists.intro
        refine ⟨fun wb hb => ?_, ?_⟩
        · obtain ⟨_, _, _, _, _, _, _, _⟩ := hb.at8M Y3.out
          simp only [headOps, List.contains, List.elem, Nat.reduceAdd, Nat.reduceBEq, reduceIte, Bool.false_eq_true, dumOp]
          repeat (first | go_big_quiet_step (first | (go_at_call 101; exact Calls.of_gr (HM.out _))) | quiet_step (fail))
          exact wpQuiet_nil rfl
        refine ⟨rfl, ⟨rfl, by simp [Value.oneCell']⟩, fun w5 b5 hg5 hb5 xb5 => ?_⟩
        have G5 := hid (GW.out.trans hg5); have Z2 := hid (hg5.keep Y2.out); have Z3 := hid (hg5.keep Y3.out); have Z4 := hid (hg5.keep Y4.out)
        clear hg5 xb5
        go_wp2_with fail
        exact ⟨⟨1, by simp, by rw [HS.out], by omega, G5.out, Z2.out, Z3.out, by rw [HS.out]; exact Z4.out⟩, by simp [intOf]⟩
      | true =>
        have hgf : okB (redP (a*a') (b*b')) (redQ (a*a') (b*b')) = true := hg
        obtain ⟨P, hP⟩ : ∃ P, redP (a*a') (b*b') = P := ⟨_, rfl⟩
        obtain ⟨Q, hQ⟩ : ∃ Q, redQ (a*a') (b*b') = Q := ⟨_, rfl⟩
        have e1 : rP (a*a') (b*b') = P := by unfold rP; rw [hgf, hP]; rfl
        have e2 : rQ (a*a') (b*b') = Q := by unfold rQ; rw [hgf, hQ]; rfl
        have e3 : rC (a*a') (b*b') = 0 := by unfold rC; rw [hgf]; rfl
        rw [e1, e2, e3] at hmul
        rw [hP, hQ] at hgf
        have heM : eM (rawM a b c d a' b' c' d') 0 = (P, Q) := by rw [← hP, ← hQ]; rfl
        have HM := hid hmul; have HOK := hid hgf
        have hS := TS_good0 hg
        rw [heM] at hS
        have HS := hid hS
        clear hmul hg hgf e1 e2 e3 hT hP hQ heM hS
        go_wp2_with fail
        refine wp_reg1s #[.int .i64 0, .int .i64 0] 16 14 10 15 40 (by kernel_rfl) (by kernel_rfl) rfl rfl (by simp) rfl rfl (by decide) (fun _ _ => by kernel_rfl) (by kernel_rfl) ?_
        apply Exists.intro; apply Exists.intro
        refine ⟨fun wb hb => ?_, ?_⟩
        · obtain ⟨_, _, _, _, _, _, _, _⟩ := hb.at8M Y3.out
          simp only [headOps, List.contains, List.elem, Nat.reduceAdd, Nat.reduceBEq, reduceIte, Bool.false_eq_true, dumOp]
          repeat (first | go_big_quiet_step (first | (go_at_call 101; exact Calls.of_gr (HM.out _))) | quiet_step (fail))
          exact wpQuiet_nil rfl
        refine ⟨rfl, ⟨rfl, by simp [Value.oneCell']⟩, fun w5 b5 hg5 hb5 xb5 => ?_⟩
        have G5 := hid (GW.out.trans hg5); have Z2 := hid (hg5.keep Y2.out); have Z3 := hid (hg5.keep Y3.out); have Z4 := hid (hg5.keep Y4.out); have XB := hid xb5
        have hne : b5 ≠ w.heap.size + 1 + 1 + 1 + 1 := by have := L4.out; omega
        clear hg5
        obtain ⟨_, _⟩ := cells2 xb5
        have _ := ltb xb5
        clear xb5
        obtain ⟨_, _, _, _⟩ := cells4 Z4.out
        have _ := fz Z4.out
        have _ := ltb Z4.out
        go_wp2_with fail
        exact ⟨⟨1, by simp, by rw [HS.out]; rfl, by omega, (((G5.out.setCell (by simp; omega) _).setCell (by simp; omega) _).setCell (by simp; omega) _).setCell (by simp; omega) _, keepSet' (keepSet' (keepSet' (keepSet' Z2.out (by simp)) (by simp)) (by simp)) (by simp), keepSet' (keepSet' (keepSet' (keepSet' Z3.out (by simp)) (by simp)) (by simp)) (by simp), by rw [HS.out]; simpa using Joins.block_setCell (i := 3) (Joins.block_setCell (i := 2) (Joins.block_setCell (i := 1) (Joins.block_setCell (i := 0) Z4.out (.int .i64 P)) (.int .i64 Q)) (.int .i64 P)) (.int .i64 Q)⟩, by simp [intOf]⟩
    · obtain ⟨⟨p0, ⟨o1, o2⟩, ⟨o3, o4⟩⟩, hT⟩ : ∃ s, TS (rawM a b c d a' b' c' d') 1 = s := ⟨_, rfl⟩
      rw [hT] at hbd Y4 ⊢
      have Y4 : Hid (wr.heap[w.heap.size + 1 + 1 + 1 + 1]? = some (.cells #[.int .i64 o1, .int .i64 o2, .int .i64 o3, .int .i64 o4] 30)) := Y4
      have HB : Hid (bdM (o1, o2) ∧ bdM (o3, o4)) := hid hbd
      clear hbd
      obtain ⟨b1, b2, b3, b4⟩ := okB_bd h1.out
      obtain ⟨d1, d2, d3, d4⟩ := okB_bd h4.out
      have hmul := fun w => sl01Mul a b c' d' w b1 b2 b3 b4 d1 d2 d3 d4
      clear b1 b2 b3 b4 d1 d2 d3 d4
      obtain ⟨_, _, _, _, _, _, _, _⟩ := cells8 Y3.out
      have _ := ltb Y3.out
      have L4 := hid (ltb Y4.out)
      cases hg : gM (rawM a b c d a' b' c' d') 1 with
      | false =>
        have hgf : okB (redP (a*c') (b*d')) (redQ (a*c') (b*d')) = false := hg
        have e1 : rP (a*c') (b*d') = 0 := by unfold rP; rw [hgf]; rfl
        have e2 : rQ (a*c') (b*d') = 0 := by unfold rQ; rw [hgf]; rfl
        have e3 : rC (a*c') (b*d') = 3 := by unfold rC; rw [hgf]; rfl
        rw [e1, e2, e3] at hmul
        have HM := hid hmul
        have HS := hid (TS_bad hg hT)
        clear hmul hg hgf e1 e2 e3 hT
        go_wp2_with fail
        refine wp_reg1s #[.int .i64 0, .int .i64 0] 16 14 10 15 40 (by kernel_rfl) (by kernel_rfl) rfl rfl (by simp) rfl rfl (by decide) (fun _ _ => by kernel_rfl) (by kernel_rfl) ?_
        apply Exists.intro; apply Exists.intro
        refine ⟨fun wb hb => ?_, ?_⟩
        · obtain ⟨_, _, _, _, _, _, _, _⟩ := hb.at8M Y3.out
          simp only [headOps, List.contains, List.elem, Nat.reduceAdd, Nat.reduceBEq, reduceIte, Bool.false_eq_true, dumOp]
          repeat (first | go_big_quiet_step (first | (go_at_call 101; exact Calls.of_gr (HM.out _))) | quiet_step (fail))
          exact wpQuiet_nil rfl
        refine ⟨rfl, ⟨rfl, by simp [Value.oneCell']⟩, fun w5 b5 hg5 hb5 xb5 => ?_⟩
        have G5 := hid (GW.out.trans hg5); have Z2 := hid (hg5.keep Y2.out); have Z3 := hid (hg5.keep Y3.out); have Z4 := hid (hg5.keep Y4.out)
        clear hg5 xb5
        go_wp2_with fail
        exact ⟨⟨2, by simp, by rw [HS.out], by omega, G5.out, Z2.out, Z3.out, by rw [HS.out]; exact Z4.out⟩, by simp [intOf]⟩
      | true =>
        have hgf : okB (redP (a*c') (b*d')) (redQ (a*c') (b*d')) = true := hg
        obtain ⟨P, hP⟩ : ∃ P, redP (a*c') (b*d') = P := ⟨_, rfl⟩
        obtain ⟨Q, hQ⟩ : ∃ Q, redQ (a*c') (b*d') = Q := ⟨_, rfl⟩
        have e1 : rP (a*c') (b*d') = P := by unfold rP; rw [hgf, hP]; rfl
        have e2 : rQ (a*c') (b*d') = Q := by unfold rQ; rw [hgf, hQ]; rfl
        have e3 : rC (a*c') (b*d') = 0 := by unfold rC; rw [hgf]; rfl
        rw [e1, e2, e3] at hmul
        rw [hP, hQ] at hgf
        have heM : eM (rawM a b c d a' b' c' d') 1 = (P, Q) := by rw [← hP, ← hQ]; rfl
        have HM := hid hmul; have HOK := hid hgf
        have hS := TS_good (by omega) hg hT
        rw [heM] at hS
        have HS : Hid (TS (rawM a b c d a' b' c' d') (1 + 1) = (p0, mnS (o1, o2) (P, Q), mxS (o3, o4) (P, Q))) := hid hS
        clear hmul hg hgf e1 e2 e3 hT hP hQ heM hS
        go_wp2_with fail
        refine wp_reg1s #[.int .i64 0, .int .i64 0] 16 14 10 15 40 (by kernel_rfl) (by kernel_rfl) rfl rfl (by simp) rfl rfl (by decide) (fun _ _ => by kernel_rfl) (by kernel_rfl) ?_
        apply Exists.intro; apply Exists.intro
        refine ⟨fun wb hb => ?_, ?_⟩
        · obtain ⟨_, _, _, _, _, _, _, _⟩ := hb.at8M Y3.out
          simp only [headOps, List.contains, List.elem, Nat.reduceAdd, Nat.reduceBEq, reduceIte, Bool.false_eq_true, dumOp]
          repeat (first | go_big_quiet_step (first | (go_at_call 101; exact Calls.of_gr (HM.out _))) | quiet_step (fail))
          exact wpQuiet_nil rfl
        refine ⟨rfl, ⟨rfl, by simp [Value.oneCell']⟩, fun w5 b5 hg5 hb5 xb5 => ?_⟩
        have G5 := hid (GW.out.trans hg5); have Z2 := hid (hg5.keep Y2.out); have Z3 := hid (hg5.keep Y3.out); have Z4 := hid (hg5.keep Y4.out); have XB := hid xb5
        have hne : b5 ≠ w.heap.size + 1 + 1 + 1 + 1 := by have := L4.out; omega
        clear hg5
        obtain ⟨_, _⟩ := cells2 xb5
        have _ := ltb xb5
        clear xb5
        obtain ⟨_, _, _, _⟩ := cells4 Z4.out
        have _ := fz Z4.out
        have _ := ltb Z4.out
        go_wp2_with fail
        refine (scmp_bd P Q o1 o2 _ HOK.out HB.out.1).mono ?_
        rintro e w6 ⟨rfl, hg6⟩
        have G6 := hid (G5.out.trans hg6); have Z26 := hid (hg6.keep Z2.out); have Z36 := hid (hg6.keep Z3.out); have Z46 := hid (hg6.keep Z4.out); have XB6 := hid (hg6.keep XB.out)
        clear hg6 G5 Z2 Z3 Z4 XB
        obtain ⟨_, _⟩ := cells2 XB6.out
        have _ := ltb XB6.out
        obtain ⟨_, _, _, _⟩ := cells4 Z46.out
        have _ := fz Z46.out
        have _ := ltb Z46.out
        by_cases hmin : cmpI P Q o1 o2 < 0
        · have hmn : mnS (o1, o2) (P, Q) = (P, Q) := if_pos hmin
          go_wp2_with fail
          refine (scmp_bd P Q o3 o4 _ HOK.out HB.out.2).mono ?_
          rintro e w7 ⟨rfl, hg7⟩
          have G7 := hid (((G6.out.setCell (by simp; omega) _).setCell (by simp; omega) _).trans hg7)
          have Z27 := hid (hg7.keep (keepSet' (keepSet' Z26.out (by simp)) (by simp))); have Z37 := hid (hg7.keep (keepSet' (keepSet' Z36.out (by simp)) (by simp))); have XB7 := hid (hg7.keep (keepSet' (keepSet' XB6.out (by simpa using hne)) (by simpa using hne)))
          have z4 := hg7.keep (Joins.block_setCell (i := 1) (Joins.block_setCell (i := 0) Z46.out (.int .i64 P)) (.int .i64 Q))
          have Z47 : Hid (w7.heap[w.heap.size + 1 + 1 + 1 + 1]? = some (.cells #[.int .i64 P, .int .i64 Q, .int .i64 o3, .int .i64 o4] 30)) := hid (by simpa using z4)
          clear hg7 z4 G6 Z26 Z36 Z46 XB6
          obtain ⟨_, _⟩ := cells2 XB7.out
          have _ := ltb XB7.out
          obtain ⟨_, _, _, _⟩ := cells4 Z47.out
          have _ := fz Z47.out
          have _ := ltb Z47.out
          by_cases hmax : 0 < cmpI P Q o3 o4
          · have hmx : mxS (o3, o4) (P, Q) = (P, Q) := if_pos hmax
            go_wp2_with fail
            exact ⟨⟨2, by simp, by rw [HS.out], by omega, (G7.out.setCell (by simp; omega) _).setCell (by simp; omega) _, keepSet' (keepSet' Z27.out (by simp)) (by simp), keepSet' (keepSet' Z37.out (by simp)) (by simp), by rw [HS.out, hmn, hmx]; simpa using Joins.block_setCell (i := 3) (Joins.block_setCell (i := 2) Z47.out (.int .i64 P)) (.int .i64 Q)⟩, by simp [intOf]⟩
          · have hmx : mxS (o3, o4) (P, Q) = (o3, o4) := if_neg hmax
            go_wp2_with fail
            exact ⟨⟨2, by simp, by rw [HS.out], by omega, G7.out, Z27.out, Z37.out, by rw [HS.out, hmn, hmx]; exact Z47.out⟩, by simp [intOf]⟩
        · have hmn : mnS (o1, o2) (P, Q) = (o1, o2) := if_neg hmin
          go_wp2_with fail
          refine (scmp_bd P Q o3 o4 _ HOK.out HB.out.2).mono ?_
          rintro e w7 ⟨rfl, hg7⟩
          have G7 := hid (G6.out.trans hg7); have Z27 := hid (hg7.keep Z26.out); have Z37 := hid (hg7.keep Z36.out); have Z47 := hid (hg7.keep Z46.out); have XB7 := hid (hg7.keep XB6.out)
          clear hg7 G6 Z26 Z36 Z46 XB6
          obtain ⟨_, _⟩ := cells2 XB7.out
          have _ := ltb XB7.out
          obtain ⟨_, _, _, _⟩ := cells4 Z47.out
          have _ := fz Z47.out
          have _ := ltb Z47.out
          by_cases hmax : 0 < cmpI P Q o3 o4
          · have hmx : mxS (o3, o4) (P, Q) = (P, Q) := if_pos hmax
            go_wp2_with fail
            exact ⟨⟨2, by simp, by rw [HS.out], by omega, (G7.out.setCell (by simp; omega) _).setCell (by simp; omega) _, keepSet' (keepSet' Z27.out (by simp)) (by simp), keepSet' (keepSet' Z37.out (by simp)) (by simp), by rw [HS.out, hmn, hmx]; simpa using Joins.block_setCell (i := 3) (Joins.block_setCell (i := 2) Z47.out (.int .i64 P)) (.int .i64 Q)⟩, by simp [intOf]⟩
          · have hmx : mxS (o3, o4) (P, Q) = (o3, o4) := if_neg hmax
            go_wp2_with fail
            exact ⟨⟨2, by simp, by rw [HS.out], by omega, G7.out, Z27.out, Z37.out, by rw [HS.out, hmn, hmx]; exact Z47.out⟩, by simp [intOf]⟩
    · obtain ⟨⟨p0, ⟨o1, o2⟩, ⟨o3, o4⟩⟩, hT⟩ : ∃ s, TS (rawM a b c d a' b' c' d') 2 = s := ⟨_, rfl⟩
      rw [hT] at hbd Y4 ⊢
      have Y4 : Hid (wr.heap[w.heap.size + 1 + 1 + 1 + 1]? = some (.cells #[.int .i64 o1, .int .i64 o2, .int .i64 o3, .int .i64 o4] 30)) := Y4
      have HB : Hid (bdM (o1, o2) ∧ bdM (o3, o4)) := hid hbd
      clear hbd
      obtain ⟨b1, b2, b3, b4⟩ := okB_bd h2.out
      obtain ⟨d1, d2, d3, d4⟩ := okB_bd h3.out
      have hmul := fun w => sl01Mul c d a' b' w b1 b2 b3 b4 d1 d2 d3 d4
      clear b1 b2 b3 b4 d1 d2 d3 d4
      obtain ⟨_, _, _, _, _, _, _, _⟩ := cells8 Y3.out
      have _ := ltb Y3.out
      have L4 := hid (ltb Y4.out)
      cases hg : gM (rawM a b c d a' b' c' d') 2 with
      | false =>
        have hgf : okB (redP (c*a') (d*b')) (redQ (c*a') (d*b')) = false := hg
        have e1 : rP (c*a') (d*b') = 0 := by unfold rP; rw [hgf]; rfl
        have e2 : rQ (c*a') (d*b') = 0 := by unfold rQ; rw [hgf]; rfl
        have e3 : rC (c*a') (d*b') = 3 := by unfold rC; rw [hgf]; rfl
        rw [e1, e2, e3] at hmul
        have HM := hid hmul
        have HS := hid (TS_bad hg hT)
        clear hmul hg hgf e1 e2 e3 hT
        go_wp2_with fail
        refine wp_reg1s #[.int .i64 0, .int .i64 0] 16 14 10 15 40 (by kernel_rfl) (by kernel_rfl) rfl rfl (by simp) rfl rfl (by decide) (fun _ _ => by kernel_rfl) (by kernel_rfl) ?_
        apply Exists.intro; apply Exists.intro
        refine ⟨fun wb hb => ?_, ?_⟩
        · obtain ⟨_, _, _, _, _, _, _, _⟩ := hb.at8M Y3.out
          simp only [headOps, List.contains, List.elem, Nat.reduceAdd, Nat.reduceBEq, reduceIte, Bool.false_eq_true, dumOp]
          repeat (first | go_big_quiet_step (first | (go_at_call 101; exact Calls.of_gr (HM.out _))) | quiet_step (fail))
          exact wpQuiet_nil rfl
        refine ⟨rfl, ⟨rfl, by simp [Value.oneCell']⟩, fun w5 b5 hg5 hb5 xb5 => ?_⟩
        have G5 := hid (GW.out.trans hg5); have Z2 := hid (hg5.keep Y2.out); have Z3 := hid (hg5.keep Y3.out); have Z4 := hid (hg5.keep Y4.out)
        clear hg5 xb5
        go_wp2_with fail
        exact ⟨⟨3, by simp, by rw [HS.out], by omega, G5.out, Z2.out, Z3.out, by rw [HS.out]; exact Z4.out⟩, by simp [intOf]⟩
      | true =>
        have hgf : okB (redP (c*a') (d*b')) (redQ (c*a') (d*b')) = true := hg
        obtain ⟨P, hP⟩ : ∃ P, redP (c*a') (d*b') = P := ⟨_, rfl⟩
        obtain ⟨Q, hQ⟩ : ∃ Q, redQ (c*a') (d*b') = Q := ⟨_, rfl⟩
        have e1 : rP (c*a') (d*b') = P := by unfold rP; rw [hgf, hP]; rfl
        have e2 : rQ (c*a') (d*b') = Q := by unfold rQ; rw [hgf, hQ]; rfl
        have e3 : rC (c*a') (d*b') = 0 := by unfold rC; rw [hgf]; rfl
        rw [e1, e2, e3] at hmul
        rw [hP, hQ] at hgf
        have heM : eM (rawM a b c d a' b' c' d') 2 = (P, Q) := by rw [← hP, ← hQ]; rfl
        have HM := hid hmul; have HOK := hid hgf
        have hS := TS_good (by omega) hg hT
        rw [heM] at hS
        have HS : Hid (TS (rawM a b c d a' b' c' d') (2 + 1) = (p0, mnS (o1, o2) (P, Q), mxS (o3, o4) (P, Q))) := hid hS
        clear hmul hg hgf e1 e2 e3 hT hP hQ heM hS
        go_wp2_with fail
        refine wp_reg1s #[.int .i64 0, .int .i64 0] 16 14 10 15 40 (by kernel_rfl) (by kernel_rfl) rfl rfl (by simp) rfl rfl (by decide) (fun _ _ => by kernel_rfl) (by kernel_rfl) ?_
        apply Exists.intro; apply Exists.intro
        refine ⟨fun wb hb => ?_, ?_⟩
        · obtain ⟨_, _, _, _, _, _, _, _⟩ := hb.at8M Y3.out
          simp only [headOps, List.contains, List.elem, Nat.reduceAdd, Nat.reduceBEq, reduceIte, Bool.false_eq_true, dumOp]
          repeat (first | go_big_quiet_step (first | (go_at_call 101; exact Calls.of_gr (HM.out _))) | quiet_step (fail))
          exact wpQuiet_nil rfl
        refine ⟨rfl, ⟨rfl, by simp [Value.oneCell']⟩, fun w5 b5 hg5 hb5 xb5 => ?_⟩
        have G5 := hid (GW.out.trans hg5); have Z2 := hid (hg5.keep Y2.out); have Z3 := hid (hg5.keep Y3.out); have Z4 := hid (hg5.keep Y4.out); have XB := hid xb5
        have hne : b5 ≠ w.heap.size + 1 + 1 + 1 + 1 := by have := L4.out; omega
        clear hg5
        obtain ⟨_, _⟩ := cells2 xb5
        have _ := ltb xb5
        clear xb5
        obtain ⟨_, _, _, _⟩ := cells4 Z4.out
        have _ := fz Z4.out
        have _ := ltb Z4.out
        go_wp2_with fail
        refine (scmp_bd P Q o1 o2 _ HOK.out HB.out.1).mono ?_
        rintro e w6 ⟨rfl, hg6⟩
        have G6 := hid (G5.out.trans hg6); have Z26 := hid (hg6.keep Z2.out); have Z36 := hid (hg6.keep Z3.out); have Z46 := hid (hg6.keep Z4.out); have XB6 := hid (hg6.keep XB.out)
        clear hg6 G5 Z2 Z3 Z4 XB
        obtain ⟨_, _⟩ := cells2 XB6.out
        have _ := ltb XB6.out
        obtain ⟨_, _, _, _⟩ := cells4 Z46.out
        have _ := fz Z46.out
        have _ := ltb Z46.out
        by_cases hmin : cmpI P Q o1 o2 < 0
        · have hmn : mnS (o1, o2) (P, Q) = (P, Q) := if_pos hmin
          go_wp2_with fail
          refine (scmp_bd P Q o3 o4 _ HOK.out HB.out.2).mono ?_
          rintro e w7 ⟨rfl, hg7⟩
          have G7 := hid (((G6.out.setCell (by simp; omega) _).setCell (by simp; omega) _).trans hg7)
          have Z27 := hid (hg7.keep (keepSet' (keepSet' Z26.out (by simp)) (by simp))); have Z37 := hid (hg7.keep (keepSet' (keepSet' Z36.out (by simp)) (by simp))); have XB7 := hid (hg7.keep (keepSet' (keepSet' XB6.out (by simpa using hne)) (by simpa using hne)))
          have z4 := hg7.keep (Joins.block_setCell (i := 1) (Joins.block_setCell (i := 0) Z46.out (.int .i64 P)) (.int .i64 Q))
          have Z47 : Hid (w7.heap[w.heap.size + 1 + 1 + 1 + 1]? = some (.cells #[.int .i64 P, .int .i64 Q, .int .i64 o3, .int .i64 o4] 30)) := hid (by simpa using z4)
          clear hg7 z4 G6 Z26 Z36 Z46 XB6
          obtain ⟨_, _⟩ := cells2 XB7.out
          have _ := ltb XB7.out
          obtain ⟨_, _, _, _⟩ := cells4 Z47.out
          have _ := fz Z47.out
          have _ := ltb Z47.out
          by_cases hmax : 0 < cmpI P Q o3 o4
          · have hmx : mxS (o3, o4) (P, Q) = (P, Q) := if_pos hmax
            go_wp2_with fail
            exact ⟨⟨3, by simp, by rw [HS.out], by omega, (G7.out.setCell (by simp; omega) _).setCell (by simp; omega) _, keepSet' (keepSet' Z27.out (by simp)) (by simp), keepSet' (keepSet' Z37.out (by simp)) (by simp), by rw [HS.out, hmn, hmx]; simpa using Joins.block_setCell (i := 3) (Joins.block_setCell (i := 2) Z47.out (.int .i64 P)) (.int .i64 Q)⟩, by simp [intOf]⟩
          · have hmx : mxS (o3, o4) (P, Q) = (o3, o4) := if_neg hmax
            go_wp2_with fail
            exact ⟨⟨3, by simp, by rw [HS.out], by omega, G7.out, Z27.out, Z37.out, by rw [HS.out, hmn, hmx]; exact Z47.out⟩, by simp [intOf]⟩
        · have hmn : mnS (o1, o2) (P, Q) = (o1, o2) := if_neg hmin
          go_wp2_with fail
          refine (scmp_bd P Q o3 o4 _ HOK.out HB.out.2).mono ?_
          rintro e w7 ⟨rfl, hg7⟩
          have G7 := hid (G6.out.trans hg7); have Z27 := hid (hg7.keep Z26.out); have Z37 := hid (hg7.keep Z36.out); have Z47 := hid (hg7.keep Z46.out); have XB7 := hid (hg7.keep XB6.out)
          clear hg7 G6 Z26 Z36 Z46 XB6
          obtain ⟨_, _⟩ := cells2 XB7.out
          have _ := ltb XB7.out
          obtain ⟨_, _, _, _⟩ := cells4 Z47.out
          have _ := fz Z47.out
          have _ := ltb Z47.out
          by_cases hmax : 0 < cmpI P Q o3 o4
          · have hmx : mxS (o3, o4) (P, Q) = (P, Q) := if_pos hmax
            go_wp2_with fail
            exact ⟨⟨3, by simp, by rw [HS.out], by omega, (G7.out.setCell (by simp; omega) _).setCell (by simp; omega) _, keepSet' (keepSet' Z27.out (by simp)) (by simp), keepSet' (keepSet' Z37.out (by simp)) (by simp), by rw [HS.out, hmn, hmx]; simpa using Joins.block_setCell (i := 3) (Joins.block_setCell (i := 2) Z47.out (.int .i64 P)) (.int .i64 Q)⟩, by simp [intOf]⟩
          · have hmx : mxS (o3, o4) (P, Q) = (o3, o4) := if_neg hmax
            go_wp2_with fail
            exact ⟨⟨3, by simp, by rw [HS.out], by omega, G7.out, Z27.out, Z37.out, by rw [HS.out, hmn, hmx]; exact Z47.out⟩, by simp [intOf]⟩
    · obtain ⟨⟨p0, ⟨o1, o2⟩, ⟨o3, o4⟩⟩, hT⟩ : ∃ s, TS (rawM a b c d a' b' c' d') 3 = s := ⟨_, rfl⟩
      rw [hT] at hbd Y4 ⊢
      have Y4 : Hid (wr.heap[w.heap.size + 1 + 1 + 1 + 1]? = some (.cells #[.int .i64 o1, .int .i64 o2, .int .i64 o3, .int .i64 o4] 30)) := Y4
      have HB : Hid (bdM (o1, o2) ∧ bdM (o3, o4)) := hid hbd
      clear hbd
      obtain ⟨b1, b2, b3, b4⟩ := okB_bd h2.out
      obtain ⟨d1, d2, d3, d4⟩ := okB_bd h4.out
      have hmul := fun w => sl01Mul c d c' d' w b1 b2 b3 b4 d1 d2 d3 d4
      clear b1 b2 b3 b4 d1 d2 d3 d4
      obtain ⟨_, _, _, _, _, _, _, _⟩ := cells8 Y3.out
      have _ := ltb Y3.out
      have L4 := hid (ltb Y4.out)
      cases hg : gM (rawM a b c d a' b' c' d') 3 with
      | false =>
        have hgf : okB (redP (c*c') (d*d')) (redQ (c*c') (d*d')) = false := hg
        have e1 : rP (c*c') (d*d') = 0 := by unfold rP; rw [hgf]; rfl
        have e2 : rQ (c*c') (d*d') = 0 := by unfold rQ; rw [hgf]; rfl
        have e3 : rC (c*c') (d*d') = 3 := by unfold rC; rw [hgf]; rfl
        rw [e1, e2, e3] at hmul
        have HM := hid hmul
        have HS := hid (TS_bad hg hT)
        clear hmul hg hgf e1 e2 e3 hT
        go_wp2_with fail
        refine wp_reg1s #[.int .i64 0, .int .i64 0] 16 14 10 15 40 (by kernel_rfl) (by kernel_rfl) rfl rfl (by simp) rfl rfl (by decide) (fun _ _ => by kernel_rfl) (by kernel_rfl) ?_
        apply Exists.intro; apply Exists.intro
        refine ⟨fun wb hb => ?_, ?_⟩
        · obtain ⟨_, _, _, _, _, _, _, _⟩ := hb.at8M Y3.out
          simp only [headOps, List.contains, List.elem, Nat.reduceAdd, Nat.reduceBEq, reduceIte, Bool.false_eq_true, dumOp]
          repeat (first | go_big_quiet_step (first | (go_at_call 101; exact Calls.of_gr (HM.out _))) | quiet_step (fail))
          exact wpQuiet_nil rfl
        refine ⟨rfl, ⟨rfl, by simp [Value.oneCell']⟩, fun w5 b5 hg5 hb5 xb5 => ?_⟩
        have G5 := hid (GW.out.trans hg5); have Z2 := hid (hg5.keep Y2.out); have Z3 := hid (hg5.keep Y3.out); have Z4 := hid (hg5.keep Y4.out)
        clear hg5 xb5
        go_wp2_with fail
        exact ⟨⟨4, by simp, by rw [HS.out], by omega, G5.out, Z2.out, Z3.out, by rw [HS.out]; exact Z4.out⟩, by simp [intOf]⟩
      | true =>
        have hgf : okB (redP (c*c') (d*d')) (redQ (c*c') (d*d')) = true := hg
        obtain ⟨P, hP⟩ : ∃ P, redP (c*c') (d*d') = P := ⟨_, rfl⟩
        obtain ⟨Q, hQ⟩ : ∃ Q, redQ (c*c') (d*d') = Q := ⟨_, rfl⟩
        have e1 : rP (c*c') (d*d') = P := by unfold rP; rw [hgf, hP]; rfl
        have e2 : rQ (c*c') (d*d') = Q := by unfold rQ; rw [hgf, hQ]; rfl
        have e3 : rC (c*c') (d*d') = 0 := by unfold rC; rw [hgf]; rfl
        rw [e1, e2, e3] at hmul
        rw [hP, hQ] at hgf
        have heM : eM (rawM a b c d a' b' c' d') 3 = (P, Q) := by rw [← hP, ← hQ]; rfl
        have HM := hid hmul; have HOK := hid hgf
        have hS := TS_good (by omega) hg hT
        rw [heM] at hS
        have HS : Hid (TS (rawM a b c d a' b' c' d') (3 + 1) = (p0, mnS (o1, o2) (P, Q), mxS (o3, o4) (P, Q))) := hid hS
        clear hmul hg hgf e1 e2 e3 hT hP hQ heM hS
        go_wp2_with fail
        refine wp_reg1s #[.int .i64 0, .int .i64 0] 16 14 10 15 40 (by kernel_rfl) (by kernel_rfl) rfl rfl (by simp) rfl rfl (by decide) (fun _ _ => by kernel_rfl) (by kernel_rfl) ?_
        apply Exists.intro; apply Exists.intro
        refine ⟨fun wb hb => ?_, ?_⟩
        · obtain ⟨_, _, _, _, _, _, _, _⟩ := hb.at8M Y3.out
          simp only [headOps, List.contains, List.elem, Nat.reduceAdd, Nat.reduceBEq, reduceIte, Bool.false_eq_true, dumOp]
          repeat (first | go_big_quiet_step (first | (go_at_call 101; exact Calls.of_gr (HM.out _))) | quiet_step (fail))
          exact wpQuiet_nil rfl
        refine ⟨rfl, ⟨rfl, by simp [Value.oneCell']⟩, fun w5 b5 hg5 hb5 xb5 => ?_⟩
        have G5 := hid (GW.out.trans hg5); have Z2 := hid (hg5.keep Y2.out); have Z3 := hid (hg5.keep Y3.out); have Z4 := hid (hg5.keep Y4.out); have XB := hid xb5
        have hne : b5 ≠ w.heap.size + 1 + 1 + 1 + 1 := by have := L4.out; omega
        clear hg5
        obtain ⟨_, _⟩ := cells2 xb5
        have _ := ltb xb5
        clear xb5
        obtain ⟨_, _, _, _⟩ := cells4 Z4.out
        have _ := fz Z4.out
        have _ := ltb Z4.out
        go_wp2_with fail
        refine (scmp_bd P Q o1 o2 _ HOK.out HB.out.1).mono ?_
        rintro e w6 ⟨rfl, hg6⟩
        have G6 := hid (G5.out.trans hg6); have Z26 := hid (hg6.keep Z2.out); have Z36 := hid (hg6.keep Z3.out); have Z46 := hid (hg6.keep Z4.out); have XB6 := hid (hg6.keep XB.out)
        clear hg6 G5 Z2 Z3 Z4 XB
        obtain ⟨_, _⟩ := cells2 XB6.out
        have _ := ltb XB6.out
        obtain ⟨_, _, _, _⟩ := cells4 Z46.out
        have _ := fz Z46.out
        have _ := ltb Z46.out
        by_cases hmin : cmpI P Q o1 o2 < 0
        · have hmn : mnS (o1, o2) (P, Q) = (P, Q) := if_pos hmin
          go_wp2_with fail
          refine (scmp_bd P Q o3 o4 _ HOK.out HB.out.2).mono ?_
          rintro e w7 ⟨rfl, hg7⟩
          have G7 := hid (((G6.out.setCell (by simp; omega) _).setCell (by simp; omega) _).trans hg7)
          have Z27 := hid (hg7.keep (keepSet' (keepSet' Z26.out (by simp)) (by simp))); have Z37 := hid (hg7.keep (keepSet' (keepSet' Z36.out (by simp)) (by simp))); have XB7 := hid (hg7.keep (keepSet' (keepSet' XB6.out (by simpa using hne)) (by simpa using hne)))
          have z4 := hg7.keep (Joins.block_setCell (i := 1) (Joins.block_setCell (i := 0) Z46.out (.int .i64 P)) (.int .i64 Q))
          have Z47 : Hid (w7.heap[w.heap.size + 1 + 1 + 1 + 1]? = some (.cells #[.int .i64 P, .int .i64 Q, .int .i64 o3, .int .i64 o4] 30)) := hid (by simpa using z4)
          clear hg7 z4 G6 Z26 Z36 Z46 XB6
          obtain ⟨_, _⟩ := cells2 XB7.out
          have _ := ltb XB7.out
          obtain ⟨_, _, _, _⟩ := cells4 Z47.out
          have _ := fz Z47.out
          have _ := ltb Z47.out
          by_cases hmax : 0 < cmpI P Q o3 o4
          · have hmx : mxS (o3, o4) (P, Q) = (P, Q) := if_pos hmax
            go_wp2_with fail
            exact ⟨⟨4, by simp, by rw [HS.out], by omega, (G7.out.setCell (by simp; omega) _).setCell (by simp; omega) _, keepSet' (keepSet' Z27.out (by simp)) (by simp), keepSet' (keepSet' Z37.out (by simp)) (by simp), by rw [HS.out, hmn, hmx]; simpa using Joins.block_setCell (i := 3) (Joins.block_setCell (i := 2) Z47.out (.int .i64 P)) (.int .i64 Q)⟩, by simp [intOf]⟩
          · have hmx : mxS (o3, o4) (P, Q) = (o3, o4) := if_neg hmax
            go_wp2_with fail
            exact ⟨⟨4, by simp, by rw [HS.out], by omega, G7.out, Z27.out, Z37.out, by rw [HS.out, hmn, hmx]; exact Z47.out⟩, by simp [intOf]⟩
        · have hmn : mnS (o1, o2) (P, Q) = (o1, o2) := if_neg hmin
          go_wp2_with fail
          refine (scmp_bd P Q o3 o4 _ HOK.out HB.out.2).mono ?_
          rintro e w7 ⟨rfl, hg7⟩
          have G7 := hid (G6.out.trans hg7); have Z27 := hid (hg7.keep Z26.out); have Z37 := hid (hg7.keep Z36.out); have Z47 := hid (hg7.keep Z46.out); have XB7 := hid (hg7.keep XB6.out)
          clear hg7 G6 Z26 Z36 Z46 XB6
          obtain ⟨_, _⟩ := cells2 XB7.out
          have _ := ltb XB7.out
          obtain ⟨_, _, _, _⟩ := cells4 Z47.out
          have _ := fz Z47.out
          have _ := ltb Z47.out
          by_cases hmax : 0 < cmpI P Q o3 o4
          · have hmx : mxS (o3, o4) (P, Q) = (P, Q) := if_pos hmax
            go_wp2_with fail
            exact ⟨⟨4, by simp, by rw [HS.out], by omega, (G7.out.setCell (by simp; omega) _).setCell (by simp; omega) _, keepSet' (keepSet' Z27.out (by simp)) (by simp), keepSet' (keepSet' Z37.out (by simp)) (by simp), by rw [HS.out, hmn, hmx]; simpa using Joins.block_setCell (i := 3) (Joins.block_setCell (i := 2) Z47.out (.int .i64 P)) (.int .i64 Q)⟩, by simp [intOf]⟩
          · have hmx : mxS (o3, o4) (P, Q) = (o3, o4) := if_neg hmax
            go_wp2_with fail
            exact ⟨⟨4, by simp, by rw [HS.out], by omega, G7.out, Z27.out, Z37.out, by rw [HS.out, hmn, hmx]; exact Z47.out⟩, by simp [intOf]⟩
    · obtain ⟨⟨p0, ⟨o1, o2⟩, ⟨o3, o4⟩⟩, hT⟩ : ∃ s, TS (rawM a b c d a' b' c' d') 4 = s := ⟨_, rfl⟩
      rw [hT] at Y4 ⊢
      have Y4 : Hid (wr.heap[w.heap.size + 1 + 1 + 1 + 1]? = some (.cells #[.int .i64 o1, .int .i64 o2, .int .i64 o3, .int .i64 o4] 30)) := Y4
      clear hbd
      obtain ⟨_, _, _, _⟩ := cells4 Y2.out
      have _ := fz Y2.out
      have _ := ltb Y2.out
      obtain ⟨_, _, _, _⟩ := cells4 Y4.out
      have _ := fz Y4.out
      have _ := ltb Y4.out
      by_cases hz : p0 = 0
      · subst hz
        go_wp2
        refine bodyPost_ret (v := .tuple #[sp o1 o2 o3 o4, .int .i64 0]) (by simp [results, Try.results76, go_sem, *]) rfl ⟨rfl, ?_⟩
        exact (((GW.out.setCell (by simp; omega) _).setCell (by simp; omega) _).setCell (by simp; omega) _).setCell (by simp; omega) _
      · have hz' : (p0 == 0) = false := by simpa using hz
        go_wp2
        refine bodyPost_ret (v := .tuple #[sp 0 0 0 0, .int .i64 p0]) (by simp [results, Try.results76, go_sem, *]) rfl ⟨rfl, ?_⟩
        exact (((GW.out.setCell (by simp; omega) _).setCell (by simp; omega) _).setCell (by simp; omega) _).setCell (by simp; omega) _
set_option maxRecDepth 20000 in
set_option maxHeartbeats 400000 in
theorem sMulSpans_no (a b c d a' b' c' d' : Int) (w : World) (h : (spB a b c d && spB a' b' c' d') = false) :
    Calls Try.prog 24 #[sp a b c d, sp a' b' c' d'] w fun e w' => e = .returned (.tuple #[sp 0 0 0 0, .int .i64 1]) ∧ Gr w w' := by
  have h := hid h
  go_enter Try.func24, Try.ntmps24
  go_wp2_with fail
  refine (sSpans_no _ _ _ _ _ _ _ _ _ _ _ (hid (alloc3 (Gr.refl _)).1) (hid (alloc3 (Gr.refl _)).2.1) h.out).mono ?_
  rintro e w1 ⟨rfl, hg1⟩
  obtain ⟨x1_0, x1_1, x1_2, hz1, g1⟩ := alloc3 hg1
  obtain ⟨_, _, _, _⟩ := cells4 x1_0
  have _ := fz x1_0
  have _ := ltb x1_0
  obtain ⟨_, _, _, _⟩ := cells4 x1_1
  have _ := fz x1_1
  have _ := ltb x1_1
  obtain ⟨_, _, _, _⟩ := cells4 x1_2
  have _ := fz x1_2
  have _ := ltb x1_2
  have X1_0 := hid x1_0; clear x1_0
  have X1_1 := hid x1_1; clear x1_1
  have X1_2 := hid x1_2; clear x1_2
  have G1 := hid (g1)
  clear hg1 g1
  go_wp2
  refine bodyPost_ret (v := .tuple #[sp 0 0 0 0, .int .i64 1]) (by simp [results, Try.results24, go_sem, *]) rfl ⟨rfl, ?_⟩
  exact ((((G1.out).setCell (by simp <;> omega) _).setCell (by simp <;> omega) _).setCell (by simp <;> omega) _).setCell (by simp <;> omega) _
set_option maxRecDepth 20000 in
set_option maxHeartbeats 400000 in
theorem sMulSpans_yes (a b c d a' b' c' d' P Q R S C : Int) (w : World) (h1 : spB a b c d = true) (h2 : spB a' b' c' d' = true) (h : ∀ w, Calls Try.prog 76 #[sp a b c d, sp a' b' c' d'] w fun e w' => e = .returned (.tuple #[sp P Q R S, .int .i64 C]) ∧ Gr w w') :
    Calls Try.prog 24 #[sp a b c d, sp a' b' c' d'] w fun e w' => e = .returned (.tuple #[sp P Q R S, .int .i64 C]) ∧ Gr w w' := by
  have h1 := hid h1; have h2 := hid h2; have H := hid h; clear h
  go_enter Try.func24, Try.ntmps24
  go_wp2_with fail
  refine (sSpans_yes _ _ _ _ _ _ _ _ _ _ _ (hid (alloc3 (Gr.refl _)).1) (hid (alloc3 (Gr.refl _)).2.1) h1.out h2.out).mono ?_
  rintro e w1 ⟨rfl, hg1⟩
  obtain ⟨x1_0, x1_1, x1_2, hz1, g1⟩ := alloc3 hg1
  obtain ⟨_, _, _, _⟩ := cells4 x1_0
  have _ := fz x1_0
  have _ := ltb x1_0
  obtain ⟨_, _, _, _⟩ := cells4 x1_1
  have _ := fz x1_1
  have _ := ltb x1_1
  obtain ⟨_, _, _, _⟩ := cells4 x1_2
  have _ := fz x1_2
  have _ := ltb x1_2
  have X1_0 := hid x1_0; clear x1_0
  have X1_1 := hid x1_1; clear x1_1
  have X1_2 := hid x1_2; clear x1_2
  have G1 := hid (g1)
  clear hg1 g1
  go_wp2_with fail
  refine (H.out _).mono ?_
  rintro e w2 ⟨rfl, hg2⟩
  have x2_1 := hg2.keep X1_0.out
  have x2_2 := hg2.keep X1_1.out
  have x2_3 := hg2.keep X1_2.out
  obtain ⟨_, _, _, _⟩ := cells4 x2_1
  have _ := fz x2_1
  have _ := ltb x2_1
  obtain ⟨_, _, _, _⟩ := cells4 x2_2
  have _ := fz x2_2
  have _ := ltb x2_2
  obtain ⟨_, _, _, _⟩ := cells4 x2_3
  have _ := fz x2_3
  have _ := ltb x2_3
  have X2_1 := hid x2_1; clear x2_1
  have X2_2 := hid x2_2; clear x2_2
  have X2_3 := hid x2_3; clear x2_3
  have G2 := hid (G1.out.trans hg2)
  clear hg2
  go_wp2
  refine bodyPost_ret (v := .tuple #[sp P Q R S, .int .i64 C]) (by simp [results, Try.results24, go_sem, *]) rfl ⟨rfl, ?_⟩
  exact ((((G2.out).setCell (by simp <;> omega) _).setCell (by simp <;> omega) _).setCell (by simp <;> omega) _).setCell (by simp <;> omega) _
theorem bothMulSpans (a b c d a' b' c' d' : Int) : ∃ P Q R S C : Int, (∀ w, Calls Try.prog 24 #[sp a b c d, sp a' b' c' d'] w fun e w' => e = .returned (.tuple #[sp P Q R S, .int .i64 C]) ∧ Gr w w') ∧
    (∀ w, Calls Try.prog 25 #[sp a b c d, sp a' b' c' d'] w fun e w' => e = .returned (.tuple #[sp P Q R S, .int .i64 C]) ∧ Gr w w') := by
  cases h1 : spB a b c d with
  | false => exact ⟨0, 0, 0, 0, 1, fun w => sMulSpans_no _ _ _ _ _ _ _ _ w (by rw [h1]; rfl), fun w => iMulSpans _ _ _ _ _ _ _ _ _ _ _ _ _ w fun w => oftimes_n1 _ _ _ _ _ _ _ _ w h1⟩
  | true =>
    cases h2 : spB a' b' c' d' with
    | false => exact ⟨0, 0, 0, 0, 1, fun w => sMulSpans_no _ _ _ _ _ _ _ _ w (by rw [h1, h2]; rfl), fun w => iMulSpans _ _ _ _ _ _ _ _ _ _ _ _ _ w fun w => oftimes_n2 _ _ _ _ _ _ _ _ w h1 h2⟩
    | true =>
      have o1 := (spB_ok h1).1; have o2 := (spB_ok h1).2.1; have o3 := (spB_ok h2).1; have o4 := (spB_ok h2).2.1
      have bad : (TS (rawM a b c d a' b' c' d') 4).1 = 3 → (∀ w, Calls Try.prog 78 #[sp a b c d, sp a' b' c' d'] w fun e w' => (∃ x y, e = .panicked [{ v := .iface 194 (fr x y), recovered := false }]) ∧ Gr w w') → ∃ P Q R S C : Int, (∀ w, Calls Try.prog 24 #[sp a b c d, sp a' b' c' d'] w fun e w' => e = .returned (.tuple #[sp P Q R S, .int .i64 C]) ∧ Gr w w') ∧ (∀ w, Calls Try.prog 25 #[sp a b c d, sp a' b' c' d'] w fun e w' => e = .returned (.tuple #[sp P Q R S, .int .i64 C]) ∧ Gr w w') := fun hT hp =>
        ⟨0, 0, 0, 0, 3, fun w => sMulSpans_yes _ _ _ _ _ _ _ _ _ _ _ _ _ w h1 h2 fun w => by have := sl01Times a b c d a' b' c' d' w o1 o2 o3 o4; rw [hT, if_neg (by decide)] at this; exact this, fun w => iMulSpans _ _ _ _ _ _ _ _ _ _ _ _ _ w fun w => oftimes_bad _ _ _ _ _ _ _ _ w h1 h2 hp⟩
      cases g0 : gM (rawM a b c d a' b' c' d') 0 with
      | false => exact bad (TS_end3 _ (.inl g0)) fun w => stimes_b1 _ _ _ _ _ _ _ _ w o1 o2 o3 o4 g0
      | true =>
      cases g1 : gM (rawM a b c d a' b' c' d') 1 with
      | false => exact bad (TS_end3 _ (.inr (.inl g1))) fun w => stimes_b2 _ _ _ _ _ _ _ _ w o1 o2 o3 o4 g0 g1
      | true =>
      cases g2 : gM (rawM a b c d a' b' c' d') 2 with
      | false => exact bad (TS_end3 _ (.inr (.inr (.inl g2)))) fun w => stimes_b3 _ _ _ _ _ _ _ _ w o1 o2 o3 o4 g0 g1 g2
      | true =>
      cases g3 : gM (rawM a b c d a' b' c' d') 3 with
      | false => exact bad (TS_end3 _ (.inr (.inr (.inr g3)))) fun w => stimes_b4 _ _ _ _ _ _ _ _ w o1 o2 o3 o4 g0 g1 g2 g3
      | true =>
        have hT := TS_end0 _ g0 g1 g2 g3
        refine ⟨_, _, _, _, 0, fun w => sMulSpans_yes _ _ _ _ _ _ _ _ _ _ _ _ _ w h1 h2 fun w => ?_, fun w => iMulSpans _ _ _ _ _ _ _ _ _ _ _ _ _ w fun w => oftimes_ok _ _ _ _ _ _ _ _ _ _ _ _ w h1 h2 fun w => stimes_ok _ _ _ _ _ _ _ _ w o1 o2 o3 o4 g0 g1 g2 g3⟩
        have := sl01Times a b c d a' b' c' d' w o1 o2 o3 o4
        rw [hT, if_pos rfl] at this
        exact this
end Go.Proofs.Yteopkbeokiomlaa
