/- PAIRS: told, of a table; the sum of fractions wherever they lie; the pairs of a list. -/
import Derived.Test.YtjhlpaeenjbljaaIe
import Derived.Test.YtjhlpaeenjbljaaEf
import Derived.Test.YtjhlpaeenjbljaaFu
import Derived.Test.YtjhlpaeenjbljaaRi
namespace Go.Proofs.Ytjhlpaeenjbljaa
open Go.RowKit Go.Sort

set_option maxHeartbeats 400000 in
theorem catch_idle_T5 (p : Addr) (w : World) :
    CallsD Try.prog 133 #[.pointer (some p)] .returning w fun e u' w' => e = .returned (.tuple #[]) ∧ u' = .returning ∧ w' = w := by
  have h1 : ∀ w, (Instr.typeAssert .nilIface 20 145 true).run Try.prog w = .ok (.tuple #[.nilIface, .bool false]) w := fun _ => by kernel_rfl
  refine callsD_of_wpS Try.func133 rfl fun c₀ cs hu => ?_
  apply wpS_seq
  apply wpS_region
  simp [wpOpsS, go_sem, recoverD, hu, Try.ntmps133, Exit.thenS, ↓h1]
  apply wpS_of_wp
  go_wp2
  cases c₀
  simp_all [bodyPostS, results, Try.results133]
set_option maxHeartbeats 400000 in
theorem catch_great_T5 (b : Nat) (x y : Int) (w : World) (c : Int) (T : TypeId) (hc : w.heap[b]? = some (.cells #[.int .i64 c] T)) :
    CallsD Try.prog 133 #[.pointer (some ⟨b, 0, none⟩)] (.panicking [{ v := .iface 138 (fr x y), recovered := false }]) w fun e u' w' =>
      e = .returned (.tuple #[]) ∧ u' = .panicking [{ v := .iface 138 (fr x y), recovered := true }] ∧ ∃ w1, Gr w w1 ∧ w' = w1.setCell ⟨b, 0, none⟩ (.int .i64 3) := by
  have h1 : ∀ x w, (Instr.typeAssert (.iface 138 x) 20 145 true).run Try.prog w = .ok (.tuple #[.iface 138 x, .bool true]) w := fun _ _ => by kernel_rfl
  refine callsD_of_wpS Try.func133 rfl fun c₀ cs hu => ?_
  apply wpS_seq
  apply wpS_region
  simp [wpOpsS, go_sem, recoverD, hu, Try.ntmps133, Exit.thenS, ↓h1, Array.replicate, List.replicate]
  apply wpS_of_wp
  clear hu h1
  have HC := hid hc; clear hc
  go_wp2_with (go_at_call 176; refine (code_great _ _ _).mono ?_; rintro e w1 ⟨rfl, hg⟩; have hb := hg.keep HC.out; have f0 := fz hb; have c0 := cells1 hb; have HG := hid hg; clear hg hb)
  cases c₀
  simp [bodyPostS, results, Try.results133]
  exact ⟨w1, HG.out, rfl⟩
set_option maxRecDepth 20000 in
set_option maxHeartbeats 400000 in
theorem toldT_ok (f : Nat) (v : Value) (n : Int) (b : Bool) (p q : Int) (ys : List Obv) (w : World) (hen : ∀ w, (callFunc f #[v]).run Try.prog w = .ok (.enter f #[v]) w) (hF : ∀ w', Gr w w' → Calls Try.prog f #[v] w' fun e w'' => ∃ A c, e = .returned (tbl n A ys.length c b p q) ∧ w''.ownsRow w'.heap.size 104 9 (.slice A ys.length c) ys.length (flO ys) ∧ Gr w' w'') :
    Calls Try.prog 96 #[.func (.func f) #[v] #[]] w fun e w' => GivesTb w w' e n b p q ys 0 := by
  have HF := hid hF; clear hF
  go_enter_defers Try.func96, Try.ntmps96
  go_wp2_with fail
  refine (HF.out _ ((Gr.alloc _ _).trans (Gr.alloc _ _))).mono ?_
  rintro e w1 ⟨A, c, rfl, hR, hg⟩
  obtain ⟨x0, x1, hz, G1⟩ := alloc2 hg
  obtain ⟨_, _, _, _, _⟩ := cells5 x0
  have _ := cells1 x1
  have _ := fz x0
  have _ := fz x1
  have G1 := hid G1
  have HR := hid (own_base hR (show w.heap.size + 2 ≤ _ by simp))
  clear hg x0 x1 hR
  go_wp2_with fail
  refine leaves_cons (f := 133) (args := #[.pointer (some ⟨w.heap.size + 1, 0, none⟩)]) (by simp) (by simp [go_sem]) ?_
  refine (catch_idle_T5 _ _).mono ?_
  rintro e u' w2 ⟨rfl, rfl, rfl⟩
  simp [Leaves, settle, results, Try.results96, go_sem, *]
  refine ⟨A, c, rfl, own_base (base' := w.heap.size) (own_low (own_low (own_low (own_low (own_low (own_low HR.out (by simp) _) (by simp) _) (by simp) _) (by simp) _) (by simp) _) (by simp) _) (by omega), ?_⟩
  exact ((((((G1.out.setCell (by simp) _).setCell (by simp) _).setCell (by simp) _).setCell (by simp) _).setCell (by simp) _).setCell (by simp) _)
set_option maxRecDepth 20000 in
set_option maxHeartbeats 400000 in
theorem toldT_great (f : Nat) (v : Value) (w : World) (hen : ∀ w, (callFunc f #[v]).run Try.prog w = .ok (.enter f #[v]) w) (hF : ∀ w', Gr w w' → Calls Try.prog f #[v] w' fun e w'' => (∃ p q, e = .panicked [{ v := .iface 138 (fr p q), recovered := false }]) ∧ Gr w' w'') :
    Calls Try.prog 96 #[.func (.func f) #[v] #[]] w fun e w' => e = .returned (.tuple #[tbl 0 none 0 0 false 0 0, .int .i64 3]) ∧ Gr w w' := by
  have HF := hid hF; clear hF
  go_enter_defers Try.func96, Try.ntmps96
  go_wp2_with fail
  refine (HF.out _ ((Gr.alloc _ _).trans (Gr.alloc _ _))).mono ?_
  rintro e w1 ⟨⟨p, q, rfl⟩, hg⟩
  obtain ⟨x0, x1, hz, G1⟩ := alloc2 hg
  refine leaves_cons (f := 133) (args := #[.pointer (some ⟨w.heap.size + 1, 0, none⟩)]) (by simp) (by simp [go_sem]) ?_
  refine (catch_great_T5 _ _ _ _ _ _ x1).mono ?_
  rintro e u' w2 ⟨rfl, rfl, w3, hg3, rfl⟩
  have x0 := hg3.keep x0
  obtain ⟨_, _, _, _, _⟩ := cells5 x0
  have _ := cells1 (hg3.keep x1)
  simp [Leaves, settle, results, Try.results96, go_sem, *]
  exact (G1.trans hg3).setCell (by simp) _
set_option maxRecDepth 20000 in
set_option maxHeartbeats 1000000 in
theorem ssumT (Ad : Option Addr) (cc : Nat) (xs : List (Int × Int)) (w : World) (X : Hid (RdF w Ad xs)) (hn : xs.length ≤ 1048576) (hall : xs.all (fun x => okB x.1 x.2) = true) :
    Calls Try.prog 93 #[.slice Ad xs.length cc] w fun e w' => e = .returned (smV (sm xs 0 1)) ∧ Gr w w' := by
  obtain ⟨r, hr⟩ : ∃ r, sm xs 0 1 = r := ⟨_, rfl⟩
  rw [hr]
  have HR := hid hr; clear hr
  have HALL := hid hall; clear hall
  go_enter Try.func93, Try.ntmps93
  go_wp2_with fail
  refine (swhole1 _ _).mono ?_
  rintro e w1 ⟨rfl, hg1⟩
  obtain ⟨x1_0, hz1, g1⟩ := alloc1 hg1
  obtain ⟨_, _⟩ := cells2 x1_0
  have _ := fz x1_0
  have _ := ltb x1_0
  have X1_0 := hid x1_0; clear x1_0
  have G1 := hid (g1)
  clear hg1 g1
  go_wp2_with fail
  go_loopw [5] (fun u wr => ∃ (k : Nat) (P Q : Int), u = .int .i64 (k : Int) ∧ k ≤ xs.length ∧ Gr w wr ∧ wr.heap[w.heap.size]? = some (.cells #[.int .i64 0, .int .i64 0] 24) ∧ wr.heap[w1.heap.size]? = some (.cells #[.int .i64 P, .int .i64 Q] 24) ∧ okB P Q = true ∧ sm (xs.drop k) P Q = r) (fun u _ => xs.length - (intOf u).toNat)
  case atStart => exact ⟨0, 0, 1, rfl, by omega, (G1.out).al _, ((Gr.refl _).al _).keep X1_0.out, (alloc1 (Gr.refl _)).1, ok01, HR.out⟩
  case round =>
    obtain ⟨k, P, Q, rfl, hk, g0, y2, y3, hok, hs⟩ := hrel
    have GW := hid g0; have Y2 := hid y2; have Y3 := hid y3; have HOK := hid hok
    clear g0 y2 y3 hok
    by_cases hlt : k < xs.length
    · obtain ⟨⟨p, q⟩, hpq⟩ : ∃ pq, xs[k]? = some pq := ⟨xs[k], List.getElem?_eq_getElem _⟩
      have hx := hid (all_get hpq HALL.out)
      obtain ⟨ad, rfl, c1, c2⟩ := (X.out.keep GW.out) k p q hpq
      have D1 := hid c1; have D2 := hid c2
      clear c1 c2
      rw [sm_step hpq] at hs
      cases hb2 : okB (redP (P*q+p*Q) (Q*q)) (redQ (P*q+p*Q) (Q*q)) with
      | true =>
        rw [hb2, if_pos rfl] at hs
        have HB := hid hb2; have HS := hid hs
        clear hb2 hs hpq
        obtain ⟨P2, eP⟩ : ∃ P2, redP (P*q+p*Q) (Q*q) = P2 := ⟨_, rfl⟩
        obtain ⟨Q2, eQ⟩ : ∃ Q2, redQ (P*q+p*Q) (Q*q) = Q2 := ⟨_, rfl⟩
        have AD : ∀ w, Calls Try.prog 62 #[fr P Q, fr p q] w fun e w' => e = .returned (.tuple #[fr P2 Q2, .int .i64 0]) ∧ Gr w w' := fun w => eP ▸ eQ ▸ sadd_t P Q p q w HOK.out hx.out HB.out
        have HB2 : okB P2 Q2 = true := eP ▸ eQ ▸ HB.out
        have HS2 : sm (xs.drop (k + 1)) P2 Q2 = r := eP ▸ eQ ▸ HS.out
        have AD := hid AD; have HB2 := hid HB2; have HS2 := hid HS2
        clear eP eQ HB HS
        obtain ⟨_, _⟩ := cells2 Y2.out
        have _ := fz Y2.out
        have _ := ltb Y2.out
        obtain ⟨_, _⟩ := cells2 Y3.out
        have _ := fz Y3.out
        have _ := ltb Y3.out
        go_wp2_with fail
        refine wp_reg1s #[.int .i64 0, .int .i64 0] 11 9 6 10 22 (by kernel_rfl) (by kernel_rfl) rfl rfl (by simp) rfl rfl (by decide) (fun _ _ => by kernel_rfl) (by kernel_rfl) ?_
        apply Exists.intro; apply Exists.intro
        refine ⟨fun wb hb => ?_, ?_⟩
        · obtain ⟨_, _⟩ := hb.at2 Y2.out
          obtain ⟨_, _⟩ := hb.at2 Y3.out
          have _ := hb.atF D1.out; have _ := hb.atF D2.out
          simp only [headOps, List.contains, List.elem, Nat.reduceAdd, Nat.reduceBEq, reduceIte, Bool.false_eq_true, dumOp]
          repeat (first | go_big_quiet_step (first | (go_at_call 62; exact Calls.of_gr (AD.out _))) | quiet_step (fail))
          exact wpQuiet_nil rfl
        refine ⟨rfl, ⟨rfl, by simp [Value.oneCell']⟩, fun w6 b6 hg6 _ xb6 => ?_⟩
        have x6_1 := hg6.keep Y2.out
        have x6_2 := hg6.keep Y3.out
        obtain ⟨_, _⟩ := cells2 x6_1
        have _ := fz x6_1
        have _ := ltb x6_1
        obtain ⟨_, _⟩ := cells2 x6_2
        have _ := fz x6_2
        have _ := ltb x6_2
        obtain ⟨_, _⟩ := cells2 xb6
        have _ := fz xb6
        have _ := ltb xb6
        have X6_1 := hid x6_1; clear x6_1
        have X6_2 := hid x6_2; clear x6_2
        have Xb6 := hid xb6; clear xb6
        have G6 := hid (GW.out.trans hg6)
        clear hg6
        go_wp2_with fail
        exact ⟨⟨k + 1, P2, Q2, by simp, by omega, (G6.out.setCell (by simp; omega) _).setCell (by simp; omega) _, set2_old X6_1.out (by omega), set2_new X6_2.out, HB2.out, HS2.out⟩, by simp [intOf]; omega⟩
      | false =>
        rw [hb2, if_neg (by decide)] at hs
        have HS := hid hs
        have AD : ∀ w, Calls Try.prog 62 #[fr P Q, fr p q] w fun e w' => e = .returned (.tuple #[fr 0 0, .int .i64 3]) ∧ Gr w w' := fun w => sadd_f P Q p q w HOK.out hx.out hb2
        have AD := hid AD
        clear hb2 hs hpq
        obtain ⟨_, _⟩ := cells2 Y2.out
        have _ := fz Y2.out
        have _ := ltb Y2.out
        obtain ⟨_, _⟩ := cells2 Y3.out
        have _ := fz Y3.out
        have _ := ltb Y3.out
        go_wp2_with fail
        refine wp_reg1s #[.int .i64 0, .int .i64 0] 11 9 6 10 22 (by kernel_rfl) (by kernel_rfl) rfl rfl (by simp) rfl rfl (by decide) (fun _ _ => by kernel_rfl) (by kernel_rfl) ?_
        apply Exists.intro; apply Exists.intro
        refine ⟨fun wb hb => ?_, ?_⟩
        · obtain ⟨_, _⟩ := hb.at2 Y2.out
          obtain ⟨_, _⟩ := hb.at2 Y3.out
          have _ := hb.atF D1.out; have _ := hb.atF D2.out
          simp only [headOps, List.contains, List.elem, Nat.reduceAdd, Nat.reduceBEq, reduceIte, Bool.false_eq_true, dumOp]
          repeat (first | go_big_quiet_step (first | (go_at_call 62; exact Calls.of_gr (AD.out _))) | quiet_step (fail))
          exact wpQuiet_nil rfl
        refine ⟨rfl, ⟨rfl, by simp [Value.oneCell']⟩, fun w6 b6 hg6 _ xb6 => ?_⟩
        have x6_1 := hg6.keep Y2.out
        have x6_2 := hg6.keep Y3.out
        obtain ⟨_, _⟩ := cells2 x6_1
        have _ := fz x6_1
        have _ := ltb x6_1
        obtain ⟨_, _⟩ := cells2 x6_2
        have _ := fz x6_2
        have _ := ltb x6_2
        obtain ⟨_, _⟩ := cells2 xb6
        have _ := fz xb6
        have _ := ltb xb6
        have X6_1 := hid x6_1; clear x6_1
        have X6_2 := hid x6_2; clear x6_2
        have Xb6 := hid xb6; clear xb6
        have G6 := hid (GW.out.trans hg6)
        clear hg6
        go_wp2
        refine bodyPost_ret (v := .tuple #[fr 0 0, .int .i64 3]) (by simp [results, Try.results93, go_sem, *]) rfl ⟨(by rw [← HS.out]; rfl), ?_⟩
        exact ((G6.out).setCell (by simp <;> omega) _).setCell (by simp <;> omega) _
    · have hke : xs.drop k = [] := List.drop_eq_nil_of_le (by omega)
      rw [hke] at hs
      have HS := hid hs; clear hs hke
      obtain ⟨_, _⟩ := cells2 Y2.out
      have _ := fz Y2.out
      have _ := ltb Y2.out
      obtain ⟨_, _⟩ := cells2 Y3.out
      have _ := fz Y3.out
      have _ := ltb Y3.out
      go_wp2
      refine bodyPost_ret (v := .tuple #[fr P Q, .int .i64 0]) (by simp [results, Try.results93, go_sem, *]) rfl ⟨(by rw [← HS.out]; rfl), ?_⟩
      exact ((GW.out).setCell (by simp <;> omega) _).setCell (by simp <;> omega) _
set_option maxRecDepth 20000 in
set_option maxHeartbeats 1000000 in
/-- impl.sumOf, told -/
theorem isumT_ok (Ad : Option Addr) (cc : Nat) (xs : List (Int × Int)) (A B : Int) (w : World) (X : Hid (RdF w Ad xs)) (hn : xs.length ≤ 1048576) (hall : xs.all (fun x => okB x.1 x.2) = true) (hsm : sm xs 0 1 = some (A, B)) :
    Calls Try.prog 135 #[.slice Ad xs.length cc] w fun e w' => e = .returned (fr A B) ∧ Gr w w' := by
  have HR := hid hsm; clear hsm
  have HALL := hid hall; clear hall
  go_enter Try.func135, Try.ntmps135
  go_wp2_with fail
  refine (fit_ok 0 1 _ gt01 (by decide)).mono ?_
  rintro e w1 ⟨rfl, hg1⟩
  obtain ⟨x1_0, hz1, g1⟩ := alloc1 hg1
  obtain ⟨_, _⟩ := cells2 x1_0
  have _ := fz x1_0
  have _ := ltb x1_0
  have X1_0 := hid x1_0; clear x1_0
  have G1 := hid (g1)
  clear hg1 g1
  go_wp2_with fail
  go_loopw [9] (fun u wr => ∃ (k : Nat) (P Q : Int), u = .int .i64 (k : Int) ∧ k ≤ xs.length ∧ Gr w wr ∧ wr.heap[w.heap.size]? = some (.cells #[.int .i64 0, .int .i64 0] 24) ∧ wr.heap[w1.heap.size]? = some (.cells #[.int .i64 P, .int .i64 Q] 24) ∧ okB P Q = true ∧ sm (xs.drop k) P Q = some (A, B)) (fun u _ => xs.length - (intOf u).toNat)
  case atStart => exact ⟨0, 0, 1, rfl, by omega, (G1.out).al _, ((Gr.refl _).al _).keep X1_0.out, (alloc1 (Gr.refl _)).1, ok01, HR.out⟩
  case round =>
    obtain ⟨k, P, Q, rfl, hk, g0, y2, y3, hok, hs⟩ := hrel
    have GW := hid g0; have Y2 := hid y2; have Y3 := hid y3; have HOK := hid hok
    clear g0 y2 y3 hok
    by_cases hlt : k < xs.length
    · obtain ⟨⟨p, q⟩, hpq⟩ : ∃ pq, xs[k]? = some pq := ⟨xs[k], List.getElem?_eq_getElem _⟩
      obtain ⟨ad, rfl, c1, c2⟩ := (X.out.keep GW.out) k p q hpq
      have hx := hid (all_get hpq HALL.out)
      rw [sm_step hpq] at hs
      cases hb2 : okB (redP (P*q+p*Q) (Q*q)) (redQ (P*q+p*Q) (Q*q)) with
      | true =>
        rw [hb2, if_pos rfl] at hs
        obtain ⟨P2, eP⟩ : ∃ P2, redP (P*q+p*Q) (Q*q) = P2 := ⟨_, rfl⟩
        obtain ⟨Q2, eQ⟩ : ∃ Q2, redQ (P*q+p*Q) (Q*q) = Q2 := ⟨_, rfl⟩
        have AD : ∀ w, Calls Try.prog 69 #[fr P Q, fr p q] w fun e w' => e = .returned (fr P2 Q2) ∧ Gr w w' := fun w => eP ▸ eQ ▸ plus_yes P Q p q w HOK.out hx.out hb2
        rw [eP, eQ] at hs hb2
        have AD := hid AD; have HB2 := hid hb2; have HS2 := hid hs
        clear eP eQ hb2 hs hpq
        obtain ⟨_, _⟩ := cells2 Y2.out
        have _ := fz Y2.out
        have _ := ltb Y2.out
        obtain ⟨_, _⟩ := cells2 Y3.out
        have _ := fz Y3.out
        have _ := ltb Y3.out
        go_wp2_with fail
        refine (AD.out _).mono ?_
        rintro e w6 ⟨rfl, hg6⟩
        obtain ⟨x6_0, hz6, g6⟩ := alloc1 hg6
        have x6_1 := g6.keep Y2.out
        have x6_2 := g6.keep Y3.out
        obtain ⟨_, _⟩ := cells2 x6_1
        have _ := fz x6_1
        have _ := ltb x6_1
        obtain ⟨_, _⟩ := cells2 x6_2
        have _ := fz x6_2
        have _ := ltb x6_2
        obtain ⟨_, _⟩ := cells2 x6_0
        have _ := fz x6_0
        have _ := ltb x6_0
        have X6_1 := hid x6_1; clear x6_1
        have X6_2 := hid x6_2; clear x6_2
        have X6_0 := hid x6_0; clear x6_0
        have G6 := hid (GW.out.trans g6)
        clear hg6 g6
        go_wp2_with fail
        exact ⟨⟨k + 1, P2, Q2, by simp, by omega, (G6.out.setCell (by simp; omega) _).setCell (by simp; omega) _, set2_old X6_1.out (by omega), set2_new X6_2.out, HB2.out, HS2.out⟩, by simp [intOf]; omega⟩
      | false =>
        rw [hb2, if_neg (by decide)] at hs
        cases hs
    · have hke : xs.drop k = [] := List.drop_eq_nil_of_le (by omega)
      rw [hke] at hs
      have hs' : (P, Q) = (A, B) := Option.some.inj hs
      have e1 : P = A := congrArg Prod.fst hs'
      have e2 : Q = B := congrArg Prod.snd hs'
      subst e1 e2
      clear hs hs' hke
      obtain ⟨_, _⟩ := cells2 Y2.out
      have _ := fz Y2.out
      have _ := ltb Y2.out
      obtain ⟨_, _⟩ := cells2 Y3.out
      have _ := fz Y3.out
      have _ := ltb Y3.out
      go_wp2
      refine bodyPost_ret (v := fr P Q) (by simp [results, Try.results135, go_sem, *]) rfl ⟨rfl, ?_⟩
      exact ((GW.out).setCell (by simp <;> omega) _).setCell (by simp <;> omega) _
set_option maxRecDepth 20000 in
set_option maxHeartbeats 1000000 in
/-- impl.sumOf, not told -/
theorem isumT_bad (Ad : Option Addr) (cc : Nat) (xs : List (Int × Int)) (w : World) (X : Hid (RdF w Ad xs)) (hn : xs.length ≤ 1048576) (hall : xs.all (fun x => okB x.1 x.2) = true) (hsm : sm xs 0 1 = none) :
    Calls Try.prog 135 #[.slice Ad xs.length cc] w fun e w' => (∃ x y, e = .panicked [{ v := .iface 138 (fr x y), recovered := false }]) ∧ Gr w w' := by
  have HR := hid hsm; clear hsm
  have HALL := hid hall; clear hall
  go_enter Try.func135, Try.ntmps135
  go_wp2_with fail
  refine (fit_ok 0 1 _ gt01 (by decide)).mono ?_
  rintro e w1 ⟨rfl, hg1⟩
  obtain ⟨x1_0, hz1, g1⟩ := alloc1 hg1
  obtain ⟨_, _⟩ := cells2 x1_0
  have _ := fz x1_0
  have _ := ltb x1_0
  have X1_0 := hid x1_0; clear x1_0
  have G1 := hid (g1)
  clear hg1 g1
  go_wp2_with fail
  go_loopw [9] (fun u wr => ∃ (k : Nat) (P Q : Int), u = .int .i64 (k : Int) ∧ k ≤ xs.length ∧ Gr w wr ∧ wr.heap[w.heap.size]? = some (.cells #[.int .i64 0, .int .i64 0] 24) ∧ wr.heap[w1.heap.size]? = some (.cells #[.int .i64 P, .int .i64 Q] 24) ∧ okB P Q = true ∧ sm (xs.drop k) P Q = none) (fun u _ => xs.length - (intOf u).toNat)
  case atStart => exact ⟨0, 0, 1, rfl, by omega, (G1.out).al _, ((Gr.refl _).al _).keep X1_0.out, (alloc1 (Gr.refl _)).1, ok01, HR.out⟩
  case round =>
    obtain ⟨k, P, Q, rfl, hk, g0, y2, y3, hok, hs⟩ := hrel
    have GW := hid g0; have Y2 := hid y2; have Y3 := hid y3; have HOK := hid hok
    clear g0 y2 y3 hok
    by_cases hlt : k < xs.length
    · obtain ⟨⟨p, q⟩, hpq⟩ : ∃ pq, xs[k]? = some pq := ⟨xs[k], List.getElem?_eq_getElem _⟩
      obtain ⟨ad, rfl, c1, c2⟩ := (X.out.keep GW.out) k p q hpq
      have hx := hid (all_get hpq HALL.out)
      rw [sm_step hpq] at hs
      cases hb2 : okB (redP (P*q+p*Q) (Q*q)) (redQ (P*q+p*Q) (Q*q)) with
      | true =>
        rw [hb2, if_pos rfl] at hs
        obtain ⟨P2, eP⟩ : ∃ P2, redP (P*q+p*Q) (Q*q) = P2 := ⟨_, rfl⟩
        obtain ⟨Q2, eQ⟩ : ∃ Q2, redQ (P*q+p*Q) (Q*q) = Q2 := ⟨_, rfl⟩
        have AD : ∀ w, Calls Try.prog 69 #[fr P Q, fr p q] w fun e w' => e = .returned (fr P2 Q2) ∧ Gr w w' := fun w => eP ▸ eQ ▸ plus_yes P Q p q w HOK.out hx.out hb2
        rw [eP, eQ] at hs hb2
        have AD := hid AD; have HB2 := hid hb2; have HS2 := hid hs
        clear eP eQ hb2 hs hpq
        obtain ⟨_, _⟩ := cells2 Y2.out
        have _ := fz Y2.out
        have _ := ltb Y2.out
        obtain ⟨_, _⟩ := cells2 Y3.out
        have _ := fz Y3.out
        have _ := ltb Y3.out
        go_wp2_with fail
        refine (AD.out _).mono ?_
        rintro e w6 ⟨rfl, hg6⟩
        obtain ⟨x6_0, hz6, g6⟩ := alloc1 hg6
        have x6_1 := g6.keep Y2.out
        have x6_2 := g6.keep Y3.out
        obtain ⟨_, _⟩ := cells2 x6_1
        have _ := fz x6_1
        have _ := ltb x6_1
        obtain ⟨_, _⟩ := cells2 x6_2
        have _ := fz x6_2
        have _ := ltb x6_2
        obtain ⟨_, _⟩ := cells2 x6_0
        have _ := fz x6_0
        have _ := ltb x6_0
        have X6_1 := hid x6_1; clear x6_1
        have X6_2 := hid x6_2; clear x6_2
        have X6_0 := hid x6_0; clear x6_0
        have G6 := hid (GW.out.trans g6)
        clear hg6 g6
        go_wp2_with fail
        exact ⟨⟨k + 1, P2, Q2, by simp, by omega, (G6.out.setCell (by simp; omega) _).setCell (by simp; omega) _, set2_old X6_1.out (by omega), set2_new X6_2.out, HB2.out, HS2.out⟩, by simp [intOf]; omega⟩
      | false =>
        have HB := hid hb2; clear hb2 hs hpq
        obtain ⟨_, _⟩ := cells2 Y2.out
        have _ := fz Y2.out
        have _ := ltb Y2.out
        obtain ⟨_, _⟩ := cells2 Y3.out
        have _ := fz Y3.out
        have _ := ltb Y3.out
        go_wp2_with fail
        refine (plus_no _ _ _ _ _ HOK.out hx.out HB.out).mono ?_
        rintro e w6 ⟨⟨xp, yp, rfl⟩, hg6⟩
        obtain ⟨x6_0, hz6, g6⟩ := alloc1 hg6
        have x6_1 := g6.keep Y2.out
        have x6_2 := g6.keep Y3.out
        obtain ⟨_, _⟩ := cells2 x6_1
        have _ := fz x6_1
        have _ := ltb x6_1
        obtain ⟨_, _⟩ := cells2 x6_2
        have _ := fz x6_2
        have _ := ltb x6_2
        obtain ⟨_, _⟩ := cells2 x6_0
        have _ := fz x6_0
        have _ := ltb x6_0
        have X6_1 := hid x6_1; clear x6_1
        have X6_2 := hid x6_2; clear x6_2
        have X6_0 := hid x6_0; clear x6_0
        have G6 := hid (GW.out.trans g6)
        clear hg6 g6
        exact ⟨rfl, ⟨xp, yp, rfl⟩, G6.out⟩
    · have hke : xs.drop k = [] := List.drop_eq_nil_of_le (by omega)
      rw [hke] at hs
      cases hs
def dfP (xs : List (Int × Int)) (i k : Nat) : Int × Int := (sbP (xs.getD i (0, 0)).1 (xs.getD i (0, 0)).2 (xs.getD k (0, 0)).1 (xs.getD k (0, 0)).2, sbQ (xs.getD i (0, 0)).1 (xs.getD i (0, 0)).2 (xs.getD k (0, 0)).1 (xs.getD k (0, 0)).2)
/-- the comparisons of element i with the j elements behind it; and those of the first i elements with all behind them -/
def prRow (xs : List (Int × Int)) (i j : Nat) : List Obv := (List.range j).map fun m => pairO i (i + 1 + m) (dfP xs i (i + 1 + m)).1 (dfP xs i (i + 1 + m)).2
def prTab (xs : List (Int × Int)) (i : Nat) : List Obv := (List.range i).flatMap fun m => prRow xs m (xs.length - 1 - m)
def AllPr (xs : List (Int × Int)) : Prop := ∀ (i k : Nat) (r s p q : Int), i < k → xs[i]? = some (r, s) → xs[k]? = some (p, q) → sbB r s p q = true
theorem prRow_len (xs : List (Int × Int)) (i j : Nat) : (prRow xs i j).length = j := by simp [prRow]
theorem prRow_succ {xs : List (Int × Int)} {i j : Nat} {r s p q : Int} (h : xs[i]? = some (r, s)) (h2 : xs[i + 1 + j]? = some (p, q)) : prRow xs i (j + 1) = prRow xs i j ++ [pairO i (i + 1 + j) (sbP r s p q) (sbQ r s p q)] := by
  unfold prRow
  rw [List.range_succ, List.map_append]
  simp [dfP, List.getD_eq_getElem?_getD, h, h2]
theorem prTab_succ (xs : List (Int × Int)) (i : Nat) : prTab xs (i + 1) = prTab xs i ++ prRow xs i (xs.length - 1 - i) := by
  unfold prTab
  rw [List.range_succ, List.flatMap_append]
  simp
theorem prTab_len (xs : List (Int × Int)) : ∀ i, (prTab xs i).length ≤ i * xs.length
  | 0 => by simp [prTab]
  | i + 1 => by
    rw [prTab_succ, List.length_append, prRow_len, Nat.succ_mul]
    have := prTab_len xs i
    omega
theorem prTab_bd {xs : List (Int × Int)} {i j : Nat} (hi : i ≤ xs.length) (hn : xs.length ≤ 6) (hj : j ≤ 6) : (prTab xs i ++ prRow xs i j).length ≤ 42 := by
  rw [List.length_append, prRow_len]
  have h1 := prTab_len xs i
  have h2 : i * xs.length ≤ 6 * 6 := Nat.mul_le_mul (by omega) hn
  omega
end Go.Proofs.Ytjhlpaeenjbljaa
