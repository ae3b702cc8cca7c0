/- WALKS: lists of fractions: counted, compared, checked and summed; the reference. -/
import Derived.Test.YtpadjkgbeijkpaaFs
import Derived.Test.YtpadjkgbeijkpaaH
import Derived.Test.YtpadjkgbeijkpaaN
import Derived.Test.YtpadjkgbeijkpaaB0
namespace Go.Proofs.Ytpadjkgbeijkpaa
open Go.RowKit Go.Sort

set_option maxHeartbeats 400000 in
theorem sz_yes (A : Option Addr) (n cap : Nat) (w : World) (h : n ≤ 1048576) :
    Calls Try.prog 9 #[.slice A n cap, .int .i64 1048576] w fun e w' => e = .returned (.int .i64 (1048576 - (n : Int))) ∧ Gr w w' := by
  go_enter Try.func9, Try.ntmps9
  go_wp2
  go_ret
  exact ⟨rfl, Gr.refl _⟩
set_option maxHeartbeats 400000 in
theorem sz_no (A : Option Addr) (n cap : Nat) (w : World) (h : 1048576 < n) (h2 : n ≤ 9223372036854775807) :
    Calls Try.prog 9 #[.slice A n cap, .int .i64 1048576] w fun e w' => e = .returned (.int .i64 (-1)) ∧ Gr w w' := by
  go_enter Try.func9, Try.ntmps9
  go_wp2
  go_ret
  exact ⟨rfl, Gr.refl _⟩
abbrev sl (g n : Nat) : Value := .slice (some ⟨g, 0, none⟩) n n
set_option maxRecDepth 20000 in
set_option maxHeartbeats 1000000 in
theorem eqFracS_any (g g' : Nat) (xs : List (Int × Int)) (w : World) (T T' : TypeId) (X1 : Hid (w.heap[g]? = some (.cells (flatA xs) T))) (X2 : Hid (w.heap[g']? = some (.cells (flatA xs) T'))) (hn : xs.length ≤ 1048576) :
    Calls Try.prog 15 #[sl g xs.length, sl g' xs.length] w fun e w' => e = .returned (.bool true) ∧ Gr w w' := by
  go_enter Try.func15, Try.ntmps15
  go_wp2_with fail
  go_loopw [5] (fun u wr => ∃ (k : Nat), u = .int .i64 (k : Int) ∧ k ≤ xs.length ∧ Gr w wr) (fun u _ => xs.length - (intOf u).toNat)
  case atStart => exact ⟨0, rfl, by omega, Gr.refl _⟩
  case round =>
    obtain ⟨k, rfl, hk, g0⟩ := hrel
    have Y1 := hid (g0.keep X1.out); have Y2 := hid (g0.keep X2.out)
    have GW := hid g0; clear g0
    by_cases hlt : k < xs.length
    · obtain ⟨⟨p, q⟩, hpq⟩ : ∃ pq, xs[k]? = some pq := ⟨xs[k], List.getElem?_eq_getElem _⟩
      have HP := hid hpq; clear hpq
      go_wp2_with fail
      refine wp_reg0 9 (by kernel_rfl) (by kernel_rfl) ?_
      apply Exists.intro
      refine ⟨fun wb hb => ?_, ?_⟩
      · obtain ⟨_, _⟩ := flat_at hb Y1.out HP.out
        obtain ⟨_, _⟩ := flat_at hb Y2.out HP.out
        simp only [headOps, List.contains, List.elem, reduceIte, Bool.false_eq_true]
        repeat (first | go_big_quiet_step (first | (go_at_call 51; exact Calls.of_gr (eqFrac_any _ _ _))) | quiet_step (fail))
        exact wpQuiet_nil rfl
      intro w1 hg1
      have G1 := hid (GW.out.trans hg1)
      clear hg1
      go_wp2_with fail
      exact ⟨⟨k + 1, by simp, by omega, G1.out⟩, by simp [intOf]; omega⟩
    · go_wp2_with fail
      go_ret
      exact ⟨rfl, GW.out⟩

/-- The code of a list that must have at least so many. -/
def lstC (xs : List (Int × Int)) (least : Int) : Int := if xs.all (fun x => okB x.1 x.2) then (if 64 < (xs.length : Int) ∨ (xs.length : Int) < least then 2 else 0) else 1
theorem all_take {xs : List (Int × Int)} {k : Nat} {x : Int × Int} (h : xs[k]? = some x) (ha : (xs.take k).all (fun x => okB x.1 x.2) = true) (hx : okB x.1 x.2 = true) : (xs.take (k + 1)).all (fun x => okB x.1 x.2) = true := by
  rw [List.take_add_one, h]
  simp only [Option.toList_some, List.all_append, ha, List.all_cons, List.all_nil, hx, Bool.and_true]
theorem all_not {xs : List (Int × Int)} {k : Nat} {x : Int × Int} (h : xs[k]? = some x) (hx : okB x.1 x.2 = false) : xs.all (fun x => okB x.1 x.2) = false := by
  cases ha : xs.all (fun x => okB x.1 x.2) with
  | false => rfl
  | true =>
    have := List.all_eq_true.1 ha x (List.mem_of_getElem? h)
    rw [hx] at this; cases this
theorem sadd_t (a b c d : Int) (w : World) (h1 : okB a b = true) (h2 : okB c d = true) (hk : okB (redP (a*d+c*b) (b*d)) (redQ (a*d+c*b) (b*d)) = true) :
    Calls Try.prog 77 #[fr a b, fr c d] w fun e w' => e = .returned (.tuple #[fr (redP (a*d+c*b) (b*d)) (redQ (a*d+c*b) (b*d)), .int .i64 0]) ∧ Gr w w' := by
  obtain ⟨b1, b2, b3, b4⟩ := okB_bd h1
  obtain ⟨d1, d2, d3, d4⟩ := okB_bd h2
  have h := sl01Add a b c d w b1 b2 b3 b4 d1 d2 d3 d4
  unfold rP rQ rC at h
  rw [hk] at h
  simpa using h
theorem sadd_f (a b c d : Int) (w : World) (h1 : okB a b = true) (h2 : okB c d = true) (hk : okB (redP (a*d+c*b) (b*d)) (redQ (a*d+c*b) (b*d)) = false) :
    Calls Try.prog 77 #[fr a b, fr c d] w fun e w' => e = .returned (.tuple #[fr 0 0, .int .i64 3]) ∧ Gr w w' := by
  obtain ⟨b1, b2, b3, b4⟩ := okB_bd h1
  obtain ⟨d1, d2, d3, d4⟩ := okB_bd h2
  have h := sl01Add a b c d w b1 b2 b3 b4 d1 d2 d3 d4
  unfold rP rQ rC at h
  rw [hk] at h
  simpa using h
/-- The sum of P / Q and a list, as far as it can be told. -/
def sm : List (Int × Int) → Int → Int → Option (Int × Int)
  | [], P, Q => some (P, Q)
  | (p, q) :: r, P, Q => if okB (redP (P*q+p*Q) (Q*q)) (redQ (P*q+p*Q) (Q*q)) then sm r (redP (P*q+p*Q) (Q*q)) (redQ (P*q+p*Q) (Q*q)) else none
theorem sm_step {xs : List (Int × Int)} {k : Nat} {p q P Q : Int} (h : xs[k]? = some (p, q)) :
    sm (xs.drop k) P Q = if okB (redP (P*q+p*Q) (Q*q)) (redQ (P*q+p*Q) (Q*q)) then sm (xs.drop (k + 1)) (redP (P*q+p*Q) (Q*q)) (redQ (P*q+p*Q) (Q*q)) else none := by
  have hk : k < xs.length := (List.getElem?_eq_some_iff.1 h).1
  have e : xs[k] = (p, q) := (List.getElem?_eq_some_iff.1 h).2
  rw [List.drop_eq_getElem_cons hk, e]
  rfl
theorem all_get {xs : List (Int × Int)} {k : Nat} {p q : Int} (h : xs[k]? = some (p, q)) (ha : xs.all (fun x => okB x.1 x.2) = true) : okB p q = true :=
  List.all_eq_true.1 ha (p, q) (List.mem_of_getElem? h)
def smV : Option (Int × Int) → Value
  | some (P, Q) => .tuple #[fr P Q, .int .i64 0]
  | none => .tuple #[fr 0 0, .int .i64 3]
theorem ok01 : okB 0 1 = true := by decide
set_option maxRecDepth 20000 in
set_option maxHeartbeats 1000000 in
/-- spec.l01Sum -/
theorem ssum (g : Nat) (xs : List (Int × Int)) (w : World) (T : TypeId) (X1 : Hid (w.heap[g]? = some (.cells (flatA xs) T))) (hn : xs.length ≤ 1048576) (hall : xs.all (fun x => okB x.1 x.2) = true) :
    Calls Try.prog 43 #[sl g xs.length] w fun e w' => e = .returned (smV (sm xs 0 1)) ∧ Gr w w' := by
  obtain ⟨r, hr⟩ : ∃ r, sm xs 0 1 = r := ⟨_, rfl⟩
  rw [hr]
  have HR := hid hr; clear hr
  have HALL := hid hall; clear hall
  go_enter Try.func43, Try.ntmps43
  go_wp2_with fail
  refine (swhole1 _ _).mono ?_
  rintro e w1 ⟨rfl, hg1⟩
  obtain ⟨x1_0, hz1, g1⟩ := alloc1 hg1
  obtain ⟨_, _⟩ := cells2 x1_0
  have _ := fz x1_0
  have _ := ltb x1_0
  have X1_0 := hid x1_0; clear x1_0
  have G1 := hid (g1)
  clear hg1 g1
  have XG := hid ((G1.out).keep X1.out)
  go_wp2_with fail
  go_loopw [5] (fun u wr => ∃ (k : Nat) (P Q : Int), u = .int .i64 (k : Int) ∧ k ≤ xs.length ∧ Gr w wr ∧ wr.heap[g]? = some (.cells (flatA xs) T) ∧ wr.heap[w.heap.size]? = some (.cells #[.int .i64 0, .int .i64 0] 33) ∧ wr.heap[w1.heap.size]? = some (.cells #[.int .i64 P, .int .i64 Q] 33) ∧ okB P Q = true ∧ sm (xs.drop k) P Q = r) (fun u _ => xs.length - (intOf u).toNat)
  case atStart => exact ⟨0, 0, 1, rfl, by omega, (G1.out).al _, ((Gr.refl _).al _).keep XG.out, ((Gr.refl _).al _).keep X1_0.out, (alloc1 (Gr.refl _)).1, ok01, HR.out⟩
  case round =>
    obtain ⟨k, P, Q, rfl, hk, g0, y1, y2, y3, hok, hs⟩ := hrel
    have hgl : g < w.heap.size := ltb X1.out
    have GW := hid g0; have Y1 := hid y1; have Y2 := hid y2; have Y3 := hid y3; have HOK := hid hok
    clear g0 y1 y2 y3 hok
    by_cases hlt : k < xs.length
    · obtain ⟨⟨p, q⟩, hpq⟩ : ∃ pq, xs[k]? = some pq := ⟨xs[k], List.getElem?_eq_getElem _⟩
      have hx := hid (all_get hpq HALL.out)
      have HP := hid hpq
      rw [sm_step hpq] at hs
      cases hb2 : okB (redP (P*q+p*Q) (Q*q)) (redQ (P*q+p*Q) (Q*q)) with
      | true =>
        rw [hb2, if_pos rfl] at hs
        have HB := hid hb2; have HS := hid hs
        clear hb2 hs hpq
        obtain ⟨P2, eP⟩ : ∃ P2, redP (P*q+p*Q) (Q*q) = P2 := ⟨_, rfl⟩
        obtain ⟨Q2, eQ⟩ : ∃ Q2, redQ (P*q+p*Q) (Q*q) = Q2 := ⟨_, rfl⟩
        have AD : ∀ w, Calls Try.prog 77 #[fr P Q, fr p q] w fun e w' => e = .returned (.tuple #[fr P2 Q2, .int .i64 0]) ∧ Gr w w' := fun w => eP ▸ eQ ▸ sadd_t P Q p q w HOK.out hx.out HB.out
        have HB2 : okB P2 Q2 = true := eP ▸ eQ ▸ HB.out
        have HS2 : sm (xs.drop (k + 1)) P2 Q2 = r := eP ▸ eQ ▸ HS.out
        have AD := hid AD; have HB2 := hid HB2; have HS2 := hid HS2
        clear eP eQ HB HS
        obtain ⟨_, _⟩ := cells2 Y2.out
        have _ := fz Y2.out
        have _ := ltb Y2.out
        obtain ⟨_, _⟩ := cells2 Y3.out
        have _ := fz Y3.out
        have _ := ltb Y3.out
        have _ := ltb Y1.out
        go_wp2_with fail
        refine wp_reg1s #[.int .i64 0, .int .i64 0] 11 9 6 10 22 (by kernel_rfl) (by kernel_rfl) rfl rfl (by simp) rfl rfl (by decide) (fun _ _ => by kernel_rfl) (by kernel_rfl) ?_
        apply Exists.intro; apply Exists.intro
        refine ⟨fun wb hb => ?_, ?_⟩
        · obtain ⟨_, _⟩ := hb.at2 Y2.out
          obtain ⟨_, _⟩ := hb.at2 Y3.out
          obtain ⟨_, _⟩ := flat_at hb Y1.out HP.out
          simp only [headOps, List.contains, List.elem, Nat.reduceAdd, Nat.reduceBEq, reduceIte, Bool.false_eq_true, dumOp]
          repeat (first | go_big_quiet_step (first | (go_at_call 77; exact Calls.of_gr (AD.out _))) | quiet_step (fail))
          exact wpQuiet_nil rfl
        refine ⟨rfl, ⟨rfl, by simp [Value.oneCell']⟩, fun w6 b6 hg6 _ xb6 => ?_⟩
        have x6_1 := hg6.keep Y2.out
        have x6_2 := hg6.keep Y3.out
        have x6_3 := hg6.keep Y1.out
        obtain ⟨_, _⟩ := cells2 x6_1
        have _ := fz x6_1
        have _ := ltb x6_1
        obtain ⟨_, _⟩ := cells2 x6_2
        have _ := fz x6_2
        have _ := ltb x6_2
        have _ := ltb x6_3
        obtain ⟨_, _⟩ := cells2 xb6
        have _ := fz xb6
        have _ := ltb xb6
        have X6_1 := hid x6_1; clear x6_1
        have X6_2 := hid x6_2; clear x6_2
        have X6_3 := hid x6_3; clear x6_3
        have Xb6 := hid xb6; clear xb6
        have G6 := hid (GW.out.trans hg6)
        clear hg6
        go_wp2_with fail
        exact ⟨⟨k + 1, P2, Q2, by simp, by omega, (G6.out.setCell (by simp; omega) _).setCell (by simp; omega) _, set2_old X6_3.out (by omega), set2_old X6_1.out (by omega), set2_new X6_2.out, HB2.out, HS2.out⟩, by simp [intOf]; omega⟩
      | false =>
        rw [hb2, if_neg (by decide)] at hs
        have HS := hid hs
        have AD : ∀ w, Calls Try.prog 77 #[fr P Q, fr p q] w fun e w' => e = .returned (.tuple #[fr 0 0, .int .i64 3]) ∧ Gr w w' := fun w => sadd_f P Q p q w HOK.out hx.out hb2
        have AD := hid AD
        clear hb2 hs hpq
        obtain ⟨_, _⟩ := cells2 Y2.out
        have _ := fz Y2.out
        have _ := ltb Y2.out
        obtain ⟨_, _⟩ := cells2 Y3.out
        have _ := fz Y3.out
        have _ := ltb Y3.out
        have _ := ltb Y1.out
        go_wp2_with fail
        refine wp_reg1s #[.int .i64 0, .int .i64 0] 11 9 6 10 22 (by kernel_rfl) (by kernel_rfl) rfl rfl (by simp) rfl rfl (by decide) (fun _ _ => by kernel_rfl) (by kernel_rfl) ?_
        apply Exists.intro; apply Exists.intro
        refine ⟨fun wb hb => ?_, ?_⟩
        · obtain ⟨_, _⟩ := hb.at2 Y2.out
          obtain ⟨_, _⟩ := hb.at2 Y3.out
          obtain ⟨_, _⟩ := flat_at hb Y1.out HP.out
          simp only [headOps, List.contains, List.elem, Nat.reduceAdd, Nat.reduceBEq, reduceIte, Bool.false_eq_true, dumOp]
          repeat (first | go_big_quiet_step (first | (go_at_call 77; exact Calls.of_gr (AD.out _))) | quiet_step (fail))
          exact wpQuiet_nil rfl
        refine ⟨rfl, ⟨rfl, by simp [Value.oneCell']⟩, fun w6 b6 hg6 _ xb6 => ?_⟩
        have x6_1 := hg6.keep Y2.out
        have x6_2 := hg6.keep Y3.out
        have x6_3 := hg6.keep Y1.out
        obtain ⟨_, _⟩ := cells2 x6_1
        have _ := fz x6_1
        have _ := ltb x6_1
        obtain ⟨_, _⟩ := cells2 x6_2
        have _ := fz x6_2
        have _ := ltb x6_2
        have _ := ltb x6_3
        obtain ⟨_, _⟩ := cells2 xb6
        have _ := fz xb6
        have _ := ltb xb6
        have X6_1 := hid x6_1; clear x6_1
        have X6_2 := hid x6_2; clear x6_2
        have X6_3 := hid x6_3; clear x6_3
        have Xb6 := hid xb6; clear xb6
        have G6 := hid (GW.out.trans hg6)
        clear hg6
        go_wp2
        refine bodyPost_ret (v := .tuple #[fr 0 0, .int .i64 3]) (by simp [results, Try.results43, go_sem, *]) rfl ⟨(by rw [← HS.out]; rfl), ?_⟩
        exact ((G6.out).setCell (by simp <;> omega) _).setCell (by simp <;> omega) _
    · have hke : xs.drop k = [] := List.drop_eq_nil_of_le (by omega)
      rw [hke] at hs
      have HS := hid hs; clear hs hke
      obtain ⟨_, _⟩ := cells2 Y2.out
      have _ := fz Y2.out
      have _ := ltb Y2.out
      obtain ⟨_, _⟩ := cells2 Y3.out
      have _ := fz Y3.out
      have _ := ltb Y3.out
      have _ := ltb Y1.out
      go_wp2
      refine bodyPost_ret (v := .tuple #[fr P Q, .int .i64 0]) (by simp [results, Try.results43, go_sem, *]) rfl ⟨(by rw [← HS.out]; rfl), ?_⟩
      exact ((GW.out).setCell (by simp <;> omega) _).setCell (by simp <;> omega) _
end Go.Proofs.Ytpadjkgbeijkpaa
namespace Go.Proofs.Ytpadjkgbeijkpaa
open Go.RowKit Go.Sort

theorem gt01 : gtB 0 1000000000 = false := by decide
set_option maxRecDepth 20000 in
set_option maxHeartbeats 1000000 in
/-- impl.sumOf, told -/
theorem isum_ok (g : Nat) (xs : List (Int × Int)) (A B : Int) (w : World) (T : TypeId) (X1 : Hid (w.heap[g]? = some (.cells (flatA xs) T))) (hn : xs.length ≤ 1048576) (hall : xs.all (fun x => okB x.1 x.2) = true) (hsm : sm xs 0 1 = some (A, B)) :
    Calls Try.prog 88 #[sl g xs.length] w fun e w' => e = .returned (fr A B) ∧ Gr w w' := by
  have HR := hid hsm; clear hsm
  have HALL := hid hall; clear hall
  go_enter Try.func88, Try.ntmps88
  go_wp2_with fail
  refine (fit_ok 0 1 _ gt01 (by decide)).mono ?_
  rintro e w1 ⟨rfl, hg1⟩
  obtain ⟨x1_0, hz1, g1⟩ := alloc1 hg1
  obtain ⟨_, _⟩ := cells2 x1_0
  have _ := fz x1_0
  have _ := ltb x1_0
  have X1_0 := hid x1_0; clear x1_0
  have G1 := hid (g1)
  clear hg1 g1
  have XG := hid ((G1.out).keep X1.out)
  go_wp2_with fail
  go_loopw [9] (fun u wr => ∃ (k : Nat) (P Q : Int), u = .int .i64 (k : Int) ∧ k ≤ xs.length ∧ Gr w wr ∧ wr.heap[g]? = some (.cells (flatA xs) T) ∧ wr.heap[w.heap.size]? = some (.cells #[.int .i64 0, .int .i64 0] 33) ∧ wr.heap[w1.heap.size]? = some (.cells #[.int .i64 P, .int .i64 Q] 33) ∧ okB P Q = true ∧ sm (xs.drop k) P Q = some (A, B)) (fun u _ => xs.length - (intOf u).toNat)
  case atStart => exact ⟨0, 0, 1, rfl, by omega, (G1.out).al _, ((Gr.refl _).al _).keep XG.out, ((Gr.refl _).al _).keep X1_0.out, (alloc1 (Gr.refl _)).1, ok01, HR.out⟩
  case round =>
    obtain ⟨k, P, Q, rfl, hk, g0, y1, y2, y3, hok, hs⟩ := hrel
    have hgl : g < w.heap.size := ltb X1.out
    have GW := hid g0; have Y1 := hid y1; have Y2 := hid y2; have Y3 := hid y3; have HOK := hid hok
    clear g0 y1 y2 y3 hok
    by_cases hlt : k < xs.length
    · obtain ⟨⟨p, q⟩, hpq⟩ : ∃ pq, xs[k]? = some pq := ⟨xs[k], List.getElem?_eq_getElem _⟩
      obtain ⟨_, _⟩ := flat_cells Y1.out hpq
      have hx := hid (all_get hpq HALL.out)
      rw [sm_step hpq] at hs
      cases hb2 : okB (redP (P*q+p*Q) (Q*q)) (redQ (P*q+p*Q) (Q*q)) with
      | true =>
        rw [hb2, if_pos rfl] at hs
        obtain ⟨P2, eP⟩ : ∃ P2, redP (P*q+p*Q) (Q*q) = P2 := ⟨_, rfl⟩
        obtain ⟨Q2, eQ⟩ : ∃ Q2, redQ (P*q+p*Q) (Q*q) = Q2 := ⟨_, rfl⟩
        have AD : ∀ w, Calls Try.prog 141 #[fr P Q, fr p q] w fun e w' => e = .returned (fr P2 Q2) ∧ Gr w w' := fun w => eP ▸ eQ ▸ plus_yes P Q p q w HOK.out hx.out hb2
        rw [eP, eQ] at hs hb2
        have AD := hid AD; have HB2 := hid hb2; have HS2 := hid hs
        clear eP eQ hb2 hs hpq
        obtain ⟨_, _⟩ := cells2 Y2.out
        have _ := fz Y2.out
        have _ := ltb Y2.out
        obtain ⟨_, _⟩ := cells2 Y3.out
        have _ := fz Y3.out
        have _ := ltb Y3.out
        have _ := ltb Y1.out
        go_wp2_with fail
        refine (AD.out _).mono ?_
        rintro e w6 ⟨rfl, hg6⟩
        obtain ⟨x6_0, hz6, g6⟩ := alloc1 hg6
        have x6_1 := g6.keep Y2.out
        have x6_2 := g6.keep Y3.out
        have x6_3 := g6.keep Y1.out
        obtain ⟨_, _⟩ := cells2 x6_1
        have _ := fz x6_1
        have _ := ltb x6_1
        obtain ⟨_, _⟩ := cells2 x6_2
        have _ := fz x6_2
        have _ := ltb x6_2
        have _ := ltb x6_3
        obtain ⟨_, _⟩ := cells2 x6_0
        have _ := fz x6_0
        have _ := ltb x6_0
        have X6_1 := hid x6_1; clear x6_1
        have X6_2 := hid x6_2; clear x6_2
        have X6_3 := hid x6_3; clear x6_3
        have X6_0 := hid x6_0; clear x6_0
        have G6 := hid (GW.out.trans g6)
        clear hg6 g6
        go_wp2_with fail
        exact ⟨⟨k + 1, P2, Q2, by simp, by omega, (G6.out.setCell (by simp; omega) _).setCell (by simp; omega) _, set2_old X6_3.out (by omega), set2_old X6_1.out (by omega), set2_new X6_2.out, HB2.out, HS2.out⟩, by simp [intOf]; omega⟩
      | false =>
        rw [hb2, if_neg (by decide)] at hs
        cases hs
    · have hke : xs.drop k = [] := List.drop_eq_nil_of_le (by omega)
      rw [hke] at hs
      have hs' : (P, Q) = (A, B) := Option.some.inj hs
      have e1 : P = A := congrArg Prod.fst hs'
      have e2 : Q = B := congrArg Prod.snd hs'
      subst e1 e2
      clear hs hs' hke
      obtain ⟨_, _⟩ := cells2 Y2.out
      have _ := fz Y2.out
      have _ := ltb Y2.out
      obtain ⟨_, _⟩ := cells2 Y3.out
      have _ := fz Y3.out
      have _ := ltb Y3.out
      have _ := ltb Y1.out
      go_wp2
      refine bodyPost_ret (v := fr P Q) (by simp [results, Try.results88, go_sem, *]) rfl ⟨rfl, ?_⟩
      exact ((GW.out).setCell (by simp <;> omega) _).setCell (by simp <;> omega) _
set_option maxRecDepth 20000 in
set_option maxHeartbeats 1000000 in
/-- impl.sumOf, not told -/
theorem isum_bad (g : Nat) (xs : List (Int × Int)) (w : World) (T : TypeId) (X1 : Hid (w.heap[g]? = some (.cells (flatA xs) T))) (hn : xs.length ≤ 1048576) (hall : xs.all (fun x => okB x.1 x.2) = true) (hsm : sm xs 0 1 = none) :
    Calls Try.prog 88 #[sl g xs.length] w fun e w' => (∃ x y, e = .panicked [{ v := .iface 183 (fr x y), recovered := false }]) ∧ Gr w w' := by
  have HR := hid hsm; clear hsm
  have HALL := hid hall; clear hall
  go_enter Try.func88, Try.ntmps88
  go_wp2_with fail
  refine (fit_ok 0 1 _ gt01 (by decide)).mono ?_
  rintro e w1 ⟨rfl, hg1⟩
  obtain ⟨x1_0, hz1, g1⟩ := alloc1 hg1
  obtain ⟨_, _⟩ := cells2 x1_0
  have _ := fz x1_0
  have _ := ltb x1_0
  have X1_0 := hid x1_0; clear x1_0
  have G1 := hid (g1)
  clear hg1 g1
  have XG := hid ((G1.out).keep X1.out)
  go_wp2_with fail
  go_loopw [9] (fun u wr => ∃ (k : Nat) (P Q : Int), u = .int .i64 (k : Int) ∧ k ≤ xs.length ∧ Gr w wr ∧ wr.heap[g]? = some (.cells (flatA xs) T) ∧ wr.heap[w.heap.size]? = some (.cells #[.int .i64 0, .int .i64 0] 33) ∧ wr.heap[w1.heap.size]? = some (.cells #[.int .i64 P, .int .i64 Q] 33) ∧ okB P Q = true ∧ sm (xs.drop k) P Q = none) (fun u _ => xs.length - (intOf u).toNat)
  case atStart => exact ⟨0, 0, 1, rfl, by omega, (G1.out).al _, ((Gr.refl _).al _).keep XG.out, ((Gr.refl _).al _).keep X1_0.out, (alloc1 (Gr.refl _)).1, ok01, HR.out⟩
  case round =>
    obtain ⟨k, P, Q, rfl, hk, g0, y1, y2, y3, hok, hs⟩ := hrel
    have hgl : g < w.heap.size := ltb X1.out
    have GW := hid g0; have Y1 := hid y1; have Y2 := hid y2; have Y3 := hid y3; have HOK := hid hok
    clear g0 y1 y2 y3 hok
    by_cases hlt : k < xs.length
    · obtain ⟨⟨p, q⟩, hpq⟩ : ∃ pq, xs[k]? = some pq := ⟨xs[k], List.getElem?_eq_getElem _⟩
      obtain ⟨_, _⟩ := flat_cells Y1.out hpq
      have hx := hid (all_get hpq HALL.out)
      rw [sm_step hpq] at hs
      cases hb2 : okB (redP (P*q+p*Q) (Q*q)) (redQ (P*q+p*Q) (Q*q)) with
      | true =>
        rw [hb2, if_pos rfl] at hs
        obtain ⟨P2, eP⟩ : ∃ P2, redP (P*q+p*Q) (Q*q) = P2 := ⟨_, rfl⟩
        obtain ⟨Q2, eQ⟩ : ∃ Q2, redQ (P*q+p*Q) (Q*q) = Q2 := ⟨_, rfl⟩
        have AD : ∀ w, Calls Try.prog 141 #[fr P Q, fr p q] w fun e w' => e = .returned (fr P2 Q2) ∧ Gr w w' := fun w => eP ▸ eQ ▸ plus_yes P Q p q w HOK.out hx.out hb2
        rw [eP, eQ] at hs hb2
        have AD := hid AD; have HB2 := hid hb2; have HS2 := hid hs
        clear eP eQ hb2 hs hpq
        obtain ⟨_, _⟩ := cells2 Y2.out
        have _ := fz Y2.out
        have _ := ltb Y2.out
        obtain ⟨_, _⟩ := cells2 Y3.out
        have _ := fz Y3.out
        have _ := ltb Y3.out
        have _ := ltb Y1.out
        go_wp2_with fail
        refine (AD.out _).mono ?_
        rintro e w6 ⟨rfl, hg6⟩
        obtain ⟨x6_0, hz6, g6⟩ := alloc1 hg6
        have x6_1 := g6.keep Y2.out
        have x6_2 := g6.keep Y3.out
        have x6_3 := g6.keep Y1.out
        obtain ⟨_, _⟩ := cells2 x6_1
        have _ := fz x6_1
        have _ := ltb x6_1
        obtain ⟨_, _⟩ := cells2 x6_2
        have _ := fz x6_2
        have _ := ltb x6_2
        have _ := ltb x6_3
        obtain ⟨_, _⟩ := cells2 x6_0
        have _ := fz x6_0
        have _ := ltb x6_0
        have X6_1 := hid x6_1; clear x6_1
        have X6_2 := hid x6_2; clear x6_2
        have X6_3 := hid x6_3; clear x6_3
        have X6_0 := hid x6_0; clear x6_0
        have G6 := hid (GW.out.trans g6)
        clear hg6 g6
        go_wp2_with fail
        exact ⟨⟨k + 1, P2, Q2, by simp, by omega, (G6.out.setCell (by simp; omega) _).setCell (by simp; omega) _, set2_old X6_3.out (by omega), set2_old X6_1.out (by omega), set2_new X6_2.out, HB2.out, HS2.out⟩, by simp [intOf]; omega⟩
      | false =>
        have HB := hid hb2; clear hb2 hs hpq
        obtain ⟨_, _⟩ := cells2 Y2.out
        have _ := fz Y2.out
        have _ := ltb Y2.out
        obtain ⟨_, _⟩ := cells2 Y3.out
        have _ := fz Y3.out
        have _ := ltb Y3.out
        have _ := ltb Y1.out
        go_wp2_with fail
        refine (plus_no _ _ _ _ _ HOK.out hx.out HB.out).mono ?_
        rintro e w6 ⟨⟨xp, yp, rfl⟩, hg6⟩
        obtain ⟨x6_0, hz6, g6⟩ := alloc1 hg6
        have x6_1 := g6.keep Y2.out
        have x6_2 := g6.keep Y3.out
        have x6_3 := g6.keep Y1.out
        obtain ⟨_, _⟩ := cells2 x6_1
        have _ := fz x6_1
        have _ := ltb x6_1
        obtain ⟨_, _⟩ := cells2 x6_2
        have _ := fz x6_2
        have _ := ltb x6_2
        have _ := ltb x6_3
        obtain ⟨_, _⟩ := cells2 x6_0
        have _ := fz x6_0
        have _ := ltb x6_0
        have X6_1 := hid x6_1; clear x6_1
        have X6_2 := hid x6_2; clear x6_2
        have X6_3 := hid x6_3; clear x6_3
        have X6_0 := hid x6_0; clear x6_0
        have G6 := hid (GW.out.trans g6)
        clear hg6 g6
        exact ⟨rfl, ⟨xp, yp, rfl⟩, G6.out⟩
    · have hke : xs.drop k = [] := List.drop_eq_nil_of_le (by omega)
      rw [hke] at hs
      cases hs

/-! what is told of a list -/
theorem lst_all {xs : List (Int × Int)} {l : Int} (h : lstC xs l = 0) : xs.all (fun x => okB x.1 x.2) = true := by
  cases ha : xs.all (fun x => okB x.1 x.2) with
  | true => rfl
  | false => unfold lstC at h; rw [ha] at h; simp at h
theorem smV_form (r : Option (Int × Int)) : ∃ P Q C : Int, smV r = .tuple #[fr P Q, .int .i64 C] := by
  cases r with
  | none => exact ⟨0, 0, 3, rfl⟩
  | some r => exact ⟨r.1, r.2, 0, rfl⟩
end Go.Proofs.Ytpadjkgbeijkpaa
