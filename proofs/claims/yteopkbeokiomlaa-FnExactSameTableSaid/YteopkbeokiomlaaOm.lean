/- SameTable, of the program and of the reference. -/
import Derived.Test.YteopkbeokiomlaaOi
import Derived.Deep.QuietTactic
namespace Go.Proofs.Yteopkbeokiomlaa
open Go.RowKit Go.Sort

def a6B (x y : Obv) : Bool := x.c0 == y.c0 && (x.c1 == y.c1 && (x.c2 == y.c2 && (x.c3 == y.c3 && (x.c4 == y.c4 && (x.c5 == y.c5)))))
def obE (x y : Obv) : Bool := a6B x y && ((x.p == y.p && x.q == y.q) && x.t == y.t)
theorem obE_iff (x y : Obv) : obE x y = true ↔ x = y := by
  obtain ⟨a0, a1, a2, a3, a4, a5, a6, a7, a8⟩ := x
  obtain ⟨b0, b1, b2, b3, b4, b5, b6, b7, b8⟩ := y
  simp only [obE, a6B, Bool.and_eq_true, beq_iff_eq, Obv.mk.injEq]
  constructor
  · rintro ⟨⟨rfl, rfl, rfl, rfl, rfl, rfl⟩, ⟨rfl, rfl⟩, rfl⟩
    exact ⟨rfl, rfl, rfl, rfl, rfl, rfl, rfl, rfl, rfl⟩
  · rintro ⟨rfl, rfl, rfl, rfl, rfl, rfl, rfl, rfl, rfl⟩
    exact ⟨⟨rfl, rfl, rfl, rfl, rfl, rfl⟩, ⟨rfl, rfl⟩, rfl⟩
theorem eqI64 (d : Nat) (a b : Int) (w : World) : (Op.equalIn (d + 1) 2 (.int .i64 a) (.int .i64 b)).run Try.prog w = .ok (a == b) w := by
  simp [Op.equalIn, go_sem]
set_option maxRecDepth 20000 in
theorem eqFrD (d : Nat) (a b a' b' : Int) (w : World) : (Op.equalIn (d + 1 + 1) 26 (fr a b) (fr a' b')).run Try.prog w = .ok (a == a' && b == b') w := by
  have hp : Try.prog.stoodInHeld 26 = false := by kernel_rfl
  have h := run_equalIn_struct (P := Try.prog) w (d + 1) 26 #[.int .i64 a, .int .i64 b] #[.int .i64 a', .int .i64 b'] (by kernel_rfl) hp
  rw [h]
  cases e1 : (a == a') with
  | false => simp [Op.eqFields, Program.fieldsOf, eqI64, go_sem, e1]
  | true =>
    cases e2 : (b == b') with
    | false => simp [Op.eqFields, Program.fieldsOf, eqI64, go_sem, e1, e2]
    | true => simp [Op.eqFields, Program.fieldsOf, eqI64, go_sem, e1, e2]
set_option maxRecDepth 20000 in
theorem eqObD (x y : Obv) (w : World) : (Op.equalIn 10000 149 (vO x) (vO y)).run Try.prog w = .ok (obE x y) w := by
  have hp : Try.prog.stoodInHeld 149 = false := by kernel_rfl
  have h := run_equalIn_struct (P := Try.prog) w 9999 149 #[.int .i8 x.c0, .int .i8 x.c1, .int .i8 x.c2, .int .i8 x.c3, .int .i8 x.c4, .int .i8 x.c5, .int .i64 x.p, .int .i64 x.q, .int .i64 x.t] #[.int .i8 y.c0, .int .i8 y.c1, .int .i8 y.c2, .int .i8 y.c3, .int .i8 y.c4, .int .i8 y.c5, .int .i64 y.p, .int .i64 y.q, .int .i64 y.t] (by kernel_rfl) hp
  have pa : ∀ (z : Obv) (w : World), (part 147 #[.int .i8 z.c0, .int .i8 z.c1, .int .i8 z.c2, .int .i8 z.c3, .int .i8 z.c4, .int .i8 z.c5, .int .i64 z.p, .int .i64 z.q, .int .i64 z.t] 0).run Try.prog w = .ok (.agg #[.int .i8 z.c0, .int .i8 z.c1, .int .i8 z.c2, .int .i8 z.c3, .int .i8 z.c4, .int .i8 z.c5]) w := fun z w => by kernel_rfl
  have pf : ∀ (z : Obv) (w : World), (part 26 #[.int .i8 z.c0, .int .i8 z.c1, .int .i8 z.c2, .int .i8 z.c3, .int .i8 z.c4, .int .i8 z.c5, .int .i64 z.p, .int .i64 z.q, .int .i64 z.t] 6).run Try.prog w = .ok (fr z.p z.q) w := fun z w => by kernel_rfl
  have pt : ∀ (z : Obv) (w : World), (part 2 #[.int .i8 z.c0, .int .i8 z.c1, .int .i8 z.c2, .int .i8 z.c3, .int .i8 z.c4, .int .i8 z.c5, .int .i64 z.p, .int .i64 z.q, .int .i64 z.t] 8).run Try.prog w = .ok (.int .i64 z.t) w := fun z w => by kernel_rfl
  have ea : ∀ w : World, (Op.equalIn 9999 147 (.agg #[.int .i8 x.c0, .int .i8 x.c1, .int .i8 x.c2, .int .i8 x.c3, .int .i8 x.c4, .int .i8 x.c5]) (.agg #[.int .i8 y.c0, .int .i8 y.c1, .int .i8 y.c2, .int .i8 y.c3, .int .i8 y.c4, .int .i8 y.c5])).run Try.prog w = .ok (a6B x y) w := fun w => eqA6 9997 x.c0 x.c1 x.c2 x.c3 x.c4 x.c5 y.c0 y.c1 y.c2 y.c3 y.c4 y.c5 w
  have ef : ∀ w : World, (Op.equalIn 9999 26 (fr x.p x.q) (fr y.p y.q)).run Try.prog w = .ok (x.p == y.p && x.q == y.q) w := fun w => eqFrD 9997 x.p x.q y.p y.q w
  have et : ∀ w : World, (Op.equalIn 9999 2 (.int .i64 x.t) (.int .i64 y.t)).run Try.prog w = .ok (x.t == y.t) w := fun w => eqI64 9998 x.t y.t w
  have hf : Try.prog.fieldsOf 149 = #[⟨"Coef", 147, 0, false, "", "", 0⟩, ⟨"Diff", 26, 6, false, "", "", 8⟩, ⟨"Weight", 2, 8, false, "", "", 24⟩] := by kernel_rfl
  rw [show (10000 : Nat) = 9999 + 1 from rfl, h, hf]
  unfold obE
  cases k1 : a6B x y with
  | false => simp [Op.eqFields, pa, ea, k1]
  | true =>
    cases k2 : (x.p == y.p && x.q == y.q) with
    | false => simp [Op.eqFields, pa, ea, pf, ef, k1, k2]
    | true =>
      cases k3 : (x.t == y.t) with
      | false => simp [Op.eqFields, pa, ea, pf, ef, pt, et, k1, k2, k3]
      | true => simp [Op.eqFields, pa, ea, pf, ef, pt, et, k1, k2, k3]
theorem neqOb (x y : Obv) (r : Bool) (hr : obE x y = r) (w : World) : (binOp .neq 149 (vO x) (vO y)).run Try.prog w = .ok (.bool (!r)) w := by
  have h : (binOp .neq 149 (vO x) (vO y)).run Try.prog w = ((Op.equalIn 10000 149 (vO x) (vO y)).run Try.prog w).andThen fun b w' => .ok (.bool (!b)) w' := by
    simp [go_sem]
  rw [h, eqObD, Result.andThen_ok, hr]
end Go.Proofs.Yteopkbeokiomlaa
namespace Go.Proofs.Yteopkbeokiomlaa
open Go.RowKit Go.Sort

def eqLO : List Obv → List Obv → Bool
  | [], [] => true
  | x :: r, y :: s => obE x y && eqLO r s
  | _, _ => false
theorem eqLO_iff : ∀ xs ys : List Obv, eqLO xs ys = true ↔ xs = ys
  | [], [] => by simp [eqLO]
  | [], y :: s => by simp [eqLO]
  | x :: r, [] => by simp [eqLO]
  | x :: r, y :: s => by simp [eqLO, obE_iff, eqLO_iff r s]
theorem eqLO_ne {xs ys : List Obv} (h : xs ≠ ys) : eqLO xs ys = false := by
  cases e : eqLO xs ys with
  | false => rfl
  | true => exact absurd ((eqLO_iff xs ys).1 e) h
theorem takeO2_step {xs ys : List Obv} {k : Nat} {p : Obv} (h : xs.take k = ys.take k) (hx : xs[k]? = some p) (hy : ys[k]? = some p) : xs.take (k + 1) = ys.take (k + 1) := by
  rw [List.take_add_one, List.take_add_one, h, hx, hy]
set_option maxRecDepth 20000 in
set_option maxHeartbeats 1000000 in
theorem iEqualO (A A' : Option Addr) (c c' : Nat) (xs ys : List Obv) (w : World) (X1 : Hid (RdO w A xs)) (X2 : Hid (RdO w A' ys)) (hn : xs.length ≤ 1048576) (_hm : ys.length ≤ 1048576) :
    Calls Try.prog 137 #[.slice A xs.length c, .slice A' ys.length c'] w fun e w' => e = .returned (.bool (eqLO xs ys)) ∧ Gr w w' := by
  by_cases hl : xs.length = ys.length
  · have HL := hid hl
    obtain ⟨n, hnn⟩ : ∃ n, xs.length = n := ⟨_, rfl⟩
    rw [← hl, hnn]
    rw [hnn] at hn
    have HN := hid hnn; clear hl hnn _hm
    go_enter Try.func137, Try.ntmps137
    go_wp2_with fail
    go_loopw [13] (fun u wr => ∃ (k : Nat), u = .int .i64 (k : Int) ∧ k ≤ n ∧ xs.take k = ys.take k ∧ Gr w wr) (fun u _ => n - (intOf u).toNat)
    case atStart => exact ⟨0, rfl, by omega, by simp, Gr.refl _⟩
    case round =>
      obtain ⟨k, rfl, hk, ht, hg⟩ := hrel
      have HG := hid hg; have HT := hid ht
      clear ht
      by_cases hlt : k < n
      · obtain ⟨x, hp⟩ : ∃ p, xs[k]? = some p := ⟨xs[k]'(by rw [HN.out]; exact hlt), List.getElem?_eq_getElem _⟩
        obtain ⟨y, hq⟩ : ∃ q, ys[k]? = some q := ⟨ys[k]'(by rw [← HL.out, HN.out]; exact hlt), List.getElem?_eq_getElem _⟩
        obtain ⟨ad, rfl, c1⟩ := (X1.out.keep hg) k x hp
        obtain ⟨ad', rfl, c2⟩ := (X2.out.keep hg) k y hq
        obtain ⟨_, _, _, _, _, _, _, _, _⟩ := c1
        obtain ⟨_, _, _, _, _, _, _, _, _⟩ := c2
        have HP := hid hp; have HQ := hid hq
        clear hp hq hg
        cases he : obE x y with
        | true =>
          have hne := neqOb x y true he
          have HE := hid ((obE_iff x y).1 he)
          clear he
          go_wp2_with fail
          go_quiet (fail)
          go_wp2_with fail
          exact ⟨⟨k + 1, by simp, by omega, takeO2_step HT.out HP.out (by rw [HE.out]; exact HQ.out), HG.out.trans (Gr.drewN _ _)⟩, by simp [intOf]; omega⟩
        | false =>
          have hne := neqOb x y false he
          have HE : Hid (x ≠ y) := hid fun h => by rw [(obE_iff x y).2 h] at he; cases he
          clear he
          go_wp2_with fail
          go_quiet (fail)
          go_wp2_with fail
          go_ret
          refine ⟨ret_bool ?_, HG.out.trans (Gr.drewN _ _)⟩
          exact (eqLO_ne fun h => HE.out (by have h1 := HP.out; rw [h, HQ.out] at h1; exact (Option.some.inj h1).symm)).symm
      · have hke : k = n := by omega
        subst hke
        clear hg
        go_wp2_with fail
        go_ret
        refine ⟨ret_bool ?_, HG.out⟩
        have h := HT.out
        rw [List.take_of_length_le (by rw [HN.out]; exact Nat.le_refl _), List.take_of_length_le (by rw [← HL.out, HN.out]; exact Nat.le_refl _)] at h
        exact ((eqLO_iff xs ys).2 h).symm
  · have hv : eqLO xs ys = false := eqLO_ne fun h => hl (by rw [h])
    rw [hv]
    clear hv
    go_enter Try.func137, Try.ntmps137
    go_wp2_with fail
    go_ret
    exact ⟨rfl, Gr.refl _⟩
def sameTbB (n n' : Int) (b b' : Bool) (p q p' q' : Int) (xs ys : List Obv) : Bool := (n == n') && (eqLO xs ys && ((b == b') && ((p == p') && (q == q'))))
set_option maxRecDepth 20000 in
set_option maxHeartbeats 2000000 in
theorem iSameTb (n n' : Int) (A A' : Option Addr) (c c' : Nat) (b b' : Bool) (p q p' q' : Int) (xs ys : List Obv) (w : World) (X1 : Hid (RdO w A xs)) (X2 : Hid (RdO w A' ys)) (hn : xs.length ≤ 1048576) (hm : ys.length ≤ 1048576) :
    Calls Try.prog 63 #[tbl n A xs.length c b p q, tbl n' A' ys.length c' b' p' q'] w fun x w' => x = .returned (.bool (sameTbB n n' b b' p q p' q' xs ys)) ∧ Gr w w' := by
  unfold sameTbB
  have HE := hid fun w' (hg : Gr w w') => iEqualO A A' c c' xs ys w' (hid (X1.out.keep hg)) (hid (X2.out.keep hg)) hn hm
  cases h1 : (n == n') with
  | false =>
    simp only [Bool.false_and]
    go_enter Try.func63, Try.ntmps63
    go_wp2
    go_ret
    exact ⟨rfl, (((Gr.refl _)).al _).al _⟩
  | true =>
    generalize eqLO xs ys = r at *
    cases r with
    | false =>
      go_enter Try.func63, Try.ntmps63
      go_wp2_with fail
      refine (HE.out _ (((Gr.refl w).al _).al _)).mono ?_
      rintro e w1 ⟨rfl, hg1⟩
      obtain ⟨x1_0, x1_1, hz1, g1⟩ := alloc2 hg1
      obtain ⟨_, _, _, _, _⟩ := cells5 x1_0
      have _ := fz x1_0
      have _ := ltb x1_0
      obtain ⟨_, _, _, _, _⟩ := cells5 x1_1
      have _ := fz x1_1
      have _ := ltb x1_1
      have X1_0 := hid x1_0; clear x1_0
      have X1_1 := hid x1_1; clear x1_1
      have G1 := hid (g1)
      clear hg1 g1
      go_wp2
      go_ret
      exact ⟨ret_bool (by simp), G1.out⟩
    | true =>
      cases b <;> cases b' <;> cases h2 : (p == p') <;> cases h3 : (q == q')
      all_goals
        go_enter Try.func63, Try.ntmps63
        go_wp2_with fail
        refine (HE.out _ (((Gr.refl w).al _).al _)).mono ?_
        rintro e w1 ⟨rfl, hg1⟩
        obtain ⟨x1_0, x1_1, hz1, g1⟩ := alloc2 hg1
        obtain ⟨_, _, _, _, _⟩ := cells5 x1_0
        have _ := fz x1_0
        have _ := ltb x1_0
        obtain ⟨_, _, _, _, _⟩ := cells5 x1_1
        have _ := fz x1_1
        have _ := ltb x1_1
        have X1_0 := hid x1_0; clear x1_0
        have X1_1 := hid x1_1; clear x1_1
        have G1 := hid (g1)
        clear hg1 g1
        go_wp2
        go_ret
        exact ⟨ret_bool (by simp), G1.out⟩
set_option maxRecDepth 20000 in
set_option maxHeartbeats 4000000 in
theorem sSameTb (n n' : Int) (A A' : Option Addr) (c c' : Nat) (b b' : Bool) (p q p' q' : Int) (xs ys : List Obv) (w : World) (X1 : Hid (RdO w A xs)) (X2 : Hid (RdO w A' ys)) (hn : xs.length ≤ 1048576) (_hm : ys.length ≤ 1048576) :
    Calls Try.prog 62 #[tbl n A xs.length c b p q, tbl n' A' ys.length c' b' p' q'] w fun x w' => x = .returned (.bool (sameTbB n n' b b' p q p' q' xs ys)) ∧ Gr w w' := by
  by_cases hall : ((n == n') && ((b == b') && ((p == p') && (q == q')))) = true
  · simp only [Bool.and_eq_true] at hall
    obtain ⟨h1, h2, h3, h4⟩ := hall
    have e : sameTbB n n' b b' p q p' q' xs ys = eqLO xs ys := by unfold sameTbB; rw [h1, h2, h3, h4]; simp
    rw [e]
    have e1 : n = n' := by simpa using h1
    have e2 : b = b' := by simpa using h2
    have e3 : p = p' := by simpa using h3
    have e4 : q = q' := by simpa using h4
    subst e1 e2 e3 e4
    clear h1 h2 h3 h4 e
    by_cases hl : xs.length = ys.length
    · have HL := hid hl
      obtain ⟨m, hnn⟩ : ∃ n, xs.length = n := ⟨_, rfl⟩
      rw [← hl, hnn]
      rw [hnn] at hn
      have HN := hid hnn; clear hl hnn _hm
      cases b
      all_goals
        go_enter Try.func62, Try.ntmps62
        go_wp2_with fail
        go_loopw [5] (fun u wr => ∃ (k : Nat), u = .int .i64 (k : Int) ∧ k ≤ m ∧ xs.take k = ys.take k ∧ Gr w wr ∧ (∃ T, wr.heap[w.heap.size]? = some (.cells #[.int .i64 n, .slice A m c, .bool _, .int .i64 p, .int .i64 q] T)) ∧ ∃ T, wr.heap[w.heap.size + 1]? = some (.cells #[.int .i64 n, .slice A' m c', .bool _, .int .i64 p, .int .i64 q] T)) (fun u _ => m - (intOf u).toNat)
        case atStart => exact ⟨0, rfl, by omega, by simp, ((Gr.refl _).al _).al _, ⟨_, (alloc2 (Gr.refl _)).1⟩, ⟨_, (alloc2 (Gr.refl _)).2.1⟩⟩
        case round =>
          obtain ⟨k, rfl, hk, ht, hg, ⟨T1, y1⟩, T2, y2⟩ := hrel
          have HG := hid hg; have HT := hid ht; have Y1 := hid y1; have Y2 := hid y2
          obtain ⟨_, _, _, _, _⟩ := cells5 y1
          obtain ⟨_, _, _, _, _⟩ := cells5 y2
          clear ht y1 y2
          by_cases hlt : k < m
          · obtain ⟨x, hp⟩ : ∃ p, xs[k]? = some p := ⟨xs[k]'(by rw [HN.out]; exact hlt), List.getElem?_eq_getElem _⟩
            obtain ⟨y, hq⟩ : ∃ q, ys[k]? = some q := ⟨ys[k]'(by rw [← HL.out, HN.out]; exact hlt), List.getElem?_eq_getElem _⟩
            obtain ⟨ad, rfl, c1⟩ := (X1.out.keep hg) k x hp
            obtain ⟨ad', rfl, c2⟩ := (X2.out.keep hg) k y hq
            obtain ⟨_, _, _, _, _, _, _, _, _⟩ := c1
            obtain ⟨_, _, _, _, _, _, _, _, _⟩ := c2
            have HP := hid hp; have HQ := hid hq
            clear hp hq hg
            cases he : obE x y with
            | true =>
              have hne := neqOb x y true he
              have HE := hid ((obE_iff x y).1 he)
              clear he
              go_wp2_with fail
              go_quiet (fail)
              go_wp2_with fail
              exact ⟨⟨k + 1, by simp, by omega, takeO2_step HT.out HP.out (by rw [HE.out]; exact HQ.out), HG.out.trans (Gr.drewN _ _), ⟨_, (Gr.drewN _ _).keep Y1.out⟩, ⟨_, (Gr.drewN _ _).keep Y2.out⟩⟩, by simp [intOf]; omega⟩
            | false =>
              have hne := neqOb x y false he
              have HE : Hid (x ≠ y) := hid fun h => by rw [(obE_iff x y).2 h] at he; cases he
              clear he
              go_wp2_with fail
              go_quiet (fail)
              go_wp2_with fail
              go_ret
              refine ⟨ret_bool ?_, HG.out.trans (Gr.drewN _ _)⟩
              exact (eqLO_ne fun h => HE.out (by have h1 := HP.out; rw [h, HQ.out] at h1; exact (Option.some.inj h1).symm)).symm
          · have hke : k = m := by omega
            subst hke
            clear hg
            go_wp2_with fail
            go_ret
            refine ⟨ret_bool ?_, HG.out⟩
            have h := HT.out
            rw [List.take_of_length_le (by rw [HN.out]; exact Nat.le_refl _), List.take_of_length_le (by rw [← HL.out, HN.out]; exact Nat.le_refl _)] at h
            exact ((eqLO_iff xs ys).2 h).symm
    · have hv : eqLO xs ys = false := eqLO_ne fun h => hl (by rw [h])
      rw [hv]
      clear hv
      cases b
      all_goals
        go_enter Try.func62, Try.ntmps62
        go_wp2_with fail
        go_ret
        exact ⟨rfl, ((Gr.refl _).al _).al _⟩
  · have e : sameTbB n n' b b' p q p' q' xs ys = false := by
      unfold sameTbB
      cases h1 : (n == n') <;> cases h2 : (b == b') <;> cases h3 : (p == p') <;> cases h4 : (q == q') <;> simp [h1, h2, h3, h4] at hall ⊢
    rw [e]
    clear e
    cases h1 : (n == n') with
    | false =>
      have h1' : (n != n') = true := by simpa using h1
      clear hall
      go_enter Try.func62, Try.ntmps62
      go_wp2_with fail
      go_ret
      exact ⟨rfl, ((Gr.refl _).al _).al _⟩
    | true =>
      have h1' : (n != n') = false := by simpa using h1
      cases b <;> cases b' <;> cases h3 : (p == p') <;> cases h4 : (q == q') <;> simp [h1, h3, h4] at hall
      all_goals
        go_enter Try.func62, Try.ntmps62
        go_wp2_with fail
        go_ret
        exact ⟨rfl, ((Gr.refl _).al _).al _⟩
theorem bothSameTable (n n' : Int) (b b' : Bool) (p q p' q' : Int) (xs ys : List Obv) (hn : xs.length ≤ 1048576) (hm : ys.length ≤ 1048576) : ∃ R : Bool,
    (∀ (A A' : Option Addr) (c c' : Nat) (w : World), Hid (RdO w A xs) → Hid (RdO w A' ys) → Calls Try.prog 62 #[tbl n A xs.length c b p q, tbl n' A' ys.length c' b' p' q'] w fun x w' => x = .returned (.bool R) ∧ Gr w w') ∧
    (∀ (A A' : Option Addr) (c c' : Nat) (w : World), Hid (RdO w A xs) → Hid (RdO w A' ys) → Calls Try.prog 63 #[tbl n A xs.length c b p q, tbl n' A' ys.length c' b' p' q'] w fun x w' => x = .returned (.bool R) ∧ Gr w w') :=
  ⟨sameTbB n n' b b' p q p' q' xs ys, fun A A' c c' w X1 X2 => sSameTb n n' A A' c c' b b' p q p' q' xs ys w X1 X2 hn hm, fun A A' c c' w X1 X2 => iSameTb n n' A A' c c' b b' p q p' q' xs ys w X1 X2 hn hm⟩
end Go.Proofs.Yteopkbeokiomlaa
