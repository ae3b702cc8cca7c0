/- SameBench, of the program and of the reference. -/
import Derived.Test.YtflfjedimcbfeaaBf
import Derived.Test.YtflfjedimcbfeaaSkn
import Derived.Laws.StructEq
import Derived.Deep.QuietTactic
namespace Go.Proofs.Ytflfjedimcbfeaa
open Go.RowKit Go.Sort

def tgE (x y : Tgv) : Bool := (x.nm == y.nm) && ((x.p == y.p && x.q == y.q) && (x.a == y.a && x.b == y.b))
theorem tgE_iff (x y : Tgv) : tgE x y = true ↔ x = y := by
  obtain ⟨a0, a1, a2, a3, a4⟩ := x
  obtain ⟨b0, b1, b2, b3, b4⟩ := y
  simp only [tgE, Bool.and_eq_true, strEqK, beq_iff_eq, Tgv.mk.injEq]
  constructor
  · rintro ⟨rfl, ⟨rfl, rfl⟩, rfl, rfl⟩
    exact ⟨rfl, rfl, rfl, rfl, rfl⟩
  · rintro ⟨rfl, rfl, rfl, rfl, rfl⟩
    exact ⟨rfl, ⟨rfl, rfl⟩, rfl, rfl⟩
theorem tI64 (d : Nat) (a b : Int) (w : World) : (Op.equalIn (d + 1) 2 (.int .i64 a) (.int .i64 b)).run Try.prog w = .ok (a == b) w := by
  simp [Op.equalIn, go_sem]
theorem tStr (d : Nat) (a b : ByteArray) (w : World) : (Op.equalIn (d + 1) 9 (.string a) (.string b)).run Try.prog w = .ok (a == b) w := by
  simp [Op.equalIn, go_sem]
set_option maxRecDepth 20000 in
theorem tFrD (d : Nat) (a b a' b' : Int) (w : World) : (Op.equalIn (d + 1 + 1) 34 (fr a b) (fr a' b')).run Try.prog w = .ok (a == a' && b == b') w := by
  have hp : Try.prog.stoodInHeld 34 = false := by kernel_rfl
  have h := run_equalIn_struct (P := Try.prog) w (d + 1) 34 #[.int .i64 a, .int .i64 b] #[.int .i64 a', .int .i64 b'] (by kernel_rfl) hp
  rw [h]
  cases e1 : (a == a') with
  | false => simp [Op.eqFields, Program.fieldsOf, tI64, go_sem, e1]
  | true =>
    cases e2 : (b == b') with
    | false => simp [Op.eqFields, Program.fieldsOf, tI64, go_sem, e1, e2]
    | true => simp [Op.eqFields, Program.fieldsOf, tI64, go_sem, e1, e2]
set_option maxRecDepth 20000 in
theorem eqTgD (x y : Tgv) (w : World) : (Op.equalIn 10000 80 (vTg x) (vTg y)).run Try.prog w = .ok (tgE x y) w := by
  have hp : Try.prog.stoodInHeld 80 = false := by kernel_rfl
  have h := run_equalIn_struct (P := Try.prog) w 9999 80 #[.string x.nm, .int .i64 x.p, .int .i64 x.q, .int .i64 x.a, .int .i64 x.b] #[.string y.nm, .int .i64 y.p, .int .i64 y.q, .int .i64 y.a, .int .i64 y.b] (by kernel_rfl) hp
  have pn : ∀ (z : Tgv) (w : World), (part 9 #[.string z.nm, .int .i64 z.p, .int .i64 z.q, .int .i64 z.a, .int .i64 z.b] 0).run Try.prog w = .ok (.string z.nm) w := fun z w => by kernel_rfl
  have en : ∀ w : World, (Op.equalIn 9999 9 (.string x.nm) (.string y.nm)).run Try.prog w = .ok (x.nm == y.nm) w := fun w => tStr 9998 x.nm y.nm w
  have pd : ∀ (z : Tgv) (w : World), (part 34 #[.string z.nm, .int .i64 z.p, .int .i64 z.q, .int .i64 z.a, .int .i64 z.b] 1).run Try.prog w = .ok (fr z.p z.q) w := fun z w => by kernel_rfl
  have ed : ∀ w : World, (Op.equalIn 9999 34 (fr x.p x.q) (fr y.p y.q)).run Try.prog w = .ok (x.p == y.p && x.q == y.q) w := fun w => tFrD 9997 x.p x.q y.p y.q w
  have pg : ∀ (z : Tgv) (w : World), (part 34 #[.string z.nm, .int .i64 z.p, .int .i64 z.q, .int .i64 z.a, .int .i64 z.b] 3).run Try.prog w = .ok (fr z.a z.b) w := fun z w => by kernel_rfl
  have eg : ∀ w : World, (Op.equalIn 9999 34 (fr x.a x.b) (fr y.a y.b)).run Try.prog w = .ok (x.a == y.a && x.b == y.b) w := fun w => tFrD 9997 x.a x.b y.a y.b w
  have hf : Try.prog.fieldsOf 80 = #[⟨"Name", 9, 0, false, "", "", 0⟩, ⟨"Length", 34, 1, false, "", "", 16⟩, ⟨"Grows", 34, 3, false, "", "", 32⟩] := by kernel_rfl
  rw [show (10000 : Nat) = 9999 + 1 from rfl, h, hf]
  unfold tgE
  cases k0 : (x.nm == y.nm) with
  | false => simp [Op.eqFields, pn, en, k0]
  | true =>
    cases k1 : (x.p == y.p && x.q == y.q) with
    | false => simp [Op.eqFields, pn, en, pd, ed, k0, k1]
    | true =>
      cases k2 : (x.a == y.a && x.b == y.b) with
      | false => simp [Op.eqFields, pn, en, pd, ed, pg, eg, k0, k1, k2]
      | true => simp [Op.eqFields, pn, en, pd, ed, pg, eg, k0, k1, k2]
theorem neqTg (x y : Tgv) (r : Bool) (hr : tgE x y = r) (w : World) : (binOp .neq 80 (vTg x) (vTg y)).run Try.prog w = .ok (.bool (!r)) w := by
  have h : (binOp .neq 80 (vTg x) (vTg y)).run Try.prog w = ((Op.equalIn 10000 80 (vTg x) (vTg y)).run Try.prog w).andThen fun b w' => .ok (.bool (!b)) w' := by
    simp [go_sem]
  rw [h, eqTgD, Result.andThen_ok, hr]
def eqLTg : List Tgv → List Tgv → Bool
  | [], [] => true
  | x :: r, y :: s => tgE x y && eqLTg r s
  | _, _ => false
theorem eqLTg_iff : ∀ xs ys : List Tgv, eqLTg xs ys = true ↔ xs = ys
  | [], [] => by simp [eqLTg]
  | [], y :: s => by simp [eqLTg]
  | x :: r, [] => by simp [eqLTg]
  | x :: r, y :: s => by simp [eqLTg, tgE_iff, eqLTg_iff r s]
theorem eqLTg_ne {xs ys : List Tgv} (h : xs ≠ ys) : eqLTg xs ys = false := by
  cases e : eqLTg xs ys with
  | false => rfl
  | true => exact absurd ((eqLTg_iff xs ys).1 e) h
theorem takeTg2_step {xs ys : List Tgv} {k : Nat} {p : Tgv} (h : xs.take k = ys.take k) (hx : xs[k]? = some p) (hy : ys[k]? = some p) : xs.take (k + 1) = ys.take (k + 1) := by
  rw [List.take_add_one, List.take_add_one, h, hx, hy]
set_option maxRecDepth 20000 in
set_option maxHeartbeats 1000000 in
theorem iEqualTg (A A' : Option Addr) (c c' : Nat) (xs ys : List Tgv) (w : World) (X1 : Hid (RdTg w A xs)) (X2 : Hid (RdTg w A' ys)) (hn : xs.length ≤ 1048576) (_hm : ys.length ≤ 1048576) :
    Calls Try.prog 48 #[.slice A xs.length c, .slice A' ys.length c'] w fun e w' => e = .returned (.bool (eqLTg xs ys)) ∧ Gr w w' := by
  by_cases hl : xs.length = ys.length
  · have HL := hid hl
    obtain ⟨n, hnn⟩ : ∃ n, xs.length = n := ⟨_, rfl⟩
    rw [← hl, hnn]
    rw [hnn] at hn
    have HN := hid hnn; clear hl hnn _hm
    go_enter Try.func48, Try.ntmps48
    go_wp2_with fail
    go_loopw [13] (fun u wr => ∃ (k : Nat), u = .int .i64 (k : Int) ∧ k ≤ n ∧ xs.take k = ys.take k ∧ Gr w wr) (fun u _ => n - (intOf u).toNat)
    case atStart => exact ⟨0, rfl, by omega, by simp, Gr.refl _⟩
    case round =>
      obtain ⟨k, rfl, hk, ht, hg⟩ := hrel
      have HG := hid hg; have HT := hid ht
      clear ht
      by_cases hlt : k < n
      · obtain ⟨x, hp⟩ : ∃ p, xs[k]? = some p := ⟨xs[k]'(by rw [HN.out]; exact hlt), List.getElem?_eq_getElem _⟩
        obtain ⟨y, hq⟩ : ∃ q, ys[k]? = some q := ⟨ys[k]'(by rw [← HL.out, HN.out]; exact hlt), List.getElem?_eq_getElem _⟩
        obtain ⟨ad, rfl, c1⟩ := (X1.out.keep hg) k x hp
        obtain ⟨ad', rfl, c2⟩ := (X2.out.keep hg) k y hq
        obtain ⟨_, _, _, _, _⟩ := c1
        obtain ⟨_, _, _, _, _⟩ := c2
        have HP := hid hp; have HQ := hid hq
        clear hp hq hg
        cases he : tgE x y with
        | true =>
          have hne := neqTg x y true he
          have HE := hid ((tgE_iff x y).1 he)
          clear he
          go_wp2_with fail
          go_quiet (fail)
          go_wp2_with fail
          exact ⟨⟨k + 1, by simp, by omega, takeTg2_step HT.out HP.out (by rw [HE.out]; exact HQ.out), HG.out.trans (Gr.drewN _ _)⟩, by simp [intOf]; omega⟩
        | false =>
          have hne := neqTg x y false he
          have HE : Hid (x ≠ y) := hid fun h => by rw [(tgE_iff x y).2 h] at he; cases he
          clear he
          go_wp2_with fail
          go_quiet (fail)
          go_wp2_with fail
          go_ret
          refine ⟨ret_bool ?_, HG.out.trans (Gr.drewN _ _)⟩
          exact (eqLTg_ne fun h => HE.out (by have h1 := HP.out; rw [h, HQ.out] at h1; exact (Option.some.inj h1).symm)).symm
      · have hke : k = n := by omega
        subst hke
        clear hg
        go_wp2_with fail
        go_ret
        refine ⟨ret_bool ?_, HG.out⟩
        have h := HT.out
        rw [List.take_of_length_le (by rw [HN.out]; exact Nat.le_refl _), List.take_of_length_le (by rw [← HL.out, HN.out]; exact Nat.le_refl _)] at h
        exact ((eqLTg_iff xs ys).2 h).symm
  · have hv : eqLTg xs ys = false := eqLTg_ne fun h => hl (by rw [h])
    rw [hv]
    clear hv
    go_enter Try.func48, Try.ntmps48
    go_wp2_with fail
    go_ret
    exact ⟨rfl, Gr.refl _⟩
def sameBnB (a b a' b' : Int) (xs ys : List (Int × Int)) (N N' : Int) (kb kb' : Bool) (u v u' v' : Int) (ts ss : List Tgv) : Bool := sameScB a b a' b' xs ys && (((N == N') && (kb == kb')) && (((u == u') && (v == v')) && eqLTg ts ss))
set_option maxRecDepth 20000 in
set_option maxHeartbeats 2000000 in
theorem iSameBn (a b a' b' : Int) (A A' : Option Addr) (c c' : Nat) (xs ys : List (Int × Int)) (N N' : Int) (kb kb' : Bool) (u v u' v' : Int) (B B' : Option Addr) (d d' : Nat) (ts ss : List Tgv) (w : World) (X1 : Hid (RdF w A xs)) (X2 : Hid (RdF w A' ys)) (T1 : Hid (RdTg w B ts)) (T2 : Hid (RdTg w B' ss)) (hn : xs.length ≤ 1048576) (hm : ys.length ≤ 1048576) (hp : ts.length ≤ 1048576) (hq : ss.length ≤ 1048576) :
    Calls Try.prog 15 #[bnc a b A xs.length c N kb u v B ts.length d, bnc a' b' A' ys.length c' N' kb' u' v' B' ss.length d'] w fun x w' => x = .returned (.bool (sameBnB a b a' b' xs ys N N' kb kb' u v u' v' ts ss)) ∧ Gr w w' := by
  unfold sameBnB
  have HS := hid (iSameSc a b a' b' A A' c c' xs ys)
  have HE := hid fun w' (hg : Gr w w') => iEqualTg B B' d d' ts ss w' (hid (T1.out.keep hg)) (hid (T2.out.keep hg)) hp hq
  generalize sameScB a b a' b' xs ys = s at *
  generalize eqLTg ts ss = r at *
  cases s with
  | false =>
    simp only [Bool.false_and]
    go_enter Try.func15, Try.ntmps15
    go_wp2_with fail
    refine (HS.out _ (hid (X1.out.keep (((Gr.refl w).al _).al _))) (hid (X2.out.keep (((Gr.refl w).al _).al _))) hn hm).mono ?_
    rintro e w1 ⟨rfl, hg1⟩
    obtain ⟨x1_0, x1_1, hz1, g1⟩ := alloc2 hg1
    obtain ⟨_, _, _, _, _, _, _, _⟩ := cells8 x1_0
    have _ := fz x1_0
    have _ := ltb x1_0
    obtain ⟨_, _, _, _, _, _, _, _⟩ := cells8 x1_1
    have _ := fz x1_1
    have _ := ltb x1_1
    have X1_0 := hid x1_0; clear x1_0
    have X1_1 := hid x1_1; clear x1_1
    have G1 := hid (g1)
    clear hg1 g1
    go_wp2
    go_ret
    exact ⟨rfl, G1.out⟩
  | true =>
    by_cases hall : (((N == N') && (kb == kb')) && ((u == u') && (v == v'))) = true
    · have e0 := hall
      simp only [Bool.and_eq_true, beq_iff_eq] at hall
      obtain ⟨⟨rfl, rfl⟩, rfl, rfl⟩ := hall
      cases kb
      all_goals
        cases r
        all_goals
          go_enter Try.func15, Try.ntmps15
          go_wp2_with fail
          refine (HS.out _ (hid (X1.out.keep (((Gr.refl w).al _).al _))) (hid (X2.out.keep (((Gr.refl w).al _).al _))) hn hm).mono ?_
          rintro e w1 ⟨rfl, hg1⟩
          obtain ⟨x1_0, x1_1, hz1, g1⟩ := alloc2 hg1
          obtain ⟨_, _, _, _, _, _, _, _⟩ := cells8 x1_0
          have _ := fz x1_0
          have _ := ltb x1_0
          obtain ⟨_, _, _, _, _, _, _, _⟩ := cells8 x1_1
          have _ := fz x1_1
          have _ := ltb x1_1
          have X1_0 := hid x1_0; clear x1_0
          have X1_1 := hid x1_1; clear x1_1
          have G1 := hid (g1)
          clear hg1 g1
          go_wp2_with fail
          refine (HE.out _ G1.out).mono ?_
          rintro e w2 ⟨rfl, hg2⟩
          have x2_1 := hg2.keep X1_0.out
          have x2_2 := hg2.keep X1_1.out
          obtain ⟨_, _, _, _, _, _, _, _⟩ := cells8 x2_1
          have _ := fz x2_1
          have _ := ltb x2_1
          obtain ⟨_, _, _, _, _, _, _, _⟩ := cells8 x2_2
          have _ := fz x2_2
          have _ := ltb x2_2
          have X2_1 := hid x2_1; clear x2_1
          have X2_2 := hid x2_2; clear x2_2
          have G2 := hid (G1.out.trans hg2)
          clear hg2
          go_wp2
          go_ret
          exact ⟨ret_bool (by simp), G2.out⟩
    · cases h1 : (N == N') <;> cases kb <;> cases kb' <;> cases h3 : (u == u') <;> cases h4 : (v == v') <;> simp [h1, h3, h4] at hall
      all_goals
        go_enter Try.func15, Try.ntmps15
        go_wp2_with fail
        refine (HS.out _ (hid (X1.out.keep (((Gr.refl w).al _).al _))) (hid (X2.out.keep (((Gr.refl w).al _).al _))) hn hm).mono ?_
        rintro e w1 ⟨rfl, hg1⟩
        obtain ⟨x1_0, x1_1, hz1, g1⟩ := alloc2 hg1
        obtain ⟨_, _, _, _, _, _, _, _⟩ := cells8 x1_0
        have _ := fz x1_0
        have _ := ltb x1_0
        obtain ⟨_, _, _, _, _, _, _, _⟩ := cells8 x1_1
        have _ := fz x1_1
        have _ := ltb x1_1
        have X1_0 := hid x1_0; clear x1_0
        have X1_1 := hid x1_1; clear x1_1
        have G1 := hid (g1)
        clear hg1 g1
        go_wp2
        go_ret
        exact ⟨ret_bool (by simp), G1.out⟩
set_option maxRecDepth 20000 in
set_option maxHeartbeats 4000000 in
theorem sSameBn (a b a' b' : Int) (A A' : Option Addr) (c c' : Nat) (xs ys : List (Int × Int)) (N N' : Int) (kb kb' : Bool) (u v u' v' : Int) (B B' : Option Addr) (d d' : Nat) (ts ss : List Tgv) (w : World) (X1 : Hid (RdF w A xs)) (X2 : Hid (RdF w A' ys)) (T1 : Hid (RdTg w B ts)) (T2 : Hid (RdTg w B' ss)) (hn : xs.length ≤ 1048576) (hm : ys.length ≤ 1048576) (hp : ts.length ≤ 1048576) (_hq : ss.length ≤ 1048576) :
    Calls Try.prog 14 #[bnc a b A xs.length c N kb u v B ts.length d, bnc a' b' A' ys.length c' N' kb' u' v' B' ss.length d'] w fun x w' => x = .returned (.bool (sameBnB a b a' b' xs ys N N' kb kb' u v u' v' ts ss)) ∧ Gr w w' := by
  unfold sameBnB
  have HS := hid (sSameSc a b a' b' A A' c c' xs ys)
  generalize sameScB a b a' b' xs ys = s at *
  cases s with
  | false =>
    simp only [Bool.false_and]
    go_enter Try.func14, Try.ntmps14
    go_wp2_with fail
    refine (HS.out _ (hid (X1.out.keep (((Gr.refl w).al _).al _))) (hid (X2.out.keep (((Gr.refl w).al _).al _))) hn hm).mono ?_
    rintro e w1 ⟨rfl, hg1⟩
    obtain ⟨x1_0, x1_1, hz1, g1⟩ := alloc2 hg1
    obtain ⟨_, _, _, _, _, _, _, _⟩ := cells8 x1_0
    have _ := fz x1_0
    have _ := ltb x1_0
    obtain ⟨_, _, _, _, _, _, _, _⟩ := cells8 x1_1
    have _ := fz x1_1
    have _ := ltb x1_1
    have X1_0 := hid x1_0; clear x1_0
    have X1_1 := hid x1_1; clear x1_1
    have G1 := hid (g1)
    clear hg1 g1
    go_wp2
    go_ret
    exact ⟨rfl, G1.out⟩
  | true =>
  by_cases hall : (((N == N') && (kb == kb')) && ((u == u') && (v == v'))) = true
  · have e : (true && (((N == N') && (kb == kb')) && (((u == u') && (v == v')) && eqLTg ts ss))) = eqLTg ts ss := by
      simp only [Bool.and_eq_true] at hall
      obtain ⟨⟨h1, h2⟩, h3, h4⟩ := hall
      rw [h1, h2, h3, h4]; simp
    rw [e]
    simp only [Bool.and_eq_true, beq_iff_eq] at hall
    obtain ⟨⟨rfl, rfl⟩, rfl, rfl⟩ := hall
    clear e
    by_cases hl : ts.length = ss.length
    · have HL := hid hl
      obtain ⟨m, hnn⟩ : ∃ n, ts.length = n := ⟨_, rfl⟩
      rw [← hl, hnn]
      rw [hnn] at hp
      have HN := hid hnn; clear hl hnn _hq
      cases kb
      all_goals
        go_enter Try.func14, Try.ntmps14
        go_wp2_with fail
        refine (HS.out _ (hid (X1.out.keep (((Gr.refl w).al _).al _))) (hid (X2.out.keep (((Gr.refl w).al _).al _))) hn hm).mono ?_
        rintro e w1 ⟨rfl, hg1⟩
        obtain ⟨x1_0, x1_1, hz1, g1⟩ := alloc2 hg1
        obtain ⟨_, _, _, _, _, _, _, _⟩ := cells8 x1_0
        have _ := fz x1_0
        have _ := ltb x1_0
        obtain ⟨_, _, _, _, _, _, _, _⟩ := cells8 x1_1
        have _ := fz x1_1
        have _ := ltb x1_1
        have X1_0 := hid x1_0; clear x1_0
        have X1_1 := hid x1_1; clear x1_1
        have G1 := hid (g1)
        clear hg1 g1
        go_wp2_with fail
        go_loopw [5] (fun U wr => ∃ (k : Nat), U = .int .i64 (k : Int) ∧ k ≤ m ∧ ts.take k = ss.take k ∧ Gr w1 wr) (fun U _ => m - (intOf U).toNat)
        case atStart => exact ⟨0, rfl, by omega, by simp, Gr.refl _⟩
        case round =>
          obtain ⟨k, rfl, hk, ht, hg⟩ := hrel
          have HG := hid hg; have HT := hid ht; have Y1 := hid (hg.keep X1_0.out); have Y2 := hid (hg.keep X1_1.out)
          obtain ⟨_, _, _, _, _, _, _, _⟩ := cells8 Y1.out
          obtain ⟨_, _, _, _, _, _, _, _⟩ := cells8 Y2.out
          clear ht
          by_cases hlt : k < m
          · obtain ⟨x, hx⟩ : ∃ p, ts[k]? = some p := ⟨ts[k]'(by rw [HN.out]; exact hlt), List.getElem?_eq_getElem _⟩
            obtain ⟨y, hy⟩ : ∃ q, ss[k]? = some q := ⟨ss[k]'(by rw [← HL.out, HN.out]; exact hlt), List.getElem?_eq_getElem _⟩
            obtain ⟨ad, rfl, c1⟩ := (T1.out.keep (G1.out.trans hg)) k x hx
            obtain ⟨ad', rfl, c2⟩ := (T2.out.keep (G1.out.trans hg)) k y hy
            obtain ⟨_, _, _, _, _⟩ := c1
            obtain ⟨_, _, _, _, _⟩ := c2
            have HP := hid hx; have HQ := hid hy
            clear hx hy hg
            cases he : tgE x y with
            | true =>
              have hne := neqTg x y true he
              have HE := hid ((tgE_iff x y).1 he)
              clear he
              go_wp2_with fail
              go_quiet (fail)
              go_wp2_with fail
              exact ⟨⟨k + 1, by simp, by omega, takeTg2_step HT.out HP.out (by rw [HE.out]; exact HQ.out), HG.out.trans (Gr.drewN _ _)⟩, by simp [intOf]; omega⟩
            | false =>
              have hne := neqTg x y false he
              have HE : Hid (x ≠ y) := hid fun h => by rw [(tgE_iff x y).2 h] at he; cases he
              clear he
              go_wp2_with fail
              go_quiet (fail)
              go_wp2_with fail
              go_ret
              refine ⟨ret_bool ?_, G1.out.trans (HG.out.trans (Gr.drewN _ _))⟩
              exact (eqLTg_ne fun h => HE.out (by have h1 := HP.out; rw [h, HQ.out] at h1; exact (Option.some.inj h1).symm)).symm
          · have hke : k = m := by omega
            subst hke
            clear hg
            go_wp2_with fail
            go_ret
            refine ⟨ret_bool ?_, G1.out.trans HG.out⟩
            have h := HT.out
            rw [List.take_of_length_le (by rw [HN.out]; exact Nat.le_refl _), List.take_of_length_le (by rw [← HL.out, HN.out]; exact Nat.le_refl _)] at h
            exact ((eqLTg_iff ts ss).2 h).symm
    · have hv : eqLTg ts ss = false := eqLTg_ne fun h => hl (by rw [h])
      rw [hv]
      clear hv
      cases kb
      all_goals
        go_enter Try.func14, Try.ntmps14
        go_wp2_with fail
        refine (HS.out _ (hid (X1.out.keep (((Gr.refl w).al _).al _))) (hid (X2.out.keep (((Gr.refl w).al _).al _))) hn hm).mono ?_
        rintro e w1 ⟨rfl, hg1⟩
        obtain ⟨x1_0, x1_1, hz1, g1⟩ := alloc2 hg1
        obtain ⟨_, _, _, _, _, _, _, _⟩ := cells8 x1_0
        have _ := fz x1_0
        have _ := ltb x1_0
        obtain ⟨_, _, _, _, _, _, _, _⟩ := cells8 x1_1
        have _ := fz x1_1
        have _ := ltb x1_1
        have X1_0 := hid x1_0; clear x1_0
        have X1_1 := hid x1_1; clear x1_1
        have G1 := hid (g1)
        clear hg1 g1
        go_wp2
        go_ret
        exact ⟨rfl, G1.out⟩
  · have e : (true && (((N == N') && (kb == kb')) && (((u == u') && (v == v')) && eqLTg ts ss))) = false := by
      cases h1 : (N == N') <;> cases h2 : (kb == kb') <;> cases h3 : (u == u') <;> cases h4 : (v == v') <;> simp [h1, h2, h3, h4] at hall ⊢
    rw [e]
    clear e
    cases h1 : (N == N') <;> cases kb <;> cases kb' <;> cases h3 : (u == u') <;> cases h4 : (v == v') <;> simp [h1, h3, h4] at hall
    all_goals
      go_enter Try.func14, Try.ntmps14
      go_wp2_with fail
      refine (HS.out _ (hid (X1.out.keep (((Gr.refl w).al _).al _))) (hid (X2.out.keep (((Gr.refl w).al _).al _))) hn hm).mono ?_
      rintro e w1 ⟨rfl, hg1⟩
      obtain ⟨x1_0, x1_1, hz1, g1⟩ := alloc2 hg1
      obtain ⟨_, _, _, _, _, _, _, _⟩ := cells8 x1_0
      have _ := fz x1_0
      have _ := ltb x1_0
      obtain ⟨_, _, _, _, _, _, _, _⟩ := cells8 x1_1
      have _ := fz x1_1
      have _ := ltb x1_1
      have X1_0 := hid x1_0; clear x1_0
      have X1_1 := hid x1_1; clear x1_1
      have G1 := hid (g1)
      clear hg1 g1
      go_wp2
      go_ret
      exact ⟨rfl, G1.out⟩
theorem bothSameBench (a b a' b' : Int) (xs ys : List (Int × Int)) (N N' : Int) (kb kb' : Bool) (u v u' v' : Int) (ts ss : List Tgv) (hn : xs.length ≤ 1048576) (hm : ys.length ≤ 1048576) (hp : ts.length ≤ 1048576) (hq : ss.length ≤ 1048576) : ∃ R : Bool,
    (∀ (A A' B B' : Option Addr) (c c' d d' : Nat) (w : World), Hid (RdF w A xs) → Hid (RdF w A' ys) → Hid (RdTg w B ts) → Hid (RdTg w B' ss) → Calls Try.prog 14 #[bnc a b A xs.length c N kb u v B ts.length d, bnc a' b' A' ys.length c' N' kb' u' v' B' ss.length d'] w fun x w' => x = .returned (.bool R) ∧ Gr w w') ∧
    (∀ (A A' B B' : Option Addr) (c c' d d' : Nat) (w : World), Hid (RdF w A xs) → Hid (RdF w A' ys) → Hid (RdTg w B ts) → Hid (RdTg w B' ss) → Calls Try.prog 15 #[bnc a b A xs.length c N kb u v B ts.length d, bnc a' b' A' ys.length c' N' kb' u' v' B' ss.length d'] w fun x w' => x = .returned (.bool R) ∧ Gr w w') :=
  ⟨sameBnB a b a' b' xs ys N N' kb kb' u v u' v' ts ss, fun A A' B B' c c' d d' w X1 X2 T1 T2 => sSameBn a b a' b' A A' c c' xs ys N N' kb kb' u v u' v' B B' d d' ts ss w X1 X2 T1 T2 hn hm hp hq, fun A A' B B' c c' d d' w X1 X2 T1 T2 => iSameBn a b a' b' A A' c c' xs ys N N' kb kb' u v u' v' B B' d d' ts ss w X1 X2 T1 T2 hn hm hp hq⟩
end Go.Proofs.Ytflfjedimcbfeaa
