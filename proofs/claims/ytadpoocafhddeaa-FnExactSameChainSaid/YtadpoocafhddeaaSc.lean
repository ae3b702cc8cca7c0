/- SameChain, of the program and of the reference. -/
import Derived.Test.YtadpoocafhddeaaCh
import Derived.Deep.QuietTactic
namespace Go.Proofs.Ytadpoocafhddeaa
open Go.RowKit Go.Sort

def sdE (x y : Sdv) : Bool := (x.nm == y.nm) && ((x.f == y.f) && (((x.a == y.a && x.b == y.b) && (x.c == y.c && x.d == y.d)) && ((x.p == y.p && x.q == y.q) && ((x.m == y.m) && (x.g == y.g)))))
theorem strEq (a b : ByteArray) : (a == b) = true ↔ a = b := by
  obtain ⟨x⟩ := a; obtain ⟨y⟩ := b
  constructor
  · intro h
    have : (x == y) = true := h
    exact congrArg _ (by simpa using this)
  · intro h
    cases h
    show (x == x) = true
    simp
theorem sdE_iff (x y : Sdv) : sdE x y = true ↔ x = y := by
  obtain ⟨a0, a1, a2, a3, a4, a5, a6, a7, a8, a9⟩ := x
  obtain ⟨b0, b1, b2, b3, b4, b5, b6, b7, b8, b9⟩ := y
  simp only [sdE, Bool.and_eq_true, strEq, beq_iff_eq, Sdv.mk.injEq]
  constructor
  · rintro ⟨rfl, rfl, ⟨⟨rfl, rfl⟩, rfl, rfl⟩, ⟨rfl, rfl⟩, rfl, rfl⟩
    exact ⟨rfl, rfl, rfl, rfl, rfl, rfl, rfl, rfl, rfl, rfl⟩
  · rintro ⟨rfl, rfl, rfl, rfl, rfl, rfl, rfl, rfl, rfl, rfl⟩
    exact ⟨rfl, rfl, ⟨⟨rfl, rfl⟩, rfl, rfl⟩, ⟨rfl, rfl⟩, rfl, rfl⟩
theorem sI64 (d : Nat) (a b : Int) (w : World) : (Op.equalIn (d + 1) 2 (.int .i64 a) (.int .i64 b)).run Try.prog w = .ok (a == b) w := by
  simp [Op.equalIn, go_sem]
theorem sStr (d : Nat) (a b : ByteArray) (w : World) : (Op.equalIn (d + 1) 9 (.string a) (.string b)).run Try.prog w = .ok (a == b) w := by
  simp [Op.equalIn, go_sem]
set_option maxRecDepth 20000 in
theorem sFrD (d : Nat) (a b a' b' : Int) (w : World) : (Op.equalIn (d + 1 + 1) 37 (fr a b) (fr a' b')).run Try.prog w = .ok (a == a' && b == b') w := by
  have hp : Try.prog.stoodInHeld 37 = false := by kernel_rfl
  have h := run_equalIn_struct (P := Try.prog) w (d + 1) 37 #[.int .i64 a, .int .i64 b] #[.int .i64 a', .int .i64 b'] (by kernel_rfl) hp
  rw [h]
  cases e1 : (a == a') with
  | false => simp [Op.eqFields, Program.fieldsOf, sI64, go_sem, e1]
  | true =>
    cases e2 : (b == b') with
    | false => simp [Op.eqFields, Program.fieldsOf, sI64, go_sem, e1, e2]
    | true => simp [Op.eqFields, Program.fieldsOf, sI64, go_sem, e1, e2]
set_option maxRecDepth 20000 in
theorem sSpD (d : Nat) (a b c e a' b' c' e' : Int) (w : World) : (Op.equalIn (d + 1 + 1 + 1) 39 (sp a b c e) (sp a' b' c' e')).run Try.prog w = .ok ((a == a' && b == b') && (c == c' && e == e')) w := by
  have hp : Try.prog.stoodInHeld 39 = false := by kernel_rfl
  have h := run_equalIn_struct (P := Try.prog) w (d + 1 + 1) 39 #[.int .i64 a, .int .i64 b, .int .i64 c, .int .i64 e] #[.int .i64 a', .int .i64 b', .int .i64 c', .int .i64 e'] (by kernel_rfl) hp
  have p0 : ∀ (a b c e : Int) (w : World), (part 37 #[.int .i64 a, .int .i64 b, .int .i64 c, .int .i64 e] 0).run Try.prog w = .ok (fr a b) w := fun _ _ _ _ _ => by kernel_rfl
  have p2 : ∀ (a b c e : Int) (w : World), (part 37 #[.int .i64 a, .int .i64 b, .int .i64 c, .int .i64 e] 2).run Try.prog w = .ok (fr c e) w := fun _ _ _ _ _ => by kernel_rfl
  have e0 := fun w => sFrD d a b a' b' w
  have e2 := fun w => sFrD d c e c' e' w
  have hf : Try.prog.fieldsOf 39 = #[⟨"Low", 37, 0, false, "", "", 0⟩, ⟨"High", 37, 2, false, "", "", 16⟩] := by kernel_rfl
  rw [h, hf]
  cases k1 : (a == a' && b == b') with
  | false => simp [Op.eqFields, p0, e0, k1]
  | true =>
    cases k2 : (c == c' && e == e') with
    | false => simp [Op.eqFields, p0, e0, p2, e2, k1, k2]
    | true => simp [Op.eqFields, p0, e0, p2, e2, k1, k2]
set_option maxRecDepth 20000 in
theorem eqSdD (x y : Sdv) (w : World) : (Op.equalIn 10000 41 (vSd x) (vSd y)).run Try.prog w = .ok (sdE x y) w := by
  have hp : Try.prog.stoodInHeld 41 = false := by kernel_rfl
  have h := run_equalIn_struct (P := Try.prog) w 9999 41 #[.string x.nm, .int .i64 x.f, .int .i64 x.a, .int .i64 x.b, .int .i64 x.c, .int .i64 x.d, .int .i64 x.p, .int .i64 x.q, .int .i64 x.m, .int .i64 x.g] #[.string y.nm, .int .i64 y.f, .int .i64 y.a, .int .i64 y.b, .int .i64 y.c, .int .i64 y.d, .int .i64 y.p, .int .i64 y.q, .int .i64 y.m, .int .i64 y.g] (by kernel_rfl) hp
  have pn : ∀ (z : Sdv) (w : World), (part 9 #[.string z.nm, .int .i64 z.f, .int .i64 z.a, .int .i64 z.b, .int .i64 z.c, .int .i64 z.d, .int .i64 z.p, .int .i64 z.q, .int .i64 z.m, .int .i64 z.g] 0).run Try.prog w = .ok (.string z.nm) w := fun z w => by kernel_rfl
  have en : ∀ w : World, (Op.equalIn 9999 9 (.string x.nm) (.string y.nm)).run Try.prog w = .ok (x.nm == y.nm) w := fun w => sStr 9998 x.nm y.nm w
  have pf : ∀ (z : Sdv) (w : World), (part 2 #[.string z.nm, .int .i64 z.f, .int .i64 z.a, .int .i64 z.b, .int .i64 z.c, .int .i64 z.d, .int .i64 z.p, .int .i64 z.q, .int .i64 z.m, .int .i64 z.g] 1).run Try.prog w = .ok (.int .i64 z.f) w := fun z w => by kernel_rfl
  have ef : ∀ w : World, (Op.equalIn 9999 2 (.int .i64 x.f) (.int .i64 y.f)).run Try.prog w = .ok (x.f == y.f) w := fun w => sI64 9998 x.f y.f w
  have pv : ∀ (z : Sdv) (w : World), (part 39 #[.string z.nm, .int .i64 z.f, .int .i64 z.a, .int .i64 z.b, .int .i64 z.c, .int .i64 z.d, .int .i64 z.p, .int .i64 z.q, .int .i64 z.m, .int .i64 z.g] 2).run Try.prog w = .ok (sp z.a z.b z.c z.d) w := fun z w => by kernel_rfl
  have ev : ∀ w : World, (Op.equalIn 9999 39 (sp x.a x.b x.c x.d) (sp y.a y.b y.c y.d)).run Try.prog w = .ok ((x.a == y.a && x.b == y.b) && (x.c == y.c && x.d == y.d)) w := fun w => sSpD 9996 x.a x.b x.c x.d y.a y.b y.c y.d w
  have pd : ∀ (z : Sdv) (w : World), (part 37 #[.string z.nm, .int .i64 z.f, .int .i64 z.a, .int .i64 z.b, .int .i64 z.c, .int .i64 z.d, .int .i64 z.p, .int .i64 z.q, .int .i64 z.m, .int .i64 z.g] 6).run Try.prog w = .ok (fr z.p z.q) w := fun z w => by kernel_rfl
  have ed : ∀ w : World, (Op.equalIn 9999 37 (fr x.p x.q) (fr y.p y.q)).run Try.prog w = .ok (x.p == y.p && x.q == y.q) w := fun w => sFrD 9997 x.p x.q y.p y.q w
  have pm : ∀ (z : Sdv) (w : World), (part 2 #[.string z.nm, .int .i64 z.f, .int .i64 z.a, .int .i64 z.b, .int .i64 z.c, .int .i64 z.d, .int .i64 z.p, .int .i64 z.q, .int .i64 z.m, .int .i64 z.g] 8).run Try.prog w = .ok (.int .i64 z.m) w := fun z w => by kernel_rfl
  have em : ∀ w : World, (Op.equalIn 9999 2 (.int .i64 x.m) (.int .i64 y.m)).run Try.prog w = .ok (x.m == y.m) w := fun w => sI64 9998 x.m y.m w
  have pg : ∀ (z : Sdv) (w : World), (part 2 #[.string z.nm, .int .i64 z.f, .int .i64 z.a, .int .i64 z.b, .int .i64 z.c, .int .i64 z.d, .int .i64 z.p, .int .i64 z.q, .int .i64 z.m, .int .i64 z.g] 9).run Try.prog w = .ok (.int .i64 z.g) w := fun z w => by kernel_rfl
  have eg : ∀ w : World, (Op.equalIn 9999 2 (.int .i64 x.g) (.int .i64 y.g)).run Try.prog w = .ok (x.g == y.g) w := fun w => sI64 9998 x.g y.g w
  have hf : Try.prog.fieldsOf 41 = #[⟨"Name", 9, 0, false, "", "", 0⟩, ⟨"From", 2, 1, false, "", "", 16⟩, ⟨"Value", 39, 2, false, "", "", 24⟩, ⟨"Drift", 37, 6, false, "", "", 56⟩, ⟨"Made", 2, 8, false, "", "", 72⟩, ⟨"Good", 2, 9, false, "", "", 80⟩] := by kernel_rfl
  rw [show (10000 : Nat) = 9999 + 1 from rfl, h, hf]
  unfold sdE
  cases k0 : (x.nm == y.nm) with
  | false => simp [Op.eqFields, pn, en, k0]
  | true =>
    cases k1 : (x.f == y.f) with
    | false => simp [Op.eqFields, pn, en, pf, ef, k0, k1]
    | true =>
      cases k2 : ((x.a == y.a && x.b == y.b) && (x.c == y.c && x.d == y.d)) with
      | false => simp [Op.eqFields, pn, en, pf, ef, pv, ev, k0, k1, k2]
      | true =>
        cases k3 : (x.p == y.p && x.q == y.q) with
        | false => simp [Op.eqFields, pn, en, pf, ef, pv, ev, pd, ed, k0, k1, k2, k3]
        | true =>
          cases k4 : (x.m == y.m) with
          | false => simp [Op.eqFields, pn, en, pf, ef, pv, ev, pd, ed, pm, em, k0, k1, k2, k3, k4]
          | true =>
            cases k5 : (x.g == y.g) with
            | false => simp [Op.eqFields, pn, en, pf, ef, pv, ev, pd, ed, pm, em, pg, eg, k0, k1, k2, k3, k4, k5]
            | true =>
              simp [Op.eqFields, pn, en, pf, ef, pv, ev, pd, ed, pm, em, pg, eg, k0, k1, k2, k3, k4, k5]
theorem neqSd (x y : Sdv) (r : Bool) (hr : sdE x y = r) (w : World) : (binOp .neq 41 (vSd x) (vSd y)).run Try.prog w = .ok (.bool (!r)) w := by
  have h : (binOp .neq 41 (vSd x) (vSd y)).run Try.prog w = ((Op.equalIn 10000 41 (vSd x) (vSd y)).run Try.prog w).andThen fun b w' => .ok (.bool (!b)) w' := by
    simp [go_sem]
  rw [h, eqSdD, Result.andThen_ok, hr]
def eqLSd : List Sdv → List Sdv → Bool
  | [], [] => true
  | x :: r, y :: s => sdE x y && eqLSd r s
  | _, _ => false
theorem eqLSd_iff : ∀ xs ys : List Sdv, eqLSd xs ys = true ↔ xs = ys
  | [], [] => by simp [eqLSd]
  | [], y :: s => by simp [eqLSd]
  | x :: r, [] => by simp [eqLSd]
  | x :: r, y :: s => by simp [eqLSd, sdE_iff, eqLSd_iff r s]
theorem eqLSd_ne {xs ys : List Sdv} (h : xs ≠ ys) : eqLSd xs ys = false := by
  cases e : eqLSd xs ys with
  | false => rfl
  | true => exact absurd ((eqLSd_iff xs ys).1 e) h
theorem takeSd2_step {xs ys : List Sdv} {k : Nat} {p : Sdv} (h : xs.take k = ys.take k) (hx : xs[k]? = some p) (hy : ys[k]? = some p) : xs.take (k + 1) = ys.take (k + 1) := by
  rw [List.take_add_one, List.take_add_one, h, hx, hy]
set_option maxRecDepth 20000 in
set_option maxHeartbeats 1000000 in
theorem iEqualSd (A A' : Option Addr) (c c' : Nat) (xs ys : List Sdv) (w : World) (X1 : Hid (RdSd w A xs)) (X2 : Hid (RdSd w A' ys)) (hn : xs.length ≤ 1048576) (_hm : ys.length ≤ 1048576) :
    Calls Try.prog 17 #[.slice A xs.length c, .slice A' ys.length c'] w fun e w' => e = .returned (.bool (eqLSd xs ys)) ∧ Gr w w' := by
  by_cases hl : xs.length = ys.length
  · have HL := hid hl
    obtain ⟨n, hnn⟩ : ∃ n, xs.length = n := ⟨_, rfl⟩
    rw [← hl, hnn]
    rw [hnn] at hn
    have HN := hid hnn; clear hl hnn _hm
    go_enter Try.func17, Try.ntmps17
    go_wp2_with fail
    go_loopw [13] (fun u wr => ∃ (k : Nat), u = .int .i64 (k : Int) ∧ k ≤ n ∧ xs.take k = ys.take k ∧ Gr w wr) (fun u _ => n - (intOf u).toNat)
    case atStart => exact ⟨0, rfl, by omega, by simp, Gr.refl _⟩
    case round =>
      obtain ⟨k, rfl, hk, ht, hg⟩ := hrel
      have HG := hid hg; have HT := hid ht
      clear ht
      by_cases hlt : k < n
      · obtain ⟨x, hp⟩ : ∃ p, xs[k]? = some p := ⟨xs[k]'(by rw [HN.out]; exact hlt), List.getElem?_eq_getElem _⟩
        obtain ⟨y, hq⟩ : ∃ q, ys[k]? = some q := ⟨ys[k]'(by rw [← HL.out, HN.out]; exact hlt), List.getElem?_eq_getElem _⟩
        obtain ⟨ad, rfl, c1⟩ := (X1.out.keep hg) k x hp
        obtain ⟨ad', rfl, c2⟩ := (X2.out.keep hg) k y hq
        obtain ⟨_, _, _, _, _, _, _, _, _, _⟩ := c1
        obtain ⟨_, _, _, _, _, _, _, _, _, _⟩ := c2
        have HP := hid hp; have HQ := hid hq
        clear hp hq hg
        cases he : sdE x y with
        | true =>
          have hne := neqSd x y true he
          have HE := hid ((sdE_iff x y).1 he)
          clear he
          go_wp2_with fail
          go_quiet (fail)
          go_wp2_with fail
          exact ⟨⟨k + 1, by simp, by omega, takeSd2_step HT.out HP.out (by rw [HE.out]; exact HQ.out), HG.out.trans (Gr.drewN _ _)⟩, by simp [intOf]; omega⟩
        | false =>
          have hne := neqSd x y false he
          have HE : Hid (x ≠ y) := hid fun h => by rw [(sdE_iff x y).2 h] at he; cases he
          clear he
          go_wp2_with fail
          go_quiet (fail)
          go_wp2_with fail
          go_ret
          refine ⟨ret_bool ?_, HG.out.trans (Gr.drewN _ _)⟩
          exact (eqLSd_ne fun h => HE.out (by have h1 := HP.out; rw [h, HQ.out] at h1; exact (Option.some.inj h1).symm)).symm
      · have hke : k = n := by omega
        subst hke
        clear hg
        go_wp2_with fail
        go_ret
        refine ⟨ret_bool ?_, HG.out⟩
        have h := HT.out
        rw [List.take_of_length_le (by rw [HN.out]; exact Nat.le_refl _), List.take_of_length_le (by rw [← HL.out, HN.out]; exact Nat.le_refl _)] at h
        exact ((eqLSd_iff xs ys).2 h).symm
  · have hv : eqLSd xs ys = false := eqLSd_ne fun h => hl (by rw [h])
    rw [hv]
    clear hv
    go_enter Try.func17, Try.ntmps17
    go_wp2_with fail
    go_ret
    exact ⟨rfl, Gr.refl _⟩
set_option maxRecDepth 20000 in
set_option maxHeartbeats 1000000 in
theorem sSameSd (A A' : Option Addr) (c c' : Nat) (xs ys : List Sdv) (w : World) (X1 : Hid (RdSd w A xs)) (X2 : Hid (RdSd w A' ys)) (hn : xs.length ≤ 1048576) (_hm : ys.length ≤ 1048576) :
    Calls Try.prog 10 #[.slice A xs.length c, .slice A' ys.length c'] w fun e w' => e = .returned (.bool (eqLSd xs ys)) ∧ Gr w w' := by
  by_cases hl : xs.length = ys.length
  · have HL := hid hl
    obtain ⟨n, hnn⟩ : ∃ n, xs.length = n := ⟨_, rfl⟩
    rw [← hl, hnn]
    rw [hnn] at hn
    have HN := hid hnn; clear hl hnn _hm
    go_enter Try.func10, Try.ntmps10
    go_wp2_with fail
    go_loopw [5] (fun u wr => ∃ (k : Nat), u = .int .i64 (k : Int) ∧ k ≤ n ∧ xs.take k = ys.take k ∧ Gr w wr) (fun u _ => n - (intOf u).toNat)
    case atStart => exact ⟨0, rfl, by omega, by simp, Gr.refl _⟩
    case round =>
      obtain ⟨k, rfl, hk, ht, hg⟩ := hrel
      have HG := hid hg; have HT := hid ht
      clear ht
      by_cases hlt : k < n
      · obtain ⟨x, hp⟩ : ∃ p, xs[k]? = some p := ⟨xs[k]'(by rw [HN.out]; exact hlt), List.getElem?_eq_getElem _⟩
        obtain ⟨y, hq⟩ : ∃ q, ys[k]? = some q := ⟨ys[k]'(by rw [← HL.out, HN.out]; exact hlt), List.getElem?_eq_getElem _⟩
        obtain ⟨ad, rfl, c1⟩ := (X1.out.keep hg) k x hp
        obtain ⟨ad', rfl, c2⟩ := (X2.out.keep hg) k y hq
        obtain ⟨_, _, _, _, _, _, _, _, _, _⟩ := c1
        obtain ⟨_, _, _, _, _, _, _, _, _, _⟩ := c2
        have HP := hid hp; have HQ := hid hq
        clear hp hq hg
        cases he : sdE x y with
        | true =>
          have hne := neqSd x y true he
          have HE := hid ((sdE_iff x y).1 he)
          clear he
          go_wp2_with fail
          go_quiet (fail)
          go_wp2_with fail
          exact ⟨⟨k + 1, by simp, by omega, takeSd2_step HT.out HP.out (by rw [HE.out]; exact HQ.out), HG.out.trans (Gr.drewN _ _)⟩, by simp [intOf]; omega⟩
        | false =>
          have hne := neqSd x y false he
          have HE : Hid (x ≠ y) := hid fun h => by rw [(sdE_iff x y).2 h] at he; cases he
          clear he
          go_wp2_with fail
          go_quiet (fail)
          go_wp2_with fail
          go_ret
          refine ⟨ret_bool ?_, HG.out.trans (Gr.drewN _ _)⟩
          exact (eqLSd_ne fun h => HE.out (by have h1 := HP.out; rw [h, HQ.out] at h1; exact (Option.some.inj h1).symm)).symm
      · have hke : k = n := by omega
        subst hke
        clear hg
        go_wp2_with fail
        go_ret
        refine ⟨ret_bool ?_, HG.out⟩
        have h := HT.out
        rw [List.take_of_length_le (by rw [HN.out]; exact Nat.le_refl _), List.take_of_length_le (by rw [← HL.out, HN.out]; exact Nat.le_refl _)] at h
        exact ((eqLSd_iff xs ys).2 h).symm
  · have hv : eqLSd xs ys = false := eqLSd_ne fun h => hl (by rw [h])
    rw [hv]
    clear hv
    go_enter Try.func10, Try.ntmps10
    go_wp2_with fail
    go_ret
    exact ⟨rfl, Gr.refl _⟩
set_option maxRecDepth 20000 in
set_option maxHeartbeats 400000 in
theorem iSameSd (A A' : Option Addr) (c c' : Nat) (xs ys : List Sdv) (w : World) (X1 : Hid (RdSd w A xs)) (X2 : Hid (RdSd w A' ys)) (hn : xs.length ≤ 1048576) (hm : ys.length ≤ 1048576) :
    Calls Try.prog 11 #[.slice A xs.length c, .slice A' ys.length c'] w fun e w' => e = .returned (.bool (eqLSd xs ys)) ∧ Gr w w' := by
  have HE := hid fun w (X1 : Hid (RdSd w A xs)) (X2 : Hid (RdSd w A' ys)) => iEqualSd A A' c c' xs ys w X1 X2 hn hm
  go_enter Try.func11, Try.ntmps11
  go_wp2_with fail
  refine (HE.out _ X1 X2).mono ?_
  rintro e w1 ⟨rfl, hg⟩
  have G1 := hid hg; clear hg
  go_wp2_with fail
  go_ret
  exact ⟨rfl, G1.out⟩
theorem bothSameChain (xs ys : List Sdv) (hn : xs.length ≤ 1048576) (hm : ys.length ≤ 1048576) : ∃ R : Bool,
    (∀ (A : Option Addr) (c : Nat) (A' : Option Addr) (c' : Nat) (w : World), Hid (RdSd w A xs) → Hid (RdSd w A' ys) → Calls Try.prog 10 #[.slice A xs.length c, .slice A' ys.length c'] w fun e w' => e = .returned (.bool R) ∧ Gr w w') ∧
    (∀ (A : Option Addr) (c : Nat) (A' : Option Addr) (c' : Nat) (w : World), Hid (RdSd w A xs) → Hid (RdSd w A' ys) → Calls Try.prog 11 #[.slice A xs.length c, .slice A' ys.length c'] w fun e w' => e = .returned (.bool R) ∧ Gr w w') :=
  ⟨eqLSd xs ys, fun A c A' c' w X1 X2 => sSameSd A A' c c' xs ys w X1 X2 hn hm, fun A c A' c' w X1 X2 => iSameSd A A' c c' xs ys w X1 X2 hn hm⟩
end Go.Proofs.Ytadpoocafhddeaa
