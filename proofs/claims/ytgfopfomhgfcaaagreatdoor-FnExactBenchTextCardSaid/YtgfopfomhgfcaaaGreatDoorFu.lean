/- WALKS: lists of fractions: counted, compared, checked and summed; the reference. -/
import Derived.Test.YtgfopfomhgfcaaaGreatDoorFs
import Derived.Test.YtgfopfomhgfcaaaGreatDoorH
import Derived.Test.YtgfopfomhgfcaaaGreatDoorN
import Derived.Test.YtgfopfomhgfcaaaGreatDoorB0
namespace Go.Proofs.YtgfopfomhgfcaaaGreatDoor
open Go.RowKit Go.Sort

set_option maxHeartbeats 400000 in
theorem sz_yes (A : Option Addr) (n cap : Nat) (w : World) (h : n ≤ 1048576) :
    Calls Tryz.prog 66 #[.slice A n cap, .int .i64 1048576] w fun e w' => e = .returned (.int .i64 (1048576 - (n : Int))) ∧ Gr w w' := by
  go_enter Tryz.func66, Tryz.ntmps66
  go_wp2
  go_ret
  exact ⟨rfl, Gr.refl _⟩
set_option maxHeartbeats 400000 in
theorem sz_no (A : Option Addr) (n cap : Nat) (w : World) (h : 1048576 < n) (h2 : n ≤ 9223372036854775807) :
    Calls Tryz.prog 66 #[.slice A n cap, .int .i64 1048576] w fun e w' => e = .returned (.int .i64 (-1)) ∧ Gr w w' := by
  go_enter Tryz.func66, Tryz.ntmps66
  go_wp2
  go_ret
  exact ⟨rfl, Gr.refl _⟩
abbrev sl (g n : Nat) : Value := .slice (some ⟨g, 0, none⟩) n n
set_option maxRecDepth 20000 in
set_option maxHeartbeats 1000000 in
theorem eqFracS_any (g g' : Nat) (xs : List (Int × Int)) (w : World) (T T' : TypeId) (X1 : Hid (w.heap[g]? = some (.cells (flatA xs) T))) (X2 : Hid (w.heap[g']? = some (.cells (flatA xs) T'))) (hn : xs.length ≤ 1048576) :
    Calls Tryz.prog 49 #[sl g xs.length, sl g' xs.length] w fun e w' => e = .returned (.bool true) ∧ Gr w w' := by
  go_enter Tryz.func49, Tryz.ntmps49
  go_wp2_with fail
  go_loopw [5] (fun u wr => ∃ (k : Nat), u = .int .i64 (k : Int) ∧ k ≤ xs.length ∧ Gr w wr) (fun u _ => xs.length - (intOf u).toNat)
  case atStart => exact ⟨0, rfl, by omega, Gr.refl _⟩
  case round =>
    obtain ⟨k, rfl, hk, g0⟩ := hrel
    have Y1 := hid (g0.keep X1.out); have Y2 := hid (g0.keep X2.out)
    have GW := hid g0; clear g0
    by_cases hlt : k < xs.length
    · obtain ⟨⟨p, q⟩, hpq⟩ : ∃ pq, xs[k]? = some pq := ⟨xs[k], List.getElem?_eq_getElem _⟩
      have HP := hid hpq; clear hpq
      go_wp2_with fail
      refine wp_reg0 9 (by kernel_rfl) (by kernel_rfl) ?_
      apply Exists.intro
      refine ⟨fun wb hb => ?_, ?_⟩
      · obtain ⟨_, _⟩ := flat_at hb Y1.out HP.out
        obtain ⟨_, _⟩ := flat_at hb Y2.out HP.out
        simp only [headOps, List.contains, List.elem, reduceIte, Bool.false_eq_true]
        repeat (first | go_big_quiet_step (first | (go_at_call 41; exact Calls.of_gr (eqFrac_any _ _ _))) | quiet_step (fail))
        exact wpQuiet_nil rfl
      intro w1 hg1
      have G1 := hid (GW.out.trans hg1)
      clear hg1
      go_wp2_with fail
      exact ⟨⟨k + 1, by simp, by omega, G1.out⟩, by simp [intOf]; omega⟩
    · go_wp2_with fail
      go_ret
      exact ⟨rfl, GW.out⟩

/-- The code of a list that must have at least so many. -/
def lstC (xs : List (Int × Int)) (least : Int) : Int := if xs.all (fun x => okB x.1 x.2) then (if 64 < (xs.length : Int) ∨ (xs.length : Int) < least then 2 else 0) else 1
theorem all_take {xs : List (Int × Int)} {k : Nat} {x : Int × Int} (h : xs[k]? = some x) (ha : (xs.take k).all (fun x => okB x.1 x.2) = true) (hx : okB x.1 x.2 = true) : (xs.take (k + 1)).all (fun x => okB x.1 x.2) = true := by
  rw [List.take_add_one, h]
  simp only [Option.toList_some, List.all_append, ha, List.all_cons, List.all_nil, hx, Bool.and_true]
theorem all_not {xs : List (Int × Int)} {k : Nat} {x : Int × Int} (h : xs[k]? = some x) (hx : okB x.1 x.2 = false) : xs.all (fun x => okB x.1 x.2) = false := by
  cases ha : xs.all (fun x => okB x.1 x.2) with
  | false => rfl
  | true =>
    have := List.all_eq_true.1 ha x (List.mem_of_getElem? h)
    rw [hx] at this; cases this
theorem sadd_t (a b c d : Int) (w : World) (h1 : okB a b = true) (h2 : okB c d = true) (hk : okB (redP (a*d+c*b) (b*d)) (redQ (a*d+c*b) (b*d)) = true) :
    Calls Tryz.prog 127 #[fr a b, fr c d] w fun e w' => e = .returned (.tuple #[fr (redP (a*d+c*b) (b*d)) (redQ (a*d+c*b) (b*d)), .int .i64 0]) ∧ Gr w w' := by
  obtain ⟨b1, b2, b3, b4⟩ := okB_bd h1
  obtain ⟨d1, d2, d3, d4⟩ := okB_bd h2
  have h := sl01Add a b c d w b1 b2 b3 b4 d1 d2 d3 d4
  unfold rP rQ rC at h
  rw [hk] at h
  simpa using h
theorem sadd_f (a b c d : Int) (w : World) (h1 : okB a b = true) (h2 : okB c d = true) (hk : okB (redP (a*d+c*b) (b*d)) (redQ (a*d+c*b) (b*d)) = false) :
    Calls Tryz.prog 127 #[fr a b, fr c d] w fun e w' => e = .returned (.tuple #[fr 0 0, .int .i64 3]) ∧ Gr w w' := by
  obtain ⟨b1, b2, b3, b4⟩ := okB_bd h1
  obtain ⟨d1, d2, d3, d4⟩ := okB_bd h2
  have h := sl01Add a b c d w b1 b2 b3 b4 d1 d2 d3 d4
  unfold rP rQ rC at h
  rw [hk] at h
  simpa using h
/-- The sum of P / Q and a list, as far as it can be told. -/
def sm : List (Int × Int) → Int → Int → Option (Int × Int)
  | [], P, Q => some (P, Q)
  | (p, q) :: r, P, Q => if okB (redP (P*q+p*Q) (Q*q)) (redQ (P*q+p*Q) (Q*q)) then sm r (redP (P*q+p*Q) (Q*q)) (redQ (P*q+p*Q) (Q*q)) else none
theorem sm_step {xs : List (Int × Int)} {k : Nat} {p q P Q : Int} (h : xs[k]? = some (p, q)) :
    sm (xs.drop k) P Q = if okB (redP (P*q+p*Q) (Q*q)) (redQ (P*q+p*Q) (Q*q)) then sm (xs.drop (k + 1)) (redP (P*q+p*Q) (Q*q)) (redQ (P*q+p*Q) (Q*q)) else none := by
  have hk : k < xs.length := (List.getElem?_eq_some_iff.1 h).1
  have e : xs[k] = (p, q) := (List.getElem?_eq_some_iff.1 h).2
  rw [List.drop_eq_getElem_cons hk, e]
  rfl
theorem all_get {xs : List (Int × Int)} {k : Nat} {p q : Int} (h : xs[k]? = some (p, q)) (ha : xs.all (fun x => okB x.1 x.2) = true) : okB p q = true :=
  List.all_eq_true.1 ha (p, q) (List.mem_of_getElem? h)
def smV : Option (Int × Int) → Value
  | some (P, Q) => .tuple #[fr P Q, .int .i64 0]
  | none => .tuple #[fr 0 0, .int .i64 3]
theorem ok01 : okB 0 1 = true := by decide
end Go.Proofs.YtgfopfomhgfcaaaGreatDoor
namespace Go.Proofs.YtgfopfomhgfcaaaGreatDoor
open Go.RowKit Go.Sort

theorem gt01 : gtB 0 1000000000 = false := by decide
/-! what is told of a list -/
theorem lst_all {xs : List (Int × Int)} {l : Int} (h : lstC xs l = 0) : xs.all (fun x => okB x.1 x.2) = true := by
  cases ha : xs.all (fun x => okB x.1 x.2) with
  | true => rfl
  | false => unfold lstC at h; rw [ha] at h; simp at h
theorem smV_form (r : Option (Int × Int)) : ∃ P Q C : Int, smV r = .tuple #[fr P Q, .int .i64 C] := by
  cases r with
  | none => exact ⟨0, 0, 3, rfl⟩
  | some r => exact ⟨r.1, r.2, 0, rfl⟩
end Go.Proofs.YtgfopfomhgfcaaaGreatDoor
