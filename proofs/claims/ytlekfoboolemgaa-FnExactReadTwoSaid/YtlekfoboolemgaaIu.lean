/- WALKS: sectors: looked at, and their closing, of the program and of the reference. -/
import Derived.Test.YtlekfoboolemgaaIt
import Derived.Test.YtlekfoboolemgaaF
import Derived.Test.YtlekfoboolemgaaJ
namespace Go.Proofs.Ytlekfoboolemgaa
open Go.RowKit Go.Sort

def okSec (s : Int) : Bool := decide (1 ≤ s) && decide (s ≤ 1296000)
def secB (xs : List Int) : Bool := (decide (1 ≤ xs.length) && decide (xs.length ≤ 72)) && xs.all okSec
def clo (xs : List Int) : Int := xs.foldl (· + ·) (-1296000)
theorem allI_take {f : Int → Bool} {xs : List Int} {k : Nat} {x : Int} (h : xs[k]? = some x) (ha : (xs.take k).all f = true) (hx : f x = true) : (xs.take (k + 1)).all f = true := by
  rw [List.take_add_one, h]
  simp only [Option.toList_some, List.all_append, ha, List.all_cons, List.all_nil, hx, Bool.and_true]
theorem allI_not {f : Int → Bool} {xs : List Int} {k : Nat} {x : Int} (h : xs[k]? = some x) (hx : f x = false) : xs.all f = false := by
  cases ha : xs.all f with
  | false => rfl
  | true =>
    have := List.all_eq_true.1 ha x (List.mem_of_getElem? h)
    rw [hx] at this; cases this
theorem allI_get {f : Int → Bool} {xs : List Int} {k : Nat} {x : Int} (h : xs[k]? = some x) (ha : xs.all f = true) : f x = true :=
  List.all_eq_true.1 ha x (List.mem_of_getElem? h)
theorem clo_step {xs : List Int} {k : Nat} {x : Int} (h : xs[k]? = some x) : clo (xs.take (k + 1)) = clo (xs.take k) + x := by
  unfold clo
  rw [List.take_add_one, h]
  simp [List.foldl_append]
theorem clo_bd : ∀ (xs : List Int) (k : Nat), xs.all okSec = true → k ≤ xs.length → -1296000 ≤ clo (xs.take k) ∧ clo (xs.take k) ≤ -1296000 + 1296000 * (k : Int)
  | xs, 0, _, _ => by simp [clo]
  | xs, k + 1, h, hk => by
    obtain ⟨x, hx⟩ : ∃ x, xs[k]? = some x := ⟨xs[k], List.getElem?_eq_getElem _⟩
    have h1 := clo_bd xs k h (by omega)
    have h2 := allI_get hx h
    rw [clo_step hx]
    unfold okSec at h2
    simp at h2
    omega
theorem sec_parts {xs : List Int} (h : secB xs = true) : 1 ≤ xs.length ∧ xs.length ≤ 72 ∧ xs.all okSec = true := by
  unfold secB at h
  simp only [Bool.and_eq_true, decide_eq_true_eq] at h
  exact ⟨h.1.1, h.1.2, h.2⟩

set_option maxRecDepth 20000 in
set_option maxHeartbeats 1000000 in
theorem sSectors_yes (A : Option Addr) (c : Nat) (xs : List Int) (w : World) (X : Hid (RdI w A xs)) (h : secB xs = true) :
    Calls Try.prog 76 #[.slice A xs.length c] w fun e w' => e = .returned (.int .i64 0) ∧ Gr w w' := by
  obtain ⟨h1, h2, h3⟩ := sec_parts h
  have hin : inB (xs.length : Int) 1 72 = true := by unfold inB; simp; omega
  have H3 := hid h3
  clear h h3
  go_enter Try.func76, Try.ntmps76
  go_wp2_with (go_at_call 47; refine (in_any _ _ _ _).mono ?_; rintro e w1 ⟨rfl, rfl⟩; rw [hin])
  go_loopw [3] (fun u wr => ∃ (k : Nat), u = .int .i64 (k : Int) ∧ k ≤ xs.length ∧ wr = w) (fun u _ => xs.length - (intOf u).toNat)
  case atStart => exact ⟨0, rfl, by omega, by simp⟩
  case round =>
    obtain ⟨k, rfl, hk, rfl⟩ := hrel
    by_cases hlt : k < xs.length
    · obtain ⟨p, hp⟩ : ∃ p, xs[k]? = some p := ⟨xs[k], List.getElem?_eq_getElem _⟩
      obtain ⟨ad, rfl, c1⟩ := X.out k p hp
      have hx : inB p 1 1296000 = true := show okSec p = true from allI_get hp H3.out
      clear hp
      go_wp2_with (go_at_call 47; refine (in_any _ _ _ _).mono ?_; rintro e w1 ⟨rfl, rfl⟩; rw [hx])
      exact ⟨⟨k + 1, by simp, by omega, by simp⟩, by simp [intOf]; omega⟩
    · go_wp2_with fail
      go_ret
      exact ⟨rfl, Gr.refl _⟩
set_option maxRecDepth 20000 in
set_option maxHeartbeats 1000000 in
theorem sSectors_no (A : Option Addr) (c : Nat) (xs : List Int) (w : World) (X : Hid (RdI w A xs)) (hn : xs.length ≤ 1048576) (h : secB xs = false) :
    Calls Try.prog 76 #[.slice A xs.length c] w fun e w' => e = .returned (.int .i64 2) ∧ Gr w w' := by
  by_cases hl : 1 ≤ xs.length ∧ xs.length ≤ 72
  · obtain ⟨h1, h2⟩ := hl
    have hin : inB (xs.length : Int) 1 72 = true := by unfold inB; simp; omega
    have h3 : xs.all okSec = false := by
      unfold secB at h
      simpa [h1, h2] using h
    have H3 := hid h3
    clear h h3
    go_enter Try.func76, Try.ntmps76
    go_wp2_with (go_at_call 47; refine (in_any _ _ _ _).mono ?_; rintro e w1 ⟨rfl, rfl⟩; rw [hin])
    go_loopw [3] (fun u wr => ∃ (k : Nat), u = .int .i64 (k : Int) ∧ k ≤ xs.length ∧ (xs.take k).all okSec = true ∧ wr = w) (fun u _ => xs.length - (intOf u).toNat)
    case atStart => exact ⟨0, rfl, by omega, by simp, by simp⟩
    case round =>
      obtain ⟨k, rfl, hk, ha, rfl⟩ := hrel
      have HA := hid ha; clear ha
      by_cases hlt : k < xs.length
      · obtain ⟨p, hp⟩ : ∃ p, xs[k]? = some p := ⟨xs[k], List.getElem?_eq_getElem _⟩
        obtain ⟨ad, rfl, c1⟩ := X.out k p hp
        have HP := hid hp; clear hp
        cases hx : inB p 1 1296000 with
        | true =>
          have HX := hid hx
          go_wp2_with (go_at_call 47; refine (in_any _ _ _ _).mono ?_; rintro e w1 ⟨rfl, rfl⟩; rw [HX.out])
          exact ⟨⟨k + 1, by simp, by omega, allI_take HP.out HA.out HX.out, by simp⟩, by simp [intOf]; omega⟩
        | false =>
          have HX := hid hx
          go_wp2_with (go_at_call 47; refine (in_any _ _ _ _).mono ?_; rintro e w1 ⟨rfl, rfl⟩; rw [HX.out])
          go_ret
          exact ⟨rfl, Gr.refl _⟩
      · exfalso
        have hke : k = xs.length := by omega
        have := HA.out
        rw [hke, List.take_length, H3.out] at this
        cases this
  · have hin : inB (xs.length : Int) 1 72 = false := by unfold inB; simp; omega
    clear h
    go_enter Try.func76, Try.ntmps76
    go_wp2_with (go_at_call 47; refine (in_any _ _ _ _).mono ?_; rintro e w1 ⟨rfl, rfl⟩; rw [hin])
    go_ret
    exact ⟨rfl, Gr.refl _⟩
set_option maxRecDepth 20000 in
set_option maxHeartbeats 1000000 in
theorem sClosing (A : Option Addr) (c : Nat) (xs : List Int) (w : World) (X : Hid (RdI w A xs)) (h : secB xs = true) :
    Calls Try.prog 77 #[.slice A xs.length c] w fun e w' => e = .returned (.int .i64 (clo xs)) ∧ w = w' := by
  obtain ⟨h1, h2, h3⟩ := sec_parts h
  have H3 := hid h3
  clear h h3
  go_enter Try.func77, Try.ntmps77
  go_wp2_with fail
  go_loopw [3, 4] (fun s u wr => ∃ (k : Nat), u = .int .i64 (k : Int) ∧ s = .int .i64 (clo (xs.take k)) ∧ k ≤ xs.length ∧ wr = w) (fun _ u _ => xs.length - (intOf u).toNat)
  case atStart => exact ⟨0, rfl, by simp [clo], by omega, by simp⟩
  case round =>
    obtain ⟨k, rfl, rfl, hk, rfl⟩ := hrel
    by_cases hlt : k < xs.length
    · obtain ⟨p, hp⟩ : ∃ p, xs[k]? = some p := ⟨xs[k], List.getElem?_eq_getElem _⟩
      obtain ⟨ad, rfl, c1⟩ := X.out k p hp
      obtain ⟨_, _⟩ := clo_bd xs k H3.out (by omega)
      have hx := allI_get hp H3.out
      unfold okSec at hx
      simp only [Bool.and_eq_true, decide_eq_true_eq] at hx
      obtain ⟨_, _⟩ := hx
      have HP := hid (clo_step hp); clear hp
      go_wp2_with fail
      exact ⟨⟨k + 1, by simp, by rw [HP.out], by omega, by simp⟩, by simp [intOf]; omega⟩
    · have hke : k = xs.length := by omega
      subst hke
      go_wp2_with fail
      go_ret
      exact ⟨ret_int (by simp), by simp⟩
set_option maxRecDepth 20000 in
set_option maxHeartbeats 400000 in
theorem iNone (s : Int) (w : World) : Calls Try.prog 78 #[.int .i64 s] w fun e w' => e = .returned (.bool (!okSec s)) ∧ w = w' := by
  unfold okSec
  by_cases h1 : s < 1
  · go_enter Try.func78, Try.ntmps78
    go_wp2
    go_ret
    exact ⟨ret_bool (by simp; omega), rfl⟩
  · have e : decide (1 ≤ s) = true := by simp; omega
    rw [e]
    go_enter Try.func78, Try.ntmps78
    go_wp2
    go_ret
    exact ⟨ret_bool (by by_cases h2 : s ≤ 1296000 <;> simp [h2] <;> omega), rfl⟩
set_option maxRecDepth 20000 in
set_option maxHeartbeats 1000000 in
theorem iIndexSec (A : Option Addr) (c : Nat) (xs : List Int) (w : World) (X : Hid (RdI w A xs)) (hn : xs.length ≤ 1048576) :
    Calls Try.prog 97 #[.slice A xs.length c, .func (.func 78) #[] #[]] w fun e w' => (∃ r : Int, e = .returned (.int .i64 r) ∧ decide (0 ≤ r) = !xs.all okSec) ∧ w = w' := by
  have hen : ∀ s w, (callFunc 78 #[.int .i64 s]).run Try.prog w = .ok (.enter 78 #[.int .i64 s]) w := fun s w => by kernel_rfl
  go_enter Try.func97, Try.ntmps97
  go_wp2_with fail
  go_loopw [8] (fun u wr => ∃ (k : Nat), u = .int .i64 (k : Int) ∧ k ≤ xs.length ∧ (xs.take k).all okSec = true ∧ wr = w) (fun u _ => xs.length - (intOf u).toNat)
  case atStart => exact ⟨0, rfl, by omega, by simp, by simp⟩
  case round =>
    obtain ⟨k, rfl, hk, ha, rfl⟩ := hrel
    have HA := hid ha; clear ha
    by_cases hlt : k < xs.length
    · obtain ⟨p, hp⟩ : ∃ p, xs[k]? = some p := ⟨xs[k], List.getElem?_eq_getElem _⟩
      obtain ⟨ad, rfl, c1⟩ := X.out k p hp
      have HP := hid hp; clear hp
      cases hx : okSec p with
      | true =>
        have HX := hid hx
        go_wp2_with (go_at_call 78; refine (iNone _ _).mono ?_; rintro e w1 ⟨rfl, rfl⟩; rw [HX.out])
        exact ⟨⟨k + 1, by simp, by omega, allI_take HP.out HA.out HX.out, by simp⟩, by simp [intOf]; omega⟩
      | false =>
        have HX := hid hx
        go_wp2_with (go_at_call 78; refine (iNone _ _).mono ?_; rintro e w1 ⟨rfl, rfl⟩; rw [HX.out])
        go_ret
        exact ⟨⟨_, rfl, by rw [allI_not HP.out HX.out]; simp⟩, rfl⟩
    · have hke : k = xs.length := by omega
      have hall : xs.all okSec = true := by have := HA.out; rwa [hke, List.take_length] at this
      have HALL := hid hall; clear hall hke
      go_wp2_with fail
      go_ret
      exact ⟨⟨_, rfl, by rw [HALL.out]; simp⟩, by simp⟩
set_option maxRecDepth 20000 in
set_option maxHeartbeats 1000000 in
theorem iContSec (A : Option Addr) (c : Nat) (xs : List Int) (w : World) (X : Hid (RdI w A xs)) (hn : xs.length ≤ 1048576) :
    Calls Try.prog 79 #[.slice A xs.length c, .func (.func 78) #[] #[]] w fun e w' => e = .returned (.bool (!xs.all okSec)) ∧ w = w' := by
  go_enter Try.func79, Try.ntmps79
  go_wp2_with fail
  refine (iIndexSec A c xs w X hn).mono ?_
  rintro e w1 ⟨⟨r, rfl, hr⟩, rfl⟩
  have HR := hid hr; clear hr
  go_wp2_with fail
  go_ret
  exact ⟨ret_bool (by rw [← HR.out]), rfl⟩
set_option maxRecDepth 20000 in
set_option maxHeartbeats 1000000 in
theorem iClosing_no (A : Option Addr) (c : Nat) (xs : List Int) (w : World) (X : Hid (RdI w A xs)) (hn : xs.length ≤ 1048576) (h : secB xs = false) :
    Calls Try.prog 39 #[.slice A xs.length c] w fun e w' => e = .returned (.tuple #[.int .i64 0, .int .i64 2]) ∧ w = w' := by
  by_cases h1 : xs.length < 1
  · clear h
    go_enter Try.func39, Try.ntmps39
    go_wp2_with fail
    go_ret2
    exact ⟨rfl, rfl⟩
  · by_cases h2 : 72 < xs.length
    · clear h
      go_enter Try.func39, Try.ntmps39
      go_wp2_with fail
      go_ret2
      exact ⟨rfl, rfl⟩
    · have h3 : xs.all okSec = false := by
        unfold secB at h
        simpa [show 1 ≤ xs.length by omega, show xs.length ≤ 72 by omega] using h
      have H3 := hid h3
      clear h h3
      go_enter Try.func39, Try.ntmps39
      go_wp2_with (go_at_call 79; refine (iContSec A c xs _ X hn).mono ?_; rintro e w1 ⟨rfl, rfl⟩; rw [H3.out])
      go_ret2
      exact ⟨rfl, rfl⟩
set_option maxRecDepth 20000 in
set_option maxHeartbeats 1000000 in
theorem iClosing_yes (A : Option Addr) (c : Nat) (xs : List Int) (w : World) (X : Hid (RdI w A xs)) (h : secB xs = true) :
    Calls Try.prog 39 #[.slice A xs.length c] w fun e w' => e = .returned (.tuple #[.int .i64 (clo xs), .int .i64 0]) ∧ w = w' := by
  obtain ⟨h1, h2, h3⟩ := sec_parts h
  have H3 := hid h3
  clear h h3
  go_enter Try.func39, Try.ntmps39
  go_wp2_with (go_at_call 79; refine (iContSec A c xs _ X (by omega)).mono ?_; rintro e w1 ⟨rfl, rfl⟩; rw [H3.out])
  go_loopw [5, 23] (fun s u wr => ∃ (k : Nat), u = .int .i64 (k : Int) ∧ s = .int .i64 (clo (xs.take k)) ∧ k ≤ xs.length ∧ wr = w) (fun _ u _ => xs.length - (intOf u).toNat)
  case atStart => exact ⟨0, rfl, by simp [clo], by omega, by simp⟩
  case round =>
    obtain ⟨k, rfl, rfl, hk, rfl⟩ := hrel
    by_cases hlt : k < xs.length
    · obtain ⟨p, hp⟩ : ∃ p, xs[k]? = some p := ⟨xs[k], List.getElem?_eq_getElem _⟩
      obtain ⟨ad, rfl, c1⟩ := X.out k p hp
      obtain ⟨_, _⟩ := clo_bd xs k H3.out (by omega)
      have hx := allI_get hp H3.out
      unfold okSec at hx
      simp only [Bool.and_eq_true, decide_eq_true_eq] at hx
      obtain ⟨_, _⟩ := hx
      have HP := hid (clo_step hp); clear hp
      go_wp2_with fail
      exact ⟨⟨k + 1, by simp, by rw [HP.out], by omega, by simp⟩, by simp [intOf]; omega⟩
    · have hke : k = xs.length := by omega
      subst hke
      go_wp2_with fail
      go_ret2
      exact ⟨by simp, by simp⟩
set_option maxRecDepth 20000 in
set_option maxHeartbeats 1000000 in
theorem sClosingOf_no (A : Option Addr) (c : Nat) (xs : List Int) (w : World) (X : Hid (RdI w A xs)) (hn : xs.length ≤ 1048576) (h : secB xs = false) :
    Calls Try.prog 37 #[.slice A xs.length c] w fun e w' => e = .returned (.tuple #[.int .i64 0, .int .i64 2]) ∧ Gr w w' := by
  go_enter Try.func37, Try.ntmps37
  go_wp2_with fail
  refine (sSectors_no A c xs _ X hn h).mono ?_
  rintro e w1 ⟨rfl, hg1⟩
  have G1 := hid (hg1)
  clear hg1
  go_wp2
  go_ret2
  exact ⟨rfl, G1.out⟩
set_option maxRecDepth 20000 in
set_option maxHeartbeats 1000000 in
theorem sClosingOf_yes (A : Option Addr) (c : Nat) (xs : List Int) (w : World) (X : Hid (RdI w A xs)) (h : secB xs = true) :
    Calls Try.prog 37 #[.slice A xs.length c] w fun e w' => e = .returned (.tuple #[.int .i64 (clo xs), .int .i64 0]) ∧ Gr w w' := by
  have H := hid h; clear h
  go_enter Try.func37, Try.ntmps37
  go_wp2_with fail
  refine (sSectors_yes A c xs _ X H.out).mono ?_
  rintro e w1 ⟨rfl, hg1⟩
  have G1 := hid (hg1)
  clear hg1
  go_wp2_with fail
  refine (sClosing A c xs _ (hid (X.out.keep G1.out)) H.out).mono ?_
  rintro e w2 ⟨rfl, rfl⟩
  go_wp2
  go_ret2
  exact ⟨rfl, G1.out⟩
theorem bothClosingOf (xs : List Int) (hn : xs.length ≤ 1048576) : ∃ R C : Int,
    (∀ (A : Option Addr) (c : Nat) (w : World), Hid (RdI w A xs) → Calls Try.prog 37 #[.slice A xs.length c] w fun e w' => e = .returned (.tuple #[.int .i64 R, .int .i64 C]) ∧ Gr w w') ∧
    (∀ (A : Option Addr) (c : Nat) (w : World), Hid (RdI w A xs) → Calls Try.prog 39 #[.slice A xs.length c] w fun e w' => e = .returned (.tuple #[.int .i64 R, .int .i64 C]) ∧ Gr w w') := by
  cases h : secB xs with
  | true => exact ⟨_, _, fun A c w X => sClosingOf_yes A c xs w X h, fun A c w X => (iClosing_yes A c xs w X h).mono fun e w' ⟨h1, h2⟩ => ⟨h1, h2 ▸ Gr.refl _⟩⟩
  | false => exact ⟨_, _, fun A c w X => sClosingOf_no A c xs w X hn h, fun A c w X => (iClosing_no A c xs w X hn h).mono fun e w' ⟨h1, h2⟩ => ⟨h1, h2 ▸ Gr.refl _⟩⟩
end Go.Proofs.Ytlekfoboolemgaa
