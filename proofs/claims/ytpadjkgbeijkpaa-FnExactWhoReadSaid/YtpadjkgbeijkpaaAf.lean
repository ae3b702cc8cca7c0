/- WALKS: fractions that are looked at, of the program and of the reference. -/
import Derived.Test.YtpadjkgbeijkpaaSka
import Derived.Test.YtpadjkgbeijkpaaFu
import Derived.Test.YtpadjkgbeijkpaaN
namespace Go.Proofs.Ytpadjkgbeijkpaa
open Go.RowKit Go.Sort

def allF (xs : List (Int × Int)) : Bool := xs.all (fun x => okB x.1 x.2)
set_option maxRecDepth 20000 in
set_option maxHeartbeats 1000000 in
theorem sFracs (A : Option Addr) (c : Nat) (xs : List (Int × Int)) (w : World) (X : Hid (RdF w A xs)) (hn : xs.length ≤ 1048576) :
    Calls Try.prog 75 #[.slice A xs.length c] w fun e w' => e = .returned (.bool (allF xs)) ∧ Gr w w' := by
  go_enter Try.func75, Try.ntmps75
  go_wp2_with fail
  go_loopw [3] (fun u wr => ∃ (k : Nat), u = .int .i64 (k : Int) ∧ k ≤ xs.length ∧ Gr w wr ∧ (xs.take k).all (fun x => okB x.1 x.2) = true) (fun u _ => xs.length - (intOf u).toNat)
  case atStart => exact ⟨0, rfl, by omega, Gr.refl _, rfl⟩
  case round =>
    obtain ⟨k, rfl, hk, g0, ha⟩ := hrel
    have GW := hid g0; have HA := hid ha; clear g0 ha
    by_cases hlt : k < xs.length
    · obtain ⟨⟨p, q⟩, hpq⟩ : ∃ pq, xs[k]? = some pq := ⟨xs[k], List.getElem?_eq_getElem _⟩
      obtain ⟨ad, rfl, c1, c2⟩ := (X.out.keep GW.out) k p q hpq
      have HP := hid hpq; clear hpq
      cases hx : okB p q with
      | true =>
        have HX := hid hx; clear hx
        go_wp2_with fail
        refine (sok_t _ _ _ HX.out).mono ?_
        rintro e w1 ⟨rfl, hg1⟩
        have G1 := hid (GW.out.trans hg1)
        clear hg1
        go_wp2_with fail
        exact ⟨⟨k + 1, by simp, by omega, G1.out, all_take HP.out HA.out HX.out⟩, by simp [intOf]; omega⟩
      | false =>
        have HX := hid hx; clear hx
        go_wp2_with fail
        refine (sok_f _ _ _ HX.out).mono ?_
        rintro e w1 ⟨rfl, hg1⟩
        have G1 := hid (GW.out.trans hg1)
        clear hg1
        go_wp2
        go_ret
        exact ⟨ret_bool (by unfold allF; rw [all_not HP.out HX.out]), G1.out⟩
    · have hke : k = xs.length := by omega
      have hall : allF xs = true := by
        have h := HA.out
        rw [hke] at h
        simpa [allF] using h
      have HALL := hid hall
      clear hke hall
      go_wp2
      go_ret
      exact ⟨ret_bool (by rw [HALL.out]), GW.out⟩
set_option maxRecDepth 20000 in
set_option maxHeartbeats 400000 in
theorem iNotF (p q : Int) (w : World) : Calls Try.prog 137 #[fr p q] w fun e w' => e = .returned (.bool (!okB p q)) ∧ Gr w w' := by
  go_enter Try.func137, Try.ntmps137
  go_wp2_with fail
  refine (iok_any p q _).mono ?_
  rintro e w1 ⟨rfl, hg1⟩
  obtain ⟨x1_0, hz1, g1⟩ := alloc1 hg1
  obtain ⟨_, _⟩ := cells2 x1_0
  have _ := fz x1_0
  have _ := ltb x1_0
  have X1_0 := hid x1_0; clear x1_0
  have G1 := hid (g1)
  clear hg1 g1
  go_wp2
  go_ret
  exact ⟨rfl, G1.out⟩
set_option maxRecDepth 20000 in
set_option maxHeartbeats 1000000 in
theorem iIndexQ (A : Option Addr) (c : Nat) (xs : List (Int × Int)) (w : World) (X : Hid (RdF w A xs)) (hn : xs.length ≤ 1048576) :
    Calls Try.prog 142 #[.slice A xs.length c, .func (.func 137) #[] #[]] w fun e w' => (∃ r : Int, e = .returned (.int .i64 r) ∧ decide (0 ≤ r) = !allF xs) ∧ Gr w w' := by
  have hen : ∀ p q w, (callFunc 137 #[fr p q]).run Try.prog w = .ok (.enter 137 #[fr p q]) w := fun p q w => by kernel_rfl
  have hno := hid fun (p q : Int) (w : World) (h : okB p q = false) => (iNotF p q w).mono (R' := fun e w' => e = .returned (.bool true) ∧ Gr w w') fun e w' hh => ⟨by rw [hh.1, h]; rfl, hh.2⟩
  have hyes := hid fun (p q : Int) (w : World) (h : okB p q = true) => (iNotF p q w).mono (R' := fun e w' => e = .returned (.bool false) ∧ Gr w w') fun e w' hh => ⟨by rw [hh.1, h]; rfl, hh.2⟩
  go_enter Try.func142, Try.ntmps142
  go_wp2_with fail
  go_loopw [8] (fun u wr => ∃ (k : Nat), u = .int .i64 (k : Int) ∧ k ≤ xs.length ∧ Gr w wr ∧ (xs.take k).all (fun x => okB x.1 x.2) = true) (fun u _ => xs.length - (intOf u).toNat)
  case atStart => exact ⟨0, rfl, by omega, Gr.refl _, rfl⟩
  case round =>
    obtain ⟨k, rfl, hk, g0, ha⟩ := hrel
    have GW := hid g0; have HA := hid ha; clear g0 ha
    by_cases hlt : k < xs.length
    · obtain ⟨⟨p, q⟩, hpq⟩ : ∃ pq, xs[k]? = some pq := ⟨xs[k], List.getElem?_eq_getElem _⟩
      obtain ⟨ad, rfl, c1, c2⟩ := (X.out.keep GW.out) k p q hpq
      have HP := hid hpq; clear hpq
      cases hx : okB p q with
      | true =>
        have HX := hid hx; clear hx
        go_wp2_with fail
        refine (hyes.out p q _ HX.out).mono ?_
        rintro e w1 ⟨rfl, hg1⟩
        have G1 := hid (GW.out.trans hg1)
        clear hg1
        go_wp2_with fail
        exact ⟨⟨k + 1, by simp, by omega, G1.out, all_take HP.out HA.out HX.out⟩, by simp [intOf]; omega⟩
      | false =>
        have HX := hid hx; clear hx
        go_wp2_with fail
        refine (hno.out p q _ HX.out).mono ?_
        rintro e w1 ⟨rfl, hg1⟩
        have G1 := hid (GW.out.trans hg1)
        clear hg1
        go_wp2
        go_ret
        exact ⟨⟨_, rfl, by unfold allF; rw [all_not HP.out HX.out]; simp⟩, G1.out⟩
    · have hke : k = xs.length := by omega
      have hall : allF xs = true := by
        have h := HA.out
        rw [hke] at h
        simpa [allF] using h
      have HALL := hid hall
      clear hke hall
      go_wp2
      go_ret
      exact ⟨⟨_, rfl, by rw [HALL.out]; simp⟩, GW.out⟩
set_option maxRecDepth 20000 in
set_option maxHeartbeats 400000 in
theorem iContQ (A : Option Addr) (c : Nat) (xs : List (Int × Int)) (w : World) (X : Hid (RdF w A xs)) (hn : xs.length ≤ 1048576) :
    Calls Try.prog 89 #[.slice A xs.length c, .func (.func 137) #[] #[]] w fun e w' => e = .returned (.bool (!allF xs)) ∧ Gr w w' := by
  go_enter Try.func89, Try.ntmps89
  go_wp2_with fail
  refine (iIndexQ A c xs w X hn).mono ?_
  rintro e w1 ⟨⟨r, rfl, hr⟩, hg⟩
  have HR := hid hr; have HG := hid hg; clear hr hg
  go_wp2_with fail
  go_ret
  exact ⟨ret_bool (by rw [← HR.out]), HG.out⟩
set_option maxRecDepth 20000 in
set_option maxHeartbeats 400000 in
theorem iFracs (A : Option Addr) (c : Nat) (xs : List (Int × Int)) (w : World) (X : Hid (RdF w A xs)) (hn : xs.length ≤ 1048576) :
    Calls Try.prog 81 #[.slice A xs.length c] w fun e w' => e = .returned (.bool (allF xs)) ∧ Gr w w' := by
  have HC := hid (iContQ A c xs w X hn)
  obtain ⟨r, hr⟩ : ∃ r, allF xs = r := ⟨_, rfl⟩
  rw [hr] at HC
  rw [hr]
  go_enter Try.func81, Try.ntmps81
  go_wp2_with fail
  refine (HC.out).mono ?_
  rintro e w1 ⟨rfl, hg1⟩
  have G1 := hid (hg1)
  clear hg1
  go_wp2
  go_ret
  exact ⟨ret_bool (by simp), G1.out⟩

end Go.Proofs.Ytpadjkgbeijkpaa
