/- WALKS: fractions that are looked at, of the program and of the reference. -/
import Derived.Test.YtkeflpcokcfcjaaDoorSka
import Derived.Test.YtkeflpcokcfcjaaDoorFu
import Derived.Test.YtkeflpcokcfcjaaDoorN
namespace Go.Proofs.YtkeflpcokcfcjaaDoor
open Go.RowKit Go.Sort

def allF (xs : List (Int × Int)) : Bool := xs.all (fun x => okB x.1 x.2)
set_option maxRecDepth 20000 in
set_option maxHeartbeats 1000000 in
theorem sFracs (A : Option Addr) (c : Nat) (xs : List (Int × Int)) (w : World) (X : Hid (RdF w A xs)) (hn : xs.length ≤ 1048576) :
    Calls Tryd.prog 64 #[.slice A xs.length c] w fun e w' => e = .returned (.bool (allF xs)) ∧ Gr w w' := by
  go_enter Tryd.func64, Tryd.ntmps64
  go_wp2_with fail
  go_loopw [3] (fun u wr => ∃ (k : Nat), u = .int .i64 (k : Int) ∧ k ≤ xs.length ∧ Gr w wr ∧ (xs.take k).all (fun x => okB x.1 x.2) = true) (fun u _ => xs.length - (intOf u).toNat)
  case atStart => exact ⟨0, rfl, by omega, Gr.refl _, rfl⟩
  case round =>
    obtain ⟨k, rfl, hk, g0, ha⟩ := hrel
    have GW := hid g0; have HA := hid ha; clear g0 ha
    by_cases hlt : k < xs.length
    · obtain ⟨⟨p, q⟩, hpq⟩ : ∃ pq, xs[k]? = some pq := ⟨xs[k], List.getElem?_eq_getElem _⟩
      obtain ⟨ad, rfl, c1, c2⟩ := (X.out.keep GW.out) k p q hpq
      have HP := hid hpq; clear hpq
      cases hx : okB p q with
      | true =>
        have HX := hid hx; clear hx
        go_wp2_with fail
        refine (sok_t _ _ _ HX.out).mono ?_
        rintro e w1 ⟨rfl, hg1⟩
        have G1 := hid (GW.out.trans hg1)
        clear hg1
        go_wp2_with fail
        exact ⟨⟨k + 1, by simp, by omega, G1.out, all_take HP.out HA.out HX.out⟩, by simp [intOf]; omega⟩
      | false =>
        have HX := hid hx; clear hx
        go_wp2_with fail
        refine (sok_f _ _ _ HX.out).mono ?_
        rintro e w1 ⟨rfl, hg1⟩
        have G1 := hid (GW.out.trans hg1)
        clear hg1
        go_wp2
        go_ret
        exact ⟨ret_bool (by unfold allF; rw [all_not HP.out HX.out]), G1.out⟩
    · have hke : k = xs.length := by omega
      have hall : allF xs = true := by
        have h := HA.out
        rw [hke] at h
        simpa [allF] using h
      have HALL := hid hall
      clear hke hall
      go_wp2
      go_ret
      exact ⟨ret_bool (by rw [HALL.out]), GW.out⟩
end Go.Proofs.YtkeflpcokcfcjaaDoor
