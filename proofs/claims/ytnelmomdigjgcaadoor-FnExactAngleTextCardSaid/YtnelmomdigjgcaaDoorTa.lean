/- TEXTS of angles. -/
import Derived.Test.YtnelmomdigjgcaaDoorTx
import Derived.Test.YtnelmomdigjgcaaDoorYa
namespace Go.Proofs.YtnelmomdigjgcaaDoor
open Go.RowKit Go.Sort

/-- A number with two digits. -/
def twoB (r : Nat) : ByteArray := dec (r / 10) ++ dec (r % 10)
theorem twoB_lt {r : Nat} (h : r < 10) : twoB r = ⟨#[48]⟩ ++ dec r := by
  unfold twoB
  rw [show r / 10 = 0 by omega, show r % 10 = r by omega, dec_lt (n := 0) (by omega)]
  rfl
theorem twoB_ge {r : Nat} (h : ¬ r < 10) : twoB r = dec r := by
  rw [dec_ge h, show dgB (r % 10) = dec (r % 10) from (dec_lt (Nat.mod_lt _ (by omega))).symm]
  rfl
theorem twoB_size (r : Nat) (h : r ≤ 9223372036854775807) : (twoB r).size ≤ 42 := by
  have h1 := dec_size (r / 10) (by omega)
  have h2 := dec_size (r % 10) (by omega)
  unfold twoB
  rw [ByteArray.size_append]
  omega
set_option maxRecDepth 20000 in
set_option maxHeartbeats 1000000 in
theorem iTwo (r : Nat) (w : World) (T : Hid (Pow w)) (h : r < 100) : Calls Tryd.prog 33 #[.int .i64 (r : Int)] w fun e w' => e = .returned (.string (twoB r)) ∧ Gr w w' := by
  have hs := dec_size r (by omega)
  have HF := hid fun (w : World) (T : Hid (Pow w)) => iFmt (r : Int) w T (by omega) (by omega)
  rw [txt_nat] at HF
  by_cases h9 : r < 10
  · have HV := hid (twoB_lt h9)
    go_enter Tryd.func33, Tryd.ntmps33
    go_wp2_with fail
    refine (HF.out _ T).mono ?_
    rintro e w1 ⟨rfl, hg1⟩
    have G1 := hid (hg1)
    clear hg1
    go_wp2
    go_ret
    exact ⟨by rw [HV.out]; rfl, G1.out⟩
  · have HV := hid (twoB_ge h9)
    go_enter Tryd.func33, Tryd.ntmps33
    go_wp2_with fail
    refine (HF.out _ T).mono ?_
    rintro e w1 ⟨rfl, hg1⟩
    have G1 := hid (hg1)
    clear hg1
    go_wp2
    go_ret
    exact ⟨by rw [HV.out]; rfl, G1.out⟩
set_option maxRecDepth 20000 in
set_option maxHeartbeats 1000000 in
theorem sTwo (r : Nat) (w : World) (h : r < 100) : Calls Tryd.prog 30 #[.int .i64 (r : Int)] w fun e w' => e = .returned (.string (twoB r)) ∧ Gr w w' := by
  have hd : Int.tdiv (r : Int) 10 = ((r / 10 : Nat) : Int) := by rw [Int.tdiv_eq_ediv_of_nonneg (by omega)]; omega
  have hm : Int.tmod (r : Int) 10 = ((r % 10 : Nat) : Int) := by rw [Int.tmod_eq_emod_of_nonneg (by omega)]; omega
  have HV : Hid (twoB r = dec (r / 10) ++ dec (r % 10)) := hid rfl
  have hs1 := dec_size (r / 10) (by omega)
  have hs2 := dec_size (r % 10) (by omega)
  have hb1 : r / 10 < 10 := by omega
  have hb2 : r % 10 < 10 := by omega
  obtain ⟨x, hx⟩ : ∃ x, r / 10 = x := ⟨_, rfl⟩
  obtain ⟨y, hy⟩ : ∃ y, r % 10 = y := ⟨_, rfl⟩
  rw [hx] at hd hs1 hb1 HV
  rw [hy] at hm hs2 hb2 HV
  clear hx hy
  go_enter Tryd.func30, Tryd.ntmps30
  go_wp2_with fail
  refine (sDec x _ (by omega)).mono ?_
  rintro e w1 ⟨rfl, hg1⟩
  have G1 := hid (hg1)
  clear hg1
  go_wp2_with fail
  refine (sDec y _ (by omega)).mono ?_
  rintro e w2 ⟨rfl, hg2⟩
  have G2 := hid (G1.out.trans hg2)
  clear hg2
  go_wp2
  go_ret
  exact ⟨by rw [HV.out]; rfl, G2.out⟩
/-- The text of an angle. -/
def angT (a : Nat) : ByteArray := dec (a / 3600) ++ ⟨#[58]⟩ ++ twoB (a / 60 % 60) ++ ⟨#[58]⟩ ++ twoB (a % 60)
theorem iang_is (n : Int) (r : Bool) (w : World) (h : angB n = r) : Calls Tryd.prog 31 #[.int .i64 n] w fun e w' => e = .returned (.bool r) ∧ Gr w w' :=
  (iang n w).mono fun e w' ⟨he, hw⟩ => ⟨by rw [he, h], by subst hw; exact Gr.refl _⟩
theorem sang_is (n : Int) (r : Bool) (w : World) (h : angB n = r) : Calls Tryd.prog 28 #[.int .i64 n] w fun e w' => e = .returned (.bool r) ∧ Gr w w' :=
  (sang n w).mono fun e w' ⟨he, hw⟩ => ⟨by rw [he, h], by subst hw; exact Gr.refl _⟩
set_option maxRecDepth 20000 in
set_option maxHeartbeats 2000000 in
theorem iAngT (a : Nat) (w : World) (T : Hid (Pow w)) (h : a < 1296000) (hA : angB (a : Int) = true) : Calls Tryd.prog 9 #[.int .i64 (a : Int)] w fun e w' => e = .returned (.string (angT a)) ∧ Gr w w' := by
  have HA := hid fun (w : World) => iang_is (a : Int) true w hA
  clear hA
  have hd1 : Int.tdiv (a : Int) 3600 = ((a / 3600 : Nat) : Int) := by rw [Int.tdiv_eq_ediv_of_nonneg (by omega)]; omega
  have hd2 : Int.tdiv (a : Int) 60 = ((a / 60 : Nat) : Int) := by rw [Int.tdiv_eq_ediv_of_nonneg (by omega)]; omega
  have hm1 : Int.tmod ((a / 60 : Nat) : Int) 60 = ((a / 60 % 60 : Nat) : Int) := by rw [Int.tmod_eq_emod_of_nonneg (by omega)]; omega
  have hm2 : Int.tmod (a : Int) 60 = ((a % 60 : Nat) : Int) := by rw [Int.tmod_eq_emod_of_nonneg (by omega)]; omega
  have HV : Hid (angT a = dec (a / 3600) ++ ⟨#[58]⟩ ++ twoB (a / 60 % 60) ++ ⟨#[58]⟩ ++ twoB (a % 60)) := hid rfl
  have b1 : a / 3600 < 1000000 := by omega
  have b2 : a / 60 % 60 < 60 := by omega
  have b3 : a % 60 < 60 := by omega
  have b4 : a / 60 < 1000000 := by omega
  obtain ⟨x, hx⟩ : ∃ x, a / 3600 = x := ⟨_, rfl⟩
  obtain ⟨z, hz⟩ : ∃ z, a % 60 = z := ⟨_, rfl⟩
  obtain ⟨y, hy⟩ : ∃ y, a / 60 % 60 = y := ⟨_, rfl⟩
  obtain ⟨v, hv⟩ : ∃ v, a / 60 = v := ⟨_, rfl⟩
  rw [hy] at HV hm1 b2
  rw [hv] at hd2 hm1 b4
  rw [hx] at hd1 HV b1
  rw [hz] at hm2 HV b3
  clear hx hy hz hv
  have hs1 := dec_size x (by omega)
  have hs2 := twoB_size y (by omega)
  have hs3 := twoB_size z (by omega)
  have HF := hid fun (w : World) (T : Hid (Pow w)) => iFmt (x : Int) w T (by omega) (by omega)
  rw [txt_nat] at HF
  go_enter Tryd.func9, Tryd.ntmps9
  go_wp2_with fail
  refine (HA.out _).mono ?_
  rintro e w1 ⟨rfl, hg1⟩
  have G1 := hid (hg1)
  clear hg1
  go_wp2_with fail
  refine (HF.out _ (hid (T.out.keep G1.out))).mono ?_
  rintro e w2 ⟨rfl, hg2⟩
  have G2 := hid (G1.out.trans hg2)
  clear hg2
  go_wp2_with fail
  refine (iTwo y _ (hid (T.out.keep G2.out)) (by omega)).mono ?_
  rintro e w3 ⟨rfl, hg3⟩
  have G3 := hid (G2.out.trans hg3)
  clear hg3
  go_wp2_with fail
  refine (iTwo z _ (hid (T.out.keep G3.out)) (by omega)).mono ?_
  rintro e w4 ⟨rfl, hg4⟩
  have G4 := hid (G3.out.trans hg4)
  clear hg4
  go_wp2
  go_ret
  exact ⟨by rw [HV.out]; rfl, G4.out⟩
set_option maxRecDepth 20000 in
set_option maxHeartbeats 2000000 in
theorem sAngT (a : Nat) (w : World) (h : a < 1296000) (hA : angB (a : Int) = true) : Calls Tryd.prog 8 #[.int .i64 (a : Int)] w fun e w' => e = .returned (.string (angT a)) ∧ Gr w w' := by
  have HA := hid fun (w : World) => sang_is (a : Int) true w hA
  clear hA
  have hd1 : Int.tdiv (a : Int) 3600 = ((a / 3600 : Nat) : Int) := by rw [Int.tdiv_eq_ediv_of_nonneg (by omega)]; omega
  have hd2 : Int.tdiv (a : Int) 60 = ((a / 60 : Nat) : Int) := by rw [Int.tdiv_eq_ediv_of_nonneg (by omega)]; omega
  have hm1 : Int.tmod ((a / 60 : Nat) : Int) 60 = ((a / 60 % 60 : Nat) : Int) := by rw [Int.tmod_eq_emod_of_nonneg (by omega)]; omega
  have hm2 : Int.tmod (a : Int) 60 = ((a % 60 : Nat) : Int) := by rw [Int.tmod_eq_emod_of_nonneg (by omega)]; omega
  have HV : Hid (angT a = dec (a / 3600) ++ ⟨#[58]⟩ ++ twoB (a / 60 % 60) ++ ⟨#[58]⟩ ++ twoB (a % 60)) := hid rfl
  have b1 : a / 3600 < 1000000 := by omega
  have b2 : a / 60 % 60 < 60 := by omega
  have b3 : a % 60 < 60 := by omega
  have b4 : a / 60 < 1000000 := by omega
  obtain ⟨x, hx⟩ : ∃ x, a / 3600 = x := ⟨_, rfl⟩
  obtain ⟨z, hz⟩ : ∃ z, a % 60 = z := ⟨_, rfl⟩
  obtain ⟨y, hy⟩ : ∃ y, a / 60 % 60 = y := ⟨_, rfl⟩
  obtain ⟨v, hv⟩ : ∃ v, a / 60 = v := ⟨_, rfl⟩
  rw [hy] at HV hm1 b2
  rw [hv] at hd2 hm1 b4
  rw [hx] at hd1 HV b1
  rw [hz] at hm2 HV b3
  clear hx hy hz hv
  have hs1 := dec_size x (by omega)
  have hs2 := twoB_size y (by omega)
  have hs3 := twoB_size z (by omega)
  go_enter Tryd.func8, Tryd.ntmps8
  go_wp2_with fail
  refine (HA.out _).mono ?_
  rintro e w1 ⟨rfl, hg1⟩
  have G1 := hid (hg1)
  clear hg1
  go_wp2_with fail
  refine (sDec x _ (by omega)).mono ?_
  rintro e w2 ⟨rfl, hg2⟩
  have G2 := hid (G1.out.trans hg2)
  clear hg2
  go_wp2_with fail
  refine (sTwo y _ (by omega)).mono ?_
  rintro e w3 ⟨rfl, hg3⟩
  have G3 := hid (G2.out.trans hg3)
  clear hg3
  go_wp2_with fail
  refine (sTwo z _ (by omega)).mono ?_
  rintro e w4 ⟨rfl, hg4⟩
  have G4 := hid (G3.out.trans hg4)
  clear hg4
  go_wp2
  go_ret
  exact ⟨by rw [HV.out]; rfl, G4.out⟩
set_option maxRecDepth 20000 in
set_option maxHeartbeats 1000000 in
theorem iAngT_no (n : Int) (w : World) (hA : angB n = false) : Calls Tryd.prog 9 #[.int .i64 n] w fun e w' => e = .returned (.string ⟨#[]⟩) ∧ Gr w w' := by
  have HA := hid fun (w : World) => iang_is n false w hA
  clear hA
  go_enter Tryd.func9, Tryd.ntmps9
  go_wp2_with fail
  refine (HA.out _).mono ?_
  rintro e w1 ⟨rfl, hg1⟩
  have G1 := hid (hg1)
  clear hg1
  go_wp2
  go_ret
  exact ⟨rfl, G1.out⟩
set_option maxRecDepth 20000 in
set_option maxHeartbeats 1000000 in
theorem sAngT_no (n : Int) (w : World) (hA : angB n = false) : Calls Tryd.prog 8 #[.int .i64 n] w fun e w' => e = .returned (.string ⟨#[]⟩) ∧ Gr w w' := by
  have HA := hid fun (w : World) => sang_is n false w hA
  clear hA
  go_enter Tryd.func8, Tryd.ntmps8
  go_wp2_with fail
  refine (HA.out _).mono ?_
  rintro e w1 ⟨rfl, hg1⟩
  have G1 := hid (hg1)
  clear hg1
  go_wp2
  go_ret
  exact ⟨rfl, G1.out⟩
theorem bothAngleText (n : Int) : ∃ S : ByteArray, (∀ w, Calls Tryd.prog 8 #[.int .i64 n] w fun e w' => e = .returned (.string S) ∧ Gr w w') ∧ (∀ w, Hid (Pow w) → Calls Tryd.prog 9 #[.int .i64 n] w fun e w' => e = .returned (.string S) ∧ Gr w w') := by
  cases hA : angB n with
  | true =>
    have hb : 0 ≤ n ∧ n ≤ 1295999 := by unfold angB at hA; simpa using hA
    obtain ⟨a, rfl⟩ := Int.eq_ofNat_of_zero_le hb.1
    exact ⟨angT a, fun w => sAngT a w (by omega) hA, fun w T => iAngT a w T (by omega) hA⟩
  | false => exact ⟨⟨#[]⟩, fun w => sAngT_no n w hA, fun w _ => iAngT_no n w hA⟩
end Go.Proofs.YtnelmomdigjgcaaDoor
