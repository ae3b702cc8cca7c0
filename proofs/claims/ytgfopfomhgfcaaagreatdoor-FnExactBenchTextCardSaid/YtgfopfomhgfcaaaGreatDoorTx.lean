/- TEXTS of numbers and fractions: the program by the shelf's contract of strconv.FormatInt, the reference by its own recursion. (The seat's Shelf: IMPORTS="Derived.Shelf.Strconv.Itoa4" shelf.sh 'LaysM.n173 Nm 173 strconv.FormatInt formatI'.) -/
import Derived.Test.YtgfopfomhgfcaaaGreatDoorX1
import Derived.Test.YtgfopfomhgfcaaaGreatDoorMt
import Derived.Test.YtgfopfomhgfcaaaGreatDoorShelf
import Derived.Lib.LaidTab
import Derived.Lib.ItoaMem
import Derived.Lib.ItoaLen
import Derived.Lib.SmallJoins
namespace Go.Proofs.YtgfopfomhgfcaaaGreatDoor
open Go.RowKit Go.Sort

theorem ba_app (a b : Array UInt8) : (⟨a⟩ ++ ⟨b⟩ : ByteArray) = ⟨a ++ b⟩ := by
  apply ByteArray.ext
  simp
/-- The digits of a number. -/
def dec (n : Nat) : ByteArray := ⟨(Lib.decDigits n).toArray⟩
theorem dec_lt {n : Nat} (h : n < 10) : dec n = ⟨#[UInt8.ofNat (48 + n)]⟩ := by unfold dec; rw [Lib.decDigits_one h]
/-- A digit. -/
def dgB (r : Nat) : ByteArray := ⟨#[UInt8.ofNat (48 + r)]⟩
theorem dec_ge {n : Nat} (h : ¬ n < 10) : dec n = dec (n / 10) ++ dgB (n % 10) := by
  unfold dec dgB
  rw [ba_app, Lib.decDigits, dif_neg h]
  simp
/-- The text of a number. -/
def txt (n : Int) : ByteArray := ⟨(Lib.itoa n).toArray⟩
theorem txt_nat (n : Nat) : txt (n : Int) = dec n := by unfold txt dec; rw [Lib.itoa_nonneg]
theorem txt_neg {p : Int} (h : p < 0) : txt p = ⟨#[45]⟩ ++ dec p.natAbs := by
  unfold txt dec Lib.itoa
  rw [if_pos h, ba_app]
  simp
theorem al_top (w : World) (o : Obj) : (w.alloc o).heap[w.heap.size]? = some o := Array.getElem?_push_size
theorem dg_conv (r : Nat) (h : r < 10) (b : Nat) (w1 : World) (hb : w1.heap[b]? = some (.cells #[.int .u8 (48 + (r : Int))] 5)) : (convert 134 9 (.slice (some ⟨b, 0, none⟩) 1 1)).run Tryz.prog w1 = .ok (.string (dgB r)) w1 := by
  refine run_convert_bytes_back _ _ _ 5 ⟨b, 0, none⟩ 1 [UInt8.ofNat (48 + r)] Tryz.underlying134 Tryz.underlying5 Tryz.underlying9 fun j hj => ?_
  have hj0 : j = 0 := by simpa using hj
  subst hj0
  have hd : (((UInt8.ofNat (48 + r)).toNat : Nat) : Int) = 48 + (r : Int) := by
    rw [UInt8.toNat_ofNat']
    omega
  simp only [List.getElem_cons_zero, hd]
  exact cells1 hb
theorem txt_size {n : Int} (h0 : -9223372036854775808 ≤ n) (h1 : n ≤ 9223372036854775807) : (txt n).size ≤ 21 := by
  have := Lib.itoa_length_le n h0 h1
  unfold txt
  show ((Lib.itoa n).toArray).size ≤ 21
  simpa using this
theorem dec_size (n : Nat) (h : n ≤ 9223372036854775807) : (dec n).size ≤ 21 := by
  rw [← txt_nat]
  exact txt_size (by omega) (by omega)
set_option maxRecDepth 20000 in
set_option maxHeartbeats 2000000 in
theorem sDec (n : Nat) : ∀ (w : World), n ≤ 9223372036854775807 → Calls Tryz.prog 73 #[.int .i64 (n : Int)] w fun e w' => e = .returned (.string (dec n)) ∧ Gr w w' := by
  induction n using Nat.strongRecOn with
  | _ n ih =>
  intro w hn
  by_cases h : n < 10
  · have hx := mt_conv (48 + (n : Int)) (by omega) (by omega) w
    have hm : Int.tmod (n : Int) 10 = (n : Int) := by rw [Int.tmod_eq_emod_of_nonneg (by omega)]; omega
    have hv : (48 + (n : Int)).toNat = 48 + n := by omega
    rw [hv, ← dec_lt h] at hx
    clear hv
    go_enter Tryz.func73, Tryz.ntmps73
    go_wp2
    go_ret
    exact ⟨rfl, (Gr.refl w).al _⟩
  · have IH := hid fun w' => ih (n / 10) (by omega) w' (by omega)
    have hq3 : IntKind.i64.wrap ((n / 10 : Nat) : Int) = ((n / 10 : Nat) : Int) := IntWalk.i64_in _ (by omega)
    have hr3 : IntKind.i64.wrap (48 + ((n % 10 : Nat) : Int)) = 48 + ((n % 10 : Nat) : Int) := IntWalk.i64_in _ (by omega)
    have hr4 : IntKind.u8.wrap (48 + ((n % 10 : Nat) : Int)) = 48 + ((n % 10 : Nat) : Int) := IntWalk.u8_in _ (by omega)
    have hd : Int.tdiv (n : Int) 10 = ((n / 10 : Nat) : Int) := by rw [Int.tdiv_eq_ediv_of_nonneg (by omega)]; omega
    have hm : Int.tmod (n : Int) 10 = ((n % 10 : Nat) : Int) := by rw [Int.tmod_eq_emod_of_nonneg (by omega)]; omega
    have hr : n % 10 < 10 := Nat.mod_lt _ (by omega)
    have HV := hid (dec_ge h)
    clear ih
    obtain ⟨q, hq⟩ : ∃ q, n / 10 = q := ⟨_, rfl⟩
    obtain ⟨r, hr2⟩ : ∃ r, n % 10 = r := ⟨_, rfl⟩
    rw [hq, hr2] at HV
    have hq9 : n / 10 ≤ 9223372036854775807 := by omega
    rw [hq] at IH hd hq3 hq9
    rw [hr2] at hm hr hr3 hr4
    clear hq hr2
    have HC := hid fun (w1 : World) hb => dg_conv r hr w.heap.size w1 hb
    have hx : ∀ w : World, (convert 134 9 (.slice (some ⟨w.heap.size, 0, none⟩) 1 1)).run Tryz.prog (w.alloc (.cells #[.int .u8 (48 + (r : Int))] 5)) = .ok (.string (dgB r)) (w.alloc (.cells #[.int .u8 (48 + (r : Int))] 5)) := fun w => dg_conv r hr _ _ (al_top _ _)
    have hx2 : ∀ w : World, (convert 134 9 (.slice (some ⟨w.heap.size, 0, none⟩) 1 1)).run Tryz.prog (w.alloc (.cells #[.int .u8 (48 + (r : Int))] 5)).drew = .ok (.string (dgB r)) (w.alloc (.cells #[.int .u8 (48 + (r : Int))] 5)).drew := fun w => dg_conv r hr _ (w.alloc _).drew (al_top w _)
    have hs1 : (dec q).size ≤ 21 := dec_size _ hq9
    have hs2 : (dgB r).size = 1 := rfl
    go_enter Tryz.func73, Tryz.ntmps73
    go_wp2_with fail
    go_region_with (go_at_call 73; refine (IH.out _).mono ?_; rintro e w1 ⟨rfl, hg1⟩; (try (have hc1 := HC.out w1 (hg1.keep (al_top _ _)))); have G1 := hid hg1; clear hg1)
    all_goals
      go_wp2
      go_ret
      refine ⟨by rw [HV.out]; rfl, ?_⟩
      first
        | exact ((Gr.drew _).trans G1.out).al _
        | exact (((Gr.refl w).al _).trans (Gr.drew _)).trans G1.out
set_option maxRecDepth 20000 in
set_option maxHeartbeats 1000000 in
theorem sSigned (p : Int) (w : World) (h1 : -9223372036854775807 ≤ p) (h2 : p ≤ 9223372036854775807) : Calls Tryz.prog 108 #[.int .i64 p] w fun e w' => e = .returned (.string (txt p)) ∧ Gr w w' := by
  by_cases h : p < 0
  · obtain ⟨n, hn⟩ : ∃ n : Nat, -p = (n : Int) := ⟨p.natAbs, by omega⟩
    have HV : Hid (txt p = ⟨#[45]⟩ ++ dec n) := hid (by rw [txt_neg h, show p.natAbs = n by omega])
    have hs1 : (dec n).size ≤ 21 := dec_size n (by omega)
    go_enter Tryz.func108, Tryz.ntmps108
    go_wp2_with fail
    refine (sDec n _ (by omega)).mono ?_
    rintro e w1 ⟨rfl, hg⟩
    have G := hid hg; clear hg
    go_wp2
    go_ret
    exact ⟨by rw [HV.out]; rfl, G.out⟩
  · obtain ⟨n, rfl⟩ := Int.eq_ofNat_of_zero_le (show 0 ≤ p by omega)
    go_enter Tryz.func108, Tryz.ntmps108
    go_wp2_with fail
    refine (sDec n _ (by omega)).mono ?_
    rintro e w1 ⟨rfl, hg⟩
    have G := hid hg; clear hg
    go_wp2
    go_ret
    exact ⟨by rw [txt_nat]; rfl, G.out⟩
/-- The text of a fraction. -/
def txtF (p q : Int) : ByteArray := if q = 1 then txt p else txt p ++ (⟨#[47]⟩ ++ txt q)
theorem ba_assoc (a b c : ByteArray) : a ++ b ++ c = a ++ (b ++ c) := by
  apply ByteArray.ext
  simp
set_option maxRecDepth 20000 in
set_option maxHeartbeats 1000000 in
theorem sText (p q : Int) (w : World) (hk : okB p q = true) : Calls Tryz.prog 74 #[fr p q] w fun e w' => e = .returned (.string (txtF p q)) ∧ Gr w w' := by
  obtain ⟨h1, h2, h3, h4⟩ := okB_bd hk
  by_cases hq : q = 1
  · subst hq
    have HV : Hid (txtF p 1 = txt p) := hid (by simp [txtF])
    go_enter Tryz.func74, Tryz.ntmps74
    go_wp2_with fail
    refine (sSigned p _ (by omega) (by omega)).mono ?_
    rintro e w1 ⟨rfl, hg1⟩
    obtain ⟨x1_0, hz1, g1⟩ := alloc1 hg1
    obtain ⟨_, _⟩ := cells2 x1_0
    have _ := fz x1_0
    have _ := ltb x1_0
    have X1_0 := hid x1_0; clear x1_0
    have G1 := hid (g1)
    clear hg1 g1
    go_wp2
    go_ret
    exact ⟨by rw [HV.out]; rfl, G1.out⟩
  · obtain ⟨n, rfl⟩ := Int.eq_ofNat_of_zero_le (show 0 ≤ q by omega)
    have HV : Hid (txtF p n = txt p ++ ⟨#[47]⟩ ++ dec n) := hid (by unfold txtF; rw [if_neg hq, txt_nat, ba_assoc])
    have hs1 : (dec n).size ≤ 21 := dec_size n (by omega)
    have hs2 : (txt p).size ≤ 21 := txt_size (by omega) (by omega)
    go_enter Tryz.func74, Tryz.ntmps74
    go_wp2_with fail
    go_region_with (first | (go_at_call 108; refine (sSigned p _ (by omega) (by omega)).mono ?_; rintro e w1 ⟨rfl, hg1⟩; have G1 := hid ((((Gr.refl w).al _).trans (Gr.drew _)).trans hg1); obtain ⟨_, _⟩ := cells2 (hg1.keep (al_top w _)); clear hg1) | (go_at_call 73; refine (sDec n _ (by omega)).mono ?_; rintro e w2 ⟨rfl, hg2⟩; have G2 := hid (G1.out.trans hg2); clear hg2))
    all_goals
      go_wp2
      go_ret
      exact ⟨by rw [HV.out]; rfl, G2.out⟩
/-- The table of the powers of ten is laid. -/
def Pow (w : World) : Prop := Lib.TabIs Tryz.prog w "internal/strconv.uint64pow10" .u64 Lib.pow10Tab
theorem pow_at : Tryz.prog.globalNamed "internal/strconv.uint64pow10" = some 2 := by kernel_rfl
theorem Pow.keep {w w' : World} (h : Pow w) (hg : Gr w w') : Pow w' := Joins.tab_stays pow_at h hg.below (Nat.le_refl _)
theorem iFmt (n : Int) (w : World) (T : Hid (Pow w)) (h0 : -9223372036854775808 ≤ n) (h1 : n ≤ 9223372036854775807) :
    Calls Tryz.prog 36 #[.int .i64 n, .int .i64 10] w fun e w' => e = .returned (.string (txt n)) ∧ Gr w w' :=
  (Any.strconv_FormatInt_10 Tryz.laysM173 n h0 h1 w T.out).mono fun _ _ ⟨h, k, os, hw⟩ => ⟨h, ⟨⟨k, os⟩, hw⟩⟩
set_option maxRecDepth 20000 in
set_option maxHeartbeats 1000000 in
theorem iFracText (p q : Int) (w : World) (T : Hid (Pow w)) (hk : okB p q = true) : Calls Tryz.prog 37 #[fr p q] w fun e w' => e = .returned (.string (txtF p q)) ∧ Gr w w' := by
  obtain ⟨h1, h2, h3, h4⟩ := okB_bd hk
  have HK := hid hk; clear hk
  by_cases hq : q = 1
  · subst hq
    have HV : Hid (txtF p 1 = txt p) := hid (by simp [txtF])
    go_enter Tryz.func37, Tryz.ntmps37
    go_wp2_with fail
    refine (iok_t _ _ _ HK.out).mono ?_
    rintro e w1 ⟨rfl, hg1⟩
    obtain ⟨x1_0, hz1, g1⟩ := alloc1 hg1
    obtain ⟨_, _⟩ := cells2 x1_0
    have _ := fz x1_0
    have _ := ltb x1_0
    have X1_0 := hid x1_0; clear x1_0
    have G1 := hid (g1)
    clear hg1 g1
    go_wp2_with fail
    refine (iFmt p _ (hid (T.out.keep G1.out)) (by omega) (by omega)).mono ?_
    rintro e w2 ⟨rfl, hg2⟩
    have x2_1 := hg2.keep X1_0.out
    obtain ⟨_, _⟩ := cells2 x2_1
    have _ := fz x2_1
    have _ := ltb x2_1
    have X2_1 := hid x2_1; clear x2_1
    have G2 := hid (G1.out.trans hg2)
    clear hg2
    go_wp2
    go_ret
    exact ⟨by rw [HV.out]; rfl, G2.out⟩
  · have HV : Hid (txtF p q = txt p ++ (⟨#[47]⟩ ++ txt q)) := hid (by unfold txtF; rw [if_neg hq])
    have hs1 : (txt q).size ≤ 21 := txt_size (by omega) (by omega)
    have hs2 : (txt p).size ≤ 21 := txt_size (by omega) (by omega)
    go_enter Tryz.func37, Tryz.ntmps37
    go_wp2_with fail
    refine (iok_t _ _ _ HK.out).mono ?_
    rintro e w1 ⟨rfl, hg1⟩
    obtain ⟨x1_0, hz1, g1⟩ := alloc1 hg1
    obtain ⟨_, _⟩ := cells2 x1_0
    have _ := fz x1_0
    have _ := ltb x1_0
    have X1_0 := hid x1_0; clear x1_0
    have G1 := hid (g1)
    clear hg1 g1
    go_wp2_with fail
    refine (iFmt p _ (hid (T.out.keep G1.out)) (by omega) (by omega)).mono ?_
    rintro e w2 ⟨rfl, hg2⟩
    have x2_1 := hg2.keep X1_0.out
    obtain ⟨_, _⟩ := cells2 x2_1
    have _ := fz x2_1
    have _ := ltb x2_1
    have X2_1 := hid x2_1; clear x2_1
    have G2 := hid (G1.out.trans hg2)
    clear hg2
    go_wp2_with fail
    refine (iFmt q _ (hid (T.out.keep G2.out)) (by omega) (by omega)).mono ?_
    rintro e w3 ⟨rfl, hg3⟩
    have x3_1 := hg3.keep X2_1.out
    obtain ⟨_, _⟩ := cells2 x3_1
    have _ := fz x3_1
    have _ := ltb x3_1
    have X3_1 := hid x3_1; clear x3_1
    have G3 := hid (G2.out.trans hg3)
    clear hg3
    go_wp2
    go_ret
    exact ⟨by rw [HV.out]; rfl, G3.out⟩
set_option maxRecDepth 20000 in
set_option maxHeartbeats 1000000 in
theorem iFracText_no (p q : Int) (w : World) (hk : okB p q = false) : Calls Tryz.prog 37 #[fr p q] w fun e w' => e = .returned (.string ⟨#[]⟩) ∧ Gr w w' := by
  go_enter Tryz.func37, Tryz.ntmps37
  go_wp2_with fail
  refine (iok_f _ _ _ hk).mono ?_
  rintro e w1 ⟨rfl, hg1⟩
  obtain ⟨x1_0, hz1, g1⟩ := alloc1 hg1
  obtain ⟨_, _⟩ := cells2 x1_0
  have _ := fz x1_0
  have _ := ltb x1_0
  have X1_0 := hid x1_0; clear x1_0
  have G1 := hid (g1)
  clear hg1 g1
  go_wp2
  go_ret
  exact ⟨rfl, G1.out⟩
end Go.Proofs.YtgfopfomhgfcaaaGreatDoor
