/- TEXTS of scales: l02Text of the reference; ScaleText. -/
import Derived.Test.YtgfopfomhgfcaaaGreatDoorJv
import Derived.Test.YtgfopfomhgfcaaaGreatDoorCc
import Derived.Test.YtgfopfomhgfcaaaGreatDoorSkf
namespace Go.Proofs.YtgfopfomhgfcaaaGreatDoor
open Go.RowKit Go.Sort

/-- The reference's text so far. -/
def scT (a b : Int) (xs : List (Int × Int)) (k : Nat) : ByteArray := ⟨(txtFl a b ++ Lib.joinTail [32] ((wds xs).take k)).toArray⟩
theorem scT_zero (a b : Int) (xs : List (Int × Int)) : scT a b xs 0 = txtF a b := by
  rw [txtF_mk]
  simp [scT, Lib.joinTail]
theorem scT_succ {a b p q : Int} {xs : List (Int × Int)} {k : Nat} (h : xs[k]? = some (p, q)) : scT a b xs k ++ (⟨#[32]⟩ ++ txtF p q) = scT a b xs (k + 1) := by
  unfold scT
  rw [Lib.joinTail_take_succ [32] (wds xs) k _ (wds_get h), txtF_mk, ba_app, ba_app]
  simp
theorem scT_all (a b : Int) (xs : List (Int × Int)) : scT a b xs xs.length = ⟨(Lib.join (wds ((a, b) :: xs)) [32]).toArray⟩ := by
  unfold scT
  have e : wds ((a, b) :: xs) = txtFl a b :: wds xs := rfl
  rw [e, Lib.join_cons, List.take_of_length_le (by rw [wds_len]; exact Nat.le_refl _)]
theorem scT_size {a b : Int} {xs : List (Int × Int)} (k : Nat) (h0 : okB a b = true) (hk : ∀ x ∈ xs, okB x.1 x.2 = true) (hn : xs.length ≤ 1000) : (scT a b xs k).size ≤ 50000 := by
  have h1 := txtFl_len h0
  have e : (wds xs).take k = wds (xs.take k) := by simp [wds, List.map_take]
  have h2 := jt_len (xs.take k) fun x hx => hk x (List.mem_of_mem_take hx)
  have h3 : (xs.take k).length ≤ xs.length := by simp; omega
  show (txtFl a b ++ Lib.joinTail [32] ((wds xs).take k)).toArray.size ≤ 50000
  rw [e]
  simp only [List.size_toArray, List.length_append]
  omega
set_option maxRecDepth 20000 in
set_option maxHeartbeats 2000000 in
theorem sScText (a b : Int) (A : Option Addr) (c j n : Nat) (xs : List (Int × Int)) (w : World) (X1 : Hid (w.heap[j]? = some (.cells #[.int .i64 a, .int .i64 b, .slice A n c] 37))) (X : Hid (RdF w A xs)) (hn : xs.length = n) (h9 : n ≤ 999) (h0 : okB a b = true) (hk : ∀ x ∈ xs, okB x.1 x.2 = true) :
    Calls Tryz.prog 72 #[.pointer (some ⟨j, 0, none⟩)] w fun e w' => e = .returned (.string (scT a b xs n)) ∧ Gr w w' := by
  have HK := hid hk; have HN := hid hn; have H0 := hid h0
  have SZ := hid fun k => scT_size (a := a) (b := b) (xs := xs) k h0 hk (by omega)
  have HZ := hid (scT_zero a b xs)
  clear hk hn h0
  obtain ⟨_, _, _⟩ := cells3 X1.out
  have _ := ltb X1.out
  go_enter Tryz.func72, Tryz.ntmps72
  go_wp2_with fail
  refine (sText a b _ H0.out).mono ?_
  rintro e w1 ⟨rfl, hg1⟩
  have G1 := hid hg1; clear hg1
  have J1 := hid (G1.out.keep X1.out)
  obtain ⟨_, _, _⟩ := cells3 J1.out
  have _ := ltb J1.out
  go_wp2_with fail
  go_loopw [3, 4] (fun t u wr => ∃ (k : Nat), u = .int .i64 (k : Int) ∧ t = .string (scT a b xs k) ∧ k ≤ n ∧ Gr w wr) (fun _ u _ => n - (intOf u).toNat)
  case atStart => exact ⟨0, rfl, by rw [HZ.out], by omega, G1.out⟩
  case round =>
    obtain ⟨k, rfl, rfl, hkn, hg⟩ := hrel
    have GW := hid hg; clear hg
    have J2 := hid (GW.out.keep X1.out)
    obtain ⟨_, _, _⟩ := cells3 J2.out
    have _ := ltb J2.out
    by_cases hlt : k < n
    · obtain ⟨⟨p, q⟩, hp⟩ : ∃ x, xs[k]? = some x := ⟨xs[k]'(by rw [HN.out]; exact hlt), List.getElem?_eq_getElem _⟩
      obtain ⟨ad, rfl, c1, c2⟩ := (X.out.keep GW.out) k p q hp
      have hok := hid (HK.out (p, q) (List.mem_of_getElem? hp))
      have TK := hid (scT_succ (a := a) (b := b) hp)
      have s1 : (txtF p q).size ≤ 43 := by rw [txtF_mk]; show (txtFl p q).toArray.size ≤ 43; simpa using txtFl_len hok.out
      have s2 := SZ.out k
      obtain ⟨S, hS⟩ : ∃ S, scT a b xs k = S := ⟨_, rfl⟩
      rw [hS] at TK s2
      rw [hS]
      clear hp hS
      go_wp2_with fail
      refine (sText p q _ hok.out).mono ?_
      rintro e w5 ⟨rfl, hg5⟩
      have G5 := hid (GW.out.trans hg5); clear hg5
      go_wp2_with fail
      exact ⟨⟨k + 1, by simp, by rw [← TK.out], by omega, G5.out⟩, by simp [intOf]; omega⟩
    · have hke : k = n := by omega
      subst hke
      go_wp2_with fail
      go_ret
      exact ⟨rfl, GW.out⟩
theorem scl_ok {a b : Int} {xs : List (Int × Int)} (h : sclB a b xs = true) : okB a b = true ∧ 2 ≤ xs.length ∧ xs.length ≤ 60 ∧ ∀ x ∈ xs, okB x.1 x.2 = true := by
  unfold sclB at h
  simp only [Bool.and_eq_true] at h
  obtain ⟨h1, h2, h3⟩ := h
  have hl : 2 ≤ xs.length ∧ xs.length ≤ 60 := by unfold inB at h2; simp at h2; omega
  refine ⟨within_ok h1, hl.1, hl.2, fun x hx => ?_⟩
  obtain ⟨i, hi⟩ := List.getElem?_of_mem hx
  exact ((allE_split.1 h3).1 i x.1 x.2 hi).1
set_option maxRecDepth 20000 in
set_option maxHeartbeats 1000000 in
theorem iScaleText_no (a b : Int) (A : Option Addr) (c : Nat) (xs : List (Int × Int)) (w : World) (X : Hid (RdF w A xs)) (hn : xs.length ≤ 1048576) (h : sclB a b xs = false) :
    Calls Tryz.prog 38 #[scl a b A xs.length c] w fun e w' => e = .returned (.string ⟨#[]⟩) ∧ Bl w w' := by
  have HO := hid fun (w : World) (X : Hid (RdF w A xs)) => iScF a b A c xs w X hn h
  clear h
  go_enter Tryz.func38, Tryz.ntmps38
  go_wp2_with fail
  refine (HO.out _ (hid (X.out.keep ((Gr.refl w).al _)))).mono ?_
  rintro e w1 ⟨rfl, hg1⟩
  obtain ⟨x1_0, hz1, g1⟩ := alloc1 hg1
  obtain ⟨_, _, _⟩ := cells3 x1_0
  have _ := fz x1_0
  have _ := ltb x1_0
  have X1_0 := hid x1_0; clear x1_0
  have G1 := hid (g1)
  clear hg1 g1
  go_wp2
  go_ret
  exact ⟨rfl, G1.out.below⟩
set_option maxRecDepth 20000 in
set_option maxHeartbeats 1000000 in
theorem iScaleText_ok (a b : Int) (A : Option Addr) (c : Nat) (xs : List (Int × Int)) (w : World) (X : Hid (RdF w A xs)) (T : Hid (Pow w)) (hn : xs.length ≤ 1048576) (h : sclB a b xs = true) :
    Calls Tryz.prog 38 #[scl a b A xs.length c] w fun e w' => e = .returned (.string (scT a b xs xs.length)) ∧ Bl w w' := by
  obtain ⟨k0, k1, k2, k3⟩ := scl_ok h
  have HO := hid fun (w : World) (X : Hid (RdF w A xs)) => iScT a b A c xs w X hn h
  have HF := hid fun (w : World) (X : Hid (RdF w A xs)) => ifracs a b A c xs w X (by omega)
  have HW := hid fun (A' : Option Addr) (c' : Nat) (w : World) (X : Hid (RdF w A' ((a, b) :: xs))) (T : Hid (Pow w)) => iWords A' c' (1 + xs.length) ((a, b) :: xs) w X T (by simp; omega) (by omega) (by omega) (by
    intro x hx
    rcases List.mem_cons.1 hx with rfl | hx
    · exact k0
    · exact k3 x hx)
  have HE := hid (scT_all a b xs)
  clear h k0 k1 k2 k3
  go_enter Tryz.func38, Tryz.ntmps38
  go_wp2_with fail
  refine (HO.out _ (hid (X.out.keep ((Gr.refl w).al _)))).mono ?_
  rintro e w1 ⟨rfl, hg1⟩
  obtain ⟨x1_0, hz1, g1⟩ := alloc1 hg1
  obtain ⟨_, _, _⟩ := cells3 x1_0
  have _ := fz x1_0
  have _ := ltb x1_0
  have X1_0 := hid x1_0; clear x1_0
  have G1 := hid (g1)
  clear hg1 g1
  go_wp2_with fail
  refine (HF.out _ (hid (X.out.keep G1.out))).mono ?_
  rintro e w2 ⟨A2, c2, rfl, own2, hg2⟩
  have R2 := hid (RdF.of_ownF own2); have G2 := hid (G1.out.trans hg2); clear own2 hg2
  go_wp2_with fail
  refine (HW.out _ _ _ R2 (hid (T.out.keep G2.out))).mono ?_
  rintro e w3 ⟨rfl, hb⟩
  have B3 := hid (Bl.tr G2.out.below hb); clear hb
  go_wp2
  go_ret
  exact ⟨by rw [HE.out]; rfl, B3.out⟩
end Go.Proofs.YtgfopfomhgfcaaaGreatDoor
