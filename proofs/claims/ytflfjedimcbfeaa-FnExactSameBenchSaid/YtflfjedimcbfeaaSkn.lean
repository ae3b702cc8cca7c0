/- WALKS: SameScale, of the program and of the reference. -/
import Derived.Test.YtflfjedimcbfeaaSkf
import Derived.Deep.QuietTactic
namespace Go.Proofs.Ytflfjedimcbfeaa
open Go.RowKit Go.Sort

theorem takeF_step {xs ys : List (Int × Int)} {k : Nat} {p : Int × Int} (h : xs.take k = ys.take k) (hx : xs[k]? = some p) (hy : ys[k]? = some p) : xs.take (k + 1) = ys.take (k + 1) := by
  rw [List.take_add_one, List.take_add_one, h, hx, hy]

set_option maxRecDepth 20000 in
set_option maxHeartbeats 1000000 in
theorem iEqualF (A A' : Option Addr) (c c' : Nat) (xs ys : List (Int × Int)) (w : World) (X1 : Hid (RdF w A xs)) (X2 : Hid (RdF w A' ys)) (hn : xs.length ≤ 1048576) (_hm : ys.length ≤ 1048576) :
    Calls Try.prog 83 #[.slice A xs.length c, .slice A' ys.length c'] w fun e w' => e = .returned (.bool (xs == ys)) ∧ Gr w w' := by
  by_cases hl : xs.length = ys.length
  · have HL := hid hl
    obtain ⟨n, hnn⟩ : ∃ n, xs.length = n := ⟨_, rfl⟩
    rw [← hl, hnn]
    rw [hnn] at hn
    have HN := hid hnn; clear hl hnn _hm
    go_enter Try.func83, Try.ntmps83
    go_wp2_with fail
    go_loopw [13] (fun u wr => ∃ (k : Nat), u = .int .i64 (k : Int) ∧ k ≤ n ∧ xs.take k = ys.take k ∧ Gr w wr) (fun u _ => n - (intOf u).toNat)
    case atStart => exact ⟨0, rfl, by omega, by simp, Gr.refl _⟩
    case round =>
      obtain ⟨k, rfl, hk, ht, hg⟩ := hrel
      have HG := hid hg; have HT := hid ht
      clear ht
      by_cases hlt : k < n
      · obtain ⟨⟨p, q⟩, hp⟩ : ∃ p, xs[k]? = some p := ⟨xs[k]'(by rw [HN.out]; exact hlt), List.getElem?_eq_getElem _⟩
        obtain ⟨⟨p', q'⟩, hq⟩ : ∃ q, ys[k]? = some q := ⟨ys[k]'(by rw [← HL.out, HN.out]; exact hlt), List.getElem?_eq_getElem _⟩
        obtain ⟨ad, rfl, c1, c2⟩ := (X1.out.keep hg) k p q hp
        obtain ⟨ad', rfl, c3, c4⟩ := (X2.out.keep hg) k p' q' hq
        have HP := hid hp; have HQ := hid hq
        clear hp hq hg
        by_cases hpq : p = p'
        · subst hpq
          by_cases hqq : q = q'
          · subst hqq
            go_wp2_with fail
            go_quiet (fail)
            go_wp2_with fail
            exact ⟨⟨k + 1, by simp, by omega, takeF_step HT.out HP.out HQ.out, HG.out.trans (Gr.drewN _ _)⟩, by simp [intOf]; omega⟩
          · have hne : ((q : Int) != q') = true := by simpa using hqq
            have hne2 : ((q : Int) == q') = false := by simpa using hqq
            have HNE := hid hqq
            clear hqq
            go_wp2_with fail
            go_quiet (fail)
            go_wp2_with fail
            go_ret
            refine ⟨ret_bool ?_, HG.out.trans (Gr.drewN _ _)⟩
            have : xs ≠ ys := fun h => HNE.out (by have h1 := HP.out; rw [h, HQ.out] at h1; exact congrArg Prod.snd (Option.some.inj h1).symm)
            simpa using this
        · have hne : ((p : Int) != p') = true := by simpa using hpq
          have hne2 : ((p : Int) == p') = false := by simpa using hpq
          have HNE := hid hpq
          clear hpq
          go_wp2_with fail
          go_quiet (fail)
          go_wp2_with fail
          go_ret
          refine ⟨ret_bool ?_, HG.out.trans (Gr.drewN _ _)⟩
          have : xs ≠ ys := fun h => HNE.out (by have h1 := HP.out; rw [h, HQ.out] at h1; exact congrArg Prod.fst (Option.some.inj h1).symm)
          simpa using this
      · have hke : k = n := by omega
        subst hke
        clear hg
        go_wp2_with fail
        go_ret
        refine ⟨ret_bool ?_, HG.out⟩
        have h := HT.out
        rw [List.take_of_length_le (by rw [HN.out]; exact Nat.le_refl _), List.take_of_length_le (by rw [← HL.out, HN.out]; exact Nat.le_refl _)] at h
        simp [h]
  · have hv : (xs == ys) = false := by
      have : xs ≠ ys := fun h => hl (by rw [h])
      simpa using this
    rw [hv]
    clear hv
    go_enter Try.func83, Try.ntmps83
    go_wp2_with fail
    go_ret
    exact ⟨rfl, Gr.refl _⟩
set_option maxRecDepth 20000 in
set_option maxHeartbeats 1000000 in
theorem sSameFr (A A' : Option Addr) (c c' : Nat) (xs ys : List (Int × Int)) (w : World) (X1 : Hid (RdF w A xs)) (X2 : Hid (RdF w A' ys)) (hn : xs.length ≤ 1048576) (_hm : ys.length ≤ 1048576) :
    Calls Try.prog 82 #[.slice A xs.length c, .slice A' ys.length c'] w fun e w' => e = .returned (.bool (xs == ys)) ∧ Gr w w' := by
  by_cases hl : xs.length = ys.length
  · have HL := hid hl
    obtain ⟨n, hnn⟩ : ∃ n, xs.length = n := ⟨_, rfl⟩
    rw [← hl, hnn]
    rw [hnn] at hn
    have HN := hid hnn; clear hl hnn _hm
    go_enter Try.func82, Try.ntmps82
    go_wp2_with fail
    go_loopw [5] (fun u wr => ∃ (k : Nat), u = .int .i64 (k : Int) ∧ k ≤ n ∧ xs.take k = ys.take k ∧ Gr w wr) (fun u _ => n - (intOf u).toNat)
    case atStart => exact ⟨0, rfl, by omega, by simp, Gr.refl _⟩
    case round =>
      obtain ⟨k, rfl, hk, ht, hg⟩ := hrel
      have HG := hid hg; have HT := hid ht
      clear ht
      by_cases hlt : k < n
      · obtain ⟨⟨p, q⟩, hp⟩ : ∃ p, xs[k]? = some p := ⟨xs[k]'(by rw [HN.out]; exact hlt), List.getElem?_eq_getElem _⟩
        obtain ⟨⟨p', q'⟩, hq⟩ : ∃ q, ys[k]? = some q := ⟨ys[k]'(by rw [← HL.out, HN.out]; exact hlt), List.getElem?_eq_getElem _⟩
        obtain ⟨ad, rfl, c1, c2⟩ := (X1.out.keep hg) k p q hp
        obtain ⟨ad', rfl, c3, c4⟩ := (X2.out.keep hg) k p' q' hq
        have HP := hid hp; have HQ := hid hq
        clear hp hq hg
        by_cases hpq : p = p'
        · subst hpq
          by_cases hqq : q = q'
          · subst hqq
            go_wp2_with fail
            go_quiet (fail)
            go_wp2_with fail
            exact ⟨⟨k + 1, by simp, by omega, takeF_step HT.out HP.out HQ.out, HG.out.trans (Gr.drewN _ _)⟩, by simp [intOf]; omega⟩
          · have hne : ((q : Int) != q') = true := by simpa using hqq
            have hne2 : ((q : Int) == q') = false := by simpa using hqq
            have HNE := hid hqq
            clear hqq
            go_wp2_with fail
            go_quiet (fail)
            go_wp2_with fail
            go_ret
            refine ⟨ret_bool ?_, HG.out.trans (Gr.drewN _ _)⟩
            have : xs ≠ ys := fun h => HNE.out (by have h1 := HP.out; rw [h, HQ.out] at h1; exact congrArg Prod.snd (Option.some.inj h1).symm)
            simpa using this
        · have hne : ((p : Int) != p') = true := by simpa using hpq
          have hne2 : ((p : Int) == p') = false := by simpa using hpq
          have HNE := hid hpq
          clear hpq
          go_wp2_with fail
          go_quiet (fail)
          go_wp2_with fail
          go_ret
          refine ⟨ret_bool ?_, HG.out.trans (Gr.drewN _ _)⟩
          have : xs ≠ ys := fun h => HNE.out (by have h1 := HP.out; rw [h, HQ.out] at h1; exact congrArg Prod.fst (Option.some.inj h1).symm)
          simpa using this
      · have hke : k = n := by omega
        subst hke
        clear hg
        go_wp2_with fail
        go_ret
        refine ⟨ret_bool ?_, HG.out⟩
        have h := HT.out
        rw [List.take_of_length_le (by rw [HN.out]; exact Nat.le_refl _), List.take_of_length_le (by rw [← HL.out, HN.out]; exact Nat.le_refl _)] at h
        simp [h]
  · have hv : (xs == ys) = false := by
      have : xs ≠ ys := fun h => hl (by rw [h])
      simpa using this
    rw [hv]
    clear hv
    go_enter Try.func82, Try.ntmps82
    go_wp2_with fail
    go_ret
    exact ⟨rfl, Gr.refl _⟩
def sameScB (a b a' b' : Int) (xs ys : List (Int × Int)) : Bool := ((a == a') && (b == b')) && (xs == ys)
set_option maxRecDepth 20000 in
set_option maxHeartbeats 1000000 in
theorem iSameSc (a b a' b' : Int) (A A' : Option Addr) (c c' : Nat) (xs ys : List (Int × Int)) (w : World) (X1 : Hid (RdF w A xs)) (X2 : Hid (RdF w A' ys)) (hn : xs.length ≤ 1048576) (hm : ys.length ≤ 1048576) :
    Calls Try.prog 47 #[scl a b A xs.length c, scl a' b' A' ys.length c'] w fun x w' => x = .returned (.bool (sameScB a b a' b' xs ys)) ∧ Gr w w' := by
  unfold sameScB
  have HE := hid fun w' (hg : Gr w w') => iEqualF A A' c c' xs ys w' (hid (X1.out.keep hg)) (hid (X2.out.keep hg)) hn hm
  cases h1 : (a == a') with
  | false =>
    simp only [Bool.false_and]
    go_enter Try.func47, Try.ntmps47
    go_wp2
    go_ret
    exact ⟨rfl, (((Gr.refl _)).al _).al _⟩
  | true =>
    cases h2 : (b == b') with
    | false =>
      simp only [Bool.and_false, Bool.false_and]
      go_enter Try.func47, Try.ntmps47
      go_wp2
      go_ret
      exact ⟨rfl, (((Gr.refl _)).al _).al _⟩
    | true =>
      simp only [Bool.and_self, Bool.true_and]
      go_enter Try.func47, Try.ntmps47
      go_wp2_with fail
      refine (HE.out _ (((Gr.refl w).al _).al _)).mono ?_
      rintro e w1 ⟨rfl, hg1⟩
      obtain ⟨x1_0, x1_1, hz1, g1⟩ := alloc2 hg1
      obtain ⟨_, _, _⟩ := cells3 x1_0
      have _ := fz x1_0
      have _ := ltb x1_0
      obtain ⟨_, _, _⟩ := cells3 x1_1
      have _ := fz x1_1
      have _ := ltb x1_1
      have X1_0 := hid x1_0; clear x1_0
      have X1_1 := hid x1_1; clear x1_1
      have G1 := hid (g1)
      clear hg1 g1
      go_wp2
      go_ret
      exact ⟨rfl, G1.out⟩
set_option maxRecDepth 20000 in
set_option maxHeartbeats 1000000 in
theorem sSameSc (a b a' b' : Int) (A A' : Option Addr) (c c' : Nat) (xs ys : List (Int × Int)) (w : World) (X1 : Hid (RdF w A xs)) (X2 : Hid (RdF w A' ys)) (hn : xs.length ≤ 1048576) (hm : ys.length ≤ 1048576) :
    Calls Try.prog 46 #[scl a b A xs.length c, scl a' b' A' ys.length c'] w fun x w' => x = .returned (.bool (sameScB a b a' b' xs ys)) ∧ Gr w w' := by
  unfold sameScB
  have HE := hid fun w' (hg : Gr w w') => sSameFr A A' c c' xs ys w' (hid (X1.out.keep hg)) (hid (X2.out.keep hg)) hn hm
  cases h1 : (a == a') with
  | false =>
    simp only [Bool.false_and]
    go_enter Try.func46, Try.ntmps46
    go_wp2
    go_ret
    exact ⟨rfl, (((Gr.refl _)).al _).al _⟩
  | true =>
    cases h2 : (b == b') with
    | false =>
      simp only [Bool.and_false, Bool.false_and]
      go_enter Try.func46, Try.ntmps46
      go_wp2
      go_ret
      exact ⟨rfl, (((Gr.refl _)).al _).al _⟩
    | true =>
      simp only [Bool.and_self, Bool.true_and]
      go_enter Try.func46, Try.ntmps46
      go_wp2_with fail
      refine (HE.out _ (((Gr.refl w).al _).al _)).mono ?_
      rintro e w1 ⟨rfl, hg1⟩
      obtain ⟨x1_0, x1_1, hz1, g1⟩ := alloc2 hg1
      obtain ⟨_, _, _⟩ := cells3 x1_0
      have _ := fz x1_0
      have _ := ltb x1_0
      obtain ⟨_, _, _⟩ := cells3 x1_1
      have _ := fz x1_1
      have _ := ltb x1_1
      have X1_0 := hid x1_0; clear x1_0
      have X1_1 := hid x1_1; clear x1_1
      have G1 := hid (g1)
      clear hg1 g1
      go_wp2
      go_ret
      exact ⟨rfl, G1.out⟩
theorem bothSameScale (a b a' b' : Int) (xs ys : List (Int × Int)) (hn : xs.length ≤ 1048576) (hm : ys.length ≤ 1048576) : ∃ R : Bool,
    (∀ (A A' : Option Addr) (c c' : Nat) (w : World), Hid (RdF w A xs) → Hid (RdF w A' ys) → Calls Try.prog 46 #[scl a b A xs.length c, scl a' b' A' ys.length c'] w fun x w' => x = .returned (.bool R) ∧ Gr w w') ∧
    (∀ (A A' : Option Addr) (c c' : Nat) (w : World), Hid (RdF w A xs) → Hid (RdF w A' ys) → Calls Try.prog 47 #[scl a b A xs.length c, scl a' b' A' ys.length c'] w fun x w' => x = .returned (.bool R) ∧ Gr w w') :=
  ⟨sameScB a b a' b' xs ys, fun A A' c c' w X1 X2 => sSameSc a b a' b' A A' c c' xs ys w X1 X2 hn hm, fun A A' c c' w X1 X2 => iSameSc a b a' b' A A' c c' xs ys w X1 X2 hn hm⟩
end Go.Proofs.Ytflfjedimcbfeaa
