/- NUMERALS, read: plain mathematics of lists of bytes. -/
import Derived.Test.YtkeflpcokcfcjaaDoorTx
namespace Go.Proofs.YtkeflpcokcfcjaaDoor
open Go.RowKit Go.Sort

def digB (c : UInt8) : Bool := decide (48 ≤ c.toNat) && decide (c.toNat ≤ 57)
/-- The value of digits. -/
def valD (l : List UInt8) : Nat := l.foldl (fun n c => n * 10 + (c.toNat - 48)) 0
theorem valD_app (l : List UInt8) (c : UInt8) : valD (l ++ [c]) = valD l * 10 + (c.toNat - 48) := by simp [valD]
/-- A numeral as it is written: digits, without a 0 ahead. -/
def isNum (l : List UInt8) : Bool := l.all digB && (decide (l.length = 1) || (decide (1 < l.length) && decide (l.head? ≠ some 48)))
theorem digB_of {d : Nat} (h : d < 10) : digB (UInt8.ofNat (48 + d)) = true ∧ (UInt8.ofNat (48 + d)).toNat = 48 + d := by
  have e : (UInt8.ofNat (48 + d)).toNat = 48 + d := by rw [UInt8.toNat_ofNat']; omega
  refine ⟨?_, e⟩
  unfold digB
  rw [e]
  simp
  omega
theorem dig_back {c : UInt8} (h : digB c = true) : UInt8.ofNat (48 + (c.toNat - 48)) = c ∧ c.toNat - 48 < 10 := by
  unfold digB at h
  simp at h
  refine ⟨?_, by omega⟩
  rw [show 48 + (c.toNat - 48) = c.toNat by omega]
  exact UInt8.ofNat_toNat
theorem dd_lt {n : Nat} (h : n < 10) : Lib.decDigits n = [UInt8.ofNat (48 + n)] := Lib.decDigits_one h
theorem dd_ge {n : Nat} (h : ¬ n < 10) : Lib.decDigits n = Lib.decDigits (n / 10) ++ [UInt8.ofNat (48 + n % 10)] := by
  rw [Lib.decDigits, dif_neg h]
theorem dd_val (n : Nat) : valD (Lib.decDigits n) = n := by
  induction n using Nat.strongRecOn with
  | _ n ih =>
  by_cases h : n < 10
  · rw [dd_lt h]
    simp only [valD, List.foldl_cons, List.foldl_nil, (digB_of h).2]
    omega
  · rw [dd_ge h, valD_app, ih (n / 10) (by omega), (digB_of (Nat.mod_lt n (by omega))).2]
    omega
theorem dd_len {n k : Nat} (hk : 1 ≤ k) (h : n < 10 ^ k) : (Lib.decDigits n).length ≤ k := by
  induction k generalizing n with
  | zero => omega
  | succ k ih =>
    by_cases h9 : n < 10
    · rw [dd_lt h9]; simp
    · rw [dd_ge h9, List.length_append]
      have hk1 : 1 ≤ k := by
        cases k with
        | zero => simp at h; omega
        | succ k => omega
      have := ih hk1 (n := n / 10) (by rw [Nat.pow_succ] at h; omega)
      simp
      exact this
theorem dd_num (n : Nat) : isNum (Lib.decDigits n) = true ∧ 1 ≤ (Lib.decDigits n).length ∧ (n ≠ 0 → (Lib.decDigits n).head? ≠ some 48) := by
  induction n using Nat.strongRecOn with
  | _ n ih =>
  by_cases h : n < 10
  · rw [dd_lt h]
    obtain ⟨d1, d2⟩ := digB_of h
    generalize UInt8.ofNat (48 + n) = c at *
    refine ⟨by simp [isNum, d1], by simp, fun h0 he => ?_⟩
    simp at he
    subst he
    have : (48 : UInt8).toNat = 48 := rfl
    omega
  · obtain ⟨i1, i2, i3⟩ := ih (n / 10) (by omega)
    have hh := i3 (by omega)
    rw [dd_ge h]
    have d1 := (digB_of (Nat.mod_lt n (show 0 < 10 by omega))).1
    generalize UInt8.ofNat (48 + n % 10) = c at *
    have hd : (Lib.decDigits (n / 10) ++ [c]).head? = (Lib.decDigits (n / 10)).head? := by
      cases hz : Lib.decDigits (n / 10) with
      | nil => rw [hz] at i2; simp at i2
      | cons a r => rfl
    refine ⟨?_, by simp, fun _ => by rw [hd]; exact hh⟩
    unfold isNum at i1 ⊢
    simp only [Bool.and_eq_true] at i1 ⊢
    refine ⟨by rw [List.all_append, i1.1]; simp [d1], ?_⟩
    rw [hd]
    simp only [List.length_append, List.length_cons, List.length_nil, Bool.or_eq_true, Bool.and_eq_true, decide_eq_true_eq]
    exact .inr ⟨by omega, hh⟩
theorem valD_pos : ∀ (l : List UInt8), l.all digB = true → l ≠ [] → l.head? ≠ some 48 → 1 ≤ valD l := by
  intro l
  induction h : l.length generalizing l with
  | zero => intro _ h0; exact absurd (List.eq_nil_of_length_eq_zero h) h0
  | succ k ih =>
    intro ha h0 hh
    rcases List.eq_nil_or_concat l with rfl | ⟨i, c, rfl⟩
    · exact absurd rfl h0
    · rw [List.concat_eq_append] at h ha hh ⊢
      rw [valD_app]
      by_cases hi : i = []
      · subst hi
        simp at hh ha
        have hc := ha
        unfold digB at hc
        simp at hc
        have hne : c.toNat ≠ 48 := fun he => hh (UInt8.toNat_inj.1 (by rw [he]; rfl))
        simp [valD]
        omega
      · have hl : i.length = k := by simp at h; exact h
        rw [List.all_append, Bool.and_eq_true] at ha
        have hhi : i.head? ≠ some 48 := by
          cases i with
          | nil => exact absurd rfl hi
          | cons a r => simpa using hh
        have := ih i hl ha.1 hi hhi
        omega
theorem num_dec : ∀ (l : List UInt8), isNum l = true → Lib.decDigits (valD l) = l := by
  intro l
  induction h : l.length generalizing l with
  | zero =>
    intro hn
    have := List.eq_nil_of_length_eq_zero h
    subst this
    simp [isNum] at hn
  | succ k ih =>
    intro hn
    rcases List.eq_nil_or_concat l with rfl | ⟨i, c, rfl⟩
    · simp at h
    · rw [List.concat_eq_append] at h hn ⊢
      unfold isNum at hn
      simp only [Bool.and_eq_true, List.all_append] at hn
      obtain ⟨⟨hi, hc⟩, hl⟩ := hn
      have hc' : digB c = true := by simpa using hc
      obtain ⟨e1, e2⟩ := dig_back hc'
      rw [valD_app]
      by_cases h0 : i = []
      · subst h0
        have : valD [] * 10 + (c.toNat - 48) = c.toNat - 48 := by simp [valD]
        rw [this, dd_lt e2, e1]
        rfl
      · have hlen : i.length = k := by simp at h; exact h
        have hpos : 1 ≤ i.length := by
          cases i with
          | nil => exact absurd rfl h0
          | cons a r => simp
        have hh : i.head? ≠ some 48 := by
          simp only [List.length_append, List.length_cons, List.length_nil, Bool.or_eq_true, Bool.and_eq_true, decide_eq_true_eq] at hl
          rcases hl with hl | ⟨_, hl⟩
          · omega
          · cases i with
            | nil => exact absurd rfl h0
            | cons a r => simpa using hl
        have hv := valD_pos i hi h0 hh
        rw [dd_ge (by omega), show (valD i * 10 + (c.toNat - 48)) / 10 = valD i by omega, show (valD i * 10 + (c.toNat - 48)) % 10 = c.toNat - 48 by omega, e1]
        congr 1
        refine ih i hlen ?_
        unfold isNum
        simp only [Bool.and_eq_true, Bool.or_eq_true, decide_eq_true_eq]
        refine ⟨hi, ?_⟩
        by_cases h1 : i.length = 1
        · exact .inl h1
        · exact .inr ⟨by omega, hh⟩
end Go.Proofs.YtkeflpcokcfcjaaDoor
