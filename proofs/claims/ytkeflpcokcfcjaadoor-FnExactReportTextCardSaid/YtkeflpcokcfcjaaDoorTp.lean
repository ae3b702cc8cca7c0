/- TEXTS READ: plain mathematics: parts of a text between separators, numerals with a sign, fractions. -/
import Derived.Test.YtkeflpcokcfcjaaDoorTr
import Derived.Lib.ParseIntB
import Derived.Lib.CutLaws
namespace Go.Proofs.YtkeflpcokcfcjaaDoor
open Go.RowKit Go.Sort

/-- What stands ahead of the last part. -/
def preB (b : UInt8) (D : List (List UInt8)) : List UInt8 := D.flatMap (· ++ [b])
/-- A text as the parts between separators. -/
def PartsB (b : UInt8) (s : List UInt8) (D : List (List UInt8)) (t : List UInt8) : Prop := s = preB b D ++ t ∧ (∀ d ∈ D, b ∉ d) ∧ b ∉ t
theorem part_eq {b : UInt8} : ∀ {x x' y y' : List UInt8}, b ∉ x → b ∉ x' → x ++ b :: y = x' ++ b :: y' → x = x' ∧ y = y'
  | [], [], _, _, _, _, h => by simpa using h
  | [], c :: x', _, _, _, h2, h => by
    simp at h h2
    exact absurd h.1 h2.1
  | c :: x, [], _, _, h1, _, h => by
    simp at h h1
    exact absurd h.1.symm h1.1
  | c :: x, d :: x', y, y', h1, h2, h => by
    simp only [List.cons_append, List.cons.injEq] at h
    obtain ⟨rfl, h⟩ := h
    simp only [List.mem_cons, not_or] at h1 h2
    obtain ⟨rfl, rfl⟩ := part_eq h1.2 h2.2 h
    exact ⟨rfl, rfl⟩
theorem parts_none {b : UInt8} {s t : List UInt8} {D : List (List UInt8)} (h : PartsB b s D t) (hb : b ∉ s) : D = [] ∧ t = s := by
  obtain ⟨rfl, h1, h2⟩ := h
  cases D with
  | nil => exact ⟨rfl, by simp [preB]⟩
  | cons d D => exact absurd (by simp [preB]) hb
theorem parts_one {b : UInt8} {x y t : List UInt8} {D : List (List UInt8)} (h : PartsB b (x ++ b :: y) D t) (hx : b ∉ x) (hy : b ∉ y) : D = [x] ∧ t = y := by
  obtain ⟨e, h1, h2⟩ := h
  cases D with
  | nil =>
    simp [preB] at e
    subst e
    exact absurd (by simp) h2
  | cons d D =>
    have e' : x ++ b :: y = d ++ b :: (preB b D ++ t) := by rw [e]; simp [preB]
    obtain ⟨e1, e2⟩ := part_eq hx (h1 d (by simp)) e'
    obtain ⟨e3, e4⟩ := parts_none (D := D) (t := t) ⟨e2, fun d hd => h1 d (by simp [hd]), h2⟩ hy
    exact ⟨by rw [e1, e3], e4⟩
theorem parts_len {b : UInt8} {s t : List UInt8} {D : List (List UInt8)} (h : PartsB b s D t) : D.length ≤ s.length := by
  obtain ⟨rfl, _, _⟩ := h
  have : ∀ D : List (List UInt8), D.length ≤ (preB b D).length := fun D => by
    induction D with
    | nil => simp
    | cons d D ih =>
      have : preB b (d :: D) = d ++ [b] ++ preB b D := by simp [preB]
      rw [this]
      simp
      omega
  have := this D
  simp
  omega
/-- Digits. -/
theorem num_digs {l : List UInt8} (h : isNum l = true) : ∀ c ∈ l, 48 ≤ c.toNat ∧ c.toNat ≤ 57 := by
  unfold isNum at h
  simp only [Bool.and_eq_true, List.all_eq_true] at h
  intro c hc
  have := h.1 c hc
  unfold digB at this
  simpa using this
theorem dd_digs (n : Nat) : ∀ c ∈ Lib.decDigits n, 48 ≤ c.toNat ∧ c.toNat ≤ 57 := num_digs (dd_num n).1
/-- A number read. -/
def rdN (l : List UInt8) : Option Nat := if isNum l && decide (l.length ≤ 10) then some (valD l) else none
theorem rdN_some {l : List UInt8} {n : Nat} (h : rdN l = some n) : l = Lib.decDigits n := by
  unfold rdN at h
  split at h
  · rename_i hc
    rw [Bool.and_eq_true] at hc
    obtain rfl := Option.some.inj h
    exact (num_dec l hc.1).symm
  · cases h
theorem rdN_dec {n : Nat} (h : n < 10000000000) : rdN (Lib.decDigits n) = some n := by
  unfold rdN
  rw [if_pos (by rw [Bool.and_eq_true, decide_eq_true_eq]; exact ⟨(dd_num n).1, dd_len (by omega) (by omega)⟩), dd_val]
/-- A number with a sign. -/
def rdS (l : List UInt8) : Option Int :=
  if l.head? = some 45 then (match rdN l.tail with | some n => if n = 0 then none else some (-(n : Int)) | none => none)
  else (rdN l).map fun n : Nat => (n : Int)
theorem itoa_neg {p : Int} (h : p < 0) : Lib.itoa p = 45 :: Lib.decDigits p.natAbs := by unfold Lib.itoa; rw [if_pos h]
theorem itoa_pos {p : Int} (h : ¬ p < 0) : Lib.itoa p = Lib.decDigits p.natAbs := by
  unfold Lib.itoa
  rw [if_neg h, show p.toNat = p.natAbs by omega]
theorem rdS_some {l : List UInt8} {p : Int} (h : rdS l = some p) : l = Lib.itoa p := by
  unfold rdS at h
  split at h
  · rename_i hh
    cases l with
    | nil => simp at hh
    | cons c r =>
      obtain rfl : c = 45 := by simpa using hh
      simp only [List.tail_cons] at h
      split at h
      · rename_i n hn
        split at h
        · cases h
        · obtain rfl := Option.some.inj h
          rw [itoa_neg (by omega), show (-(n : Int)).natAbs = n by omega, ← rdN_some hn]
      · cases h
  · obtain ⟨n, hn, rfl⟩ := Option.map_eq_some_iff.1 h
    rw [itoa_pos (by omega), show ((n : Int)).natAbs = n by omega, ← rdN_some hn]
theorem dd_head (n : Nat) : (Lib.decDigits n).head? ≠ some 45 := by
  intro h
  have hm : (45 : UInt8) ∈ Lib.decDigits n := List.mem_of_mem_head? (by rw [h]; rfl)
  have := dd_digs n _ hm
  have e : (45 : UInt8).toNat = 45 := rfl
  omega
theorem rdS_itoa {p : Int} (h1 : -10000000000 < p) (h2 : p < 10000000000) : rdS (Lib.itoa p) = some p := by
  unfold rdS
  by_cases h : p < 0
  · rw [itoa_neg h, if_pos (by rfl)]
    simp only [List.tail_cons]
    rw [rdN_dec (by omega)]
    simp only
    rw [if_neg (by omega)]
    congr 1
    omega
  · rw [itoa_pos h, if_neg (dd_head _), rdN_dec (by omega)]
    simp only [Option.map_some]
    congr 1
    omega
theorem itoa_in (p : Int) : ∀ c ∈ Lib.itoa p, c = 45 ∨ 48 ≤ c.toNat ∧ c.toNat ≤ 57 := by
  intro c hc
  by_cases h : p < 0
  · rw [itoa_neg h] at hc
    rcases List.mem_cons.1 hc with rfl | hc
    · exact .inl rfl
    · exact .inr (dd_digs _ c hc)
  · rw [itoa_pos h] at hc
    exact .inr (dd_digs _ c hc)
theorem itoa_no (p : Int) {b : UInt8} (h1 : b ≠ 45) (h2 : b.toNat < 48) : b ∉ Lib.itoa p := fun hm => by
  rcases itoa_in p b hm with h | h
  · exact h1 h
  · omega
/-- What strconv.ParseInt makes of a number's text. -/
theorem pum_of : ∀ (l : List UInt8) (acc : Nat), (∀ c ∈ l, 48 ≤ c.toNat ∧ c.toNat ≤ 57) → ∀ (M : Nat), l.foldl (fun n c => n * 10 + (c.toNat - 48)) acc ≤ 1000000000000000000 → 1000000000000000000 ≤ M →
    Lib.parseUintM M acc l = .ok (l.foldl (fun n c => n * 10 + (c.toNat - 48)) acc) ∧ acc ≤ l.foldl (fun n c => n * 10 + (c.toNat - 48)) acc := by
  intro l
  induction l with
  | nil => intro acc _ M _ _; exact ⟨rfl, Nat.le_refl _⟩
  | cons c r ih =>
    intro acc hd M hv hM
    simp only [List.foldl_cons] at hv ⊢
    obtain ⟨e1, e2⟩ := ih (acc * 10 + (c.toNat - 48)) (fun x hx => hd x (by simp [hx])) M hv hM
    have hc := hd c (by simp)
    refine ⟨?_, by omega⟩
    unfold Lib.parseUintM
    rw [if_pos hc, if_neg (by omega), if_neg (by omega)]
    exact e1
theorem pint_of {p : Int} (h1 : -10000000000 < p) (h2 : p < 10000000000) : Lib.parseIntB 64 (Lib.itoa p) = .ok p := by
  have hu : ∀ n : Nat, n < 10000000000 → Lib.parseUintB 64 (Lib.decDigits n) = .ok n := fun n hn => by
    unfold Lib.parseUintB
    have hne : Lib.decDigits n ≠ [] := fun h0 => by have := (dd_num n).2.1; rw [h0] at this; simp at this
    rw [if_neg hne]
    have hv : (Lib.decDigits n).foldl (fun n c => n * 10 + (c.toNat - 48)) 0 = n := dd_val n
    obtain ⟨e, _⟩ := pum_of (Lib.decDigits n) 0 (dd_digs n) (2 ^ 64 - 1) (by rw [hv]; omega) (by decide)
    rw [e, hv]
  by_cases h : p < 0
  · rw [itoa_neg h]
    unfold Lib.parseIntB
    have e45 : (45 : UInt8).toNat = 45 := rfl
    simp only [e45]
    rw [if_pos (.inr trivial), hu _ (by omega)]
    simp only [not_true_eq_false, false_and, if_false, true_and, if_true]
    rw [if_neg (by omega)]
    congr 1
    omega
  · rw [itoa_pos h]
    obtain ⟨n, rfl⟩ := Int.eq_ofNat_of_zero_le (show 0 ≤ p by omega)
    simp only [Int.natAbs_natCast] at *
    have hne : Lib.decDigits n ≠ [] := fun h0 => by have := (dd_num n).2.1; rw [h0] at this; simp at this
    have hu := hu n (by omega)
    have hd := dd_digs n
    revert hu hd
    cases hl : Lib.decDigits n with
    | nil => exact absurd hl hne
    | cons c r =>
      intro hu hd
      have hc := hd c (by simp)
      unfold Lib.parseIntB
      simp only
      rw [if_neg (by omega), hu]
      simp only
      rw [if_neg (by omega), if_neg (by omega), if_neg (by omega)]
/-- strings.Cut at a separator. -/
theorem occ_mem {s sub : List UInt8} {b : UInt8} {i : Nat} (h : Lib.occAt s (b :: sub) i = true) : s[i]? = some b := by
  unfold Lib.occAt at h
  cases hd : s.drop i with
  | nil => rw [hd] at h; simp [List.isPrefixOf] at h
  | cons c r =>
    rw [hd] at h
    simp [List.isPrefixOf] at h
    have : (s.drop i)[0]? = some c := by rw [hd]; rfl
    rw [List.getElem?_drop] at this
    rw [h.1]
    simpa using this
theorem cut_none {s sub : List UInt8} {b : UInt8} (h : b ∉ s) : Lib.cut s (b :: sub) = (s, [], false) := by
  have : Lib.index s (b :: sub) = -1 := Lib.index_none fun j _ => by
    cases ho : Lib.occAt s (b :: sub) j with
    | false => rfl
    | true => exact absurd (List.mem_of_getElem? (occ_mem ho)) h
  unfold Lib.cut
  rw [this, if_neg (by omega)]
theorem cut_some {x y sub : List UInt8} {b : UInt8} (h : b ∉ x) : Lib.cut (x ++ (b :: sub) ++ y) (b :: sub) = (x, y, true) := by
  have hi : Lib.index (x ++ (b :: sub) ++ y) (b :: sub) = x.length := by
    refine Lib.index_first (by simp) ?_ fun j hj => ?_
    · unfold Lib.occAt
      rw [List.append_assoc, List.drop_append_of_le_length (Nat.le_refl _), List.drop_length]
      simp
    · cases ho : Lib.occAt (x ++ (b :: sub) ++ y) (b :: sub) j with
      | false => rfl
      | true =>
        have := occ_mem ho
        rw [List.append_assoc, List.getElem?_append_left hj] at this
        exact absurd (List.mem_of_getElem? this) h
  unfold Lib.cut
  rw [hi, if_pos (by omega)]
  simp
theorem cut_cases (s : List UInt8) (b : UInt8) (sub : List UInt8) : (∃ x y, Lib.cut s (b :: sub) = (x, y, true) ∧ s = x ++ (b :: sub) ++ y) ∨ Lib.cut s (b :: sub) = (s, [], false) := by
  rcases Lib.index_spec s (b :: sub) with ⟨h, _⟩ | ⟨i, h, hi, ho, _⟩
  · right
    unfold Lib.cut
    rw [h, if_neg (by omega)]
  · left
    refine ⟨s.take i, s.drop (i + (b :: sub).length), ?_, ?_⟩
    · unfold Lib.cut
      rw [h, if_pos (by omega)]
      simp
    · unfold Lib.occAt at ho
      obtain ⟨t, ht⟩ := List.isPrefixOf_iff_prefix.1 ho
      rw [← List.drop_drop, ← ht, List.drop_left, List.append_assoc, ht, List.take_append_drop]
end Go.Proofs.YtkeflpcokcfcjaaDoor
