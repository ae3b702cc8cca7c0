/- NUMERALS, read: plain mathematics of lists of bytes. -/
import Derived.Test.YtgfopfomhgfcaaaGreatDoorTx
import Derived.Lib.ParseIntB
import Derived.Lib.CutLaws
import Derived.Test.YtgfopfomhgfcaaaGreatDoorIv
import Derived.Lib.Strings
import Derived.Shelf.Vars
namespace Go.Proofs.YtgfopfomhgfcaaaGreatDoor
open Go.RowKit Go.Sort

def digB (c : UInt8) : Bool := decide (48 ≤ c.toNat) && decide (c.toNat ≤ 57)
/-- The value of digits. -/
def valD (l : List UInt8) : Nat := l.foldl (fun n c => n * 10 + (c.toNat - 48)) 0
theorem valD_app (l : List UInt8) (c : UInt8) : valD (l ++ [c]) = valD l * 10 + (c.toNat - 48) := by simp [valD]
/-- A numeral as it is written: digits, without a 0 ahead. -/
def isNum (l : List UInt8) : Bool := l.all digB && (decide (l.length = 1) || (decide (1 < l.length) && decide (l.head? ≠ some 48)))
theorem digB_of {d : Nat} (h : d < 10) : digB (UInt8.ofNat (48 + d)) = true ∧ (UInt8.ofNat (48 + d)).toNat = 48 + d := by
  have e : (UInt8.ofNat (48 + d)).toNat = 48 + d := by rw [UInt8.toNat_ofNat']; omega
  refine ⟨?_, e⟩
  unfold digB
  rw [e]
  simp
  omega
theorem dig_back {c : UInt8} (h : digB c = true) : UInt8.ofNat (48 + (c.toNat - 48)) = c ∧ c.toNat - 48 < 10 := by
  unfold digB at h
  simp at h
  refine ⟨?_, by omega⟩
  rw [show 48 + (c.toNat - 48) = c.toNat by omega]
  exact UInt8.ofNat_toNat
theorem dd_lt {n : Nat} (h : n < 10) : Lib.decDigits n = [UInt8.ofNat (48 + n)] := Lib.decDigits_one h
theorem dd_ge {n : Nat} (h : ¬ n < 10) : Lib.decDigits n = Lib.decDigits (n / 10) ++ [UInt8.ofNat (48 + n % 10)] := by
  rw [Lib.decDigits, dif_neg h]
theorem dd_val (n : Nat) : valD (Lib.decDigits n) = n := by
  induction n using Nat.strongRecOn with
  | _ n ih =>
  by_cases h : n < 10
  · rw [dd_lt h]
    simp only [valD, List.foldl_cons, List.foldl_nil, (digB_of h).2]
    omega
  · rw [dd_ge h, valD_app, ih (n / 10) (by omega), (digB_of (Nat.mod_lt n (by omega))).2]
    omega
theorem dd_len {n k : Nat} (hk : 1 ≤ k) (h : n < 10 ^ k) : (Lib.decDigits n).length ≤ k := by
  induction k generalizing n with
  | zero => omega
  | succ k ih =>
    by_cases h9 : n < 10
    · rw [dd_lt h9]; simp
    · rw [dd_ge h9, List.length_append]
      have hk1 : 1 ≤ k := by
        cases k with
        | zero => simp at h; omega
        | succ k => omega
      have := ih hk1 (n := n / 10) (by rw [Nat.pow_succ] at h; omega)
      simp
      exact this
theorem dd_num (n : Nat) : isNum (Lib.decDigits n) = true ∧ 1 ≤ (Lib.decDigits n).length ∧ (n ≠ 0 → (Lib.decDigits n).head? ≠ some 48) := by
  induction n using Nat.strongRecOn with
  | _ n ih =>
  by_cases h : n < 10
  · rw [dd_lt h]
    obtain ⟨d1, d2⟩ := digB_of h
    generalize UInt8.ofNat (48 + n) = c at *
    refine ⟨by simp [isNum, d1], by simp, fun h0 he => ?_⟩
    simp at he
    subst he
    have : (48 : UInt8).toNat = 48 := rfl
    omega
  · obtain ⟨i1, i2, i3⟩ := ih (n / 10) (by omega)
    have hh := i3 (by omega)
    rw [dd_ge h]
    have d1 := (digB_of (Nat.mod_lt n (show 0 < 10 by omega))).1
    generalize UInt8.ofNat (48 + n % 10) = c at *
    have hd : (Lib.decDigits (n / 10) ++ [c]).head? = (Lib.decDigits (n / 10)).head? := by
      cases hz : Lib.decDigits (n / 10) with
      | nil => rw [hz] at i2; simp at i2
      | cons a r => rfl
    refine ⟨?_, by simp, fun _ => by rw [hd]; exact hh⟩
    unfold isNum at i1 ⊢
    simp only [Bool.and_eq_true] at i1 ⊢
    refine ⟨by rw [List.all_append, i1.1]; simp [d1], ?_⟩
    rw [hd]
    simp only [List.length_append, List.length_cons, List.length_nil, Bool.or_eq_true, Bool.and_eq_true, decide_eq_true_eq]
    exact .inr ⟨by omega, hh⟩
theorem valD_pos : ∀ (l : List UInt8), l.all digB = true → l ≠ [] → l.head? ≠ some 48 → 1 ≤ valD l := by
  intro l
  induction h : l.length generalizing l with
  | zero => intro _ h0; exact absurd (List.eq_nil_of_length_eq_zero h) h0
  | succ k ih =>
    intro ha h0 hh
    rcases List.eq_nil_or_concat l with rfl | ⟨i, c, rfl⟩
    · exact absurd rfl h0
    · rw [List.concat_eq_append] at h ha hh ⊢
      rw [valD_app]
      by_cases hi : i = []
      · subst hi
        simp at hh ha
        have hc := ha
        unfold digB at hc
        simp at hc
        have hne : c.toNat ≠ 48 := fun he => hh (UInt8.toNat_inj.1 (by rw [he]; rfl))
        simp [valD]
        omega
      · have hl : i.length = k := by simp at h; exact h
        rw [List.all_append, Bool.and_eq_true] at ha
        have hhi : i.head? ≠ some 48 := by
          cases i with
          | nil => exact absurd rfl hi
          | cons a r => simpa using hh
        have := ih i hl ha.1 hi hhi
        omega
theorem num_dec : ∀ (l : List UInt8), isNum l = true → Lib.decDigits (valD l) = l := by
  intro l
  induction h : l.length generalizing l with
  | zero =>
    intro hn
    have := List.eq_nil_of_length_eq_zero h
    subst this
    simp [isNum] at hn
  | succ k ih =>
    intro hn
    rcases List.eq_nil_or_concat l with rfl | ⟨i, c, rfl⟩
    · simp at h
    · rw [List.concat_eq_append] at h hn ⊢
      unfold isNum at hn
      simp only [Bool.and_eq_true, List.all_append] at hn
      obtain ⟨⟨hi, hc⟩, hl⟩ := hn
      have hc' : digB c = true := by simpa using hc
      obtain ⟨e1, e2⟩ := dig_back hc'
      rw [valD_app]
      by_cases h0 : i = []
      · subst h0
        have : valD [] * 10 + (c.toNat - 48) = c.toNat - 48 := by simp [valD]
        rw [this, dd_lt e2, e1]
        rfl
      · have hlen : i.length = k := by simp at h; exact h
        have hpos : 1 ≤ i.length := by
          cases i with
          | nil => exact absurd rfl h0
          | cons a r => simp
        have hh : i.head? ≠ some 48 := by
          simp only [List.length_append, List.length_cons, List.length_nil, Bool.or_eq_true, Bool.and_eq_true, decide_eq_true_eq] at hl
          rcases hl with hl | ⟨_, hl⟩
          · omega
          · cases i with
            | nil => exact absurd rfl h0
            | cons a r => simpa using hl
        have hv := valD_pos i hi h0 hh
        rw [dd_ge (by omega), show (valD i * 10 + (c.toNat - 48)) / 10 = valD i by omega, show (valD i * 10 + (c.toNat - 48)) % 10 = c.toNat - 48 by omega, e1]
        congr 1
        refine ih i hlen ?_
        unfold isNum
        simp only [Bool.and_eq_true, Bool.or_eq_true, decide_eq_true_eq]
        refine ⟨hi, ?_⟩
        by_cases h1 : i.length = 1
        · exact .inl h1
        · exact .inr ⟨by omega, hh⟩
end Go.Proofs.YtgfopfomhgfcaaaGreatDoor
namespace Go.Proofs.YtgfopfomhgfcaaaGreatDoor
open Go.RowKit Go.Sort

/-- What stands ahead of the last part. -/
def preB (b : UInt8) (D : List (List UInt8)) : List UInt8 := D.flatMap (· ++ [b])
/-- A text as the parts between separators. -/
def PartsB (b : UInt8) (s : List UInt8) (D : List (List UInt8)) (t : List UInt8) : Prop := s = preB b D ++ t ∧ (∀ d ∈ D, b ∉ d) ∧ b ∉ t
theorem part_eq {b : UInt8} : ∀ {x x' y y' : List UInt8}, b ∉ x → b ∉ x' → x ++ b :: y = x' ++ b :: y' → x = x' ∧ y = y'
  | [], [], _, _, _, _, h => by simpa using h
  | [], c :: x', _, _, _, h2, h => by
    simp at h h2
    exact absurd h.1 h2.1
  | c :: x, [], _, _, h1, _, h => by
    simp at h h1
    exact absurd h.1.symm h1.1
  | c :: x, d :: x', y, y', h1, h2, h => by
    simp only [List.cons_append, List.cons.injEq] at h
    obtain ⟨rfl, h⟩ := h
    simp only [List.mem_cons, not_or] at h1 h2
    obtain ⟨rfl, rfl⟩ := part_eq h1.2 h2.2 h
    exact ⟨rfl, rfl⟩
theorem parts_none {b : UInt8} {s t : List UInt8} {D : List (List UInt8)} (h : PartsB b s D t) (hb : b ∉ s) : D = [] ∧ t = s := by
  obtain ⟨rfl, h1, h2⟩ := h
  cases D with
  | nil => exact ⟨rfl, by simp [preB]⟩
  | cons d D => exact absurd (by simp [preB]) hb
theorem parts_one {b : UInt8} {x y t : List UInt8} {D : List (List UInt8)} (h : PartsB b (x ++ b :: y) D t) (hx : b ∉ x) (hy : b ∉ y) : D = [x] ∧ t = y := by
  obtain ⟨e, h1, h2⟩ := h
  cases D with
  | nil =>
    simp [preB] at e
    subst e
    exact absurd (by simp) h2
  | cons d D =>
    have e' : x ++ b :: y = d ++ b :: (preB b D ++ t) := by rw [e]; simp [preB]
    obtain ⟨e1, e2⟩ := part_eq hx (h1 d (by simp)) e'
    obtain ⟨e3, e4⟩ := parts_none (D := D) (t := t) ⟨e2, fun d hd => h1 d (by simp [hd]), h2⟩ hy
    exact ⟨by rw [e1, e3], e4⟩
theorem parts_len {b : UInt8} {s t : List UInt8} {D : List (List UInt8)} (h : PartsB b s D t) : D.length ≤ s.length := by
  obtain ⟨rfl, _, _⟩ := h
  have : ∀ D : List (List UInt8), D.length ≤ (preB b D).length := fun D => by
    induction D with
    | nil => simp
    | cons d D ih =>
      have : preB b (d :: D) = d ++ [b] ++ preB b D := by simp [preB]
      rw [this]
      simp
      omega
  have := this D
  simp
  omega
/-- Digits. -/
theorem num_digs {l : List UInt8} (h : isNum l = true) : ∀ c ∈ l, 48 ≤ c.toNat ∧ c.toNat ≤ 57 := by
  unfold isNum at h
  simp only [Bool.and_eq_true, List.all_eq_true] at h
  intro c hc
  have := h.1 c hc
  unfold digB at this
  simpa using this
theorem dd_digs (n : Nat) : ∀ c ∈ Lib.decDigits n, 48 ≤ c.toNat ∧ c.toNat ≤ 57 := num_digs (dd_num n).1
/-- A number read. -/
def rdN (l : List UInt8) : Option Nat := if isNum l && decide (l.length ≤ 10) then some (valD l) else none
theorem rdN_some {l : List UInt8} {n : Nat} (h : rdN l = some n) : l = Lib.decDigits n := by
  unfold rdN at h
  split at h
  · rename_i hc
    rw [Bool.and_eq_true] at hc
    obtain rfl := Option.some.inj h
    exact (num_dec l hc.1).symm
  · cases h
theorem rdN_dec {n : Nat} (h : n < 10000000000) : rdN (Lib.decDigits n) = some n := by
  unfold rdN
  rw [if_pos (by rw [Bool.and_eq_true, decide_eq_true_eq]; exact ⟨(dd_num n).1, dd_len (by omega) (by omega)⟩), dd_val]
/-- A number with a sign. -/
def rdS (l : List UInt8) : Option Int :=
  if l.head? = some 45 then (match rdN l.tail with | some n => if n = 0 then none else some (-(n : Int)) | none => none)
  else (rdN l).map fun n : Nat => (n : Int)
theorem itoa_neg {p : Int} (h : p < 0) : Lib.itoa p = 45 :: Lib.decDigits p.natAbs := by unfold Lib.itoa; rw [if_pos h]
theorem itoa_pos {p : Int} (h : ¬ p < 0) : Lib.itoa p = Lib.decDigits p.natAbs := by
  unfold Lib.itoa
  rw [if_neg h, show p.toNat = p.natAbs by omega]
theorem rdS_some {l : List UInt8} {p : Int} (h : rdS l = some p) : l = Lib.itoa p := by
  unfold rdS at h
  split at h
  · rename_i hh
    cases l with
    | nil => simp at hh
    | cons c r =>
      obtain rfl : c = 45 := by simpa using hh
      simp only [List.tail_cons] at h
      split at h
      · rename_i n hn
        split at h
        · cases h
        · obtain rfl := Option.some.inj h
          rw [itoa_neg (by omega), show (-(n : Int)).natAbs = n by omega, ← rdN_some hn]
      · cases h
  · obtain ⟨n, hn, rfl⟩ := Option.map_eq_some_iff.1 h
    rw [itoa_pos (by omega), show ((n : Int)).natAbs = n by omega, ← rdN_some hn]
theorem dd_head (n : Nat) : (Lib.decDigits n).head? ≠ some 45 := by
  intro h
  have hm : (45 : UInt8) ∈ Lib.decDigits n := List.mem_of_mem_head? (by rw [h]; rfl)
  have := dd_digs n _ hm
  have e : (45 : UInt8).toNat = 45 := rfl
  omega
theorem rdS_itoa {p : Int} (h1 : -10000000000 < p) (h2 : p < 10000000000) : rdS (Lib.itoa p) = some p := by
  unfold rdS
  by_cases h : p < 0
  · rw [itoa_neg h, if_pos (by rfl)]
    simp only [List.tail_cons]
    rw [rdN_dec (by omega)]
    simp only
    rw [if_neg (by omega)]
    congr 1
    omega
  · rw [itoa_pos h, if_neg (dd_head _), rdN_dec (by omega)]
    simp only [Option.map_some]
    congr 1
    omega
theorem itoa_in (p : Int) : ∀ c ∈ Lib.itoa p, c = 45 ∨ 48 ≤ c.toNat ∧ c.toNat ≤ 57 := by
  intro c hc
  by_cases h : p < 0
  · rw [itoa_neg h] at hc
    rcases List.mem_cons.1 hc with rfl | hc
    · exact .inl rfl
    · exact .inr (dd_digs _ c hc)
  · rw [itoa_pos h] at hc
    exact .inr (dd_digs _ c hc)
theorem itoa_no (p : Int) {b : UInt8} (h1 : b ≠ 45) (h2 : b.toNat < 48) : b ∉ Lib.itoa p := fun hm => by
  rcases itoa_in p b hm with h | h
  · exact h1 h
  · omega
/-- What strconv.ParseInt makes of a number's text. -/
theorem pum_of : ∀ (l : List UInt8) (acc : Nat), (∀ c ∈ l, 48 ≤ c.toNat ∧ c.toNat ≤ 57) → ∀ (M : Nat), l.foldl (fun n c => n * 10 + (c.toNat - 48)) acc ≤ 1000000000000000000 → 1000000000000000000 ≤ M →
    Lib.parseUintM M acc l = .ok (l.foldl (fun n c => n * 10 + (c.toNat - 48)) acc) ∧ acc ≤ l.foldl (fun n c => n * 10 + (c.toNat - 48)) acc := by
  intro l
  induction l with
  | nil => intro acc _ M _ _; exact ⟨rfl, Nat.le_refl _⟩
  | cons c r ih =>
    intro acc hd M hv hM
    simp only [List.foldl_cons] at hv ⊢
    obtain ⟨e1, e2⟩ := ih (acc * 10 + (c.toNat - 48)) (fun x hx => hd x (by simp [hx])) M hv hM
    have hc := hd c (by simp)
    refine ⟨?_, by omega⟩
    unfold Lib.parseUintM
    rw [if_pos hc, if_neg (by omega), if_neg (by omega)]
    exact e1
theorem pint_of {p : Int} (h1 : -10000000000 < p) (h2 : p < 10000000000) : Lib.parseIntB 64 (Lib.itoa p) = .ok p := by
  have hu : ∀ n : Nat, n < 10000000000 → Lib.parseUintB 64 (Lib.decDigits n) = .ok n := fun n hn => by
    unfold Lib.parseUintB
    have hne : Lib.decDigits n ≠ [] := fun h0 => by have := (dd_num n).2.1; rw [h0] at this; simp at this
    rw [if_neg hne]
    have hv : (Lib.decDigits n).foldl (fun n c => n * 10 + (c.toNat - 48)) 0 = n := dd_val n
    obtain ⟨e, _⟩ := pum_of (Lib.decDigits n) 0 (dd_digs n) (2 ^ 64 - 1) (by rw [hv]; omega) (by decide)
    rw [e, hv]
  by_cases h : p < 0
  · rw [itoa_neg h]
    unfold Lib.parseIntB
    have e45 : (45 : UInt8).toNat = 45 := rfl
    simp only [e45]
    rw [if_pos (.inr trivial), hu _ (by omega)]
    simp only [not_true_eq_false, false_and, if_false, true_and, if_true]
    rw [if_neg (by omega)]
    congr 1
    omega
  · rw [itoa_pos h]
    obtain ⟨n, rfl⟩ := Int.eq_ofNat_of_zero_le (show 0 ≤ p by omega)
    simp only [Int.natAbs_natCast] at *
    have hne : Lib.decDigits n ≠ [] := fun h0 => by have := (dd_num n).2.1; rw [h0] at this; simp at this
    have hu := hu n (by omega)
    have hd := dd_digs n
    revert hu hd
    cases hl : Lib.decDigits n with
    | nil => exact absurd hl hne
    | cons c r =>
      intro hu hd
      have hc := hd c (by simp)
      unfold Lib.parseIntB
      simp only
      rw [if_neg (by omega), hu]
      simp only
      rw [if_neg (by omega), if_neg (by omega), if_neg (by omega)]
/-- strings.Cut at a separator. -/
theorem occ_mem {s sub : List UInt8} {b : UInt8} {i : Nat} (h : Lib.occAt s (b :: sub) i = true) : s[i]? = some b := by
  unfold Lib.occAt at h
  cases hd : s.drop i with
  | nil => rw [hd] at h; simp [List.isPrefixOf] at h
  | cons c r =>
    rw [hd] at h
    simp [List.isPrefixOf] at h
    have : (s.drop i)[0]? = some c := by rw [hd]; rfl
    rw [List.getElem?_drop] at this
    rw [h.1]
    simpa using this
theorem cut_none {s sub : List UInt8} {b : UInt8} (h : b ∉ s) : Lib.cut s (b :: sub) = (s, [], false) := by
  have : Lib.index s (b :: sub) = -1 := Lib.index_none fun j _ => by
    cases ho : Lib.occAt s (b :: sub) j with
    | false => rfl
    | true => exact absurd (List.mem_of_getElem? (occ_mem ho)) h
  unfold Lib.cut
  rw [this, if_neg (by omega)]
theorem cut_some {x y sub : List UInt8} {b : UInt8} (h : b ∉ x) : Lib.cut (x ++ (b :: sub) ++ y) (b :: sub) = (x, y, true) := by
  have hi : Lib.index (x ++ (b :: sub) ++ y) (b :: sub) = x.length := by
    refine Lib.index_first (by simp) ?_ fun j hj => ?_
    · unfold Lib.occAt
      rw [List.append_assoc, List.drop_append_of_le_length (Nat.le_refl _), List.drop_length]
      simp
    · cases ho : Lib.occAt (x ++ (b :: sub) ++ y) (b :: sub) j with
      | false => rfl
      | true =>
        have := occ_mem ho
        rw [List.append_assoc, List.getElem?_append_left hj] at this
        exact absurd (List.mem_of_getElem? this) h
  unfold Lib.cut
  rw [hi, if_pos (by omega)]
  simp
theorem cut_cases (s : List UInt8) (b : UInt8) (sub : List UInt8) : (∃ x y, Lib.cut s (b :: sub) = (x, y, true) ∧ s = x ++ (b :: sub) ++ y) ∨ Lib.cut s (b :: sub) = (s, [], false) := by
  rcases Lib.index_spec s (b :: sub) with ⟨h, _⟩ | ⟨i, h, hi, ho, _⟩
  · right
    unfold Lib.cut
    rw [h, if_neg (by omega)]
  · left
    refine ⟨s.take i, s.drop (i + (b :: sub).length), ?_, ?_⟩
    · unfold Lib.cut
      rw [h, if_pos (by omega)]
      simp
    · unfold Lib.occAt at ho
      obtain ⟨t, ht⟩ := List.isPrefixOf_iff_prefix.1 ho
      rw [← List.drop_drop, ← ht, List.drop_left, List.append_assoc, ht, List.take_append_drop]
end Go.Proofs.YtgfopfomhgfcaaaGreatDoor
namespace Go.Proofs.YtgfopfomhgfcaaaGreatDoor
open Go.RowKit Go.Sort

theorem valD_lt : ∀ (l : List UInt8), l.all digB = true → valD l < 10 ^ l.length := by
  intro l
  induction h : l.length generalizing l with
  | zero => intro _; have := List.eq_nil_of_length_eq_zero h; subst this; simp [valD]
  | succ k ih =>
    intro ha
    rcases List.eq_nil_or_concat l with rfl | ⟨i, c, rfl⟩
    · simp at h
    · rw [List.concat_eq_append] at h ha ⊢
      rw [valD_app]
      rw [List.all_append, Bool.and_eq_true] at ha
      have hi : i.length = k := by simp at h; exact h
      have := ih i hi ha.1
      have hc := (dig_back (by simpa using ha.2 : digB c = true)).2
      rw [Nat.pow_succ]
      omega
theorem valD_take {s : ByteArray} {k : Nat} (hk : k < s.size) : valD (s.data.toList.take (k + 1)) = valD (s.data.toList.take k) * 10 + (s[k].toNat - 48) := by
  have h : s.data.toList[k]? = some s[k] := by
    have : k < s.data.toList.length := by simpa using hk
    rw [List.getElem?_eq_getElem this]
    simp
    rfl
  rw [List.take_add_one, h]
  exact valD_app _ _
theorem digs_take {s : ByteArray} {k : Nat} (hk : k < s.size) (h : (s.data.toList.take k).all digB = true) (hd : digB s[k] = true) : (s.data.toList.take (k + 1)).all digB = true := by
  have e : s.data.toList[k]? = some s[k] := by
    have : k < s.data.toList.length := by simpa using hk
    rw [List.getElem?_eq_getElem this]
    simp
    rfl
  rw [List.take_add_one, e, List.all_append, h]
  simpa using hd
theorem digs_not {s : ByteArray} {k : Nat} (hk : k < s.size) (hd : digB s[k] = false) : s.data.toList.all digB = false := by
  have hm : s[k] ∈ s.data.toList := by
    have e : s.data.toList[k]? = some s[k] := by
      have : k < s.data.toList.length := by simpa using hk
      rw [List.getElem?_eq_getElem this]
      simp
      rfl
    exact List.mem_of_getElem? e
  cases ha : s.data.toList.all digB with
  | false => rfl
  | true =>
    rw [List.all_eq_true] at ha
    rw [ha _ hm] at hd
    cases hd
/-- What the reference's reader of a number gives. -/
def rdNv (l : List UInt8) : Int × Bool := match rdN l with | some n => ((n : Int), true) | none => (0, false)
theorem rdNv_no {l : List UInt8} (h : isNum l = false) : rdNv l = (0, false) := by unfold rdNv rdN; rw [h]; rfl
theorem rdNv_long {l : List UInt8} (h : ¬ l.length ≤ 10) : rdNv l = (0, false) := by unfold rdNv rdN; rw [decide_eq_false h, Bool.and_false]; rfl
theorem rdNv_yes {l : List UInt8} (h : isNum l = true) (h2 : l.length ≤ 10) : rdNv l = ((valD l : Int), true) := by unfold rdNv rdN; rw [h, decide_eq_true h2]; rfl
theorem bv_eq {v : Value} {a b : Int × Bool} (h : v = .tuple #[.int .i64 a.1, .bool a.2]) (e : b = a) : v = .tuple #[.int .i64 b.1, .bool b.2] := e ▸ h
theorem s_len (s : ByteArray) : s.data.toList.length = s.size := by simp
theorem s_at (s : ByteArray) (k : Nat) (h : k < s.size) : s.data.toList[k]? = some s[k] := by
  have : k < s.data.toList.length := by simpa using h
  rw [List.getElem?_eq_getElem this]
  simp
  rfl
theorem s_head (s : ByteArray) (h : 0 < s.size) : s.data.toList.head? = some s[0] := by
  rw [← s_at s 0 h, List.head?_eq_getElem?]
theorem s_nil {s : ByteArray} (h : s.size = 0) : s = ⟨#[]⟩ := by
  apply ByteArray.ext
  apply Array.ext'
  exact List.eq_nil_of_length_eq_zero (by rw [s_len]; exact h)
theorem isNum_zero {l : List UInt8} (h1 : 1 < l.length) (h : l.head? = some 48) : isNum l = false := by
  unfold isNum
  simp [h]
  intro _
  omega
theorem loop_is (s : ByteArray) (i : Nat) (r : List UInt8) : ByteArray.toList.loop s i r = r.reverse ++ s.data.toList.drop i := by
  fun_induction ByteArray.toList.loop s i r with
  | case1 i r hi ih =>
    rw [ih]
    have hi' : i < s.data.toList.length := by simpa using hi
    have e : s.get! i = s.data.toList[i] := by
      unfold ByteArray.get!
      simp only [Array.getElem_toList]
      exact getElem!_pos s.data i (by simpa using hi)
    rw [List.drop_eq_getElem_cons hi', e]
    simp
  | case2 i r hi =>
    rw [List.drop_eq_nil_of_le (by simpa using hi)]
    simp
theorem bl_is (s : ByteArray) : s.toList = s.data.toList := by
  unfold ByteArray.toList
  rw [loop_is]
  simp
theorem txt_ne {S s : ByteArray} (h : ¬ S = s) : (S.toList == s.toList) = false := by
  rw [beq_eq_false_iff_ne, bl_is, bl_is]
  intro he
  refine h (ByteArray.ext (Array.ext' he))
theorem loop_ne (s : ByteArray) (i : Nat) (r : List UInt8) (h : r ≠ []) : ByteArray.toList.loop s i r ≠ [] := by
  fun_induction ByteArray.toList.loop s i r with
  | case1 i r hi ih => exact ih (by simp)
  | case2 i r hi => simpa using h
theorem ne_list {s : ByteArray} (h0 : ¬ s.size = 0) : s.toList.isEmpty = false := by
  have h : s.toList ≠ [] := by
    unfold ByteArray.toList ByteArray.toList.loop
    rw [if_pos (by omega)]
    exact loop_ne s _ _ (by simp)
  cases hl : s.toList with
  | nil => exact absurd hl h
  | cons a r => rfl
set_option maxRecDepth 20000 in
set_option maxHeartbeats 1000000 in
theorem sNumber (s : ByteArray) (w : World) (hs : s.size ≤ 9223372036854775807) (N : Int) (b : Bool) (hN : rdNv s.data.toList = (N, b)) : Calls Tryz.prog 52 #[.string s] w fun e w' => e = .returned (.tuple #[.int .i64 N, .bool b]) ∧ Gr w w' := by
  by_cases h0 : s.size = 0
  · have e : rdNv s.data.toList = (0, false) := rdNv_no (by rw [s_nil h0]; rfl)
    rw [e] at hN
    cases hN
    have hsn := s_nil h0
    subst hsn
    clear e hs h0
    go_enter Tryz.func52, Tryz.ntmps52
    go_wp2
    go_ret2
    exact ⟨rfl, Gr.refl _⟩
  · have he := ne_list h0
    have hz : 0 < s.size := by omega
    by_cases h10 : s.size ≤ 10
    · have d10 : ¬ (10 : Int) < (s.size : Int) := by omega
      by_cases hd : 1 < s.size ∧ s[0].toNat = 48
      · have e : rdNv s.data.toList = (0, false) := rdNv_no (isNum_zero (by rw [s_len]; exact hd.1) (by rw [s_head s hz]; congr 1; exact UInt8.toNat_inj.1 (by rw [hd.2]; rfl)))
        rw [e] at hN
        cases hN
        have h1 : (1 : Int) < (s.size : Int) := by omega
        have h2 : (s[0].toNat : Int) = 48 := by omega
        clear e h0 hd
        go_enter Tryz.func52, Tryz.ntmps52
        go_wp2
        go_ret2
        exact ⟨rfl, Gr.refl _⟩
      · have HN : Hid (isNum s.data.toList = s.data.toList.all digB) := hid (by
          unfold isNum
          cases s.data.toList.all digB with
          | false => rfl
          | true =>
            simp only [Bool.true_and]
            by_cases h1 : s.size = 1
            · rw [s_len]; simp [h1]
            · have hne : s.data.toList.head? ≠ some 48 := by
                rw [s_head s hz]
                intro h
                have h := Option.some.inj h
                exact hd ⟨by omega, by rw [h]; rfl⟩
              rw [s_len]
              simp only [decide_eq_true hne, Bool.and_true]
              simp
              omega)
        have hD : ((s[0].toNat : Int) == 48) = false ∨ (s[0].toNat : Int) = 48 ∧ ¬ (1 : Int) < (s.size : Int) := by
          by_cases h1 : (s[0].toNat : Int) = 48
          · exact .inr ⟨h1, fun h => hd ⟨by omega, by omega⟩⟩
          · exact .inl (by simpa using h1)
        have HR := hid hN
        clear h0 hd hN
        go_enter Tryz.func52, Tryz.ntmps52
        rcases hD with hD | ⟨hD, hD2⟩
        all_goals
          go_wp2_with fail
          clear he
          go_loopw [4, 5] (fun t u wr => ∃ (k : Nat), u = .int .i64 (k : Int) ∧ t = .int .i64 (valD (s.data.toList.take k) : Int) ∧ k ≤ s.size ∧ (s.data.toList.take k).all digB = true ∧ wr = w) (fun _ u _ => s.size - (intOf u).toNat)
          case atStart => exact ⟨0, rfl, rfl, by omega, by simp, by simp⟩
          case round =>
            obtain ⟨k, rfl, rfl, hk, ha, rfl⟩ := hrel
            have HA := hid ha; clear ha
            have hv := valD_lt _ HA.out
            have hv10 : valD (s.data.toList.take k) < 10000000000 := Nat.lt_of_lt_of_le hv (Nat.le_trans (Nat.pow_le_pow_right (by omega) (show (s.data.toList.take k).length ≤ 10 by simp; omega)) (by decide))
            by_cases hlt : k < s.size
            · have HV := hid (valD_take hlt)
              obtain ⟨m, hm⟩ : ∃ m, valD (s.data.toList.take k) = m := ⟨_, rfl⟩
              rw [hm] at HV hv10
              rw [hm]
              cases hl : digB s[k] with
              | true =>
                have HT := hid (digs_take hlt HA.out hl)
                have hl2 := hl
                unfold digB at hl2
                simp only [Bool.and_eq_true, decide_eq_true_eq] at hl2
                have g1 : ¬ (s[k].toNat : Int) < 48 := by omega
                have g2 : ¬ (57 : Int) < (s[k].toNat : Int) := by omega
                have hsub : ((s[k].toNat - 48 : Nat) : Int) = (s[k].toNat : Int) - 48 := by omega
                clear hl hl2 hv hm
                go_wp2_with fail
                exact ⟨⟨k + 1, by simp, by rw [HV.out]; push_cast; rw [hsub]; congr 1; omega, by omega, HT.out, by simp⟩, by simp [intOf]; omega⟩
              | false =>
                have HF := hid (digs_not hlt hl)
                have hR : N = 0 ∧ b = false := by
                  have h := HR.out
                  rw [rdNv_no (by rw [HN.out, HF.out])] at h
                  cases h
                  exact ⟨rfl, rfl⟩
                obtain ⟨rfl, rfl⟩ := hR
                have hl2 := hl
                unfold digB at hl2
                simp at hl2
                clear hl hv hm
                by_cases g1 : (s[k].toNat : Int) < 48
                · clear hl2
                  go_wp2_with fail
                  go_ret2
                  exact ⟨rfl, Gr.refl _⟩
                · have g2 : (57 : Int) < (s[k].toNat : Int) := by omega
                  clear hl2
                  go_wp2_with fail
                  go_ret2
                  exact ⟨rfl, Gr.refl _⟩
            · have hte : s.data.toList.take k = s.data.toList := List.take_of_length_le (by rw [s_len]; omega)
              have hR : N = (valD (s.data.toList.take k) : Int) ∧ b = true := by
                have h := HR.out
                have ha := HA.out
                rw [hte] at ha ⊢
                rw [rdNv_yes (by rw [HN.out, ha]) (by rw [s_len]; exact h10)] at h
                cases h
                exact ⟨rfl, rfl⟩
              obtain ⟨rfl, rfl⟩ := hR
              clear hv
              obtain ⟨m, hm⟩ : ∃ m, valD (s.data.toList.take k) = m := ⟨_, rfl⟩
              rw [hm] at hv10
              have HM := hid hm
              clear hte hm
              go_wp2_with fail
              go_ret2
              exact ⟨by rw [HM.out]; rfl, Gr.refl _⟩
    · have e : rdNv s.data.toList = (0, false) := rdNv_long (by rw [s_len]; exact h10)
      rw [e] at hN
      cases hN
      have d10 : (10 : Int) < (s.size : Int) := by omega
      clear e h0 h10
      go_enter Tryz.func52, Tryz.ntmps52
      go_wp2
      go_ret2
      exact ⟨rfl, Gr.refl _⟩
end Go.Proofs.YtgfopfomhgfcaaaGreatDoor
namespace Go.Proofs.YtgfopfomhgfcaaaGreatDoor
open Go.RowKit Go.Sort

/-- The cells of texts. -/
def strL (D : List (List UInt8)) : List Value := D.map fun d => .string ⟨d.toArray⟩
theorem strL_len (D : List (List UInt8)) : (strL D).length = D.length := by simp [strL]
theorem ext_list (s : ByteArray) (a b : Nat) : (s.extract a b).data.toList = (s.data.toList.drop a).take (b - a) := by
  rw [Lib.extract_eq]
theorem ext_mk (s : ByteArray) (a b : Nat) : s.extract a b = ⟨((s.data.toList.drop a).take (b - a)).toArray⟩ := Lib.extract_eq s a b
theorem one_newsS {w : World} {b : Nat} {s : ByteArray} {T : TypeId} (h : w.heap[b]? = some (.cells #[.string s] T)) : ∀ (j : Nat) (u : Value), ([Value.string s])[j]? = some u → w.cell? ((⟨b, 0, none⟩ : Addr).add j) = some u := by
  intro j u hj
  match j with
  | 0 => simp at hj; subst hj; exact cells1 h
  | j + 1 => simp at hj
/-- What l01Split has found so far. -/
structure SpI (by_ : UInt8) (s : List UInt8) (D : List (List UInt8)) (b k : Nat) : Prop where
  h1 : s.take b = preB by_ D
  h2 : ∀ d ∈ D, by_ ∉ d
  h3 : by_ ∉ (s.drop b).take (k - b)
  h4 : b ≤ k
theorem SpI.hit {y : UInt8} {s : List UInt8} {D : List (List UInt8)} {b k : Nat} (h : SpI y s D b k) (hk : s[k]? = some y) : SpI y s (D ++ [(s.drop b).take (k - b)]) (k + 1) (k + 1) := by
  obtain ⟨h1, h2, h3, h4⟩ := h
  refine ⟨?_, ?_, by simp, Nat.le_refl _⟩
  · have e : s.take (k + 1) = s.take b ++ ((s.drop b).take (k - b) ++ [y]) := by
      rw [List.take_add_one, hk]
      have : s.take k = s.take b ++ (s.drop b).take (k - b) := by
        rw [← List.take_append_drop b (s.take k), List.take_take, Nat.min_eq_left h4, List.drop_take]
      rw [this]
      simp
    rw [e, h1]
    simp [preB]
  · intro d hd
    rcases List.mem_append.1 hd with hd | hd
    · exact h2 d hd
    · simp at hd
      subst hd
      exact h3
theorem SpI.miss {y c : UInt8} {s : List UInt8} {D : List (List UInt8)} {b k : Nat} (h : SpI y s D b k) (hk : s[k]? = some c) (hc : c ≠ y) : SpI y s D b (k + 1) := by
  obtain ⟨h1, h2, h3, h4⟩ := h
  refine ⟨h1, h2, ?_, by omega⟩
  rw [show k + 1 - b = (k - b) + 1 by omega, List.take_add_one, List.getElem?_drop, show b + (k - b) = k by omega, hk]
  simp
  exact ⟨h3, fun e => hc e.symm⟩
theorem SpI.done {y : UInt8} {s : List UInt8} {D : List (List UInt8)} {b k : Nat} (h : SpI y s D b k) (hk : k = s.length) : PartsB y s D (s.drop b) := by
  obtain ⟨h1, h2, h3, h4⟩ := h
  refine ⟨by rw [← h1, List.take_append_drop], h2, ?_⟩
  rwa [List.take_of_length_le (by simp; omega)] at h3
set_option maxRecDepth 20000 in
set_option maxHeartbeats 1000000 in
theorem sSplit (s : ByteArray) (y : UInt8) (w : World) (hs : s.size ≤ 1048576) : Calls Tryz.prog 43 #[.string s, .int .u8 (y.toNat : Int)] w fun e w' => ∃ A c D t, e = .returned (.slice A (D.length + 1) c) ∧ w'.ownsRow w.heap.size 9 1 (.slice A (D.length + 1) c) (D.length + 1) (strL (D ++ [t])) ∧ PartsB y s.data.toList D t ∧ Gr w w' := by
  obtain ⟨i0, hi, hz0, hz1, hz2⟩ : ∃ i, Tryz.prog.info? 9 = some i ∧ i.zero = some (.string ⟨#[]⟩) ∧ i.size = 1 ∧ i.bytes = 16 := ⟨_, rfl, by kernel_rfl, rfl, rfl⟩
  go_enter Tryz.func43, Tryz.ntmps43
  go_wp2_with fail
  go_loopw [5, 6, 7] (fun t u v wr => ∃ (k b : Nat) (A : Option Addr) (c : Nat) (D : List (List UInt8)), v = .int .i64 (k : Int) ∧ u = .int .i64 (b : Int) ∧ t = .slice A D.length c ∧ k ≤ s.size ∧ Gr w wr ∧ wr.ownsRow w.heap.size 9 1 (.slice A D.length c) D.length (strL D) ∧ SpI y s.data.toList D b k ∧ D.length ≤ k) (fun _ _ v _ => s.size - (intOf v).toNat)
  case atStart => exact ⟨0, 0, _, _, [], rfl, rfl, rfl, by omega, (Gr.refl _).al _, World.ownsRow_made _ #[] 0 (Nat.le_refl _) (by simp [maxLen]) (by simp), ⟨by simp [preB], by simp, by simp, Nat.le_refl _⟩, by simp⟩
  case round =>
    obtain ⟨k, b, A, c, D, rfl, rfl, rfl, hk, hg, hown, hsp, hdk⟩ := hrel
    have GW := hid hg; have OWN := hid hown; have SP := hid hsp
    have hbk := hsp.h4
    clear hg hown hsp
    have hsz := GW.out.size
    by_cases hlt : k < s.size
    · have HA := hid (s_at s k hlt)
      by_cases hy : s[k].toNat = y.toNat
      · have HY := hid (UInt8.toNat_inj.1 hy)
        have hyI : (s[k].toNat : Int) = (y.toNat : Int) := by omega
        clear hy
        have OWN5 := hid (own_gr OWN.out ((Gr.refl wr).al (.cells #[.string (s.extract b k)] 9)))
        have NEW := hid (one_newsS (w := wr.alloc (.cells #[.string (s.extract b k)] 9)) (b := wr.heap.size) (alloc1 (Gr.refl _)).1)
        have G5 := hid (GW.out.al (.cells #[.string (s.extract b k)] 9))
        have hsz5 := G5.out.size
        go_wp2_with (at_builtin; refine (wpList_append_gr rfl _ _ 73 rfl w.heap.size 9 i0 (.string ⟨#[]⟩) 1 16 Tryz.underlying73 hi hz0 hz1 hz2 rfl (by decide) _ D.length _ rfl OWN5.out ⟨wr.heap.size, 0, none⟩ 1 1 [.string (s.extract b k)] rfl rfl NEW.out (by simp [Value.oneCell']) (by decide) (by unfold maxLen; omega) (by omega) hsz5 ?_))
        intro v' w6 own6 _ _ hgr
        obtain ⟨A2, c2, rfl⟩ := own_form own6
        have e6 : strL D ++ [Value.string (s.extract b k)] = strL (D ++ [(s.data.toList.drop b).take (k - b)]) := by rw [ext_mk]; simp [strL]
        rw [e6] at own6
        have OWN6 := hid own6
        have G6 := hid (hgr _ G5.out (Nat.le_refl _))
        have SP6 := hid (SP.out.hit (by rw [HA.out, HY.out]))
        clear own6 hgr e6 OWN5 NEW hsz5 hsz
        go_wp2_with fail
        exact ⟨⟨k + 1, k + 1, A2, c2, _, by simp, by simp, by simp, by omega, G6.out, by simpa using OWN6.out, SP6.out, by simp; omega⟩, by simp [intOf]; omega⟩
      · have hyI : ¬ (s[k].toNat : Int) = (y.toNat : Int) := by omega
        have SP6 := hid (SP.out.miss HA.out (fun e => hy (by rw [e])))
        clear hy
        go_wp2_with fail
        exact ⟨⟨k + 1, b, A, c, D, by simp, by simp, by simp, by omega, GW.out, OWN.out, SP6.out, by omega⟩, by simp [intOf]; omega⟩
    · have hke : k = s.data.toList.length := by rw [s_len]; omega
      have PT := hid (SP.out.done hke)
      clear hke
      have hb : b ≤ s.size := by omega
      have OWN5 := hid (own_gr OWN.out ((Gr.refl wr).al (.cells #[.string (s.extract b s.size)] 9)))
      have NEW := hid (one_newsS (w := wr.alloc (.cells #[.string (s.extract b s.size)] 9)) (b := wr.heap.size) (alloc1 (Gr.refl _)).1)
      have G5 := hid (GW.out.al (.cells #[.string (s.extract b s.size)] 9))
      have hsz5 := G5.out.size
      go_wp2_with (at_builtin; refine (wpList_append_gr rfl _ _ 73 rfl w.heap.size 9 i0 (.string ⟨#[]⟩) 1 16 Tryz.underlying73 hi hz0 hz1 hz2 rfl (by decide) _ D.length _ rfl OWN5.out ⟨wr.heap.size, 0, none⟩ 1 1 [.string (s.extract b s.size)] rfl rfl NEW.out (by simp [Value.oneCell']) (by decide) (by unfold maxLen; omega) (by omega) hsz5 ?_))
      intro v' w6 own6 _ _ hgr
      obtain ⟨A2, c2, rfl⟩ := own_form own6
      have e6 : strL D ++ [Value.string (s.extract b s.size)] = strL (D ++ [s.data.toList.drop b]) := by
        rw [ext_mk, List.take_of_length_le (by simp)]
        simp [strL]
      rw [e6] at own6
      have OWN6 := hid own6
      have G6 := hid (hgr _ G5.out (Nat.le_refl _))
      clear own6 hgr e6 OWN5 NEW hsz5 hsz
      go_wp2_with fail
      go_ret
      exact ⟨A2, c2, D, _, rfl, OWN6.out, PT.out, G6.out⟩

/-! a number with a sign -/
/-- What the reference's reader of a number with a sign gives. -/
def rdSv (l : List UInt8) : Int × Bool := if l.head? = some 45 then (-(rdNv l.tail).1, (rdNv l.tail).2 && decide (0 < (rdNv l.tail).1)) else rdNv l
theorem rdSv_is (l : List UInt8) : rdSv l = (match rdS l with | some p => (p, true) | none => (0, false)) := by
  unfold rdSv rdS rdNv
  split
  · cases h : rdN l.tail with
    | none => simp
    | some n =>
      by_cases h0 : n = 0
      · simp [h0]
      · have : 0 < n := by omega
        simp [h0, this]
  · cases h : rdN l with
    | none => rfl
    | some n => rfl
theorem rdN_lt {l : List UInt8} {n : Nat} (h : rdN l = some n) : n < 10000000000 := by
  unfold rdN at h
  split at h
  · rename_i hc
    rw [Bool.and_eq_true, decide_eq_true_eq] at hc
    obtain rfl := Option.some.inj h
    have ha : l.all digB = true := by
      have := hc.1
      unfold isNum at this
      rw [Bool.and_eq_true] at this
      exact this.1
    exact Nat.lt_of_lt_of_le (valD_lt l ha) (Nat.le_trans (Nat.pow_le_pow_right (by omega) hc.2) (by decide))
  · cases h
theorem rdNv_bd (l : List UInt8) : 0 ≤ (rdNv l).1 ∧ (rdNv l).1 < 10000000000 := by
  unfold rdNv
  cases h : rdN l with
  | none => simp
  | some n => have := rdN_lt h; simp; omega
theorem rdSv_bd (l : List UInt8) : -10000000000 < (rdSv l).1 ∧ (rdSv l).1 < 10000000000 := by
  unfold rdSv
  split
  · have := rdNv_bd l.tail
    simp
    omega
  · have := rdNv_bd l
    omega
set_option maxRecDepth 20000 in
set_option maxHeartbeats 1000000 in
theorem sNumS (s : ByteArray) (w : World) (hs : s.size ≤ 1048576) (N : Int) (b : Bool) (hN : rdSv s.data.toList = (N, b)) : Calls Tryz.prog 88 #[.string s] w fun e w' => e = .returned (.tuple #[.int .i64 N, .bool b]) ∧ Gr w w' := by
  by_cases h0 : s.size = 0
  · have HC := hid fun (w : World) => sNumber ⟨#[]⟩ w (by decide) 0 false rfl
    have hsn := s_nil h0
    subst hsn
    have e : rdSv (⟨#[]⟩ : ByteArray).data.toList = (0, false) := rfl
    rw [e] at hN
    cases hN
    clear e hs h0
    go_enter Tryz.func88, Tryz.ntmps88
    go_wp2_with fail
    refine (HC.out _).mono ?_
    rintro e w1 ⟨rfl, hg1⟩
    have G1 := hid (hg1)
    clear hg1
    go_wp2
    go_ret2
    exact ⟨rfl, G1.out⟩
  · have he := ne_list h0
    have hz : 0 < s.size := by omega
    by_cases h45 : s[0].toNat = 45
    · have hh : s.data.toList.head? = some 45 := by rw [s_head s hz]; congr 1; exact UInt8.toNat_inj.1 (by rw [h45]; rfl)
      have et : (s.extract 1 s.size).data.toList = s.data.toList.tail := by rw [ext_list, List.take_of_length_le (by simp)]; simp
      obtain ⟨n, b0, hn⟩ : ∃ n b0, rdNv s.data.toList.tail = (n, b0) := ⟨_, _, rfl⟩
      have hbd := rdNv_bd s.data.toList.tail
      rw [hn] at hbd
      have hNb : N = -n ∧ b = (b0 && decide (0 < n)) := by
        unfold rdSv at hN
        rw [if_pos hh, hn] at hN
        cases hN
        exact ⟨rfl, rfl⟩
      obtain ⟨rfl, rfl⟩ := hNb
      have HC := hid fun (w : World) => sNumber (s.extract 1 s.size) w (by simp; omega) n b0 (by rw [et, hn])
      have hI : (s[0].toNat : Int) = 45 := by omega
      obtain ⟨n0, n1⟩ := hbd
      simp only at n0 n1
      clear hN h0 hh et hn h45
      cases b0 with
      | false =>
        go_enter Tryz.func88, Tryz.ntmps88
        go_wp2_with fail
        refine (HC.out _).mono ?_
        rintro e w1 ⟨rfl, hg1⟩
        have G1 := hid (hg1)
        clear hg1
        go_wp2
        go_ret2
        exact ⟨rfl, G1.out⟩
      | true =>
        by_cases hp : 0 < n
        · go_enter Tryz.func88, Tryz.ntmps88
          go_wp2_with fail
          refine (HC.out _).mono ?_
          rintro e w1 ⟨rfl, hg1⟩
          have G1 := hid (hg1)
          clear hg1
          go_wp2
          go_ret2
          exact ⟨by simp [hp], G1.out⟩
        · have hd : decide (0 < n) = false := decide_eq_false hp
          rw [hd]
          go_enter Tryz.func88, Tryz.ntmps88
          go_wp2_with fail
          refine (HC.out _).mono ?_
          rintro e w1 ⟨rfl, hg1⟩
          have G1 := hid (hg1)
          clear hg1
          go_wp2
          go_ret2
          exact ⟨by simp, G1.out⟩
    · have hne : ¬ s.data.toList.head? = some 45 := by
        rw [s_head s hz]
        intro h
        exact h45 (by rw [Option.some.inj h]; rfl)
      have HC := hid fun (w : World) => sNumber s w (by omega) N b (by unfold rdSv at hN; rwa [if_neg hne] at hN)
      have hI : ((s[0].toNat : Int) == 45) = false := by simpa using (by omega : ¬ (s[0].toNat : Int) = 45)
      clear hN h0 hne h45
      go_enter Tryz.func88, Tryz.ntmps88
      go_wp2_with fail
      refine (HC.out _).mono ?_
      rintro e w1 ⟨rfl, hg1⟩
      have G1 := hid (hg1)
      clear hg1
      go_wp2
      go_ret2
      exact ⟨rfl, G1.out⟩

/-! a fraction -/
def txtFl (p q : Int) : List UInt8 := if q = 1 then Lib.itoa p else Lib.itoa p ++ 47 :: Lib.itoa q
theorem txtFl_ne {p q : Int} : txtFl p q ≠ [] := by
  have h : Lib.itoa p ≠ [] := by
    by_cases hp : p < 0
    · rw [itoa_neg hp]; simp
    · rw [itoa_pos hp]
      intro h0
      have := (dd_num p.natAbs).2.1
      rw [h0] at this
      simp at this
  unfold txtFl
  split
  · exact h
  · simp
theorem txtF_list (p q : Int) : (txtF p q).data.toList = txtFl p q := by
  unfold txtF txtFl txt
  split
  · rfl
  · rw [ba_app, ba_app]
    simp
theorem txtF_of {s : ByteArray} {p q : Int} (h : s.data.toList = txtFl p q) : s = txtF p q := by
  apply ByteArray.ext
  apply Array.ext'
  rw [h, txtF_list]
/-- What a reader of fractions has to say of a text. -/
def RdOk (s : List UInt8) (a b : Int) (r : Bool) : Prop := (r = true → okB a b = true ∧ s = txtFl a b) ∧ (r = false → ∀ p q, okB p q = true → s ≠ txtFl p q)
theorem no47 (p : Int) : (47 : UInt8) ∉ Lib.itoa p := itoa_no p (by decide) (by decide)
theorem txtFl_one {p q : Int} (h : (47 : UInt8) ∉ txtFl p q) : q = 1 := by
  by_cases hq : q = 1
  · exact hq
  · unfold txtFl at h
    rw [if_neg hq] at h
    exact absurd (by simp) h
theorem rdok_1 {s : List UInt8} {p : Int} {b1 : Bool} (h : rdSv s = (p, b1)) (hs : (47 : UInt8) ∉ s) : RdOk s p 1 (b1 && okB p 1) := by
  rw [rdSv_is] at h
  constructor
  · intro hr
    rw [Bool.and_eq_true] at hr
    obtain ⟨rfl, hk⟩ := hr
    refine ⟨hk, ?_⟩
    cases hx : rdS s with
    | none => rw [hx] at h; cases h
    | some p' =>
      rw [hx] at h
      cases h
      rw [rdS_some hx]
      simp [txtFl]
  · rintro hr p' q' hk rfl
    obtain rfl := txtFl_one hs
    obtain ⟨_, _, b3, b4⟩ := okB_bd hk
    have e : txtFl p' 1 = Lib.itoa p' := by simp [txtFl]
    rw [e, rdS_itoa (by omega) (by omega)] at h
    cases h
    rw [hk] at hr
    cases hr
theorem rdok_2 {x t : List UInt8} {p q : Int} {b1 b2 : Bool} (h1 : rdSv x = (p, b1)) (h2 : rdNv t = (q, b2)) (hx : (47 : UInt8) ∉ x) (ht : (47 : UInt8) ∉ t) : RdOk (x ++ 47 :: t) p q (b1 && b2 && decide (q ≠ 1) && okB p q) := by
  rw [rdSv_is] at h1
  unfold rdNv at h2
  constructor
  · intro hr
    simp only [Bool.and_eq_true, decide_eq_true_eq] at hr
    obtain ⟨⟨⟨rfl, rfl⟩, hq⟩, hk⟩ := hr
    refine ⟨hk, ?_⟩
    cases hx : rdS x with
    | none => rw [hx] at h1; cases h1
    | some p' =>
      rw [hx] at h1
      cases h1
      cases hy : rdN t with
      | none => rw [hy] at h2; cases h2
      | some n =>
        rw [hy] at h2
        cases h2
        rw [rdS_some hx, rdN_some hy]
        unfold txtFl
        rw [if_neg hq, itoa_pos (p := (n : Int)) (by omega)]
        simp
  · intro hr p' q' hk he
    obtain ⟨b1', b2', b3, b4⟩ := okB_bd hk
    by_cases hq : q' = 1
    · subst hq
      have : (47 : UInt8) ∈ txtFl p' 1 := by rw [← he]; simp
      simp only [txtFl, if_true] at this
      exact no47 p' this
    · unfold txtFl at he
      rw [if_neg hq] at he
      obtain ⟨rfl, rfl⟩ := part_eq hx (no47 p') he
      rw [rdS_itoa (by omega) (by omega)] at h1
      cases h1
      rw [itoa_pos (by omega), rdN_dec (by omega)] at h2
      cases h2
      have e : ((q'.natAbs : Nat) : Int) = q' := by omega
      rw [e, hk] at hr
      simp [hq] at hr
theorem rdok_3 {s t : List UInt8} {D : List (List UInt8)} (h : PartsB 47 s D t) (hd : 1 < D.length) (a b : Int) : RdOk s a b false := by
  refine ⟨(fun h => by cases h), ?_⟩
  rintro _ p q _ rfl
  by_cases hq : q = 1
  · subst hq
    have e : txtFl p 1 = Lib.itoa p := by simp [txtFl]
    rw [e] at h
    have := (parts_none h (no47 p)).1
    rw [this] at hd
    simp at hd
  · unfold txtFl at h
    rw [if_neg hq] at h
    have := (parts_one h (no47 p) (no47 q)).1
    rw [this] at hd
    simp at hd
theorem own_openS {w : World} {base : Nat} {A : Option Addr} {n c : Nat} {L : List (List UInt8)} (h : w.ownsRow base 9 1 (.slice A n c) n (strL L)) (h0 : 0 < n) :
    ∃ g cur, A = some ⟨g, 0, none⟩ ∧ base ≤ g ∧ w.heap[g]? = some (.cells cur 9) ∧ ∀ (k : Nat) (x : List UInt8), L[k]? = some x → cur[k]? = some (.string ⟨x.toArray⟩) := by
  rcases h.2 with ⟨hv, hn⟩ | ⟨g, cap, cur, hv, hb, hg, hnc, hcm, hcs, ht⟩
  · omega
  · injection hv with e1 e2 e3
    subst e1 e3
    refine ⟨g, cur, rfl, hb, hg, fun k x hk => ?_⟩
    have h1 : (strL L)[k]? = some (.string ⟨x.toArray⟩) := by simp [strL, hk]
    rw [← ht, List.getElem?_take] at h1
    split at h1
    · simpa using h1
    · cases h1
theorem str_cell {w : World} {g k : Nat} {T : TypeId} {cur : Array Value} {v : Value} (h : w.heap[g]? = some (.cells cur T)) (hk : cur[k]? = some v) : w.cell? ⟨g, k, none⟩ = some v := by
  simp [World.cell?, h, hk]
set_option maxRecDepth 20000 in
set_option maxHeartbeats 2000000 in
theorem sRdF (s : ByteArray) (w : World) (hs : s.size ≤ 1048576) : Calls Tryz.prog 44 #[.string s] w fun e w' => ∃ a b r, e = .returned (.tuple #[fr a b, .bool r]) ∧ RdOk s.data.toList a b r ∧ Gr w w' := by
  have HC := hid fun (w : World) => (sSplit s 47 w hs : Calls Tryz.prog 43 #[.string s, .int .u8 47] w _)
  go_enter Tryz.func44, Tryz.ntmps44
  go_wp2_with fail
  refine (HC.out _).mono ?_
  rintro e w1 ⟨A, c, D, t, rfl, own, pt, hg⟩
  obtain ⟨x, hz, g⟩ := alloc1 hg
  obtain ⟨bg, cur, rfl, hbg, xb, hcur⟩ := own_openS own (by omega)
  have hbg2 : w.heap.size < bg := by simp at hbg; omega
  clear hbg
  have X1 := hid x; have XB := hid xb; have G1 := hid g; have PT := hid pt; have CUR := hid hcur
  clear own hg g x xb pt hcur HC
  by_cases h0 : D.length = 0
  · obtain rfl := List.eq_nil_of_length_eq_zero h0
    obtain ⟨e1, hb, ht⟩ := PT.out
    have et : t = s.data.toList := by simpa [preB] using e1.symm
    subst et
    have HCUR := CUR.out 0 _ rfl
    have hc0 := str_cell XB.out HCUR
    obtain ⟨p, b1, hp⟩ : ∃ p b1, rdSv s.data.toList = (p, b1) := ⟨_, _, rfl⟩
    have RK := hid (rdok_1 hp ht)
    have HN := hid fun (w : World) => sNumS s w hs p b1 hp
    obtain ⟨r, hr⟩ : ∃ r, okB p 1 = r := ⟨_, rfl⟩
    rw [hr] at RK
    have HO := hid fun (w : World) => (sok_any p 1 w).mono (R' := fun e w' => e = .returned (.bool r) ∧ Gr w w') fun e w' h => ⟨by rw [h.1, hr], h.2⟩
    clear hp ht e1 hb hr h0
    cases b1 with
    | false =>
      obtain ⟨_, _⟩ := cells2 X1.out
      have _ := fz X1.out
      have _ := ltb X1.out
      have _ := ltb XB.out
      go_wp2_with fail
      refine (HN.out _).mono ?_
      rintro e w2 ⟨rfl, hg2⟩
      have x2_1 := hg2.keep X1.out
      have x2_2 := hg2.keep XB.out
      obtain ⟨_, _⟩ := cells2 x2_1
      have _ := fz x2_1
      have _ := ltb x2_1
      have _ := ltb x2_2
      have X2_1 := hid x2_1; clear x2_1
      have X2_2 := hid x2_2; clear x2_2
      have G2 := hid (G1.out.trans hg2)
      clear hg2
      go_wp2_with fail
      refine (swhole1 _ _).mono ?_
      rintro e w3 ⟨rfl, hg3⟩
      have x3_1 := hg3.keep X2_1.out
      have x3_2 := hg3.keep X2_2.out
      obtain ⟨_, _⟩ := cells2 x3_1
      have _ := fz x3_1
      have _ := ltb x3_1
      have _ := ltb x3_2
      have X3_1 := hid x3_1; clear x3_1
      have X3_2 := hid x3_2; clear x3_2
      have G3 := hid (G2.out.trans hg3)
      clear hg3
      go_wp2_with fail
      have M1 := hid (ne_of X3_2.out X3_1.out (by first | omega))
      refine wp_regO 7 6 2 45 (by kernel_rfl) (by kernel_rfl) rfl (by decide) rfl rfl rfl rfl (by kernel_rfl) (((Gr.refl _).al _).keep X3_1.out) (by kernel_rfl) ?_
      apply Exists.intro; apply Exists.intro
      refine ⟨fun wb hb => ?_, ?_⟩
      · obtain ⟨_, _⟩ := atO2 hb (alloc1 (Gr.refl _)).1 (by omega)
        simp only [headOps, List.contains, List.elem, Nat.reduceAdd, Nat.reduceBEq, reduceIte, Bool.false_eq_true, dumOp]
        repeat (first | go_big_quiet_step (first | (fail)) | quiet_step (fail))
        exact wpQuiet_nil rfl
      refine ⟨rfl, ⟨rfl, by simp [Value.oneCell']⟩, fun w4 hg4 => ?_⟩
      have x4_0 := hg4.keep (row_new (((Gr.refl _).al _).keep X3_1.out))
      have x4_1 := hg4.keep (row_old (((Gr.refl _).al _).keep X3_2.out) M1.out)
      have x4_2 := hg4.keep (row_old (alloc1 (Gr.refl _)).1 (by omega))
      obtain ⟨_, _⟩ := cells2 x4_0
      have _ := fz x4_0
      have _ := ltb x4_0
      obtain ⟨_, _⟩ := cells2 x4_2
      have _ := fz x4_2
      have _ := ltb x4_2
      have X4_0 := hid x4_0; clear x4_0
      have X4_1 := hid x4_1; clear x4_1
      have X4_2 := hid x4_2; clear x4_2
      have G4 := hid ((((G3.out).al _).setRow (by first | omega | (simp; done) | (simp; omega)) _).trans hg4); clear hg4
      go_wp2
      refine bodyPost_ret (v := .tuple #[fr p 1, .bool (false && r)]) (by simp [results, Tryz.results44, go_sem, *]) rfl ⟨p, 1, _, rfl, RK.out, ?_⟩
      exact G4.out
    | true =>
      obtain ⟨_, _⟩ := cells2 X1.out
      have _ := fz X1.out
      have _ := ltb X1.out
      have _ := ltb XB.out
      go_wp2_with fail
      refine (HN.out _).mono ?_
      rintro e w2 ⟨rfl, hg2⟩
      have x2_1 := hg2.keep X1.out
      have x2_2 := hg2.keep XB.out
      obtain ⟨_, _⟩ := cells2 x2_1
      have _ := fz x2_1
      have _ := ltb x2_1
      have _ := ltb x2_2
      have X2_1 := hid x2_1; clear x2_1
      have X2_2 := hid x2_2; clear x2_2
      have G2 := hid (G1.out.trans hg2)
      clear hg2
      go_wp2_with fail
      refine (swhole1 _ _).mono ?_
      rintro e w3 ⟨rfl, hg3⟩
      have x3_1 := hg3.keep X2_1.out
      have x3_2 := hg3.keep X2_2.out
      obtain ⟨_, _⟩ := cells2 x3_1
      have _ := fz x3_1
      have _ := ltb x3_1
      have _ := ltb x3_2
      have X3_1 := hid x3_1; clear x3_1
      have X3_2 := hid x3_2; clear x3_2
      have G3 := hid (G2.out.trans hg3)
      clear hg3
      go_wp2_with fail
      have M1 := hid (ne_of X3_2.out X3_1.out (by first | omega))
      refine wp_regO 7 6 2 45 (by kernel_rfl) (by kernel_rfl) rfl (by decide) rfl rfl rfl rfl (by kernel_rfl) (((Gr.refl _).al _).keep X3_1.out) (by kernel_rfl) ?_
      apply Exists.intro; apply Exists.intro
      refine ⟨fun wb hb => ?_, ?_⟩
      · obtain ⟨_, _⟩ := atO2 hb (alloc1 (Gr.refl _)).1 (by omega)
        simp only [headOps, List.contains, List.elem, Nat.reduceAdd, Nat.reduceBEq, reduceIte, Bool.false_eq_true, dumOp]
        repeat (first | go_big_quiet_step (first | (go_at_call 89; exact Calls.of_gr (HO.out _))) | quiet_step (fail))
        exact wpQuiet_nil rfl
      refine ⟨rfl, ⟨rfl, by simp [Value.oneCell']⟩, fun w4 hg4 => ?_⟩
      have x4_0 := hg4.keep (row_new (((Gr.refl _).al _).keep X3_1.out))
      have x4_1 := hg4.keep (row_old (((Gr.refl _).al _).keep X3_2.out) M1.out)
      have x4_2 := hg4.keep (row_old (alloc1 (Gr.refl _)).1 (by omega))
      obtain ⟨_, _⟩ := cells2 x4_0
      have _ := fz x4_0
      have _ := ltb x4_0
      obtain ⟨_, _⟩ := cells2 x4_2
      have _ := fz x4_2
      have _ := ltb x4_2
      have X4_0 := hid x4_0; clear x4_0
      have X4_1 := hid x4_1; clear x4_1
      have X4_2 := hid x4_2; clear x4_2
      have G4 := hid ((((G3.out).al _).setRow (by first | omega | (simp; done) | (simp; omega)) _).trans hg4); clear hg4
      go_wp2
      refine bodyPost_ret (v := .tuple #[fr p 1, .bool (true && r)]) (by simp [results, Tryz.results44, go_sem, *]) rfl ⟨p, 1, _, rfl, RK.out, ?_⟩
      exact G4.out
  · by_cases h1 : D.length = 1
    · obtain ⟨x, rfl⟩ : ∃ x, D = [x] := List.length_eq_one_iff.1 h1
      obtain ⟨e1, hb, ht⟩ := PT.out
      have hx : (47 : UInt8) ∉ x := hb x (by simp)
      have es : s.data.toList = x ++ 47 :: t := by rw [e1]; simp [preB]
      have hc0 := str_cell XB.out (CUR.out 0 _ rfl)
      have hc1 := str_cell XB.out (CUR.out 1 _ rfl)
      have CUR1 := hid (CUR.out 1 _ rfl)
      have hxl : x.length ≤ s.size ∧ t.length ≤ s.size := by
        have := congrArg List.length es
        rw [s_len] at this
        simp at this
        omega
      obtain ⟨p, b1, hp⟩ : ∃ p b1, rdSv x = (p, b1) := ⟨_, _, rfl⟩
      obtain ⟨q, b2, hq⟩ : ∃ q b2, rdNv t = (q, b2) := ⟨_, _, rfl⟩
      have RK := hid (rdok_2 hp hq hx ht)
      rw [← es] at RK
      have HN := hid fun (w : World) => sNumS ⟨x.toArray⟩ w (by show x.toArray.size ≤ _; simp; omega) p b1 (by simpa using hp)
      have HM := hid fun (w : World) => sNumber ⟨t.toArray⟩ w (by show t.toArray.size ≤ _; simp; omega) q b2 (by simpa using hq)
      obtain ⟨r, hr⟩ : ∃ r, okB p q = r := ⟨_, rfl⟩
      rw [hr] at RK
      have HO := hid fun (w : World) => (sok_any p q w).mono (R' := fun e w' => e = .returned (.bool r) ∧ Gr w w') fun e w' h => ⟨by rw [h.1, hr], h.2⟩
      clear hp hq ht hx e1 es hb hr h0 h1 hxl hc1
      clear CUR
      have HCUR1 := CUR1.out
      cases b1 with
      | false =>
        have RF : Hid (RdOk s.data.toList p q (false)) := hid (by simpa using RK.out)
        obtain ⟨_, _⟩ := cells2 X1.out
        have _ := fz X1.out
        have _ := ltb X1.out
        have _ := ltb XB.out
        go_wp2_with fail
        refine (HN.out _).mono ?_
        rintro e w2 ⟨rfl, hg2⟩
        have x2_1 := hg2.keep X1.out
        have x2_2 := hg2.keep XB.out
        obtain ⟨_, _⟩ := cells2 x2_1
        have _ := fz x2_1
        have _ := ltb x2_1
        have _ := ltb x2_2
        have X2_1 := hid x2_1; clear x2_1
        have X2_2 := hid x2_2; clear x2_2
        have G2 := hid (G1.out.trans hg2)
        clear hg2
        go_wp2_with fail
        refine (swhole1 _ _).mono ?_
        rintro e w3 ⟨rfl, hg3⟩
        have x3_1 := hg3.keep X2_1.out
        have x3_2 := hg3.keep X2_2.out
        obtain ⟨_, _⟩ := cells2 x3_1
        have _ := fz x3_1
        have _ := ltb x3_1
        have _ := ltb x3_2
        have X3_1 := hid x3_1; clear x3_1
        have X3_2 := hid x3_2; clear x3_2
        have G3 := hid (G2.out.trans hg3)
        clear hg3
        have _ := str_cell X3_2.out HCUR1
        go_wp2_with fail
        refine (HM.out _).mono ?_
        rintro e w4 ⟨rfl, hg4⟩
        obtain ⟨x4_0, hz4, g4⟩ := alloc1 hg4
        have x4_1 := g4.keep X3_1.out
        have x4_2 := g4.keep X3_2.out
        obtain ⟨_, _⟩ := cells2 x4_1
        have _ := fz x4_1
        have _ := ltb x4_1
        have _ := ltb x4_2
        obtain ⟨_, _⟩ := cells2 x4_0
        have _ := fz x4_0
        have _ := ltb x4_0
        have X4_1 := hid x4_1; clear x4_1
        have X4_2 := hid x4_2; clear x4_2
        have X4_0 := hid x4_0; clear x4_0
        have G4 := hid (G3.out.trans g4)
        clear hg4 g4
        have XL : Hid ((w4.setCell ⟨w3.heap.size, 1, none⟩ (.int .i64 q)).heap[w3.heap.size]? = some (.cells #[.int .i64 p, .int .i64 q] 34)) := hid (by simpa using Joins.block_setCell (i := 1) X4_0.out (.int .i64 q))
        have XR : Hid ((w4.setCell ⟨w3.heap.size, 1, none⟩ (.int .i64 q)).heap[w.heap.size]? = some (.cells #[.int .i64 0, .int .i64 0] 34)) := hid (by rw [Below.heap_setCell _ _ _ _ (by simp; omega)]; exact X4_1.out)
        have GS : Hid (Gr w (w4.setCell ⟨w3.heap.size, 1, none⟩ (.int .i64 q))) := hid (G4.out.setCell (by simp; omega) _)
        go_wp2_with fail
        obtain ⟨_, _⟩ := cells2 XR.out
        have _ := fz XR.out
        have _ := ltb XR.out
        obtain ⟨_, _⟩ := cells2 XL.out
        have _ := fz XL.out
        have _ := ltb XL.out
        have M1 := hid (ne_of XL.out XR.out (by first | omega))
        refine wp_regO 7 6 2 45 (by kernel_rfl) (by kernel_rfl) rfl (by decide) rfl rfl rfl rfl (by kernel_rfl) XR.out (by kernel_rfl) ?_
        apply Exists.intro; apply Exists.intro
        refine ⟨fun wb hb => ?_, ?_⟩
        · obtain ⟨_, _⟩ := atO2 hb XL.out M1.out
          simp only [headOps, List.contains, List.elem, Nat.reduceAdd, Nat.reduceBEq, reduceIte, Bool.false_eq_true, dumOp]
          repeat (first | go_big_quiet_step (first | (fail)) | quiet_step (fail))
          exact wpQuiet_nil rfl
        refine ⟨rfl, ⟨rfl, by simp [Value.oneCell']⟩, fun w6 hg6 => ?_⟩
        have x6_0 := hg6.keep (row_new XR.out)
        have x6_1 := hg6.keep (row_old XL.out M1.out)
        obtain ⟨_, _⟩ := cells2 x6_0
        have _ := fz x6_0
        have _ := ltb x6_0
        obtain ⟨_, _⟩ := cells2 x6_1
        have _ := fz x6_1
        have _ := ltb x6_1
        have X6_0 := hid x6_0; clear x6_0
        have X6_1 := hid x6_1; clear x6_1
        have G6 := hid ((GS.out.setRow (by first | omega | (simp; done) | (simp; omega)) _).trans hg6); clear hg6
        go_wp2
        refine bodyPost_ret (v := .tuple #[fr p q, .bool (false)]) (by simp [results, Tryz.results44, go_sem, *]) rfl ⟨p, q, _, rfl, RF.out, ?_⟩
        exact G6.out
      | true =>
        cases b2 with
        | false =>
          have RF : Hid (RdOk s.data.toList p q (false)) := hid (by simpa using RK.out)
          obtain ⟨_, _⟩ := cells2 X1.out
          have _ := fz X1.out
          have _ := ltb X1.out
          have _ := ltb XB.out
          go_wp2_with fail
          refine (HN.out _).mono ?_
          rintro e w2 ⟨rfl, hg2⟩
          have x2_1 := hg2.keep X1.out
          have x2_2 := hg2.keep XB.out
          obtain ⟨_, _⟩ := cells2 x2_1
          have _ := fz x2_1
          have _ := ltb x2_1
          have _ := ltb x2_2
          have X2_1 := hid x2_1; clear x2_1
          have X2_2 := hid x2_2; clear x2_2
          have G2 := hid (G1.out.trans hg2)
          clear hg2
          go_wp2_with fail
          refine (swhole1 _ _).mono ?_
          rintro e w3 ⟨rfl, hg3⟩
          have x3_1 := hg3.keep X2_1.out
          have x3_2 := hg3.keep X2_2.out
          obtain ⟨_, _⟩ := cells2 x3_1
          have _ := fz x3_1
          have _ := ltb x3_1
          have _ := ltb x3_2
          have X3_1 := hid x3_1; clear x3_1
          have X3_2 := hid x3_2; clear x3_2
          have G3 := hid (G2.out.trans hg3)
          clear hg3
          have _ := str_cell X3_2.out HCUR1
          go_wp2_with fail
          refine (HM.out _).mono ?_
          rintro e w4 ⟨rfl, hg4⟩
          obtain ⟨x4_0, hz4, g4⟩ := alloc1 hg4
          have x4_1 := g4.keep X3_1.out
          have x4_2 := g4.keep X3_2.out
          obtain ⟨_, _⟩ := cells2 x4_1
          have _ := fz x4_1
          have _ := ltb x4_1
          have _ := ltb x4_2
          obtain ⟨_, _⟩ := cells2 x4_0
          have _ := fz x4_0
          have _ := ltb x4_0
          have X4_1 := hid x4_1; clear x4_1
          have X4_2 := hid x4_2; clear x4_2
          have X4_0 := hid x4_0; clear x4_0
          have G4 := hid (G3.out.trans g4)
          clear hg4 g4
          have XL : Hid ((w4.setCell ⟨w3.heap.size, 1, none⟩ (.int .i64 q)).heap[w3.heap.size]? = some (.cells #[.int .i64 p, .int .i64 q] 34)) := hid (by simpa using Joins.block_setCell (i := 1) X4_0.out (.int .i64 q))
          have XR : Hid ((w4.setCell ⟨w3.heap.size, 1, none⟩ (.int .i64 q)).heap[w.heap.size]? = some (.cells #[.int .i64 0, .int .i64 0] 34)) := hid (by rw [Below.heap_setCell _ _ _ _ (by simp; omega)]; exact X4_1.out)
          have GS : Hid (Gr w (w4.setCell ⟨w3.heap.size, 1, none⟩ (.int .i64 q))) := hid (G4.out.setCell (by simp; omega) _)
          go_wp2_with fail
          obtain ⟨_, _⟩ := cells2 XR.out
          have _ := fz XR.out
          have _ := ltb XR.out
          obtain ⟨_, _⟩ := cells2 XL.out
          have _ := fz XL.out
          have _ := ltb XL.out
          have M1 := hid (ne_of XL.out XR.out (by first | omega))
          refine wp_regO 7 6 2 45 (by kernel_rfl) (by kernel_rfl) rfl (by decide) rfl rfl rfl rfl (by kernel_rfl) XR.out (by kernel_rfl) ?_
          apply Exists.intro; apply Exists.intro
          refine ⟨fun wb hb => ?_, ?_⟩
          · obtain ⟨_, _⟩ := atO2 hb XL.out M1.out
            simp only [headOps, List.contains, List.elem, Nat.reduceAdd, Nat.reduceBEq, reduceIte, Bool.false_eq_true, dumOp]
            repeat (first | go_big_quiet_step (first | (fail)) | quiet_step (fail))
            exact wpQuiet_nil rfl
          refine ⟨rfl, ⟨rfl, by simp [Value.oneCell']⟩, fun w6 hg6 => ?_⟩
          have x6_0 := hg6.keep (row_new XR.out)
          have x6_1 := hg6.keep (row_old XL.out M1.out)
          obtain ⟨_, _⟩ := cells2 x6_0
          have _ := fz x6_0
          have _ := ltb x6_0
          obtain ⟨_, _⟩ := cells2 x6_1
          have _ := fz x6_1
          have _ := ltb x6_1
          have X6_0 := hid x6_0; clear x6_0
          have X6_1 := hid x6_1; clear x6_1
          have G6 := hid ((GS.out.setRow (by first | omega | (simp; done) | (simp; omega)) _).trans hg6); clear hg6
          go_wp2
          refine bodyPost_ret (v := .tuple #[fr p q, .bool (false)]) (by simp [results, Tryz.results44, go_sem, *]) rfl ⟨p, q, _, rfl, RF.out, ?_⟩
          exact G6.out
        | true =>
          by_cases hq1 : q = 1
          · subst hq1
            have RF : Hid (RdOk s.data.toList p 1 (false)) := hid (by simpa using RK.out)
            obtain ⟨_, _⟩ := cells2 X1.out
            have _ := fz X1.out
            have _ := ltb X1.out
            have _ := ltb XB.out
            go_wp2_with fail
            refine (HN.out _).mono ?_
            rintro e w2 ⟨rfl, hg2⟩
            have x2_1 := hg2.keep X1.out
            have x2_2 := hg2.keep XB.out
            obtain ⟨_, _⟩ := cells2 x2_1
            have _ := fz x2_1
            have _ := ltb x2_1
            have _ := ltb x2_2
            have X2_1 := hid x2_1; clear x2_1
            have X2_2 := hid x2_2; clear x2_2
            have G2 := hid (G1.out.trans hg2)
            clear hg2
            go_wp2_with fail
            refine (swhole1 _ _).mono ?_
            rintro e w3 ⟨rfl, hg3⟩
            have x3_1 := hg3.keep X2_1.out
            have x3_2 := hg3.keep X2_2.out
            obtain ⟨_, _⟩ := cells2 x3_1
            have _ := fz x3_1
            have _ := ltb x3_1
            have _ := ltb x3_2
            have X3_1 := hid x3_1; clear x3_1
            have X3_2 := hid x3_2; clear x3_2
            have G3 := hid (G2.out.trans hg3)
            clear hg3
            have _ := str_cell X3_2.out HCUR1
            go_wp2_with fail
            refine (HM.out _).mono ?_
            rintro e w4 ⟨rfl, hg4⟩
            obtain ⟨x4_0, hz4, g4⟩ := alloc1 hg4
            have x4_1 := g4.keep X3_1.out
            have x4_2 := g4.keep X3_2.out
            obtain ⟨_, _⟩ := cells2 x4_1
            have _ := fz x4_1
            have _ := ltb x4_1
            have _ := ltb x4_2
            obtain ⟨_, _⟩ := cells2 x4_0
            have _ := fz x4_0
            have _ := ltb x4_0
            have X4_1 := hid x4_1; clear x4_1
            have X4_2 := hid x4_2; clear x4_2
            have X4_0 := hid x4_0; clear x4_0
            have G4 := hid (G3.out.trans g4)
            clear hg4 g4
            have XL : Hid ((w4.setCell ⟨w3.heap.size, 1, none⟩ (.int .i64 1)).heap[w3.heap.size]? = some (.cells #[.int .i64 p, .int .i64 1] 34)) := hid (by simpa using Joins.block_setCell (i := 1) X4_0.out (.int .i64 1))
            have XR : Hid ((w4.setCell ⟨w3.heap.size, 1, none⟩ (.int .i64 1)).heap[w.heap.size]? = some (.cells #[.int .i64 0, .int .i64 0] 34)) := hid (by rw [Below.heap_setCell _ _ _ _ (by simp; omega)]; exact X4_1.out)
            have GS : Hid (Gr w (w4.setCell ⟨w3.heap.size, 1, none⟩ (.int .i64 1))) := hid (G4.out.setCell (by simp; omega) _)
            go_wp2_with fail
            obtain ⟨_, _⟩ := cells2 XR.out
            have _ := fz XR.out
            have _ := ltb XR.out
            obtain ⟨_, _⟩ := cells2 XL.out
            have _ := fz XL.out
            have _ := ltb XL.out
            have M1 := hid (ne_of XL.out XR.out (by first | omega))
            refine wp_regO 7 6 2 45 (by kernel_rfl) (by kernel_rfl) rfl (by decide) rfl rfl rfl rfl (by kernel_rfl) XR.out (by kernel_rfl) ?_
            apply Exists.intro; apply Exists.intro
            refine ⟨fun wb hb => ?_, ?_⟩
            · obtain ⟨_, _⟩ := atO2 hb XL.out M1.out
              simp only [headOps, List.contains, List.elem, Nat.reduceAdd, Nat.reduceBEq, reduceIte, Bool.false_eq_true, dumOp]
              repeat (first | go_big_quiet_step (first | (fail)) | quiet_step (fail))
              exact wpQuiet_nil rfl
            refine ⟨rfl, ⟨rfl, by simp [Value.oneCell']⟩, fun w6 hg6 => ?_⟩
            have x6_0 := hg6.keep (row_new XR.out)
            have x6_1 := hg6.keep (row_old XL.out M1.out)
            obtain ⟨_, _⟩ := cells2 x6_0
            have _ := fz x6_0
            have _ := ltb x6_0
            obtain ⟨_, _⟩ := cells2 x6_1
            have _ := fz x6_1
            have _ := ltb x6_1
            have X6_0 := hid x6_0; clear x6_0
            have X6_1 := hid x6_1; clear x6_1
            have G6 := hid ((GS.out.setRow (by first | omega | (simp; done) | (simp; omega)) _).trans hg6); clear hg6
            go_wp2
            refine bodyPost_ret (v := .tuple #[fr p 1, .bool (false)]) (by simp [results, Tryz.results44, go_sem, *]) rfl ⟨p, 1, _, rfl, RF.out, ?_⟩
            exact G6.out
          · have hq2 : ((q : Int) == 1) = false := by simpa using hq1
            have hq4 : ((q : Int) != 1) = true := by simpa using hq1
            have RF : Hid (RdOk s.data.toList p q (r)) := hid (by simpa [hq1] using RK.out)
            obtain ⟨_, _⟩ := cells2 X1.out
            have _ := fz X1.out
            have _ := ltb X1.out
            have _ := ltb XB.out
            go_wp2_with fail
            refine (HN.out _).mono ?_
            rintro e w2 ⟨rfl, hg2⟩
            have x2_1 := hg2.keep X1.out
            have x2_2 := hg2.keep XB.out
            obtain ⟨_, _⟩ := cells2 x2_1
            have _ := fz x2_1
            have _ := ltb x2_1
            have _ := ltb x2_2
            have X2_1 := hid x2_1; clear x2_1
            have X2_2 := hid x2_2; clear x2_2
            have G2 := hid (G1.out.trans hg2)
            clear hg2
            go_wp2_with fail
            refine (swhole1 _ _).mono ?_
            rintro e w3 ⟨rfl, hg3⟩
            have x3_1 := hg3.keep X2_1.out
            have x3_2 := hg3.keep X2_2.out
            obtain ⟨_, _⟩ := cells2 x3_1
            have _ := fz x3_1
            have _ := ltb x3_1
            have _ := ltb x3_2
            have X3_1 := hid x3_1; clear x3_1
            have X3_2 := hid x3_2; clear x3_2
            have G3 := hid (G2.out.trans hg3)
            clear hg3
            have _ := str_cell X3_2.out HCUR1
            go_wp2_with fail
            refine (HM.out _).mono ?_
            rintro e w4 ⟨rfl, hg4⟩
            obtain ⟨x4_0, hz4, g4⟩ := alloc1 hg4
            have x4_1 := g4.keep X3_1.out
            have x4_2 := g4.keep X3_2.out
            obtain ⟨_, _⟩ := cells2 x4_1
            have _ := fz x4_1
            have _ := ltb x4_1
            have _ := ltb x4_2
            obtain ⟨_, _⟩ := cells2 x4_0
            have _ := fz x4_0
            have _ := ltb x4_0
            have X4_1 := hid x4_1; clear x4_1
            have X4_2 := hid x4_2; clear x4_2
            have X4_0 := hid x4_0; clear x4_0
            have G4 := hid (G3.out.trans g4)
            clear hg4 g4
            have XL : Hid ((w4.setCell ⟨w3.heap.size, 1, none⟩ (.int .i64 q)).heap[w3.heap.size]? = some (.cells #[.int .i64 p, .int .i64 q] 34)) := hid (by simpa using Joins.block_setCell (i := 1) X4_0.out (.int .i64 q))
            have XR : Hid ((w4.setCell ⟨w3.heap.size, 1, none⟩ (.int .i64 q)).heap[w.heap.size]? = some (.cells #[.int .i64 0, .int .i64 0] 34)) := hid (by rw [Below.heap_setCell _ _ _ _ (by simp; omega)]; exact X4_1.out)
            have GS : Hid (Gr w (w4.setCell ⟨w3.heap.size, 1, none⟩ (.int .i64 q))) := hid (G4.out.setCell (by simp; omega) _)
            go_wp2_with fail
            obtain ⟨_, _⟩ := cells2 XR.out
            have _ := fz XR.out
            have _ := ltb XR.out
            obtain ⟨_, _⟩ := cells2 XL.out
            have _ := fz XL.out
            have _ := ltb XL.out
            have M1 := hid (ne_of XL.out XR.out (by first | omega))
            refine wp_regO 7 6 2 45 (by kernel_rfl) (by kernel_rfl) rfl (by decide) rfl rfl rfl rfl (by kernel_rfl) XR.out (by kernel_rfl) ?_
            apply Exists.intro; apply Exists.intro
            refine ⟨fun wb hb => ?_, ?_⟩
            · obtain ⟨_, _⟩ := atO2 hb XL.out M1.out
              simp only [headOps, List.contains, List.elem, Nat.reduceAdd, Nat.reduceBEq, reduceIte, Bool.false_eq_true, dumOp]
              repeat (first | go_big_quiet_step (first | (go_at_call 89; exact Calls.of_gr (HO.out _))) | quiet_step (fail))
              exact wpQuiet_nil rfl
            refine ⟨rfl, ⟨rfl, by simp [Value.oneCell']⟩, fun w6 hg6 => ?_⟩
            have x6_0 := hg6.keep (row_new XR.out)
            have x6_1 := hg6.keep (row_old XL.out M1.out)
            obtain ⟨_, _⟩ := cells2 x6_0
            have _ := fz x6_0
            have _ := ltb x6_0
            obtain ⟨_, _⟩ := cells2 x6_1
            have _ := fz x6_1
            have _ := ltb x6_1
            have X6_0 := hid x6_0; clear x6_0
            have X6_1 := hid x6_1; clear x6_1
            have G6 := hid ((GS.out.setRow (by first | omega | (simp; done) | (simp; omega)) _).trans hg6); clear hg6
            go_wp2
            refine bodyPost_ret (v := .tuple #[fr p q, .bool (r)]) (by simp [results, Tryz.results44, go_sem, *]) rfl ⟨p, q, _, rfl, RF.out, ?_⟩
            exact G6.out
    · have RK := hid (rdok_3 PT.out (by omega) 0 0)
      have hl : (2 : Int) < ((D.length + 1 : Nat) : Int) := by omega
      clear h0 h1
      obtain ⟨n, hn⟩ : ∃ n, D.length + 1 = n := ⟨_, rfl⟩
      rw [hn] at hl
      rw [hn]
      obtain ⟨_, _⟩ := cells2 X1.out
      have _ := fz X1.out
      have _ := ltb X1.out
      have _ := ltb XB.out
      go_wp2
      refine bodyPost_ret (v := .tuple #[fr 0 0, .bool false]) (by simp [results, Tryz.results44, go_sem, *]) rfl ⟨0, 0, _, rfl, RK.out, ?_⟩
      exact ((G1.out).setCell (by simp <;> omega) _).setCell (by simp <;> omega) _
/-- A text is a fraction's. -/
def isF (s : List UInt8) : Prop := ∃ p q, okB p q = true ∧ s = txtFl p q
end Go.Proofs.YtgfopfomhgfcaaaGreatDoor
namespace Go.Proofs.YtgfopfomhgfcaaaGreatDoor
open Go.RowKit Go.Sort

/-- What readers of numbers ask of the library's variables. -/
structure TxW (w : World) : Prop where
  pow : Pow w
  ml : ∃ m, w.cell? ⟨3, 0, none⟩ = some (.int .i64 m)
  es : ∃ tp p, w.var? Tryz.prog "strconv.ErrSyntax" = some #[.iface tp p]
  er : ∃ tp p, w.var? Tryz.prog "strconv.ErrRange" = some #[.iface tp p]
theorem es_at : Tryz.prog.globalNamed "strconv.ErrSyntax" = some 6 := by kernel_rfl
theorem er_at : Tryz.prog.globalNamed "strconv.ErrRange" = some 7 := by kernel_rfl
abbrev Bl (w w' : World) : Prop := Below w.heap.size w w'
theorem Bl.tr {a b c : World} (h : Bl a b) (k : Bl b c) : Bl a c := Below.trans h (Below.mono k h.size)
theorem TxW.keep {w w' : World} (h : TxW w) (hb : Bl w w') : TxW w' := by
  obtain ⟨h1, ⟨m, h2⟩, ⟨tp, p, h3⟩, ⟨tp', p', h4⟩⟩ := h
  exact ⟨Joins.tab_stays pow_at h1 hb (Nat.le_refl _), ⟨m, (Below.cell hb (World.block_lt_of_cell? _ _ h2)).trans h2⟩, ⟨tp, p, Joins.var_stays es_at h3 hb (Nat.le_refl _)⟩, ⟨tp', p', Joins.var_stays er_at h4 hb (Nat.le_refl _)⟩⟩
theorem TxW.gr {w w' : World} (h : TxW w) (hg : Gr w w') : TxW w' := h.keep hg.below
theorem iCut (s sep : ByteArray) (w : World) (hs : s.size ≤ 1048576) (T : Hid (TxW w)) :
    Calls Tryz.prog 95 #[.string s, .string sep] w fun e w' => e = .returned (.tuple #[.string ⟨(Lib.cut s.data.toList sep.data.toList).1.toArray⟩, .string ⟨(Lib.cut s.data.toList sep.data.toList).2.1.toArray⟩, .bool (Lib.cut s.data.toList sep.data.toList).2.2]) ∧ Gr w w' := by
  obtain ⟨m, hm⟩ := T.out.ml
  refine (Any.strings_Cut Tryz.lays145 s sep m w (by omega) hm).mono ?_
  rintro e w' ⟨he, n, rfl⟩
  refine ⟨he, ?_⟩
  induction n with
  | zero => exact Gr.refl _
  | succ n ih => exact ih.trans (Gr.drew _)
/-- What strconv.ParseInt gives. -/
def PiR (l : List UInt8) (e : Ending) : Prop := (∃ v, Lib.parseIntB 64 l = .ok v ∧ e = .returned (.tuple #[.int .i64 v, .nilIface])) ∨ ((∀ v, Lib.parseIntB 64 l ≠ .ok v) ∧ ∃ v t p, e = .returned (.tuple #[.int .i64 v, .iface t p]))
theorem iParse (s : ByteArray) (w : World) (hs : s.size ≤ 1048576) (T : Hid (TxW w)) :
    Calls Tryz.prog 129 #[.string s, .int .i64 10, .int .i64 64] w fun e w' => PiR s.data.toList e ∧ Bl w w' := by
  obtain ⟨tp, p, h1⟩ := T.out.es
  obtain ⟨tp', p', h2⟩ := T.out.er
  cases h : Lib.parseIntB 64 s.data.toList
  · rename_i v
    refine (Any.strconv_ParseInt_10_at64_ok Tryz.laysC174 s (by omega) v h w).mono ?_
    rintro e w' ⟨he, hw⟩
    refine ⟨.inl ⟨v, h, he⟩, ?_⟩
    rcases hw with rfl | ⟨t, rfl⟩
    · exact Below.refl _ _
    · exact Lib.bytesWorld_below _ _ _
  · refine (Any.strconv_ParseInt_10_at64_syntax_var Tryz.laysC174 s (by omega) h tp p w h1).mono ?_
    rintro e w' ⟨N, he, _, _, hb⟩
    exact ⟨.inr ⟨(fun v hv => by rw [h] at hv; cases hv), _, _, _, he⟩, hb⟩
  · refine (Any.strconv_ParseInt_10_at64_range_var Tryz.laysC174 s (by omega) h tp' p' w h2).mono ?_
    rintro e w' ⟨N, he, _, _, hb⟩
    exact ⟨.inr ⟨(fun v hv => by rw [h] at hv; cases hv), _, _, _, he⟩, hb⟩
theorem bl_keep {w w' : World} {b : Nat} {o : Obj} (h : Bl w w') (hb : w.heap[b]? = some o) : w'.heap[b]? = some o := (Below.block h b (ltb hb)).trans hb
/-- What strings.Cut gives at "/". -/
def cutP (s o u : ByteArray) (b : Bool) : Prop := Lib.cut s.data.toList [47] = (o.data.toList, u.data.toList, b)
theorem iCutAt {s o u : ByteArray} {b : Bool} (h : cutP s o u b) (w : World) (hs : s.size ≤ 1048576) (T : Hid (TxW w)) :
    Calls Tryz.prog 95 #[.string s, .string ⟨#[47]⟩] w fun e w' => e = .returned (.tuple #[.string o, .string u, .bool b]) ∧ Gr w w' := by
  refine (iCut s ⟨#[47]⟩ w hs T).mono ?_
  rintro e w' ⟨he, hg⟩
  refine ⟨?_, hg⟩
  rw [he]
  unfold cutP at h
  have e1 : (⟨#[47]⟩ : ByteArray).data.toList = [47] := rfl
  rw [e1, h]
set_option maxRecDepth 20000 in
set_option maxHeartbeats 1000000 in
theorem iRF_e1 (s o u : ByteArray) (b : Bool) (w : World) (hs : s.size ≤ 1048576) (T : Hid (TxW w)) (hc : cutP s o u b) (ho : o.size ≤ 1048576) (hu : u.size ≤ 1048576) (h1 : ∀ v, Lib.parseIntB 64 o.data.toList ≠ .ok v) :
    Calls Tryz.prog 93 #[.string s] w fun e w' => e = .returned (.tuple #[fr 0 0, .int .i64 5]) ∧ Bl w w' := by
  have HC := hid fun (w : World) (T : Hid (TxW w)) => iCutAt hc w hs T
  have HP := hid fun (w : World) (T : Hid (TxW w)) => (iParse o w ho T).mono (R' := fun e w' => (∃ v t p, e = .returned (.tuple #[.int .i64 v, .iface t p])) ∧ Bl w w') fun e w' h => ⟨h.1.elim (fun ⟨v, hv, _⟩ => absurd hv (h1 v)) (fun h => h.2), h.2⟩
  have HQ1 := hid fun (w : World) (T : Hid (TxW w)) => iParse u w hu T
  have HQ2 := hid fun (w : World) (T : Hid (TxW w)) => iParse ⟨#[49]⟩ w (by decide) T
  clear hc h1 ho hu hs
  cases b with
  | false =>
    go_enter Tryz.func93, Tryz.ntmps93
    go_wp2_with fail
    refine (HC.out _ (hid (T.out.gr ((Gr.refl w).al _)))).mono ?_
    rintro e w1 ⟨rfl, hg⟩
    obtain ⟨x, hz, g⟩ := alloc1 hg
    have X1 := hid x; have B1 := hid g.below; clear hg g x hz
    go_wp2_with fail
    refine (HP.out _ (hid (T.out.keep B1.out))).mono ?_
    rintro e w2 ⟨⟨v, t, p, rfl⟩, hb⟩
    have X2 := hid (bl_keep hb X1.out); have B2 := hid (Bl.tr B1.out hb); clear hb
    go_wp2_with fail
    refine (HQ2.out _ (hid (T.out.keep B2.out))).mono ?_
    rintro e w3 ⟨hp, hb⟩
    have X3 := hid (bl_keep hb X2.out); have B3 := hid (Bl.tr B2.out hb); clear hb
    have _ := ltb X3.out; have _ := fz X3.out; obtain ⟨_, _⟩ := cells2 X3.out
    rcases hp with ⟨v2, _, rfl⟩ | ⟨_, v2, t2, p2, rfl⟩
    all_goals
      go_wp2
      refine bodyPost_ret (v := .tuple #[fr 0 0, .int .i64 5]) (by simp [results, Tryz.results93, go_sem, *]) rfl ⟨rfl, ?_⟩
      exact (B3.out.setCell (by simp) _).setCell (by simp) _
  | true =>
    go_enter Tryz.func93, Tryz.ntmps93
    go_wp2_with fail
    refine (HC.out _ (hid (T.out.gr ((Gr.refl w).al _)))).mono ?_
    rintro e w1 ⟨rfl, hg⟩
    obtain ⟨x, hz, g⟩ := alloc1 hg
    have X1 := hid x; have B1 := hid g.below; clear hg g x hz
    go_wp2_with fail
    refine (HP.out _ (hid (T.out.keep B1.out))).mono ?_
    rintro e w2 ⟨⟨v, t, p, rfl⟩, hb⟩
    have X2 := hid (bl_keep hb X1.out); have B2 := hid (Bl.tr B1.out hb); clear hb
    go_wp2_with fail
    refine (HQ1.out _ (hid (T.out.keep B2.out))).mono ?_
    rintro e w3 ⟨hp, hb⟩
    have X3 := hid (bl_keep hb X2.out); have B3 := hid (Bl.tr B2.out hb); clear hb
    have _ := ltb X3.out; have _ := fz X3.out; obtain ⟨_, _⟩ := cells2 X3.out
    rcases hp with ⟨v2, _, rfl⟩ | ⟨_, v2, t2, p2, rfl⟩
    all_goals
      go_wp2
      refine bodyPost_ret (v := .tuple #[fr 0 0, .int .i64 5]) (by simp [results, Tryz.results93, go_sem, *]) rfl ⟨rfl, ?_⟩
      exact (B3.out.setCell (by simp) _).setCell (by simp) _
set_option maxRecDepth 20000 in
set_option maxHeartbeats 1000000 in
theorem iRF_e2 (s o u : ByteArray) (b : Bool) (w : World) (hs : s.size ≤ 1048576) (T : Hid (TxW w)) (hc : cutP s o u b) (ho : o.size ≤ 1048576) (U : ByteArray) (hU : U = if b then u else ⟨#[49]⟩) (hUs : U.size ≤ 1048576) (p : Int) (h1 : Lib.parseIntB 64 o.data.toList = .ok p) (h2 : ∀ v, Lib.parseIntB 64 U.data.toList ≠ .ok v) :
    Calls Tryz.prog 93 #[.string s] w fun e w' => e = .returned (.tuple #[fr 0 0, .int .i64 5]) ∧ Bl w w' := by
  have HC := hid fun (w : World) (T : Hid (TxW w)) => iCutAt hc w hs T
  have HP := hid fun (w : World) (T : Hid (TxW w)) => (iParse o w ho T).mono (R' := fun e w' => e = .returned (.tuple #[.int .i64 p, .nilIface]) ∧ Bl w w') fun e w' h => ⟨h.1.elim (fun ⟨v, hv, he⟩ => by rw [h1] at hv; cases hv; exact he) (fun h => absurd h1 (h.1 p)), h.2⟩
  have HQ := hid fun (w : World) (T : Hid (TxW w)) => (iParse U w hUs T).mono (R' := fun e w' => (∃ v t p, e = .returned (.tuple #[.int .i64 v, .iface t p])) ∧ Bl w w') fun e w' h => ⟨h.1.elim (fun ⟨v, hv, _⟩ => absurd hv (h2 v)) (fun h => h.2), h.2⟩
  clear hc h1 h2 ho hUs hs
  cases b with
  | false =>
    replace hU := hU.trans (if_neg (by decide))
    subst hU
    go_enter Tryz.func93, Tryz.ntmps93
    go_wp2_with fail
    refine (HC.out _ (hid (T.out.gr ((Gr.refl w).al _)))).mono ?_
    rintro e w1 ⟨rfl, hg⟩
    obtain ⟨x, hz, g⟩ := alloc1 hg
    have X1 := hid x; have B1 := hid g.below; clear hg g x hz
    go_wp2_with fail
    refine (HP.out _ (hid (T.out.keep B1.out))).mono ?_
    rintro e w2 ⟨rfl, hb⟩
    have X2 := hid (bl_keep hb X1.out); have B2 := hid (Bl.tr B1.out hb); clear hb
    go_wp2_with fail
    refine (HQ.out _ (hid (T.out.keep B2.out))).mono ?_
    rintro e w3 ⟨⟨v2, t2, p2, rfl⟩, hb⟩
    have X3 := hid (bl_keep hb X2.out); have B3 := hid (Bl.tr B2.out hb); clear hb
    have _ := ltb X3.out; have _ := fz X3.out; obtain ⟨_, _⟩ := cells2 X3.out
    go_wp2
    refine bodyPost_ret (v := .tuple #[fr 0 0, .int .i64 5]) (by simp [results, Tryz.results93, go_sem, *]) rfl ⟨rfl, ?_⟩
    exact (B3.out.setCell (by simp) _).setCell (by simp) _
  | true =>
    replace hU := hU.trans (if_pos rfl)
    subst hU
    go_enter Tryz.func93, Tryz.ntmps93
    go_wp2_with fail
    refine (HC.out _ (hid (T.out.gr ((Gr.refl w).al _)))).mono ?_
    rintro e w1 ⟨rfl, hg⟩
    obtain ⟨x, hz, g⟩ := alloc1 hg
    have X1 := hid x; have B1 := hid g.below; clear hg g x hz
    go_wp2_with fail
    refine (HP.out _ (hid (T.out.keep B1.out))).mono ?_
    rintro e w2 ⟨rfl, hb⟩
    have X2 := hid (bl_keep hb X1.out); have B2 := hid (Bl.tr B1.out hb); clear hb
    go_wp2_with fail
    refine (HQ.out _ (hid (T.out.keep B2.out))).mono ?_
    rintro e w3 ⟨⟨v2, t2, p2, rfl⟩, hb⟩
    have X3 := hid (bl_keep hb X2.out); have B3 := hid (Bl.tr B2.out hb); clear hb
    have _ := ltb X3.out; have _ := fz X3.out; obtain ⟨_, _⟩ := cells2 X3.out
    go_wp2
    refine bodyPost_ret (v := .tuple #[fr 0 0, .int .i64 5]) (by simp [results, Tryz.results93, go_sem, *]) rfl ⟨rfl, ?_⟩
    exact (B3.out.setCell (by simp) _).setCell (by simp) _
set_option maxRecDepth 20000 in
set_option maxHeartbeats 1000000 in
theorem iRF_ok (s o u : ByteArray) (b : Bool) (w : World) (hs : s.size ≤ 1048576) (T : Hid (TxW w)) (hc : cutP s o u b) (ho : o.size ≤ 1048576) (U : ByteArray) (hU : U = if b then u else ⟨#[49]⟩) (hUs : U.size ≤ 1048576) (p : Int) (h1 : Lib.parseIntB 64 o.data.toList = .ok p) (q : Int) (h2 : Lib.parseIntB 64 U.data.toList = .ok q) (S : ByteArray) (hF : ∀ w, Hid (Pow w) → Calls Tryz.prog 37 #[fr p q] w fun e w' => e = .returned (.string S) ∧ Gr w w') (hS : S = s) :
    Calls Tryz.prog 93 #[.string s] w fun e w' => e = .returned (.tuple #[fr p q, .int .i64 0]) ∧ Bl w w' := by
  have HC := hid fun (w : World) (T : Hid (TxW w)) => iCutAt hc w hs T
  have HP := hid fun (w : World) (T : Hid (TxW w)) => (iParse o w ho T).mono (R' := fun e w' => e = .returned (.tuple #[.int .i64 p, .nilIface]) ∧ Bl w w') fun e w' h => ⟨h.1.elim (fun ⟨v, hv, he⟩ => by rw [h1] at hv; cases hv; exact he) (fun h => absurd h1 (h.1 p)), h.2⟩
  have HQ := hid fun (w : World) (T : Hid (TxW w)) => (iParse U w hUs T).mono (R' := fun e w' => e = .returned (.tuple #[.int .i64 q, .nilIface]) ∧ Bl w w') fun e w' h => ⟨h.1.elim (fun ⟨v, hv, he⟩ => by rw [h2] at hv; cases hv; exact he) (fun h => absurd h2 (h.1 q)), h.2⟩
  have HF := hid hF
  clear hc h1 h2 ho hUs hs hF
  subst hS
  cases b with
  | false =>
    replace hU := hU.trans (if_neg (by decide))
    subst hU
    go_enter Tryz.func93, Tryz.ntmps93
    go_wp2_with fail
    refine (HC.out _ (hid (T.out.gr ((Gr.refl w).al _)))).mono ?_
    rintro e w1 ⟨rfl, hg⟩
    obtain ⟨x, hz, g⟩ := alloc1 hg
    have X1 := hid x; have B1 := hid g.below; clear hg g x hz
    go_wp2_with fail
    refine (HP.out _ (hid (T.out.keep B1.out))).mono ?_
    rintro e w2 ⟨rfl, hb⟩
    have X2 := hid (bl_keep hb X1.out); have B2 := hid (Bl.tr B1.out hb); clear hb
    go_wp2_with fail
    refine (HQ.out _ (hid (T.out.keep B2.out))).mono ?_
    rintro e w3 ⟨rfl, hb⟩
    have X3 := hid (bl_keep hb X2.out); have B3 := hid (Bl.tr B2.out hb); clear hb
    go_wp2_with fail
    refine (HF.out _ (hid ((T.out.keep (B3.out.alloc (Below.size B3.out) _)).pow))).mono ?_
    rintro e w4 ⟨rfl, hg⟩
    obtain ⟨x, hz, g⟩ := alloc1 hg
    have X4 := hid (g.keep X3.out); have Y4 := hid x; have B4 := hid (Bl.tr B3.out g.below); clear hg g x hz
    have _ := ltb X4.out; have _ := fz X4.out; obtain ⟨_, _⟩ := cells2 X4.out
    have _ := ltb Y4.out; have _ := fz Y4.out; obtain ⟨_, _⟩ := cells2 Y4.out
    go_wp2
    refine bodyPost_ret (v := .tuple #[fr p q, .int .i64 0]) (by simp [results, Tryz.results93, go_sem, *]) rfl ⟨rfl, ?_⟩
    exact (B4.out.setCell (by simp) _).setCell (by simp) _
  | true =>
    replace hU := hU.trans (if_pos rfl)
    subst hU
    go_enter Tryz.func93, Tryz.ntmps93
    go_wp2_with fail
    refine (HC.out _ (hid (T.out.gr ((Gr.refl w).al _)))).mono ?_
    rintro e w1 ⟨rfl, hg⟩
    obtain ⟨x, hz, g⟩ := alloc1 hg
    have X1 := hid x; have B1 := hid g.below; clear hg g x hz
    go_wp2_with fail
    refine (HP.out _ (hid (T.out.keep B1.out))).mono ?_
    rintro e w2 ⟨rfl, hb⟩
    have X2 := hid (bl_keep hb X1.out); have B2 := hid (Bl.tr B1.out hb); clear hb
    go_wp2_with fail
    refine (HQ.out _ (hid (T.out.keep B2.out))).mono ?_
    rintro e w3 ⟨rfl, hb⟩
    have X3 := hid (bl_keep hb X2.out); have B3 := hid (Bl.tr B2.out hb); clear hb
    go_wp2_with fail
    refine (HF.out _ (hid ((T.out.keep (B3.out.alloc (Below.size B3.out) _)).pow))).mono ?_
    rintro e w4 ⟨rfl, hg⟩
    obtain ⟨x, hz, g⟩ := alloc1 hg
    have X4 := hid (g.keep X3.out); have Y4 := hid x; have B4 := hid (Bl.tr B3.out g.below); clear hg g x hz
    have _ := ltb X4.out; have _ := fz X4.out; obtain ⟨_, _⟩ := cells2 X4.out
    have _ := ltb Y4.out; have _ := fz Y4.out; obtain ⟨_, _⟩ := cells2 Y4.out
    go_wp2
    refine bodyPost_ret (v := .tuple #[fr p q, .int .i64 0]) (by simp [results, Tryz.results93, go_sem, *]) rfl ⟨rfl, ?_⟩
    exact (B4.out.setCell (by simp) _).setCell (by simp) _
set_option maxRecDepth 20000 in
set_option maxHeartbeats 1000000 in
theorem iRF_no (s o u : ByteArray) (b : Bool) (w : World) (hs : s.size ≤ 1048576) (T : Hid (TxW w)) (hc : cutP s o u b) (ho : o.size ≤ 1048576) (U : ByteArray) (hU : U = if b then u else ⟨#[49]⟩) (hUs : U.size ≤ 1048576) (p : Int) (h1 : Lib.parseIntB 64 o.data.toList = .ok p) (q : Int) (h2 : Lib.parseIntB 64 U.data.toList = .ok q) (S : ByteArray) (hF : ∀ w, Hid (Pow w) → Calls Tryz.prog 37 #[fr p q] w fun e w' => e = .returned (.string S) ∧ Gr w w') (hS : ¬ S = s) :
    Calls Tryz.prog 93 #[.string s] w fun e w' => e = .returned (.tuple #[fr 0 0, .int .i64 5]) ∧ Bl w w' := by
  have HC := hid fun (w : World) (T : Hid (TxW w)) => iCutAt hc w hs T
  have HP := hid fun (w : World) (T : Hid (TxW w)) => (iParse o w ho T).mono (R' := fun e w' => e = .returned (.tuple #[.int .i64 p, .nilIface]) ∧ Bl w w') fun e w' h => ⟨h.1.elim (fun ⟨v, hv, he⟩ => by rw [h1] at hv; cases hv; exact he) (fun h => absurd h1 (h.1 p)), h.2⟩
  have HQ := hid fun (w : World) (T : Hid (TxW w)) => (iParse U w hUs T).mono (R' := fun e w' => e = .returned (.tuple #[.int .i64 q, .nilIface]) ∧ Bl w w') fun e w' h => ⟨h.1.elim (fun ⟨v, hv, he⟩ => by rw [h2] at hv; cases hv; exact he) (fun h => absurd h2 (h.1 q)), h.2⟩
  have HF := hid hF
  clear hc h1 h2 ho hUs hs hF
  have hne := txt_ne hS
  clear hS
  cases b with
  | false =>
    replace hU := hU.trans (if_neg (by decide))
    subst hU
    go_enter Tryz.func93, Tryz.ntmps93
    go_wp2_with fail
    refine (HC.out _ (hid (T.out.gr ((Gr.refl w).al _)))).mono ?_
    rintro e w1 ⟨rfl, hg⟩
    obtain ⟨x, hz, g⟩ := alloc1 hg
    have X1 := hid x; have B1 := hid g.below; clear hg g x hz
    go_wp2_with fail
    refine (HP.out _ (hid (T.out.keep B1.out))).mono ?_
    rintro e w2 ⟨rfl, hb⟩
    have X2 := hid (bl_keep hb X1.out); have B2 := hid (Bl.tr B1.out hb); clear hb
    go_wp2_with fail
    refine (HQ.out _ (hid (T.out.keep B2.out))).mono ?_
    rintro e w3 ⟨rfl, hb⟩
    have X3 := hid (bl_keep hb X2.out); have B3 := hid (Bl.tr B2.out hb); clear hb
    go_wp2_with fail
    refine (HF.out _ (hid ((T.out.keep (B3.out.alloc (Below.size B3.out) _)).pow))).mono ?_
    rintro e w4 ⟨rfl, hg⟩
    obtain ⟨x, hz, g⟩ := alloc1 hg
    have X4 := hid (g.keep X3.out); have Y4 := hid x; have B4 := hid (Bl.tr B3.out g.below); clear hg g x hz
    have _ := ltb X4.out; have _ := fz X4.out; obtain ⟨_, _⟩ := cells2 X4.out
    have _ := ltb Y4.out; have _ := fz Y4.out; obtain ⟨_, _⟩ := cells2 Y4.out
    go_wp2
    refine bodyPost_ret (v := .tuple #[fr 0 0, .int .i64 5]) (by simp [results, Tryz.results93, go_sem, *]) rfl ⟨rfl, ?_⟩
    exact (B4.out.setCell (by simp) _).setCell (by simp) _
  | true =>
    replace hU := hU.trans (if_pos rfl)
    subst hU
    go_enter Tryz.func93, Tryz.ntmps93
    go_wp2_with fail
    refine (HC.out _ (hid (T.out.gr ((Gr.refl w).al _)))).mono ?_
    rintro e w1 ⟨rfl, hg⟩
    obtain ⟨x, hz, g⟩ := alloc1 hg
    have X1 := hid x; have B1 := hid g.below; clear hg g x hz
    go_wp2_with fail
    refine (HP.out _ (hid (T.out.keep B1.out))).mono ?_
    rintro e w2 ⟨rfl, hb⟩
    have X2 := hid (bl_keep hb X1.out); have B2 := hid (Bl.tr B1.out hb); clear hb
    go_wp2_with fail
    refine (HQ.out _ (hid (T.out.keep B2.out))).mono ?_
    rintro e w3 ⟨rfl, hb⟩
    have X3 := hid (bl_keep hb X2.out); have B3 := hid (Bl.tr B2.out hb); clear hb
    go_wp2_with fail
    refine (HF.out _ (hid ((T.out.keep (B3.out.alloc (Below.size B3.out) _)).pow))).mono ?_
    rintro e w4 ⟨rfl, hg⟩
    obtain ⟨x, hz, g⟩ := alloc1 hg
    have X4 := hid (g.keep X3.out); have Y4 := hid x; have B4 := hid (Bl.tr B3.out g.below); clear hg g x hz
    have _ := ltb X4.out; have _ := fz X4.out; obtain ⟨_, _⟩ := cells2 X4.out
    have _ := ltb Y4.out; have _ := fz Y4.out; obtain ⟨_, _⟩ := cells2 Y4.out
    go_wp2
    refine bodyPost_ret (v := .tuple #[fr 0 0, .int .i64 5]) (by simp [results, Tryz.results93, go_sem, *]) rfl ⟨rfl, ?_⟩
    exact (B4.out.setCell (by simp) _).setCell (by simp) _
theorem txt_empty_ne {s : ByteArray} (h : ¬ s.size = 0) : ¬ (⟨#[]⟩ : ByteArray) = s := fun e => h (by rw [← e]; rfl)
theorem ba_list (l : List UInt8) : (⟨l.toArray⟩ : ByteArray).data.toList = l := rfl
theorem ba_of_list {s : ByteArray} {l : List UInt8} (h : s.data.toList = l) : s = ⟨l.toArray⟩ := ByteArray.ext (Array.ext' h)
/-- What ReadFrac of the program gives, in the reference's words. -/
theorem iReadFrac (s : ByteArray) (w : World) (hs : s.size ≤ 1048576) (T : Hid (TxW w)) : Calls Tryz.prog 93 #[.string s] w fun e w' => (∃ a b, okB a b = true ∧ s.data.toList = txtFl a b ∧ e = .returned (.tuple #[fr a b, .int .i64 0]) ∨ (∀ p q, okB p q = true → s.data.toList ≠ txtFl p q) ∧ e = .returned (.tuple #[fr 0 0, .int .i64 5])) ∧ Bl w w' := by
  by_cases hF : ∃ a b, okB a b = true ∧ s.data.toList = txtFl a b
  · obtain ⟨a, b, hk, he⟩ := hF
    obtain ⟨b1, b2, b3, b4⟩ := okB_bd hk
    have hsF := txtF_of he
    refine Calls.mono (R := fun e w' => e = .returned (.tuple #[fr a b, .int .i64 0]) ∧ Bl w w') ?_ fun e w' h => ⟨⟨a, b, .inl ⟨hk, he, h.1⟩⟩, h.2⟩
    by_cases hb : b = 1
    · subst hb
      have e1 : txtFl a 1 = Lib.itoa a := by simp [txtFl]
      rw [e1] at he
      have hc : cutP s s ⟨#[]⟩ false := by
        unfold cutP
        rw [he, cut_none (no47 a)]
      exact iRF_ok s s ⟨#[]⟩ false w hs T hc hs ⟨#[49]⟩ rfl (by decide) a (by rw [he]; exact pint_of (by omega) (by omega)) 1 rfl (txtF a 1) (fun w T => iFracText a 1 w T hk) hsF.symm
    · have e1 : txtFl a b = Lib.itoa a ++ [47] ++ Lib.itoa b := by unfold txtFl; rw [if_neg hb]; simp
      have hl : (Lib.itoa a).length ≤ s.size ∧ (Lib.itoa b).length ≤ s.size := by
        have := congrArg List.length he
        rw [s_len, e1] at this
        simp at this
        omega
      have hc : cutP s ⟨(Lib.itoa a).toArray⟩ ⟨(Lib.itoa b).toArray⟩ true := by
        unfold cutP
        rw [he, e1, cut_some (no47 a)]
      exact iRF_ok s ⟨(Lib.itoa a).toArray⟩ ⟨(Lib.itoa b).toArray⟩ true w hs T hc (by show (Lib.itoa a).toArray.size ≤ _; simp; omega) ⟨(Lib.itoa b).toArray⟩ rfl (by show (Lib.itoa b).toArray.size ≤ _; simp; omega) a (by rw [ba_list]; exact pint_of (by omega) (by omega)) b (by rw [ba_list]; exact pint_of (by omega) (by omega)) (txtF a b) (fun w T => iFracText a b w T hk) hsF.symm
  · have hno : ∀ p q, okB p q = true → s.data.toList ≠ txtFl p q := fun p q hk he => hF ⟨p, q, hk, he⟩
    refine Calls.mono (R := fun e w' => e = .returned (.tuple #[fr 0 0, .int .i64 5]) ∧ Bl w w') ?_ fun e w' h => ⟨⟨0, 0, .inr ⟨hno, h.1⟩⟩, h.2⟩
    obtain ⟨o, u, b, hc, ho, hu⟩ : ∃ (o u : ByteArray) (b : Bool), cutP s o u b ∧ o.size ≤ 1048576 ∧ u.size ≤ 1048576 := by
      rcases cut_cases s.data.toList 47 [] with ⟨x, y, h, he⟩ | h
      · have hl := congrArg List.length he
        rw [s_len] at hl
        simp at hl
        exact ⟨⟨x.toArray⟩, ⟨y.toArray⟩, true, h, by show x.toArray.size ≤ _; simp; omega, by show y.toArray.size ≤ _; simp; omega⟩
      · exact ⟨s, ⟨#[]⟩, false, h, hs, by decide⟩
    have hUs : (if b = true then u else (⟨#[49]⟩ : ByteArray)).size ≤ 1048576 := by
      cases b with
      | true => exact hu
      | false => exact (by decide : (⟨#[49]⟩ : ByteArray).size ≤ 1048576)
    by_cases h1 : ∃ p, Lib.parseIntB 64 o.data.toList = .ok p
    · obtain ⟨p, h1⟩ := h1
      by_cases h2 : ∃ q, Lib.parseIntB 64 (if b = true then u else (⟨#[49]⟩ : ByteArray)).data.toList = .ok q
      · obtain ⟨q, h2⟩ := h2
        have hne : ¬ s.size = 0 := fun h0 => by
          rw [s_nil h0] at hc
          have e : Lib.cut (⟨#[]⟩ : ByteArray).data.toList [47] = ([], [], false) := by decide
          unfold cutP at hc
          rw [e] at hc
          have ho : o.data.toList = [] := (congrArg Prod.fst hc).symm
          rw [ho] at h1
          cases h1
        cases hk : okB p q with
        | true => exact iRF_no s o u b w hs T hc ho _ rfl hUs p h1 q h2 (txtF p q) (fun w T => iFracText p q w T hk) fun e => hno p q hk (by rw [← e, txtF_list])
        | false => exact iRF_no s o u b w hs T hc ho _ rfl hUs p h1 q h2 ⟨#[]⟩ (fun w _ => iFracText_no p q w hk) (txt_empty_ne hne)
      · exact iRF_e2 s o u b w hs T hc ho _ rfl hUs p h1 fun v hv => h2 ⟨v, hv⟩
    · exact iRF_e1 s o u b w hs T hc ho hu fun v hv => h1 ⟨v, hv⟩
end Go.Proofs.YtgfopfomhgfcaaaGreatDoor
