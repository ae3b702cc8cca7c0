/- TEXTS READ: the reference's l01Split, l01Read, ReadFrac. -/
import Derived.Test.YtkeflpcokcfcjaaDoorTq
import Derived.Test.YtkeflpcokcfcjaaDoorIv
import Derived.Lib.Strings
namespace Go.Proofs.YtkeflpcokcfcjaaDoor
open Go.RowKit Go.Sort

/-- The cells of texts. -/
def strL (D : List (List UInt8)) : List Value := D.map fun d => .string ⟨d.toArray⟩
theorem strL_len (D : List (List UInt8)) : (strL D).length = D.length := by simp [strL]
theorem ext_list (s : ByteArray) (a b : Nat) : (s.extract a b).data.toList = (s.data.toList.drop a).take (b - a) := by
  rw [Lib.extract_eq]
theorem ext_mk (s : ByteArray) (a b : Nat) : s.extract a b = ⟨((s.data.toList.drop a).take (b - a)).toArray⟩ := Lib.extract_eq s a b
theorem one_newsS {w : World} {b : Nat} {s : ByteArray} {T : TypeId} (h : w.heap[b]? = some (.cells #[.string s] T)) : ∀ (j : Nat) (u : Value), ([Value.string s])[j]? = some u → w.cell? ((⟨b, 0, none⟩ : Addr).add j) = some u := by
  intro j u hj
  match j with
  | 0 => simp at hj; subst hj; exact cells1 h
  | j + 1 => simp at hj
/-- What l01Split has found so far. -/
structure SpI (by_ : UInt8) (s : List UInt8) (D : List (List UInt8)) (b k : Nat) : Prop where
  h1 : s.take b = preB by_ D
  h2 : ∀ d ∈ D, by_ ∉ d
  h3 : by_ ∉ (s.drop b).take (k - b)
  h4 : b ≤ k
theorem SpI.hit {y : UInt8} {s : List UInt8} {D : List (List UInt8)} {b k : Nat} (h : SpI y s D b k) (hk : s[k]? = some y) : SpI y s (D ++ [(s.drop b).take (k - b)]) (k + 1) (k + 1) := by
  obtain ⟨h1, h2, h3, h4⟩ := h
  refine ⟨?_, ?_, by simp, Nat.le_refl _⟩
  · have e : s.take (k + 1) = s.take b ++ ((s.drop b).take (k - b) ++ [y]) := by
      rw [List.take_add_one, hk]
      have : s.take k = s.take b ++ (s.drop b).take (k - b) := by
        rw [← List.take_append_drop b (s.take k), List.take_take, Nat.min_eq_left h4, List.drop_take]
      rw [this]
      simp
    rw [e, h1]
    simp [preB]
  · intro d hd
    rcases List.mem_append.1 hd with hd | hd
    · exact h2 d hd
    · simp at hd
      subst hd
      exact h3
theorem SpI.miss {y c : UInt8} {s : List UInt8} {D : List (List UInt8)} {b k : Nat} (h : SpI y s D b k) (hk : s[k]? = some c) (hc : c ≠ y) : SpI y s D b (k + 1) := by
  obtain ⟨h1, h2, h3, h4⟩ := h
  refine ⟨h1, h2, ?_, by omega⟩
  rw [show k + 1 - b = (k - b) + 1 by omega, List.take_add_one, List.getElem?_drop, show b + (k - b) = k by omega, hk]
  simp
  exact ⟨h3, fun e => hc e.symm⟩
theorem SpI.done {y : UInt8} {s : List UInt8} {D : List (List UInt8)} {b k : Nat} (h : SpI y s D b k) (hk : k = s.length) : PartsB y s D (s.drop b) := by
  obtain ⟨h1, h2, h3, h4⟩ := h
  refine ⟨by rw [← h1, List.take_append_drop], h2, ?_⟩
  rwa [List.take_of_length_le (by simp; omega)] at h3
set_option maxRecDepth 20000 in
set_option maxHeartbeats 1000000 in
theorem sSplit (s : ByteArray) (y : UInt8) (w : World) (hs : s.size ≤ 1048576) : Calls Tryd.prog 29 #[.string s, .int .u8 (y.toNat : Int)] w fun e w' => ∃ A c D t, e = .returned (.slice A (D.length + 1) c) ∧ w'.ownsRow w.heap.size 9 1 (.slice A (D.length + 1) c) (D.length + 1) (strL (D ++ [t])) ∧ PartsB y s.data.toList D t ∧ Gr w w' := by
  obtain ⟨i0, hi, hz0, hz1, hz2⟩ : ∃ i, Tryd.prog.info? 9 = some i ∧ i.zero = some (.string ⟨#[]⟩) ∧ i.size = 1 ∧ i.bytes = 16 := ⟨_, rfl, by kernel_rfl, rfl, rfl⟩
  go_enter Tryd.func29, Tryd.ntmps29
  go_wp2_with fail
  go_loopw [5, 6, 7] (fun t u v wr => ∃ (k b : Nat) (A : Option Addr) (c : Nat) (D : List (List UInt8)), v = .int .i64 (k : Int) ∧ u = .int .i64 (b : Int) ∧ t = .slice A D.length c ∧ k ≤ s.size ∧ Gr w wr ∧ wr.ownsRow w.heap.size 9 1 (.slice A D.length c) D.length (strL D) ∧ SpI y s.data.toList D b k ∧ D.length ≤ k) (fun _ _ v _ => s.size - (intOf v).toNat)
  case atStart => exact ⟨0, 0, _, _, [], rfl, rfl, rfl, by omega, (Gr.refl _).al _, World.ownsRow_made _ #[] 0 (Nat.le_refl _) (by simp [maxLen]) (by simp), ⟨by simp [preB], by simp, by simp, Nat.le_refl _⟩, by simp⟩
  case round =>
    obtain ⟨k, b, A, c, D, rfl, rfl, rfl, hk, hg, hown, hsp, hdk⟩ := hrel
    have GW := hid hg; have OWN := hid hown; have SP := hid hsp
    have hbk := hsp.h4
    clear hg hown hsp
    have hsz := GW.out.size
    by_cases hlt : k < s.size
    · have HA := hid (s_at s k hlt)
      by_cases hy : s[k].toNat = y.toNat
      · have HY := hid (UInt8.toNat_inj.1 hy)
        have hyI : (s[k].toNat : Int) = (y.toNat : Int) := by omega
        clear hy
        have OWN5 := hid (own_gr OWN.out ((Gr.refl wr).al (.cells #[.string (s.extract b k)] 9)))
        have NEW := hid (one_newsS (w := wr.alloc (.cells #[.string (s.extract b k)] 9)) (b := wr.heap.size) (alloc1 (Gr.refl _)).1)
        have G5 := hid (GW.out.al (.cells #[.string (s.extract b k)] 9))
        have hsz5 := G5.out.size
        go_wp2_with (at_builtin; refine (wpList_append_gr rfl _ _ 63 rfl w.heap.size 9 i0 (.string ⟨#[]⟩) 1 16 Tryd.underlying63 hi hz0 hz1 hz2 rfl (by decide) _ D.length _ rfl OWN5.out ⟨wr.heap.size, 0, none⟩ 1 1 [.string (s.extract b k)] rfl rfl NEW.out (by simp [Value.oneCell']) (by decide) (by unfold maxLen; omega) (by omega) hsz5 ?_))
        intro v' w6 own6 _ _ hgr
        obtain ⟨A2, c2, rfl⟩ := own_form own6
        have e6 : strL D ++ [Value.string (s.extract b k)] = strL (D ++ [(s.data.toList.drop b).take (k - b)]) := by rw [ext_mk]; simp [strL]
        rw [e6] at own6
        have OWN6 := hid own6
        have G6 := hid (hgr _ G5.out (Nat.le_refl _))
        have SP6 := hid (SP.out.hit (by rw [HA.out, HY.out]))
        clear own6 hgr e6 OWN5 NEW hsz5 hsz
        go_wp2_with fail
        exact ⟨⟨k + 1, k + 1, A2, c2, _, by simp, by simp, by simp, by omega, G6.out, by simpa using OWN6.out, SP6.out, by simp; omega⟩, by simp [intOf]; omega⟩
      · have hyI : ¬ (s[k].toNat : Int) = (y.toNat : Int) := by omega
        have SP6 := hid (SP.out.miss HA.out (fun e => hy (by rw [e])))
        clear hy
        go_wp2_with fail
        exact ⟨⟨k + 1, b, A, c, D, by simp, by simp, by simp, by omega, GW.out, OWN.out, SP6.out, by omega⟩, by simp [intOf]; omega⟩
    · have hke : k = s.data.toList.length := by rw [s_len]; omega
      have PT := hid (SP.out.done hke)
      clear hke
      have hb : b ≤ s.size := by omega
      have OWN5 := hid (own_gr OWN.out ((Gr.refl wr).al (.cells #[.string (s.extract b s.size)] 9)))
      have NEW := hid (one_newsS (w := wr.alloc (.cells #[.string (s.extract b s.size)] 9)) (b := wr.heap.size) (alloc1 (Gr.refl _)).1)
      have G5 := hid (GW.out.al (.cells #[.string (s.extract b s.size)] 9))
      have hsz5 := G5.out.size
      go_wp2_with (at_builtin; refine (wpList_append_gr rfl _ _ 63 rfl w.heap.size 9 i0 (.string ⟨#[]⟩) 1 16 Tryd.underlying63 hi hz0 hz1 hz2 rfl (by decide) _ D.length _ rfl OWN5.out ⟨wr.heap.size, 0, none⟩ 1 1 [.string (s.extract b s.size)] rfl rfl NEW.out (by simp [Value.oneCell']) (by decide) (by unfold maxLen; omega) (by omega) hsz5 ?_))
      intro v' w6 own6 _ _ hgr
      obtain ⟨A2, c2, rfl⟩ := own_form own6
      have e6 : strL D ++ [Value.string (s.extract b s.size)] = strL (D ++ [s.data.toList.drop b]) := by
        rw [ext_mk, List.take_of_length_le (by simp)]
        simp [strL]
      rw [e6] at own6
      have OWN6 := hid own6
      have G6 := hid (hgr _ G5.out (Nat.le_refl _))
      clear own6 hgr e6 OWN5 NEW hsz5 hsz
      go_wp2_with fail
      go_ret
      exact ⟨A2, c2, D, _, rfl, OWN6.out, PT.out, G6.out⟩

/-! a number with a sign -/
/-- What the reference's reader of a number with a sign gives. -/
def rdSv (l : List UInt8) : Int × Bool := if l.head? = some 45 then (-(rdNv l.tail).1, (rdNv l.tail).2 && decide (0 < (rdNv l.tail).1)) else rdNv l
theorem rdSv_is (l : List UInt8) : rdSv l = (match rdS l with | some p => (p, true) | none => (0, false)) := by
  unfold rdSv rdS rdNv
  split
  · cases h : rdN l.tail with
    | none => simp
    | some n =>
      by_cases h0 : n = 0
      · simp [h0]
      · have : 0 < n := by omega
        simp [h0, this]
  · cases h : rdN l with
    | none => rfl
    | some n => rfl
theorem rdN_lt {l : List UInt8} {n : Nat} (h : rdN l = some n) : n < 10000000000 := by
  unfold rdN at h
  split at h
  · rename_i hc
    rw [Bool.and_eq_true, decide_eq_true_eq] at hc
    obtain rfl := Option.some.inj h
    have ha : l.all digB = true := by
      have := hc.1
      unfold isNum at this
      rw [Bool.and_eq_true] at this
      exact this.1
    exact Nat.lt_of_lt_of_le (valD_lt l ha) (Nat.le_trans (Nat.pow_le_pow_right (by omega) hc.2) (by decide))
  · cases h
theorem rdNv_bd (l : List UInt8) : 0 ≤ (rdNv l).1 ∧ (rdNv l).1 < 10000000000 := by
  unfold rdNv
  cases h : rdN l with
  | none => simp
  | some n => have := rdN_lt h; simp; omega
theorem rdSv_bd (l : List UInt8) : -10000000000 < (rdSv l).1 ∧ (rdSv l).1 < 10000000000 := by
  unfold rdSv
  split
  · have := rdNv_bd l.tail
    simp
    omega
  · have := rdNv_bd l
    omega
/-! a fraction -/
def txtFl (p q : Int) : List UInt8 := if q = 1 then Lib.itoa p else Lib.itoa p ++ 47 :: Lib.itoa q
theorem txtFl_ne {p q : Int} : txtFl p q ≠ [] := by
  have h : Lib.itoa p ≠ [] := by
    by_cases hp : p < 0
    · rw [itoa_neg hp]; simp
    · rw [itoa_pos hp]
      intro h0
      have := (dd_num p.natAbs).2.1
      rw [h0] at this
      simp at this
  unfold txtFl
  split
  · exact h
  · simp
theorem txtF_list (p q : Int) : (txtF p q).data.toList = txtFl p q := by
  unfold txtF txtFl txt
  split
  · rfl
  · rw [ba_app, ba_app]
    simp
theorem txtF_of {s : ByteArray} {p q : Int} (h : s.data.toList = txtFl p q) : s = txtF p q := by
  apply ByteArray.ext
  apply Array.ext'
  rw [h, txtF_list]
/-- What a reader of fractions has to say of a text. -/
def RdOk (s : List UInt8) (a b : Int) (r : Bool) : Prop := (r = true → okB a b = true ∧ s = txtFl a b) ∧ (r = false → ∀ p q, okB p q = true → s ≠ txtFl p q)
theorem no47 (p : Int) : (47 : UInt8) ∉ Lib.itoa p := itoa_no p (by decide) (by decide)
theorem txtFl_one {p q : Int} (h : (47 : UInt8) ∉ txtFl p q) : q = 1 := by
  by_cases hq : q = 1
  · exact hq
  · unfold txtFl at h
    rw [if_neg hq] at h
    exact absurd (by simp) h
theorem rdok_1 {s : List UInt8} {p : Int} {b1 : Bool} (h : rdSv s = (p, b1)) (hs : (47 : UInt8) ∉ s) : RdOk s p 1 (b1 && okB p 1) := by
  rw [rdSv_is] at h
  constructor
  · intro hr
    rw [Bool.and_eq_true] at hr
    obtain ⟨rfl, hk⟩ := hr
    refine ⟨hk, ?_⟩
    cases hx : rdS s with
    | none => rw [hx] at h; cases h
    | some p' =>
      rw [hx] at h
      cases h
      rw [rdS_some hx]
      simp [txtFl]
  · rintro hr p' q' hk rfl
    obtain rfl := txtFl_one hs
    obtain ⟨_, _, b3, b4⟩ := okB_bd hk
    have e : txtFl p' 1 = Lib.itoa p' := by simp [txtFl]
    rw [e, rdS_itoa (by omega) (by omega)] at h
    cases h
    rw [hk] at hr
    cases hr
theorem rdok_2 {x t : List UInt8} {p q : Int} {b1 b2 : Bool} (h1 : rdSv x = (p, b1)) (h2 : rdNv t = (q, b2)) (hx : (47 : UInt8) ∉ x) (ht : (47 : UInt8) ∉ t) : RdOk (x ++ 47 :: t) p q (b1 && b2 && decide (q ≠ 1) && okB p q) := by
  rw [rdSv_is] at h1
  unfold rdNv at h2
  constructor
  · intro hr
    simp only [Bool.and_eq_true, decide_eq_true_eq] at hr
    obtain ⟨⟨⟨rfl, rfl⟩, hq⟩, hk⟩ := hr
    refine ⟨hk, ?_⟩
    cases hx : rdS x with
    | none => rw [hx] at h1; cases h1
    | some p' =>
      rw [hx] at h1
      cases h1
      cases hy : rdN t with
      | none => rw [hy] at h2; cases h2
      | some n =>
        rw [hy] at h2
        cases h2
        rw [rdS_some hx, rdN_some hy]
        unfold txtFl
        rw [if_neg hq, itoa_pos (p := (n : Int)) (by omega)]
        simp
  · intro hr p' q' hk he
    obtain ⟨b1', b2', b3, b4⟩ := okB_bd hk
    by_cases hq : q' = 1
    · subst hq
      have : (47 : UInt8) ∈ txtFl p' 1 := by rw [← he]; simp
      simp only [txtFl, if_true] at this
      exact no47 p' this
    · unfold txtFl at he
      rw [if_neg hq] at he
      obtain ⟨rfl, rfl⟩ := part_eq hx (no47 p') he
      rw [rdS_itoa (by omega) (by omega)] at h1
      cases h1
      rw [itoa_pos (by omega), rdN_dec (by omega)] at h2
      cases h2
      have e : ((q'.natAbs : Nat) : Int) = q' := by omega
      rw [e, hk] at hr
      simp [hq] at hr
theorem rdok_3 {s t : List UInt8} {D : List (List UInt8)} (h : PartsB 47 s D t) (hd : 1 < D.length) (a b : Int) : RdOk s a b false := by
  refine ⟨(fun h => by cases h), ?_⟩
  rintro _ p q _ rfl
  by_cases hq : q = 1
  · subst hq
    have e : txtFl p 1 = Lib.itoa p := by simp [txtFl]
    rw [e] at h
    have := (parts_none h (no47 p)).1
    rw [this] at hd
    simp at hd
  · unfold txtFl at h
    rw [if_neg hq] at h
    have := (parts_one h (no47 p) (no47 q)).1
    rw [this] at hd
    simp at hd
theorem own_openS {w : World} {base : Nat} {A : Option Addr} {n c : Nat} {L : List (List UInt8)} (h : w.ownsRow base 9 1 (.slice A n c) n (strL L)) (h0 : 0 < n) :
    ∃ g cur, A = some ⟨g, 0, none⟩ ∧ base ≤ g ∧ w.heap[g]? = some (.cells cur 9) ∧ ∀ (k : Nat) (x : List UInt8), L[k]? = some x → cur[k]? = some (.string ⟨x.toArray⟩) := by
  rcases h.2 with ⟨hv, hn⟩ | ⟨g, cap, cur, hv, hb, hg, hnc, hcm, hcs, ht⟩
  · omega
  · injection hv with e1 e2 e3
    subst e1 e3
    refine ⟨g, cur, rfl, hb, hg, fun k x hk => ?_⟩
    have h1 : (strL L)[k]? = some (.string ⟨x.toArray⟩) := by simp [strL, hk]
    rw [← ht, List.getElem?_take] at h1
    split at h1
    · simpa using h1
    · cases h1
theorem str_cell {w : World} {g k : Nat} {T : TypeId} {cur : Array Value} {v : Value} (h : w.heap[g]? = some (.cells cur T)) (hk : cur[k]? = some v) : w.cell? ⟨g, k, none⟩ = some v := by
  simp [World.cell?, h, hk]
/-- A text is a fraction's. -/
def isF (s : List UInt8) : Prop := ∃ p q, okB p q = true ∧ s = txtFl p q
end Go.Proofs.YtkeflpcokcfcjaaDoor
