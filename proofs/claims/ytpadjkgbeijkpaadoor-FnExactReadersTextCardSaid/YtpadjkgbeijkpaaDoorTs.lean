/- TEXTS READ: the reference's l01Split, l01Read, ReadFrac. -/
import Derived.Test.YtpadjkgbeijkpaaDoorTq
import Derived.Test.YtpadjkgbeijkpaaDoorIv
import Derived.Lib.Strings
namespace Go.Proofs.YtpadjkgbeijkpaaDoor
open Go.RowKit Go.Sort

/-- The cells of texts. -/
def strL (D : List (List UInt8)) : List Value := D.map fun d => .string ⟨d.toArray⟩
theorem strL_len (D : List (List UInt8)) : (strL D).length = D.length := by simp [strL]
theorem ext_list (s : ByteArray) (a b : Nat) : (s.extract a b).data.toList = (s.data.toList.drop a).take (b - a) := by
  rw [Lib.extract_eq]
theorem ext_mk (s : ByteArray) (a b : Nat) : s.extract a b = ⟨((s.data.toList.drop a).take (b - a)).toArray⟩ := Lib.extract_eq s a b
theorem one_newsS {w : World} {b : Nat} {s : ByteArray} {T : TypeId} (h : w.heap[b]? = some (.cells #[.string s] T)) : ∀ (j : Nat) (u : Value), ([Value.string s])[j]? = some u → w.cell? ((⟨b, 0, none⟩ : Addr).add j) = some u := by
  intro j u hj
  match j with
  | 0 => simp at hj; subst hj; exact cells1 h
  | j + 1 => simp at hj
/-- What l01Split has found so far. -/
structure SpI (by_ : UInt8) (s : List UInt8) (D : List (List UInt8)) (b k : Nat) : Prop where
  h1 : s.take b = preB by_ D
  h2 : ∀ d ∈ D, by_ ∉ d
  h3 : by_ ∉ (s.drop b).take (k - b)
  h4 : b ≤ k
theorem SpI.hit {y : UInt8} {s : List UInt8} {D : List (List UInt8)} {b k : Nat} (h : SpI y s D b k) (hk : s[k]? = some y) : SpI y s (D ++ [(s.drop b).take (k - b)]) (k + 1) (k + 1) := by
  obtain ⟨h1, h2, h3, h4⟩ := h
  refine ⟨?_, ?_, by simp, Nat.le_refl _⟩
  · have e : s.take (k + 1) = s.take b ++ ((s.drop b).take (k - b) ++ [y]) := by
      rw [List.take_add_one, hk]
      have : s.take k = s.take b ++ (s.drop b).take (k - b) := by
        rw [← List.take_append_drop b (s.take k), List.take_take, Nat.min_eq_left h4, List.drop_take]
      rw [this]
      simp
    rw [e, h1]
    simp [preB]
  · intro d hd
    rcases List.mem_append.1 hd with hd | hd
    · exact h2 d hd
    · simp at hd
      subst hd
      exact h3
theorem SpI.miss {y c : UInt8} {s : List UInt8} {D : List (List UInt8)} {b k : Nat} (h : SpI y s D b k) (hk : s[k]? = some c) (hc : c ≠ y) : SpI y s D b (k + 1) := by
  obtain ⟨h1, h2, h3, h4⟩ := h
  refine ⟨h1, h2, ?_, by omega⟩
  rw [show k + 1 - b = (k - b) + 1 by omega, List.take_add_one, List.getElem?_drop, show b + (k - b) = k by omega, hk]
  simp
  exact ⟨h3, fun e => hc e.symm⟩
theorem SpI.done {y : UInt8} {s : List UInt8} {D : List (List UInt8)} {b k : Nat} (h : SpI y s D b k) (hk : k = s.length) : PartsB y s D (s.drop b) := by
  obtain ⟨h1, h2, h3, h4⟩ := h
  refine ⟨by rw [← h1, List.take_append_drop], h2, ?_⟩
  rwa [List.take_of_length_le (by simp; omega)] at h3
set_option maxRecDepth 20000 in
set_option maxHeartbeats 1000000 in
theorem sSplit (s : ByteArray) (y : UInt8) (w : World) (hs : s.size ≤ 1048576) : Calls Tryd.prog 47 #[.string s, .int .u8 (y.toNat : Int)] w fun e w' => ∃ A c D t, e = .returned (.slice A (D.length + 1) c) ∧ w'.ownsRow w.heap.size 9 1 (.slice A (D.length + 1) c) (D.length + 1) (strL (D ++ [t])) ∧ PartsB y s.data.toList D t ∧ Gr w w' := by
  obtain ⟨i0, hi, hz0, hz1, hz2⟩ : ∃ i, Tryd.prog.info? 9 = some i ∧ i.zero = some (.string ⟨#[]⟩) ∧ i.size = 1 ∧ i.bytes = 16 := ⟨_, rfl, by kernel_rfl, rfl, rfl⟩
  go_enter Tryd.func47, Tryd.ntmps47
  go_wp2_with fail
  go_loopw [5, 6, 7] (fun t u v wr => ∃ (k b : Nat) (A : Option Addr) (c : Nat) (D : List (List UInt8)), v = .int .i64 (k : Int) ∧ u = .int .i64 (b : Int) ∧ t = .slice A D.length c ∧ k ≤ s.size ∧ Gr w wr ∧ wr.ownsRow w.heap.size 9 1 (.slice A D.length c) D.length (strL D) ∧ SpI y s.data.toList D b k ∧ D.length ≤ k) (fun _ _ v _ => s.size - (intOf v).toNat)
  case atStart => exact ⟨0, 0, _, _, [], rfl, rfl, rfl, by omega, (Gr.refl _).al _, World.ownsRow_made _ #[] 0 (Nat.le_refl _) (by simp [maxLen]) (by simp), ⟨by simp [preB], by simp, by simp, Nat.le_refl _⟩, by simp⟩
  case round =>
    obtain ⟨k, b, A, c, D, rfl, rfl, rfl, hk, hg, hown, hsp, hdk⟩ := hrel
    have GW := hid hg; have OWN := hid hown; have SP := hid hsp
    have hbk := hsp.h4
    clear hg hown hsp
    have hsz := GW.out.size
    by_cases hlt : k < s.size
    · have HA := hid (s_at s k hlt)
      by_cases hy : s[k].toNat = y.toNat
      · have HY := hid (UInt8.toNat_inj.1 hy)
        have hyI : (s[k].toNat : Int) = (y.toNat : Int) := by omega
        clear hy
        have OWN5 := hid (own_gr OWN.out ((Gr.refl wr).al (.cells #[.string (s.extract b k)] 9)))
        have NEW := hid (one_newsS (w := wr.alloc (.cells #[.string (s.extract b k)] 9)) (b := wr.heap.size) (alloc1 (Gr.refl _)).1)
        have G5 := hid (GW.out.al (.cells #[.string (s.extract b k)] 9))
        have hsz5 := G5.out.size
        go_wp2_with (at_builtin; refine (wpList_append_gr rfl _ _ 88 rfl w.heap.size 9 i0 (.string ⟨#[]⟩) 1 16 Tryd.underlying88 hi hz0 hz1 hz2 rfl (by decide) _ D.length _ rfl OWN5.out ⟨wr.heap.size, 0, none⟩ 1 1 [.string (s.extract b k)] rfl rfl NEW.out (by simp [Value.oneCell']) (by decide) (by unfold maxLen; omega) (by omega) hsz5 ?_))
        intro v' w6 own6 _ _ hgr
        obtain ⟨A2, c2, rfl⟩ := own_form own6
        have e6 : strL D ++ [Value.string (s.extract b k)] = strL (D ++ [(s.data.toList.drop b).take (k - b)]) := by rw [ext_mk]; simp [strL]
        rw [e6] at own6
        have OWN6 := hid own6
        have G6 := hid (hgr _ G5.out (Nat.le_refl _))
        have SP6 := hid (SP.out.hit (by rw [HA.out, HY.out]))
        clear own6 hgr e6 OWN5 NEW hsz5 hsz
        go_wp2_with fail
        exact ⟨⟨k + 1, k + 1, A2, c2, _, by simp, by simp, by simp, by omega, G6.out, by simpa using OWN6.out, SP6.out, by simp; omega⟩, by simp [intOf]; omega⟩
      · have hyI : ¬ (s[k].toNat : Int) = (y.toNat : Int) := by omega
        have SP6 := hid (SP.out.miss HA.out (fun e => hy (by rw [e])))
        clear hy
        go_wp2_with fail
        exact ⟨⟨k + 1, b, A, c, D, by simp, by simp, by simp, by omega, GW.out, OWN.out, SP6.out, by omega⟩, by simp [intOf]; omega⟩
    · have hke : k = s.data.toList.length := by rw [s_len]; omega
      have PT := hid (SP.out.done hke)
      clear hke
      have hb : b ≤ s.size := by omega
      have OWN5 := hid (own_gr OWN.out ((Gr.refl wr).al (.cells #[.string (s.extract b s.size)] 9)))
      have NEW := hid (one_newsS (w := wr.alloc (.cells #[.string (s.extract b s.size)] 9)) (b := wr.heap.size) (alloc1 (Gr.refl _)).1)
      have G5 := hid (GW.out.al (.cells #[.string (s.extract b s.size)] 9))
      have hsz5 := G5.out.size
      go_wp2_with (at_builtin; refine (wpList_append_gr rfl _ _ 88 rfl w.heap.size 9 i0 (.string ⟨#[]⟩) 1 16 Tryd.underlying88 hi hz0 hz1 hz2 rfl (by decide) _ D.length _ rfl OWN5.out ⟨wr.heap.size, 0, none⟩ 1 1 [.string (s.extract b s.size)] rfl rfl NEW.out (by simp [Value.oneCell']) (by decide) (by unfold maxLen; omega) (by omega) hsz5 ?_))
      intro v' w6 own6 _ _ hgr
      obtain ⟨A2, c2, rfl⟩ := own_form own6
      have e6 : strL D ++ [Value.string (s.extract b s.size)] = strL (D ++ [s.data.toList.drop b]) := by
        rw [ext_mk, List.take_of_length_le (by simp)]
        simp [strL]
      rw [e6] at own6
      have OWN6 := hid own6
      have G6 := hid (hgr _ G5.out (Nat.le_refl _))
      clear own6 hgr e6 OWN5 NEW hsz5 hsz
      go_wp2_with fail
      go_ret
      exact ⟨A2, c2, D, _, rfl, OWN6.out, PT.out, G6.out⟩

/-! a number with a sign -/
/-- What the reference's reader of a number with a sign gives. -/
def rdSv (l : List UInt8) : Int × Bool := if l.head? = some 45 then (-(rdNv l.tail).1, (rdNv l.tail).2 && decide (0 < (rdNv l.tail).1)) else rdNv l
theorem rdSv_is (l : List UInt8) : rdSv l = (match rdS l with | some p => (p, true) | none => (0, false)) := by
  unfold rdSv rdS rdNv
  split
  · cases h : rdN l.tail with
    | none => simp
    | some n =>
      by_cases h0 : n = 0
      · simp [h0]
      · have : 0 < n := by omega
        simp [h0, this]
  · cases h : rdN l with
    | none => rfl
    | some n => rfl
theorem rdN_lt {l : List UInt8} {n : Nat} (h : rdN l = some n) : n < 10000000000 := by
  unfold rdN at h
  split at h
  · rename_i hc
    rw [Bool.and_eq_true, decide_eq_true_eq] at hc
    obtain rfl := Option.some.inj h
    have ha : l.all digB = true := by
      have := hc.1
      unfold isNum at this
      rw [Bool.and_eq_true] at this
      exact this.1
    exact Nat.lt_of_lt_of_le (valD_lt l ha) (Nat.le_trans (Nat.pow_le_pow_right (by omega) hc.2) (by decide))
  · cases h
theorem rdNv_bd (l : List UInt8) : 0 ≤ (rdNv l).1 ∧ (rdNv l).1 < 10000000000 := by
  unfold rdNv
  cases h : rdN l with
  | none => simp
  | some n => have := rdN_lt h; simp; omega
theorem rdSv_bd (l : List UInt8) : -10000000000 < (rdSv l).1 ∧ (rdSv l).1 < 10000000000 := by
  unfold rdSv
  split
  · have := rdNv_bd l.tail
    simp
    omega
  · have := rdNv_bd l
    omega
set_option maxRecDepth 20000 in
set_option maxHeartbeats 1000000 in
theorem sNumS (s : ByteArray) (w : World) (hs : s.size ≤ 1048576) (N : Int) (b : Bool) (hN : rdSv s.data.toList = (N, b)) : Calls Tryd.prog 68 #[.string s] w fun e w' => e = .returned (.tuple #[.int .i64 N, .bool b]) ∧ Gr w w' := by
  by_cases h0 : s.size = 0
  · have HC := hid fun (w : World) => sNumber ⟨#[]⟩ w (by decide) 0 false rfl
    have hsn := s_nil h0
    subst hsn
    have e : rdSv (⟨#[]⟩ : ByteArray).data.toList = (0, false) := rfl
    rw [e] at hN
    cases hN
    clear e hs h0
    go_enter Tryd.func68, Tryd.ntmps68
    go_wp2_with fail
    refine (HC.out _).mono ?_
    rintro e w1 ⟨rfl, hg1⟩
    have G1 := hid (hg1)
    clear hg1
    go_wp2
    go_ret2
    exact ⟨rfl, G1.out⟩
  · have he := ne_list h0
    have hz : 0 < s.size := by omega
    by_cases h45 : s[0].toNat = 45
    · have hh : s.data.toList.head? = some 45 := by rw [s_head s hz]; congr 1; exact UInt8.toNat_inj.1 (by rw [h45]; rfl)
      have et : (s.extract 1 s.size).data.toList = s.data.toList.tail := by rw [ext_list, List.take_of_length_le (by simp)]; simp
      obtain ⟨n, b0, hn⟩ : ∃ n b0, rdNv s.data.toList.tail = (n, b0) := ⟨_, _, rfl⟩
      have hbd := rdNv_bd s.data.toList.tail
      rw [hn] at hbd
      have hNb : N = -n ∧ b = (b0 && decide (0 < n)) := by
        unfold rdSv at hN
        rw [if_pos hh, hn] at hN
        cases hN
        exact ⟨rfl, rfl⟩
      obtain ⟨rfl, rfl⟩ := hNb
      have HC := hid fun (w : World) => sNumber (s.extract 1 s.size) w (by simp; omega) n b0 (by rw [et, hn])
      have hI : (s[0].toNat : Int) = 45 := by omega
      obtain ⟨n0, n1⟩ := hbd
      simp only at n0 n1
      clear hN h0 hh et hn h45
      cases b0 with
      | false =>
        go_enter Tryd.func68, Tryd.ntmps68
        go_wp2_with fail
        refine (HC.out _).mono ?_
        rintro e w1 ⟨rfl, hg1⟩
        have G1 := hid (hg1)
        clear hg1
        go_wp2
        go_ret2
        exact ⟨rfl, G1.out⟩
      | true =>
        by_cases hp : 0 < n
        · go_enter Tryd.func68, Tryd.ntmps68
          go_wp2_with fail
          refine (HC.out _).mono ?_
          rintro e w1 ⟨rfl, hg1⟩
          have G1 := hid (hg1)
          clear hg1
          go_wp2
          go_ret2
          exact ⟨by simp [hp], G1.out⟩
        · have hd : decide (0 < n) = false := decide_eq_false hp
          rw [hd]
          go_enter Tryd.func68, Tryd.ntmps68
          go_wp2_with fail
          refine (HC.out _).mono ?_
          rintro e w1 ⟨rfl, hg1⟩
          have G1 := hid (hg1)
          clear hg1
          go_wp2
          go_ret2
          exact ⟨by simp, G1.out⟩
    · have hne : ¬ s.data.toList.head? = some 45 := by
        rw [s_head s hz]
        intro h
        exact h45 (by rw [Option.some.inj h]; rfl)
      have HC := hid fun (w : World) => sNumber s w (by omega) N b (by unfold rdSv at hN; rwa [if_neg hne] at hN)
      have hI : ((s[0].toNat : Int) == 45) = false := by simpa using (by omega : ¬ (s[0].toNat : Int) = 45)
      clear hN h0 hne h45
      go_enter Tryd.func68, Tryd.ntmps68
      go_wp2_with fail
      refine (HC.out _).mono ?_
      rintro e w1 ⟨rfl, hg1⟩
      have G1 := hid (hg1)
      clear hg1
      go_wp2
      go_ret2
      exact ⟨rfl, G1.out⟩

/-! a fraction -/
def txtFl (p q : Int) : List UInt8 := if q = 1 then Lib.itoa p else Lib.itoa p ++ 47 :: Lib.itoa q
theorem txtF_list (p q : Int) : (txtF p q).data.toList = txtFl p q := by
  unfold txtF txtFl txt
  split
  · rfl
  · rw [ba_app, ba_app]
    simp
theorem txtF_of {s : ByteArray} {p q : Int} (h : s.data.toList = txtFl p q) : s = txtF p q := by
  apply ByteArray.ext
  apply Array.ext'
  rw [h, txtF_list]
/-- What a reader of fractions has to say of a text. -/
def RdOk (s : List UInt8) (a b : Int) (r : Bool) : Prop := (r = true → okB a b = true ∧ s = txtFl a b) ∧ (r = false → ∀ p q, okB p q = true → s ≠ txtFl p q)
theorem no47 (p : Int) : (47 : UInt8) ∉ Lib.itoa p := itoa_no p (by decide) (by decide)
theorem txtFl_one {p q : Int} (h : (47 : UInt8) ∉ txtFl p q) : q = 1 := by
  by_cases hq : q = 1
  · exact hq
  · unfold txtFl at h
    rw [if_neg hq] at h
    exact absurd (by simp) h
theorem rdok_1 {s : List UInt8} {p : Int} {b1 : Bool} (h : rdSv s = (p, b1)) (hs : (47 : UInt8) ∉ s) : RdOk s p 1 (b1 && okB p 1) := by
  rw [rdSv_is] at h
  constructor
  · intro hr
    rw [Bool.and_eq_true] at hr
    obtain ⟨rfl, hk⟩ := hr
    refine ⟨hk, ?_⟩
    cases hx : rdS s with
    | none => rw [hx] at h; cases h
    | some p' =>
      rw [hx] at h
      cases h
      rw [rdS_some hx]
      simp [txtFl]
  · rintro hr p' q' hk rfl
    obtain rfl := txtFl_one hs
    obtain ⟨_, _, b3, b4⟩ := okB_bd hk
    have e : txtFl p' 1 = Lib.itoa p' := by simp [txtFl]
    rw [e, rdS_itoa (by omega) (by omega)] at h
    cases h
    rw [hk] at hr
    cases hr
theorem rdok_2 {x t : List UInt8} {p q : Int} {b1 b2 : Bool} (h1 : rdSv x = (p, b1)) (h2 : rdNv t = (q, b2)) (hx : (47 : UInt8) ∉ x) (ht : (47 : UInt8) ∉ t) : RdOk (x ++ 47 :: t) p q (b1 && b2 && decide (q ≠ 1) && okB p q) := by
  rw [rdSv_is] at h1
  unfold rdNv at h2
  constructor
  · intro hr
    simp only [Bool.and_eq_true, decide_eq_true_eq] at hr
    obtain ⟨⟨⟨rfl, rfl⟩, hq⟩, hk⟩ := hr
    refine ⟨hk, ?_⟩
    cases hx : rdS x with
    | none => rw [hx] at h1; cases h1
    | some p' =>
      rw [hx] at h1
      cases h1
      cases hy : rdN t with
      | none => rw [hy] at h2; cases h2
      | some n =>
        rw [hy] at h2
        cases h2
        rw [rdS_some hx, rdN_some hy]
        unfold txtFl
        rw [if_neg hq, itoa_pos (p := (n : Int)) (by omega)]
        simp
  · intro hr p' q' hk he
    obtain ⟨b1', b2', b3, b4⟩ := okB_bd hk
    by_cases hq : q' = 1
    · subst hq
      have : (47 : UInt8) ∈ txtFl p' 1 := by rw [← he]; simp
      simp only [txtFl, if_true] at this
      exact no47 p' this
    · unfold txtFl at he
      rw [if_neg hq] at he
      obtain ⟨rfl, rfl⟩ := part_eq hx (no47 p') he
      rw [rdS_itoa (by omega) (by omega)] at h1
      cases h1
      rw [itoa_pos (by omega), rdN_dec (by omega)] at h2
      cases h2
      have e : ((q'.natAbs : Nat) : Int) = q' := by omega
      rw [e, hk] at hr
      simp [hq] at hr
theorem rdok_3 {s t : List UInt8} {D : List (List UInt8)} (h : PartsB 47 s D t) (hd : 1 < D.length) (a b : Int) : RdOk s a b false := by
  refine ⟨(fun h => by cases h), ?_⟩
  rintro _ p q _ rfl
  by_cases hq : q = 1
  · subst hq
    have e : txtFl p 1 = Lib.itoa p := by simp [txtFl]
    rw [e] at h
    have := (parts_none h (no47 p)).1
    rw [this] at hd
    simp at hd
  · unfold txtFl at h
    rw [if_neg hq] at h
    have := (parts_one h (no47 p) (no47 q)).1
    rw [this] at hd
    simp at hd
theorem own_openS {w : World} {base : Nat} {A : Option Addr} {n c : Nat} {L : List (List UInt8)} (h : w.ownsRow base 9 1 (.slice A n c) n (strL L)) (h0 : 0 < n) :
    ∃ g cur, A = some ⟨g, 0, none⟩ ∧ base ≤ g ∧ w.heap[g]? = some (.cells cur 9) ∧ ∀ (k : Nat) (x : List UInt8), L[k]? = some x → cur[k]? = some (.string ⟨x.toArray⟩) := by
  rcases h.2 with ⟨hv, hn⟩ | ⟨g, cap, cur, hv, hb, hg, hnc, hcm, hcs, ht⟩
  · omega
  · injection hv with e1 e2 e3
    subst e1 e3
    refine ⟨g, cur, rfl, hb, hg, fun k x hk => ?_⟩
    have h1 : (strL L)[k]? = some (.string ⟨x.toArray⟩) := by simp [strL, hk]
    rw [← ht, List.getElem?_take] at h1
    split at h1
    · simpa using h1
    · cases h1
theorem str_cell {w : World} {g k : Nat} {T : TypeId} {cur : Array Value} {v : Value} (h : w.heap[g]? = some (.cells cur T)) (hk : cur[k]? = some v) : w.cell? ⟨g, k, none⟩ = some v := by
  simp [World.cell?, h, hk]
set_option maxRecDepth 20000 in
set_option maxHeartbeats 2000000 in
theorem sRdF (s : ByteArray) (w : World) (hs : s.size ≤ 1048576) : Calls Tryd.prog 32 #[.string s] w fun e w' => ∃ a b r, e = .returned (.tuple #[fr a b, .bool r]) ∧ RdOk s.data.toList a b r ∧ Gr w w' := by
  have HC := hid fun (w : World) => (sSplit s 47 w hs : Calls Tryd.prog 47 #[.string s, .int .u8 47] w _)
  go_enter Tryd.func32, Tryd.ntmps32
  go_wp2_with fail
  refine (HC.out _).mono ?_
  rintro e w1 ⟨A, c, D, t, rfl, own, pt, hg⟩
  obtain ⟨x, hz, g⟩ := alloc1 hg
  obtain ⟨bg, cur, rfl, hbg, xb, hcur⟩ := own_openS own (by omega)
  have hbg2 : w.heap.size < bg := by simp at hbg; omega
  clear hbg
  have X1 := hid x; have XB := hid xb; have G1 := hid g; have PT := hid pt; have CUR := hid hcur
  clear own hg g x xb pt hcur HC
  by_cases h0 : D.length = 0
  · obtain rfl := List.eq_nil_of_length_eq_zero h0
    obtain ⟨e1, hb, ht⟩ := PT.out
    have et : t = s.data.toList := by simpa [preB] using e1.symm
    subst et
    have HCUR := CUR.out 0 _ rfl
    have hc0 := str_cell XB.out HCUR
    obtain ⟨p, b1, hp⟩ : ∃ p b1, rdSv s.data.toList = (p, b1) := ⟨_, _, rfl⟩
    have RK := hid (rdok_1 hp ht)
    have HN := hid fun (w : World) => sNumS s w hs p b1 hp
    obtain ⟨r, hr⟩ : ∃ r, okB p 1 = r := ⟨_, rfl⟩
    rw [hr] at RK
    have HO := hid fun (w : World) => (sok_any p 1 w).mono (R' := fun e w' => e = .returned (.bool r) ∧ Gr w w') fun e w' h => ⟨by rw [h.1, hr], h.2⟩
    clear hp ht e1 hb hr h0
    cases b1 with
    | false =>
      obtain ⟨_, _⟩ := cells2 X1.out
      have _ := fz X1.out
      have _ := ltb X1.out
      have _ := ltb XB.out
      go_wp2_with fail
      refine (HN.out _).mono ?_
      rintro e w2 ⟨rfl, hg2⟩
      have x2_1 := hg2.keep X1.out
      have x2_2 := hg2.keep XB.out
      obtain ⟨_, _⟩ := cells2 x2_1
      have _ := fz x2_1
      have _ := ltb x2_1
      have _ := ltb x2_2
      have X2_1 := hid x2_1; clear x2_1
      have X2_2 := hid x2_2; clear x2_2
      have G2 := hid (G1.out.trans hg2)
      clear hg2
      go_wp2_with fail
      refine (swhole1 _ _).mono ?_
      rintro e w3 ⟨rfl, hg3⟩
      have x3_1 := hg3.keep X2_1.out
      have x3_2 := hg3.keep X2_2.out
      obtain ⟨_, _⟩ := cells2 x3_1
      have _ := fz x3_1
      have _ := ltb x3_1
      have _ := ltb x3_2
      have X3_1 := hid x3_1; clear x3_1
      have X3_2 := hid x3_2; clear x3_2
      have G3 := hid (G2.out.trans hg3)
      clear hg3
      go_wp2_with fail
      have M1 := hid (ne_of X3_2.out X3_1.out (by first | omega))
      refine wp_regO 7 6 2 45 (by kernel_rfl) (by kernel_rfl) rfl (by decide) rfl rfl rfl rfl (by kernel_rfl) (((Gr.refl _).al _).keep X3_1.out) (by kernel_rfl) ?_
      apply Exists.intro; apply Exists.intro
      refine ⟨fun wb hb => ?_, ?_⟩
      · obtain ⟨_, _⟩ := atO2 hb (alloc1 (Gr.refl _)).1 (by omega)
        simp only [headOps, List.contains, List.elem, Nat.reduceAdd, Nat.reduceBEq, reduceIte, Bool.false_eq_true, dumOp]
        repeat (first | go_big_quiet_step (first | (fail)) | quiet_step (fail))
        exact wpQuiet_nil rfl
      refine ⟨rfl, ⟨rfl, by simp [Value.oneCell']⟩, fun w4 hg4 => ?_⟩
      have x4_0 := hg4.keep (row_new (((Gr.refl _).al _).keep X3_1.out))
      have x4_1 := hg4.keep (row_old (((Gr.refl _).al _).keep X3_2.out) M1.out)
      have x4_2 := hg4.keep (row_old (alloc1 (Gr.refl _)).1 (by omega))
      obtain ⟨_, _⟩ := cells2 x4_0
      have _ := fz x4_0
      have _ := ltb x4_0
      obtain ⟨_, _⟩ := cells2 x4_2
      have _ := fz x4_2
      have _ := ltb x4_2
      have X4_0 := hid x4_0; clear x4_0
      have X4_1 := hid x4_1; clear x4_1
      have X4_2 := hid x4_2; clear x4_2
      have G4 := hid ((((G3.out).al _).setRow (by first | omega | (simp; done) | (simp; omega)) _).trans hg4); clear hg4
      go_wp2
      refine bodyPost_ret (v := .tuple #[fr p 1, .bool (false && r)]) (by simp [results, Tryd.results32, go_sem, *]) rfl ⟨p, 1, _, rfl, RK.out, ?_⟩
      exact G4.out
    | true =>
      obtain ⟨_, _⟩ := cells2 X1.out
      have _ := fz X1.out
      have _ := ltb X1.out
      have _ := ltb XB.out
      go_wp2_with fail
      refine (HN.out _).mono ?_
      rintro e w2 ⟨rfl, hg2⟩
      have x2_1 := hg2.keep X1.out
      have x2_2 := hg2.keep XB.out
      obtain ⟨_, _⟩ := cells2 x2_1
      have _ := fz x2_1
      have _ := ltb x2_1
      have _ := ltb x2_2
      have X2_1 := hid x2_1; clear x2_1
      have X2_2 := hid x2_2; clear x2_2
      have G2 := hid (G1.out.trans hg2)
      clear hg2
      go_wp2_with fail
      refine (swhole1 _ _).mono ?_
      rintro e w3 ⟨rfl, hg3⟩
      have x3_1 := hg3.keep X2_1.out
      have x3_2 := hg3.keep X2_2.out
      obtain ⟨_, _⟩ := cells2 x3_1
      have _ := fz x3_1
      have _ := ltb x3_1
      have _ := ltb x3_2
      have X3_1 := hid x3_1; clear x3_1
      have X3_2 := hid x3_2; clear x3_2
      have G3 := hid (G2.out.trans hg3)
      clear hg3
      go_wp2_with fail
      have M1 := hid (ne_of X3_2.out X3_1.out (by first | omega))
      refine wp_regO 7 6 2 45 (by kernel_rfl) (by kernel_rfl) rfl (by decide) rfl rfl rfl rfl (by kernel_rfl) (((Gr.refl _).al _).keep X3_1.out) (by kernel_rfl) ?_
      apply Exists.intro; apply Exists.intro
      refine ⟨fun wb hb => ?_, ?_⟩
      · obtain ⟨_, _⟩ := atO2 hb (alloc1 (Gr.refl _)).1 (by omega)
        simp only [headOps, List.contains, List.elem, Nat.reduceAdd, Nat.reduceBEq, reduceIte, Bool.false_eq_true, dumOp]
        repeat (first | go_big_quiet_step (first | (go_at_call 70; exact Calls.of_gr (HO.out _))) | quiet_step (fail))
        exact wpQuiet_nil rfl
      refine ⟨rfl, ⟨rfl, by simp [Value.oneCell']⟩, fun w4 hg4 => ?_⟩
      have x4_0 := hg4.keep (row_new (((Gr.refl _).al _).keep X3_1.out))
      have x4_1 := hg4.keep (row_old (((Gr.refl _).al _).keep X3_2.out) M1.out)
      have x4_2 := hg4.keep (row_old (alloc1 (Gr.refl _)).1 (by omega))
      obtain ⟨_, _⟩ := cells2 x4_0
      have _ := fz x4_0
      have _ := ltb x4_0
      obtain ⟨_, _⟩ := cells2 x4_2
      have _ := fz x4_2
      have _ := ltb x4_2
      have X4_0 := hid x4_0; clear x4_0
      have X4_1 := hid x4_1; clear x4_1
      have X4_2 := hid x4_2; clear x4_2
      have G4 := hid ((((G3.out).al _).setRow (by first | omega | (simp; done) | (simp; omega)) _).trans hg4); clear hg4
      go_wp2
      refine bodyPost_ret (v := .tuple #[fr p 1, .bool (true && r)]) (by simp [results, Tryd.results32, go_sem, *]) rfl ⟨p, 1, _, rfl, RK.out, ?_⟩
      exact G4.out
  · by_cases h1 : D.length = 1
    · obtain ⟨x, rfl⟩ : ∃ x, D = [x] := List.length_eq_one_iff.1 h1
      obtain ⟨e1, hb, ht⟩ := PT.out
      have hx : (47 : UInt8) ∉ x := hb x (by simp)
      have es : s.data.toList = x ++ 47 :: t := by rw [e1]; simp [preB]
      have hc0 := str_cell XB.out (CUR.out 0 _ rfl)
      have hc1 := str_cell XB.out (CUR.out 1 _ rfl)
      have CUR1 := hid (CUR.out 1 _ rfl)
      have hxl : x.length ≤ s.size ∧ t.length ≤ s.size := by
        have := congrArg List.length es
        rw [s_len] at this
        simp at this
        omega
      obtain ⟨p, b1, hp⟩ : ∃ p b1, rdSv x = (p, b1) := ⟨_, _, rfl⟩
      obtain ⟨q, b2, hq⟩ : ∃ q b2, rdNv t = (q, b2) := ⟨_, _, rfl⟩
      have RK := hid (rdok_2 hp hq hx ht)
      rw [← es] at RK
      have HN := hid fun (w : World) => sNumS ⟨x.toArray⟩ w (by show x.toArray.size ≤ _; simp; omega) p b1 (by simpa using hp)
      have HM := hid fun (w : World) => sNumber ⟨t.toArray⟩ w (by show t.toArray.size ≤ _; simp; omega) q b2 (by simpa using hq)
      obtain ⟨r, hr⟩ : ∃ r, okB p q = r := ⟨_, rfl⟩
      rw [hr] at RK
      have HO := hid fun (w : World) => (sok_any p q w).mono (R' := fun e w' => e = .returned (.bool r) ∧ Gr w w') fun e w' h => ⟨by rw [h.1, hr], h.2⟩
      clear hp hq ht hx e1 es hb hr h0 h1 hxl hc1
      clear CUR
      have HCUR1 := CUR1.out
      cases b1 with
      | false =>
        have RF : Hid (RdOk s.data.toList p q (false)) := hid (by simpa using RK.out)
        obtain ⟨_, _⟩ := cells2 X1.out
        have _ := fz X1.out
        have _ := ltb X1.out
        have _ := ltb XB.out
        go_wp2_with fail
        refine (HN.out _).mono ?_
        rintro e w2 ⟨rfl, hg2⟩
        have x2_1 := hg2.keep X1.out
        have x2_2 := hg2.keep XB.out
        obtain ⟨_, _⟩ := cells2 x2_1
        have _ := fz x2_1
        have _ := ltb x2_1
        have _ := ltb x2_2
        have X2_1 := hid x2_1; clear x2_1
        have X2_2 := hid x2_2; clear x2_2
        have G2 := hid (G1.out.trans hg2)
        clear hg2
        go_wp2_with fail
        refine (swhole1 _ _).mono ?_
        rintro e w3 ⟨rfl, hg3⟩
        have x3_1 := hg3.keep X2_1.out
        have x3_2 := hg3.keep X2_2.out
        obtain ⟨_, _⟩ := cells2 x3_1
        have _ := fz x3_1
        have _ := ltb x3_1
        have _ := ltb x3_2
        have X3_1 := hid x3_1; clear x3_1
        have X3_2 := hid x3_2; clear x3_2
        have G3 := hid (G2.out.trans hg3)
        clear hg3
        have _ := str_cell X3_2.out HCUR1
        go_wp2_with fail
        refine (HM.out _).mono ?_
        rintro e w4 ⟨rfl, hg4⟩
        obtain ⟨x4_0, hz4, g4⟩ := alloc1 hg4
        have x4_1 := g4.keep X3_1.out
        have x4_2 := g4.keep X3_2.out
        obtain ⟨_, _⟩ := cells2 x4_1
        have _ := fz x4_1
        have _ := ltb x4_1
        have _ := ltb x4_2
        obtain ⟨_, _⟩ := cells2 x4_0
        have _ := fz x4_0
        have _ := ltb x4_0
        have X4_1 := hid x4_1; clear x4_1
        have X4_2 := hid x4_2; clear x4_2
        have X4_0 := hid x4_0; clear x4_0
        have G4 := hid (G3.out.trans g4)
        clear hg4 g4
        have XL : Hid ((w4.setCell ⟨w3.heap.size, 1, none⟩ (.int .i64 q)).heap[w3.heap.size]? = some (.cells #[.int .i64 p, .int .i64 q] 23)) := hid (by simpa using Joins.block_setCell (i := 1) X4_0.out (.int .i64 q))
        have XR : Hid ((w4.setCell ⟨w3.heap.size, 1, none⟩ (.int .i64 q)).heap[w.heap.size]? = some (.cells #[.int .i64 0, .int .i64 0] 23)) := hid (by rw [Below.heap_setCell _ _ _ _ (by simp; omega)]; exact X4_1.out)
        have GS : Hid (Gr w (w4.setCell ⟨w3.heap.size, 1, none⟩ (.int .i64 q))) := hid (G4.out.setCell (by simp; omega) _)
        go_wp2_with fail
        obtain ⟨_, _⟩ := cells2 XR.out
        have _ := fz XR.out
        have _ := ltb XR.out
        obtain ⟨_, _⟩ := cells2 XL.out
        have _ := fz XL.out
        have _ := ltb XL.out
        have M1 := hid (ne_of XL.out XR.out (by first | omega))
        refine wp_regO 7 6 2 45 (by kernel_rfl) (by kernel_rfl) rfl (by decide) rfl rfl rfl rfl (by kernel_rfl) XR.out (by kernel_rfl) ?_
        apply Exists.intro; apply Exists.intro
        refine ⟨fun wb hb => ?_, ?_⟩
        · obtain ⟨_, _⟩ := atO2 hb XL.out M1.out
          simp only [headOps, List.contains, List.elem, Nat.reduceAdd, Nat.reduceBEq, reduceIte, Bool.false_eq_true, dumOp]
          repeat (first | go_big_quiet_step (first | (fail)) | quiet_step (fail))
          exact wpQuiet_nil rfl
        refine ⟨rfl, ⟨rfl, by simp [Value.oneCell']⟩, fun w6 hg6 => ?_⟩
        have x6_0 := hg6.keep (row_new XR.out)
        have x6_1 := hg6.keep (row_old XL.out M1.out)
        obtain ⟨_, _⟩ := cells2 x6_0
        have _ := fz x6_0
        have _ := ltb x6_0
        obtain ⟨_, _⟩ := cells2 x6_1
        have _ := fz x6_1
        have _ := ltb x6_1
        have X6_0 := hid x6_0; clear x6_0
        have X6_1 := hid x6_1; clear x6_1
        have G6 := hid ((GS.out.setRow (by first | omega | (simp; done) | (simp; omega)) _).trans hg6); clear hg6
        go_wp2
        refine bodyPost_ret (v := .tuple #[fr p q, .bool (false)]) (by simp [results, Tryd.results32, go_sem, *]) rfl ⟨p, q, _, rfl, RF.out, ?_⟩
        exact G6.out
      | true =>
        cases b2 with
        | false =>
          have RF : Hid (RdOk s.data.toList p q (false)) := hid (by simpa using RK.out)
          obtain ⟨_, _⟩ := cells2 X1.out
          have _ := fz X1.out
          have _ := ltb X1.out
          have _ := ltb XB.out
          go_wp2_with fail
          refine (HN.out _).mono ?_
          rintro e w2 ⟨rfl, hg2⟩
          have x2_1 := hg2.keep X1.out
          have x2_2 := hg2.keep XB.out
          obtain ⟨_, _⟩ := cells2 x2_1
          have _ := fz x2_1
          have _ := ltb x2_1
          have _ := ltb x2_2
          have X2_1 := hid x2_1; clear x2_1
          have X2_2 := hid x2_2; clear x2_2
          have G2 := hid (G1.out.trans hg2)
          clear hg2
          go_wp2_with fail
          refine (swhole1 _ _).mono ?_
          rintro e w3 ⟨rfl, hg3⟩
          have x3_1 := hg3.keep X2_1.out
          have x3_2 := hg3.keep X2_2.out
          obtain ⟨_, _⟩ := cells2 x3_1
          have _ := fz x3_1
          have _ := ltb x3_1
          have _ := ltb x3_2
          have X3_1 := hid x3_1; clear x3_1
          have X3_2 := hid x3_2; clear x3_2
          have G3 := hid (G2.out.trans hg3)
          clear hg3
          have _ := str_cell X3_2.out HCUR1
          go_wp2_with fail
          refine (HM.out _).mono ?_
          rintro e w4 ⟨rfl, hg4⟩
          obtain ⟨x4_0, hz4, g4⟩ := alloc1 hg4
          have x4_1 := g4.keep X3_1.out
          have x4_2 := g4.keep X3_2.out
          obtain ⟨_, _⟩ := cells2 x4_1
          have _ := fz x4_1
          have _ := ltb x4_1
          have _ := ltb x4_2
          obtain ⟨_, _⟩ := cells2 x4_0
          have _ := fz x4_0
          have _ := ltb x4_0
          have X4_1 := hid x4_1; clear x4_1
          have X4_2 := hid x4_2; clear x4_2
          have X4_0 := hid x4_0; clear x4_0
          have G4 := hid (G3.out.trans g4)
          clear hg4 g4
          have XL : Hid ((w4.setCell ⟨w3.heap.size, 1, none⟩ (.int .i64 q)).heap[w3.heap.size]? = some (.cells #[.int .i64 p, .int .i64 q] 23)) := hid (by simpa using Joins.block_setCell (i := 1) X4_0.out (.int .i64 q))
          have XR : Hid ((w4.setCell ⟨w3.heap.size, 1, none⟩ (.int .i64 q)).heap[w.heap.size]? = some (.cells #[.int .i64 0, .int .i64 0] 23)) := hid (by rw [Below.heap_setCell _ _ _ _ (by simp; omega)]; exact X4_1.out)
          have GS : Hid (Gr w (w4.setCell ⟨w3.heap.size, 1, none⟩ (.int .i64 q))) := hid (G4.out.setCell (by simp; omega) _)
          go_wp2_with fail
          obtain ⟨_, _⟩ := cells2 XR.out
          have _ := fz XR.out
          have _ := ltb XR.out
          obtain ⟨_, _⟩ := cells2 XL.out
          have _ := fz XL.out
          have _ := ltb XL.out
          have M1 := hid (ne_of XL.out XR.out (by first | omega))
          refine wp_regO 7 6 2 45 (by kernel_rfl) (by kernel_rfl) rfl (by decide) rfl rfl rfl rfl (by kernel_rfl) XR.out (by kernel_rfl) ?_
          apply Exists.intro; apply Exists.intro
          refine ⟨fun wb hb => ?_, ?_⟩
          · obtain ⟨_, _⟩ := atO2 hb XL.out M1.out
            simp only [headOps, List.contains, List.elem, Nat.reduceAdd, Nat.reduceBEq, reduceIte, Bool.false_eq_true, dumOp]
            repeat (first | go_big_quiet_step (first | (fail)) | quiet_step (fail))
            exact wpQuiet_nil rfl
          refine ⟨rfl, ⟨rfl, by simp [Value.oneCell']⟩, fun w6 hg6 => ?_⟩
          have x6_0 := hg6.keep (row_new XR.out)
          have x6_1 := hg6.keep (row_old XL.out M1.out)
          obtain ⟨_, _⟩ := cells2 x6_0
          have _ := fz x6_0
          have _ := ltb x6_0
          obtain ⟨_, _⟩ := cells2 x6_1
          have _ := fz x6_1
          have _ := ltb x6_1
          have X6_0 := hid x6_0; clear x6_0
          have X6_1 := hid x6_1; clear x6_1
          have G6 := hid ((GS.out.setRow (by first | omega | (simp; done) | (simp; omega)) _).trans hg6); clear hg6
          go_wp2
          refine bodyPost_ret (v := .tuple #[fr p q, .bool (false)]) (by simp [results, Tryd.results32, go_sem, *]) rfl ⟨p, q, _, rfl, RF.out, ?_⟩
          exact G6.out
        | true =>
          by_cases hq1 : q = 1
          · subst hq1
            have RF : Hid (RdOk s.data.toList p 1 (false)) := hid (by simpa using RK.out)
            obtain ⟨_, _⟩ := cells2 X1.out
            have _ := fz X1.out
            have _ := ltb X1.out
            have _ := ltb XB.out
            go_wp2_with fail
            refine (HN.out _).mono ?_
            rintro e w2 ⟨rfl, hg2⟩
            have x2_1 := hg2.keep X1.out
            have x2_2 := hg2.keep XB.out
            obtain ⟨_, _⟩ := cells2 x2_1
            have _ := fz x2_1
            have _ := ltb x2_1
            have _ := ltb x2_2
            have X2_1 := hid x2_1; clear x2_1
            have X2_2 := hid x2_2; clear x2_2
            have G2 := hid (G1.out.trans hg2)
            clear hg2
            go_wp2_with fail
            refine (swhole1 _ _).mono ?_
            rintro e w3 ⟨rfl, hg3⟩
            have x3_1 := hg3.keep X2_1.out
            have x3_2 := hg3.keep X2_2.out
            obtain ⟨_, _⟩ := cells2 x3_1
            have _ := fz x3_1
            have _ := ltb x3_1
            have _ := ltb x3_2
            have X3_1 := hid x3_1; clear x3_1
            have X3_2 := hid x3_2; clear x3_2
            have G3 := hid (G2.out.trans hg3)
            clear hg3
            have _ := str_cell X3_2.out HCUR1
            go_wp2_with fail
            refine (HM.out _).mono ?_
            rintro e w4 ⟨rfl, hg4⟩
            obtain ⟨x4_0, hz4, g4⟩ := alloc1 hg4
            have x4_1 := g4.keep X3_1.out
            have x4_2 := g4.keep X3_2.out
            obtain ⟨_, _⟩ := cells2 x4_1
            have _ := fz x4_1
            have _ := ltb x4_1
            have _ := ltb x4_2
            obtain ⟨_, _⟩ := cells2 x4_0
            have _ := fz x4_0
            have _ := ltb x4_0
            have X4_1 := hid x4_1; clear x4_1
            have X4_2 := hid x4_2; clear x4_2
            have X4_0 := hid x4_0; clear x4_0
            have G4 := hid (G3.out.trans g4)
            clear hg4 g4
            have XL : Hid ((w4.setCell ⟨w3.heap.size, 1, none⟩ (.int .i64 1)).heap[w3.heap.size]? = some (.cells #[.int .i64 p, .int .i64 1] 23)) := hid (by simpa using Joins.block_setCell (i := 1) X4_0.out (.int .i64 1))
            have XR : Hid ((w4.setCell ⟨w3.heap.size, 1, none⟩ (.int .i64 1)).heap[w.heap.size]? = some (.cells #[.int .i64 0, .int .i64 0] 23)) := hid (by rw [Below.heap_setCell _ _ _ _ (by simp; omega)]; exact X4_1.out)
            have GS : Hid (Gr w (w4.setCell ⟨w3.heap.size, 1, none⟩ (.int .i64 1))) := hid (G4.out.setCell (by simp; omega) _)
            go_wp2_with fail
            obtain ⟨_, _⟩ := cells2 XR.out
            have _ := fz XR.out
            have _ := ltb XR.out
            obtain ⟨_, _⟩ := cells2 XL.out
            have _ := fz XL.out
            have _ := ltb XL.out
            have M1 := hid (ne_of XL.out XR.out (by first | omega))
            refine wp_regO 7 6 2 45 (by kernel_rfl) (by kernel_rfl) rfl (by decide) rfl rfl rfl rfl (by kernel_rfl) XR.out (by kernel_rfl) ?_
            apply Exists.intro; apply Exists.intro
            refine ⟨fun wb hb => ?_, ?_⟩
            · obtain ⟨_, _⟩ := atO2 hb XL.out M1.out
              simp only [headOps, List.contains, List.elem, Nat.reduceAdd, Nat.reduceBEq, reduceIte, Bool.false_eq_true, dumOp]
              repeat (first | go_big_quiet_step (first | (fail)) | quiet_step (fail))
              exact wpQuiet_nil rfl
            refine ⟨rfl, ⟨rfl, by simp [Value.oneCell']⟩, fun w6 hg6 => ?_⟩
            have x6_0 := hg6.keep (row_new XR.out)
            have x6_1 := hg6.keep (row_old XL.out M1.out)
            obtain ⟨_, _⟩ := cells2 x6_0
            have _ := fz x6_0
            have _ := ltb x6_0
            obtain ⟨_, _⟩ := cells2 x6_1
            have _ := fz x6_1
            have _ := ltb x6_1
            have X6_0 := hid x6_0; clear x6_0
            have X6_1 := hid x6_1; clear x6_1
            have G6 := hid ((GS.out.setRow (by first | omega | (simp; done) | (simp; omega)) _).trans hg6); clear hg6
            go_wp2
            refine bodyPost_ret (v := .tuple #[fr p 1, .bool (false)]) (by simp [results, Tryd.results32, go_sem, *]) rfl ⟨p, 1, _, rfl, RF.out, ?_⟩
            exact G6.out
          · have hq2 : ((q : Int) == 1) = false := by simpa using hq1
            have hq4 : ((q : Int) != 1) = true := by simpa using hq1
            have RF : Hid (RdOk s.data.toList p q (r)) := hid (by simpa [hq1] using RK.out)
            obtain ⟨_, _⟩ := cells2 X1.out
            have _ := fz X1.out
            have _ := ltb X1.out
            have _ := ltb XB.out
            go_wp2_with fail
            refine (HN.out _).mono ?_
            rintro e w2 ⟨rfl, hg2⟩
            have x2_1 := hg2.keep X1.out
            have x2_2 := hg2.keep XB.out
            obtain ⟨_, _⟩ := cells2 x2_1
            have _ := fz x2_1
            have _ := ltb x2_1
            have _ := ltb x2_2
            have X2_1 := hid x2_1; clear x2_1
            have X2_2 := hid x2_2; clear x2_2
            have G2 := hid (G1.out.trans hg2)
            clear hg2
            go_wp2_with fail
            refine (swhole1 _ _).mono ?_
            rintro e w3 ⟨rfl, hg3⟩
            have x3_1 := hg3.keep X2_1.out
            have x3_2 := hg3.keep X2_2.out
            obtain ⟨_, _⟩ := cells2 x3_1
            have _ := fz x3_1
            have _ := ltb x3_1
            have _ := ltb x3_2
            have X3_1 := hid x3_1; clear x3_1
            have X3_2 := hid x3_2; clear x3_2
            have G3 := hid (G2.out.trans hg3)
            clear hg3
            have _ := str_cell X3_2.out HCUR1
            go_wp2_with fail
            refine (HM.out _).mono ?_
            rintro e w4 ⟨rfl, hg4⟩
            obtain ⟨x4_0, hz4, g4⟩ := alloc1 hg4
            have x4_1 := g4.keep X3_1.out
            have x4_2 := g4.keep X3_2.out
            obtain ⟨_, _⟩ := cells2 x4_1
            have _ := fz x4_1
            have _ := ltb x4_1
            have _ := ltb x4_2
            obtain ⟨_, _⟩ := cells2 x4_0
            have _ := fz x4_0
            have _ := ltb x4_0
            have X4_1 := hid x4_1; clear x4_1
            have X4_2 := hid x4_2; clear x4_2
            have X4_0 := hid x4_0; clear x4_0
            have G4 := hid (G3.out.trans g4)
            clear hg4 g4
            have XL : Hid ((w4.setCell ⟨w3.heap.size, 1, none⟩ (.int .i64 q)).heap[w3.heap.size]? = some (.cells #[.int .i64 p, .int .i64 q] 23)) := hid (by simpa using Joins.block_setCell (i := 1) X4_0.out (.int .i64 q))
            have XR : Hid ((w4.setCell ⟨w3.heap.size, 1, none⟩ (.int .i64 q)).heap[w.heap.size]? = some (.cells #[.int .i64 0, .int .i64 0] 23)) := hid (by rw [Below.heap_setCell _ _ _ _ (by simp; omega)]; exact X4_1.out)
            have GS : Hid (Gr w (w4.setCell ⟨w3.heap.size, 1, none⟩ (.int .i64 q))) := hid (G4.out.setCell (by simp; omega) _)
            go_wp2_with fail
            obtain ⟨_, _⟩ := cells2 XR.out
            have _ := fz XR.out
            have _ := ltb XR.out
            obtain ⟨_, _⟩ := cells2 XL.out
            have _ := fz XL.out
            have _ := ltb XL.out
            have M1 := hid (ne_of XL.out XR.out (by first | omega))
            refine wp_regO 7 6 2 45 (by kernel_rfl) (by kernel_rfl) rfl (by decide) rfl rfl rfl rfl (by kernel_rfl) XR.out (by kernel_rfl) ?_
            apply Exists.intro; apply Exists.intro
            refine ⟨fun wb hb => ?_, ?_⟩
            · obtain ⟨_, _⟩ := atO2 hb XL.out M1.out
              simp only [headOps, List.contains, List.elem, Nat.reduceAdd, Nat.reduceBEq, reduceIte, Bool.false_eq_true, dumOp]
              repeat (first | go_big_quiet_step (first | (go_at_call 70; exact Calls.of_gr (HO.out _))) | quiet_step (fail))
              exact wpQuiet_nil rfl
            refine ⟨rfl, ⟨rfl, by simp [Value.oneCell']⟩, fun w6 hg6 => ?_⟩
            have x6_0 := hg6.keep (row_new XR.out)
            have x6_1 := hg6.keep (row_old XL.out M1.out)
            obtain ⟨_, _⟩ := cells2 x6_0
            have _ := fz x6_0
            have _ := ltb x6_0
            obtain ⟨_, _⟩ := cells2 x6_1
            have _ := fz x6_1
            have _ := ltb x6_1
            have X6_0 := hid x6_0; clear x6_0
            have X6_1 := hid x6_1; clear x6_1
            have G6 := hid ((GS.out.setRow (by first | omega | (simp; done) | (simp; omega)) _).trans hg6); clear hg6
            go_wp2
            refine bodyPost_ret (v := .tuple #[fr p q, .bool (r)]) (by simp [results, Tryd.results32, go_sem, *]) rfl ⟨p, q, _, rfl, RF.out, ?_⟩
            exact G6.out
    · have RK := hid (rdok_3 PT.out (by omega) 0 0)
      have hl : (2 : Int) < ((D.length + 1 : Nat) : Int) := by omega
      clear h0 h1
      obtain ⟨n, hn⟩ : ∃ n, D.length + 1 = n := ⟨_, rfl⟩
      rw [hn] at hl
      rw [hn]
      obtain ⟨_, _⟩ := cells2 X1.out
      have _ := fz X1.out
      have _ := ltb X1.out
      have _ := ltb XB.out
      go_wp2
      refine bodyPost_ret (v := .tuple #[fr 0 0, .bool false]) (by simp [results, Tryd.results32, go_sem, *]) rfl ⟨0, 0, _, rfl, RK.out, ?_⟩
      exact ((G1.out).setCell (by simp <;> omega) _).setCell (by simp <;> omega) _
/-- A text is a fraction's. -/
def isF (s : List UInt8) : Prop := ∃ p q, okB p q = true ∧ s = txtFl p q
set_option maxRecDepth 20000 in
set_option maxHeartbeats 1000000 in
theorem sReadFrac (s : ByteArray) (w : World) (hs : s.size ≤ 1048576) : Calls Tryd.prog 9 #[.string s] w fun e w' => (∃ a b, okB a b = true ∧ s.data.toList = txtFl a b ∧ e = .returned (.tuple #[fr a b, .int .i64 0]) ∨ (∀ p q, okB p q = true → s.data.toList ≠ txtFl p q) ∧ e = .returned (.tuple #[fr 0 0, .int .i64 5])) ∧ Gr w w' := by
  have HC := hid fun (w : World) => sRdF s w hs
  go_enter Tryd.func9, Tryd.ntmps9
  go_wp2_with fail
  refine (HC.out _).mono ?_
  rintro e w1 ⟨a, b, r, rfl, rk, hg⟩
  obtain ⟨x, hz, g⟩ := alloc1 hg
  have X1 := hid x; have G1 := hid g; have RK := hid rk
  clear hg g x rk HC
  cases r with
  | true =>
    obtain ⟨hk, he⟩ := RK.out.1 rfl
    have HK := hid hk; have HE := hid he
    clear hk he RK
    obtain ⟨_, _⟩ := cells2 X1.out
    have _ := fz X1.out
    have _ := ltb X1.out
    go_wp2
    refine bodyPost_ret (v := .tuple #[fr a b, .int .i64 0]) (by simp [results, Tryd.results9, go_sem, *]) rfl ⟨⟨a, b, .inl ⟨HK.out, HE.out, rfl⟩⟩, ?_⟩
    exact (((G1.out).setCell (by simp <;> omega) _).setCell (by simp <;> omega) _).al _
  | false =>
    have hn := hid (RK.out.2 rfl)
    clear RK
    obtain ⟨_, _⟩ := cells2 X1.out
    have _ := fz X1.out
    have _ := ltb X1.out
    go_wp2
    refine bodyPost_ret (v := .tuple #[fr 0 0, .int .i64 5]) (by simp [results, Tryd.results9, go_sem, *]) rfl ⟨⟨0, 0, .inr ⟨hn.out, rfl⟩⟩, ?_⟩
    exact (((G1.out).setCell (by simp <;> omega) _).setCell (by simp <;> omega) _).al _
end Go.Proofs.YtpadjkgbeijkpaaDoor
