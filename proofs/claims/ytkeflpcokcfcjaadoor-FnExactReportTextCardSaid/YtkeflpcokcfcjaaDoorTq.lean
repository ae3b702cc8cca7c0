/- TEXTS READ: the reference's readers of numbers. -/
import Derived.Test.YtkeflpcokcfcjaaDoorTp
namespace Go.Proofs.YtkeflpcokcfcjaaDoor
open Go.RowKit Go.Sort

theorem valD_lt : ∀ (l : List UInt8), l.all digB = true → valD l < 10 ^ l.length := by
  intro l
  induction h : l.length generalizing l with
  | zero => intro _; have := List.eq_nil_of_length_eq_zero h; subst this; simp [valD]
  | succ k ih =>
    intro ha
    rcases List.eq_nil_or_concat l with rfl | ⟨i, c, rfl⟩
    · simp at h
    · rw [List.concat_eq_append] at h ha ⊢
      rw [valD_app]
      rw [List.all_append, Bool.and_eq_true] at ha
      have hi : i.length = k := by simp at h; exact h
      have := ih i hi ha.1
      have hc := (dig_back (by simpa using ha.2 : digB c = true)).2
      rw [Nat.pow_succ]
      omega
theorem valD_take {s : ByteArray} {k : Nat} (hk : k < s.size) : valD (s.data.toList.take (k + 1)) = valD (s.data.toList.take k) * 10 + (s[k].toNat - 48) := by
  have h : s.data.toList[k]? = some s[k] := by
    have : k < s.data.toList.length := by simpa using hk
    rw [List.getElem?_eq_getElem this]
    simp
    rfl
  rw [List.take_add_one, h]
  exact valD_app _ _
theorem digs_take {s : ByteArray} {k : Nat} (hk : k < s.size) (h : (s.data.toList.take k).all digB = true) (hd : digB s[k] = true) : (s.data.toList.take (k + 1)).all digB = true := by
  have e : s.data.toList[k]? = some s[k] := by
    have : k < s.data.toList.length := by simpa using hk
    rw [List.getElem?_eq_getElem this]
    simp
    rfl
  rw [List.take_add_one, e, List.all_append, h]
  simpa using hd
theorem digs_not {s : ByteArray} {k : Nat} (hk : k < s.size) (hd : digB s[k] = false) : s.data.toList.all digB = false := by
  have hm : s[k] ∈ s.data.toList := by
    have e : s.data.toList[k]? = some s[k] := by
      have : k < s.data.toList.length := by simpa using hk
      rw [List.getElem?_eq_getElem this]
      simp
      rfl
    exact List.mem_of_getElem? e
  cases ha : s.data.toList.all digB with
  | false => rfl
  | true =>
    rw [List.all_eq_true] at ha
    rw [ha _ hm] at hd
    cases hd
/-- What the reference's reader of a number gives. -/
def rdNv (l : List UInt8) : Int × Bool := match rdN l with | some n => ((n : Int), true) | none => (0, false)
theorem rdNv_no {l : List UInt8} (h : isNum l = false) : rdNv l = (0, false) := by unfold rdNv rdN; rw [h]; rfl
theorem rdNv_long {l : List UInt8} (h : ¬ l.length ≤ 10) : rdNv l = (0, false) := by unfold rdNv rdN; rw [decide_eq_false h, Bool.and_false]; rfl
theorem rdNv_yes {l : List UInt8} (h : isNum l = true) (h2 : l.length ≤ 10) : rdNv l = ((valD l : Int), true) := by unfold rdNv rdN; rw [h, decide_eq_true h2]; rfl
theorem bv_eq {v : Value} {a b : Int × Bool} (h : v = .tuple #[.int .i64 a.1, .bool a.2]) (e : b = a) : v = .tuple #[.int .i64 b.1, .bool b.2] := e ▸ h
theorem s_len (s : ByteArray) : s.data.toList.length = s.size := by simp
theorem s_at (s : ByteArray) (k : Nat) (h : k < s.size) : s.data.toList[k]? = some s[k] := by
  have : k < s.data.toList.length := by simpa using h
  rw [List.getElem?_eq_getElem this]
  simp
  rfl
theorem s_head (s : ByteArray) (h : 0 < s.size) : s.data.toList.head? = some s[0] := by
  rw [← s_at s 0 h, List.head?_eq_getElem?]
theorem s_nil {s : ByteArray} (h : s.size = 0) : s = ⟨#[]⟩ := by
  apply ByteArray.ext
  apply Array.ext'
  exact List.eq_nil_of_length_eq_zero (by rw [s_len]; exact h)
theorem isNum_zero {l : List UInt8} (h1 : 1 < l.length) (h : l.head? = some 48) : isNum l = false := by
  unfold isNum
  simp [h]
  intro _
  omega
theorem loop_is (s : ByteArray) (i : Nat) (r : List UInt8) : ByteArray.toList.loop s i r = r.reverse ++ s.data.toList.drop i := by
  fun_induction ByteArray.toList.loop s i r with
  | case1 i r hi ih =>
    rw [ih]
    have hi' : i < s.data.toList.length := by simpa using hi
    have e : s.get! i = s.data.toList[i] := by
      unfold ByteArray.get!
      simp only [Array.getElem_toList]
      exact getElem!_pos s.data i (by simpa using hi)
    rw [List.drop_eq_getElem_cons hi', e]
    simp
  | case2 i r hi =>
    rw [List.drop_eq_nil_of_le (by simpa using hi)]
    simp
theorem bl_is (s : ByteArray) : s.toList = s.data.toList := by
  unfold ByteArray.toList
  rw [loop_is]
  simp
theorem txt_ne {S s : ByteArray} (h : ¬ S = s) : (S.toList == s.toList) = false := by
  rw [beq_eq_false_iff_ne, bl_is, bl_is]
  intro he
  refine h (ByteArray.ext (Array.ext' he))
theorem loop_ne (s : ByteArray) (i : Nat) (r : List UInt8) (h : r ≠ []) : ByteArray.toList.loop s i r ≠ [] := by
  fun_induction ByteArray.toList.loop s i r with
  | case1 i r hi ih => exact ih (by simp)
  | case2 i r hi => simpa using h
theorem ne_list {s : ByteArray} (h0 : ¬ s.size = 0) : s.toList.isEmpty = false := by
  have h : s.toList ≠ [] := by
    unfold ByteArray.toList ByteArray.toList.loop
    rw [if_pos (by omega)]
    exact loop_ne s _ _ (by simp)
  cases hl : s.toList with
  | nil => exact absurd hl h
  | cons a r => rfl
set_option maxRecDepth 20000 in
set_option maxHeartbeats 1000000 in
theorem sNumber (s : ByteArray) (w : World) (hs : s.size ≤ 9223372036854775807) (N : Int) (b : Bool) (hN : rdNv s.data.toList = (N, b)) : Calls Tryd.prog 30 #[.string s] w fun e w' => e = .returned (.tuple #[.int .i64 N, .bool b]) ∧ Gr w w' := by
  by_cases h0 : s.size = 0
  · have e : rdNv s.data.toList = (0, false) := rdNv_no (by rw [s_nil h0]; rfl)
    rw [e] at hN
    cases hN
    have hsn := s_nil h0
    subst hsn
    clear e hs h0
    go_enter Tryd.func30, Tryd.ntmps30
    go_wp2
    go_ret2
    exact ⟨rfl, Gr.refl _⟩
  · have he := ne_list h0
    have hz : 0 < s.size := by omega
    by_cases h10 : s.size ≤ 10
    · have d10 : ¬ (10 : Int) < (s.size : Int) := by omega
      by_cases hd : 1 < s.size ∧ s[0].toNat = 48
      · have e : rdNv s.data.toList = (0, false) := rdNv_no (isNum_zero (by rw [s_len]; exact hd.1) (by rw [s_head s hz]; congr 1; exact UInt8.toNat_inj.1 (by rw [hd.2]; rfl)))
        rw [e] at hN
        cases hN
        have h1 : (1 : Int) < (s.size : Int) := by omega
        have h2 : (s[0].toNat : Int) = 48 := by omega
        clear e h0 hd
        go_enter Tryd.func30, Tryd.ntmps30
        go_wp2
        go_ret2
        exact ⟨rfl, Gr.refl _⟩
      · have HN : Hid (isNum s.data.toList = s.data.toList.all digB) := hid (by
          unfold isNum
          cases s.data.toList.all digB with
          | false => rfl
          | true =>
            simp only [Bool.true_and]
            by_cases h1 : s.size = 1
            · rw [s_len]; simp [h1]
            · have hne : s.data.toList.head? ≠ some 48 := by
                rw [s_head s hz]
                intro h
                have h := Option.some.inj h
                exact hd ⟨by omega, by rw [h]; rfl⟩
              rw [s_len]
              simp only [decide_eq_true hne, Bool.and_true]
              simp
              omega)
        have hD : ((s[0].toNat : Int) == 48) = false ∨ (s[0].toNat : Int) = 48 ∧ ¬ (1 : Int) < (s.size : Int) := by
          by_cases h1 : (s[0].toNat : Int) = 48
          · exact .inr ⟨h1, fun h => hd ⟨by omega, by omega⟩⟩
          · exact .inl (by simpa using h1)
        have HR := hid hN
        clear h0 hd hN
        go_enter Tryd.func30, Tryd.ntmps30
        rcases hD with hD | ⟨hD, hD2⟩
        all_goals
          go_wp2_with fail
          clear he
          go_loopw [4, 5] (fun t u wr => ∃ (k : Nat), u = .int .i64 (k : Int) ∧ t = .int .i64 (valD (s.data.toList.take k) : Int) ∧ k ≤ s.size ∧ (s.data.toList.take k).all digB = true ∧ wr = w) (fun _ u _ => s.size - (intOf u).toNat)
          case atStart => exact ⟨0, rfl, rfl, by omega, by simp, by simp⟩
          case round =>
            obtain ⟨k, rfl, rfl, hk, ha, rfl⟩ := hrel
            have HA := hid ha; clear ha
            have hv := valD_lt _ HA.out
            have hv10 : valD (s.data.toList.take k) < 10000000000 := Nat.lt_of_lt_of_le hv (Nat.le_trans (Nat.pow_le_pow_right (by omega) (show (s.data.toList.take k).length ≤ 10 by simp; omega)) (by decide))
            by_cases hlt : k < s.size
            · have HV := hid (valD_take hlt)
              obtain ⟨m, hm⟩ : ∃ m, valD (s.data.toList.take k) = m := ⟨_, rfl⟩
              rw [hm] at HV hv10
              rw [hm]
              cases hl : digB s[k] with
              | true =>
                have HT := hid (digs_take hlt HA.out hl)
                have hl2 := hl
                unfold digB at hl2
                simp only [Bool.and_eq_true, decide_eq_true_eq] at hl2
                have g1 : ¬ (s[k].toNat : Int) < 48 := by omega
                have g2 : ¬ (57 : Int) < (s[k].toNat : Int) := by omega
                have hsub : ((s[k].toNat - 48 : Nat) : Int) = (s[k].toNat : Int) - 48 := by omega
                clear hl hl2 hv hm
                go_wp2_with fail
                exact ⟨⟨k + 1, by simp, by rw [HV.out]; push_cast; rw [hsub]; congr 1; omega, by omega, HT.out, by simp⟩, by simp [intOf]; omega⟩
              | false =>
                have HF := hid (digs_not hlt hl)
                have hR : N = 0 ∧ b = false := by
                  have h := HR.out
                  rw [rdNv_no (by rw [HN.out, HF.out])] at h
                  cases h
                  exact ⟨rfl, rfl⟩
                obtain ⟨rfl, rfl⟩ := hR
                have hl2 := hl
                unfold digB at hl2
                simp at hl2
                clear hl hv hm
                by_cases g1 : (s[k].toNat : Int) < 48
                · clear hl2
                  go_wp2_with fail
                  go_ret2
                  exact ⟨rfl, Gr.refl _⟩
                · have g2 : (57 : Int) < (s[k].toNat : Int) := by omega
                  clear hl2
                  go_wp2_with fail
                  go_ret2
                  exact ⟨rfl, Gr.refl _⟩
            · have hte : s.data.toList.take k = s.data.toList := List.take_of_length_le (by rw [s_len]; omega)
              have hR : N = (valD (s.data.toList.take k) : Int) ∧ b = true := by
                have h := HR.out
                have ha := HA.out
                rw [hte] at ha ⊢
                rw [rdNv_yes (by rw [HN.out, ha]) (by rw [s_len]; exact h10)] at h
                cases h
                exact ⟨rfl, rfl⟩
              obtain ⟨rfl, rfl⟩ := hR
              clear hv
              obtain ⟨m, hm⟩ : ∃ m, valD (s.data.toList.take k) = m := ⟨_, rfl⟩
              rw [hm] at hv10
              have HM := hid hm
              clear hte hm
              go_wp2_with fail
              go_ret2
              exact ⟨by rw [HM.out]; rfl, Gr.refl _⟩
    · have e : rdNv s.data.toList = (0, false) := rdNv_long (by rw [s_len]; exact h10)
      rw [e] at hN
      cases hN
      have d10 : (10 : Int) < (s.size : Int) := by omega
      clear e h0 h10
      go_enter Tryd.func30, Tryd.ntmps30
      go_wp2
      go_ret2
      exact ⟨rfl, Gr.refl _⟩
end Go.Proofs.YtkeflpcokcfcjaaDoor
