/- WALKS: names: letters from a to z, of the program (strings.ContainsFunc over a range of runes) and of the reference (bytes). -/
import Derived.Test.YtflfjedimcbfeaaD
import Derived.Test.YtflfjedimcbfeaaA
import Derived.Lib.OthersKept
import Derived.Lib.DecodeN
import Derived.Lib.TrimU
import Derived.Deep.LoopGhost
import Derived.Test.YtflfjedimcbfeaaPh
namespace Go.Proofs.Ytflfjedimcbfeaa
open Go.RowKit Go.Sort

def ltrB (c : UInt8) : Bool := decide (97 ≤ c.toNat) && decide (c.toNat ≤ 122)
def ltrs (s : ByteArray) : Bool := s.data.toList.all ltrB
theorem decN_ge (n b0 b1 b2 b3 : Nat) (h : 128 ≤ b0) : 128 ≤ (Go.Lib.decodeN n b0 b1 b2 b3).1 := by
  unfold Go.Lib.decodeN
  rw [if_neg (by omega)]
  split
  · split
    · omega
    · decide
  · split
    · split
      · omega
      · decide
    · split
      · split
        · omega
        · decide
      · decide
theorem get_at (s : ByteArray) {pos : Nat} (h : pos < s.size) : s.get! pos = s[pos] := by
  cases s with
  | mk d =>
    have h2 : pos < d.size := h
    show d[pos]! = d[pos]
    exact getElem!_pos d pos h2
theorem dec_letter (s : ByteArray) {pos : Nat} (h : pos < s.size) (hl : ltrB s[pos] = true) : Utf8.decode s pos = (s[pos].toNat, 1) := by
  rw [Go.Lib.decode_at, get_at s h]
  unfold Go.Lib.decodeN
  unfold ltrB at hl
  simp at hl
  rw [if_pos (by omega)]
theorem dec_other (s : ByteArray) {pos : Nat} (h : pos < s.size) (hl : ltrB s[pos] = false) : (Utf8.decode s pos).1 < 97 ∨ 122 < (Utf8.decode s pos).1 := by
  rw [Go.Lib.decode_at, get_at s h]
  by_cases h1 : s[pos].toNat < 128
  · unfold Go.Lib.decodeN
    rw [if_pos h1]
    unfold ltrB at hl
    simp at hl
    show s[pos].toNat < 97 ∨ 122 < s[pos].toNat
    omega
  · have := decN_ge (s.size - pos) s[pos].toNat (s.get! (pos + 1)).toNat (s.get! (pos + 2)).toNat (s.get! (pos + 3)).toNat (by omega)
    omega
theorem Gr.iterAt {w w' : World} (h : Gr w w') {k : Nat} (hk : w.heap.size ≤ k) (s : ByteArray) (pos : Nat) : Gr w (w'.iterAt k s pos) :=
  h.heap rfl rfl rfl rfl (by rw [Go.Lib.iterAt_size]; exact Nat.le_refl _) (fun j hj => Go.Lib.iterAt_other w' k j s pos (by omega))
theorem ltr_take {s : ByteArray} {k : Nat} (h : k < s.size) (ha : (s.data.toList.take k).all ltrB = true) (hx : ltrB s[k] = true) : (s.data.toList.take (k + 1)).all ltrB = true := by
  have hk : k < s.data.toList.length := by simpa using h
  have e : s.data.toList[k] = s[k] := by cases s; simp; rfl
  rw [List.take_succ_eq_append_getElem hk, List.all_append, ha, e]
  simp [hx]
theorem ltr_not {s : ByteArray} {k : Nat} (h : k < s.size) (hx : ltrB s[k] = false) : ltrs s = false := by
  have hk : k < s.data.toList.length := by simpa using h
  have e : s.data.toList[k] = s[k] := by cases s; simp; rfl
  unfold ltrs
  cases ha : s.data.toList.all ltrB with
  | false => rfl
  | true =>
    have := List.all_eq_true.1 ha _ (List.getElem_mem hk)
    rw [e, hx] at this
    cases this
set_option maxHeartbeats 400000 in
theorem iLetter_t (r : Nat) (w : World) (h : r < 97 ∨ 122 < r) : Calls Try.prog 114 #[.int .i32 (r : Int)] w fun e w' => e = .returned (.bool true) ∧ w = w' := by
  by_cases h1 : (r : Int) < 97
  · clear h
    go_enter Try.func114, Try.ntmps114
    go_wp2
    go_ret
    exact ⟨rfl, rfl⟩
  · have h2 : (122 : Int) < (r : Int) := by omega
    clear h
    go_enter Try.func114, Try.ntmps114
    go_wp2
    go_ret
    exact ⟨rfl, rfl⟩
set_option maxHeartbeats 400000 in
theorem iLetter_f (r : Nat) (w : World) (h1 : 97 ≤ r) (h2 : r ≤ 122) : Calls Try.prog 114 #[.int .i32 (r : Int)] w fun e w' => e = .returned (.bool false) ∧ w = w' := by
  have g1 : ¬ (r : Int) < 97 := by omega
  have g2 : ¬ (122 : Int) < (r : Int) := by omega
  go_enter Try.func114, Try.ntmps114
  go_wp2
  go_ret
  exact ⟨rfl, rfl⟩
set_option maxHeartbeats 2000000 in
set_option maxRecDepth 100000 in
theorem iIndexStr (s : ByteArray) (w : World) :
    Calls Try.prog 128 #[.string s, .func (.func 114) #[] #[], .bool true] w fun e w' => (∃ r : Int, e = .returned (.int .i64 r) ∧ decide (0 ≤ r) = !ltrs s) ∧ Gr w w' := by
  go_enter Try.func128, Try.ntmps128
  go_wp2
  go_loopg [] s.size (fun gf wx => ∃ pos : Nat, wx.heap[w.heap.size]? = some (.stringIter s pos) ∧ Gr w wx ∧ (s.data.toList.take pos).all ltrB = true ∧ s.size ≤ pos + gf)
  case atStart => exact ⟨0, World.iter_heap w s 0, (Gr.refl _).al _, by simp, by omega⟩
  case round =>
    obtain ⟨pos, hit, hg, ha, hfu⟩ := hrel
    have GW := hid hg; have HA := hid ha
    clear hg ha
    by_cases hps : pos < s.size
    · obtain ⟨g', rfl⟩ : ∃ g', gk = g' + 1 := ⟨gk - 1, by omega⟩
      have hnx : ∀ ty, (Instr.next (.pointer (some ⟨w.heap.size, 0, none⟩)) true ty).run Try.prog wr = _ := fun ty => Lib.run_next_any_at wr w.heap.size s pos ty hit hps
      cases hl : ltrB s[pos] with
      | true =>
        rw [dec_letter s hps hl] at hnx
        have hl2 := hl
        unfold ltrB at hl2
        simp only [Bool.and_eq_true, decide_eq_true_eq] at hl2
        have hit2 := Lib.iterAt_heap wr w.heap.size s pos (pos + 1) hit
        have G2 := hid (GW.out.iterAt (Nat.le_refl _) s (pos + 1))
        have HT := hid (ltr_take hps HA.out hl)
        obtain ⟨R, hR⟩ : ∃ R, s[pos].toNat = R := ⟨_, rfl⟩
        rw [hR] at hnx hl2
        obtain ⟨W, hWd⟩ : ∃ W, wr.iterAt w.heap.size s (pos + 1) = W := ⟨_, rfl⟩
        simp only [hWd] at hnx hit2 G2
        have HF := hid (iLetter_f R W hl2.1 hl2.2)
        have HIT := hid hit2
        clear hl hl2 hit hit2 hR hWd
        go_wp2_with (go_at_call 114; refine HF.out.mono ?_; rintro e w2 ⟨rfl, rfl⟩)
        go_roundg g'
        case measure => omega
        case rel => exact ⟨pos + 1, HIT.out, G2.out, HT.out, by omega⟩
      | false =>
        have hd := dec_other s hps hl
        have HN := hid (ltr_not hps hl)
        obtain ⟨R, hR⟩ : ∃ R, (Utf8.decode s pos).1 = R := ⟨_, rfl⟩
        obtain ⟨K, hK⟩ : ∃ K, (Utf8.decode s pos).2 = K := ⟨_, rfl⟩
        rw [hR, hK] at hnx
        rw [hR] at hd
        have G2 := hid (GW.out.iterAt (Nat.le_refl _) s (pos + K))
        obtain ⟨W, hWd⟩ : ∃ W, wr.iterAt w.heap.size s (pos + K) = W := ⟨_, rfl⟩
        simp only [hWd] at hnx G2
        have HF := hid (iLetter_t R W hd)
        clear hl hit hR hK hWd hd
        go_wp2_with (go_at_call 114; refine HF.out.mono ?_; rintro e w2 ⟨rfl, rfl⟩)
        go_ret
        exact ⟨⟨_, rfl, by rw [HN.out]; simp⟩, G2.out⟩
    · have hnx : ∀ ty, (Instr.next (.pointer (some ⟨w.heap.size, 0, none⟩)) true ty).run Try.prog wr = _ := fun ty => Lib.run_next_end_at wr w.heap.size s pos ty hit hps
      have hall : ltrs s = true := by
        have h := HA.out
        rw [List.take_of_length_le (by simp; omega)] at h
        exact h
      have HALL := hid hall
      clear hall hit
      go_wp2
      go_ret
      exact ⟨⟨_, rfl, by rw [HALL.out]; simp⟩, GW.out⟩
end Go.Proofs.Ytflfjedimcbfeaa
namespace Go.Proofs.Ytflfjedimcbfeaa
open Go.RowKit Go.Sort

set_option maxHeartbeats 400000 in
theorem iIndexStr2 (s : ByteArray) (w : World) :
    Calls Try.prog 124 #[.string s, .func (.func 114) #[] #[]] w fun e w' => (∃ r : Int, e = .returned (.int .i64 r) ∧ decide (0 ≤ r) = !ltrs s) ∧ Gr w w' := by
  go_enter Try.func124, Try.ntmps124
  go_wp2_with fail
  refine (iIndexStr s w).mono ?_
  rintro e w1 ⟨⟨r, rfl, hr⟩, hg⟩
  have HR := hid hr; have HG := hid hg; clear hr hg
  go_wp2_with fail
  go_ret
  exact ⟨⟨r, rfl, HR.out⟩, HG.out⟩
set_option maxHeartbeats 400000 in
theorem iContStr (s : ByteArray) (w : World) :
    Calls Try.prog 113 #[.string s, .func (.func 114) #[] #[]] w fun e w' => e = .returned (.bool (!ltrs s)) ∧ Gr w w' := by
  go_enter Try.func113, Try.ntmps113
  go_wp2_with fail
  refine (iIndexStr2 s w).mono ?_
  rintro e w1 ⟨⟨r, rfl, hr⟩, hg⟩
  have HR := hid hr; have HG := hid hg; clear hr hg
  go_wp2_with fail
  go_ret
  exact ⟨ret_bool (by rw [← HR.out]), HG.out⟩
def nmB (s : ByteArray) (most : Nat) : Bool := (decide (1 ≤ s.size) && decide (s.size ≤ most)) && ltrs s
set_option maxHeartbeats 400000 in
theorem iName (s : ByteArray) (most : Nat) (w : World) :
    Calls Try.prog 80 #[.string s, .int .i64 (most : Int)] w fun e w' => e = .returned (.bool (nmB s most)) ∧ Gr w w' := by
  by_cases h1 : 1 ≤ s.size
  · by_cases h2 : s.size ≤ most
    · have e : nmB s most = ltrs s := by unfold nmB; simp [h1, h2]
      rw [e]
      obtain ⟨r, hr⟩ : ∃ r, ltrs s = r := ⟨_, rfl⟩
      have HC := hid (iContStr s w)
      rw [hr] at HC
      rw [hr]
      have d1 : ¬ (s.size : Int) < 1 := by omega
      have d2 : decide (most < s.size) = false := by simpa using h2
      clear e hr h1 h2
      go_enter Try.func80, Try.ntmps80
      go_wp2_with fail
      refine HC.out.mono ?_
      rintro e w1 ⟨rfl, hg1⟩
      have G1 := hid hg1
      clear hg1
      go_wp2_with fail
      go_ret
      exact ⟨ret_bool (by simp), G1.out⟩
    · have e : nmB s most = false := by unfold nmB; simp [h2]
      rw [e]
      have d1 : ¬ (s.size : Int) < 1 := by omega
      have d2 : decide (most < s.size) = true := by simpa using h2
      clear e h1 h2
      go_enter Try.func80, Try.ntmps80
      go_wp2
      go_ret
      exact ⟨rfl, Gr.refl _⟩
  · have e : nmB s most = false := by unfold nmB; simp [h1]
    rw [e]
    have d1 : (s.size : Int) < 1 := by omega
    clear e h1
    go_enter Try.func80, Try.ntmps80
    go_wp2
    go_ret
    exact ⟨rfl, Gr.refl _⟩
abbrev rdr (s : ByteArray) (b u : Int) (o : Bool) : Value := .agg #[.string s, .int .i16 b, .int .i16 u, .bool o]
def rrB (s : ByteArray) (b u : Int) : Bool := nmB s 12 && gsB b u
theorem iName_is (s : ByteArray) (r : Bool) (w : World) (h : nmB s 12 = r) : Calls Try.prog 80 #[.string s, .int .i64 12] w fun e w' => e = .returned (.bool r) ∧ Gr w w' := h ▸ iName s 12 w
end Go.Proofs.Ytflfjedimcbfeaa
