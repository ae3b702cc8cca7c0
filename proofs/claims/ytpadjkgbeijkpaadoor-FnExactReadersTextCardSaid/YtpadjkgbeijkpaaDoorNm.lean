/- WALKS: names: letters from a to z, of the program (strings.ContainsFunc over a range of runes) and of the reference (bytes). -/
import Derived.Test.YtpadjkgbeijkpaaDoorC0
import Derived.Test.YtpadjkgbeijkpaaDoorA
import Derived.Lib.OthersKept
import Derived.Lib.DecodeN
import Derived.Lib.TrimU
import Derived.Deep.LoopGhost
import Derived.Test.YtpadjkgbeijkpaaDoorPh
namespace Go.Proofs.YtpadjkgbeijkpaaDoor
open Go.RowKit Go.Sort

def ltrB (c : UInt8) : Bool := decide (97 ≤ c.toNat) && decide (c.toNat ≤ 122)
def ltrs (s : ByteArray) : Bool := s.data.toList.all ltrB
theorem decN_ge (n b0 b1 b2 b3 : Nat) (h : 128 ≤ b0) : 128 ≤ (Go.Lib.decodeN n b0 b1 b2 b3).1 := by
  unfold Go.Lib.decodeN
  rw [if_neg (by omega)]
  split
  · split
    · omega
    · decide
  · split
    · split
      · omega
      · decide
    · split
      · split
        · omega
        · decide
      · decide
theorem get_at (s : ByteArray) {pos : Nat} (h : pos < s.size) : s.get! pos = s[pos] := by
  cases s with
  | mk d =>
    have h2 : pos < d.size := h
    show d[pos]! = d[pos]
    exact getElem!_pos d pos h2
theorem dec_letter (s : ByteArray) {pos : Nat} (h : pos < s.size) (hl : ltrB s[pos] = true) : Utf8.decode s pos = (s[pos].toNat, 1) := by
  rw [Go.Lib.decode_at, get_at s h]
  unfold Go.Lib.decodeN
  unfold ltrB at hl
  simp at hl
  rw [if_pos (by omega)]
theorem dec_other (s : ByteArray) {pos : Nat} (h : pos < s.size) (hl : ltrB s[pos] = false) : (Utf8.decode s pos).1 < 97 ∨ 122 < (Utf8.decode s pos).1 := by
  rw [Go.Lib.decode_at, get_at s h]
  by_cases h1 : s[pos].toNat < 128
  · unfold Go.Lib.decodeN
    rw [if_pos h1]
    unfold ltrB at hl
    simp at hl
    show s[pos].toNat < 97 ∨ 122 < s[pos].toNat
    omega
  · have := decN_ge (s.size - pos) s[pos].toNat (s.get! (pos + 1)).toNat (s.get! (pos + 2)).toNat (s.get! (pos + 3)).toNat (by omega)
    omega
theorem Gr.iterAt {w w' : World} (h : Gr w w') {k : Nat} (hk : w.heap.size ≤ k) (s : ByteArray) (pos : Nat) : Gr w (w'.iterAt k s pos) :=
  h.heap rfl rfl rfl rfl (by rw [Go.Lib.iterAt_size]; exact Nat.le_refl _) (fun j hj => Go.Lib.iterAt_other w' k j s pos (by omega))
theorem ltr_take {s : ByteArray} {k : Nat} (h : k < s.size) (ha : (s.data.toList.take k).all ltrB = true) (hx : ltrB s[k] = true) : (s.data.toList.take (k + 1)).all ltrB = true := by
  have hk : k < s.data.toList.length := by simpa using h
  have e : s.data.toList[k] = s[k] := by cases s; simp; rfl
  rw [List.take_succ_eq_append_getElem hk, List.all_append, ha, e]
  simp [hx]
theorem ltr_not {s : ByteArray} {k : Nat} (h : k < s.size) (hx : ltrB s[k] = false) : ltrs s = false := by
  have hk : k < s.data.toList.length := by simpa using h
  have e : s.data.toList[k] = s[k] := by cases s; simp; rfl
  unfold ltrs
  cases ha : s.data.toList.all ltrB with
  | false => rfl
  | true =>
    have := List.all_eq_true.1 ha _ (List.getElem_mem hk)
    rw [e, hx] at this
    cases this
set_option maxHeartbeats 400000 in
theorem iLetter_t (r : Nat) (w : World) (h : r < 97 ∨ 122 < r) : Calls Tryd.prog 168 #[.int .i32 (r : Int)] w fun e w' => e = .returned (.bool true) ∧ w = w' := by
  by_cases h1 : (r : Int) < 97
  · clear h
    go_enter Tryd.func168, Tryd.ntmps168
    go_wp2
    go_ret
    exact ⟨rfl, rfl⟩
  · have h2 : (122 : Int) < (r : Int) := by omega
    clear h
    go_enter Tryd.func168, Tryd.ntmps168
    go_wp2
    go_ret
    exact ⟨rfl, rfl⟩
set_option maxHeartbeats 400000 in
theorem iLetter_f (r : Nat) (w : World) (h1 : 97 ≤ r) (h2 : r ≤ 122) : Calls Tryd.prog 168 #[.int .i32 (r : Int)] w fun e w' => e = .returned (.bool false) ∧ w = w' := by
  have g1 : ¬ (r : Int) < 97 := by omega
  have g2 : ¬ (122 : Int) < (r : Int) := by omega
  go_enter Tryd.func168, Tryd.ntmps168
  go_wp2
  go_ret
  exact ⟨rfl, rfl⟩
set_option maxHeartbeats 2000000 in
set_option maxRecDepth 100000 in
theorem iIndexStr (s : ByteArray) (w : World) :
    Calls Tryd.prog 181 #[.string s, .func (.func 168) #[] #[], .bool true] w fun e w' => (∃ r : Int, e = .returned (.int .i64 r) ∧ decide (0 ≤ r) = !ltrs s) ∧ Gr w w' := by
  go_enter Tryd.func181, Tryd.ntmps181
  go_wp2
  go_loopg [] s.size (fun gf wx => ∃ pos : Nat, wx.heap[w.heap.size]? = some (.stringIter s pos) ∧ Gr w wx ∧ (s.data.toList.take pos).all ltrB = true ∧ s.size ≤ pos + gf)
  case atStart => exact ⟨0, World.iter_heap w s 0, (Gr.refl _).al _, by simp, by omega⟩
  case round =>
    obtain ⟨pos, hit, hg, ha, hfu⟩ := hrel
    have GW := hid hg; have HA := hid ha
    clear hg ha
    by_cases hps : pos < s.size
    · obtain ⟨g', rfl⟩ : ∃ g', gk = g' + 1 := ⟨gk - 1, by omega⟩
      have hnx : ∀ ty, (Instr.next (.pointer (some ⟨w.heap.size, 0, none⟩)) true ty).run Tryd.prog wr = _ := fun ty => Lib.run_next_any_at wr w.heap.size s pos ty hit hps
      cases hl : ltrB s[pos] with
      | true =>
        rw [dec_letter s hps hl] at hnx
        have hl2 := hl
        unfold ltrB at hl2
        simp only [Bool.and_eq_true, decide_eq_true_eq] at hl2
        have hit2 := Lib.iterAt_heap wr w.heap.size s pos (pos + 1) hit
        have G2 := hid (GW.out.iterAt (Nat.le_refl _) s (pos + 1))
        have HT := hid (ltr_take hps HA.out hl)
        obtain ⟨R, hR⟩ : ∃ R, s[pos].toNat = R := ⟨_, rfl⟩
        rw [hR] at hnx hl2
        obtain ⟨W, hWd⟩ : ∃ W, wr.iterAt w.heap.size s (pos + 1) = W := ⟨_, rfl⟩
        simp only [hWd] at hnx hit2 G2
        have HF := hid (iLetter_f R W hl2.1 hl2.2)
        have HIT := hid hit2
        clear hl hl2 hit hit2 hR hWd
        go_wp2_with (go_at_call 168; refine HF.out.mono ?_; rintro e w2 ⟨rfl, rfl⟩)
        go_roundg g'
        case measure => omega
        case rel => exact ⟨pos + 1, HIT.out, G2.out, HT.out, by omega⟩
      | false =>
        have hd := dec_other s hps hl
        have HN := hid (ltr_not hps hl)
        obtain ⟨R, hR⟩ : ∃ R, (Utf8.decode s pos).1 = R := ⟨_, rfl⟩
        obtain ⟨K, hK⟩ : ∃ K, (Utf8.decode s pos).2 = K := ⟨_, rfl⟩
        rw [hR, hK] at hnx
        rw [hR] at hd
        have G2 := hid (GW.out.iterAt (Nat.le_refl _) s (pos + K))
        obtain ⟨W, hWd⟩ : ∃ W, wr.iterAt w.heap.size s (pos + K) = W := ⟨_, rfl⟩
        simp only [hWd] at hnx G2
        have HF := hid (iLetter_t R W hd)
        clear hl hit hR hK hWd hd
        go_wp2_with (go_at_call 168; refine HF.out.mono ?_; rintro e w2 ⟨rfl, rfl⟩)
        go_ret
        exact ⟨⟨_, rfl, by rw [HN.out]; simp⟩, G2.out⟩
    · have hnx : ∀ ty, (Instr.next (.pointer (some ⟨w.heap.size, 0, none⟩)) true ty).run Tryd.prog wr = _ := fun ty => Lib.run_next_end_at wr w.heap.size s pos ty hit hps
      have hall : ltrs s = true := by
        have h := HA.out
        rw [List.take_of_length_le (by simp; omega)] at h
        exact h
      have HALL := hid hall
      clear hall hit
      go_wp2
      go_ret
      exact ⟨⟨_, rfl, by rw [HALL.out]; simp⟩, GW.out⟩
end Go.Proofs.YtpadjkgbeijkpaaDoor
namespace Go.Proofs.YtpadjkgbeijkpaaDoor
open Go.RowKit Go.Sort

set_option maxHeartbeats 400000 in
theorem iIndexStr2 (s : ByteArray) (w : World) :
    Calls Tryd.prog 178 #[.string s, .func (.func 168) #[] #[]] w fun e w' => (∃ r : Int, e = .returned (.int .i64 r) ∧ decide (0 ≤ r) = !ltrs s) ∧ Gr w w' := by
  go_enter Tryd.func178, Tryd.ntmps178
  go_wp2_with fail
  refine (iIndexStr s w).mono ?_
  rintro e w1 ⟨⟨r, rfl, hr⟩, hg⟩
  have HR := hid hr; have HG := hid hg; clear hr hg
  go_wp2_with fail
  go_ret
  exact ⟨⟨r, rfl, HR.out⟩, HG.out⟩
set_option maxHeartbeats 400000 in
theorem iContStr (s : ByteArray) (w : World) :
    Calls Tryd.prog 167 #[.string s, .func (.func 168) #[] #[]] w fun e w' => e = .returned (.bool (!ltrs s)) ∧ Gr w w' := by
  go_enter Tryd.func167, Tryd.ntmps167
  go_wp2_with fail
  refine (iIndexStr2 s w).mono ?_
  rintro e w1 ⟨⟨r, rfl, hr⟩, hg⟩
  have HR := hid hr; have HG := hid hg; clear hr hg
  go_wp2_with fail
  go_ret
  exact ⟨ret_bool (by rw [← HR.out]), HG.out⟩
def nmB (s : ByteArray) (most : Nat) : Bool := (decide (1 ≤ s.size) && decide (s.size ≤ most)) && ltrs s
set_option maxHeartbeats 400000 in
theorem iName (s : ByteArray) (most : Nat) (w : World) :
    Calls Tryd.prog 144 #[.string s, .int .i64 (most : Int)] w fun e w' => e = .returned (.bool (nmB s most)) ∧ Gr w w' := by
  by_cases h1 : 1 ≤ s.size
  · by_cases h2 : s.size ≤ most
    · have e : nmB s most = ltrs s := by unfold nmB; simp [h1, h2]
      rw [e]
      obtain ⟨r, hr⟩ : ∃ r, ltrs s = r := ⟨_, rfl⟩
      have HC := hid (iContStr s w)
      rw [hr] at HC
      rw [hr]
      have d1 : ¬ (s.size : Int) < 1 := by omega
      have d2 : decide (most < s.size) = false := by simpa using h2
      clear e hr h1 h2
      go_enter Tryd.func144, Tryd.ntmps144
      go_wp2_with fail
      refine HC.out.mono ?_
      rintro e w1 ⟨rfl, hg1⟩
      have G1 := hid hg1
      clear hg1
      go_wp2_with fail
      go_ret
      exact ⟨ret_bool (by simp), G1.out⟩
    · have e : nmB s most = false := by unfold nmB; simp [h2]
      rw [e]
      have d1 : ¬ (s.size : Int) < 1 := by omega
      have d2 : decide (most < s.size) = true := by simpa using h2
      clear e h1 h2
      go_enter Tryd.func144, Tryd.ntmps144
      go_wp2
      go_ret
      exact ⟨rfl, Gr.refl _⟩
  · have e : nmB s most = false := by unfold nmB; simp [h1]
    rw [e]
    have d1 : (s.size : Int) < 1 := by omega
    clear e h1
    go_enter Tryd.func144, Tryd.ntmps144
    go_wp2
    go_ret
    exact ⟨rfl, Gr.refl _⟩
set_option maxRecDepth 20000 in
set_option maxHeartbeats 800000 in
theorem sName (s : ByteArray) (w : World) :
    Calls Tryd.prog 140 #[.string s] w fun e w' => e = .returned (.bool (nmB s 12)) ∧ Gr w w' := by
  by_cases h1 : 1 ≤ s.size
  · by_cases h2 : s.size ≤ 12
    · have e : nmB s 12 = ltrs s := by unfold nmB; simp [h1, h2]
      rw [e]
      clear e
      go_enter Tryd.func140, Tryd.ntmps140
      go_wp2_with fail
      go_loopw [3] (fun u wr => ∃ (k : Nat), u = .int .i64 (k : Int) ∧ k ≤ s.size ∧ (s.data.toList.take k).all ltrB = true ∧ wr = w) (fun u _ => s.size - (intOf u).toNat)
      case atStart => exact ⟨0, rfl, by omega, by simp, by simp⟩
      case round =>
        obtain ⟨k, rfl, hk, ha, rfl⟩ := hrel
        have HA := hid ha; clear ha
        by_cases hlt : k < s.size
        · cases hl : ltrB s[k] with
          | true =>
            have HT := hid (ltr_take hlt HA.out hl)
            have hl2 := hl
            unfold ltrB at hl2
            simp only [Bool.and_eq_true, decide_eq_true_eq] at hl2
            have g1 : ¬ (s[k].toNat : Int) < 97 := by omega
            have g2 : ¬ (122 : Int) < (s[k].toNat : Int) := by omega
            clear hl hl2
            go_wp2_with fail
            exact ⟨⟨k + 1, by simp, by omega, HT.out, by simp⟩, by simp [intOf]; omega⟩
          | false =>
            have HN := hid (ltr_not hlt hl)
            have hl2 := hl
            unfold ltrB at hl2
            simp at hl2
            clear hl
            by_cases g1 : (s[k].toNat : Int) < 97
            · clear hl2
              go_wp2_with fail
              go_ret
              exact ⟨ret_bool (by rw [HN.out]), Gr.refl _⟩
            · have g2 : (122 : Int) < (s[k].toNat : Int) := by omega
              clear hl2
              go_wp2_with fail
              go_ret
              exact ⟨ret_bool (by rw [HN.out]), Gr.refl _⟩
        · have hall : ltrs s = true := by
            have h := HA.out
            rw [List.take_of_length_le (by simp; omega)] at h
            exact h
          have HALL := hid hall
          clear hall
          go_wp2_with fail
          go_ret
          exact ⟨ret_bool (by rw [HALL.out]), Gr.refl _⟩
    · have e : nmB s 12 = false := by unfold nmB; simp [h2]
      rw [e]
      have d1 : ¬ (s.size : Int) < 1 := by omega
      have d2 : (12 : Int) < (s.size : Int) := by omega
      clear e h1 h2
      go_enter Tryd.func140, Tryd.ntmps140
      go_wp2
      go_ret
      exact ⟨rfl, Gr.refl _⟩
  · have e : nmB s 12 = false := by unfold nmB; simp [h1]
    rw [e]
    have d1 : (s.size : Int) < 1 := by omega
    clear e h1
    go_enter Tryd.func140, Tryd.ntmps140
    go_wp2
    go_ret
    exact ⟨rfl, Gr.refl _⟩
abbrev rdr (s : ByteArray) (b u : Int) (o : Bool) : Value := .agg #[.string s, .int .i16 b, .int .i16 u, .bool o]
def rrB (s : ByteArray) (b u : Int) : Bool := nmB s 12 && gsB b u
set_option maxRecDepth 20000 in
set_option maxHeartbeats 400000 in
theorem toReader_any (s : ByteArray) (b u : Int) (o : Bool) (w : World) : Calls Tryd.prog 64 #[rdr s b u o] w fun e w' => e = .returned (rdr s b u o) ∧ Gr w w' := by
  go_enter Tryd.func64, Tryd.ntmps64
  go_wp2
  refine bodyPost_ret (v := rdr s b u o) (by simp [results, Tryd.results64, go_sem, *]) rfl ⟨rfl, ?_⟩
  exact (((Gr.refl _).al _).al _).al _
set_option maxHeartbeats 400000 in
theorem szR_yes (s : ByteArray) (b u : Int) (o : Bool) (w : World) (h : s.size ≤ 1048576) :
    Calls Tryd.prog 61 #[rdr s b u o, .int .i64 1048576] w fun e w' => e = .returned (.int .i64 (1048576 - (s.size : Int))) ∧ Gr w w' := by
  go_enter Tryd.func61, Tryd.ntmps61
  go_wp2
  go_ret
  exact ⟨rfl, (Gr.refl _).al _⟩
set_option maxHeartbeats 400000 in
theorem szR_no (s : ByteArray) (b u : Int) (o : Bool) (w : World) (h : 1048576 < s.size) (h2 : s.size ≤ 9223372036854775807) :
    Calls Tryd.prog 61 #[rdr s b u o, .int .i64 1048576] w fun e w' => e = .returned (.int .i64 (-1)) ∧ Gr w w' := by
  go_enter Tryd.func61, Tryd.ntmps61
  go_wp2
  go_ret
  exact ⟨rfl, (Gr.refl _).al _⟩
set_option maxRecDepth 20000 in
set_option maxHeartbeats 400000 in
theorem iHabit (s : ByteArray) (b u : Int) (o : Bool) (w : World) : Calls Tryd.prog 145 #[rdr s b u o] w fun e w' => e = .returned (gs b u o) ∧ Gr w w' := by
  go_enter Tryd.func145, Tryd.ntmps145
  go_wp2
  refine bodyPost_ret (v := gs b u o) (by simp [results, Tryd.results145, go_sem, *]) rfl ⟨rfl, ?_⟩
  exact ((Gr.refl _).al _).al _
set_option maxRecDepth 20000 in
set_option maxHeartbeats 600000 in
theorem sHabit (s : ByteArray) (b u : Int) (o : Bool) (w : World) (k : Nat) (T : TypeId) (X : Hid (w.heap[k]? = some (.cells #[.string s, .int .i16 b, .int .i16 u, .bool o] T))) :
    Calls Tryd.prog 142 #[.pointer (some ⟨k, 0, none⟩)] w fun e w' => e = .returned (gs b u o) ∧ Gr w w' := by
  go_enter Tryd.func142, Tryd.ntmps142
  obtain ⟨_, _, _, _⟩ := cells4 X.out
  have _ := fz X.out
  have _ := ltb X.out
  go_wp2_with fail
  refine wp_reg0 13 (by kernel_rfl) (by kernel_rfl) ?_
  apply Exists.intro
  refine ⟨fun wb hb => ?_, ?_⟩
  · obtain ⟨y0, _, _⟩ := alloc1 (Gr.refl _)
    obtain ⟨_, _, _⟩ := hb.at3 y0
    clear y0
    obtain ⟨_, _, _, _⟩ := hb.at4 (((Gr.refl _).al _).keep X.out)
    simp only [headOps, List.contains, List.elem, reduceIte, Bool.false_eq_true]
    repeat (first | go_big_quiet_step (first | (fail)) | quiet_step (fail))
    exact wpQuiet_nil rfl
  intro w1 hg1
  obtain ⟨x1_0, hz1, g1⟩ := alloc1 hg1
  have x1_1 := g1.keep X.out
  obtain ⟨_, _, _⟩ := cells3 x1_0
  have _ := fz x1_0
  have _ := ltb x1_0
  obtain ⟨_, _, _, _⟩ := cells4 x1_1
  have _ := fz x1_1
  have _ := ltb x1_1
  have X1_0 := hid x1_0; clear x1_0
  have X1_1 := hid x1_1; clear x1_1
  have G1 := hid (g1)
  clear hg1 g1
  go_wp2
  refine bodyPost_ret (v := gs b u o) (by simp [results, Tryd.results142, go_sem, *]) rfl ⟨rfl, ?_⟩
  exact (((G1.out).setCell (by simp <;> omega) _).setCell (by simp <;> omega) _).setCell (by simp <;> omega) _
theorem iName_is (s : ByteArray) (r : Bool) (w : World) (h : nmB s 12 = r) : Calls Tryd.prog 144 #[.string s, .int .i64 12] w fun e w' => e = .returned (.bool r) ∧ Gr w w' := h ▸ iName s 12 w
theorem sName_is (s : ByteArray) (r : Bool) (w : World) (h : nmB s 12 = r) : Calls Tryd.prog 140 #[.string s] w fun e w' => e = .returned (.bool r) ∧ Gr w w' := h ▸ sName s w
theorem giGuess (b u : Int) (o : Bool) (r : Bool) (w : World) (hb : W16 b) (hu : W16 u) (h : gsB b u = r) :
    Calls Tryd.prog 146 #[gs b u o] w fun e w' => e = .returned (.bool r) ∧ Gr w w' := h ▸ iGuess b u o w hb hu
theorem gsGuess (b u : Int) (o : Bool) (r : Bool) (w : World) (hb : W16 b) (hu : W16 u) (h : gsB b u = r) :
    Calls Tryd.prog 141 #[gs b u o] w fun e w' => e = .returned (.bool r) ∧ Gr w w' := h ▸ sGuess b u o w hb hu
set_option maxRecDepth 20000 in
set_option maxHeartbeats 600000 in
theorem iVReader (s : ByteArray) (b u : Int) (o : Bool) (w : World) (hb : W16 b) (hu : W16 u) :
    Calls Tryd.prog 109 #[rdr s b u o] w fun e w' => e = .returned (.bool (rrB s b u)) ∧ Gr w w' := by
  unfold rrB
  obtain ⟨r, hr⟩ : ∃ r, gsB b u = r := ⟨_, rfl⟩
  rw [hr]
  have HG := hid fun (w : World) => giGuess b u o r w hb hu hr
  clear hr hb hu
  cases h : nmB s 12 with
  | false =>
    have H := hid h; clear h
    go_enter Tryd.func109, Tryd.ntmps109
    go_wp2_with fail
    refine (iName_is s false _ H.out).mono ?_
    rintro e w1 ⟨rfl, hg1⟩
    obtain ⟨x1_0, hz1, g1⟩ := alloc1 hg1
    obtain ⟨_, _, _, _⟩ := cells4 x1_0
    have _ := fz x1_0
    have _ := ltb x1_0
    have X1_0 := hid x1_0; clear x1_0
    have G1 := hid (g1)
    clear hg1 g1
    go_wp2
    go_ret
    exact ⟨ret_bool (by simp), G1.out⟩
  | true =>
    have H := hid h; clear h
    go_enter Tryd.func109, Tryd.ntmps109
    go_wp2_with fail
    refine (iName_is s true _ H.out).mono ?_
    rintro e w1 ⟨rfl, hg1⟩
    obtain ⟨x1_0, hz1, g1⟩ := alloc1 hg1
    obtain ⟨_, _, _, _⟩ := cells4 x1_0
    have _ := fz x1_0
    have _ := ltb x1_0
    have X1_0 := hid x1_0; clear x1_0
    have G1 := hid (g1)
    clear hg1 g1
    go_wp2_with fail
    refine (iHabit s b u o _).mono ?_
    rintro e w2 ⟨rfl, hg2⟩
    have x2_1 := hg2.keep X1_0.out
    obtain ⟨_, _, _, _⟩ := cells4 x2_1
    have _ := fz x2_1
    have _ := ltb x2_1
    have X2_1 := hid x2_1; clear x2_1
    have G2 := hid (G1.out.trans hg2)
    clear hg2
    go_wp2_with fail
    refine (HG.out _).mono ?_
    rintro e w3 ⟨rfl, hg3⟩
    have x3_1 := hg3.keep X2_1.out
    obtain ⟨_, _, _, _⟩ := cells4 x3_1
    have _ := fz x3_1
    have _ := ltb x3_1
    have X3_1 := hid x3_1; clear x3_1
    have G3 := hid (G2.out.trans hg3)
    clear hg3
    go_wp2
    go_ret
    exact ⟨ret_bool (by simp), G3.out⟩
set_option maxRecDepth 20000 in
set_option maxHeartbeats 600000 in
theorem sOkR (s : ByteArray) (b u : Int) (o : Bool) (w : World) (hb : W16 b) (hu : W16 u) (k : Nat) (T : TypeId) (X : Hid (w.heap[k]? = some (.cells #[.string s, .int .i16 b, .int .i16 u, .bool o] T))) :
    Calls Tryd.prog 106 #[.pointer (some ⟨k, 0, none⟩)] w fun e w' => e = .returned (.bool (rrB s b u)) ∧ Gr w w' := by
  unfold rrB
  obtain ⟨r, hr⟩ : ∃ r, gsB b u = r := ⟨_, rfl⟩
  rw [hr]
  have HG := hid fun (w : World) => gsGuess b u o r w hb hu hr
  clear hr hb hu
  cases h : nmB s 12 with
  | false =>
    have H := hid h; clear h
    go_enter Tryd.func106, Tryd.ntmps106
    obtain ⟨_, _, _, _⟩ := cells4 X.out
    have _ := fz X.out
    have _ := ltb X.out
    go_wp2_with fail
    refine (sName_is s false _ H.out).mono ?_
    rintro e w1 ⟨rfl, hg1⟩
    have x1_1 := hg1.keep X.out
    obtain ⟨_, _, _, _⟩ := cells4 x1_1
    have _ := fz x1_1
    have _ := ltb x1_1
    have X1_1 := hid x1_1; clear x1_1
    have G1 := hid (hg1)
    clear hg1
    go_wp2
    go_ret
    exact ⟨ret_bool (by simp), G1.out⟩
  | true =>
    have H := hid h; clear h
    go_enter Tryd.func106, Tryd.ntmps106
    obtain ⟨_, _, _, _⟩ := cells4 X.out
    have _ := fz X.out
    have _ := ltb X.out
    go_wp2_with fail
    refine (sName_is s true _ H.out).mono ?_
    rintro e w1 ⟨rfl, hg1⟩
    have x1_1 := hg1.keep X.out
    obtain ⟨_, _, _, _⟩ := cells4 x1_1
    have _ := fz x1_1
    have _ := ltb x1_1
    have X1_1 := hid x1_1; clear x1_1
    have G1 := hid (hg1)
    clear hg1
    go_wp2_with fail
    refine (sHabit s b u o _ k T (hid X1_1.out)).mono ?_
    rintro e w2 ⟨rfl, hg2⟩
    have x2_1 := hg2.keep X1_1.out
    obtain ⟨_, _, _, _⟩ := cells4 x2_1
    have _ := fz x2_1
    have _ := ltb x2_1
    have X2_1 := hid x2_1; clear x2_1
    have G2 := hid (G1.out.trans hg2)
    clear hg2
    go_wp2_with fail
    refine (HG.out _).mono ?_
    rintro e w3 ⟨rfl, hg3⟩
    have x3_1 := hg3.keep X2_1.out
    obtain ⟨_, _, _, _⟩ := cells4 x3_1
    have _ := fz x3_1
    have _ := ltb x3_1
    have X3_1 := hid x3_1; clear x3_1
    have G3 := hid (G2.out.trans hg3)
    clear hg3
    go_wp2
    go_ret
    exact ⟨ret_bool (by simp), G3.out⟩
end Go.Proofs.YtpadjkgbeijkpaaDoor
