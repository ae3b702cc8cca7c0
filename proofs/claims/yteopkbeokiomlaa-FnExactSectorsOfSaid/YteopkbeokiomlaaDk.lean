/- WALKS: disks: how they come from the laws' values; compared; looked at, of the program and of the reference. -/
import Derived.Test.YteopkbeokiomlaaHs
import Derived.Test.YteopkbeokiomlaaIx
import Derived.Test.YteopkbeokiomlaaB1
namespace Go.Proofs.Yteopkbeokiomlaa
open Go.RowKit Go.Sort

abbrev dk (A : Option Addr) (n c : Nat) (e no : Int) : Value := .agg #[.slice A n c, .int .i64 e, .int .i64 no]
/-- What an int16 can be. -/
def okH (x : Int) : Bool := decide (-32768 ≤ x) && decide (x ≤ 32767)
set_option maxRecDepth 20000 in
set_option maxHeartbeats 400000 in
theorem szH (A : Option Addr) (n c : Nat) (w : World) (h : n ≤ 9223372036854775807) :
    Calls Try.prog 83 #[.slice A n c, .int .i64 1048576] w fun e w' => e = .returned (.int .i64 (if n ≤ 1048576 then 1048576 - (n : Int) else -1)) ∧ Gr w w' := by
  by_cases h1 : n ≤ 1048576
  · rw [if_pos h1]
    go_enter Try.func83, Try.ntmps83
    go_wp2
    go_ret
    exact ⟨rfl, Gr.refl _⟩
  · rw [if_neg h1]
    go_enter Try.func83, Try.ntmps83
    go_wp2
    go_ret
    exact ⟨rfl, Gr.refl _⟩
set_option maxRecDepth 20000 in
set_option maxHeartbeats 400000 in
theorem szDk_yes (A : Option Addr) (n c : Nat) (e no : Int) (w : World) (h : n ≤ 1048576) :
    Calls Try.prog 31 #[dk A n c e no, .int .i64 1048576] w fun x w' => x = .returned (.int .i64 (1048576 - (n : Int))) ∧ Gr w w' := by
  have hs : ∀ w, Calls Try.prog 83 #[.slice A n c, .int .i64 1048576] w fun e w' => e = .returned (.int .i64 (1048576 - (n : Int))) ∧ Gr w w' := fun w => by
    have := szH A n c w (by omega)
    rwa [if_pos h] at this
  have HS := hid hs; clear hs
  go_enter Try.func31, Try.ntmps31
  go_wp2_with fail
  refine (HS.out _).mono ?_
  rintro e w1 ⟨rfl, hg1⟩
  obtain ⟨x1_0, hz1, g1⟩ := alloc1 hg1
  obtain ⟨_, _, _⟩ := cells3 x1_0
  have _ := fz x1_0
  have _ := ltb x1_0
  have X1_0 := hid x1_0; clear x1_0
  have G1 := hid (g1)
  clear hg1 g1
  go_wp2
  go_ret
  exact ⟨rfl, G1.out⟩
set_option maxRecDepth 20000 in
set_option maxHeartbeats 400000 in
theorem szDk_no (A : Option Addr) (n c : Nat) (e no : Int) (w : World) (h : 1048576 < n) (h2 : n ≤ 9223372036854775807) :
    Calls Try.prog 31 #[dk A n c e no, .int .i64 1048576] w fun x w' => x = .returned (.int .i64 (-1)) ∧ Gr w w' := by
  have hs : ∀ w, Calls Try.prog 83 #[.slice A n c, .int .i64 1048576] w fun e w' => e = .returned (.int .i64 (-1)) ∧ Gr w w' := fun w => by
    have := szH A n c w (by omega)
    rwa [if_neg (by omega)] at this
  have HS := hid hs; clear hs
  go_enter Try.func31, Try.ntmps31
  go_wp2_with fail
  refine (HS.out _).mono ?_
  rintro e w1 ⟨rfl, hg1⟩
  obtain ⟨x1_0, hz1, g1⟩ := alloc1 hg1
  obtain ⟨_, _, _⟩ := cells3 x1_0
  have _ := fz x1_0
  have _ := ltb x1_0
  have X1_0 := hid x1_0; clear x1_0
  have G1 := hid (g1)
  clear hg1 g1
  go_wp2
  go_ret
  exact ⟨rfl, G1.out⟩
theorem keepSet {w : World} {g : Nat} {o : Obj} {a : Addr} {v : Value} (h : w.heap[g]? = some o) (hne : g ≠ a.block) : (w.setCell a v).heap[g]? = some o := by
  rw [Below.heap_setCell _ _ _ _ hne, h]
set_option maxRecDepth 20000 in
set_option maxHeartbeats 1000000 in
theorem toDk_any (A : Option Addr) (cap : Nat) (xs : List Int) (e no : Int) (w : World) (hn : xs.length ≤ 1048576) (h : RawH w (.slice A xs.length cap) xs) :
    Calls Try.prog 33 #[dk A xs.length cap e no] w fun x w' => ∃ g, x = .returned (dk (some ⟨g, 0, none⟩) xs.length xs.length e no) ∧ w'.heap[g]? = some (.cells (h16A xs) 176) ∧ w.heap.size ≤ g ∧ Gr w w' := by
  have HR := hid h; clear h
  go_enter Try.func33, Try.ntmps33
  go_wp2_with fail
  refine (toInt16S_any _ xs _ hn (HR.out.keep ((((Gr.refl w).al _).al _).al _))).mono ?_
  rintro x w1 ⟨rfl, x1, hg1⟩
  obtain ⟨y0, y1, y2, hz, G1⟩ := alloc3 hg1
  have X1 := hid x1
  have Z1 := hid (ltb x1)
  obtain ⟨_, _, _⟩ := cells3 y0
  obtain ⟨_, _, _⟩ := cells3 y1
  obtain ⟨_, _, _⟩ := cells3 y2
  have _ := fz y1
  have _ := fz y2
  have G1 := hid G1
  clear x1 hg1 y0 y1 y2
  go_wp2
  refine bodyPost_ret (v := dk (some ⟨(((w.alloc (.cells #[.slice A xs.length cap, .int .i64 e, .int .i64 no] 54)).alloc (.cells #[.slice none 0 0, .int .i64 0, .int .i64 0] 59)).alloc (.cells #[.slice none 0 0, .int .i64 0, .int .i64 0] 59)).heap.size, 0, none⟩) xs.length xs.length e no) (by simp [results, Try.results33, go_sem, *]) rfl ⟨_, rfl, ?_, ?_, ?_⟩
  · repeat (refine keepSet ?_ (by simp <;> omega))
    exact X1.out
  · simp
    omega
  · exact ((((((G1.out).setCell (by simp <;> omega) _).setCell (by simp <;> omega) _).setCell (by simp <;> omega) _).setCell (by simp <;> omega) _).setCell (by simp <;> omega) _).setCell (by simp <;> omega) _

set_option maxRecDepth 20000 in
set_option maxHeartbeats 400000 in
theorem eqDk_any (A A' : Option Addr) (c c' : Nat) (xs : List Int) (e no : Int) (w : World) (X1 : Hid (RdH w A xs)) (X2 : Hid (RdH w A' xs)) (hn : xs.length ≤ 1048576) :
    Calls Try.prog 36 #[dk A xs.length c e no, dk A' xs.length c' e no] w fun x w' => x = .returned (.bool true) ∧ Gr w w' := by
  go_enter Try.func36, Try.ntmps36
  go_wp2_with fail
  refine (eqInt16S_any _ _ _ _ xs _ (hid (X1.out.keep (((Gr.refl w).al _).al _))) (hid (X2.out.keep (((Gr.refl w).al _).al _))) hn).mono ?_
  rintro e w1 ⟨rfl, hg1⟩
  obtain ⟨x1_0, x1_1, hz1, g1⟩ := alloc2 hg1
  obtain ⟨_, _, _⟩ := cells3 x1_0
  have _ := fz x1_0
  have _ := ltb x1_0
  obtain ⟨_, _, _⟩ := cells3 x1_1
  have _ := fz x1_1
  have _ := ltb x1_1
  have X1_0 := hid x1_0; clear x1_0
  have X1_1 := hid x1_1; clear x1_1
  have G1 := hid (g1)
  clear hg1 g1
  go_wp2
  go_ret
  exact ⟨rfl, G1.out⟩

def okF (x : Int) : Bool := inB x (-600) 600
def dkB (xs : List Int) (e no : Int) : Bool := (divB (xs.length : Int) && (inB e (-600) 600 && inB no (-600) 600)) && xs.all okF
theorem gt_okF (x : Int) : gtB x 600 = !okF x := by
  unfold gtB okF inB
  by_cases h1 : x < -600
  · simp [h1]; try omega
  · by_cases h2 : 600 < x
    · simp [h2]
    · simp [h1, h2]; omega
theorem okH_bd {x : Int} (h : okH x = true) : -32768 ≤ x ∧ x ≤ 32767 := by unfold okH at h; simpa using h
set_option maxRecDepth 20000 in
set_option maxHeartbeats 400000 in
theorem iBadF (x : Int) (w : World) (h1 : -32768 ≤ x) (h2 : x ≤ 32767) : Calls Try.prog 214 #[.int .i16 x] w fun e w' => e = .returned (.bool (!okF x)) ∧ w = w' := by
  go_enter Try.func214, Try.ntmps214
  go_wp2_with (go_at_call 169; refine (gt_any _ _ _ (by omega) (by omega)).mono ?_; rintro e w1 ⟨rfl, rfl⟩; rw [gt_okF])
  go_ret
  exact ⟨rfl, rfl⟩
set_option maxRecDepth 20000 in
set_option maxHeartbeats 1000000 in
theorem iIndexF (A : Option Addr) (c : Nat) (xs : List Int) (w : World) (X : Hid (RdH w A xs)) (hn : xs.length ≤ 1048576) (hh : xs.all okH = true) :
    Calls Try.prog 228 #[.slice A xs.length c, .func (.func 214) #[] #[]] w fun e w' => (∃ r : Int, e = .returned (.int .i64 r) ∧ decide (0 ≤ r) = !xs.all okF) ∧ w = w' := by
  have hen : ∀ s w, (callFunc 214 #[.int .i16 s]).run Try.prog w = .ok (.enter 214 #[.int .i16 s]) w := fun s w => by kernel_rfl
  have HH := hid hh; clear hh
  go_enter Try.func228, Try.ntmps228
  go_wp2_with fail
  go_loopw [8] (fun u wr => ∃ (k : Nat), u = .int .i64 (k : Int) ∧ k ≤ xs.length ∧ (xs.take k).all okF = true ∧ wr = w) (fun u _ => xs.length - (intOf u).toNat)
  case atStart => exact ⟨0, rfl, by omega, by simp, by simp⟩
  case round =>
    obtain ⟨k, rfl, hk, ha, rfl⟩ := hrel
    have HA := hid ha; clear ha
    by_cases hlt : k < xs.length
    · obtain ⟨p, hp⟩ : ∃ p, xs[k]? = some p := ⟨xs[k], List.getElem?_eq_getElem _⟩
      obtain ⟨ad, rfl, c1⟩ := X.out k p hp
      obtain ⟨_, _⟩ := okH_bd (allI_get hp HH.out)
      have HP := hid hp; clear hp
      cases hx : okF p with
      | true =>
        have HX := hid hx
        go_wp2_with (go_at_call 214; refine (iBadF _ _ (by omega) (by omega)).mono ?_; rintro e w1 ⟨rfl, rfl⟩; rw [HX.out])
        exact ⟨⟨k + 1, by simp, by omega, allI_take HP.out HA.out HX.out, by simp⟩, by simp [intOf]; omega⟩
      | false =>
        have HX := hid hx
        go_wp2_with (go_at_call 214; refine (iBadF _ _ (by omega) (by omega)).mono ?_; rintro e w1 ⟨rfl, rfl⟩; rw [HX.out])
        go_ret
        exact ⟨⟨_, rfl, by rw [allI_not HP.out HX.out]; simp⟩, rfl⟩
    · have hke : k = xs.length := by omega
      have hall : xs.all okF = true := by have := HA.out; rwa [hke, List.take_length] at this
      have HALL := hid hall; clear hall hke
      go_wp2_with fail
      go_ret
      exact ⟨⟨_, rfl, by rw [HALL.out]; simp⟩, by simp⟩
set_option maxRecDepth 20000 in
set_option maxHeartbeats 1000000 in
theorem iContF (A : Option Addr) (c : Nat) (xs : List Int) (w : World) (X : Hid (RdH w A xs)) (hn : xs.length ≤ 1048576) (hh : xs.all okH = true) :
    Calls Try.prog 213 #[.slice A xs.length c, .func (.func 214) #[] #[]] w fun e w' => e = .returned (.bool (!xs.all okF)) ∧ w = w' := by
  go_enter Try.func213, Try.ntmps213
  go_wp2_with fail
  refine (iIndexF A c xs w X hn hh).mono ?_
  rintro e w1 ⟨⟨r, rfl, hr⟩, rfl⟩
  have HR := hid hr; clear hr
  go_wp2_with fail
  go_ret
  exact ⟨ret_bool (by rw [← HR.out]), rfl⟩
theorem gt_inB (x : Int) : gtB x 600 = !inB x (-600) 600 := gt_okF x
set_option maxRecDepth 20000 in
set_option maxHeartbeats 1000000 in
theorem iDkOk (A : Option Addr) (c : Nat) (xs : List Int) (e no : Int) (w : World) (X : Hid (RdH w A xs)) (hn : xs.length ≤ 1048576) (hh : xs.all okH = true) :
    Calls Try.prog 191 #[dk A xs.length c e no] w fun x w' => x = .returned (.bool (dkB xs e no)) ∧ Gr w w' := by
  have HC := hid fun w' (hg : Gr w w') => iContF A c xs w' (hid (X.out.keep hg)) hn hh
  unfold dkB
  clear hh
  cases h1 : divB (xs.length : Int) with
  | false =>
    go_enter Try.func191, Try.ntmps191
    go_wp2_with (go_at_call 90; refine (idiv _ _).mono ?_; rintro x w1 ⟨rfl, rfl⟩; rw [h1])
    go_ret
    exact ⟨rfl, Gr.alloc _ _⟩
  | true =>
    cases h2 : inB e (-600) 600 with
    | false =>
      go_enter Try.func191, Try.ntmps191
      go_wp2_with (first | (go_at_call 90; refine (idiv _ _).mono ?_; rintro x w1 ⟨rfl, rfl⟩; rw [h1]) | (go_at_call 169; refine (gt_any _ _ _ (by omega) (by omega)).mono ?_; rintro x w1 ⟨rfl, rfl⟩; rw [gt_inB, h2]))
      go_ret
      exact ⟨rfl, Gr.alloc _ _⟩
    | true =>
      cases h3 : inB no (-600) 600 with
      | false =>
        go_enter Try.func191, Try.ntmps191
        go_wp2_with (first | (go_at_call 90; refine (idiv _ _).mono ?_; rintro x w1 ⟨rfl, rfl⟩; rw [h1]) | (go_at_call 169; refine (gt_any _ _ _ (by omega) (by omega)).mono ?_; rintro x w1 ⟨rfl, rfl⟩; rw [gt_inB]; first | rw [h2] | rw [h3]))
        go_ret
        exact ⟨rfl, Gr.alloc _ _⟩
      | true =>
        go_enter Try.func191, Try.ntmps191
        go_wp2_with (first | (go_at_call 90; refine (idiv _ _).mono ?_; rintro x w1 ⟨rfl, rfl⟩; rw [h1]) | (go_at_call 169; refine (gt_any _ _ _ (by omega) (by omega)).mono ?_; rintro x w1 ⟨rfl, rfl⟩; rw [gt_inB]; first | rw [h2] | rw [h3]) | (go_at_call 213; refine (HC.out _ ((Gr.refl w).al _)).mono ?_; rintro x w1 ⟨rfl, rfl⟩))
        go_ret
        exact ⟨ret_bool (by simp), Gr.alloc _ _⟩
set_option maxRecDepth 20000 in
set_option maxHeartbeats 1000000 in
/-- spec.l03Ok -/
theorem sDkOk (b : Nat) (T : TypeId) (A : Option Addr) (c : Nat) (xs : List Int) (e no : Int) (w : World) (XB : Hid (w.heap[b]? = some (.cells #[.slice A xs.length c, .int .i64 e, .int .i64 no] T))) (X : Hid (RdH w A xs)) (hn : xs.length ≤ 1048576) (hh : xs.all okH = true) :
    Calls Try.prog 84 #[.pointer (some ⟨b, 0, none⟩)] w fun x w' => x = .returned (.bool (dkB xs e no)) ∧ w = w' := by
  have HH := hid hh
  clear hh
  obtain ⟨_, _, _⟩ := cells3 XB.out
  by_cases hl : 1 ≤ xs.length ∧ xs.length ≤ 72
  · obtain ⟨h1, h2⟩ := hl
    have hin : inB (xs.length : Int) 1 72 = true := by unfold inB; simp; omega
    have hz : ((xs.length : Nat) : Int) ≠ 0 := by omega
    cases hd : ((1296000 : Int) % (xs.length : Int) == 0) with
    | false =>
      have hd2 : ((1296000 : Int) % (xs.length : Int) != 0) = true := by simpa using hd
      have hv : dkB xs e no = false := by unfold dkB divB; rw [hd]; simp
      rw [hv]
      clear hv hd
      go_enter Try.func84, Try.ntmps84
      go_wp2_with (go_at_call 69; refine (in_any _ _ _ _).mono ?_; rintro x w1 ⟨rfl, rfl⟩; rw [hin])
      go_ret
      exact ⟨rfl, rfl⟩
    | true =>
      have hd2 : ((1296000 : Int) % (xs.length : Int) != 0) = false := by simpa using hd
      have hdv : divB (xs.length : Int) = true := by unfold divB; rw [hd]; simp; omega
      obtain ⟨r, hr⟩ : ∃ r, dkB xs e no = r := ⟨_, rfl⟩
      rw [hr]
      unfold dkB at hr
      rw [hdv] at hr
      have HR := hid hr
      clear hr hd
      go_enter Try.func84, Try.ntmps84
      go_wp2_with (go_at_call 69; refine (in_any _ _ _ _).mono ?_; rintro x w1 ⟨rfl, rfl⟩; rw [hin])
      go_loopw [4] (fun u wr => ∃ (k : Nat), u = .int .i64 (k : Int) ∧ k ≤ xs.length ∧ (xs.take k).all okF = true ∧ wr = w) (fun u _ => xs.length - (intOf u).toNat)
      case atStart => exact ⟨0, rfl, by omega, by simp, by simp⟩
      case round =>
        obtain ⟨k, rfl, hk, ha, rfl⟩ := hrel
        have HA := hid ha; clear ha
        by_cases hlt : k < xs.length
        · obtain ⟨p, hp⟩ : ∃ p, xs[k]? = some p := ⟨xs[k], List.getElem?_eq_getElem _⟩
          obtain ⟨ad, rfl, c1⟩ := X.out k p hp
          obtain ⟨_, _⟩ := okH_bd (allI_get hp HH.out)
          have HP := hid hp; clear hp
          cases hx : inB p (-600) 600 with
          | true =>
            have HX := hid hx
            go_wp2_with (go_at_call 69; refine (in_any _ _ _ _).mono ?_; rintro x w1 ⟨rfl, rfl⟩; rw [HX.out])
            exact ⟨⟨k + 1, by simp, by omega, allI_take HP.out HA.out HX.out, by simp⟩, by simp [intOf]; omega⟩
          | false =>
            have HX := hid hx
            go_wp2_with (go_at_call 69; refine (in_any _ _ _ _).mono ?_; rintro x w1 ⟨rfl, rfl⟩; rw [HX.out])
            go_ret
            exact ⟨ret_bool (by rw [← HR.out, allI_not HP.out HX.out]; simp), rfl⟩
        · have hke : k = xs.length := by omega
          have hall : xs.all okF = true := by have := HA.out; rwa [hke, List.take_length] at this
          have hr := HR.out
          rw [hall] at hr
          have HR2 := hid hr
          clear hall hke hr
          cases h2 : inB e (-600) 600 with
          | false =>
            go_wp2_with (go_at_call 69; refine (in_any _ _ _ _).mono ?_; rintro x w1 ⟨rfl, rfl⟩; rw [h2])
            go_ret
            exact ⟨ret_bool (by rw [← HR2.out, h2]; simp), by simp⟩
          | true =>
            go_wp2_with (go_at_call 69; refine (in_any _ _ _ _).mono ?_; rintro x w1 ⟨rfl, rfl⟩; first | rw [h2] | skip)
            go_ret
            exact ⟨ret_bool (by rw [← HR2.out, h2]; simp), by simp⟩
  · have hin : inB (xs.length : Int) 1 72 = false := by unfold inB; simp; omega
    have hv : dkB xs e no = false := by
      unfold dkB divB
      have : (decide ((1 : Int) ≤ (xs.length : Int)) && decide ((xs.length : Int) ≤ 72)) = false := by simp; omega
      rw [this]; simp
    rw [hv]
    clear hv
    go_enter Try.func84, Try.ntmps84
    go_wp2_with (go_at_call 69; refine (in_any _ _ _ _).mono ?_; rintro x w1 ⟨rfl, rfl⟩; rw [hin])
    go_ret
    exact ⟨rfl, rfl⟩
end Go.Proofs.Yteopkbeokiomlaa
