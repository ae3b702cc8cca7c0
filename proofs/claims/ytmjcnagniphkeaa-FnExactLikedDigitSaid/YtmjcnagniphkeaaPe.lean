/- WALKS: ten digits; LastDigits, of the program and of the reference. -/
import Derived.Test.YtmjcnagniphkeaaPb
import Derived.Test.YtmjcnagniphkeaaA
import Derived.Deep.CutRange
namespace Go.Proofs.Ytmjcnagniphkeaa
open Go.RowKit Go.Sort

abbrev dv (d0 d1 d2 d3 d4 d5 d6 d7 d8 d9 : Int) : Value := .agg #[.int .i64 d0, .int .i64 d1, .int .i64 d2, .int .i64 d3, .int .i64 d4, .int .i64 d5, .int .i64 d6, .int .i64 d7, .int .i64 d8, .int .i64 d9]
theorem cells10 {w : World} {b : Nat} {x0 x1 x2 x3 x4 x5 x6 x7 x8 x9 : Value} {T : TypeId} (h : w.heap[b]? = some (.cells #[x0, x1, x2, x3, x4, x5, x6, x7, x8, x9] T)) : w.cell? ⟨b, 0, none⟩ = some x0 ∧ w.cell? ⟨b, 1, none⟩ = some x1 ∧ w.cell? ⟨b, 2, none⟩ = some x2 ∧ w.cell? ⟨b, 3, none⟩ = some x3 ∧ w.cell? ⟨b, 4, none⟩ = some x4 ∧ w.cell? ⟨b, 5, none⟩ = some x5 ∧ w.cell? ⟨b, 6, none⟩ = some x6 ∧ w.cell? ⟨b, 7, none⟩ = some x7 ∧ w.cell? ⟨b, 8, none⟩ = some x8 ∧ w.cell? ⟨b, 9, none⟩ = some x9 := by
  simp [World.cell?, h]
theorem list10 {α : Type} {cs : List α} (h : cs.length = 10) : ∃ x0 x1 x2 x3 x4 x5 x6 x7 x8 x9, cs = [x0, x1, x2, x3, x4, x5, x6, x7, x8, x9] := by
  match cs, h with
  | [x0, x1, x2, x3, x4, x5, x6, x7, x8, x9], _ => exact ⟨x0, x1, x2, x3, x4, x5, x6, x7, x8, x9, rfl⟩
set_option maxHeartbeats 400000 in
theorem catch_idle_D (p : Addr) (w : World) :
    CallsD Try.prog 206 #[.pointer (some p)] .returning w fun e u' w' => e = .returned (.tuple #[]) ∧ u' = .returning ∧ w' = w := by
  have h1 : ∀ w, (Instr.typeAssert .nilIface 20 192 true).run Try.prog w = .ok (.tuple #[.nilIface, .bool false]) w := fun _ => by kernel_rfl
  refine callsD_of_wpS Try.func206 rfl fun c₀ cs hu => ?_
  apply wpS_seq
  apply wpS_region
  simp [wpOpsS, go_sem, recoverD, hu, Try.ntmps206, Exit.thenS, ↓h1]
  apply wpS_of_wp
  go_wp2
  cases c₀
  simp_all [bodyPostS, results, Try.results206]
set_option maxRecDepth 20000 in
set_option maxHeartbeats 800000 in
theorem told_ok_D (f : Nat) (cap : Array Value) (d0 d1 d2 d3 d4 d5 d6 d7 d8 d9 : Int) (w : World) (hen : ∀ w, (callFunc f cap).run Try.prog w = .ok (.enter f cap) w) (hF : ∀ w', Gr w w' → Calls Try.prog f cap w' fun e w'' => e = .returned (dv d0 d1 d2 d3 d4 d5 d6 d7 d8 d9) ∧ Gr w' w'') :
    Calls Try.prog 172 #[.func (.func f) #[] cap] w fun e w' => e = .returned (.tuple #[dv d0 d1 d2 d3 d4 d5 d6 d7 d8 d9, .int .i64 0]) ∧ Gr w w' := by
  have HF := hid hF; clear hF
  go_enter_defers Try.func172, Try.ntmps172
  go_wp2_with fail
  refine (HF.out _ ((Gr.alloc _ _).trans (Gr.alloc _ _))).mono ?_
  rintro e w1 ⟨rfl, hg⟩
  obtain ⟨x0, x1, hz, G1⟩ := alloc2 hg
  obtain ⟨_, _, _, _, _, _, _, _, _, _⟩ := cells10 x0
  have _ := cells1 x1
  have _ := fz x0
  have _ := fz x1
  have G1 := hid G1
  clear hg x0 x1
  go_wp2_with fail
  refine leaves_cons (f := 206) (args := #[.pointer (some ⟨w.heap.size + 1, 0, none⟩)]) (by simp) (by simp [go_sem]) ?_
  refine (catch_idle_D _ _).mono ?_
  rintro e u' w2 ⟨rfl, rfl, rfl⟩
  simp [Leaves, settle, results, Try.results172, go_sem, *]
  exact (((((((((((G1.out.setCell (by simp) _).setCell (by simp) _).setCell (by simp) _).setCell (by simp) _).setCell (by simp) _).setCell (by simp) _).setCell (by simp) _).setCell (by simp) _).setCell (by simp) _).setCell (by simp) _).setCell (by simp) _)
set_option maxRecDepth 20000 in
set_option maxHeartbeats 400000 in
theorem cR_D (F : Nat) (A : Option Addr) (n c : Nat) (d0 d1 d2 d3 d4 d5 d6 d7 d8 d9 : Int) (w : World) (k1 k2 : Nat) (T1 T2 : TypeId) (X1 : Hid (w.heap[k1]? = some (.cells #[.func (.func F) #[] #[]] T1))) (X2 : Hid (w.heap[k2]? = some (.cells #[.slice A n c] T2)))
    (hen : ∀ w, (callFunc F #[.slice A n c]).run Try.prog w = .ok (.enter F #[.slice A n c]) w) (hf : ∀ w', Gr w w' → Calls Try.prog F #[.slice A n c] w' fun e w'' => e = .returned (dv d0 d1 d2 d3 d4 d5 d6 d7 d8 d9) ∧ Gr w' w'') :
    Calls Try.prog 173 #[.pointer (some ⟨k1, 0, none⟩), .pointer (some ⟨k2, 0, none⟩)] w fun e w' => e = .returned (dv d0 d1 d2 d3 d4 d5 d6 d7 d8 d9) ∧ Gr w w' := by
  have HF := hid hf; clear hf
  go_enter Try.func173, Try.ntmps173
  have _ := cells1 X1.out
  have _ := fz X1.out
  have _ := ltb X1.out
  have _ := cells1 X2.out
  have _ := fz X2.out
  have _ := ltb X2.out
  go_wp2_with fail
  refine (HF.out _ ((Gr.refl _).al _)).mono ?_
  rintro e w1 ⟨rfl, hg1⟩
  obtain ⟨x1_0, hz1, g1⟩ := alloc1 hg1
  have x1_1 := g1.keep X1.out
  have x1_2 := g1.keep X2.out
  obtain ⟨_, _, _, _, _, _, _, _, _, _⟩ := cells10 x1_0
  have _ := fz x1_0
  have _ := ltb x1_0
  have _ := cells1 x1_1
  have _ := fz x1_1
  have _ := ltb x1_1
  have _ := cells1 x1_2
  have _ := fz x1_2
  have _ := ltb x1_2
  have X1_0 := hid x1_0; clear x1_0
  have X1_1 := hid x1_1; clear x1_1
  have X1_2 := hid x1_2; clear x1_2
  have G1 := hid (g1)
  clear hg1 g1
  go_wp2
  refine bodyPost_ret (v := dv d0 d1 d2 d3 d4 d5 d6 d7 d8 d9) (by simp [results, Try.results173, go_sem, *]) rfl ⟨rfl, ?_⟩
  exact ((((((((((G1.out).setCell (by simp <;> omega) _).setCell (by simp <;> omega) _).setCell (by simp <;> omega) _).setCell (by simp <;> omega) _).setCell (by simp <;> omega) _).setCell (by simp <;> omega) _).setCell (by simp <;> omega) _).setCell (by simp <;> omega) _).setCell (by simp <;> omega) _).setCell (by simp <;> omega) _
set_option maxRecDepth 20000 in
set_option maxHeartbeats 400000 in
theorem ofR_D_yes (F : Nat) (A : Option Addr) (c : Nat) (xs : List Int) (d0 d1 d2 d3 d4 d5 d6 d7 d8 d9 : Int) (w : World) (X : Hid (RdI w A xs)) (h : rdB xs = true)
    (hen : ∀ w, (callFunc F #[.slice A xs.length c]).run Try.prog w = .ok (.enter F #[.slice A xs.length c]) w) (hf : ∀ w', Gr w w' → Calls Try.prog F #[.slice A xs.length c] w' fun e w'' => e = .returned (dv d0 d1 d2 d3 d4 d5 d6 d7 d8 d9) ∧ Gr w' w'') :
    Calls Try.prog 109 #[.slice A xs.length c, .func (.func F) #[] #[]] w fun e w' => e = .returned (.tuple #[dv d0 d1 d2 d3 d4 d5 d6 d7 d8 d9, .int .i64 0]) ∧ Gr w w' := by
  have H := hid h; clear h
  have HT := hid fun (w1 : World) (hg1 : Gr w w1) (k1 k2 : Nat) (T1 T2 : TypeId) (X1 : Hid (w1.heap[k1]? = some (.cells #[.func (.func F) #[] #[]] T1))) (X2 : Hid (w1.heap[k2]? = some (.cells #[.slice A xs.length c] T2))) =>
    told_ok_D 173 #[.pointer (some ⟨k1, 0, none⟩), .pointer (some ⟨k2, 0, none⟩)] d0 d1 d2 d3 d4 d5 d6 d7 d8 d9 w1 (fun _ => by kernel_rfl) fun w2 hg2 => cR_D F A xs.length c d0 d1 d2 d3 d4 d5 d6 d7 d8 d9 w2 k1 k2 T1 T2 (hid (hg2.keep X1.out)) (hid (hg2.keep X2.out)) hen fun w3 hg3 => hf w3 ((hg1.trans hg2).trans hg3)
  clear hen hf
  go_enter Try.func109, Try.ntmps109
  go_wp2_with fail
  refine (iRd_t A c xs _ (hid (X.out.keep ((((Gr.refl w).al _).al _).al _))) H.out).mono ?_
  rintro e w1 ⟨rfl, hg1⟩
  obtain ⟨x1_0, x1_1, x1_2, hz1, g1⟩ := alloc3 hg1
  have _ := cells1 x1_0
  have _ := fz x1_0
  have _ := ltb x1_0
  have _ := cells1 x1_1
  have _ := fz x1_1
  have _ := ltb x1_1
  obtain ⟨_, _, _, _, _, _, _, _, _, _⟩ := cells10 x1_2
  have _ := fz x1_2
  have _ := ltb x1_2
  have X1_0 := hid x1_0; clear x1_0
  have X1_1 := hid x1_1; clear x1_1
  have X1_2 := hid x1_2; clear x1_2
  have G1 := hid (g1)
  clear hg1 g1
  go_wp2_with fail
  refine (HT.out _ G1.out _ _ _ _ (hid X1_1.out) (hid X1_0.out)).mono ?_
  rintro e w2 ⟨rfl, hg2⟩
  have x2_1 := hg2.keep X1_0.out
  have x2_2 := hg2.keep X1_1.out
  have x2_3 := hg2.keep X1_2.out
  have _ := cells1 x2_1
  have _ := fz x2_1
  have _ := ltb x2_1
  have _ := cells1 x2_2
  have _ := fz x2_2
  have _ := ltb x2_2
  obtain ⟨_, _, _, _, _, _, _, _, _, _⟩ := cells10 x2_3
  have _ := fz x2_3
  have _ := ltb x2_3
  have X2_1 := hid x2_1; clear x2_1
  have X2_2 := hid x2_2; clear x2_2
  have X2_3 := hid x2_3; clear x2_3
  have G2 := hid (G1.out.trans hg2)
  clear hg2
  go_wp2
  refine bodyPost_ret (v := .tuple #[dv d0 d1 d2 d3 d4 d5 d6 d7 d8 d9, .int .i64 0]) (by simp [results, Try.results109, go_sem, *]) rfl ⟨rfl, ?_⟩
  exact ((((((((((G2.out).setCell (by simp <;> omega) _).setCell (by simp <;> omega) _).setCell (by simp <;> omega) _).setCell (by simp <;> omega) _).setCell (by simp <;> omega) _).setCell (by simp <;> omega) _).setCell (by simp <;> omega) _).setCell (by simp <;> omega) _).setCell (by simp <;> omega) _).setCell (by simp <;> omega) _
set_option maxRecDepth 20000 in
set_option maxHeartbeats 1000000 in
theorem ofR_D_no (F : Nat) (A : Option Addr) (c : Nat) (xs : List Int) (w : World) (X : Hid (RdI w A xs)) (h : rdB xs = false) :
    Calls Try.prog 109 #[.slice A xs.length c, .func (.func F) #[] #[]] w fun e w' => e = .returned (.tuple #[dv 0 0 0 0 0 0 0 0 0 0, .int .i64 2]) ∧ Gr w w' := by
  have H := hid h; clear h
  go_enter Try.func109, Try.ntmps109
  go_wp2_with fail
  refine (iRd_f A c xs _ (hid (X.out.keep ((((Gr.refl w).al _).al _).al _))) H.out).mono ?_
  rintro e w1 ⟨rfl, hg1⟩
  obtain ⟨x1_0, x1_1, x1_2, hz1, g1⟩ := alloc3 hg1
  have _ := cells1 x1_0
  have _ := fz x1_0
  have _ := ltb x1_0
  have _ := cells1 x1_1
  have _ := fz x1_1
  have _ := ltb x1_1
  obtain ⟨_, _, _, _, _, _, _, _, _, _⟩ := cells10 x1_2
  have _ := fz x1_2
  have _ := ltb x1_2
  have X1_0 := hid x1_0; clear x1_0
  have X1_1 := hid x1_1; clear x1_1
  have X1_2 := hid x1_2; clear x1_2
  have G1 := hid (g1)
  clear hg1 g1
  go_upto_region 3 with fail
  have z := (alloc1 (Gr.refl (w1.alloc (.cells #[.int .i64 0, .int .i64 0, .int .i64 0, .int .i64 0, .int .i64 0, .int .i64 0, .int .i64 0, .int .i64 0, .int .i64 0, .int .i64 0] 81)))).1
  have y := ((Gr.refl w1).al (.cells #[.int .i64 0, .int .i64 0, .int .i64 0, .int .i64 0, .int .i64 0, .int .i64 0, .int .i64 0, .int .i64 0, .int .i64 0, .int .i64 0] 81)).keep X1_2.out
  have gw := G1.out.al (.cells #[.int .i64 0, .int .i64 0, .int .i64 0, .int .i64 0, .int .i64 0, .int .i64 0, .int .i64 0, .int .i64 0, .int .i64 0, .int .i64 0] 81)
  obtain ⟨W, hW⟩ : ∃ W, w1.alloc (.cells #[.int .i64 0, .int .i64 0, .int .i64 0, .int .i64 0, .int .i64 0, .int .i64 0, .int .i64 0, .int .i64 0, .int .i64 0, .int .i64 0] 81) = W := ⟨_, rfl⟩
  rw [hW] at z y gw
  rw [hW]
  clear hW
  obtain ⟨_, _, _, _, _, _, _, _, _, _⟩ := cells10 z
  obtain ⟨_, _, _, _, _, _, _, _, _, _⟩ := cells10 y
  have _ := fz y
  have _ := ltb y
  have GW := hid gw
  clear z y gw X1_0 X1_1 X1_2 G1
  go_wp2
  refine bodyPost_ret (v := .tuple #[dv 0 0 0 0 0 0 0 0 0 0, .int .i64 2]) (by simp [results, Try.results109, go_sem, *]) rfl ⟨rfl, ?_⟩
  exact ((((((((((GW.out.setCell (by simp; omega) _).setCell (by simp; omega) _).setCell (by simp; omega) _).setCell (by simp; omega) _).setCell (by simp; omega) _).setCell (by simp; omega) _).setCell (by simp; omega) _).setCell (by simp; omega) _).setCell (by simp; omega) _).setCell (by simp; omega) _)


/-! the digits -/
def dgI (n : Int) : Nat := n.natAbs % 10
def dgS (ds : List Int) (n : Int) : List Int := ds.set (dgI n) (ds.getD (dgI n) 0 + 1)
def dgt (xs : List Int) : List Int := xs.foldl dgS (List.replicate 10 0)
theorem dgS_len (ds : List Int) (n : Int) : (dgS ds n).length = ds.length := by simp [dgS]
theorem dgt_step {xs : List Int} {k : Nat} {x : Int} (h : xs[k]? = some x) : dgt (xs.take (k + 1)) = dgS (dgt (xs.take k)) x := by
  unfold dgt
  rw [List.take_add_one, h]
  simp [List.foldl_append]
theorem dgt_len' : ∀ (xs : List Int) (ds : List Int), (xs.foldl dgS ds).length = ds.length
  | [], _ => rfl
  | x :: r, ds => by
    have := dgt_len' r (dgS ds x)
    rw [dgS_len] at this
    exact this
theorem dgt_len (xs : List Int) : (dgt xs).length = 10 := by unfold dgt; rw [dgt_len']; simp
theorem dgI_lt (n : Int) : dgI n < 10 := by unfold dgI; omega
/-- No digit is there more often than there are numbers. -/
theorem dgt_bd' : ∀ (xs : List Int) (ds : List Int) (b : Int), (∀ d ∈ ds, 0 ≤ d ∧ d ≤ b) → ∀ d ∈ xs.foldl dgS ds, 0 ≤ d ∧ d ≤ b + xs.length
  | [], ds, b, h => by simpa using h
  | x :: r, ds, b, h => fun d hd => by
    have h2 : ∀ d ∈ dgS ds x, 0 ≤ d ∧ d ≤ b + 1 := fun e he => by
      unfold dgS at he
      rcases List.mem_or_eq_of_mem_set he with h1 | h1
      · have := h e h1; omega
      · by_cases hk : dgI x < ds.length
        · rw [List.getD_eq_getElem?_getD, List.getElem?_eq_getElem hk] at h1
          have := h _ (List.getElem_mem hk)
          simp at h1
          omega
        · rw [List.set_eq_of_length_le (by omega)] at he
          have := h e he; omega
    have := dgt_bd' r (dgS ds x) (b + 1) h2 d hd
    rw [List.length_cons]
    omega
theorem dgt_bd (xs : List Int) : ∀ d ∈ dgt xs, 0 ≤ d ∧ d ≤ (xs.length : Int) := fun d hd => by
  have := dgt_bd' xs (List.replicate 10 0) 0 (fun e he => by have := List.eq_of_mem_replicate he; omega) d hd
  omega
theorem dgt_get (xs : List Int) {k : Nat} (hk : k < 10) : ∃ d, (dgt xs)[k]? = some d ∧ 0 ≤ d ∧ d ≤ (xs.length : Int) := by
  have h : k < (dgt xs).length := by rw [dgt_len]; exact hk
  exact ⟨_, List.getElem?_eq_getElem h, dgt_bd xs _ (List.getElem_mem h)⟩
theorem dgS_of {ds : List Int} {n d : Int} (h : ds[dgI n]? = some d) : dgS ds n = ds.set (dgI n) (d + 1) := by
  unfold dgS
  rw [List.getD_eq_getElem?_getD, h]
  rfl
theorem keepInt {w : World} {g j i : Nat} {a : Value} {o : Obj} (h : w.heap[j]? = some o) (hn : j ≠ g) : (w.setCell ⟨g, i, none⟩ a).heap[j]? = some o := by
  rw [Below.heap_setCell _ _ _ _ hn, h]
end Go.Proofs.Ytmjcnagniphkeaa
