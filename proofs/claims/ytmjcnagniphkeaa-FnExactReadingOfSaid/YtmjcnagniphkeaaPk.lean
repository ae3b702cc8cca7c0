/- WALKS: ReadingOf, of the program and of the reference. -/
import Derived.Test.YtmjcnagniphkeaaNn
import Derived.Test.YtmjcnagniphkeaaPa
import Derived.Test.YtmjcnagniphkeaaC1
import Derived.Test.YtmjcnagniphkeaaT
import Derived.Test.YtmjcnagniphkeaaV
namespace Go.Proofs.Ytmjcnagniphkeaa
open Go.RowKit Go.Sort

set_option maxHeartbeats 400000 in
theorem code_nor (n : Int) (w : World) : Calls Try.prog 254 #[.int .i64 n] w fun e w' => e = .returned (.int .i64 2) ∧ Gr w w' := by
  go_enter Try.func254, Try.ntmps254
  go_wp2
  go_ret
  exact ⟨rfl, Gr.refl _⟩
set_option maxHeartbeats 400000 in
theorem catch_nor_I (b : Nat) (x : Int) (w : World) (c : Int) (T : TypeId) (hc : w.heap[b]? = some (.cells #[.int .i64 c] T)) :
    CallsD Try.prog 170 #[.pointer (some ⟨b, 0, none⟩)] (.panicking [{ v := .iface 198 (.int .i64 x), recovered := false }]) w fun e u' w' =>
      e = .returned (.tuple #[]) ∧ u' = .panicking [{ v := .iface 198 (.int .i64 x), recovered := true }] ∧ ∃ w1, Gr w w1 ∧ w' = w1.setCell ⟨b, 0, none⟩ (.int .i64 2) := by
  have h1 : ∀ x w, (Instr.typeAssert (.iface 198 x) 20 192 true).run Try.prog w = .ok (.tuple #[.iface 198 x, .bool true]) w := fun _ _ => by kernel_rfl
  refine callsD_of_wpS Try.func170 rfl fun c₀ cs hu => ?_
  apply wpS_seq
  apply wpS_region
  simp [wpOpsS, go_sem, recoverD, hu, Try.ntmps170, Exit.thenS, ↓h1, Array.replicate, List.replicate]
  apply wpS_of_wp
  clear hu h1
  have HC := hid hc; clear hc
  go_wp2_with (go_at_call 254; refine (code_nor _ _).mono ?_; rintro e w1 ⟨rfl, hg⟩; have hb := hg.keep HC.out; have f0 := fz hb; have c0 := cells1 hb; have HG := hid hg; clear hg hb)
  cases c₀
  simp [bodyPostS, results, Try.results170]
  exact ⟨w1, HG.out, rfl⟩
set_option maxRecDepth 20000 in
set_option maxHeartbeats 400000 in
theorem told_nor_I (f : Nat) (cap : Array Value) (w : World) (hen : ∀ w, (callFunc f cap).run Try.prog w = .ok (.enter f cap) w) (hF : ∀ w', Gr w w' → Calls Try.prog f cap w' fun e w'' => (∃ p, e = .panicked [{ v := .iface 198 (.int .i64 p), recovered := false }]) ∧ Gr w' w'') :
    Calls Try.prog 104 #[.func (.func f) #[] cap] w fun e w' => e = .returned (.tuple #[.int .i64 0, .int .i64 2]) ∧ Gr w w' := by
  have HF := hid hF; clear hF
  go_enter_defers Try.func104, Try.ntmps104
  go_wp2_with fail
  refine (HF.out _ (Gr.alloc _ _)).mono ?_
  rintro e w1 ⟨⟨p, rfl⟩, hg⟩
  obtain ⟨x1, hz, G1⟩ := alloc1 hg
  refine leaves_cons (f := 170) (args := #[.pointer (some ⟨w.heap.size, 0, none⟩)]) (by simp) (by simp [go_sem]) ?_
  refine (catch_nor_I _ _ _ _ _ x1).mono ?_
  rintro e u' w2 ⟨rfl, rfl, w3, hg3, rfl⟩
  have _ := cells1 (hg3.keep x1)
  simp [Leaves, settle, results, Try.results104, go_sem, *]
  exact (G1.trans hg3).setCell (by simp) _
set_option maxRecDepth 20000 in
set_option maxHeartbeats 600000 in
theorem ireading_ok (b u p q : Int) (o : Bool) (r : Int) (w : World) (B : RdBd b u p q) (hr : rdV b u o p q = r) (h : okR r = true) :
    Calls Try.prog 106 #[gs b u o, fr p q] w fun e w' => e = .returned (.int .i64 r) ∧ Gr w w' := by
  have HM := hid fun (w : World) => imult b u p q o w B
  rw [hr] at HM
  have hg := fun (w : World) => gt_any r 1000000 w (by omega) (by omega)
  rw [gt_inM, show inB r (-1000000) 1000000 = true from h] at hg
  have HG := hid hg
  clear hg h hr B
  go_enter Try.func106, Try.ntmps106
  go_wp2_with fail
  refine (HM.out _).mono ?_
  rintro e w1 ⟨rfl, hg1⟩
  obtain ⟨x1_0, x1_1, hz1, g1⟩ := alloc2 hg1
  obtain ⟨_, _, _⟩ := cells3 x1_0
  have _ := fz x1_0
  have _ := ltb x1_0
  obtain ⟨_, _⟩ := cells2 x1_1
  have _ := fz x1_1
  have _ := ltb x1_1
  have X1_0 := hid x1_0; clear x1_0
  have X1_1 := hid x1_1; clear x1_1
  have G1 := hid (g1)
  clear hg1 g1
  go_wp2_with (go_at_call 168; refine (HG.out _).mono ?_; rintro e w2 ⟨rfl, rfl⟩)
  go_ret
  exact ⟨rfl, G1.out⟩
set_option maxRecDepth 20000 in
set_option maxHeartbeats 600000 in
theorem ireading_bad (b u p q : Int) (o : Bool) (r : Int) (w : World) (B : RdBd b u p q) (hr : rdV b u o p q = r) (h : okR r = false) :
    Calls Try.prog 106 #[gs b u o, fr p q] w fun e w' => (∃ n, e = .panicked [{ v := .iface 198 (.int .i64 n), recovered := false }]) ∧ Gr w w' := by
  have HM := hid fun (w : World) => imult b u p q o w B
  rw [hr] at HM
  have hg := fun (w : World) => gt_any r 1000000 w (by omega) (by omega)
  rw [gt_inM, show inB r (-1000000) 1000000 = false from h] at hg
  have HG := hid hg
  clear hg h hr B
  go_enter Try.func106, Try.ntmps106
  go_wp2_with fail
  refine (HM.out _).mono ?_
  rintro e w1 ⟨rfl, hg1⟩
  obtain ⟨x1_0, x1_1, hz1, g1⟩ := alloc2 hg1
  obtain ⟨_, _, _⟩ := cells3 x1_0
  have _ := fz x1_0
  have _ := ltb x1_0
  obtain ⟨_, _⟩ := cells2 x1_1
  have _ := fz x1_1
  have _ := ltb x1_1
  have X1_0 := hid x1_0; clear x1_0
  have X1_1 := hid x1_1; clear x1_1
  have G1 := hid (g1)
  clear hg1 g1
  go_wp2_with (go_at_call 168; refine (HG.out _).mono ?_; rintro e w2 ⟨rfl, rfl⟩)
  exact ⟨rfl, ⟨r, rfl⟩, G1.out⟩
set_option maxRecDepth 20000 in
set_option maxHeartbeats 600000 in
theorem cReading_ok (s : ByteArray) (b u p q : Int) (o : Bool) (r : Int) (w : World) (k1 k2 : Nat) (T1 T2 : TypeId) (X1 : Hid (w.heap[k1]? = some (.cells #[.string s, .int .i16 b, .int .i16 u, .bool o] T1))) (X2 : Hid (w.heap[k2]? = some (.cells #[.int .i64 p, .int .i64 q] T2)))
    (B : RdBd b u p q) (hr : rdV b u o p q = r) (h : okR r = true) :
    Calls Try.prog 105 #[.pointer (some ⟨k1, 0, none⟩), .pointer (some ⟨k2, 0, none⟩)] w fun e w' => e = .returned (.int .i64 r) ∧ Gr w w' := by
  have HI := hid fun (w : World) => ireading_ok b u p q o r w B hr h
  clear B hr h
  go_enter Try.func105, Try.ntmps105
  obtain ⟨_, _, _, _⟩ := cells4 X1.out
  have _ := fz X1.out
  have _ := ltb X1.out
  obtain ⟨_, _⟩ := cells2 X2.out
  have _ := fz X2.out
  have _ := ltb X2.out
  go_wp2_with fail
  refine wp_reg0 4 (by kernel_rfl) (by kernel_rfl) ?_
  apply Exists.intro
  refine ⟨fun wb hb => ?_, ?_⟩
  · obtain ⟨_, _, _, _⟩ := hb.at4 X1.out
    obtain ⟨_, _⟩ := hb.at2 X2.out
    simp only [headOps, List.contains, List.elem, reduceIte, Bool.false_eq_true]
    repeat (first | go_big_quiet_step (first | (go_at_call 97; exact Calls.of_gr (iHabit _ _ _ _ _)) | (go_at_call 106; exact Calls.of_gr (HI.out _))) | quiet_step (fail))
    exact wpQuiet_nil rfl
  intro w1 hg1
  have x1_1 := hg1.keep X1.out
  have x1_2 := hg1.keep X2.out
  obtain ⟨_, _, _, _⟩ := cells4 x1_1
  have _ := fz x1_1
  have _ := ltb x1_1
  obtain ⟨_, _⟩ := cells2 x1_2
  have _ := fz x1_2
  have _ := ltb x1_2
  have X1_1 := hid x1_1; clear x1_1
  have X1_2 := hid x1_2; clear x1_2
  have G1 := hid (hg1)
  clear hg1
  go_wp2_with fail
  go_ret
  exact ⟨rfl, G1.out⟩
set_option maxRecDepth 20000 in
set_option maxHeartbeats 600000 in
theorem cReading_bad (s : ByteArray) (b u p q : Int) (o : Bool) (r : Int) (w : World) (k1 k2 : Nat) (T1 T2 : TypeId) (X1 : Hid (w.heap[k1]? = some (.cells #[.string s, .int .i16 b, .int .i16 u, .bool o] T1))) (X2 : Hid (w.heap[k2]? = some (.cells #[.int .i64 p, .int .i64 q] T2)))
    (B : RdBd b u p q) (hr : rdV b u o p q = r) (h : okR r = false) :
    Calls Try.prog 105 #[.pointer (some ⟨k1, 0, none⟩), .pointer (some ⟨k2, 0, none⟩)] w fun e w' => (∃ n, e = .panicked [{ v := .iface 198 (.int .i64 n), recovered := false }]) ∧ Gr w w' := by
  have HI := hid fun (w : World) => ireading_bad b u p q o r w B hr h
  clear B hr h
  go_enter Try.func105, Try.ntmps105
  obtain ⟨_, _, _, _⟩ := cells4 X1.out
  have _ := fz X1.out
  have _ := ltb X1.out
  obtain ⟨_, _⟩ := cells2 X2.out
  have _ := fz X2.out
  have _ := ltb X2.out
  go_wp2_with fail
  refine wp_regP 3 [4] (by kernel_rfl) (by kernel_rfl) rfl ?_
  apply Exists.intro
  refine ⟨106, #[gs b u o, fr p q], fun wb hb => ?_, ?_⟩
  · obtain ⟨_, _, _, _⟩ := hb.at4 X1.out
    obtain ⟨_, _⟩ := hb.at2 X2.out
    simp only [headOps, List.contains, List.elem, List.length_cons, List.length_nil, Nat.zero_add, Nat.reduceAdd, Nat.reduceBEq, reduceIte, Bool.false_eq_true, dumOp]
    repeat (first | go_big_quiet_step (first | (go_at_call 97; exact Calls.of_gr (iHabit _ _ _ _ _))) | quiet_step (fail))
    exact wpQuiet_nil rfl
  refine ⟨fun w' => by kernel_rfl, fun w' hg' => (HI.out w').mono fun e w2 ⟨⟨n, he⟩, hg2⟩ => ⟨_, he, fun a' ha' => ⟨ha', ⟨n, rfl⟩, hg'.trans hg2⟩⟩⟩
theorem iVR_is (s : ByteArray) (b u : Int) (o : Bool) (r : Bool) (w : World) (hb : W16 b) (hu : W16 u) (h : rrB s b u = r) :
    Calls Try.prog 45 #[rdr s b u o] w fun e w' => e = .returned (.bool r) ∧ Gr w w' := h ▸ iVReader s b u o w hb hu
theorem sOkR_is (s : ByteArray) (b u : Int) (o : Bool) (r : Bool) (w : World) (hb : W16 b) (hu : W16 u) (h : rrB s b u = r) (k : Nat) (T : TypeId) (X : Hid (w.heap[k]? = some (.cells #[.string s, .int .i16 b, .int .i16 u, .bool o] T))) :
    Calls Try.prog 95 #[.pointer (some ⟨k, 0, none⟩)] w fun e w' => e = .returned (.bool r) ∧ Gr w w' := h ▸ sOkR s b u o w hb hu k T X
theorem rr_gs {s : ByteArray} {b u : Int} (h : rrB s b u = true) : gsB b u = true := by unfold rrB at h; simp at h; exact h.2
set_option maxRecDepth 20000 in
set_option maxHeartbeats 600000 in
theorem iReading_1 (s : ByteArray) (b u p q : Int) (o : Bool) (w : World) (hb : W16 b) (hu : W16 u) (h : rrB s b u = false) :
    Calls Try.prog 48 #[rdr s b u o, fr p q] w fun e w' => e = .returned (.tuple #[.int .i64 0, .int .i64 1]) ∧ Gr w w' := by
  have HV := hid fun (w : World) => iVR_is s b u o false w hb hu h
  clear hb hu h
  go_enter Try.func48, Try.ntmps48
  go_wp2_with fail
  refine (HV.out _).mono ?_
  rintro e w1 ⟨rfl, hg1⟩
  obtain ⟨x1_0, x1_1, hz1, g1⟩ := alloc2 hg1
  obtain ⟨_, _, _, _⟩ := cells4 x1_0
  have _ := fz x1_0
  have _ := ltb x1_0
  obtain ⟨_, _⟩ := cells2 x1_1
  have _ := fz x1_1
  have _ := ltb x1_1
  have X1_0 := hid x1_0; clear x1_0
  have X1_1 := hid x1_1; clear x1_1
  have G1 := hid (g1)
  clear hg1 g1
  go_wp2
  go_ret2
  exact ⟨rfl, G1.out⟩
set_option maxRecDepth 20000 in
set_option maxHeartbeats 600000 in
theorem iReading_2 (s : ByteArray) (b u p q : Int) (o : Bool) (w : World) (hb : W16 b) (hu : W16 u) (h : rrB s b u = true) (hk : okB p q = false) :
    Calls Try.prog 48 #[rdr s b u o, fr p q] w fun e w' => e = .returned (.tuple #[.int .i64 0, .int .i64 1]) ∧ Gr w w' := by
  have HV := hid fun (w : World) => iVR_is s b u o true w hb hu h
  have HK := hid hk
  clear hb hu h hk
  go_enter Try.func48, Try.ntmps48
  go_wp2_with fail
  refine (HV.out _).mono ?_
  rintro e w1 ⟨rfl, hg1⟩
  obtain ⟨x1_0, x1_1, hz1, g1⟩ := alloc2 hg1
  obtain ⟨_, _, _, _⟩ := cells4 x1_0
  have _ := fz x1_0
  have _ := ltb x1_0
  obtain ⟨_, _⟩ := cells2 x1_1
  have _ := fz x1_1
  have _ := ltb x1_1
  have X1_0 := hid x1_0; clear x1_0
  have X1_1 := hid x1_1; clear x1_1
  have G1 := hid (g1)
  clear hg1 g1
  go_wp2_with fail
  refine (iok_f _ _ _ HK.out).mono ?_
  rintro e w2 ⟨rfl, hg2⟩
  have x2_1 := hg2.keep X1_0.out
  have x2_2 := hg2.keep X1_1.out
  obtain ⟨_, _, _, _⟩ := cells4 x2_1
  have _ := fz x2_1
  have _ := ltb x2_1
  obtain ⟨_, _⟩ := cells2 x2_2
  have _ := fz x2_2
  have _ := ltb x2_2
  have X2_1 := hid x2_1; clear x2_1
  have X2_2 := hid x2_2; clear x2_2
  have G2 := hid (G1.out.trans hg2)
  clear hg2
  go_wp2
  go_ret2
  exact ⟨rfl, G2.out⟩
set_option maxRecDepth 20000 in
set_option maxHeartbeats 600000 in
theorem iReading_3 (s : ByteArray) (b u p q : Int) (o : Bool) (R C : Int) (w : World) (hb : W16 b) (hu : W16 u) (h : rrB s b u = true) (hk : okB p q = true)
    (ht : ∀ (w : World) (k1 k2 : Nat) (T1 T2 : TypeId), Hid (w.heap[k1]? = some (.cells #[.string s, .int .i16 b, .int .i16 u, .bool o] T1)) → Hid (w.heap[k2]? = some (.cells #[.int .i64 p, .int .i64 q] T2)) → Calls Try.prog 104 #[.func (.func 105) #[] #[.pointer (some ⟨k1, 0, none⟩), .pointer (some ⟨k2, 0, none⟩)]] w fun e w' => e = .returned (.tuple #[.int .i64 R, .int .i64 C]) ∧ Gr w w') :
    Calls Try.prog 48 #[rdr s b u o, fr p q] w fun e w' => e = .returned (.tuple #[.int .i64 R, .int .i64 C]) ∧ Gr w w' := by
  have HV := hid fun (w : World) => iVR_is s b u o true w hb hu h
  have HK := hid hk; have HT := hid ht
  clear hb hu h hk ht
  go_enter Try.func48, Try.ntmps48
  go_wp2_with fail
  refine (HV.out _).mono ?_
  rintro e w1 ⟨rfl, hg1⟩
  obtain ⟨x1_0, x1_1, hz1, g1⟩ := alloc2 hg1
  obtain ⟨_, _, _, _⟩ := cells4 x1_0
  have _ := fz x1_0
  have _ := ltb x1_0
  obtain ⟨_, _⟩ := cells2 x1_1
  have _ := fz x1_1
  have _ := ltb x1_1
  have X1_0 := hid x1_0; clear x1_0
  have X1_1 := hid x1_1; clear x1_1
  have G1 := hid (g1)
  clear hg1 g1
  go_wp2_with fail
  refine (iok_t _ _ _ HK.out).mono ?_
  rintro e w2 ⟨rfl, hg2⟩
  have x2_1 := hg2.keep X1_0.out
  have x2_2 := hg2.keep X1_1.out
  obtain ⟨_, _, _, _⟩ := cells4 x2_1
  have _ := fz x2_1
  have _ := ltb x2_1
  obtain ⟨_, _⟩ := cells2 x2_2
  have _ := fz x2_2
  have _ := ltb x2_2
  have X2_1 := hid x2_1; clear x2_1
  have X2_2 := hid x2_2; clear x2_2
  have G2 := hid (G1.out.trans hg2)
  clear hg2
  go_wp2_with fail
  refine (HT.out _ _ _ _ _ (hid X2_1.out) (hid X2_2.out)).mono ?_
  rintro e w3 ⟨rfl, hg3⟩
  have x3_1 := hg3.keep X2_1.out
  have x3_2 := hg3.keep X2_2.out
  obtain ⟨_, _, _, _⟩ := cells4 x3_1
  have _ := fz x3_1
  have _ := ltb x3_1
  obtain ⟨_, _⟩ := cells2 x3_2
  have _ := fz x3_2
  have _ := ltb x3_2
  have X3_1 := hid x3_1; clear x3_1
  have X3_2 := hid x3_2; clear x3_2
  have G3 := hid (G2.out.trans hg3)
  clear hg3
  go_wp2
  go_ret2
  exact ⟨rfl, G3.out⟩
set_option maxRecDepth 20000 in
set_option maxHeartbeats 600000 in
theorem sReading_1 (s : ByteArray) (b u p q : Int) (o : Bool) (w : World) (hb : W16 b) (hu : W16 u) (h : rrB s b u = false) :
    Calls Try.prog 46 #[rdr s b u o, fr p q] w fun e w' => e = .returned (.tuple #[.int .i64 0, .int .i64 1]) ∧ Gr w w' := by
  have HV := hid fun (w : World) (k : Nat) (T : TypeId) X => sOkR_is s b u o false w hb hu h k T X
  clear hb hu h
  go_enter Try.func46, Try.ntmps46
  go_wp2_with fail
  refine (HV.out _ _ _ (hid (alloc2 (Gr.refl _)).1)).mono ?_
  rintro e w1 ⟨rfl, hg1⟩
  obtain ⟨x1_0, x1_1, hz1, g1⟩ := alloc2 hg1
  obtain ⟨_, _, _, _⟩ := cells4 x1_0
  have _ := fz x1_0
  have _ := ltb x1_0
  obtain ⟨_, _⟩ := cells2 x1_1
  have _ := fz x1_1
  have _ := ltb x1_1
  have X1_0 := hid x1_0; clear x1_0
  have X1_1 := hid x1_1; clear x1_1
  have G1 := hid (g1)
  clear hg1 g1
  go_wp2
  go_ret2
  exact ⟨rfl, G1.out⟩
set_option maxRecDepth 20000 in
set_option maxHeartbeats 600000 in
theorem sReading_2 (s : ByteArray) (b u p q : Int) (o : Bool) (w : World) (hb : W16 b) (hu : W16 u) (h : rrB s b u = true) (hk : okB p q = false) :
    Calls Try.prog 46 #[rdr s b u o, fr p q] w fun e w' => e = .returned (.tuple #[.int .i64 0, .int .i64 1]) ∧ Gr w w' := by
  have HV := hid fun (w : World) (k : Nat) (T : TypeId) X => sOkR_is s b u o true w hb hu h k T X
  have HK := hid hk
  clear hb hu h hk
  go_enter Try.func46, Try.ntmps46
  go_wp2_with fail
  refine (HV.out _ _ _ (hid (alloc2 (Gr.refl _)).1)).mono ?_
  rintro e w1 ⟨rfl, hg1⟩
  obtain ⟨x1_0, x1_1, hz1, g1⟩ := alloc2 hg1
  obtain ⟨_, _, _, _⟩ := cells4 x1_0
  have _ := fz x1_0
  have _ := ltb x1_0
  obtain ⟨_, _⟩ := cells2 x1_1
  have _ := fz x1_1
  have _ := ltb x1_1
  have X1_0 := hid x1_0; clear x1_0
  have X1_1 := hid x1_1; clear x1_1
  have G1 := hid (g1)
  clear hg1 g1
  go_wp2_with fail
  refine (sok_f _ _ _ HK.out).mono ?_
  rintro e w2 ⟨rfl, hg2⟩
  have x2_1 := hg2.keep X1_0.out
  have x2_2 := hg2.keep X1_1.out
  obtain ⟨_, _, _, _⟩ := cells4 x2_1
  have _ := fz x2_1
  have _ := ltb x2_1
  obtain ⟨_, _⟩ := cells2 x2_2
  have _ := fz x2_2
  have _ := ltb x2_2
  have X2_1 := hid x2_1; clear x2_1
  have X2_2 := hid x2_2; clear x2_2
  have G2 := hid (G1.out.trans hg2)
  clear hg2
  go_wp2
  go_ret2
  exact ⟨rfl, G2.out⟩
theorem splain_is (n : Int) (r : Bool) (w : World) (h : okR n = r) : Calls Try.prog 102 #[.int .i64 n] w fun e w' => e = .returned (.bool r) ∧ w = w' := h ▸ splain n w
set_option maxRecDepth 20000 in
set_option maxHeartbeats 600000 in
theorem sReading_3 (s : ByteArray) (b u p q : Int) (o : Bool) (v : Int) (w : World) (hb : W16 b) (hu : W16 u) (h : rrB s b u = true) (hk : okB p q = true) (hr : rdV b u o p q = v) (ho : okR v = false) :
    Calls Try.prog 46 #[rdr s b u o, fr p q] w fun e w' => e = .returned (.tuple #[.int .i64 0, .int .i64 2]) ∧ Gr w w' := by
  have HV := hid fun (w : World) (k : Nat) (T : TypeId) X => sOkR_is s b u o true w hb hu h k T X
  have HM := hid fun (w : World) => sread b u p q o w (rd_bd (rr_gs h) hk)
  rw [hr] at HM
  have HK := hid hk; have HO := hid ho
  clear hb hu h hk hr ho
  go_enter Try.func46, Try.ntmps46
  go_wp2_with fail
  refine (HV.out _ _ _ (hid (alloc2 (Gr.refl _)).1)).mono ?_
  rintro e w1 ⟨rfl, hg1⟩
  obtain ⟨x1_0, x1_1, hz1, g1⟩ := alloc2 hg1
  obtain ⟨_, _, _, _⟩ := cells4 x1_0
  have _ := fz x1_0
  have _ := ltb x1_0
  obtain ⟨_, _⟩ := cells2 x1_1
  have _ := fz x1_1
  have _ := ltb x1_1
  have X1_0 := hid x1_0; clear x1_0
  have X1_1 := hid x1_1; clear x1_1
  have G1 := hid (g1)
  clear hg1 g1
  go_wp2_with fail
  refine (sok_t _ _ _ HK.out).mono ?_
  rintro e w2 ⟨rfl, hg2⟩
  have x2_1 := hg2.keep X1_0.out
  have x2_2 := hg2.keep X1_1.out
  obtain ⟨_, _, _, _⟩ := cells4 x2_1
  have _ := fz x2_1
  have _ := ltb x2_1
  obtain ⟨_, _⟩ := cells2 x2_2
  have _ := fz x2_2
  have _ := ltb x2_2
  have X2_1 := hid x2_1; clear x2_1
  have X2_2 := hid x2_2; clear x2_2
  have G2 := hid (G1.out.trans hg2)
  clear hg2
  go_wp2_with fail
  refine wp_reg0 3 (by kernel_rfl) (by kernel_rfl) ?_
  apply Exists.intro
  refine ⟨fun wb hb => ?_, ?_⟩
  · obtain ⟨_, _, _, _⟩ := hb.at4 X2_1.out
    obtain ⟨_, _⟩ := hb.at2 X2_2.out
    simp only [headOps, List.contains, List.elem, reduceIte, Bool.false_eq_true]
    repeat (first | go_big_quiet_step (first | (go_at_call 101; exact Calls.of_gr (sHabit _ _ _ _ _ _ _ (hid ((hb.trans ⟨⟨_, _⟩, rfl⟩).keep X2_1.out)))) | (go_at_call 100; exact Calls.of_gr (HM.out _))) | quiet_step (fail))
    exact wpQuiet_nil rfl
  intro w3 hg3
  have x3_1 := hg3.keep X2_1.out
  have x3_2 := hg3.keep X2_2.out
  obtain ⟨_, _, _, _⟩ := cells4 x3_1
  have _ := fz x3_1
  have _ := ltb x3_1
  obtain ⟨_, _⟩ := cells2 x3_2
  have _ := fz x3_2
  have _ := ltb x3_2
  have X3_1 := hid x3_1; clear x3_1
  have X3_2 := hid x3_2; clear x3_2
  have G3 := hid (G2.out.trans hg3)
  clear hg3
  go_wp2_with (go_at_call 102; refine (splain_is _ _ _ HO.out).mono ?_; rintro e w4 ⟨rfl, rfl⟩)
  go_ret2
  exact ⟨rfl, G3.out⟩
set_option maxRecDepth 20000 in
set_option maxHeartbeats 600000 in
theorem sReading_4 (s : ByteArray) (b u p q : Int) (o : Bool) (v : Int) (w : World) (hb : W16 b) (hu : W16 u) (h : rrB s b u = true) (hk : okB p q = true) (hr : rdV b u o p q = v) (ho : okR v = true) :
    Calls Try.prog 46 #[rdr s b u o, fr p q] w fun e w' => e = .returned (.tuple #[.int .i64 v, .int .i64 0]) ∧ Gr w w' := by
  have HV := hid fun (w : World) (k : Nat) (T : TypeId) X => sOkR_is s b u o true w hb hu h k T X
  have HM := hid fun (w : World) => sread b u p q o w (rd_bd (rr_gs h) hk)
  rw [hr] at HM
  have HK := hid hk; have HO := hid ho
  clear hb hu h hk hr ho
  go_enter Try.func46, Try.ntmps46
  go_wp2_with fail
  refine (HV.out _ _ _ (hid (alloc2 (Gr.refl _)).1)).mono ?_
  rintro e w1 ⟨rfl, hg1⟩
  obtain ⟨x1_0, x1_1, hz1, g1⟩ := alloc2 hg1
  obtain ⟨_, _, _, _⟩ := cells4 x1_0
  have _ := fz x1_0
  have _ := ltb x1_0
  obtain ⟨_, _⟩ := cells2 x1_1
  have _ := fz x1_1
  have _ := ltb x1_1
  have X1_0 := hid x1_0; clear x1_0
  have X1_1 := hid x1_1; clear x1_1
  have G1 := hid (g1)
  clear hg1 g1
  go_wp2_with fail
  refine (sok_t _ _ _ HK.out).mono ?_
  rintro e w2 ⟨rfl, hg2⟩
  have x2_1 := hg2.keep X1_0.out
  have x2_2 := hg2.keep X1_1.out
  obtain ⟨_, _, _, _⟩ := cells4 x2_1
  have _ := fz x2_1
  have _ := ltb x2_1
  obtain ⟨_, _⟩ := cells2 x2_2
  have _ := fz x2_2
  have _ := ltb x2_2
  have X2_1 := hid x2_1; clear x2_1
  have X2_2 := hid x2_2; clear x2_2
  have G2 := hid (G1.out.trans hg2)
  clear hg2
  go_wp2_with fail
  refine wp_reg0 3 (by kernel_rfl) (by kernel_rfl) ?_
  apply Exists.intro
  refine ⟨fun wb hb => ?_, ?_⟩
  · obtain ⟨_, _, _, _⟩ := hb.at4 X2_1.out
    obtain ⟨_, _⟩ := hb.at2 X2_2.out
    simp only [headOps, List.contains, List.elem, reduceIte, Bool.false_eq_true]
    repeat (first | go_big_quiet_step (first | (go_at_call 101; exact Calls.of_gr (sHabit _ _ _ _ _ _ _ (hid ((hb.trans ⟨⟨_, _⟩, rfl⟩).keep X2_1.out)))) | (go_at_call 100; exact Calls.of_gr (HM.out _))) | quiet_step (fail))
    exact wpQuiet_nil rfl
  intro w3 hg3
  have x3_1 := hg3.keep X2_1.out
  have x3_2 := hg3.keep X2_2.out
  obtain ⟨_, _, _, _⟩ := cells4 x3_1
  have _ := fz x3_1
  have _ := ltb x3_1
  obtain ⟨_, _⟩ := cells2 x3_2
  have _ := fz x3_2
  have _ := ltb x3_2
  have X3_1 := hid x3_1; clear x3_1
  have X3_2 := hid x3_2; clear x3_2
  have G3 := hid (G2.out.trans hg3)
  clear hg3
  go_wp2_with (go_at_call 102; refine (splain_is _ _ _ HO.out).mono ?_; rintro e w4 ⟨rfl, rfl⟩)
  go_ret2
  exact ⟨rfl, G3.out⟩
theorem bothReadingOf (s : ByteArray) (b u : Int) (o : Bool) (p q : Int) (_ : s.size ≤ 1048576) (wb : W16 b) (wu : W16 u) : ∃ R C : Int,
    (∀ (w : World), Calls Try.prog 46 #[rdr s b u o, fr p q] w fun e w' => e = .returned (.tuple #[.int .i64 R, .int .i64 C]) ∧ Gr w w') ∧
    (∀ (w : World), Calls Try.prog 48 #[rdr s b u o, fr p q] w fun e w' => e = .returned (.tuple #[.int .i64 R, .int .i64 C]) ∧ Gr w w') := by
  cases h : rrB s b u with
  | false => exact ⟨0, 1, fun w => sReading_1 s b u p q o w wb wu h, fun w => iReading_1 s b u p q o w wb wu h⟩
  | true =>
    cases hk : okB p q with
    | false => exact ⟨0, 1, fun w => sReading_2 s b u p q o w wb wu h hk, fun w => iReading_2 s b u p q o w wb wu h hk⟩
    | true =>
      have B := rd_bd (rr_gs h) hk
      cases ho : okR (rdV b u o p q) with
      | false => exact ⟨0, 2, fun w => sReading_3 s b u p q o _ w wb wu h hk rfl ho, fun w => iReading_3 s b u p q o 0 2 w wb wu h hk fun w k1 k2 T1 T2 X1 X2 => told_nor_I 105 _ w (fun _ => by kernel_rfl) fun w' hg => cReading_bad s b u p q o _ w' k1 k2 T1 T2 (hid (hg.keep X1.out)) (hid (hg.keep X2.out)) B rfl ho⟩
      | true => exact ⟨_, 0, fun w => sReading_4 s b u p q o _ w wb wu h hk rfl ho, fun w => iReading_3 s b u p q o _ 0 w wb wu h hk fun w k1 k2 T1 T2 X1 X2 => told_ok_I 105 _ _ w (fun _ => by kernel_rfl) fun w' hg => cReading_ok s b u p q o _ w' k1 k2 T1 T2 (hid (hg.keep X1.out)) (hid (hg.keep X2.out)) B rfl ho⟩
end Go.Proofs.Ytmjcnagniphkeaa
