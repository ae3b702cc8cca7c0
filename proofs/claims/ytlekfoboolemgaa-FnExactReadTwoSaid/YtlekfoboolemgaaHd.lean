/- WALKS: ReadTwo, of the program and of the reference. -/
import Derived.Test.YtlekfoboolemgaaHc
namespace Go.Proofs.Ytlekfoboolemgaa
open Go.RowKit Go.Sort

set_option maxRecDepth 20000 in
set_option maxHeartbeats 1000000 in
theorem iTwo_no (A : Option Addr) (c : Nat) (xs : List Int) (e no a l C : Int) (w : World) (X : Hid (RdH w A xs)) (hn : xs.length ≤ 1048576) (hh : xs.all okH = true) (hC : codeR xs e no l [a] = C) (h0 : C ≠ 0) :
    Calls Try.prog 34 #[dk A xs.length c e no, .int .i64 a, .int .i64 l] w fun x w' => x = .returned (.tuple #[.int .i64 0, .int .i64 0, .int .i64 C]) ∧ Gr w w' := by
  have HK := hid fun w' (hg : Gr w w') (X2 : Hid (RdI w' (some ⟨w.heap.size + 1, 0, none⟩) [a])) => iCheckR A (some ⟨w.heap.size + 1, 0, none⟩) c 1 xs [a] e no l w' (hid (X.out.keep hg)) X2 hn hh (by simp)
  rw [hC] at HK
  have c2 : ((C : Int) != 0) = true := by simpa using h0
  clear hh hC h0
  go_enter Try.func34, Try.ntmps34
  go_wp2_with fail
  refine (HK.out _ (((Gr.refl w).al _).al _) (hid (RdI.of_block (xs := [a]) (alloc2 (Gr.refl _)).2.1))).mono ?_
  rintro e w1 ⟨rfl, hg1⟩
  obtain ⟨x1_0, x1_1, hz1, g1⟩ := alloc2 hg1
  obtain ⟨_, _, _⟩ := cells3 x1_0
  have _ := fz x1_0
  have _ := ltb x1_0
  have _ := cells1 x1_1
  have _ := fz x1_1
  have _ := ltb x1_1
  have X1_0 := hid x1_0; clear x1_0
  have X1_1 := hid x1_1; clear x1_1
  have G1 := hid (g1)
  clear hg1 g1
  go_wp2
  refine bodyPost_ret (v := .tuple #[.int .i64 0, .int .i64 0, .int .i64 C]) (by simp [results, Try.results34, go_sem, *]) rfl ⟨rfl, ?_⟩
  exact G1.out
set_option maxRecDepth 20000 in
set_option maxHeartbeats 1000000 in
theorem iTwo_yes (A : Option Addr) (c : Nat) (xs : List Int) (e no a l : Int) (w : World) (X : Hid (RdH w A xs)) (hn : xs.length ≤ 1048576) (hh : xs.all okH = true) (hc : xs.length ≤ c) (hC : codeR xs e no l [a] = 0) :
    Calls Try.prog 34 #[dk A xs.length c e no, .int .i64 a, .int .i64 l] w fun x w' => x = .returned (.tuple #[.int .i64 (headF xs e no l a), .int .i64 (headF xs e no l (wrapI (a + 648000))), .int .i64 0]) ∧ Gr w w' := by
  have HK := hid fun w' (hg : Gr w w') (X2 : Hid (RdI w' (some ⟨w.heap.size + 1, 0, none⟩) [a])) => iCheckR A (some ⟨w.heap.size + 1, 0, none⟩) c 1 xs [a] e no l w' (hid (X.out.keep hg)) X2 hn hh (by simp)
  obtain ⟨hR, ha⟩ := codeR_zero hC
  obtain ⟨a1, a2⟩ := ang_bd (show angB a = true by simpa using ha)
  rw [hC] at HK
  have HR := hid hR
  clear hh hC hR ha
  go_enter Try.func34, Try.ntmps34
  go_wp2_with fail
  refine (HK.out _ (((Gr.refl w).al _).al _) (hid (RdI.of_block (xs := [a]) (alloc2 (Gr.refl _)).2.1))).mono ?_
  rintro e w1 ⟨rfl, hg1⟩
  obtain ⟨x1_0, x1_1, hz1, g1⟩ := alloc2 hg1
  obtain ⟨_, _, _⟩ := cells3 x1_0
  have _ := fz x1_0
  have _ := ltb x1_0
  have _ := cells1 x1_1
  have _ := fz x1_1
  have _ := ltb x1_1
  have X1_0 := hid x1_0; clear x1_0
  have X1_1 := hid x1_1; clear x1_1
  have G1 := hid (g1)
  clear hg1 g1
  go_wp2_with fail
  refine (iReaderOf (headF xs e no l) A xs.length c e no l _).mono ?_
  rintro x w2 ⟨bl, bk, bd, m, rfl, hr, hm, hg2⟩
  have RR := hid hr; have G2 := hid (G1.out.trans hg2); have HM := hid hm; have hs1 := G1.out.size
  have hen := enR a bl bk bd
  have hen2 := enR (wrapI (a + 648000)) bl bk bd
  clear hr hg2 hm
  go_wp2_with fail
  refine (iReaderF A c xs e no l a bl bk bd m _ (hid (X.out.keep G2.out)) HR.out hc a1 (by omega) RR.out).mono ?_
  rintro x w3 ⟨rfl, hr3, ho⟩
  have G3 := hid (ho.2 w G2.out (Nat.le_trans hs1 HM.out))
  have R3 := hid hr3
  obtain ⟨o1, o2⟩ := wrap_bd (a + 648000)
  clear ho hen hr3
  go_wp2_with (go_at_call 75; refine (iopp _ _ (by omega) (by omega)).mono ?_; rintro x w4 ⟨rfl, rfl⟩)
  refine (iReaderF A c xs e no l (wrapI (a + 648000)) bl bk bd m _ (hid (X.out.keep G3.out)) HR.out hc o1 o2 R3.out).mono ?_
  rintro x w5 ⟨rfl, _, ho5⟩
  have G5 := hid (ho5.2 w G3.out (Nat.le_trans hs1 HM.out))
  clear ho5 hen2
  go_wp2_with fail
  refine bodyPost_ret (v := .tuple #[.int .i64 (headF xs e no l a), .int .i64 (headF xs e no l (wrapI (a + 648000))), .int .i64 0]) (by simp [results, Try.results34, go_sem]) rfl ⟨rfl, G5.out⟩
set_option maxRecDepth 20000 in
set_option maxHeartbeats 1000000 in
theorem sTwo_no (A : Option Addr) (c : Nat) (xs : List Int) (e no a l C : Int) (w : World) (X : Hid (RdH w A xs)) (hn : xs.length ≤ 1048576) (hh : xs.all okH = true) (hC : codeR xs e no l [a] = C) (h0 : C ≠ 0) :
    Calls Try.prog 33 #[dk A xs.length c e no, .int .i64 a, .int .i64 l] w fun x w' => x = .returned (.tuple #[.int .i64 0, .int .i64 0, .int .i64 C]) ∧ Gr w w' := by
  have HA := hid fun (w' : World) (b : Nat) (T : TypeId) (XB : Hid (w'.heap[b]? = some (.cells #[.slice A xs.length c, .int .i64 e, .int .i64 no] T))) (hg : Gr w w') => sLeast b T A c xs e no a l w' XB (hid (X.out.keep hg)) hn hh
  rw [hC] at HA
  have c2 : ((C : Int) != 0) = true := by simpa using h0
  clear hh hC h0
  go_enter Try.func33, Try.ntmps33
  go_wp2_with fail
  refine (HA.out _ _ _ (hid (alloc1 (Gr.refl _)).1) ((Gr.refl w).al _)).mono ?_
  rintro x w1 ⟨rfl, rfl⟩
  go_wp2_with fail
  refine bodyPost_ret (v := .tuple #[.int .i64 0, .int .i64 0, .int .i64 C]) (by simp [results, Try.results33, go_sem]) rfl ⟨rfl, (Gr.refl w).al _⟩
set_option maxRecDepth 20000 in
set_option maxHeartbeats 1000000 in
theorem sTwo_yes (A : Option Addr) (c : Nat) (xs : List Int) (e no a l : Int) (w : World) (X : Hid (RdH w A xs)) (hn : xs.length ≤ 1048576) (hh : xs.all okH = true) (hC : codeR xs e no l [a] = 0) :
    Calls Try.prog 33 #[dk A xs.length c e no, .int .i64 a, .int .i64 l] w fun x w' => x = .returned (.tuple #[.int .i64 (headF xs e no l a), .int .i64 (headF xs e no l (wrapI (a + 648000))), .int .i64 0]) ∧ Gr w w' := by
  have HA := hid fun (w' : World) (b : Nat) (T : TypeId) (XB : Hid (w'.heap[b]? = some (.cells #[.slice A xs.length c, .int .i64 e, .int .i64 no] T))) (hg : Gr w w') => sLeast b T A c xs e no a l w' XB (hid (X.out.keep hg)) hn hh
  obtain ⟨hR, ha⟩ := codeR_zero hC
  obtain ⟨a1, a2⟩ := ang_bd (show angB a = true by simpa using ha)
  have HS := hid fun (w' : World) (b : Nat) (T : TypeId) (XB : Hid (w'.heap[b]? = some (.cells #[.slice A xs.length c, .int .i64 e, .int .i64 no] T))) (hg : Gr w w') => sHeadF b T A c xs e no a l w' XB (hid (X.out.keep hg)) hR a1 (by omega)
  obtain ⟨o1, o2⟩ := wrap_bd (a + 648000)
  have HS2 := hid fun (w' : World) (b : Nat) (T : TypeId) (XB : Hid (w'.heap[b]? = some (.cells #[.slice A xs.length c, .int .i64 e, .int .i64 no] T))) (hg : Gr w w') => sHeadF b T A c xs e no (wrapI (a + 648000)) l w' XB (hid (X.out.keep hg)) hR o1 o2
  rw [hC] at HA
  clear hh hC hR ha
  go_enter Try.func33, Try.ntmps33
  go_wp2_with fail
  refine (HA.out _ _ _ (hid (alloc1 (Gr.refl _)).1) ((Gr.refl w).al _)).mono ?_
  rintro x w1 ⟨rfl, rfl⟩
  go_wp2_with fail
  refine (HS.out _ _ _ (hid (alloc1 (Gr.refl _)).1) ((Gr.refl w).al _)).mono ?_
  rintro x w2 ⟨rfl, hg2⟩
  have XB := hid (alloc1 hg2).1
  have G2 := hid (((Gr.refl w).al _).trans hg2)
  clear hg2
  go_wp2_with (go_at_call 48; refine (swrap _ _ (by omega) (by omega)).mono ?_; rintro x w4 ⟨rfl, rfl⟩)
  refine (HS2.out _ _ _ XB G2.out).mono ?_
  rintro x w3 ⟨rfl, hg3⟩
  have G3 := hid (G2.out.trans hg3)
  clear hg3
  go_wp2_with fail
  refine bodyPost_ret (v := .tuple #[.int .i64 (headF xs e no l a), .int .i64 (headF xs e no l (wrapI (a + 648000))), .int .i64 0]) (by simp [results, Try.results33, go_sem]) rfl ⟨rfl, G3.out⟩
theorem bothReadTwo (xs : List Int) (e no a l : Int) (hn : xs.length ≤ 1048576) (hh : xs.all okH = true) : ∃ R R' C : Int,
    (∀ (A : Option Addr) (c : Nat) (w : World), xs.length ≤ c → Hid (RdH w A xs) → Calls Try.prog 33 #[dk A xs.length c e no, .int .i64 a, .int .i64 l] w fun x w' => x = .returned (.tuple #[.int .i64 R, .int .i64 R', .int .i64 C]) ∧ Gr w w') ∧
    (∀ (A : Option Addr) (c : Nat) (w : World), xs.length ≤ c → Hid (RdH w A xs) → Calls Try.prog 34 #[dk A xs.length c e no, .int .i64 a, .int .i64 l] w fun x w' => x = .returned (.tuple #[.int .i64 R, .int .i64 R', .int .i64 C]) ∧ Gr w w') := by
  by_cases h0 : codeR xs e no l [a] = 0
  · exact ⟨_, _, 0, fun A c w _ X => sTwo_yes A c xs e no a l w X hn hh h0, fun A c w hc X => iTwo_yes A c xs e no a l w X hn hh hc h0⟩
  · exact ⟨0, 0, _, fun A c w _ X => sTwo_no A c xs e no a l _ w X hn hh rfl h0, fun A c w _ X => iTwo_no A c xs e no a l _ w X hn hh rfl h0⟩
end Go.Proofs.Ytlekfoboolemgaa
