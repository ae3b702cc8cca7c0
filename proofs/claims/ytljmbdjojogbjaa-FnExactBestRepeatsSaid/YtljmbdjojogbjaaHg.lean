/- WALKS: RepeatAngle: the ends. -/
import Derived.Test.YtljmbdjojogbjaaHf
namespace Go.Proofs.Ytljmbdjojogbjaa
open Go.RowKit Go.Sort

set_option maxRecDepth 20000 in
set_option maxHeartbeats 1000000 in
theorem sRepA_no (A : Option Addr) (c : Nat) (xs : List Int) (e no s g t l C : Int) (w : World) (X : Hid (RdH w A xs)) (hn : xs.length ≤ 1048576) (hh : xs.all okH = true) (hC : codeP xs e no s g t l = C) (h0 : C ≠ 0) :
    Calls Try.prog 19 #[dk A xs.length c e no, .int .i64 s, .int .i64 g, .int .i64 t, .int .i64 l] w fun x w' => x = .returned (.tuple #[fr 0 0, .int .i64 0, .int .i64 C]) ∧ Gr w w' := by
  have HA := hid fun (w' : World) (b : Nat) (T : TypeId) (XB : Hid (w'.heap[b]? = some (.cells #[.slice A xs.length c, .int .i64 e, .int .i64 no] T))) (hg : Gr w w') => sCheckP b T A c xs e no s g t l w' XB (hid (X.out.keep hg)) hn hh
  rw [hC] at HA
  have c2 : ((C : Int) != 0) = true := by simpa using h0
  clear hh hC h0
  go_enter Try.func19, Try.ntmps19
  go_wp2_with fail
  refine (HA.out _ _ _ (hid (alloc2 (Gr.refl _)).1) (((Gr.refl w).al _).al _)).mono ?_
  rintro x w1 ⟨rfl, rfl⟩
  go_wp2_with fail
  refine bodyPost_ret (v := .tuple #[fr 0 0, .int .i64 0, .int .i64 C]) (by simp [results, Try.results19, go_sem, *]) rfl ⟨rfl, ((Gr.refl w).al _).al _⟩
set_option maxRecDepth 20000 in
set_option maxHeartbeats 1000000 in
theorem sRepA_yes (A : Option Addr) (c : Nat) (xs : List Int) (e no s g t l : Int) (w : World) (X : Hid (RdH w A xs)) (hn : xs.length ≤ 1048576) (hh : xs.all okH = true) (hC : codeP xs e no s g t l = 0) :
    Calls Try.prog 19 #[dk A xs.length c e no, .int .i64 s, .int .i64 g, .int .i64 t, .int .i64 l] w fun x w' => x = .returned (.tuple #[fr (redP (rpS (headF xs e no l) s g t) t) (redQ (rpS (headF xs e no l) s g t) t), .int .i64 (rpK (headF xs e no l) s g t), .int .i64 0]) ∧ Gr w w' := by
  have HA := hid fun (w' : World) (b : Nat) (T : TypeId) (XB : Hid (w'.heap[b]? = some (.cells #[.slice A xs.length c, .int .i64 e, .int .i64 no] T))) (hg : Gr w w') => sCheckP b T A c xs e no s g t l w' XB (hid (X.out.keep hg)) hn hh
  obtain ⟨hR, hB⟩ := codeP_zero hC
  have HS := hid fun (w' : World) (b : Nat) (T : TypeId) (XB : Hid (w'.heap[b]? = some (.cells #[.slice A xs.length c, .int .i64 e, .int .i64 no] T))) (hg : Gr w w') => sRepeat b T A c xs e no s g t l w' XB (hid (X.out.keep hg)) hR hB
  rw [hC] at HA
  clear hh hC hR hB
  go_enter Try.func19, Try.ntmps19
  go_wp2_with fail
  refine (HA.out _ _ _ (hid (alloc2 (Gr.refl _)).1) (((Gr.refl w).al _).al _)).mono ?_
  rintro x w1 ⟨rfl, rfl⟩
  go_wp2_with fail
  refine (HS.out _ _ _ (hid (alloc2 (Gr.refl _)).1) (((Gr.refl w).al _).al _)).mono ?_
  rintro x w2 ⟨rfl, hg2⟩
  obtain ⟨_, x1, _, g2⟩ := alloc2 hg2
  obtain ⟨_, _⟩ := cells2 x1
  have _ := fz x1
  have _ := ltb x1
  have G2 := hid g2
  clear hg2 x1 g2
  go_wp2_with fail
  refine bodyPost_ret (v := .tuple #[fr (redP (rpS (headF xs e no l) s g t) t) (redQ (rpS (headF xs e no l) s g t) t), .int .i64 (rpK (headF xs e no l) s g t), .int .i64 0]) (by simp [results, Try.results19, go_sem, *]) rfl ⟨rfl, ?_⟩
  exact (G2.out.setCell (by simp) _).setCell (by simp) _
theorem bothRepeatAngle (xs : List Int) (e no s g t l : Int) (hn : xs.length ≤ 1048576) (hh : xs.all okH = true) : ∃ P Q R C : Int,
    (∀ (A : Option Addr) (c : Nat) (w : World), xs.length ≤ c → Hid (RdH w A xs) → Calls Try.prog 19 #[dk A xs.length c e no, .int .i64 s, .int .i64 g, .int .i64 t, .int .i64 l] w fun x w' => x = .returned (.tuple #[fr P Q, .int .i64 R, .int .i64 C]) ∧ Gr w w') ∧
    (∀ (A : Option Addr) (c : Nat) (w : World), xs.length ≤ c → Hid (RdH w A xs) → Calls Try.prog 20 #[dk A xs.length c e no, .int .i64 s, .int .i64 g, .int .i64 t, .int .i64 l] w fun x w' => x = .returned (.tuple #[fr P Q, .int .i64 R, .int .i64 C]) ∧ Gr w w') := by
  by_cases h0 : codeP xs e no s g t l = 0
  · exact ⟨_, _, _, 0, fun A c w _ X => sRepA_yes A c xs e no s g t l w X hn hh h0, fun A c w hc X => iRepA_yes A c xs e no s g t l w X hn hh hc h0⟩
  · exact ⟨0, 0, 0, _, fun A c w _ X => sRepA_no A c xs e no s g t l _ w X hn hh rfl h0, fun A c w _ X => iRepA_no A c xs e no s g t l _ w X hn hh rfl h0⟩
end Go.Proofs.Ytljmbdjojogbjaa
