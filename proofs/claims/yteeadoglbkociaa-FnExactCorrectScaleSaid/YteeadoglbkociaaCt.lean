/- WALKS: CorrectScale: the program. -/
import Derived.Test.YteeadoglbkociaaCs
import Derived.Test.YteeadoglbkociaaEh
namespace Go.Proofs.Yteeadoglbkociaa
open Go.RowKit Go.Sort

set_option maxRecDepth 20000 in
set_option maxHeartbeats 400000 in
theorem iCS_0 (a b : Int) (A B : Option Addr) (c d : Nat) (xs ys : List (Int × Int)) (w : World) (X : Hid (RdF w A xs)) (hn : xs.length ≤ 1048576) (h : sclB a b xs = false) :
    Calls Try.prog 50 #[scl a b A xs.length c, .slice B ys.length d] w fun e w' => e = .returned (.tuple #[scl 0 0 none 0 0, .int .i64 1]) ∧ Gr w w' := by
  have h := hid h
  go_enter Try.func50, Try.ntmps50
  go_wp2_with fail
  refine (iScF a b A c xs _ (hid (X.out.keep ((((Gr.refl w).al _).al _).al _))) hn h.out).mono ?_
  rintro e w1 ⟨rfl, hg1⟩
  obtain ⟨x1_0, x1_1, x1_2, hz1, g1⟩ := alloc3 hg1
  obtain ⟨_, _, _⟩ := cells3 x1_0
  have _ := fz x1_0
  have _ := ltb x1_0
  have _ := cells1 x1_1
  have _ := fz x1_1
  have _ := ltb x1_1
  obtain ⟨_, _, _⟩ := cells3 x1_2
  have _ := fz x1_2
  have _ := ltb x1_2
  have X1_0 := hid x1_0; clear x1_0
  have X1_1 := hid x1_1; clear x1_1
  have X1_2 := hid x1_2; clear x1_2
  have G1 := hid (g1)
  clear hg1 g1
  go_wp2
  refine bodyPost_ret (v := .tuple #[scl 0 0 none 0 0, .int .i64 1]) (by simp [results, Try.results50, go_sem, *]) rfl ⟨rfl, ?_⟩
  exact (((G1.out).setCell (by simp <;> omega) _).setCell (by simp <;> omega) _).setCell (by simp <;> omega) _
set_option maxRecDepth 20000 in
set_option maxHeartbeats 400000 in
theorem iCS_1 (a b : Int) (A B : Option Addr) (c d : Nat) (xs ys : List (Int × Int)) (w : World) (X : Hid (RdF w A xs)) (Y : Hid (RdF w B ys)) (hn : xs.length ≤ 1048576) (hm : ys.length ≤ 1048576) (h : sclB a b xs = true) (h2 : allF ys = false) :
    Calls Try.prog 50 #[scl a b A xs.length c, .slice B ys.length d] w fun e w' => e = .returned (.tuple #[scl 0 0 none 0 0, .int .i64 1]) ∧ Gr w w' := by
  have h := hid h
  have HS := hid fun (w' : World) (Z : Hid (RdF w' B ys)) => h2 ▸ iFracs B d ys w' Z hm
  go_enter Try.func50, Try.ntmps50
  go_wp2_with fail
  refine (iScT a b A c xs _ (hid (X.out.keep ((((Gr.refl w).al _).al _).al _))) hn h.out).mono ?_
  rintro e w1 ⟨rfl, hg1⟩
  obtain ⟨x1_0, x1_1, x1_2, hz1, g1⟩ := alloc3 hg1
  obtain ⟨_, _, _⟩ := cells3 x1_0
  have _ := fz x1_0
  have _ := ltb x1_0
  have _ := cells1 x1_1
  have _ := fz x1_1
  have _ := ltb x1_1
  obtain ⟨_, _, _⟩ := cells3 x1_2
  have _ := fz x1_2
  have _ := ltb x1_2
  have X1_0 := hid x1_0; clear x1_0
  have X1_1 := hid x1_1; clear x1_1
  have X1_2 := hid x1_2; clear x1_2
  have G1 := hid (g1)
  clear hg1 g1
  go_wp2_with fail
  refine (HS.out _ (hid (Y.out.keep G1.out))).mono ?_
  rintro e w2 ⟨rfl, hg2⟩
  have x2_1 := hg2.keep X1_0.out
  have x2_2 := hg2.keep X1_1.out
  have x2_3 := hg2.keep X1_2.out
  obtain ⟨_, _, _⟩ := cells3 x2_1
  have _ := fz x2_1
  have _ := ltb x2_1
  have _ := cells1 x2_2
  have _ := fz x2_2
  have _ := ltb x2_2
  obtain ⟨_, _, _⟩ := cells3 x2_3
  have _ := fz x2_3
  have _ := ltb x2_3
  have X2_1 := hid x2_1; clear x2_1
  have X2_2 := hid x2_2; clear x2_2
  have X2_3 := hid x2_3; clear x2_3
  have G2 := hid (G1.out.trans hg2)
  clear hg2
  go_wp2
  refine bodyPost_ret (v := .tuple #[scl 0 0 none 0 0, .int .i64 1]) (by simp [results, Try.results50, go_sem, *]) rfl ⟨rfl, ?_⟩
  exact (((G2.out).setCell (by simp <;> omega) _).setCell (by simp <;> omega) _).setCell (by simp <;> omega) _
set_option maxRecDepth 20000 in
set_option maxHeartbeats 400000 in
theorem iCS_2 (a b : Int) (A B : Option Addr) (c d : Nat) (xs ys : List (Int × Int)) (w : World) (X : Hid (RdF w A xs)) (Y : Hid (RdF w B ys)) (hn : xs.length ≤ 1048576) (hm : ys.length ≤ 1048576) (h : sclB a b xs = true) (h2 : allF ys = true) (h3 : ys.length ≠ xs.length) :
    Calls Try.prog 50 #[scl a b A xs.length c, .slice B ys.length d] w fun e w' => e = .returned (.tuple #[scl 0 0 none 0 0, .int .i64 2]) ∧ Gr w w' := by
  have h := hid h
  have h4 : ((ys.length : Int) == (xs.length : Int)) = false := by simp; omega
  have HS := hid fun (w' : World) (Z : Hid (RdF w' B ys)) => h2 ▸ iFracs B d ys w' Z hm
  go_enter Try.func50, Try.ntmps50
  go_wp2_with fail
  refine (iScT a b A c xs _ (hid (X.out.keep ((((Gr.refl w).al _).al _).al _))) hn h.out).mono ?_
  rintro e w1 ⟨rfl, hg1⟩
  obtain ⟨x1_0, x1_1, x1_2, hz1, g1⟩ := alloc3 hg1
  obtain ⟨_, _, _⟩ := cells3 x1_0
  have _ := fz x1_0
  have _ := ltb x1_0
  have _ := cells1 x1_1
  have _ := fz x1_1
  have _ := ltb x1_1
  obtain ⟨_, _, _⟩ := cells3 x1_2
  have _ := fz x1_2
  have _ := ltb x1_2
  have X1_0 := hid x1_0; clear x1_0
  have X1_1 := hid x1_1; clear x1_1
  have X1_2 := hid x1_2; clear x1_2
  have G1 := hid (g1)
  clear hg1 g1
  go_wp2_with fail
  refine (HS.out _ (hid (Y.out.keep G1.out))).mono ?_
  rintro e w2 ⟨rfl, hg2⟩
  have x2_1 := hg2.keep X1_0.out
  have x2_2 := hg2.keep X1_1.out
  have x2_3 := hg2.keep X1_2.out
  obtain ⟨_, _, _⟩ := cells3 x2_1
  have _ := fz x2_1
  have _ := ltb x2_1
  have _ := cells1 x2_2
  have _ := fz x2_2
  have _ := ltb x2_2
  obtain ⟨_, _, _⟩ := cells3 x2_3
  have _ := fz x2_3
  have _ := ltb x2_3
  have X2_1 := hid x2_1; clear x2_1
  have X2_2 := hid x2_2; clear x2_2
  have X2_3 := hid x2_3; clear x2_3
  have G2 := hid (G1.out.trans hg2)
  clear hg2
  go_wp2
  refine bodyPost_ret (v := .tuple #[scl 0 0 none 0 0, .int .i64 2]) (by simp [results, Try.results50, go_sem, *]) rfl ⟨rfl, ?_⟩
  exact (((G2.out).setCell (by simp <;> omega) _).setCell (by simp <;> omega) _).setCell (by simp <;> omega) _
set_option maxRecDepth 20000 in
set_option maxHeartbeats 2000000 in
theorem iCS_4 (a b : Int) (A B : Option Addr) (c d : Nat) (xs ys : List (Int × Int)) (w : World) (X : Hid (RdF w A xs)) (Y : Hid (RdF w B ys)) (h : sclB a b xs = true) (h2 : allF ys = true) (h3 : Hid (ys.length = xs.length)) :
    Calls Try.prog 50 #[scl a b A xs.length c, .slice B xs.length d] w fun e w' => (AllC xs ys ∧ ((sclB a b (csL xs ys) = true ∧ GivesS w w' e a b (csL xs ys) 0) ∨ (sclB a b (csL xs ys) = false ∧ GivesS w w' e 0 0 [] 4))) ∨ (¬ AllC xs ys ∧ GivesS w w' e 0 0 [] 3) := by
  have hS := scl_of h
  have hl : xs.length ≤ 60 := hS.hi
  have hl1 : 2 ≤ xs.length := hS.lo
  have hn : xs.length ≤ 1048576 := by omega
  have HCE := hid fun (w' : World) (k1 k2 : Nat) (Z1 : Hid (w'.heap[k1]? = some (.cells #[.int .i64 a, .int .i64 b, .slice A xs.length c] 76))) (Z2 : Hid (w'.heap[k2]? = some (.cells #[.slice B xs.length d] 45))) (Z : Hid (RdF w' A xs)) (Z' : Hid (RdF w' B ys)) => cco a b A B c d k1 k2 xs ys w' _ _ Z1 Z2 Z Z' (by omega) (by omega) h3 hS.all h2
  have HS := hid fun (w' : World) (Z : Hid (RdF w' B ys)) => h3.out ▸ h2 ▸ iFracs B d ys w' Z (by rw [h3.out]; exact hn)
  have HLEN : Hid ((csL xs ys).length = xs.length) := hid (csL_len h3.out)
  have h := hid h
  clear hS h2
  by_cases hok : AllC xs ys
  · have HOK := hid hok; clear hok
    go_enter Try.func50, Try.ntmps50
    go_wp2_with fail
    refine (iScT a b A c xs _ (hid (X.out.keep ((((Gr.refl w).al _).al _).al _))) hn h.out).mono ?_
    rintro e w1 ⟨rfl, hg1⟩
    obtain ⟨x1_0, x1_1, x1_2, hz1, g1⟩ := alloc3 hg1
    obtain ⟨_, _, _⟩ := cells3 x1_0
    have _ := fz x1_0
    have _ := ltb x1_0
    have _ := cells1 x1_1
    have _ := fz x1_1
    have _ := ltb x1_1
    obtain ⟨_, _, _⟩ := cells3 x1_2
    have _ := fz x1_2
    have _ := ltb x1_2
    have X1_0 := hid x1_0; clear x1_0
    have X1_1 := hid x1_1; clear x1_1
    have X1_2 := hid x1_2; clear x1_2
    have G1 := hid (g1)
    clear hg1 g1
    go_wp2_with fail
    refine (HS.out _ (hid (Y.out.keep G1.out))).mono ?_
    rintro e w2 ⟨rfl, hg2⟩
    have x2_1 := hg2.keep X1_0.out
    have x2_2 := hg2.keep X1_1.out
    have x2_3 := hg2.keep X1_2.out
    obtain ⟨_, _, _⟩ := cells3 x2_1
    have _ := fz x2_1
    have _ := ltb x2_1
    have _ := cells1 x2_2
    have _ := fz x2_2
    have _ := ltb x2_2
    obtain ⟨_, _, _⟩ := cells3 x2_3
    have _ := fz x2_3
    have _ := ltb x2_3
    have X2_1 := hid x2_1; clear x2_1
    have X2_2 := hid x2_2; clear x2_2
    have X2_3 := hid x2_3; clear x2_3
    have G2 := hid (G1.out.trans hg2)
    clear hg2
    go_wp2_with fail
    refine (toldS_ok 120 #[.pointer (some ⟨w.heap.size, 0, none⟩), .pointer (some ⟨w.heap.size + 1, 0, none⟩)] a b xs.length (csL xs ys) _ (fun _ => by kernel_rfl) fun w' hg' => (HCE.out w' _ _ (hid (hg'.keep X2_1.out)) (hid (hg'.keep X2_2.out)) (hid (X.out.keep (G2.out.trans hg'))) (hid (Y.out.keep (G2.out.trans hg')))).mono ?_).mono ?_
    · rintro e w'' ⟨⟨_, A', c', rfl, own⟩ | ⟨hv, _⟩, hg⟩
      · exact ⟨A', c', rfl, own, hg⟩
      · exact absurd HOK.out hv
    rintro e w4 ⟨A', c', rfl, own, hg4⟩
    have OWN := hid own; have G4 := hid (G2.out.trans hg4)
    have Y4 := hid (hg4.keep X2_3.out)
    have hb : w.heap.size + 1 + 1 < w2.heap.size := ltb X2_3.out
    have OWN4 := hid (own_gr OWN.out ((Gr.refl w4).al (.cells #[.int .i64 a, .int .i64 b, .slice A' xs.length c'] 76)))
    have own5 : (w4.alloc (.cells #[.int .i64 a, .int .i64 b, .slice A' xs.length c'] 76)).ownsRow w2.heap.size 25 2 (.slice A' (csL xs ys).length c') (csL xs ys).length (flatL (csL xs ys)) := by rw [HLEN.out]; exact OWN4.out
    have RO : Hid (RdF (w4.alloc (.cells #[.int .i64 a, .int .i64 b, .slice A' xs.length c'] 76)) A' (csL xs ys)) := hid (RdF.of_ownF own5)
    have Y5 := hid (((Gr.refl w4).al (.cells #[.int .i64 a, .int .i64 b, .slice A' xs.length c'] 76)).keep Y4.out)
    clear own hg4 own5
    obtain ⟨_, _, _⟩ := cells3 Y4.out
    have _ := fz Y4.out
    have _ := ltb Y4.out
    cases hsc : sclB a b (csL xs ys) with
    | true =>
      have HSC := hid hsc
      have HOR := hid fun (w' : World) (Z : Hid (RdF w' A' (csL xs ys))) => HLEN.out ▸ iOr_t 4 a b A' c' (csL xs ys) w' Z (by rw [HLEN.out]; exact hn) HSC.out
      go_wp2_with fail
      refine (HOR.out _ RO).mono ?_
      rintro e w7 ⟨rfl, hg7⟩
      have OWN7 := hid (own_gr OWN4.out hg7); have Z7 := hid (hg7.keep Y5.out); have G7 := hid ((G4.out.al (.cells #[.int .i64 a, .int .i64 b, .slice A' xs.length c'] 76)).trans hg7)
      clear hg7 hsc
      obtain ⟨_, _, _⟩ := cells3 Z7.out
      have _ := fz Z7.out
      have _ := ltb Z7.out
      go_wp2_with fail
      refine bodyPost_ret (v := .tuple #[scl a b A' xs.length c', .int .i64 0]) (by simp [results, Try.results50, go_sem, *]) rfl ?_
      exact .inl ⟨HOK.out, .inl ⟨HSC.out, A', c', by rw [HLEN.out], by rw [HLEN.out]; exact own_base (base' := w.heap.size) (own_low (own_low (own_low OWN7.out (by simpa using hb) _) (by simpa using hb) _) (by simpa using hb) _) (by omega), ((G7.out.setCell (by simp; omega) _).setCell (by simp; omega) _).setCell (by simp; omega) _⟩⟩
    | false =>
      have HSC := hid hsc
      have HOR := hid fun (w' : World) (Z : Hid (RdF w' A' (csL xs ys))) => HLEN.out ▸ iOr_f 4 a b A' c' (csL xs ys) w' Z (by rw [HLEN.out]; exact hn) HSC.out
      go_wp2_with fail
      refine (HOR.out _ RO).mono ?_
      rintro e w7 ⟨rfl, hg7⟩
      have Z7 := hid (hg7.keep Y5.out); have G7 := hid ((G4.out.al (.cells #[.int .i64 a, .int .i64 b, .slice A' xs.length c'] 76)).trans hg7)
      clear hg7 hsc
      obtain ⟨_, _, _⟩ := cells3 Z7.out
      have _ := fz Z7.out
      have _ := ltb Z7.out
      go_wp2_with fail
      refine bodyPost_ret (v := .tuple #[scl 0 0 none 0 0, .int .i64 4]) (by simp [results, Try.results50, go_sem, *]) rfl ?_
      exact .inl ⟨HOK.out, .inr ⟨HSC.out, _, _, rfl, own_nilF _ _, ((G7.out.setCell (by simp; omega) _).setCell (by simp; omega) _).setCell (by simp; omega) _⟩⟩
  · have HOK := hid hok; clear hok
    go_enter Try.func50, Try.ntmps50
    go_wp2_with fail
    refine (iScT a b A c xs _ (hid (X.out.keep ((((Gr.refl w).al _).al _).al _))) hn h.out).mono ?_
    rintro e w1 ⟨rfl, hg1⟩
    obtain ⟨x1_0, x1_1, x1_2, hz1, g1⟩ := alloc3 hg1
    obtain ⟨_, _, _⟩ := cells3 x1_0
    have _ := fz x1_0
    have _ := ltb x1_0
    have _ := cells1 x1_1
    have _ := fz x1_1
    have _ := ltb x1_1
    obtain ⟨_, _, _⟩ := cells3 x1_2
    have _ := fz x1_2
    have _ := ltb x1_2
    have X1_0 := hid x1_0; clear x1_0
    have X1_1 := hid x1_1; clear x1_1
    have X1_2 := hid x1_2; clear x1_2
    have G1 := hid (g1)
    clear hg1 g1
    go_wp2_with fail
    refine (HS.out _ (hid (Y.out.keep G1.out))).mono ?_
    rintro e w2 ⟨rfl, hg2⟩
    have x2_1 := hg2.keep X1_0.out
    have x2_2 := hg2.keep X1_1.out
    have x2_3 := hg2.keep X1_2.out
    obtain ⟨_, _, _⟩ := cells3 x2_1
    have _ := fz x2_1
    have _ := ltb x2_1
    have _ := cells1 x2_2
    have _ := fz x2_2
    have _ := ltb x2_2
    obtain ⟨_, _, _⟩ := cells3 x2_3
    have _ := fz x2_3
    have _ := ltb x2_3
    have X2_1 := hid x2_1; clear x2_1
    have X2_2 := hid x2_2; clear x2_2
    have X2_3 := hid x2_3; clear x2_3
    have G2 := hid (G1.out.trans hg2)
    clear hg2
    go_wp2_with fail
    refine (toldS_great 120 #[.pointer (some ⟨w.heap.size, 0, none⟩), .pointer (some ⟨w.heap.size + 1, 0, none⟩)] _ (fun _ => by kernel_rfl) fun w' hg' => (HCE.out w' _ _ (hid (hg'.keep X2_1.out)) (hid (hg'.keep X2_2.out)) (hid (X.out.keep (G2.out.trans hg'))) (hid (Y.out.keep (G2.out.trans hg')))).mono ?_).mono ?_
    · rintro e w'' ⟨⟨hv, _⟩ | ⟨_, hp⟩, hg⟩
      · exact absurd hv HOK.out
      · exact ⟨hp, hg⟩
    rintro e w4 ⟨rfl, hg4⟩
    have G4 := hid (G2.out.trans hg4)
    have Y4 := hid (hg4.keep X2_3.out)
    clear hg4
    obtain ⟨_, _, _⟩ := cells3 Y4.out
    have _ := fz Y4.out
    have _ := ltb Y4.out
    go_wp2_with fail
    refine bodyPost_ret (v := .tuple #[scl 0 0 none 0 0, .int .i64 3]) (by simp [results, Try.results50, go_sem, *]) rfl ?_
    exact .inr ⟨HOK.out, _, _, rfl, own_nilF _ _, (((G4.out.setCell (by simp; omega) _).setCell (by simp; omega) _).setCell (by simp; omega) _).al _⟩
end Go.Proofs.Yteeadoglbkociaa
