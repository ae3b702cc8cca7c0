/- WALKS: BestRepeats, of the program. -/
import Derived.Test.YtljmbdjojogbjaaHg
import Derived.Test.YtljmbdjojogbjaaMath2
namespace Go.Proofs.Ytljmbdjojogbjaa
open Go.RowKit Go.Sort

/-- By how much the sum of so many times is off; the best number of times up to k. -/
def offA (H : Int → Int) (s g t : Int) : Int := ((rpS H s g t - t * g).natAbs : Int)
def bst (H : Int → Int) (s g : Int) : Nat → Int
  | 0 => 1
  | k + 1 => if offA H s g ((k : Int) + 1) * bst H s g k < offA H s g (bst H s g k) * ((k : Int) + 1) then (k : Int) + 1 else bst H s g k
theorem bst_bd (H : Int → Int) (s g : Int) : ∀ k : Nat, 1 ≤ bst H s g k ∧ bst H s g k ≤ (k : Int) + 1 ∧ (1 ≤ k → bst H s g k ≤ (k : Int))
  | 0 => by simp [bst]
  | k + 1 => by
    have h := bst_bd H s g k
    simp only [bst]
    push_cast
    split
    · omega
    · refine ⟨h.1, by omega, fun _ => ?_⟩
      rcases Nat.eq_zero_or_pos k with h0 | h0
      · subst h0; simp [bst]
      · have := h.2.2 h0; omega
theorem off_bd2 {H : Int → Int} {s g t : Int} (h : RpB s g t) : 0 ≤ offA H s g t ∧ offA H s g t ≤ 1100000000 := by
  obtain ⟨_, _, b5, b6⟩ := rp_bd (H := H) h
  obtain ⟨m1, m2⟩ := tg_bd h
  unfold offA
  omega
set_option maxRecDepth 20000 in
set_option maxHeartbeats 1000000 in
theorem iOffR (g t z k : Int) (w : World) (z1 : -1000000000 ≤ z) (z2 : z ≤ 1000000000) (m1 : 0 ≤ t * g) (m2 : t * g ≤ 1000000000) :
    Calls Try.prog 57 #[rpd g t z k] w fun x w' => x = .returned (.int .i64 ((z - t * g).natAbs : Int)) ∧ Gr w w' := by
  by_cases h : z - t * g < 0
  · have e : ((z - t * g).natAbs : Int) = -(z - t * g) := by omega
    rw [e]
    go_enter Try.func57, Try.ntmps57
    go_wp2_with fail
    go_ret
    exact ⟨ret_int (by omega), (Gr.refl w).al _⟩
  · have e : ((z - t * g).natAbs : Int) = z - t * g := by omega
    rw [e]
    go_enter Try.func57, Try.ntmps57
    go_wp2_with fail
    go_ret
    exact ⟨ret_int (by omega), (Gr.refl w).al _⟩
set_option maxRecDepth 20000 in
set_option maxHeartbeats 1000000 in
theorem iNearer (g t z k t' z' k' : Int) (w : World) (z1 : -800000000 ≤ z) (z2 : z ≤ 800000000) (m1 : 0 ≤ t * g) (m2 : t * g ≤ 260000000) (z1' : -800000000 ≤ z') (z2' : z' ≤ 800000000) (m1' : 0 ≤ t' * g) (m2' : t' * g ≤ 260000000) (t1 : 1 ≤ t) (t2 : t ≤ 200) (t1' : 1 ≤ t') (t2' : t' ≤ 200) :
    Calls Try.prog 46 #[rpd g t z k, rpd g t' z' k'] w fun x w' => x = .returned (.bool (decide (((z - t * g).natAbs : Int) * t' < ((z' - t' * g).natAbs : Int) * t))) ∧ Gr w w' := by
  have HO := hid fun w => iOffR g t z k w (by omega) (by omega) m1 (by omega)
  have HO' := hid fun w => iOffR g t' z' k' w (by omega) (by omega) m1' (by omega)
  obtain ⟨a, ha⟩ : ∃ a : Int, ((z - t * g).natAbs : Int) = a := ⟨_, rfl⟩
  obtain ⟨a', ha'⟩ : ∃ a : Int, ((z' - t' * g).natAbs : Int) = a := ⟨_, rfl⟩
  have b1 := mul_bdg (x := a) (y := t') (A := 1100000000) (B := 200) (by omega) (by omega) (by omega) (by omega)
  have b2 := mul_bdg (x := a') (y := t) (A := 1100000000) (B := 200) (by omega) (by omega) (by omega) (by omega)
  obtain ⟨_, _⟩ := b1
  obtain ⟨_, _⟩ := b2
  rw [ha, ha']
  rw [ha] at HO
  rw [ha'] at HO'
  clear ha ha'
  go_enter Try.func46, Try.ntmps46
  go_wp2_with fail
  refine wp_reg0 11 (by kernel_rfl) (by kernel_rfl) ?_
  apply Exists.intro
  refine ⟨fun wb hb => ?_, ?_⟩
  · obtain ⟨x0, x1, _, _⟩ := alloc2 (Gr.refl ((w.alloc (.cells #[.int .i64 g, .int .i64 t, .int .i64 z, .int .i64 k] 69)).alloc (.cells #[.int .i64 g, .int .i64 t', .int .i64 z', .int .i64 k'] 69)))
    obtain ⟨_, _, _, _⟩ := hb.at4 x0
    obtain ⟨_, _, _, _⟩ := hb.at4 x1
    clear x0 x1
    simp only [headOps, List.contains, List.elem, reduceIte, Bool.false_eq_true]
    repeat (first | go_big_quiet_step (first | (first | (go_at_call_of 57 (Value.int IntKind.i64 z); exact Calls.of_gr (HO.out _)) | (go_at_call_of 57 (Value.int IntKind.i64 z'); exact Calls.of_gr (HO'.out _)))) | quiet_step (fail))
    exact wpQuiet_nil rfl
  intro w1 hg1
  have G1 := hid ((((Gr.refl w).al _).al _).trans hg1)
  clear hg1
  go_wp2_with fail
  go_ret
  exact ⟨rfl, G1.out⟩
end Go.Proofs.Ytljmbdjojogbjaa
