/- REFUSALS: workOut of a closure that hands back a value and an error. -/
import Derived.Test.YtadpoocafhddeaaDoorRc
namespace Go.Proofs.YtadpoocafhddeaaDoor
open Go.RowKit Go.Sort

set_option maxRecDepth 20000 in
set_option maxHeartbeats 1000000 in
theorem rc_workB (g : Nat) (cap : Array Value) (b : Bool) (ev : Value) (c : Int) (w : World) (E : Hid (ErrT w)) (hen : ∀ w, (callFunc g cap).run Tryd.prog w = .ok (.enter g cap) w) (hG : ∀ w', Gr w w' → Calls Tryd.prog g cap w' fun e w'' => e = .returned (.tuple #[.bool b, ev]) ∧ Gr w' w'') (hc : (ev = .nilIface ∧ c = 0) ∨ ev = .iface 66 (.int .i64 c)) :
    Calls Tryd.prog 68 #[.func (.func 62) #[] #[], .func (.func g) #[] cap] w fun e w' => e = .returned (.tuple #[.bool b, .int .i64 c]) ∧ Gr w w' := by
  have HG := hid hG; clear hG
  rcases hc with ⟨rfl, rfl⟩ | rfl
  · go_enter Tryd.func68, Tryd.ntmps68
    go_wp2_with fail
    refine (rc_toldB 86 _ b (w.heap.size + 1) .nilIface 64 _ (fun _ => by kernel_rfl) (by simp) ?_).mono ?_
    · intro w' hg
      obtain ⟨y0, y1, _, g0⟩ := alloc2 hg
      exact rc_runB g cap b w.heap.size (w.heap.size + 1) .nilIface .nilIface _ w' (by omega) hen y0 y1 (fun w'' h => HG.out _ (g0.trans h)) (.inl rfl)
    · rintro e w1 ⟨rfl, he, ho⟩
      have G1 := hid (ho.2 w (((Gr.refl w).al _).al _) (by omega))
      have _ := cells1 he
      have HE := hid he
      clear ho he
      go_wp2_with (fail)
      go_ret2
      exact ⟨rfl, G1.out⟩
  · go_enter Tryd.func68, Tryd.ntmps68
    go_wp2_with fail
    refine (rc_toldB 86 _ b (w.heap.size + 1) (.iface 66 (.int .i64 c)) 64 _ (fun _ => by kernel_rfl) (by simp) ?_).mono ?_
    · intro w' hg
      obtain ⟨y0, y1, _, g0⟩ := alloc2 hg
      exact rc_runB g cap b w.heap.size (w.heap.size + 1) (.iface 66 (.int .i64 c)) .nilIface _ w' (by omega) hen y0 y1 (fun w'' h => HG.out _ (g0.trans h)) (.inr ⟨_, rfl⟩)
    · rintro e w1 ⟨rfl, he, ho⟩
      have G1 := hid (ho.2 w (((Gr.refl w).al _).al _) (by omega))
      have _ := cells1 he
      have HE := hid he
      clear ho he
      go_wp2_with (go_at_call 62; refine (iRef_yes c _ (E.out.keep G1.out)).mono ?_; rintro e w2 ⟨rfl, g2⟩; have G2 := hid (G1.out.trans g2); clear g2)
      go_ret2
      exact ⟨rfl, G2.out⟩

set_option maxRecDepth 20000 in
set_option maxHeartbeats 1000000 in
theorem rc_workI (g : Nat) (cap : Array Value) (b : Int) (ev : Value) (c : Int) (w : World) (E : Hid (ErrT w)) (hen : ∀ w, (callFunc g cap).run Tryd.prog w = .ok (.enter g cap) w) (hG : ∀ w', Gr w w' → Calls Tryd.prog g cap w' fun e w'' => e = .returned (.tuple #[.int .i64 b, ev]) ∧ Gr w' w'') (hc : (ev = .nilIface ∧ c = 0) ∨ ev = .iface 66 (.int .i64 c)) :
    Calls Tryd.prog 61 #[.func (.func 62) #[] #[], .func (.func g) #[] cap] w fun e w' => e = .returned (.tuple #[.int .i64 b, .int .i64 c]) ∧ Gr w w' := by
  have HG := hid hG; clear hG
  rcases hc with ⟨rfl, rfl⟩ | rfl
  · go_enter Tryd.func61, Tryd.ntmps61
    go_wp2_with fail
    refine (rc_toldI 82 _ b (w.heap.size + 1) .nilIface 64 _ (fun _ => by kernel_rfl) (by simp) ?_).mono ?_
    · intro w' hg
      obtain ⟨y0, y1, _, g0⟩ := alloc2 hg
      exact rc_runI g cap b w.heap.size (w.heap.size + 1) .nilIface .nilIface _ w' (by omega) hen y0 y1 (fun w'' h => HG.out _ (g0.trans h)) (.inl rfl)
    · rintro e w1 ⟨rfl, he, ho⟩
      have G1 := hid (ho.2 w (((Gr.refl w).al _).al _) (by omega))
      have _ := cells1 he
      have HE := hid he
      clear ho he
      go_wp2_with (fail)
      go_ret2
      exact ⟨rfl, G1.out⟩
  · go_enter Tryd.func61, Tryd.ntmps61
    go_wp2_with fail
    refine (rc_toldI 82 _ b (w.heap.size + 1) (.iface 66 (.int .i64 c)) 64 _ (fun _ => by kernel_rfl) (by simp) ?_).mono ?_
    · intro w' hg
      obtain ⟨y0, y1, _, g0⟩ := alloc2 hg
      exact rc_runI g cap b w.heap.size (w.heap.size + 1) (.iface 66 (.int .i64 c)) .nilIface _ w' (by omega) hen y0 y1 (fun w'' h => HG.out _ (g0.trans h)) (.inr ⟨_, rfl⟩)
    · rintro e w1 ⟨rfl, he, ho⟩
      have G1 := hid (ho.2 w (((Gr.refl w).al _).al _) (by omega))
      have _ := cells1 he
      have HE := hid he
      clear ho he
      go_wp2_with (go_at_call 62; refine (iRef_yes c _ (E.out.keep G1.out)).mono ?_; rintro e w2 ⟨rfl, g2⟩; have G2 := hid (G1.out.trans g2); clear g2)
      go_ret2
      exact ⟨rfl, G2.out⟩
end Go.Proofs.YtadpoocafhddeaaDoor
