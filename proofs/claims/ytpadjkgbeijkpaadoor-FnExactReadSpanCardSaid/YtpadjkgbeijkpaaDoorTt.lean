/- TEXTS READ: ReadSpan of the program; both sides joined. -/
import Derived.Test.YtpadjkgbeijkpaaDoorTu
namespace Go.Proofs.YtpadjkgbeijkpaaDoor
open Go.RowKit Go.Sort

/-- What strings.Cut gives at "..". -/
def cutQ (s o u : ByteArray) (b : Bool) : Prop := Lib.cut s.data.toList [46, 46] = (o.data.toList, u.data.toList, b)
theorem iCutQ {s o u : ByteArray} {b : Bool} (h : cutQ s o u b) (w : World) (hs : s.size ≤ 1048576) (T : Hid (TxW w)) :
    Calls Tryd.prog 33 #[.string s, .string ⟨#[46, 46]⟩] w fun e w' => e = .returned (.tuple #[.string o, .string u, .bool b]) ∧ Gr w w' := by
  refine (iCut s ⟨#[46, 46]⟩ w hs T).mono ?_
  rintro e w' ⟨he, hg⟩
  refine ⟨?_, hg⟩
  rw [he]
  unfold cutQ at h
  have e1 : (⟨#[46, 46]⟩ : ByteArray).data.toList = [46, 46] := rfl
  rw [e1, h]
set_option maxRecDepth 20000 in
set_option maxHeartbeats 2000000 in
theorem iRSp (s o u : ByteArray) (bb : Bool) (a b c d C1 C2 e0 e1 e2 e3 C : Int) (w : World) (hs : s.size ≤ 1048576) (T : Hid (TxW w)) (hc : cutQ s o u bb)
    (hl : ∀ w, Hid (TxW w) → Calls Tryd.prog 10 #[.string o] w fun e w' => e = .returned (.tuple #[fr a b, .int .i64 C1]) ∧ Bl w w')
    (hm : ∀ w, Hid (TxW w) → Calls Tryd.prog 10 #[.string u] w fun e w' => e = .returned (.tuple #[fr c d, .int .i64 C2]) ∧ Bl w w')
    (hcase : (C1 = 0 ∧ C2 = 0 ∧ spB a b c d = true ∧ (e0 = a ∧ e1 = b ∧ e2 = c ∧ e3 = d) ∧ C = 0) ∨ (C1 = 0 ∧ C2 = 0 ∧ spB a b c d = false ∧ (e0 = 0 ∧ e1 = 0 ∧ e2 = 0 ∧ e3 = 0) ∧ C = 5) ∨ (C1 = 0 ∧ C2 = 5 ∧ True ∧ (e0 = 0 ∧ e1 = 0 ∧ e2 = 0 ∧ e3 = 0) ∧ C = 5) ∨ (C1 = 5 ∧ C2 = 0 ∧ True ∧ (e0 = 0 ∧ e1 = 0 ∧ e2 = 0 ∧ e3 = 0) ∧ C = 5) ∨ (C1 = 5 ∧ C2 = 5 ∧ True ∧ (e0 = 0 ∧ e1 = 0 ∧ e2 = 0 ∧ e3 = 0) ∧ C = 5)) :
    Calls Tryd.prog 13 #[.string s] w fun e w' => e = .returned (.tuple #[sp e0 e1 e2 e3, .int .i64 C]) ∧ Bl w w' := by
  have HC := hid fun (w : World) (T : Hid (TxW w)) => iCutQ hc w hs T
  have HL := hid hl; have HM := hid hm
  clear hc hs hl hm
  have q00 : ∀ w : World, (Op.equalIn 10000 76 (.agg #[.int .i64 0, .int .i64 0]) (.agg #[.int .i64 0, .int .i64 0])).run Tryd.prog w = .ok true w := fun w => by kernel_rfl
  have q05 : ∀ w : World, (Op.equalIn 10000 76 (.agg #[.int .i64 0, .int .i64 5]) (.agg #[.int .i64 0, .int .i64 0])).run Tryd.prog w = .ok false w := fun w => by kernel_rfl
  have q50 : ∀ w : World, (Op.equalIn 10000 76 (.agg #[.int .i64 5, .int .i64 0]) (.agg #[.int .i64 0, .int .i64 0])).run Tryd.prog w = .ok false w := fun w => by kernel_rfl
  have q55 : ∀ w : World, (Op.equalIn 10000 76 (.agg #[.int .i64 5, .int .i64 5]) (.agg #[.int .i64 0, .int .i64 0])).run Tryd.prog w = .ok false w := fun w => by kernel_rfl
  rcases hcase with ⟨rfl, rfl, hv, ⟨rfl, rfl, rfl, rfl⟩, rfl⟩ | ⟨rfl, rfl, hv, ⟨rfl, rfl, rfl, rfl⟩, rfl⟩ | ⟨rfl, rfl, hv, ⟨rfl, rfl, rfl, rfl⟩, rfl⟩ | ⟨rfl, rfl, hv, ⟨rfl, rfl, rfl, rfl⟩, rfl⟩ | ⟨rfl, rfl, hv, ⟨rfl, rfl, rfl, rfl⟩, rfl⟩
  all_goals
    have HV := hid hv; clear hv
    go_enter Tryd.func13, Tryd.ntmps13
    go_wp2_with fail
    refine (HC.out _ (hid (T.out.gr ((Gr.refl w).al _)))).mono ?_
    rintro e w1 ⟨rfl, hg⟩
    obtain ⟨x, hz, g⟩ := alloc1 hg
    have X1 := hid x; have B1 := hid g.below; clear hg g x hz
    go_wp2_with fail
    refine (HL.out _ (hid (T.out.keep B1.out))).mono ?_
    rintro e w2 ⟨rfl, hb⟩
    have X2 := hid (bl_keep hb X1.out); have B2 := hid (Bl.tr B1.out hb); clear hb
    go_wp2_with fail
    refine (HM.out _ (hid (T.out.keep (B2.out.alloc (Below.size B2.out) _)))).mono ?_
    rintro e w3 ⟨rfl, hb⟩
    have Y3 := hid (bl_keep hb (alloc1 (w := w2) (Gr.refl _)).1)
    have X3 := hid (bl_keep hb (((Gr.refl w2).al _).keep X2.out)); have B3 := hid (Bl.tr (B2.out.alloc (Below.size B2.out) _) hb); clear hb
    have _ := ltb X3.out; have _ := fz X3.out; obtain ⟨_, _, _, _⟩ := cells4 X3.out
    have _ := ltb Y3.out; obtain ⟨_, _⟩ := cells2 Y3.out
  · go_wp2_with fail
    refine (iSpan_t _ _ _ _ _ HV.out).mono ?_
    rintro e w4 ⟨rfl, hg⟩
    obtain ⟨x0, x1, hz, g⟩ := alloc2 hg
    have X4 := hid (g.keep X3.out); have Y4 := hid x1; have B4 := hid (Bl.tr B3.out g.below); clear hg g x0 x1 hz
    have _ := ltb X4.out; have _ := fz X4.out; obtain ⟨_, _, _, _⟩ := cells4 X4.out
    have _ := ltb Y4.out; obtain ⟨_, _, _, _⟩ := cells4 Y4.out
    go_wp2
    refine bodyPost_ret (v := .tuple #[sp e0 e1 e2 e3, .int .i64 0]) (by simp [results, Tryd.results13, go_sem, *]) rfl ⟨rfl, ?_⟩
    exact (((B4.out.setCell (by simp) _).setCell (by simp) _).setCell (by simp) _).setCell (by simp) _
  · go_wp2_with fail
    refine (iSpan_f _ _ _ _ _ HV.out).mono ?_
    rintro e w4 ⟨rfl, hg⟩
    obtain ⟨x0, x1, hz, g⟩ := alloc2 hg
    have X4 := hid (g.keep X3.out); have Y4 := hid x1; have B4 := hid (Bl.tr B3.out g.below); clear hg g x0 x1 hz
    have _ := ltb X4.out; have _ := fz X4.out; obtain ⟨_, _, _, _⟩ := cells4 X4.out
    have _ := ltb Y4.out; obtain ⟨_, _, _, _⟩ := cells4 Y4.out
    go_wp2
    refine bodyPost_ret (v := .tuple #[sp 0 0 0 0, .int .i64 5]) (by simp [results, Tryd.results13, go_sem, *]) rfl ⟨rfl, ?_⟩
    exact (((B4.out.setCell (by simp) _).setCell (by simp) _).setCell (by simp) _).setCell (by simp) _
  all_goals
    go_wp2
    refine bodyPost_ret (v := .tuple #[sp 0 0 0 0, .int .i64 5]) (by simp [results, Tryd.results13, go_sem, *]) rfl ⟨rfl, ?_⟩
    exact ((((((B3.out.setCell (by simp) _).setCell (by simp) _).setCell (by simp) _).setCell (by simp) _).alloc (by simp; exact Below.size B3.out) _).alloc (by simp; have := Below.size B3.out; omega) _)
end Go.Proofs.YtpadjkgbeijkpaaDoor
