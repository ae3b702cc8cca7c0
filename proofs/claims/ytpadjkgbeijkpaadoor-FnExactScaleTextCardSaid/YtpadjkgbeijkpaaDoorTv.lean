/- TEXTS READ: the program's ReadFrac. -/
import Derived.Test.YtpadjkgbeijkpaaDoorTs
import Derived.Shelf.Vars
namespace Go.Proofs.YtpadjkgbeijkpaaDoor
open Go.RowKit Go.Sort

/-- What readers of numbers ask of the library's variables. -/
structure TxW (w : World) : Prop where
  pow : Pow w
  ml : ∃ m, w.cell? ⟨0, 0, none⟩ = some (.int .i64 m)
  es : ∃ tp p, w.var? Tryd.prog "strconv.ErrSyntax" = some #[.iface tp p]
  er : ∃ tp p, w.var? Tryd.prog "strconv.ErrRange" = some #[.iface tp p]
theorem es_at : Tryd.prog.globalNamed "strconv.ErrSyntax" = some 1 := by kernel_rfl
theorem er_at : Tryd.prog.globalNamed "strconv.ErrRange" = some 2 := by kernel_rfl
abbrev Bl (w w' : World) : Prop := Below w.heap.size w w'
theorem Bl.tr {a b c : World} (h : Bl a b) (k : Bl b c) : Bl a c := Below.trans h (Below.mono k h.size)
theorem TxW.keep {w w' : World} (h : TxW w) (hb : Bl w w') : TxW w' := by
  obtain ⟨h1, ⟨m, h2⟩, ⟨tp, p, h3⟩, ⟨tp', p', h4⟩⟩ := h
  exact ⟨Joins.tab_stays pow_at h1 hb (Nat.le_refl _), ⟨m, (Below.cell hb (World.block_lt_of_cell? _ _ h2)).trans h2⟩, ⟨tp, p, Joins.var_stays es_at h3 hb (Nat.le_refl _)⟩, ⟨tp', p', Joins.var_stays er_at h4 hb (Nat.le_refl _)⟩⟩
theorem TxW.gr {w w' : World} (h : TxW w) (hg : Gr w w') : TxW w' := h.keep hg.below
theorem iCut (s sep : ByteArray) (w : World) (hs : s.size ≤ 1048576) (T : Hid (TxW w)) :
    Calls Tryd.prog 33 #[.string s, .string sep] w fun e w' => e = .returned (.tuple #[.string ⟨(Lib.cut s.data.toList sep.data.toList).1.toArray⟩, .string ⟨(Lib.cut s.data.toList sep.data.toList).2.1.toArray⟩, .bool (Lib.cut s.data.toList sep.data.toList).2.2]) ∧ Gr w w' := by
  obtain ⟨m, hm⟩ := T.out.ml
  refine (Any.strings_Cut Tryd.lays145 s sep m w (by omega) hm).mono ?_
  rintro e w' ⟨he, n, rfl⟩
  refine ⟨he, ?_⟩
  induction n with
  | zero => exact Gr.refl _
  | succ n ih => exact ih.trans (Gr.drew _)
/-- What strconv.ParseInt gives. -/
def PiR (l : List UInt8) (e : Ending) : Prop := (∃ v, Lib.parseIntB 64 l = .ok v ∧ e = .returned (.tuple #[.int .i64 v, .nilIface])) ∨ ((∀ v, Lib.parseIntB 64 l ≠ .ok v) ∧ ∃ v t p, e = .returned (.tuple #[.int .i64 v, .iface t p]))
theorem iParse (s : ByteArray) (w : World) (hs : s.size ≤ 1048576) (T : Hid (TxW w)) :
    Calls Tryd.prog 34 #[.string s, .int .i64 10, .int .i64 64] w fun e w' => PiR s.data.toList e ∧ Bl w w' := by
  obtain ⟨tp, p, h1⟩ := T.out.es
  obtain ⟨tp', p', h2⟩ := T.out.er
  cases h : Lib.parseIntB 64 s.data.toList
  · rename_i v
    refine (Any.strconv_ParseInt_10_at64_ok Tryd.laysC174 s (by omega) v h w).mono ?_
    rintro e w' ⟨he, hw⟩
    refine ⟨.inl ⟨v, h, he⟩, ?_⟩
    rcases hw with rfl | ⟨t, rfl⟩
    · exact Below.refl _ _
    · exact Lib.bytesWorld_below _ _ _
  · refine (Any.strconv_ParseInt_10_at64_syntax_var Tryd.laysC174 s (by omega) h tp p w h1).mono ?_
    rintro e w' ⟨N, he, _, _, hb⟩
    exact ⟨.inr ⟨(fun v hv => by rw [h] at hv; cases hv), _, _, _, he⟩, hb⟩
  · refine (Any.strconv_ParseInt_10_at64_range_var Tryd.laysC174 s (by omega) h tp' p' w h2).mono ?_
    rintro e w' ⟨N, he, _, _, hb⟩
    exact ⟨.inr ⟨(fun v hv => by rw [h] at hv; cases hv), _, _, _, he⟩, hb⟩
theorem bl_keep {w w' : World} {b : Nat} {o : Obj} (h : Bl w w') (hb : w.heap[b]? = some o) : w'.heap[b]? = some o := (Below.block h b (ltb hb)).trans hb
/-- What strings.Cut gives at "/". -/
def cutP (s o u : ByteArray) (b : Bool) : Prop := Lib.cut s.data.toList [47] = (o.data.toList, u.data.toList, b)
theorem iCutAt {s o u : ByteArray} {b : Bool} (h : cutP s o u b) (w : World) (hs : s.size ≤ 1048576) (T : Hid (TxW w)) :
    Calls Tryd.prog 33 #[.string s, .string ⟨#[47]⟩] w fun e w' => e = .returned (.tuple #[.string o, .string u, .bool b]) ∧ Gr w w' := by
  refine (iCut s ⟨#[47]⟩ w hs T).mono ?_
  rintro e w' ⟨he, hg⟩
  refine ⟨?_, hg⟩
  rw [he]
  unfold cutP at h
  have e1 : (⟨#[47]⟩ : ByteArray).data.toList = [47] := rfl
  rw [e1, h]
set_option maxRecDepth 20000 in
set_option maxHeartbeats 1000000 in
theorem iRF_e1 (s o u : ByteArray) (b : Bool) (w : World) (hs : s.size ≤ 1048576) (T : Hid (TxW w)) (hc : cutP s o u b) (ho : o.size ≤ 1048576) (hu : u.size ≤ 1048576) (h1 : ∀ v, Lib.parseIntB 64 o.data.toList ≠ .ok v) :
    Calls Tryd.prog 10 #[.string s] w fun e w' => e = .returned (.tuple #[fr 0 0, .int .i64 5]) ∧ Bl w w' := by
  have HC := hid fun (w : World) (T : Hid (TxW w)) => iCutAt hc w hs T
  have HP := hid fun (w : World) (T : Hid (TxW w)) => (iParse o w ho T).mono (R' := fun e w' => (∃ v t p, e = .returned (.tuple #[.int .i64 v, .iface t p])) ∧ Bl w w') fun e w' h => ⟨h.1.elim (fun ⟨v, hv, _⟩ => absurd hv (h1 v)) (fun h => h.2), h.2⟩
  have HQ1 := hid fun (w : World) (T : Hid (TxW w)) => iParse u w hu T
  have HQ2 := hid fun (w : World) (T : Hid (TxW w)) => iParse ⟨#[49]⟩ w (by decide) T
  clear hc h1 ho hu hs
  cases b with
  | false =>
    go_enter Tryd.func10, Tryd.ntmps10
    go_wp2_with fail
    refine (HC.out _ (hid (T.out.gr ((Gr.refl w).al _)))).mono ?_
    rintro e w1 ⟨rfl, hg⟩
    obtain ⟨x, hz, g⟩ := alloc1 hg
    have X1 := hid x; have B1 := hid g.below; clear hg g x hz
    go_wp2_with fail
    refine (HP.out _ (hid (T.out.keep B1.out))).mono ?_
    rintro e w2 ⟨⟨v, t, p, rfl⟩, hb⟩
    have X2 := hid (bl_keep hb X1.out); have B2 := hid (Bl.tr B1.out hb); clear hb
    go_wp2_with fail
    refine (HQ2.out _ (hid (T.out.keep B2.out))).mono ?_
    rintro e w3 ⟨hp, hb⟩
    have X3 := hid (bl_keep hb X2.out); have B3 := hid (Bl.tr B2.out hb); clear hb
    have _ := ltb X3.out; have _ := fz X3.out; obtain ⟨_, _⟩ := cells2 X3.out
    rcases hp with ⟨v2, _, rfl⟩ | ⟨_, v2, t2, p2, rfl⟩
    all_goals
      go_wp2
      refine bodyPost_ret (v := .tuple #[fr 0 0, .int .i64 5]) (by simp [results, Tryd.results10, go_sem, *]) rfl ⟨rfl, ?_⟩
      exact (B3.out.setCell (by simp) _).setCell (by simp) _
  | true =>
    go_enter Tryd.func10, Tryd.ntmps10
    go_wp2_with fail
    refine (HC.out _ (hid (T.out.gr ((Gr.refl w).al _)))).mono ?_
    rintro e w1 ⟨rfl, hg⟩
    obtain ⟨x, hz, g⟩ := alloc1 hg
    have X1 := hid x; have B1 := hid g.below; clear hg g x hz
    go_wp2_with fail
    refine (HP.out _ (hid (T.out.keep B1.out))).mono ?_
    rintro e w2 ⟨⟨v, t, p, rfl⟩, hb⟩
    have X2 := hid (bl_keep hb X1.out); have B2 := hid (Bl.tr B1.out hb); clear hb
    go_wp2_with fail
    refine (HQ1.out _ (hid (T.out.keep B2.out))).mono ?_
    rintro e w3 ⟨hp, hb⟩
    have X3 := hid (bl_keep hb X2.out); have B3 := hid (Bl.tr B2.out hb); clear hb
    have _ := ltb X3.out; have _ := fz X3.out; obtain ⟨_, _⟩ := cells2 X3.out
    rcases hp with ⟨v2, _, rfl⟩ | ⟨_, v2, t2, p2, rfl⟩
    all_goals
      go_wp2
      refine bodyPost_ret (v := .tuple #[fr 0 0, .int .i64 5]) (by simp [results, Tryd.results10, go_sem, *]) rfl ⟨rfl, ?_⟩
      exact (B3.out.setCell (by simp) _).setCell (by simp) _
set_option maxRecDepth 20000 in
set_option maxHeartbeats 1000000 in
theorem iRF_e2 (s o u : ByteArray) (b : Bool) (w : World) (hs : s.size ≤ 1048576) (T : Hid (TxW w)) (hc : cutP s o u b) (ho : o.size ≤ 1048576) (U : ByteArray) (hU : U = if b then u else ⟨#[49]⟩) (hUs : U.size ≤ 1048576) (p : Int) (h1 : Lib.parseIntB 64 o.data.toList = .ok p) (h2 : ∀ v, Lib.parseIntB 64 U.data.toList ≠ .ok v) :
    Calls Tryd.prog 10 #[.string s] w fun e w' => e = .returned (.tuple #[fr 0 0, .int .i64 5]) ∧ Bl w w' := by
  have HC := hid fun (w : World) (T : Hid (TxW w)) => iCutAt hc w hs T
  have HP := hid fun (w : World) (T : Hid (TxW w)) => (iParse o w ho T).mono (R' := fun e w' => e = .returned (.tuple #[.int .i64 p, .nilIface]) ∧ Bl w w') fun e w' h => ⟨h.1.elim (fun ⟨v, hv, he⟩ => by rw [h1] at hv; cases hv; exact he) (fun h => absurd h1 (h.1 p)), h.2⟩
  have HQ := hid fun (w : World) (T : Hid (TxW w)) => (iParse U w hUs T).mono (R' := fun e w' => (∃ v t p, e = .returned (.tuple #[.int .i64 v, .iface t p])) ∧ Bl w w') fun e w' h => ⟨h.1.elim (fun ⟨v, hv, _⟩ => absurd hv (h2 v)) (fun h => h.2), h.2⟩
  clear hc h1 h2 ho hUs hs
  cases b with
  | false =>
    replace hU := hU.trans (if_neg (by decide))
    subst hU
    go_enter Tryd.func10, Tryd.ntmps10
    go_wp2_with fail
    refine (HC.out _ (hid (T.out.gr ((Gr.refl w).al _)))).mono ?_
    rintro e w1 ⟨rfl, hg⟩
    obtain ⟨x, hz, g⟩ := alloc1 hg
    have X1 := hid x; have B1 := hid g.below; clear hg g x hz
    go_wp2_with fail
    refine (HP.out _ (hid (T.out.keep B1.out))).mono ?_
    rintro e w2 ⟨rfl, hb⟩
    have X2 := hid (bl_keep hb X1.out); have B2 := hid (Bl.tr B1.out hb); clear hb
    go_wp2_with fail
    refine (HQ.out _ (hid (T.out.keep B2.out))).mono ?_
    rintro e w3 ⟨⟨v2, t2, p2, rfl⟩, hb⟩
    have X3 := hid (bl_keep hb X2.out); have B3 := hid (Bl.tr B2.out hb); clear hb
    have _ := ltb X3.out; have _ := fz X3.out; obtain ⟨_, _⟩ := cells2 X3.out
    go_wp2
    refine bodyPost_ret (v := .tuple #[fr 0 0, .int .i64 5]) (by simp [results, Tryd.results10, go_sem, *]) rfl ⟨rfl, ?_⟩
    exact (B3.out.setCell (by simp) _).setCell (by simp) _
  | true =>
    replace hU := hU.trans (if_pos rfl)
    subst hU
    go_enter Tryd.func10, Tryd.ntmps10
    go_wp2_with fail
    refine (HC.out _ (hid (T.out.gr ((Gr.refl w).al _)))).mono ?_
    rintro e w1 ⟨rfl, hg⟩
    obtain ⟨x, hz, g⟩ := alloc1 hg
    have X1 := hid x; have B1 := hid g.below; clear hg g x hz
    go_wp2_with fail
    refine (HP.out _ (hid (T.out.keep B1.out))).mono ?_
    rintro e w2 ⟨rfl, hb⟩
    have X2 := hid (bl_keep hb X1.out); have B2 := hid (Bl.tr B1.out hb); clear hb
    go_wp2_with fail
    refine (HQ.out _ (hid (T.out.keep B2.out))).mono ?_
    rintro e w3 ⟨⟨v2, t2, p2, rfl⟩, hb⟩
    have X3 := hid (bl_keep hb X2.out); have B3 := hid (Bl.tr B2.out hb); clear hb
    have _ := ltb X3.out; have _ := fz X3.out; obtain ⟨_, _⟩ := cells2 X3.out
    go_wp2
    refine bodyPost_ret (v := .tuple #[fr 0 0, .int .i64 5]) (by simp [results, Tryd.results10, go_sem, *]) rfl ⟨rfl, ?_⟩
    exact (B3.out.setCell (by simp) _).setCell (by simp) _
set_option maxRecDepth 20000 in
set_option maxHeartbeats 1000000 in
theorem iRF_ok (s o u : ByteArray) (b : Bool) (w : World) (hs : s.size ≤ 1048576) (T : Hid (TxW w)) (hc : cutP s o u b) (ho : o.size ≤ 1048576) (U : ByteArray) (hU : U = if b then u else ⟨#[49]⟩) (hUs : U.size ≤ 1048576) (p : Int) (h1 : Lib.parseIntB 64 o.data.toList = .ok p) (q : Int) (h2 : Lib.parseIntB 64 U.data.toList = .ok q) (S : ByteArray) (hF : ∀ w, Hid (Pow w) → Calls Tryd.prog 35 #[fr p q] w fun e w' => e = .returned (.string S) ∧ Gr w w') (hS : S = s) :
    Calls Tryd.prog 10 #[.string s] w fun e w' => e = .returned (.tuple #[fr p q, .int .i64 0]) ∧ Bl w w' := by
  have HC := hid fun (w : World) (T : Hid (TxW w)) => iCutAt hc w hs T
  have HP := hid fun (w : World) (T : Hid (TxW w)) => (iParse o w ho T).mono (R' := fun e w' => e = .returned (.tuple #[.int .i64 p, .nilIface]) ∧ Bl w w') fun e w' h => ⟨h.1.elim (fun ⟨v, hv, he⟩ => by rw [h1] at hv; cases hv; exact he) (fun h => absurd h1 (h.1 p)), h.2⟩
  have HQ := hid fun (w : World) (T : Hid (TxW w)) => (iParse U w hUs T).mono (R' := fun e w' => e = .returned (.tuple #[.int .i64 q, .nilIface]) ∧ Bl w w') fun e w' h => ⟨h.1.elim (fun ⟨v, hv, he⟩ => by rw [h2] at hv; cases hv; exact he) (fun h => absurd h2 (h.1 q)), h.2⟩
  have HF := hid hF
  clear hc h1 h2 ho hUs hs hF
  subst hS
  cases b with
  | false =>
    replace hU := hU.trans (if_neg (by decide))
    subst hU
    go_enter Tryd.func10, Tryd.ntmps10
    go_wp2_with fail
    refine (HC.out _ (hid (T.out.gr ((Gr.refl w).al _)))).mono ?_
    rintro e w1 ⟨rfl, hg⟩
    obtain ⟨x, hz, g⟩ := alloc1 hg
    have X1 := hid x; have B1 := hid g.below; clear hg g x hz
    go_wp2_with fail
    refine (HP.out _ (hid (T.out.keep B1.out))).mono ?_
    rintro e w2 ⟨rfl, hb⟩
    have X2 := hid (bl_keep hb X1.out); have B2 := hid (Bl.tr B1.out hb); clear hb
    go_wp2_with fail
    refine (HQ.out _ (hid (T.out.keep B2.out))).mono ?_
    rintro e w3 ⟨rfl, hb⟩
    have X3 := hid (bl_keep hb X2.out); have B3 := hid (Bl.tr B2.out hb); clear hb
    go_wp2_with fail
    refine (HF.out _ (hid ((T.out.keep (B3.out.alloc (Below.size B3.out) _)).pow))).mono ?_
    rintro e w4 ⟨rfl, hg⟩
    obtain ⟨x, hz, g⟩ := alloc1 hg
    have X4 := hid (g.keep X3.out); have Y4 := hid x; have B4 := hid (Bl.tr B3.out g.below); clear hg g x hz
    have _ := ltb X4.out; have _ := fz X4.out; obtain ⟨_, _⟩ := cells2 X4.out
    have _ := ltb Y4.out; have _ := fz Y4.out; obtain ⟨_, _⟩ := cells2 Y4.out
    go_wp2
    refine bodyPost_ret (v := .tuple #[fr p q, .int .i64 0]) (by simp [results, Tryd.results10, go_sem, *]) rfl ⟨rfl, ?_⟩
    exact (B4.out.setCell (by simp) _).setCell (by simp) _
  | true =>
    replace hU := hU.trans (if_pos rfl)
    subst hU
    go_enter Tryd.func10, Tryd.ntmps10
    go_wp2_with fail
    refine (HC.out _ (hid (T.out.gr ((Gr.refl w).al _)))).mono ?_
    rintro e w1 ⟨rfl, hg⟩
    obtain ⟨x, hz, g⟩ := alloc1 hg
    have X1 := hid x; have B1 := hid g.below; clear hg g x hz
    go_wp2_with fail
    refine (HP.out _ (hid (T.out.keep B1.out))).mono ?_
    rintro e w2 ⟨rfl, hb⟩
    have X2 := hid (bl_keep hb X1.out); have B2 := hid (Bl.tr B1.out hb); clear hb
    go_wp2_with fail
    refine (HQ.out _ (hid (T.out.keep B2.out))).mono ?_
    rintro e w3 ⟨rfl, hb⟩
    have X3 := hid (bl_keep hb X2.out); have B3 := hid (Bl.tr B2.out hb); clear hb
    go_wp2_with fail
    refine (HF.out _ (hid ((T.out.keep (B3.out.alloc (Below.size B3.out) _)).pow))).mono ?_
    rintro e w4 ⟨rfl, hg⟩
    obtain ⟨x, hz, g⟩ := alloc1 hg
    have X4 := hid (g.keep X3.out); have Y4 := hid x; have B4 := hid (Bl.tr B3.out g.below); clear hg g x hz
    have _ := ltb X4.out; have _ := fz X4.out; obtain ⟨_, _⟩ := cells2 X4.out
    have _ := ltb Y4.out; have _ := fz Y4.out; obtain ⟨_, _⟩ := cells2 Y4.out
    go_wp2
    refine bodyPost_ret (v := .tuple #[fr p q, .int .i64 0]) (by simp [results, Tryd.results10, go_sem, *]) rfl ⟨rfl, ?_⟩
    exact (B4.out.setCell (by simp) _).setCell (by simp) _
set_option maxRecDepth 20000 in
set_option maxHeartbeats 1000000 in
theorem iRF_no (s o u : ByteArray) (b : Bool) (w : World) (hs : s.size ≤ 1048576) (T : Hid (TxW w)) (hc : cutP s o u b) (ho : o.size ≤ 1048576) (U : ByteArray) (hU : U = if b then u else ⟨#[49]⟩) (hUs : U.size ≤ 1048576) (p : Int) (h1 : Lib.parseIntB 64 o.data.toList = .ok p) (q : Int) (h2 : Lib.parseIntB 64 U.data.toList = .ok q) (S : ByteArray) (hF : ∀ w, Hid (Pow w) → Calls Tryd.prog 35 #[fr p q] w fun e w' => e = .returned (.string S) ∧ Gr w w') (hS : ¬ S = s) :
    Calls Tryd.prog 10 #[.string s] w fun e w' => e = .returned (.tuple #[fr 0 0, .int .i64 5]) ∧ Bl w w' := by
  have HC := hid fun (w : World) (T : Hid (TxW w)) => iCutAt hc w hs T
  have HP := hid fun (w : World) (T : Hid (TxW w)) => (iParse o w ho T).mono (R' := fun e w' => e = .returned (.tuple #[.int .i64 p, .nilIface]) ∧ Bl w w') fun e w' h => ⟨h.1.elim (fun ⟨v, hv, he⟩ => by rw [h1] at hv; cases hv; exact he) (fun h => absurd h1 (h.1 p)), h.2⟩
  have HQ := hid fun (w : World) (T : Hid (TxW w)) => (iParse U w hUs T).mono (R' := fun e w' => e = .returned (.tuple #[.int .i64 q, .nilIface]) ∧ Bl w w') fun e w' h => ⟨h.1.elim (fun ⟨v, hv, he⟩ => by rw [h2] at hv; cases hv; exact he) (fun h => absurd h2 (h.1 q)), h.2⟩
  have HF := hid hF
  clear hc h1 h2 ho hUs hs hF
  have hne := txt_ne hS
  clear hS
  cases b with
  | false =>
    replace hU := hU.trans (if_neg (by decide))
    subst hU
    go_enter Tryd.func10, Tryd.ntmps10
    go_wp2_with fail
    refine (HC.out _ (hid (T.out.gr ((Gr.refl w).al _)))).mono ?_
    rintro e w1 ⟨rfl, hg⟩
    obtain ⟨x, hz, g⟩ := alloc1 hg
    have X1 := hid x; have B1 := hid g.below; clear hg g x hz
    go_wp2_with fail
    refine (HP.out _ (hid (T.out.keep B1.out))).mono ?_
    rintro e w2 ⟨rfl, hb⟩
    have X2 := hid (bl_keep hb X1.out); have B2 := hid (Bl.tr B1.out hb); clear hb
    go_wp2_with fail
    refine (HQ.out _ (hid (T.out.keep B2.out))).mono ?_
    rintro e w3 ⟨rfl, hb⟩
    have X3 := hid (bl_keep hb X2.out); have B3 := hid (Bl.tr B2.out hb); clear hb
    go_wp2_with fail
    refine (HF.out _ (hid ((T.out.keep (B3.out.alloc (Below.size B3.out) _)).pow))).mono ?_
    rintro e w4 ⟨rfl, hg⟩
    obtain ⟨x, hz, g⟩ := alloc1 hg
    have X4 := hid (g.keep X3.out); have Y4 := hid x; have B4 := hid (Bl.tr B3.out g.below); clear hg g x hz
    have _ := ltb X4.out; have _ := fz X4.out; obtain ⟨_, _⟩ := cells2 X4.out
    have _ := ltb Y4.out; have _ := fz Y4.out; obtain ⟨_, _⟩ := cells2 Y4.out
    go_wp2
    refine bodyPost_ret (v := .tuple #[fr 0 0, .int .i64 5]) (by simp [results, Tryd.results10, go_sem, *]) rfl ⟨rfl, ?_⟩
    exact (B4.out.setCell (by simp) _).setCell (by simp) _
  | true =>
    replace hU := hU.trans (if_pos rfl)
    subst hU
    go_enter Tryd.func10, Tryd.ntmps10
    go_wp2_with fail
    refine (HC.out _ (hid (T.out.gr ((Gr.refl w).al _)))).mono ?_
    rintro e w1 ⟨rfl, hg⟩
    obtain ⟨x, hz, g⟩ := alloc1 hg
    have X1 := hid x; have B1 := hid g.below; clear hg g x hz
    go_wp2_with fail
    refine (HP.out _ (hid (T.out.keep B1.out))).mono ?_
    rintro e w2 ⟨rfl, hb⟩
    have X2 := hid (bl_keep hb X1.out); have B2 := hid (Bl.tr B1.out hb); clear hb
    go_wp2_with fail
    refine (HQ.out _ (hid (T.out.keep B2.out))).mono ?_
    rintro e w3 ⟨rfl, hb⟩
    have X3 := hid (bl_keep hb X2.out); have B3 := hid (Bl.tr B2.out hb); clear hb
    go_wp2_with fail
    refine (HF.out _ (hid ((T.out.keep (B3.out.alloc (Below.size B3.out) _)).pow))).mono ?_
    rintro e w4 ⟨rfl, hg⟩
    obtain ⟨x, hz, g⟩ := alloc1 hg
    have X4 := hid (g.keep X3.out); have Y4 := hid x; have B4 := hid (Bl.tr B3.out g.below); clear hg g x hz
    have _ := ltb X4.out; have _ := fz X4.out; obtain ⟨_, _⟩ := cells2 X4.out
    have _ := ltb Y4.out; have _ := fz Y4.out; obtain ⟨_, _⟩ := cells2 Y4.out
    go_wp2
    refine bodyPost_ret (v := .tuple #[fr 0 0, .int .i64 5]) (by simp [results, Tryd.results10, go_sem, *]) rfl ⟨rfl, ?_⟩
    exact (B4.out.setCell (by simp) _).setCell (by simp) _
theorem txt_empty_ne {s : ByteArray} (h : ¬ s.size = 0) : ¬ (⟨#[]⟩ : ByteArray) = s := fun e => h (by rw [← e]; rfl)
theorem ba_list (l : List UInt8) : (⟨l.toArray⟩ : ByteArray).data.toList = l := rfl
theorem ba_of_list {s : ByteArray} {l : List UInt8} (h : s.data.toList = l) : s = ⟨l.toArray⟩ := ByteArray.ext (Array.ext' h)
/-- What ReadFrac of the program gives, in the reference's words. -/
theorem iReadFrac (s : ByteArray) (w : World) (hs : s.size ≤ 1048576) (T : Hid (TxW w)) : Calls Tryd.prog 10 #[.string s] w fun e w' => (∃ a b, okB a b = true ∧ s.data.toList = txtFl a b ∧ e = .returned (.tuple #[fr a b, .int .i64 0]) ∨ (∀ p q, okB p q = true → s.data.toList ≠ txtFl p q) ∧ e = .returned (.tuple #[fr 0 0, .int .i64 5])) ∧ Bl w w' := by
  by_cases hF : ∃ a b, okB a b = true ∧ s.data.toList = txtFl a b
  · obtain ⟨a, b, hk, he⟩ := hF
    obtain ⟨b1, b2, b3, b4⟩ := okB_bd hk
    have hsF := txtF_of he
    refine Calls.mono (R := fun e w' => e = .returned (.tuple #[fr a b, .int .i64 0]) ∧ Bl w w') ?_ fun e w' h => ⟨⟨a, b, .inl ⟨hk, he, h.1⟩⟩, h.2⟩
    by_cases hb : b = 1
    · subst hb
      have e1 : txtFl a 1 = Lib.itoa a := by simp [txtFl]
      rw [e1] at he
      have hc : cutP s s ⟨#[]⟩ false := by
        unfold cutP
        rw [he, cut_none (no47 a)]
      exact iRF_ok s s ⟨#[]⟩ false w hs T hc hs ⟨#[49]⟩ rfl (by decide) a (by rw [he]; exact pint_of (by omega) (by omega)) 1 rfl (txtF a 1) (fun w T => iFracText a 1 w T hk) hsF.symm
    · have e1 : txtFl a b = Lib.itoa a ++ [47] ++ Lib.itoa b := by unfold txtFl; rw [if_neg hb]; simp
      have hl : (Lib.itoa a).length ≤ s.size ∧ (Lib.itoa b).length ≤ s.size := by
        have := congrArg List.length he
        rw [s_len, e1] at this
        simp at this
        omega
      have hc : cutP s ⟨(Lib.itoa a).toArray⟩ ⟨(Lib.itoa b).toArray⟩ true := by
        unfold cutP
        rw [he, e1, cut_some (no47 a)]
      exact iRF_ok s ⟨(Lib.itoa a).toArray⟩ ⟨(Lib.itoa b).toArray⟩ true w hs T hc (by show (Lib.itoa a).toArray.size ≤ _; simp; omega) ⟨(Lib.itoa b).toArray⟩ rfl (by show (Lib.itoa b).toArray.size ≤ _; simp; omega) a (by rw [ba_list]; exact pint_of (by omega) (by omega)) b (by rw [ba_list]; exact pint_of (by omega) (by omega)) (txtF a b) (fun w T => iFracText a b w T hk) hsF.symm
  · have hno : ∀ p q, okB p q = true → s.data.toList ≠ txtFl p q := fun p q hk he => hF ⟨p, q, hk, he⟩
    refine Calls.mono (R := fun e w' => e = .returned (.tuple #[fr 0 0, .int .i64 5]) ∧ Bl w w') ?_ fun e w' h => ⟨⟨0, 0, .inr ⟨hno, h.1⟩⟩, h.2⟩
    obtain ⟨o, u, b, hc, ho, hu⟩ : ∃ (o u : ByteArray) (b : Bool), cutP s o u b ∧ o.size ≤ 1048576 ∧ u.size ≤ 1048576 := by
      rcases cut_cases s.data.toList 47 [] with ⟨x, y, h, he⟩ | h
      · have hl := congrArg List.length he
        rw [s_len] at hl
        simp at hl
        exact ⟨⟨x.toArray⟩, ⟨y.toArray⟩, true, h, by show x.toArray.size ≤ _; simp; omega, by show y.toArray.size ≤ _; simp; omega⟩
      · exact ⟨s, ⟨#[]⟩, false, h, hs, by decide⟩
    have hUs : (if b = true then u else (⟨#[49]⟩ : ByteArray)).size ≤ 1048576 := by
      cases b with
      | true => exact hu
      | false => exact (by decide : (⟨#[49]⟩ : ByteArray).size ≤ 1048576)
    by_cases h1 : ∃ p, Lib.parseIntB 64 o.data.toList = .ok p
    · obtain ⟨p, h1⟩ := h1
      by_cases h2 : ∃ q, Lib.parseIntB 64 (if b = true then u else (⟨#[49]⟩ : ByteArray)).data.toList = .ok q
      · obtain ⟨q, h2⟩ := h2
        have hne : ¬ s.size = 0 := fun h0 => by
          rw [s_nil h0] at hc
          have e : Lib.cut (⟨#[]⟩ : ByteArray).data.toList [47] = ([], [], false) := by decide
          unfold cutP at hc
          rw [e] at hc
          have ho : o.data.toList = [] := (congrArg Prod.fst hc).symm
          rw [ho] at h1
          cases h1
        cases hk : okB p q with
        | true => exact iRF_no s o u b w hs T hc ho _ rfl hUs p h1 q h2 (txtF p q) (fun w T => iFracText p q w T hk) fun e => hno p q hk (by rw [← e, txtF_list])
        | false => exact iRF_no s o u b w hs T hc ho _ rfl hUs p h1 q h2 ⟨#[]⟩ (fun w _ => iFracText_no p q w hk) (txt_empty_ne hne)
      · exact iRF_e2 s o u b w hs T hc ho _ rfl hUs p h1 fun v hv => h2 ⟨v, hv⟩
    · exact iRF_e1 s o u b w hs T hc ho hu fun v hv => h1 ⟨v, hv⟩
end Go.Proofs.YtpadjkgbeijkpaaDoor
