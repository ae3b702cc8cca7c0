/- ENDS: the ends of a shot, of the program. -/
import Derived.Test.YtflfjedimcbfeaaBg
import Derived.Test.YtflfjedimcbfeaaEf
import Derived.Test.YtflfjedimcbfeaaSt
import Derived.Test.YtflfjedimcbfeaaRegC
import Derived.BigRegion
import Derived.Test.YtflfjedimcbfeaaRegL
namespace Go.Proofs.Ytflfjedimcbfeaa
open Go.RowKit Go.Sort

set_option maxHeartbeats 400000 in
theorem catch_idle_E2 (p : Addr) (w : World) :
    CallsD Try.prog 92 #[.pointer (some p)] .returning w fun e u' w' => e = .returned (.tuple #[]) ∧ u' = .returning ∧ w' = w := by
  have h1 : ∀ w, (Instr.typeAssert .nilIface 20 133 true).run Try.prog w = .ok (.tuple #[.nilIface, .bool false]) w := fun _ => by kernel_rfl
  refine callsD_of_wpS Try.func92 rfl fun c₀ cs hu => ?_
  apply wpS_seq
  apply wpS_region
  simp [wpOpsS, go_sem, recoverD, hu, Try.ntmps92, Exit.thenS, ↓h1]
  apply wpS_of_wp
  go_wp2
  cases c₀
  simp_all [bodyPostS, results, Try.results92]
set_option maxHeartbeats 400000 in
theorem catch_great_E2 (b : Nat) (x y : Int) (w : World) (c : Int) (T : TypeId) (hc : w.heap[b]? = some (.cells #[.int .i64 c] T)) :
    CallsD Try.prog 92 #[.pointer (some ⟨b, 0, none⟩)] (.panicking [{ v := .iface 160 (fr x y), recovered := false }]) w fun e u' w' =>
      e = .returned (.tuple #[]) ∧ u' = .panicking [{ v := .iface 160 (fr x y), recovered := true }] ∧ ∃ w1, Gr w w1 ∧ w' = w1.setCell ⟨b, 0, none⟩ (.int .i64 3) := by
  have h1 : ∀ x w, (Instr.typeAssert (.iface 160 x) 20 133 true).run Try.prog w = .ok (.tuple #[.iface 160 x, .bool true]) w := fun _ _ => by kernel_rfl
  refine callsD_of_wpS Try.func92 rfl fun c₀ cs hu => ?_
  apply wpS_seq
  apply wpS_region
  simp [wpOpsS, go_sem, recoverD, hu, Try.ntmps92, Exit.thenS, ↓h1, Array.replicate, List.replicate]
  apply wpS_of_wp
  clear hu h1
  have HC := hid hc; clear hc
  go_wp2_with (go_at_call 148; refine (code_great _ _ _).mono ?_; rintro e w1 ⟨rfl, hg⟩; have hb := hg.keep HC.out; have f0 := fz hb; have c0 := cells1 hb; have HG := hid hg; clear hg hb)
  cases c₀
  simp [bodyPostS, results, Try.results92]
  exact ⟨w1, HG.out, rfl⟩
set_option maxRecDepth 20000 in
set_option maxHeartbeats 400000 in
theorem told2_ok (f : Nat) (u : Value) (p0 p1 p2 p3 : Int) (w : World) (hen : ∀ w, (callFunc f #[u]).run Try.prog w = .ok (.enter f #[u]) w) (hF : ∀ w', Gr w w' → Calls Try.prog f #[u] w' fun e w'' => e = .returned (.agg #[.int .i64 p0, .int .i64 p1, .int .i64 p2, .int .i64 p3]) ∧ Gr w' w'') :
    Calls Try.prog 56 #[.func (.func f) #[u] #[]] w fun e w' => e = .returned (.tuple #[.agg #[.int .i64 p0, .int .i64 p1, .int .i64 p2, .int .i64 p3], .int .i64 0]) ∧ Gr w w' := by
  have HF := hid hF; clear hF
  go_enter_defers Try.func56, Try.ntmps56
  go_wp2_with fail
  refine (HF.out _ ((Gr.alloc _ _).trans (Gr.alloc _ _))).mono ?_
  rintro e w1 ⟨rfl, hg⟩
  obtain ⟨x0, x1, hz, G1⟩ := alloc2 hg
  obtain ⟨_, _, _, _⟩ := cells4 x0
  have _ := cells1 x1
  have _ := fz x0
  have _ := fz x1
  have G1 := hid G1
  clear hg x0 x1
  go_wp2_with fail
  refine leaves_cons (f := 92) (args := #[.pointer (some ⟨w.heap.size + 1, 0, none⟩)]) (by simp) (by simp [go_sem]) ?_
  refine (catch_idle_E2 _ _).mono ?_
  rintro e u' w2 ⟨rfl, rfl, rfl⟩
  simp [Leaves, settle, results, Try.results56, go_sem, *]
  exact (((((G1.out.setCell (by simp) _).setCell (by simp) _).setCell (by simp) _).setCell (by simp) _).setCell (by simp) _)
set_option maxRecDepth 20000 in
set_option maxHeartbeats 400000 in
theorem told2_great (f : Nat) (u : Value) (w : World) (hen : ∀ w, (callFunc f #[u]).run Try.prog w = .ok (.enter f #[u]) w) (hF : ∀ w', Gr w w' → Calls Try.prog f #[u] w' fun e w'' => (∃ x y, e = .panicked [{ v := .iface 160 (fr x y), recovered := false }]) ∧ Gr w' w'') :
    Calls Try.prog 56 #[.func (.func f) #[u] #[]] w fun e w' => e = .returned (.tuple #[.agg #[.int .i64 0, .int .i64 0, .int .i64 0, .int .i64 0], .int .i64 3]) ∧ Gr w w' := by
  have HF := hid hF; clear hF
  go_enter_defers Try.func56, Try.ntmps56
  go_wp2_with fail
  refine (HF.out _ ((Gr.alloc _ _).trans (Gr.alloc _ _))).mono ?_
  rintro e w1 ⟨⟨p, q, rfl⟩, hg⟩
  obtain ⟨x0, x1, hz, G1⟩ := alloc2 hg
  refine leaves_cons (f := 92) (args := #[.pointer (some ⟨w.heap.size + 1, 0, none⟩)]) (by simp) (by simp [go_sem]) ?_
  refine (catch_great_E2 _ _ _ _ _ _ x1).mono ?_
  rintro e u' w2 ⟨rfl, rfl, w3, hg3, rfl⟩
  have x0 := hg3.keep x0
  obtain ⟨_, _, _, _⟩ := cells4 x0
  have _ := cells1 (hg3.keep x1)
  simp [Leaves, settle, results, Try.results56, go_sem, *]
  exact (G1.trans hg3).setCell (by simp) _
/-- what is laid on a bench: the bench but for its things, the thing, the shot, and what is not known yet -/
abbrev laidA (a b : Int) (A : Option Addr) (m c : Nat) (N : Int) (kb : Bool) (u v : Int) (x : Tgv) (t wa wb sa sb : Int) : Array Value := #[.int .i64 a, .int .i64 b, .slice A m c, .int .i64 N, .bool kb, .int .i64 u, .int .i64 v, .string x.nm, .int .i64 x.p, .int .i64 x.q, .int .i64 x.a, .int .i64 x.b, .int .i64 t, .int .i64 wa, .int .i64 wb, .int .i64 sa, .int .i64 sb, .int .i64 0, .int .i64 0, .int .i64 0, .int .i64 0, .int .i64 0, .int .i64 0, .int .i64 0, .int .i64 0, .int .i64 0, .int .i64 0]
abbrev shrV (t wa wb sa sb : Int) : Value := .agg #[.int .i64 t, .int .i64 wa, .int .i64 wb, .int .i64 sa, .int .i64 sb, .int .i64 0, .int .i64 0, .int .i64 0, .int .i64 0, .int .i64 0, .int .i64 0, .int .i64 0, .int .i64 0, .int .i64 0, .int .i64 0]
abbrev shrA (t wa wb sa sb : Int) : Array Value := #[.int .i64 t, .int .i64 wa, .int .i64 wb, .int .i64 sa, .int .i64 sb, .int .i64 0, .int .i64 0, .int .i64 0, .int .i64 0, .int .i64 0, .int .i64 0, .int .i64 0, .int .i64 0, .int .i64 0, .int .i64 0]
theorem Gr.cellK {w w' : World} (h : Gr w w') {a : Addr} {v : Value} (hc : w.cell? a = some v) : w'.cell? a = some v := (h.cellI (World.block_lt_of_cell? _ _ hc)).trans hc
theorem cellAt {w : World} {g : Nat} {cs : Array Value} {T : TypeId} (h : w.heap[g]? = some (.cells cs T)) (i : Nat) {v : Value} (hi : cs[i]? = some v) : w.cell? ⟨g, i, none⟩ = some v := by simp [World.cell?, h, hi]
set_option maxRecDepth 20000 in
set_option maxHeartbeats 2000000 in
theorem ilay (a b : Int) (A : Option Addr) (m c : Nat) (N : Int) (kb : Bool) (u v : Int) (B : Option Addr) (d : Nat) (ts : List Tgv) (k : Nat) (x : Tgv) (wa wb sa sb : Int) (w : World) (T : Hid (RdTg w B ts)) (hx : ts[k]? = some x) :
    Calls Try.prog 57 #[bnc a b A m c N kb u v B ts.length d, shrV (k : Int) wa wb sa sb] w fun e w' => ∃ g, e = .returned (.pointer (some ⟨g, 0, none⟩)) ∧ w'.heap[g]? = some (.cells (laidA a b A m c N kb u v x (k : Int) wa wb sa sb) 137) ∧ Gr w w' := by
  have hk : k < ts.length := (List.getElem?_eq_some_iff.1 hx).1
  obtain ⟨ad, rfl, hcel⟩ := T.out k x hx
  have HC := hid hcel
  clear hcel hx
  have y0 := (alloc2 (w := w) (A := .cells (bncA a b A m c N kb u v (some ad) ts.length d) 41) (B := .cells (shrA (k : Int) wa wb sa sb) 100) (Gr.refl _)).1
  have y1 := (alloc2 (w := w) (A := .cells (bncA a b A m c N kb u v (some ad) ts.length d) 41) (B := .cells (shrA (k : Int) wa wb sa sb) 100) (Gr.refl _)).2.1
  have Y0 := hid y0; have Y1 := hid y1
  clear y0 y1
  have HA := hid (HC.out.keep (((Gr.refl w).al (.cells (bncA a b A m c N kb u v (some ad) ts.length d) 41)).al (.cells (shrA (k : Int) wa wb sa sb) 100)))
  go_enter Try.func57, Try.ntmps57
  go_wp2_with fail
  refine wp_reg0 14 (by kernel_rfl) (by kernel_rfl) ?_
  apply Exists.intro
  refine ⟨fun wb hb => ?_, ?_⟩
  · obtain ⟨_, _, _, _, _, _, _, _⟩ := hb.at8 Y0.out
    have _ := hb.atF (cellAt Y1.out 0 rfl); have _ := hb.atF (cellAt Y1.out 1 rfl); have _ := hb.atF (cellAt Y1.out 2 rfl); have _ := hb.atF (cellAt Y1.out 3 rfl); have _ := hb.atF (cellAt Y1.out 4 rfl)
    have _ := hb.atF (cellAt Y1.out 5 rfl); have _ := hb.atF (cellAt Y1.out 6 rfl); have _ := hb.atF (cellAt Y1.out 7 rfl); have _ := hb.atF (cellAt Y1.out 8 rfl); have _ := hb.atF (cellAt Y1.out 9 rfl)
    have _ := hb.atF (cellAt Y1.out 10 rfl); have _ := hb.atF (cellAt Y1.out 11 rfl); have _ := hb.atF (cellAt Y1.out 12 rfl); have _ := hb.atF (cellAt Y1.out 13 rfl); have _ := hb.atF (cellAt Y1.out 14 rfl)
    have _ := hb.atF HA.out.h0; have _ := hb.atF HA.out.h1; have _ := hb.atF HA.out.h2; have _ := hb.atF HA.out.h3; have _ := hb.atF HA.out.h4
    simp only [headOps, List.contains, List.elem, reduceIte, Bool.false_eq_true]
    repeat (first | go_big_quiet_step (first | (fail)) | quiet_step (fail))
    exact wpQuiet_nil rfl
  intro w1 hg1
  have G1 := hid ((((Gr.refl w).al _).al _).trans hg1)
  clear hg1
  go_wp2_with fail
  go_ret
  exact ⟨w1.heap.size, rfl, (alloc1 (Gr.refl _)).1, G1.out.al _⟩
set_option maxRecDepth 20000 in
set_option maxHeartbeats 400000 in
theorem itS_t (g : Nat) (cs : Array Value) (T : TypeId) (a b c d S T' : Int) (w : World) (X : Hid (w.heap[g]? = some (.cells cs T))) (h10 : cs[10]? = some (.int .i64 a)) (h11 : cs[11]? = some (.int .i64 b)) (h13 : cs[13]? = some (.int .i64 c)) (h14 : cs[14]? = some (.int .i64 d))
    (hs : ∀ w, Calls Try.prog 118 #[fr a b, fr c d] w fun e w' => e = .returned (fr S T') ∧ Gr w w') :
    Calls Try.prog 95 #[.pointer (some ⟨g, 0, none⟩)] w fun e w' => e = .returned (fr S T') ∧ Gr w w' := by
  have HS := hid hs
  have C := hid (And.intro (cellAt X.out 10 h10) (And.intro (cellAt X.out 11 h11) (And.intro (cellAt X.out 13 h13) (cellAt X.out 14 h14))))
  clear hs
  go_enter Try.func95, Try.ntmps95
  go_wp2_with fail
  refine wp_reg0 12 (by kernel_rfl) (by kernel_rfl) ?_
  apply Exists.intro
  refine ⟨fun wb hb => ?_, ?_⟩
  · have _ := hb.atF (((Gr.refl w).al (.cells #[.int .i64 0, .int .i64 0] 34)).cellK C.out.1); have _ := hb.atF (((Gr.refl w).al (.cells #[.int .i64 0, .int .i64 0] 34)).cellK C.out.2.1); have _ := hb.atF (((Gr.refl w).al (.cells #[.int .i64 0, .int .i64 0] 34)).cellK C.out.2.2.1); have _ := hb.atF (((Gr.refl w).al (.cells #[.int .i64 0, .int .i64 0] 34)).cellK C.out.2.2.2)
    simp only [headOps, List.contains, List.elem, reduceIte, Bool.false_eq_true]
    repeat (first | go_big_quiet_step (first | (go_at_call 118; exact Calls.of_gr (HS.out _))) | quiet_step (fail))
    exact wpQuiet_nil rfl
  intro w1 hg1
  obtain ⟨x1_0, hz1, g1⟩ := alloc1 hg1
  obtain ⟨_, _⟩ := cells2 x1_0
  have _ := fz x1_0
  have _ := ltb x1_0
  have X1_0 := hid x1_0; clear x1_0
  have G1 := hid (g1)
  clear hg1 g1
  go_wp2
  refine bodyPost_ret (v := fr S T') (by simp [results, Try.results95, go_sem, *]) rfl ⟨rfl, ?_⟩
  exact ((G1.out).setCell (by simp <;> omega) _).setCell (by simp <;> omega) _
set_option maxRecDepth 20000 in
set_option maxHeartbeats 400000 in
theorem itS_f (g : Nat) (cs : Array Value) (T : TypeId) (a b c d : Int) (w : World) (X : Hid (w.heap[g]? = some (.cells cs T))) (h10 : cs[10]? = some (.int .i64 a)) (h11 : cs[11]? = some (.int .i64 b)) (h13 : cs[13]? = some (.int .i64 c)) (h14 : cs[14]? = some (.int .i64 d))
    (hs : ∀ w, Calls Try.prog 118 #[fr a b, fr c d] w fun e w' => (∃ x y, e = .panicked [{ v := .iface 160 (fr x y), recovered := false }]) ∧ Gr w w') :
    Calls Try.prog 95 #[.pointer (some ⟨g, 0, none⟩)] w fun e w' => (∃ x y, e = .panicked [{ v := .iface 160 (fr x y), recovered := false }]) ∧ Gr w w' := by
  have HS := hid hs
  have C := hid (And.intro (cellAt X.out 10 h10) (And.intro (cellAt X.out 11 h11) (And.intro (cellAt X.out 13 h13) (cellAt X.out 14 h14))))
  clear hs
  go_enter Try.func95, Try.ntmps95
  go_wp2_with fail
  refine wp_regP 11 [12] (by kernel_rfl) (by kernel_rfl) rfl ?_
  apply Exists.intro
  refine ⟨118, #[fr a b, fr c d], fun wb hb => ?_, ?_⟩
  · have _ := hb.atF (((Gr.refl w).al (.cells #[.int .i64 0, .int .i64 0] 34)).cellK C.out.1); have _ := hb.atF (((Gr.refl w).al (.cells #[.int .i64 0, .int .i64 0] 34)).cellK C.out.2.1); have _ := hb.atF (((Gr.refl w).al (.cells #[.int .i64 0, .int .i64 0] 34)).cellK C.out.2.2.1); have _ := hb.atF (((Gr.refl w).al (.cells #[.int .i64 0, .int .i64 0] 34)).cellK C.out.2.2.2)
    simp only [headOps, List.contains, List.elem, List.length_cons, List.length_nil, Nat.zero_add, Nat.reduceAdd, Nat.reduceBEq, reduceIte, Bool.false_eq_true, dumOp]
    repeat (first | go_big_quiet_step (first | (fail)) | quiet_step (fail))
    exact wpQuiet_nil rfl
  refine ⟨fun w' => by kernel_rfl, fun w' hg' => (HS.out _).mono fun e w2 ⟨⟨x, y, he⟩, hg2⟩ => ⟨_, he, fun a' ha' => ⟨ha', ⟨x, y, rfl⟩, (((Gr.refl w).al _).trans hg').trans hg2⟩⟩⟩

set_option maxRecDepth 20000 in
set_option maxHeartbeats 1000000 in
theorem iends_ok (g : Nat) (cs : Array Value) (T : TypeId) (p q a b c d sa sb : Int) (w : World) (X : Hid (w.heap[g]? = some (.cells cs T))) (h8 : cs[8]? = some (.int .i64 p)) (h9 : cs[9]? = some (.int .i64 q)) (h10 : cs[10]? = some (.int .i64 a)) (h11 : cs[11]? = some (.int .i64 b)) (h13 : cs[13]? = some (.int .i64 c)) (h14 : cs[14]? = some (.int .i64 d)) (h15 : cs[15]? = some (.int .i64 sa)) (h16 : cs[16]? = some (.int .i64 sb)) (S T' U V P Q : Int) (hs : ∀ w, Calls Try.prog 118 #[fr a b, fr c d] w fun e w' => e = .returned (fr S T') ∧ Gr w w')
    (ht : ∀ w, Calls Try.prog 94 #[fr p q, fr S T'] w fun e w' => e = .returned (fr U V) ∧ Gr w w')
    (hp : ∀ w, Calls Try.prog 93 #[fr sa sb, fr U V] w fun e w' => e = .returned (fr P Q) ∧ Gr w w') :
    Calls Try.prog 58 #[.pointer (some ⟨g, 0, none⟩)] w fun e w' => e = .returned (.agg #[.int .i64 sa, .int .i64 sb, .int .i64 P, .int .i64 Q]) ∧ Gr w w' := by
  have HS := hid hs; have HT := hid ht; have HP := hid hp; clear hs ht hp
  have HX := hid (And.intro h10 (And.intro h11 (And.intro h13 h14)))
  have C := hid (And.intro (cellAt X.out 8 h8) (And.intro (cellAt X.out 9 h9) (And.intro (cellAt X.out 15 h15) (cellAt X.out 16 h16))))
  clear h8 h9 h10 h11 h13 h14 h15 h16
  have X2 := hid ((((Gr.refl w).al (.cells #[.int .i64 0, .int .i64 0, .int .i64 0, .int .i64 0] 91)).al (.cells #[.int .i64 sa, .int .i64 sb] 34)).keep X.out)
  have GA := hid (((Gr.refl w).al (.cells #[.int .i64 0, .int .i64 0, .int .i64 0, .int .i64 0] 91)).al (.cells #[.int .i64 sa, .int .i64 sb] 34))
  have c15 := ((Gr.refl w).al (.cells #[.int .i64 0, .int .i64 0, .int .i64 0, .int .i64 0] 91)).cellK C.out.2.2.1
  have c16 := ((Gr.refl w).al (.cells #[.int .i64 0, .int .i64 0, .int .i64 0, .int .i64 0] 91)).cellK C.out.2.2.2
  go_enter Try.func58, Try.ntmps58
  go_wp2_with fail
  refine wp_reg0 11 (by kernel_rfl) (by kernel_rfl) ?_
  apply Exists.intro
  refine ⟨fun wb hb => ?_, ?_⟩
  · obtain ⟨_, _⟩ := hb.at2 (alloc2 (w := w) (A := .cells #[.int .i64 0, .int .i64 0, .int .i64 0, .int .i64 0] 91) (B := .cells #[.int .i64 sa, .int .i64 sb] 34) (Gr.refl _)).2.1
    have _ := hb.atF (GA.out.cellK C.out.1); have _ := hb.atF (GA.out.cellK C.out.2.1)
    simp only [headOps, List.contains, List.elem, reduceIte, Bool.false_eq_true]
    repeat (first | go_big_quiet_step (first | (go_at_call 95; exact Calls.of_gr (itS_t g cs T a b c d S T' _ (hid (Gr.keep (w := wb) ⟨⟨_, _⟩, rfl⟩ (hb.keep X2.out))) HX.out.1 HX.out.2.1 HX.out.2.2.1 HX.out.2.2.2 HS.out)) | (go_at_call 94; exact Calls.of_gr (HT.out _)) | (go_at_call 93; exact Calls.of_gr (HP.out _))) | quiet_step (fail))
    exact wpQuiet_nil rfl
  intro w1 hg1
  have x1 := hg1.keep (alloc2 (w := w) (A := .cells #[.int .i64 0, .int .i64 0, .int .i64 0, .int .i64 0] 91) (B := .cells #[.int .i64 sa, .int .i64 sb] 34) (Gr.refl _)).1
  have G1 := hid (GA.out.trans hg1)
  obtain ⟨_, _, _, _⟩ := cells4 x1
  have _ := fz x1
  have _ := ltb x1
  clear hg1 x1
  go_wp2_with fail
  refine bodyPost_ret (v := .agg #[.int .i64 sa, .int .i64 sb, .int .i64 P, .int .i64 Q]) (by simp [results, Try.results58, go_sem, *]) rfl ⟨rfl, ?_⟩
  exact (((G1.out.setCell (by simp) _).setCell (by simp) _).setCell (by simp) _).setCell (by simp) _
set_option maxRecDepth 20000 in
set_option maxHeartbeats 1000000 in
theorem iends_1 (g : Nat) (cs : Array Value) (T : TypeId) (p q a b c d sa sb : Int) (w : World) (X : Hid (w.heap[g]? = some (.cells cs T))) (h8 : cs[8]? = some (.int .i64 p)) (h9 : cs[9]? = some (.int .i64 q)) (h10 : cs[10]? = some (.int .i64 a)) (h11 : cs[11]? = some (.int .i64 b)) (h13 : cs[13]? = some (.int .i64 c)) (h14 : cs[14]? = some (.int .i64 d)) (h15 : cs[15]? = some (.int .i64 sa)) (h16 : cs[16]? = some (.int .i64 sb))
    (hs : ∀ w, Calls Try.prog 118 #[fr a b, fr c d] w fun e w' => (∃ x y, e = .panicked [{ v := .iface 160 (fr x y), recovered := false }]) ∧ Gr w w') :
    Calls Try.prog 58 #[.pointer (some ⟨g, 0, none⟩)] w fun e w' => (∃ x y, e = .panicked [{ v := .iface 160 (fr x y), recovered := false }]) ∧ Gr w w' := by
  have HS := hid hs; clear hs
  have HX := hid (And.intro h10 (And.intro h11 (And.intro h13 h14)))
  have C := hid (And.intro (cellAt X.out 8 h8) (And.intro (cellAt X.out 9 h9) (And.intro (cellAt X.out 15 h15) (cellAt X.out 16 h16))))
  clear h8 h9 h10 h11 h13 h14 h15 h16
  have X2 := hid ((((Gr.refl w).al (.cells #[.int .i64 0, .int .i64 0, .int .i64 0, .int .i64 0] 91)).al (.cells #[.int .i64 sa, .int .i64 sb] 34)).keep X.out)
  have GA := hid (((Gr.refl w).al (.cells #[.int .i64 0, .int .i64 0, .int .i64 0, .int .i64 0] 91)).al (.cells #[.int .i64 sa, .int .i64 sb] 34))
  have c15 := ((Gr.refl w).al (.cells #[.int .i64 0, .int .i64 0, .int .i64 0, .int .i64 0] 91)).cellK C.out.2.2.1
  have c16 := ((Gr.refl w).al (.cells #[.int .i64 0, .int .i64 0, .int .i64 0, .int .i64 0] 91)).cellK C.out.2.2.2
  go_enter Try.func58, Try.ntmps58
  go_wp2_with fail
  refine wp_regP 8 [9, 10, 11, 12] (by kernel_rfl) (by kernel_rfl) rfl ?_
  apply Exists.intro
  refine ⟨95, #[.pointer (some ⟨g, 0, none⟩)], fun wb hb => ?_, ?_⟩
  · obtain ⟨_, _⟩ := hb.at2 (alloc2 (w := w) (A := .cells #[.int .i64 0, .int .i64 0, .int .i64 0, .int .i64 0] 91) (B := .cells #[.int .i64 sa, .int .i64 sb] 34) (Gr.refl _)).2.1
    have _ := hb.atF (GA.out.cellK C.out.1); have _ := hb.atF (GA.out.cellK C.out.2.1)
    simp only [headOps, List.contains, List.elem, List.length_cons, List.length_nil, Nat.zero_add, Nat.reduceAdd, Nat.reduceBEq, reduceIte, Bool.false_eq_true, dumOp]
    repeat (first | go_big_quiet_step (first | (fail)) | quiet_step (fail))
    exact wpQuiet_nil rfl
  refine ⟨fun w' => by kernel_rfl, fun w' hg' => (itS_f g cs T a b c d _ (hid (hg'.keep X2.out)) HX.out.1 HX.out.2.1 HX.out.2.2.1 HX.out.2.2.2 HS.out).mono fun e w2 ⟨⟨x, y, he⟩, hg2⟩ => ⟨_, he, fun a' ha' => ⟨ha', ⟨x, y, rfl⟩, (GA.out.trans hg').trans hg2⟩⟩⟩
set_option maxRecDepth 20000 in
set_option maxHeartbeats 1000000 in
theorem iends_2 (g : Nat) (cs : Array Value) (T : TypeId) (p q a b c d sa sb : Int) (w : World) (X : Hid (w.heap[g]? = some (.cells cs T))) (h8 : cs[8]? = some (.int .i64 p)) (h9 : cs[9]? = some (.int .i64 q)) (h10 : cs[10]? = some (.int .i64 a)) (h11 : cs[11]? = some (.int .i64 b)) (h13 : cs[13]? = some (.int .i64 c)) (h14 : cs[14]? = some (.int .i64 d)) (h15 : cs[15]? = some (.int .i64 sa)) (h16 : cs[16]? = some (.int .i64 sb)) (S T' : Int) (hs : ∀ w, Calls Try.prog 118 #[fr a b, fr c d] w fun e w' => e = .returned (fr S T') ∧ Gr w w')
    (ht : ∀ w, Calls Try.prog 94 #[fr p q, fr S T'] w fun e w' => (∃ x y, e = .panicked [{ v := .iface 160 (fr x y), recovered := false }]) ∧ Gr w w') :
    Calls Try.prog 58 #[.pointer (some ⟨g, 0, none⟩)] w fun e w' => (∃ x y, e = .panicked [{ v := .iface 160 (fr x y), recovered := false }]) ∧ Gr w w' := by
  have HS := hid hs; have HT := hid ht; clear hs ht
  have HX := hid (And.intro h10 (And.intro h11 (And.intro h13 h14)))
  have C := hid (And.intro (cellAt X.out 8 h8) (And.intro (cellAt X.out 9 h9) (And.intro (cellAt X.out 15 h15) (cellAt X.out 16 h16))))
  clear h8 h9 h10 h11 h13 h14 h15 h16
  have X2 := hid ((((Gr.refl w).al (.cells #[.int .i64 0, .int .i64 0, .int .i64 0, .int .i64 0] 91)).al (.cells #[.int .i64 sa, .int .i64 sb] 34)).keep X.out)
  have GA := hid (((Gr.refl w).al (.cells #[.int .i64 0, .int .i64 0, .int .i64 0, .int .i64 0] 91)).al (.cells #[.int .i64 sa, .int .i64 sb] 34))
  have c15 := ((Gr.refl w).al (.cells #[.int .i64 0, .int .i64 0, .int .i64 0, .int .i64 0] 91)).cellK C.out.2.2.1
  have c16 := ((Gr.refl w).al (.cells #[.int .i64 0, .int .i64 0, .int .i64 0, .int .i64 0] 91)).cellK C.out.2.2.2
  go_enter Try.func58, Try.ntmps58
  go_wp2_with fail
  refine wp_regP 9 [10, 11, 12] (by kernel_rfl) (by kernel_rfl) rfl ?_
  apply Exists.intro
  refine ⟨94, #[fr p q, fr S T'], fun wb hb => ?_, ?_⟩
  · obtain ⟨_, _⟩ := hb.at2 (alloc2 (w := w) (A := .cells #[.int .i64 0, .int .i64 0, .int .i64 0, .int .i64 0] 91) (B := .cells #[.int .i64 sa, .int .i64 sb] 34) (Gr.refl _)).2.1
    have _ := hb.atF (GA.out.cellK C.out.1); have _ := hb.atF (GA.out.cellK C.out.2.1)
    simp only [headOps, List.contains, List.elem, List.length_cons, List.length_nil, Nat.zero_add, Nat.reduceAdd, Nat.reduceBEq, reduceIte, Bool.false_eq_true, dumOp]
    repeat (first | go_big_quiet_step (first | (go_at_call 95; exact Calls.of_gr (itS_t g cs T a b c d S T' _ (hid (Gr.keep (w := wb) ⟨⟨_, _⟩, rfl⟩ (hb.keep X2.out))) HX.out.1 HX.out.2.1 HX.out.2.2.1 HX.out.2.2.2 HS.out))) | quiet_step (fail))
    exact wpQuiet_nil rfl
  refine ⟨fun w' => by kernel_rfl, fun w' hg' => (HT.out _).mono fun e w2 ⟨⟨x, y, he⟩, hg2⟩ => ⟨_, he, fun a' ha' => ⟨ha', ⟨x, y, rfl⟩, (GA.out.trans hg').trans hg2⟩⟩⟩
set_option maxRecDepth 20000 in
set_option maxHeartbeats 1000000 in
theorem iends_3 (g : Nat) (cs : Array Value) (T : TypeId) (p q a b c d sa sb : Int) (w : World) (X : Hid (w.heap[g]? = some (.cells cs T))) (h8 : cs[8]? = some (.int .i64 p)) (h9 : cs[9]? = some (.int .i64 q)) (h10 : cs[10]? = some (.int .i64 a)) (h11 : cs[11]? = some (.int .i64 b)) (h13 : cs[13]? = some (.int .i64 c)) (h14 : cs[14]? = some (.int .i64 d)) (h15 : cs[15]? = some (.int .i64 sa)) (h16 : cs[16]? = some (.int .i64 sb)) (S T' U V : Int) (hs : ∀ w, Calls Try.prog 118 #[fr a b, fr c d] w fun e w' => e = .returned (fr S T') ∧ Gr w w')
    (ht : ∀ w, Calls Try.prog 94 #[fr p q, fr S T'] w fun e w' => e = .returned (fr U V) ∧ Gr w w')
    (hp : ∀ w, Calls Try.prog 93 #[fr sa sb, fr U V] w fun e w' => (∃ x y, e = .panicked [{ v := .iface 160 (fr x y), recovered := false }]) ∧ Gr w w') :
    Calls Try.prog 58 #[.pointer (some ⟨g, 0, none⟩)] w fun e w' => (∃ x y, e = .panicked [{ v := .iface 160 (fr x y), recovered := false }]) ∧ Gr w w' := by
  have HS := hid hs; have HT := hid ht; have HP := hid hp; clear hs ht hp
  have HX := hid (And.intro h10 (And.intro h11 (And.intro h13 h14)))
  have C := hid (And.intro (cellAt X.out 8 h8) (And.intro (cellAt X.out 9 h9) (And.intro (cellAt X.out 15 h15) (cellAt X.out 16 h16))))
  clear h8 h9 h10 h11 h13 h14 h15 h16
  have X2 := hid ((((Gr.refl w).al (.cells #[.int .i64 0, .int .i64 0, .int .i64 0, .int .i64 0] 91)).al (.cells #[.int .i64 sa, .int .i64 sb] 34)).keep X.out)
  have GA := hid (((Gr.refl w).al (.cells #[.int .i64 0, .int .i64 0, .int .i64 0, .int .i64 0] 91)).al (.cells #[.int .i64 sa, .int .i64 sb] 34))
  have c15 := ((Gr.refl w).al (.cells #[.int .i64 0, .int .i64 0, .int .i64 0, .int .i64 0] 91)).cellK C.out.2.2.1
  have c16 := ((Gr.refl w).al (.cells #[.int .i64 0, .int .i64 0, .int .i64 0, .int .i64 0] 91)).cellK C.out.2.2.2
  go_enter Try.func58, Try.ntmps58
  go_wp2_with fail
  refine wp_regP 10 [11, 12] (by kernel_rfl) (by kernel_rfl) rfl ?_
  apply Exists.intro
  refine ⟨93, #[fr sa sb, fr U V], fun wb hb => ?_, ?_⟩
  · obtain ⟨_, _⟩ := hb.at2 (alloc2 (w := w) (A := .cells #[.int .i64 0, .int .i64 0, .int .i64 0, .int .i64 0] 91) (B := .cells #[.int .i64 sa, .int .i64 sb] 34) (Gr.refl _)).2.1
    have _ := hb.atF (GA.out.cellK C.out.1); have _ := hb.atF (GA.out.cellK C.out.2.1)
    simp only [headOps, List.contains, List.elem, List.length_cons, List.length_nil, Nat.zero_add, Nat.reduceAdd, Nat.reduceBEq, reduceIte, Bool.false_eq_true, dumOp]
    repeat (first | go_big_quiet_step (first | (go_at_call 95; exact Calls.of_gr (itS_t g cs T a b c d S T' _ (hid (Gr.keep (w := wb) ⟨⟨_, _⟩, rfl⟩ (hb.keep X2.out))) HX.out.1 HX.out.2.1 HX.out.2.2.1 HX.out.2.2.2 HS.out)) | (go_at_call 94; exact Calls.of_gr (HT.out _))) | quiet_step (fail))
    exact wpQuiet_nil rfl
  refine ⟨fun w' => by kernel_rfl, fun w' hg' => (HP.out _).mono fun e w2 ⟨⟨x, y, he⟩, hg2⟩ => ⟨_, he, fun a' ha' => ⟨ha', ⟨x, y, rfl⟩, (GA.out.trans hg').trans hg2⟩⟩⟩
end Go.Proofs.Ytflfjedimcbfeaa
namespace Go.Proofs.Ytflfjedimcbfeaa
open Go.RowKit Go.Sort

abbrev laidC (a b : Int) (A : Option Addr) (m c : Nat) (N : Int) (kb : Bool) (u v : Int) (x : Tgv) (t wa wb sa sb : Int) : Obj := .cells (laidA a b A m c N kb u v x t wa wb sa sb) 137
set_option maxRecDepth 20000 in
set_option maxHeartbeats 1000000 in
theorem iEO_0 (a b : Int) (A : Option Addr) (c : Nat) (xs : List (Int × Int)) (N : Int) (kb : Bool) (u v : Int) (B : Option Addr) (d : Nat) (ts : List Tgv) (h0 h1 h2 h3 h4 : Int) (w : World) (X : Hid (RdF w A xs)) (T : Hid (RdTg w B ts)) (hn : xs.length ≤ 1048576) (hm : ts.length ≤ 1048576) (hr : vshB a b xs N u v ts h0 h1 h2 h3 h4 = false) :
    Calls Try.prog 22 #[bnc a b A xs.length c N kb u v B ts.length d, sho h0 h1 h2 h3 h4] w fun e w' => e = .returned (.tuple #[fr 0 0, fr 0 0, .int .i64 1]) ∧ Gr w w' := by
  have HR := hid hr; clear hr
  go_enter Try.func22, Try.ntmps22
  go_wp2_with fail
  refine (iVShot a b A c xs N kb u v B d ts h0 h1 h2 h3 h4 false _ (hid (X.out.keep (((((Gr.refl w).al _).al _).al _).al _))) (hid (T.out.keep (((((Gr.refl w).al _).al _).al _).al _))) hn hm HR.out).mono ?_
  rintro e w1 ⟨rfl, hg1⟩
  obtain ⟨x1_0, x1_1, x1_2, x1_3, hz1, g1⟩ := alloc4 hg1
  obtain ⟨_, _, _, _, _, _, _, _⟩ := cells8 x1_0
  have _ := fz x1_0
  have _ := ltb x1_0
  obtain ⟨_, _, _, _, _⟩ := cells5 x1_1
  have _ := fz x1_1
  have _ := ltb x1_1
  obtain ⟨_, _⟩ := cells2 x1_2
  have _ := fz x1_2
  have _ := ltb x1_2
  obtain ⟨_, _⟩ := cells2 x1_3
  have _ := fz x1_3
  have _ := ltb x1_3
  have X1_0 := hid x1_0; clear x1_0
  have X1_1 := hid x1_1; clear x1_1
  have X1_2 := hid x1_2; clear x1_2
  have X1_3 := hid x1_3; clear x1_3
  have G1 := hid (g1)
  clear hg1 g1
  go_wp2
  refine bodyPost_ret (v := .tuple #[fr 0 0, fr 0 0, .int .i64 1]) (by simp [results, Try.results22, go_sem, *]) rfl ⟨rfl, ?_⟩
  exact ((((G1.out).setCell (by simp <;> omega) _).setCell (by simp <;> omega) _).setCell (by simp <;> omega) _).setCell (by simp <;> omega) _
set_option maxRecDepth 20000 in
set_option maxHeartbeats 1000000 in
theorem iEO_1 (a b : Int) (A : Option Addr) (c : Nat) (xs : List (Int × Int)) (N : Int) (kb : Bool) (u v : Int) (B : Option Addr) (d : Nat) (ts : List Tgv) (k : Nat) (x : Tgv) (h1 h2 h3 h4 p0 p1 p2 p3 C : Int) (w : World) (X : Hid (RdF w A xs)) (T : Hid (RdTg w B ts)) (hn : xs.length ≤ 1048576) (hm : ts.length ≤ 1048576) (hr : vshB a b xs N u v ts (k : Int) h1 h2 h3 h4 = true) (hx : ts[k]? = some x)
    (ht : ∀ (g : Nat) (w : World), Hid (w.heap[g]? = some (laidC a b A xs.length c N kb u v x (k : Int) h1 h2 h3 h4)) → Calls Try.prog 56 #[.func (.func 58) #[.pointer (some ⟨g, 0, none⟩)] #[]] w fun e w' => e = .returned (.tuple #[.agg #[.int .i64 p0, .int .i64 p1, .int .i64 p2, .int .i64 p3], .int .i64 C]) ∧ Gr w w') :
    Calls Try.prog 22 #[bnc a b A xs.length c N kb u v B ts.length d, sho (k : Int) h1 h2 h3 h4] w fun e w' => e = .returned (.tuple #[fr p0 p1, fr p2 p3, .int .i64 C]) ∧ Gr w w' := by
  have HR := hid hr; have HT := hid ht; have HX := hid hx; clear hr ht hx
  go_enter Try.func22, Try.ntmps22
  go_wp2_with fail
  refine (iVShot a b A c xs N kb u v B d ts (k : Int) h1 h2 h3 h4 true _ (hid (X.out.keep (((((Gr.refl w).al _).al _).al _).al _))) (hid (T.out.keep (((((Gr.refl w).al _).al _).al _).al _))) hn hm HR.out).mono ?_
  rintro e w1 ⟨rfl, hg1⟩
  obtain ⟨x1_0, x1_1, x1_2, x1_3, hz1, g1⟩ := alloc4 hg1
  obtain ⟨_, _, _, _, _, _, _, _⟩ := cells8 x1_0
  have _ := fz x1_0
  have _ := ltb x1_0
  obtain ⟨_, _, _, _, _⟩ := cells5 x1_1
  have _ := fz x1_1
  have _ := ltb x1_1
  obtain ⟨_, _⟩ := cells2 x1_2
  have _ := fz x1_2
  have _ := ltb x1_2
  obtain ⟨_, _⟩ := cells2 x1_3
  have _ := fz x1_3
  have _ := ltb x1_3
  have X1_0 := hid x1_0; clear x1_0
  have X1_1 := hid x1_1; clear x1_1
  have X1_2 := hid x1_2; clear x1_2
  have X1_3 := hid x1_3; clear x1_3
  have G1 := hid (g1)
  clear hg1 g1
  go_wp2_with fail
  refine (ilay a b A xs.length c N kb u v B d ts k x h1 h2 h3 h4 _ (hid (T.out.keep G1.out)) HX.out).mono ?_
  rintro e w2 ⟨g, rfl, xl, hg2⟩
  have XL := hid xl; have Y2 := hid (hg2.keep X1_2.out); have Z2 := hid (hg2.keep X1_3.out); have G2 := hid (G1.out.trans hg2)
  clear xl hg2
  go_wp2_with fail
  refine (HT.out _ _ XL).mono ?_
  rintro e w3 ⟨rfl, hg3⟩
  have Y3 := hid (((Gr.refl w3).al (.cells #[.int .i64 p0, .int .i64 p1, .int .i64 p2, .int .i64 p3] 91)).keep (hg3.keep Y2.out)); have Z3 := hid (((Gr.refl w3).al (.cells #[.int .i64 p0, .int .i64 p1, .int .i64 p2, .int .i64 p3] 91)).keep (hg3.keep Z2.out)); have G3 := hid ((G2.out.trans hg3).al (.cells #[.int .i64 p0, .int .i64 p1, .int .i64 p2, .int .i64 p3] 91))
  have XB := hid (alloc1 (w := w3) (A := .cells #[.int .i64 p0, .int .i64 p1, .int .i64 p2, .int .i64 p3] 91) (Gr.refl _)).1
  clear hg3 Y2 Z2 XL
  obtain ⟨_, _, _, _⟩ := cells4 XB.out
  obtain ⟨_, _⟩ := cells2 Y3.out
  obtain ⟨_, _⟩ := cells2 Z3.out
  have _ := fz Y3.out; have _ := fz Z3.out
  have _ := ltb Y3.out; have _ := ltb Z3.out; have _ := ltb XB.out
  go_wp2_with fail
  go_region
  all_goals
    go_wp2_with fail
    refine bodyPost_ret (v := .tuple #[fr p0 p1, fr p2 p3, .int .i64 C]) (by simp [results, Try.results22, go_sem, *]) rfl ⟨rfl, ?_⟩
    repeat (first | exact G3.out | refine Gr.setCell ?_ (by simp <;> omega) _ | refine Gr.trans ?_ (Gr.drew _))
end Go.Proofs.Ytflfjedimcbfeaa
namespace Go.Proofs.Ytflfjedimcbfeaa
open Go.RowKit Go.Sort

set_option maxRecDepth 20000 in
set_option maxHeartbeats 1000000 in
theorem sE_1 (a0 b0 : Int) (A : Option Addr) (m e0 : Nat) (N : Int) (kb : Bool) (u v : Int) (B : Option Addr) (d0 : Nat) (ts : List Tgv) (j i k : Nat) (x : Tgv) (wa wb' sa sb : Int) (w : World) (XJ : Hid (w.heap[j]? = some (.cells (bncA a0 b0 A m e0 N kb u v B ts.length d0) 41))) (XI : Hid (w.heap[i]? = some (.cells #[.int .i64 (k : Int), .int .i64 wa, .int .i64 wb', .int .i64 sa, .int .i64 sb] 53))) (T : Hid (RdTg w B ts)) (hx : ts[k]? = some x)
    (hst : ∀ w, Calls Try.prog 89 #[fr x.a x.b, fr wa wb'] w fun e w' => e = .returned (.tuple #[fr 0 0, .int .i64 3]) ∧ Gr w w') :
    Calls Try.prog 55 #[.pointer (some ⟨j, 0, none⟩), .pointer (some ⟨i, 0, none⟩)] w fun e w' => e = .returned (.tuple #[fr 0 0, fr 0 0, .int .i64 3]) ∧ Gr w w' := by
  have HST := hid hst
  have hk : k < ts.length := (List.getElem?_eq_some_iff.1 hx).1
  obtain ⟨ad, rfl, hcel⟩ := T.out k x hx
  have HC := hid hcel
  clear hcel hx hst
  go_enter Try.func55, Try.ntmps55
  obtain ⟨_, _, _, _, _, _, _, _⟩ := cells8 XJ.out
  have _ := fz XJ.out
  have _ := ltb XJ.out
  obtain ⟨_, _, _, _, _⟩ := cells5 XI.out
  have _ := fz XI.out
  have _ := ltb XI.out
  go_wp2_with fail
  refine wp_reg0 9 (by kernel_rfl) (by kernel_rfl) ?_
  apply Exists.intro
  refine ⟨fun wb hb => ?_, ?_⟩
  · obtain ⟨y0, y1, _, _⟩ := alloc2 (Gr.refl _)
    obtain ⟨_, _⟩ := hb.at2 y0
    obtain ⟨_, _⟩ := hb.at2 y1
    clear y0 y1
    obtain ⟨_, _, _, _, _, _, _, _⟩ := hb.at8 ((((Gr.refl _).al _).al _).keep XJ.out)
    obtain ⟨_, _, _, _, _⟩ := hb.at5 ((((Gr.refl _).al _).al _).keep XI.out)
    simp only [headOps, List.contains, List.elem, reduceIte, Bool.false_eq_true]
    repeat (first | go_big_quiet_step (first | (fail)) | quiet_step (fail))
    exact wpQuiet_nil rfl
  intro w1 hg1
  obtain ⟨x1_0, x1_1, hz1, g1⟩ := alloc2 hg1
  have x1_2 := g1.keep XJ.out
  have x1_3 := g1.keep XI.out
  obtain ⟨_, _⟩ := cells2 x1_0
  have _ := fz x1_0
  have _ := ltb x1_0
  obtain ⟨_, _⟩ := cells2 x1_1
  have _ := fz x1_1
  have _ := ltb x1_1
  obtain ⟨_, _, _, _, _, _, _, _⟩ := cells8 x1_2
  have _ := fz x1_2
  have _ := ltb x1_2
  obtain ⟨_, _, _, _, _⟩ := cells5 x1_3
  have _ := fz x1_3
  have _ := ltb x1_3
  have X1_0 := hid x1_0; clear x1_0
  have X1_1 := hid x1_1; clear x1_1
  have X1_2 := hid x1_2; clear x1_2
  have X1_3 := hid x1_3; clear x1_3
  have G1 := hid (g1)
  clear hg1 g1
  have HC1 := hid (HC.out.keep G1.out)
  go_wp2_with fail
  refine wp_reg1s #[.int .i64 0, .int .i64 0] 14 12 8 13 33 (by kernel_rfl) (by kernel_rfl) rfl rfl (by simp) rfl rfl (by decide) (fun _ _ => by kernel_rfl) (by kernel_rfl) ?_
  apply Exists.intro; apply Exists.intro
  refine ⟨fun wb hb => ?_, ?_⟩
  · obtain ⟨_, _⟩ := hb.at2 X1_0.out
    obtain ⟨_, _⟩ := hb.at2 X1_1.out
    obtain ⟨_, _, _, _, _, _, _, _⟩ := hb.at8 X1_2.out
    obtain ⟨_, _, _, _, _⟩ := hb.at5 X1_3.out
    have _ := hb.atF HC1.out.h3; have _ := hb.atF HC1.out.h4
    simp only [headOps, List.contains, List.elem, Nat.reduceAdd, Nat.reduceBEq, reduceIte, Bool.false_eq_true, dumOp]
    repeat (first | go_big_quiet_step (first | (go_at_call 89; exact Calls.of_gr (HST.out _))) | quiet_step (fail))
    exact wpQuiet_nil rfl
  refine ⟨rfl, ⟨rfl, by simp [Value.oneCell']⟩, fun w2 b2 hg2 _ xb2 => ?_⟩
  have x2_1 := hg2.keep X1_0.out
  have x2_2 := hg2.keep X1_1.out
  have x2_3 := hg2.keep X1_2.out
  have x2_4 := hg2.keep X1_3.out
  obtain ⟨_, _⟩ := cells2 x2_1
  have _ := fz x2_1
  have _ := ltb x2_1
  obtain ⟨_, _⟩ := cells2 x2_2
  have _ := fz x2_2
  have _ := ltb x2_2
  obtain ⟨_, _, _, _, _, _, _, _⟩ := cells8 x2_3
  have _ := fz x2_3
  have _ := ltb x2_3
  obtain ⟨_, _, _, _, _⟩ := cells5 x2_4
  have _ := fz x2_4
  have _ := ltb x2_4
  obtain ⟨_, _⟩ := cells2 xb2
  have _ := fz xb2
  have _ := ltb xb2
  have X2_1 := hid x2_1; clear x2_1
  have X2_2 := hid x2_2; clear x2_2
  have X2_3 := hid x2_3; clear x2_3
  have X2_4 := hid x2_4; clear x2_4
  have Xb2 := hid xb2; clear xb2
  have G2 := hid (G1.out.trans hg2)
  clear hg2
  go_wp2
  refine bodyPost_ret (v := .tuple #[fr 0 0, fr 0 0, .int .i64 3]) (by simp [results, Try.results55, go_sem, *]) rfl ⟨rfl, ?_⟩
  exact ((((G2.out).setCell (by simp <;> omega) _).setCell (by simp <;> omega) _).setCell (by simp <;> omega) _).setCell (by simp <;> omega) _
set_option maxRecDepth 20000 in
set_option maxHeartbeats 1000000 in
theorem sE_2 (a0 b0 : Int) (A : Option Addr) (m e0 : Nat) (N : Int) (kb : Bool) (u v : Int) (B : Option Addr) (d0 : Nat) (ts : List Tgv) (j i k : Nat) (x : Tgv) (wa wb' sa sb S T' : Int) (w : World) (XJ : Hid (w.heap[j]? = some (.cells (bncA a0 b0 A m e0 N kb u v B ts.length d0) 41))) (XI : Hid (w.heap[i]? = some (.cells #[.int .i64 (k : Int), .int .i64 wa, .int .i64 wb', .int .i64 sa, .int .i64 sb] 53))) (T : Hid (RdTg w B ts)) (hx : ts[k]? = some x)
    (hst : ∀ w, Calls Try.prog 89 #[fr x.a x.b, fr wa wb'] w fun e w' => e = .returned (.tuple #[fr S T', .int .i64 0]) ∧ Gr w w')
    (hmu : ∀ w, Calls Try.prog 90 #[fr x.p x.q, fr S T'] w fun e w' => e = .returned (.tuple #[fr 0 0, .int .i64 3]) ∧ Gr w w') :
    Calls Try.prog 55 #[.pointer (some ⟨j, 0, none⟩), .pointer (some ⟨i, 0, none⟩)] w fun e w' => e = .returned (.tuple #[fr 0 0, fr 0 0, .int .i64 3]) ∧ Gr w w' := by
  have HST := hid hst; have HMU := hid hmu
  have hk : k < ts.length := (List.getElem?_eq_some_iff.1 hx).1
  obtain ⟨ad, rfl, hcel⟩ := T.out k x hx
  have HC := hid hcel
  clear hcel hx hst hmu
  go_enter Try.func55, Try.ntmps55
  obtain ⟨_, _, _, _, _, _, _, _⟩ := cells8 XJ.out
  have _ := fz XJ.out
  have _ := ltb XJ.out
  obtain ⟨_, _, _, _, _⟩ := cells5 XI.out
  have _ := fz XI.out
  have _ := ltb XI.out
  go_wp2_with fail
  refine wp_reg0 9 (by kernel_rfl) (by kernel_rfl) ?_
  apply Exists.intro
  refine ⟨fun wb hb => ?_, ?_⟩
  · obtain ⟨y0, y1, _, _⟩ := alloc2 (Gr.refl _)
    obtain ⟨_, _⟩ := hb.at2 y0
    obtain ⟨_, _⟩ := hb.at2 y1
    clear y0 y1
    obtain ⟨_, _, _, _, _, _, _, _⟩ := hb.at8 ((((Gr.refl _).al _).al _).keep XJ.out)
    obtain ⟨_, _, _, _, _⟩ := hb.at5 ((((Gr.refl _).al _).al _).keep XI.out)
    simp only [headOps, List.contains, List.elem, reduceIte, Bool.false_eq_true]
    repeat (first | go_big_quiet_step (first | (fail)) | quiet_step (fail))
    exact wpQuiet_nil rfl
  intro w1 hg1
  obtain ⟨x1_0, x1_1, hz1, g1⟩ := alloc2 hg1
  have x1_2 := g1.keep XJ.out
  have x1_3 := g1.keep XI.out
  obtain ⟨_, _⟩ := cells2 x1_0
  have _ := fz x1_0
  have _ := ltb x1_0
  obtain ⟨_, _⟩ := cells2 x1_1
  have _ := fz x1_1
  have _ := ltb x1_1
  obtain ⟨_, _, _, _, _, _, _, _⟩ := cells8 x1_2
  have _ := fz x1_2
  have _ := ltb x1_2
  obtain ⟨_, _, _, _, _⟩ := cells5 x1_3
  have _ := fz x1_3
  have _ := ltb x1_3
  have X1_0 := hid x1_0; clear x1_0
  have X1_1 := hid x1_1; clear x1_1
  have X1_2 := hid x1_2; clear x1_2
  have X1_3 := hid x1_3; clear x1_3
  have G1 := hid (g1)
  clear hg1 g1
  have HC1 := hid (HC.out.keep G1.out)
  go_wp2_with fail
  refine wp_reg1s #[.int .i64 0, .int .i64 0] 14 12 8 13 33 (by kernel_rfl) (by kernel_rfl) rfl rfl (by simp) rfl rfl (by decide) (fun _ _ => by kernel_rfl) (by kernel_rfl) ?_
  apply Exists.intro; apply Exists.intro
  refine ⟨fun wb hb => ?_, ?_⟩
  · obtain ⟨_, _⟩ := hb.at2 X1_0.out
    obtain ⟨_, _⟩ := hb.at2 X1_1.out
    obtain ⟨_, _, _, _, _, _, _, _⟩ := hb.at8 X1_2.out
    obtain ⟨_, _, _, _, _⟩ := hb.at5 X1_3.out
    have _ := hb.atF HC1.out.h3; have _ := hb.atF HC1.out.h4
    simp only [headOps, List.contains, List.elem, Nat.reduceAdd, Nat.reduceBEq, reduceIte, Bool.false_eq_true, dumOp]
    repeat (first | go_big_quiet_step (first | (go_at_call 89; exact Calls.of_gr (HST.out _))) | quiet_step (fail))
    exact wpQuiet_nil rfl
  refine ⟨rfl, ⟨rfl, by simp [Value.oneCell']⟩, fun w2 b2 hg2 _ xb2 => ?_⟩
  have x2_1 := hg2.keep X1_0.out
  have x2_2 := hg2.keep X1_1.out
  have x2_3 := hg2.keep X1_2.out
  have x2_4 := hg2.keep X1_3.out
  obtain ⟨_, _⟩ := cells2 x2_1
  have _ := fz x2_1
  have _ := ltb x2_1
  obtain ⟨_, _⟩ := cells2 x2_2
  have _ := fz x2_2
  have _ := ltb x2_2
  obtain ⟨_, _, _, _, _, _, _, _⟩ := cells8 x2_3
  have _ := fz x2_3
  have _ := ltb x2_3
  obtain ⟨_, _, _, _, _⟩ := cells5 x2_4
  have _ := fz x2_4
  have _ := ltb x2_4
  obtain ⟨_, _⟩ := cells2 xb2
  have _ := fz xb2
  have _ := ltb xb2
  have X2_1 := hid x2_1; clear x2_1
  have X2_2 := hid x2_2; clear x2_2
  have X2_3 := hid x2_3; clear x2_3
  have X2_4 := hid x2_4; clear x2_4
  have Xb2 := hid xb2; clear xb2
  have G2 := hid (G1.out.trans hg2)
  clear hg2
  have HC2 := hid (HC.out.keep G2.out)
  go_wp2_with fail
  refine wp_reg1s #[.int .i64 0, .int .i64 0] 11 9 10 10 47 (by kernel_rfl) (by kernel_rfl) rfl rfl (by simp) rfl rfl (by decide) (fun _ _ => by kernel_rfl) (by kernel_rfl) ?_
  apply Exists.intro; apply Exists.intro
  refine ⟨fun wb hb => ?_, ?_⟩
  · obtain ⟨_, _⟩ := hb.at2 X2_1.out
    obtain ⟨_, _⟩ := hb.at2 X2_2.out
    obtain ⟨_, _, _, _, _, _, _, _⟩ := hb.at8 X2_3.out
    obtain ⟨_, _, _, _, _⟩ := hb.at5 X2_4.out
    obtain ⟨_, _⟩ := hb.at2 Xb2.out
    have _ := hb.atF HC2.out.h1; have _ := hb.atF HC2.out.h2
    simp only [headOps, List.contains, List.elem, Nat.reduceAdd, Nat.reduceBEq, reduceIte, Bool.false_eq_true, dumOp]
    repeat (first | go_big_quiet_step (first | (go_at_call 90; exact Calls.of_gr (HMU.out _))) | quiet_step (fail))
    exact wpQuiet_nil rfl
  refine ⟨rfl, ⟨rfl, by simp [Value.oneCell']⟩, fun w3 b3 hg3 _ xb3 => ?_⟩
  have x3_1 := hg3.keep X2_1.out
  have x3_2 := hg3.keep X2_2.out
  have x3_3 := hg3.keep X2_3.out
  have x3_4 := hg3.keep X2_4.out
  have x3_5 := hg3.keep Xb2.out
  obtain ⟨_, _⟩ := cells2 x3_1
  have _ := fz x3_1
  have _ := ltb x3_1
  obtain ⟨_, _⟩ := cells2 x3_2
  have _ := fz x3_2
  have _ := ltb x3_2
  obtain ⟨_, _, _, _, _, _, _, _⟩ := cells8 x3_3
  have _ := fz x3_3
  have _ := ltb x3_3
  obtain ⟨_, _, _, _, _⟩ := cells5 x3_4
  have _ := fz x3_4
  have _ := ltb x3_4
  obtain ⟨_, _⟩ := cells2 x3_5
  have _ := fz x3_5
  have _ := ltb x3_5
  obtain ⟨_, _⟩ := cells2 xb3
  have _ := fz xb3
  have _ := ltb xb3
  have X3_1 := hid x3_1; clear x3_1
  have X3_2 := hid x3_2; clear x3_2
  have X3_3 := hid x3_3; clear x3_3
  have X3_4 := hid x3_4; clear x3_4
  have X3_5 := hid x3_5; clear x3_5
  have Xb3 := hid xb3; clear xb3
  have G3 := hid (G2.out.trans hg3)
  clear hg3
  go_wp2
  refine bodyPost_ret (v := .tuple #[fr 0 0, fr 0 0, .int .i64 3]) (by simp [results, Try.results55, go_sem, *]) rfl ⟨rfl, ?_⟩
  exact ((((G3.out).setCell (by simp <;> omega) _).setCell (by simp <;> omega) _).setCell (by simp <;> omega) _).setCell (by simp <;> omega) _
set_option maxRecDepth 20000 in
set_option maxHeartbeats 1000000 in
theorem sE_3 (a0 b0 : Int) (A : Option Addr) (m e0 : Nat) (N : Int) (kb : Bool) (u v : Int) (B : Option Addr) (d0 : Nat) (ts : List Tgv) (j i k : Nat) (x : Tgv) (wa wb' sa sb S T' U V : Int) (w : World) (XJ : Hid (w.heap[j]? = some (.cells (bncA a0 b0 A m e0 N kb u v B ts.length d0) 41))) (XI : Hid (w.heap[i]? = some (.cells #[.int .i64 (k : Int), .int .i64 wa, .int .i64 wb', .int .i64 sa, .int .i64 sb] 53))) (T : Hid (RdTg w B ts)) (hx : ts[k]? = some x)
    (hst : ∀ w, Calls Try.prog 89 #[fr x.a x.b, fr wa wb'] w fun e w' => e = .returned (.tuple #[fr S T', .int .i64 0]) ∧ Gr w w')
    (hmu : ∀ w, Calls Try.prog 90 #[fr x.p x.q, fr S T'] w fun e w' => e = .returned (.tuple #[fr U V, .int .i64 0]) ∧ Gr w w')
    (had : ∀ w, Calls Try.prog 91 #[fr sa sb, fr U V] w fun e w' => e = .returned (.tuple #[fr 0 0, .int .i64 3]) ∧ Gr w w') :
    Calls Try.prog 55 #[.pointer (some ⟨j, 0, none⟩), .pointer (some ⟨i, 0, none⟩)] w fun e w' => e = .returned (.tuple #[fr 0 0, fr 0 0, .int .i64 3]) ∧ Gr w w' := by
  have HST := hid hst; have HMU := hid hmu; have HAD := hid had
  have hk : k < ts.length := (List.getElem?_eq_some_iff.1 hx).1
  obtain ⟨ad, rfl, hcel⟩ := T.out k x hx
  have HC := hid hcel
  clear hcel hx hst hmu had
  go_enter Try.func55, Try.ntmps55
  obtain ⟨_, _, _, _, _, _, _, _⟩ := cells8 XJ.out
  have _ := fz XJ.out
  have _ := ltb XJ.out
  obtain ⟨_, _, _, _, _⟩ := cells5 XI.out
  have _ := fz XI.out
  have _ := ltb XI.out
  go_wp2_with fail
  refine wp_reg0 9 (by kernel_rfl) (by kernel_rfl) ?_
  apply Exists.intro
  refine ⟨fun wb hb => ?_, ?_⟩
  · obtain ⟨y0, y1, _, _⟩ := alloc2 (Gr.refl _)
    obtain ⟨_, _⟩ := hb.at2 y0
    obtain ⟨_, _⟩ := hb.at2 y1
    clear y0 y1
    obtain ⟨_, _, _, _, _, _, _, _⟩ := hb.at8 ((((Gr.refl _).al _).al _).keep XJ.out)
    obtain ⟨_, _, _, _, _⟩ := hb.at5 ((((Gr.refl _).al _).al _).keep XI.out)
    simp only [headOps, List.contains, List.elem, reduceIte, Bool.false_eq_true]
    repeat (first | go_big_quiet_step (first | (fail)) | quiet_step (fail))
    exact wpQuiet_nil rfl
  intro w1 hg1
  obtain ⟨x1_0, x1_1, hz1, g1⟩ := alloc2 hg1
  have x1_2 := g1.keep XJ.out
  have x1_3 := g1.keep XI.out
  obtain ⟨_, _⟩ := cells2 x1_0
  have _ := fz x1_0
  have _ := ltb x1_0
  obtain ⟨_, _⟩ := cells2 x1_1
  have _ := fz x1_1
  have _ := ltb x1_1
  obtain ⟨_, _, _, _, _, _, _, _⟩ := cells8 x1_2
  have _ := fz x1_2
  have _ := ltb x1_2
  obtain ⟨_, _, _, _, _⟩ := cells5 x1_3
  have _ := fz x1_3
  have _ := ltb x1_3
  have X1_0 := hid x1_0; clear x1_0
  have X1_1 := hid x1_1; clear x1_1
  have X1_2 := hid x1_2; clear x1_2
  have X1_3 := hid x1_3; clear x1_3
  have G1 := hid (g1)
  clear hg1 g1
  have HC1 := hid (HC.out.keep G1.out)
  go_wp2_with fail
  refine wp_reg1s #[.int .i64 0, .int .i64 0] 14 12 8 13 33 (by kernel_rfl) (by kernel_rfl) rfl rfl (by simp) rfl rfl (by decide) (fun _ _ => by kernel_rfl) (by kernel_rfl) ?_
  apply Exists.intro; apply Exists.intro
  refine ⟨fun wb hb => ?_, ?_⟩
  · obtain ⟨_, _⟩ := hb.at2 X1_0.out
    obtain ⟨_, _⟩ := hb.at2 X1_1.out
    obtain ⟨_, _, _, _, _, _, _, _⟩ := hb.at8 X1_2.out
    obtain ⟨_, _, _, _, _⟩ := hb.at5 X1_3.out
    have _ := hb.atF HC1.out.h3; have _ := hb.atF HC1.out.h4
    simp only [headOps, List.contains, List.elem, Nat.reduceAdd, Nat.reduceBEq, reduceIte, Bool.false_eq_true, dumOp]
    repeat (first | go_big_quiet_step (first | (go_at_call 89; exact Calls.of_gr (HST.out _))) | quiet_step (fail))
    exact wpQuiet_nil rfl
  refine ⟨rfl, ⟨rfl, by simp [Value.oneCell']⟩, fun w2 b2 hg2 _ xb2 => ?_⟩
  have x2_1 := hg2.keep X1_0.out
  have x2_2 := hg2.keep X1_1.out
  have x2_3 := hg2.keep X1_2.out
  have x2_4 := hg2.keep X1_3.out
  obtain ⟨_, _⟩ := cells2 x2_1
  have _ := fz x2_1
  have _ := ltb x2_1
  obtain ⟨_, _⟩ := cells2 x2_2
  have _ := fz x2_2
  have _ := ltb x2_2
  obtain ⟨_, _, _, _, _, _, _, _⟩ := cells8 x2_3
  have _ := fz x2_3
  have _ := ltb x2_3
  obtain ⟨_, _, _, _, _⟩ := cells5 x2_4
  have _ := fz x2_4
  have _ := ltb x2_4
  obtain ⟨_, _⟩ := cells2 xb2
  have _ := fz xb2
  have _ := ltb xb2
  have X2_1 := hid x2_1; clear x2_1
  have X2_2 := hid x2_2; clear x2_2
  have X2_3 := hid x2_3; clear x2_3
  have X2_4 := hid x2_4; clear x2_4
  have Xb2 := hid xb2; clear xb2
  have G2 := hid (G1.out.trans hg2)
  clear hg2
  have HC2 := hid (HC.out.keep G2.out)
  go_wp2_with fail
  refine wp_reg1s #[.int .i64 0, .int .i64 0] 11 9 10 10 47 (by kernel_rfl) (by kernel_rfl) rfl rfl (by simp) rfl rfl (by decide) (fun _ _ => by kernel_rfl) (by kernel_rfl) ?_
  apply Exists.intro; apply Exists.intro
  refine ⟨fun wb hb => ?_, ?_⟩
  · obtain ⟨_, _⟩ := hb.at2 X2_1.out
    obtain ⟨_, _⟩ := hb.at2 X2_2.out
    obtain ⟨_, _, _, _, _, _, _, _⟩ := hb.at8 X2_3.out
    obtain ⟨_, _, _, _, _⟩ := hb.at5 X2_4.out
    obtain ⟨_, _⟩ := hb.at2 Xb2.out
    have _ := hb.atF HC2.out.h1; have _ := hb.atF HC2.out.h2
    simp only [headOps, List.contains, List.elem, Nat.reduceAdd, Nat.reduceBEq, reduceIte, Bool.false_eq_true, dumOp]
    repeat (first | go_big_quiet_step (first | (go_at_call 90; exact Calls.of_gr (HMU.out _))) | quiet_step (fail))
    exact wpQuiet_nil rfl
  refine ⟨rfl, ⟨rfl, by simp [Value.oneCell']⟩, fun w3 b3 hg3 _ xb3 => ?_⟩
  have x3_1 := hg3.keep X2_1.out
  have x3_2 := hg3.keep X2_2.out
  have x3_3 := hg3.keep X2_3.out
  have x3_4 := hg3.keep X2_4.out
  have x3_5 := hg3.keep Xb2.out
  obtain ⟨_, _⟩ := cells2 x3_1
  have _ := fz x3_1
  have _ := ltb x3_1
  obtain ⟨_, _⟩ := cells2 x3_2
  have _ := fz x3_2
  have _ := ltb x3_2
  obtain ⟨_, _, _, _, _, _, _, _⟩ := cells8 x3_3
  have _ := fz x3_3
  have _ := ltb x3_3
  obtain ⟨_, _, _, _, _⟩ := cells5 x3_4
  have _ := fz x3_4
  have _ := ltb x3_4
  obtain ⟨_, _⟩ := cells2 x3_5
  have _ := fz x3_5
  have _ := ltb x3_5
  obtain ⟨_, _⟩ := cells2 xb3
  have _ := fz xb3
  have _ := ltb xb3
  have X3_1 := hid x3_1; clear x3_1
  have X3_2 := hid x3_2; clear x3_2
  have X3_3 := hid x3_3; clear x3_3
  have X3_4 := hid x3_4; clear x3_4
  have X3_5 := hid x3_5; clear x3_5
  have Xb3 := hid xb3; clear xb3
  have G3 := hid (G2.out.trans hg3)
  clear hg3
  go_wp2_with fail
  refine wp_reg1s #[.int .i64 0, .int .i64 0] 11 9 12 10 61 (by kernel_rfl) (by kernel_rfl) rfl rfl (by simp) rfl rfl (by decide) (fun _ _ => by kernel_rfl) (by kernel_rfl) ?_
  apply Exists.intro; apply Exists.intro
  refine ⟨fun wb hb => ?_, ?_⟩
  · obtain ⟨_, _⟩ := hb.at2 X3_1.out
    obtain ⟨_, _⟩ := hb.at2 X3_2.out
    obtain ⟨_, _, _, _, _, _, _, _⟩ := hb.at8 X3_3.out
    obtain ⟨_, _, _, _, _⟩ := hb.at5 X3_4.out
    obtain ⟨_, _⟩ := hb.at2 X3_5.out
    obtain ⟨_, _⟩ := hb.at2 Xb3.out
    simp only [headOps, List.contains, List.elem, Nat.reduceAdd, Nat.reduceBEq, reduceIte, Bool.false_eq_true, dumOp]
    repeat (first | go_big_quiet_step (first | (go_at_call 91; exact Calls.of_gr (HAD.out _))) | quiet_step (fail))
    exact wpQuiet_nil rfl
  refine ⟨rfl, ⟨rfl, by simp [Value.oneCell']⟩, fun w4 b4 hg4 _ xb4 => ?_⟩
  have x4_1 := hg4.keep X3_1.out
  have x4_2 := hg4.keep X3_2.out
  have x4_3 := hg4.keep X3_3.out
  have x4_4 := hg4.keep X3_4.out
  have x4_5 := hg4.keep X3_5.out
  have x4_6 := hg4.keep Xb3.out
  obtain ⟨_, _⟩ := cells2 x4_1
  have _ := fz x4_1
  have _ := ltb x4_1
  obtain ⟨_, _⟩ := cells2 x4_2
  have _ := fz x4_2
  have _ := ltb x4_2
  obtain ⟨_, _, _, _, _, _, _, _⟩ := cells8 x4_3
  have _ := fz x4_3
  have _ := ltb x4_3
  obtain ⟨_, _, _, _, _⟩ := cells5 x4_4
  have _ := fz x4_4
  have _ := ltb x4_4
  obtain ⟨_, _⟩ := cells2 x4_5
  have _ := fz x4_5
  have _ := ltb x4_5
  obtain ⟨_, _⟩ := cells2 x4_6
  have _ := fz x4_6
  have _ := ltb x4_6
  obtain ⟨_, _⟩ := cells2 xb4
  have _ := fz xb4
  have _ := ltb xb4
  have X4_1 := hid x4_1; clear x4_1
  have X4_2 := hid x4_2; clear x4_2
  have X4_3 := hid x4_3; clear x4_3
  have X4_4 := hid x4_4; clear x4_4
  have X4_5 := hid x4_5; clear x4_5
  have X4_6 := hid x4_6; clear x4_6
  have Xb4 := hid xb4; clear xb4
  have G4 := hid (G3.out.trans hg4)
  clear hg4
  go_wp2
  refine bodyPost_ret (v := .tuple #[fr 0 0, fr 0 0, .int .i64 3]) (by simp [results, Try.results55, go_sem, *]) rfl ⟨rfl, ?_⟩
  exact ((((G4.out).setCell (by simp <;> omega) _).setCell (by simp <;> omega) _).setCell (by simp <;> omega) _).setCell (by simp <;> omega) _
set_option maxRecDepth 20000 in
set_option maxHeartbeats 2000000 in
theorem sE_4 (a0 b0 : Int) (A : Option Addr) (m e0 : Nat) (N : Int) (kb : Bool) (u v : Int) (B : Option Addr) (d0 : Nat) (ts : List Tgv) (j i k : Nat) (x : Tgv) (wa wb' sa sb S T' U V P Q : Int) (w : World) (XJ : Hid (w.heap[j]? = some (.cells (bncA a0 b0 A m e0 N kb u v B ts.length d0) 41))) (XI : Hid (w.heap[i]? = some (.cells #[.int .i64 (k : Int), .int .i64 wa, .int .i64 wb', .int .i64 sa, .int .i64 sb] 53))) (T : Hid (RdTg w B ts)) (hx : ts[k]? = some x)
    (hst : ∀ w, Calls Try.prog 89 #[fr x.a x.b, fr wa wb'] w fun e w' => e = .returned (.tuple #[fr S T', .int .i64 0]) ∧ Gr w w')
    (hmu : ∀ w, Calls Try.prog 90 #[fr x.p x.q, fr S T'] w fun e w' => e = .returned (.tuple #[fr U V, .int .i64 0]) ∧ Gr w w')
    (had : ∀ w, Calls Try.prog 91 #[fr sa sb, fr U V] w fun e w' => e = .returned (.tuple #[fr P Q, .int .i64 0]) ∧ Gr w w') :
    Calls Try.prog 55 #[.pointer (some ⟨j, 0, none⟩), .pointer (some ⟨i, 0, none⟩)] w fun e w' => e = .returned (.tuple #[fr sa sb, fr P Q, .int .i64 0]) ∧ Gr w w' := by
  have HST := hid hst; have HMU := hid hmu; have HAD := hid had
  have hk : k < ts.length := (List.getElem?_eq_some_iff.1 hx).1
  obtain ⟨ad, rfl, hcel⟩ := T.out k x hx
  have HC := hid hcel
  have hjs := ltb XJ.out; have his := ltb XI.out
  clear hcel hx hst hmu had
  go_enter Try.func55, Try.ntmps55
  obtain ⟨_, _, _, _, _, _, _, _⟩ := cells8 XJ.out
  have _ := fz XJ.out
  have _ := ltb XJ.out
  obtain ⟨_, _, _, _, _⟩ := cells5 XI.out
  have _ := fz XI.out
  have _ := ltb XI.out
  go_wp2_with fail
  refine wp_reg0 9 (by kernel_rfl) (by kernel_rfl) ?_
  apply Exists.intro
  refine ⟨fun wb hb => ?_, ?_⟩
  · obtain ⟨y0, y1, _, _⟩ := alloc2 (Gr.refl _)
    obtain ⟨_, _⟩ := hb.at2 y0
    obtain ⟨_, _⟩ := hb.at2 y1
    clear y0 y1
    obtain ⟨_, _, _, _, _, _, _, _⟩ := hb.at8 ((((Gr.refl _).al _).al _).keep XJ.out)
    obtain ⟨_, _, _, _, _⟩ := hb.at5 ((((Gr.refl _).al _).al _).keep XI.out)
    simp only [headOps, List.contains, List.elem, reduceIte, Bool.false_eq_true]
    repeat (first | go_big_quiet_step (first | (fail)) | quiet_step (fail))
    exact wpQuiet_nil rfl
  intro w1 hg1
  obtain ⟨x1_0, x1_1, hz1, g1⟩ := alloc2 hg1
  have x1_2 := g1.keep XJ.out
  have x1_3 := g1.keep XI.out
  obtain ⟨_, _⟩ := cells2 x1_0
  have _ := fz x1_0
  have _ := ltb x1_0
  obtain ⟨_, _⟩ := cells2 x1_1
  have _ := fz x1_1
  have _ := ltb x1_1
  obtain ⟨_, _, _, _, _, _, _, _⟩ := cells8 x1_2
  have _ := fz x1_2
  have _ := ltb x1_2
  obtain ⟨_, _, _, _, _⟩ := cells5 x1_3
  have _ := fz x1_3
  have _ := ltb x1_3
  have X1_0 := hid x1_0; clear x1_0
  have X1_1 := hid x1_1; clear x1_1
  have X1_2 := hid x1_2; clear x1_2
  have X1_3 := hid x1_3; clear x1_3
  have G1 := hid (g1)
  clear hg1 g1
  have HC1 := hid (HC.out.keep G1.out)
  go_wp2_with fail
  refine wp_reg1s #[.int .i64 0, .int .i64 0] 14 12 8 13 33 (by kernel_rfl) (by kernel_rfl) rfl rfl (by simp) rfl rfl (by decide) (fun _ _ => by kernel_rfl) (by kernel_rfl) ?_
  apply Exists.intro; apply Exists.intro
  refine ⟨fun wb hb => ?_, ?_⟩
  · obtain ⟨_, _⟩ := hb.at2 X1_0.out
    obtain ⟨_, _⟩ := hb.at2 X1_1.out
    obtain ⟨_, _, _, _, _, _, _, _⟩ := hb.at8 X1_2.out
    obtain ⟨_, _, _, _, _⟩ := hb.at5 X1_3.out
    have _ := hb.atF HC1.out.h3; have _ := hb.atF HC1.out.h4
    simp only [headOps, List.contains, List.elem, Nat.reduceAdd, Nat.reduceBEq, reduceIte, Bool.false_eq_true, dumOp]
    repeat (first | go_big_quiet_step (first | (go_at_call 89; exact Calls.of_gr (HST.out _))) | quiet_step (fail))
    exact wpQuiet_nil rfl
  refine ⟨rfl, ⟨rfl, by simp [Value.oneCell']⟩, fun w2 b2 hg2 _ xb2 => ?_⟩
  have x2_1 := hg2.keep X1_0.out
  have x2_2 := hg2.keep X1_1.out
  have x2_3 := hg2.keep X1_2.out
  have x2_4 := hg2.keep X1_3.out
  obtain ⟨_, _⟩ := cells2 x2_1
  have _ := fz x2_1
  have _ := ltb x2_1
  obtain ⟨_, _⟩ := cells2 x2_2
  have _ := fz x2_2
  have _ := ltb x2_2
  obtain ⟨_, _, _, _, _, _, _, _⟩ := cells8 x2_3
  have _ := fz x2_3
  have _ := ltb x2_3
  obtain ⟨_, _, _, _, _⟩ := cells5 x2_4
  have _ := fz x2_4
  have _ := ltb x2_4
  obtain ⟨_, _⟩ := cells2 xb2
  have _ := fz xb2
  have _ := ltb xb2
  have X2_1 := hid x2_1; clear x2_1
  have X2_2 := hid x2_2; clear x2_2
  have X2_3 := hid x2_3; clear x2_3
  have X2_4 := hid x2_4; clear x2_4
  have Xb2 := hid xb2; clear xb2
  have G2 := hid (G1.out.trans hg2)
  clear hg2
  have HC2 := hid (HC.out.keep G2.out)
  go_wp2_with fail
  refine wp_reg1s #[.int .i64 0, .int .i64 0] 11 9 10 10 47 (by kernel_rfl) (by kernel_rfl) rfl rfl (by simp) rfl rfl (by decide) (fun _ _ => by kernel_rfl) (by kernel_rfl) ?_
  apply Exists.intro; apply Exists.intro
  refine ⟨fun wb hb => ?_, ?_⟩
  · obtain ⟨_, _⟩ := hb.at2 X2_1.out
    obtain ⟨_, _⟩ := hb.at2 X2_2.out
    obtain ⟨_, _, _, _, _, _, _, _⟩ := hb.at8 X2_3.out
    obtain ⟨_, _, _, _, _⟩ := hb.at5 X2_4.out
    obtain ⟨_, _⟩ := hb.at2 Xb2.out
    have _ := hb.atF HC2.out.h1; have _ := hb.atF HC2.out.h2
    simp only [headOps, List.contains, List.elem, Nat.reduceAdd, Nat.reduceBEq, reduceIte, Bool.false_eq_true, dumOp]
    repeat (first | go_big_quiet_step (first | (go_at_call 90; exact Calls.of_gr (HMU.out _))) | quiet_step (fail))
    exact wpQuiet_nil rfl
  refine ⟨rfl, ⟨rfl, by simp [Value.oneCell']⟩, fun w3 b3 hg3 _ xb3 => ?_⟩
  have x3_1 := hg3.keep X2_1.out
  have x3_2 := hg3.keep X2_2.out
  have x3_3 := hg3.keep X2_3.out
  have x3_4 := hg3.keep X2_4.out
  have x3_5 := hg3.keep Xb2.out
  obtain ⟨_, _⟩ := cells2 x3_1
  have _ := fz x3_1
  have _ := ltb x3_1
  obtain ⟨_, _⟩ := cells2 x3_2
  have _ := fz x3_2
  have _ := ltb x3_2
  obtain ⟨_, _, _, _, _, _, _, _⟩ := cells8 x3_3
  have _ := fz x3_3
  have _ := ltb x3_3
  obtain ⟨_, _, _, _, _⟩ := cells5 x3_4
  have _ := fz x3_4
  have _ := ltb x3_4
  obtain ⟨_, _⟩ := cells2 x3_5
  have _ := fz x3_5
  have _ := ltb x3_5
  obtain ⟨_, _⟩ := cells2 xb3
  have _ := fz xb3
  have _ := ltb xb3
  have X3_1 := hid x3_1; clear x3_1
  have X3_2 := hid x3_2; clear x3_2
  have X3_3 := hid x3_3; clear x3_3
  have X3_4 := hid x3_4; clear x3_4
  have X3_5 := hid x3_5; clear x3_5
  have Xb3 := hid xb3; clear xb3
  have G3 := hid (G2.out.trans hg3)
  clear hg3
  go_wp2_with fail
  refine wp_reg1s #[.int .i64 0, .int .i64 0] 11 9 12 10 61 (by kernel_rfl) (by kernel_rfl) rfl rfl (by simp) rfl rfl (by decide) (fun _ _ => by kernel_rfl) (by kernel_rfl) ?_
  apply Exists.intro; apply Exists.intro
  refine ⟨fun wb hb => ?_, ?_⟩
  · obtain ⟨_, _⟩ := hb.at2 X3_1.out
    obtain ⟨_, _⟩ := hb.at2 X3_2.out
    obtain ⟨_, _, _, _, _, _, _, _⟩ := hb.at8 X3_3.out
    obtain ⟨_, _, _, _, _⟩ := hb.at5 X3_4.out
    obtain ⟨_, _⟩ := hb.at2 X3_5.out
    obtain ⟨_, _⟩ := hb.at2 Xb3.out
    simp only [headOps, List.contains, List.elem, Nat.reduceAdd, Nat.reduceBEq, reduceIte, Bool.false_eq_true, dumOp]
    repeat (first | go_big_quiet_step (first | (go_at_call 91; exact Calls.of_gr (HAD.out _))) | quiet_step (fail))
    exact wpQuiet_nil rfl
  refine ⟨rfl, ⟨rfl, by simp [Value.oneCell']⟩, fun w4 b4 hg4 _ xb4 => ?_⟩
  have x4_1 := hg4.keep X3_1.out
  have x4_2 := hg4.keep X3_2.out
  have x4_3 := hg4.keep X3_3.out
  have x4_4 := hg4.keep X3_4.out
  have x4_5 := hg4.keep X3_5.out
  have x4_6 := hg4.keep Xb3.out
  obtain ⟨_, _⟩ := cells2 x4_1
  have _ := fz x4_1
  have _ := ltb x4_1
  obtain ⟨_, _⟩ := cells2 x4_2
  have _ := fz x4_2
  have _ := ltb x4_2
  obtain ⟨_, _, _, _, _, _, _, _⟩ := cells8 x4_3
  have _ := fz x4_3
  have _ := ltb x4_3
  obtain ⟨_, _, _, _, _⟩ := cells5 x4_4
  have _ := fz x4_4
  have _ := ltb x4_4
  obtain ⟨_, _⟩ := cells2 x4_5
  have _ := fz x4_5
  have _ := ltb x4_5
  obtain ⟨_, _⟩ := cells2 x4_6
  have _ := fz x4_6
  have _ := ltb x4_6
  obtain ⟨_, _⟩ := cells2 xb4
  have _ := fz xb4
  have _ := ltb xb4
  have X4_1 := hid x4_1; clear x4_1
  have X4_2 := hid x4_2; clear x4_2
  have X4_3 := hid x4_3; clear x4_3
  have X4_4 := hid x4_4; clear x4_4
  have X4_5 := hid x4_5; clear x4_5
  have X4_6 := hid x4_6; clear x4_6
  have Xb4 := hid xb4; clear xb4
  have G4 := hid (G3.out.trans hg4)
  clear hg4
  go_wp2_with fail
  go_region
  all_goals
    go_wp2_with fail
    refine bodyPost_ret (v := .tuple #[fr sa sb, fr P Q, .int .i64 0]) (by simp [results, Try.results55, go_sem, *]) rfl ⟨rfl, ?_⟩
    repeat (first | exact G4.out | refine Gr.setCell ?_ (by simp <;> omega) _ | refine Gr.trans ?_ (Gr.drew _))
set_option maxRecDepth 20000 in
set_option maxHeartbeats 1000000 in
theorem sEO_0 (a b : Int) (A : Option Addr) (c : Nat) (xs : List (Int × Int)) (N : Int) (kb : Bool) (u v : Int) (g d : Nat) (ts : List Tgv) (h0 h1 h2 h3 h4 : Int) (w : World) (X : Hid (RdF w A xs)) (T : Hid (RdTg w (some ⟨g, 0, none⟩) ts)) (hn : xs.length ≤ 1048576) (hm : ts.length ≤ 1048576) (hz : ∀ x ∈ ts, x.nm.size ≤ 9223372036854775807) (hr : vshB a b xs N u v ts h0 h1 h2 h3 h4 = false) :
    Calls Try.prog 21 #[bnc a b A xs.length c N kb u v (some ⟨g, 0, none⟩) ts.length d, sho h0 h1 h2 h3 h4] w fun e w' => e = .returned (.tuple #[fr 0 0, fr 0 0, .int .i64 1]) ∧ Gr w w' := by
  have HV := hid fun (w : World) (X : Hid (RdF w A xs)) (T : Hid (RdTg w (some ⟨g, 0, none⟩) ts)) => sVShot a b A c xs N kb u v g d ts h0 h1 h2 h3 h4 false w X T hn hm hz hr
  clear hr hz
  go_enter Try.func21, Try.ntmps21
  go_wp2_with fail
  refine (HV.out _ (hid (X.out.keep (((((Gr.refl w).al _).al _).al _).al _))) (hid (T.out.keep (((((Gr.refl w).al _).al _).al _).al _)))).mono ?_
  rintro e w1 ⟨rfl, hg1⟩
  obtain ⟨x1_0, x1_1, x1_2, x1_3, hz1, g1⟩ := alloc4 hg1
  obtain ⟨_, _, _, _, _, _, _, _⟩ := cells8 x1_0
  have _ := fz x1_0
  have _ := ltb x1_0
  obtain ⟨_, _, _, _, _⟩ := cells5 x1_1
  have _ := fz x1_1
  have _ := ltb x1_1
  obtain ⟨_, _⟩ := cells2 x1_2
  have _ := fz x1_2
  have _ := ltb x1_2
  obtain ⟨_, _⟩ := cells2 x1_3
  have _ := fz x1_3
  have _ := ltb x1_3
  have X1_0 := hid x1_0; clear x1_0
  have X1_1 := hid x1_1; clear x1_1
  have X1_2 := hid x1_2; clear x1_2
  have X1_3 := hid x1_3; clear x1_3
  have G1 := hid (g1)
  clear hg1 g1
  go_wp2
  refine bodyPost_ret (v := .tuple #[fr 0 0, fr 0 0, .int .i64 1]) (by simp [results, Try.results21, go_sem, *]) rfl ⟨rfl, ?_⟩
  exact ((((G1.out).setCell (by simp <;> omega) _).setCell (by simp <;> omega) _).setCell (by simp <;> omega) _).setCell (by simp <;> omega) _
set_option maxRecDepth 20000 in
set_option maxHeartbeats 1000000 in
theorem sEO_1 (a b : Int) (A : Option Addr) (c : Nat) (xs : List (Int × Int)) (N : Int) (kb : Bool) (u v : Int) (g d : Nat) (ts : List Tgv) (h0 h1 h2 h3 h4 p0 p1 p2 p3 C : Int) (w : World) (X : Hid (RdF w A xs)) (T : Hid (RdTg w (some ⟨g, 0, none⟩) ts)) (hn : xs.length ≤ 1048576) (hm : ts.length ≤ 1048576) (hz : ∀ x ∈ ts, x.nm.size ≤ 9223372036854775807) (hr : vshB a b xs N u v ts h0 h1 h2 h3 h4 = true)
    (hE : ∀ (j i : Nat) (w : World), Hid (w.heap[j]? = some (.cells (bncA a b A xs.length c N kb u v (some ⟨g, 0, none⟩) ts.length d) 41)) → Hid (w.heap[i]? = some (.cells #[.int .i64 h0, .int .i64 h1, .int .i64 h2, .int .i64 h3, .int .i64 h4] 53)) → Hid (RdTg w (some ⟨g, 0, none⟩) ts) → Calls Try.prog 55 #[.pointer (some ⟨j, 0, none⟩), .pointer (some ⟨i, 0, none⟩)] w fun e w' => e = .returned (.tuple #[fr p0 p1, fr p2 p3, .int .i64 C]) ∧ Gr w w') :
    Calls Try.prog 21 #[bnc a b A xs.length c N kb u v (some ⟨g, 0, none⟩) ts.length d, sho h0 h1 h2 h3 h4] w fun e w' => e = .returned (.tuple #[fr p0 p1, fr p2 p3, .int .i64 C]) ∧ Gr w w' := by
  have HV := hid fun (w : World) (X : Hid (RdF w A xs)) (T : Hid (RdTg w (some ⟨g, 0, none⟩) ts)) => sVShot a b A c xs N kb u v g d ts h0 h1 h2 h3 h4 true w X T hn hm hz hr
  have HE := hid hE
  clear hr hz hE
  go_enter Try.func21, Try.ntmps21
  go_wp2_with fail
  refine (HV.out _ (hid (X.out.keep (((((Gr.refl w).al _).al _).al _).al _))) (hid (T.out.keep (((((Gr.refl w).al _).al _).al _).al _)))).mono ?_
  rintro e w1 ⟨rfl, hg1⟩
  obtain ⟨x1_0, x1_1, x1_2, x1_3, hz1, g1⟩ := alloc4 hg1
  obtain ⟨_, _, _, _, _, _, _, _⟩ := cells8 x1_0
  have _ := fz x1_0
  have _ := ltb x1_0
  obtain ⟨_, _, _, _, _⟩ := cells5 x1_1
  have _ := fz x1_1
  have _ := ltb x1_1
  obtain ⟨_, _⟩ := cells2 x1_2
  have _ := fz x1_2
  have _ := ltb x1_2
  obtain ⟨_, _⟩ := cells2 x1_3
  have _ := fz x1_3
  have _ := ltb x1_3
  have X1_0 := hid x1_0; clear x1_0
  have X1_1 := hid x1_1; clear x1_1
  have X1_2 := hid x1_2; clear x1_2
  have X1_3 := hid x1_3; clear x1_3
  have G1 := hid (g1)
  clear hg1 g1
  go_wp2_with fail
  refine (HE.out _ _ _ (hid X1_0.out) (hid X1_1.out) (hid (T.out.keep G1.out))).mono ?_
  rintro e w2 ⟨rfl, hg2⟩
  have x2_1 := hg2.keep X1_0.out
  have x2_2 := hg2.keep X1_1.out
  have x2_3 := hg2.keep X1_2.out
  have x2_4 := hg2.keep X1_3.out
  obtain ⟨_, _, _, _, _, _, _, _⟩ := cells8 x2_1
  have _ := fz x2_1
  have _ := ltb x2_1
  obtain ⟨_, _, _, _, _⟩ := cells5 x2_2
  have _ := fz x2_2
  have _ := ltb x2_2
  obtain ⟨_, _⟩ := cells2 x2_3
  have _ := fz x2_3
  have _ := ltb x2_3
  obtain ⟨_, _⟩ := cells2 x2_4
  have _ := fz x2_4
  have _ := ltb x2_4
  have X2_1 := hid x2_1; clear x2_1
  have X2_2 := hid x2_2; clear x2_2
  have X2_3 := hid x2_3; clear x2_3
  have X2_4 := hid x2_4; clear x2_4
  have G2 := hid (G1.out.trans hg2)
  clear hg2
  go_wp2
  refine bodyPost_ret (v := .tuple #[fr p0 p1, fr p2 p3, .int .i64 C]) (by simp [results, Try.results21, go_sem, *]) rfl ⟨rfl, ?_⟩
  exact ((((G2.out).setCell (by simp <;> omega) _).setCell (by simp <;> omega) _).setCell (by simp <;> omega) _).setCell (by simp <;> omega) _
end Go.Proofs.Ytflfjedimcbfeaa
namespace Go.Proofs.Ytflfjedimcbfeaa
open Go.RowKit Go.Sort

theorem tgG_all : ∀ (l : List Tgv) (D : List ByteArray), tgG D l = true → ∀ x ∈ l, tgB x = true
  | [], _, _, x, hx => by cases hx
  | y :: r, D, h, x, hx => by
    unfold tgG at h
    simp only [Bool.and_eq_true] at h
    rcases List.mem_cons.1 hx with rfl | hr
    · exact h.1
    · exact tgG_all r _ h.2.2 x hr
theorem vsh_facts {a b : Int} {xs : List (Int × Int)} {N u v : Int} {ts : List Tgv} {h0 h1 h2 h3 h4 : Int} (h : vshB a b xs N u v ts h0 h1 h2 h3 h4 = true) :
    (∃ (k : Nat) (x : Tgv), h0 = (k : Int) ∧ ts[k]? = some x ∧ okB x.p x.q = true ∧ okB x.a x.b = true) ∧ okB h1 h2 = true ∧ okB h3 h4 = true := by
  unfold vshB benB shB inB at h
  simp only [Bool.and_eq_true, decide_eq_true_eq] at h
  obtain ⟨⟨_, _, _, _, hg⟩, ⟨i1, i2⟩, o1, _, o2⟩ := h
  obtain ⟨k, rfl⟩ : ∃ k : Nat, h0 = (k : Int) := ⟨h0.toNat, by omega⟩
  have hk : k < ts.length := by omega
  have hx := tgG_all ts [] hg ts[k] (List.getElem_mem hk)
  unfold tgB grB at hx
  simp only [Bool.and_eq_true] at hx
  exact ⟨⟨k, ts[k], rfl, List.getElem?_eq_getElem hk, hx.2.1, hx.2.2.2.1⟩, o1, o2⟩
theorem endsTail (a b : Int) (xs : List (Int × Int)) (N : Int) (kb : Bool) (u v : Int) (ts : List Tgv) (k : Nat) (x : Tgv) (h1 h2 h3 h4 S T' U V : Int) (hn : xs.length ≤ 1048576) (hm : ts.length ≤ 1048576) (hz : ∀ x ∈ ts, x.nm.size ≤ 9223372036854775807) (hv : vshB a b xs N u v ts (k : Int) h1 h2 h3 h4 = true) (hx : ts[k]? = some x) (okU : okB U V = true) (ok4 : okB h3 h4 = true)
    (hs : ∀ w, Calls Try.prog 89 #[fr x.a x.b, fr h1 h2] w fun e w' => e = .returned (.tuple #[fr S T', .int .i64 0]) ∧ Gr w w')
    (hi : ∀ w, Calls Try.prog 118 #[fr x.a x.b, fr h1 h2] w fun e w' => e = .returned (fr S T') ∧ Gr w w')
    (hmu : ∀ w, Calls Try.prog 90 #[fr x.p x.q, fr S T'] w fun e w' => e = .returned (.tuple #[fr U V, .int .i64 0]) ∧ Gr w w')
    (htm : ∀ w, Calls Try.prog 94 #[fr x.p x.q, fr S T'] w fun e w' => e = .returned (fr U V) ∧ Gr w w') : ∃ R0 R1 R2 R3 R4 : Int,
    (∀ (A : Option Addr) (g c d : Nat) (w : World), Hid (RdF w A xs) → Hid (RdTg w (some ⟨g, 0, none⟩) ts) → Calls Try.prog 21 #[bnc a b A xs.length c N kb u v (some ⟨g, 0, none⟩) ts.length d, sho (k : Int) h1 h2 h3 h4] w fun x w' => x = .returned (.tuple #[fr R0 R1, fr R2 R3, .int .i64 R4]) ∧ Gr w w') ∧
    (∀ (A : Option Addr) (g c d : Nat) (w : World), Hid (RdF w A xs) → Hid (RdTg w (some ⟨g, 0, none⟩) ts) → Calls Try.prog 22 #[bnc a b A xs.length c N kb u v (some ⟨g, 0, none⟩) ts.length d, sho (k : Int) h1 h2 h3 h4] w fun x w' => x = .returned (.tuple #[fr R0 R1, fr R2 R3, .int .i64 R4]) ∧ Gr w w') := by
  cases g3 : okB (redP (h3 * V + U * h4) (h4 * V)) (redQ (h3 * V + U * h4) (h4 * V)) with
  | false =>
    exact ⟨0, 0, 0, 0, 3, fun A g c d w X T => sEO_1 a b A c xs N kb u v g d ts _ h1 h2 h3 h4 _ _ _ _ _ w X T hn hm hz hv fun j i w' XJ XI T2 => sE_3 a b A xs.length c N kb u v _ d ts j i k x h1 h2 h3 h4 S T' U V w' XJ XI T2 hx hs hmu fun w => sadd_f h3 h4 U V w ok4 okU g3,
      fun A g c d w X T => iEO_1 a b A c xs N kb u v _ d ts k x h1 h2 h3 h4 _ _ _ _ _ w X T hn hm hv hx fun g' w' XL => told2_great _ _ w' (fun _ => by kernel_rfl) fun w'' hg => iends_3 g' _ _ x.p x.q x.a x.b h1 h2 h3 h4 w'' (hid (hg.keep XL.out)) rfl rfl rfl rfl rfl rfl rfl rfl S T' U V hi htm fun w => plus_no h3 h4 U V w ok4 okU g3⟩
  | true =>
    exact ⟨h3, h4, _, _, 0, fun A g c d w X T => sEO_1 a b A c xs N kb u v g d ts _ h1 h2 h3 h4 _ _ _ _ _ w X T hn hm hz hv fun j i w' XJ XI T2 => sE_4 a b A xs.length c N kb u v _ d ts j i k x h1 h2 h3 h4 S T' U V _ _ w' XJ XI T2 hx hs hmu fun w => sadd_t h3 h4 U V w ok4 okU g3,
      fun A g c d w X T => iEO_1 a b A c xs N kb u v _ d ts k x h1 h2 h3 h4 _ _ _ _ _ w X T hn hm hv hx fun g' w' XL => told2_ok _ _ _ _ _ _ w' (fun _ => by kernel_rfl) fun w'' hg => iends_ok g' _ _ x.p x.q x.a x.b h1 h2 h3 h4 w'' (hid (hg.keep XL.out)) rfl rfl rfl rfl rfl rfl rfl rfl S T' U V _ _ hi htm fun w => plus_yes h3 h4 U V w ok4 okU g3⟩
theorem bothEndsOf (a b : Int) (xs : List (Int × Int)) (N : Int) (kb : Bool) (u v : Int) (ts : List Tgv) (h0 h1 h2 h3 h4 : Int) (hn : xs.length ≤ 1048576) (hm : ts.length ≤ 1048576) (hz : ∀ x ∈ ts, x.nm.size ≤ 9223372036854775807) : ∃ R0 R1 R2 R3 R4 : Int,
    (∀ (A : Option Addr) (g c d : Nat) (w : World), Hid (RdF w A xs) → Hid (RdTg w (some ⟨g, 0, none⟩) ts) → Calls Try.prog 21 #[bnc a b A xs.length c N kb u v (some ⟨g, 0, none⟩) ts.length d, sho h0 h1 h2 h3 h4] w fun x w' => x = .returned (.tuple #[fr R0 R1, fr R2 R3, .int .i64 R4]) ∧ Gr w w') ∧
    (∀ (A : Option Addr) (g c d : Nat) (w : World), Hid (RdF w A xs) → Hid (RdTg w (some ⟨g, 0, none⟩) ts) → Calls Try.prog 22 #[bnc a b A xs.length c N kb u v (some ⟨g, 0, none⟩) ts.length d, sho h0 h1 h2 h3 h4] w fun x w' => x = .returned (.tuple #[fr R0 R1, fr R2 R3, .int .i64 R4]) ∧ Gr w w') := by
  cases hv : vshB a b xs N u v ts h0 h1 h2 h3 h4 with
  | false => exact ⟨0, 0, 0, 0, 1, fun A g c d w X T => sEO_0 a b A c xs N kb u v g d ts h0 h1 h2 h3 h4 w X T hn hm hz hv, fun A g c d w X T => iEO_0 a b A c xs N kb u v _ d ts h0 h1 h2 h3 h4 w X T hn hm hv⟩
  | true =>
  obtain ⟨⟨k, x, rfl, hx, ok1, ok2⟩, ok3, ok4⟩ := vsh_facts hv
  cases g1 : gsB' x.a x.b h1 h2 with
  | false =>
    have hs : ∀ w, Calls Try.prog 89 #[fr x.a x.b, fr h1 h2] w fun e w' => e = .returned (.tuple #[fr 0 0, .int .i64 3]) ∧ Gr w w' := fun w => (sstr x.a x.b h1 h2 w ok2 ok3).mono fun e w' h => by rw [g1] at h; exact h
    have hi : ∀ w, Calls Try.prog 118 #[fr x.a x.b, fr h1 h2] w fun e w' => (∃ x y, e = .panicked [{ v := .iface 160 (fr x y), recovered := false }]) ∧ Gr w w' := fun w => (istr x.a x.b h1 h2 w ok2 ok3).mono fun e w' h => ⟨h.2.1 g1, h.2.2⟩
    exact ⟨0, 0, 0, 0, 3, fun A g c d w X T => sEO_1 a b A c xs N kb u v g d ts _ h1 h2 h3 h4 _ _ _ _ _ w X T hn hm hz hv fun j i w' XJ XI T' => sE_1 a b A xs.length c N kb u v _ d ts j i k x h1 h2 h3 h4 w' XJ XI T' hx hs,
      fun A g c d w X T => iEO_1 a b A c xs N kb u v _ d ts k x h1 h2 h3 h4 _ _ _ _ _ w X T hn hm hv hx fun g' w' XL => told2_great _ _ w' (fun _ => by kernel_rfl) fun w'' hg => iends_1 g' _ _ x.p x.q x.a x.b h1 h2 h3 h4 w'' (hid (hg.keep XL.out)) rfl rfl rfl rfl rfl rfl rfl rfl hi⟩
  | true =>
  have ok5 : okB (gsP x.a x.b h1 h2) (gsQ x.a x.b h1 h2) = true := (gw_ok g1).2
  have hs : ∀ w, Calls Try.prog 89 #[fr x.a x.b, fr h1 h2] w fun e w' => e = .returned (.tuple #[fr (gsP x.a x.b h1 h2) (gsQ x.a x.b h1 h2), .int .i64 0]) ∧ Gr w w' := fun w => (sstr x.a x.b h1 h2 w ok2 ok3).mono fun e w' h => by rw [g1] at h; exact h
  have hi : ∀ w, Calls Try.prog 118 #[fr x.a x.b, fr h1 h2] w fun e w' => e = .returned (fr (gsP x.a x.b h1 h2) (gsQ x.a x.b h1 h2)) ∧ Gr w w' := fun w => (istr x.a x.b h1 h2 w ok2 ok3).mono fun e w' h => ⟨h.1 g1, h.2.2⟩
  obtain ⟨S, hS⟩ : ∃ S, gsP x.a x.b h1 h2 = S := ⟨_, rfl⟩
  obtain ⟨T', hT'⟩ : ∃ S, gsQ x.a x.b h1 h2 = S := ⟨_, rfl⟩
  rw [hS, hT'] at ok5 hs hi
  cases g2 : okB (redP (x.p * S) (x.q * T')) (redQ (x.p * S) (x.q * T')) with
  | false =>
    exact ⟨0, 0, 0, 0, 3, fun A g c d w X T => sEO_1 a b A c xs N kb u v g d ts _ h1 h2 h3 h4 _ _ _ _ _ w X T hn hm hz hv fun j i w' XJ XI T2 => sE_2 a b A xs.length c N kb u v _ d ts j i k x h1 h2 h3 h4 S T' w' XJ XI T2 hx hs fun w => smul_f x.p x.q S T' w ok1 ok5 g2,
      fun A g c d w X T => iEO_1 a b A c xs N kb u v _ d ts k x h1 h2 h3 h4 _ _ _ _ _ w X T hn hm hv hx fun g' w' XL => told2_great _ _ w' (fun _ => by kernel_rfl) fun w'' hg => iends_2 g' _ _ x.p x.q x.a x.b h1 h2 h3 h4 w'' (hid (hg.keep XL.out)) rfl rfl rfl rfl rfl rfl rfl rfl S T' hi fun w => times_no x.p x.q S T' w ok1 ok5 g2⟩
  | true =>
  have hmu : ∀ w, Calls Try.prog 90 #[fr x.p x.q, fr S T'] w fun e w' => e = .returned (.tuple #[fr (redP (x.p * S) (x.q * T')) (redQ (x.p * S) (x.q * T')), .int .i64 0]) ∧ Gr w w' := fun w => smul_t x.p x.q S T' w ok1 ok5 g2
  have htm : ∀ w, Calls Try.prog 94 #[fr x.p x.q, fr S T'] w fun e w' => e = .returned (fr (redP (x.p * S) (x.q * T')) (redQ (x.p * S) (x.q * T'))) ∧ Gr w w' := fun w => times_yes x.p x.q S T' w ok1 ok5 g2
  exact endsTail a b xs N kb u v ts k x h1 h2 h3 h4 S T' _ _ hn hm hz hv hx g2 ok4 hs hi hmu htm
end Go.Proofs.Ytflfjedimcbfeaa
namespace Go.Proofs.Ytflfjedimcbfeaa
open Go.RowKit Go.Sort

set_option maxRecDepth 20000 in
set_option maxHeartbeats 400000 in
theorem sScLen (v3 v4 v5 v6 v7 : Value) (a b : Int) (A : Option Addr) (n c j : Nat) (w : World) (X1 : Hid (w.heap[j]? = some (.cells #[.int .i64 a, .int .i64 b, .slice A n c, v3, v4, v5, v6, v7] 41))) (hn : Hid (n = 1)) :
    Calls Try.prog 67 #[.pointer (some ⟨j, 0, none⟩)] w fun e w' => e = .returned (.bool false) ∧ Gr w w' := by
  have h2 : inB (n : Int) 2 60 = false := by unfold inB; have := hn.out; simp; omega
  have HW := hid fun w => (swithin a b 1000 w ok1000)
  have h2 := hid h2
  clear hn
  cases h1 : withinB a b 1000 with
  | false =>
    rw [h1] at HW
    go_enter Try.func67, Try.ntmps67
    obtain ⟨_, _, _, _, _, _, _, _⟩ := cells8 X1.out
    have _ := fz X1.out
    have _ := ltb X1.out
    go_wp2_with fail
    refine (HW.out _).mono ?_
    rintro e w1 ⟨rfl, hg1⟩
    have x1_1 := hg1.keep X1.out
    obtain ⟨_, _, _, _, _, _, _, _⟩ := cells8 x1_1
    have _ := fz x1_1
    have _ := ltb x1_1
    have X1_1 := hid x1_1; clear x1_1
    have G1 := hid (hg1)
    clear hg1
    go_wp2
    go_ret
    exact ⟨rfl, G1.out⟩
  | true =>
    rw [h1] at HW
    go_enter Try.func67, Try.ntmps67
    obtain ⟨_, _, _, _, _, _, _, _⟩ := cells8 X1.out
    have _ := fz X1.out
    have _ := ltb X1.out
    go_wp2_with fail
    refine (HW.out _).mono ?_
    rintro e w1 ⟨rfl, hg1⟩
    have x1_1 := hg1.keep X1.out
    obtain ⟨_, _, _, _, _, _, _, _⟩ := cells8 x1_1
    have _ := fz x1_1
    have _ := ltb x1_1
    have X1_1 := hid x1_1; clear x1_1
    have G1 := hid (hg1)
    clear hg1
    go_wp2_with fail
    refine (in_f _ _ _ _ h2.out).mono ?_
    rintro e w2 ⟨rfl, hg2⟩
    have x2_1 := hg2.keep X1_1.out
    obtain ⟨_, _, _, _, _, _, _, _⟩ := cells8 x2_1
    have _ := fz x2_1
    have _ := ltb x2_1
    have X2_1 := hid x2_1; clear x2_1
    have G2 := hid (G1.out.trans hg2)
    clear hg2
    go_wp2
    go_ret
    exact ⟨rfl, G2.out⟩
set_option maxRecDepth 20000 in
set_option maxHeartbeats 400000 in
theorem sVBLen (a b : Int) (A : Option Addr) (n c j : Nat) (N : Int) (kb : Bool) (u v : Int) (B : Option Addr) (m d : Nat) (w : World) (XJ : Hid (w.heap[j]? = some (.cells (bncA a b A n c N kb u v B m d) 41))) (hn : Hid (n = 1)) :
    Calls Try.prog 34 #[.pointer (some ⟨j, 0, none⟩)] w fun e w' => e = .returned (.bool false) ∧ Gr w w' := by
  go_enter Try.func34, Try.ntmps34
  obtain ⟨_, _, _, _, _, _, _, _⟩ := cells8 XJ.out
  have _ := fz XJ.out
  have _ := ltb XJ.out
  go_wp2_with fail
  refine (sScLen _ _ _ _ _ a b A n c j _ XJ hn).mono ?_
  rintro e w1 ⟨rfl, hg1⟩
  have x1_1 := hg1.keep XJ.out
  obtain ⟨_, _, _, _, _, _, _, _⟩ := cells8 x1_1
  have _ := fz x1_1
  have _ := ltb x1_1
  have X1_1 := hid x1_1; clear x1_1
  have G1 := hid (hg1)
  clear hg1
  go_wp2_with fail
  go_ret
  exact ⟨rfl, G1.out⟩
set_option maxRecDepth 20000 in
set_option maxHeartbeats 400000 in
theorem sVSLen (a b : Int) (A : Option Addr) (n c : Nat) (N : Int) (kb : Bool) (u v : Int) (B : Option Addr) (m d : Nat) (h0 h1 h2 h3 h4 : Int) (w : World) (hn : Hid (n = 1)) :
    Calls Try.prog 18 #[bnc a b A n c N kb u v B m d, sho h0 h1 h2 h3 h4] w fun e w' => e = .returned (.bool false) ∧ Gr w w' := by
  go_enter Try.func18, Try.ntmps18
  go_wp2_with fail
  refine (sVBLen a b A n c _ N kb u v B m d _ (hid (alloc2 (Gr.refl _)).1) hn).mono ?_
  rintro e w1 ⟨rfl, hg1⟩
  obtain ⟨x1_0, x1_1, hz1, g1⟩ := alloc2 hg1
  obtain ⟨_, _, _, _, _, _, _, _⟩ := cells8 x1_0
  have _ := fz x1_0
  have _ := ltb x1_0
  obtain ⟨_, _, _, _, _⟩ := cells5 x1_1
  have _ := fz x1_1
  have _ := ltb x1_1
  have X1_0 := hid x1_0; clear x1_0
  have X1_1 := hid x1_1; clear x1_1
  have G1 := hid (g1)
  clear hg1 g1
  go_wp2
  go_ret
  exact ⟨rfl, G1.out⟩
set_option maxRecDepth 20000 in
set_option maxHeartbeats 400000 in
theorem sEOLen (a b : Int) (A : Option Addr) (n c : Nat) (N : Int) (kb : Bool) (u v : Int) (B : Option Addr) (m d : Nat) (h0 h1 h2 h3 h4 : Int) (w : World) (hn : Hid (n = 1)) :
    Calls Try.prog 21 #[bnc a b A n c N kb u v B m d, sho h0 h1 h2 h3 h4] w fun e w' => e = .returned (.tuple #[fr 0 0, fr 0 0, .int .i64 1]) ∧ Gr w w' := by
  go_enter Try.func21, Try.ntmps21
  go_wp2_with fail
  refine (sVSLen a b A n c N kb u v B m d h0 h1 h2 h3 h4 _ hn).mono ?_
  rintro e w1 ⟨rfl, hg1⟩
  obtain ⟨x1_0, x1_1, x1_2, x1_3, hz1, g1⟩ := alloc4 hg1
  obtain ⟨_, _, _, _, _, _, _, _⟩ := cells8 x1_0
  have _ := fz x1_0
  have _ := ltb x1_0
  obtain ⟨_, _, _, _, _⟩ := cells5 x1_1
  have _ := fz x1_1
  have _ := ltb x1_1
  obtain ⟨_, _⟩ := cells2 x1_2
  have _ := fz x1_2
  have _ := ltb x1_2
  obtain ⟨_, _⟩ := cells2 x1_3
  have _ := fz x1_3
  have _ := ltb x1_3
  have X1_0 := hid x1_0; clear x1_0
  have X1_1 := hid x1_1; clear x1_1
  have X1_2 := hid x1_2; clear x1_2
  have X1_3 := hid x1_3; clear x1_3
  have G1 := hid (g1)
  clear hg1 g1
  go_wp2
  refine bodyPost_ret (v := .tuple #[fr 0 0, fr 0 0, .int .i64 1]) (by simp [results, Try.results21, go_sem, *]) rfl ⟨rfl, ?_⟩
  exact ((((G1.out).setCell (by simp <;> omega) _).setCell (by simp <;> omega) _).setCell (by simp <;> omega) _).setCell (by simp <;> omega) _
theorem bothEndsOf2 (a b : Int) (xs : List (Int × Int)) (N : Int) (kb : Bool) (u v : Int) (ts : List Tgv) (h0 h1 h2 h3 h4 : Int) (hn : xs.length ≤ 1048576) (hm : ts.length ≤ 1048576) (hz : ∀ x ∈ ts, x.nm.size ≤ 9223372036854775807) : ∃ R0 R1 R2 R3 R4 : Int,
    (∀ (A : Option Addr) (g c d : Nat) (w : World), (xs.length = 1 ∨ (Hid (RdF w A xs) ∧ Hid (RdTg w (some ⟨g, 0, none⟩) ts))) → Calls Try.prog 21 #[bnc a b A xs.length c N kb u v (some ⟨g, 0, none⟩) ts.length d, sho h0 h1 h2 h3 h4] w fun x w' => x = .returned (.tuple #[fr R0 R1, fr R2 R3, .int .i64 R4]) ∧ Gr w w') ∧
    (∀ (A : Option Addr) (g c d : Nat) (w : World), Hid (RdF w A xs) → Hid (RdTg w (some ⟨g, 0, none⟩) ts) → Calls Try.prog 22 #[bnc a b A xs.length c N kb u v (some ⟨g, 0, none⟩) ts.length d, sho h0 h1 h2 h3 h4] w fun x w' => x = .returned (.tuple #[fr R0 R1, fr R2 R3, .int .i64 R4]) ∧ Gr w w') := by
  by_cases h1' : xs.length = 1
  · have hv : vshB a b xs N u v ts h0 h1 h2 h3 h4 = false := by
      have : sclB a b xs = false := by unfold sclB inB; rw [h1']; simp
      unfold vshB benB
      rw [this]
      rfl
    exact ⟨0, 0, 0, 0, 1, fun A g c d w _ => sEOLen a b A xs.length c N kb u v _ ts.length d h0 h1 h2 h3 h4 w (hid h1'), fun A g c d w X T => iEO_0 a b A c xs N kb u v _ d ts h0 h1 h2 h3 h4 w X T hn hm hv⟩
  · obtain ⟨R0, R1, R2, R3, R4, hs, hi⟩ := bothEndsOf a b xs N kb u v ts h0 h1 h2 h3 h4 hn hm hz
    exact ⟨R0, R1, R2, R3, R4, fun A g c d w h => h.elim (fun h => absurd h h1') (fun h => hs A g c d w h.1 h.2), hi⟩
end Go.Proofs.Ytflfjedimcbfeaa
namespace Go.Proofs.Ytflfjedimcbfeaa
open Go.RowKit Go.Sort

section
variable {P : Program} {l : List Oper} {id : Nat} {Q : Exit → Act → World → Prop} {a : Act} {w : World}
theorem storeRow_run {T : TypeId} {zs cs : Array Value} {o : Oper} {d x b : Nat} {a' : Act} {w' : World} (hop : o.op = .store T (.tmp d) (.tmp x)) (hi : (P.info? T).map (·.size) = some cs.size) (hz : zs.size = cs.size) (h1 : cs.all (·.oneCell') = true)
    (gd : a'.eval (.tmp d) = .pointer (some ⟨b, 0, none⟩)) (gx : a'.eval (.tmp x) = .agg cs) (g4 : w'.heap[b]? = some (.cells zs T)) :
    (execOp a'.eval o).run P w' = .ok .skip (w'.setRow b cs) := by
  obtain ⟨ds, op, ty, pos, aft, gu⟩ := o
  simp only at hop
  subst hop
  have := run_storeVar_row (P := P) w' b T T zs cs g4 hi hz h1
  have e : Instr.storeAt T (.pointer (some ⟨b, 0, none⟩)) (.agg cs) = storeVar T ⟨b, 0, none⟩ (.agg cs) := rfl
  simp only [execOp, gd, gx, e]
  generalize storeVar T ⟨b, 0, none⟩ (.agg cs) = sv at this ⊢
  simp [go_sem, this]
theorem wp_regL1t {D : Type} [Nonempty D] {o1 os1 o2 os2 : Oper} {T : TypeId} (V : D → Value) (R : D → World → Prop) (zs : Array Value) (n c dc i1 dv1 k1 x1 i2 dv2 k2 x2 : Nat) (lv z0 z1 : List Nat) (hm : P.follows .mixedOrders = true) (hB : headB [i1, i2] [k1, k2] (fun s => if s = k2 then i2 else i1) n l = true) (hM : lvB [i1, i2] [k1, k2] [(c, dc)] lv 1 n l = true)
    (hlc : lv.getD c 0 = 0) (hZ : (List.range 2).all (fun j => (List.range n).all (fun q => (if j = 0 then z0 else z1).contains q == !(!([i1, i2] ++ [k1, k2] ++ [c]).contains q && lv.getD q 0 == j))) = true) (hne : i1 ≠ i2) (hnk : k1 ≠ k2) (hnd : dv1 ≠ dv2)
    (ho1 : l[i1]? = some o1) (hod1 : o1.dst = some dv1) (hda1 : dv1 < a.tmps.size) (hos1 : l[k1]? = some os1) (hop1 : os1.op = .store T (.tmp dv1) (.tmp x1)) (hdx1 : dv1 ≠ x1)
    (ho2 : l[i2]? = some o2) (hod2 : o2.dst = some dv2) (hda2 : dv2 < a.tmps.size) (hos2 : l[k2]? = some os2) (hop2 : os2.op = .store T (.tmp dv2) (.tmp x2)) (hdx2 : dv2 ≠ x2)
    (hrun1 : ∀ (a : Act) (w : World), (execOp a.eval o1).run P w = .ok (.value (.pointer (some ⟨w.heap.size, 0, none⟩))) (w.alloc (.cells zs T))) (hrun2 : ∀ (a : Act) (w : World), (execOp a.eval o2).run P w = .ok (.value (.pointer (some ⟨w.heap.size, 0, none⟩))) (w.alloc (.cells zs T))) (hi : (P.info? T).map (·.size) = some zs.size)
    (hV : ∀ δ δ', V δ = V δ' → δ = δ') (hR : ∀ δ (w w' : World), R δ w → Gr w w' → R δ w') (hRs : ∀ δ (w w' : World) (b : Nat), R δ w → w.heap[b]? = some (.cells zs T) → (∀ j, j ≠ b → w'.heap[j]? = w.heap[j]?) → R δ w')
    (h : ∃ A0, ∃ A1 : D → Act, ∃ cs1 cs2 : D → Array Value, (∀ wb, Gr w wb → wpQuiet P l.toArray (fun w' => ∃ p : GrownBy, w' = grow (wb.drewN p.n) p.os) (fun x => x = A0) (headOps z0 n 0 l) a) ∧
      (∀ o, l[c]? = some o → ∀ wb, Gr w wb → ∃ f args, (execOp A0.eval o).run P wb = .ok (.enter f args) wb ∧ Calls P f args wb fun e w' => ∃ δ, e = .returned (V δ) ∧ R δ w' ∧ Gr wb w') ∧
      (∀ δ wb, Gr w wb → R δ wb → wpQuiet P l.toArray (fun w' => ∃ p : GrownBy, w' = grow (wb.drewN p.n) p.os) (fun x => x = A1 δ) (headOps z1 n 0 l) (A0.put (some dc) (V δ))) ∧
      (∀ δ, (A1 δ).tmps[x1]? = some (.agg (cs1 δ)) ∧ (A1 δ).tmps[x2]? = some (.agg (cs2 δ)) ∧ (A1 δ).tmps.size = a.tmps.size) ∧ (∀ δ, (zs.size = (cs1 δ).size ∧ (cs1 δ).all (·.oneCell') = true) ∧ (zs.size = (cs2 δ).size ∧ (cs2 δ).all (·.oneCell') = true)) ∧
      ∀ δ w' b1 b2, Gr w w' → R δ w' → w.heap.size ≤ b1 → w.heap.size ≤ b2 → w'.heap[b1]? = some (.cells (cs1 δ) T) → w'.heap[b2]? = some (.cells (cs2 δ) T) → wpList P l.toArray Q (l.drop n) (((A1 δ).put (some dv1) (.pointer (some ⟨b1, 0, none⟩))).put (some dv2) (.pointer (some ⟨b2, 0, none⟩))) w') : (Code.region id l.toArray true).wp P Q a w := by
  obtain ⟨A0, A1, cs1, cs2, hq0, hmk, hq1, hx, h1, hT⟩ := h
  obtain ⟨dec, hdec⟩ : ∃ dec : Value → D, ∀ δ, dec (V δ) = δ := ⟨fun v => Classical.epsilon (fun δ => V δ = v), fun δ => hV _ _ (Classical.epsilon_spec (p := fun δ' => V δ' = V δ) ⟨δ, rfl⟩)⟩
  have HK := headOk_of hB
  have hdi1 : dstOf l i1 = some dv1 := by simp [dstOf, ho1, hod1]
  have hdi2 : dstOf l i2 = some dv2 := by simp [dstOf, ho2, hod2]
  refine wp_headL (al := [i1, i2]) (sts := [k1, k2]) (own := fun s => if s = k2 then i2 else i1) (ds := [(c, dc)]) (A := fun j γ => if j = 0 then A0 else A1 (dec (γ c))) (blk0 := fun _ => .cells zs T) (blk1 := fun γ j => if j = i2 then .cells (cs2 (dec (γ c))) T else .cells (cs1 (dec (γ c))) T) (R := fun _ v w => ∃ δ, v = V δ ∧ R δ w) n 1 lv (fun j => if j = 0 then z0 else z1) hm hB hM (by simpa using hZ) (by simp only [List.all_cons, List.all_nil, hlc]; decide) (fun j γ γ' hg => ?_) (fun m v w w' ⟨δ, h1, h2⟩ hg => ⟨δ, h1, hR δ w w' h2 hg⟩) (fun m d v w w' i' b _ _ ⟨δ, h1, h2⟩ hb hs => ⟨δ, h1, hRs δ w w' b h2 hb hs⟩) (fun j h o' ho' => ?_) (fun γ j h => ?_) (fun m d hmd => ?_) (fun j γ wb hj hg hr => ?_) (fun a' w' bs γ hg hp hal hd hs1 hs2 he => ?_)
  · by_cases hj : j = 0
    · simp [hj]
    · simp only [if_neg hj]
      rw [hg c (by rw [hlc]; omega)]
  · rcases (show j = i1 ∨ j = i2 by simpa using h) with rfl | rfl
    · have : o' = o1 := Option.some.inj (ho'.symm.trans ho1)
      subst this
      exact hrun1
    · have : o' = o2 := Option.some.inj (ho'.symm.trans ho2)
      subst this
      exact hrun2
  · rcases (show j = k1 ∨ j = k2 by simpa using h) with rfl | rfl
    · intro o' d' ho' hd' a' w' b g1 g2 g3 g4
      have : o' = os1 := Option.some.inj (ho'.symm.trans hos1)
      subst this
      simp only [if_neg hnk] at hd' g4 ⊢
      have : d' = dv1 := Option.some.inj (hd'.symm.trans hdi1)
      subst this
      simp only [Nat.one_ne_zero, if_false] at g2 g3
      obtain ⟨z1, z2⟩ := (h1 (dec (γ c))).1
      have gd : a'.eval (.tmp d') = .pointer (some ⟨b, 0, none⟩) := by
        simp [Act.eval, Array.getD_eq_getD_getElem?, g1 (by rw [g2, (hx _).2.2]; exact hda1)]
      have gx : a'.eval (.tmp x1) = .agg (cs1 (dec (γ c))) := by
        have := g3 x1 (List.mem_append_left _ (List.mem_filterMap.2 ⟨.tmp x1, by rw [hop1]; simp [Op.operands], rfl⟩)) (Ne.symm hdx1)
        simp [Act.eval, Array.getD_eq_getD_getElem?, this, (hx _).1]
      rw [if_neg hne]
      exact ⟨w'.setRow b (cs1 (dec (γ c))), storeRow_run hop1 (by rw [hi, z1]) z1 z2 gd gx g4, rfl, rfl, rfl, rfl, by simp [World.setRow], fun k hk => heap_setRow w' b _ k hk, heap_setRow_at w' b _ zs T g4⟩
    · intro o' d' ho' hd' a' w' b g1 g2 g3 g4
      have : o' = os2 := Option.some.inj (ho'.symm.trans hos2)
      subst this
      simp only [if_true] at hd' g4 ⊢
      have : d' = dv2 := Option.some.inj (hd'.symm.trans hdi2)
      subst this
      simp only [Nat.one_ne_zero, if_false] at g2 g3
      obtain ⟨z1, z2⟩ := (h1 (dec (γ c))).2
      have gd : a'.eval (.tmp d') = .pointer (some ⟨b, 0, none⟩) := by
        simp [Act.eval, Array.getD_eq_getD_getElem?, g1 (by rw [g2, (hx _).2.2]; exact hda2)]
      have gx : a'.eval (.tmp x2) = .agg (cs2 (dec (γ c))) := by
        have := g3 x2 (List.mem_append_left _ (List.mem_filterMap.2 ⟨.tmp x2, by rw [hop2]; simp [Op.operands], rfl⟩)) (Ne.symm hdx2)
        simp [Act.eval, Array.getD_eq_getD_getElem?, this, (hx _).2.1]
      exact ⟨w'.setRow b (cs2 (dec (γ c))), storeRow_run hop2 (by rw [hi, z1]) z1 z2 gd gx g4, rfl, rfl, rfl, rfl, by simp [World.setRow], fun k hk => heap_setRow w' b _ k hk, heap_setRow_at w' b _ zs T g4⟩
  · have : m = c := congrArg Prod.fst (List.mem_singleton.1 hmd)
    subst this
    intro o' ho' γ wb hg _
    obtain ⟨f, args, e1, e2⟩ := hmk o' ho' wb hg
    refine ⟨f, args, by simp only [hlc, if_true]; exact e1, e2.mono fun e w' ⟨δ, h1, h2, h3⟩ => ⟨V δ, h1, ⟨δ, rfl, h2⟩, h3⟩⟩
  · by_cases hj0 : j = 0
    · subst hj0
      exact hq0 wb hg
    · have hj1 : j = 1 := by omega
      subst hj1
      obtain ⟨δ, hv, hr⟩ := hr c dc (by simp) (by rw [hlc]; omega)
      have e : startLv (fun k => lv.getD k 0) [(c, dc)] a (fun j γ => if j = 0 then A0 else A1 (dec (γ c))) γ 1 = A0.put (some dc) (V δ) := by
        simp only [startLv, putLv, if_true]
        rw [if_pos hlc, hv]
      rw [e]
      simp only [Nat.one_ne_zero, if_false]
      rw [hv, hdec]
      exact hq1 δ wb hg hr
  · obtain ⟨δ, hv, hr⟩ := hp c dc (by simp)
    simp only [Nat.one_ne_zero, if_false] at hd hs2 he
    obtain ⟨s1, s2, s3, _⟩ := hal i1 dv1 (by simp) hdi1
    obtain ⟨t1, t2, t3, _⟩ := hal i2 dv2 (by simp) hdi2
    have s3 := s3 ⟨k1, by simp, if_neg hnk⟩
    have t3 := t3 ⟨k2, by simp, if_pos rfl⟩
    rw [if_neg hne] at s3
    rw [if_pos rfl] at t3
    simp only [hv, hdec] at hd hs2 he s3 t3
    have e : a' = ((A1 δ).put (some dv1) (.pointer (some ⟨bs i1, 0, none⟩))).put (some dv2) (.pointer (some ⟨bs i2, 0, none⟩)) := act_ext (by rw [put_defers, put_defers]; exact hd) fun s => by
      by_cases hs' : s = dv2
      · subst hs'
        rw [t1 hda2, put_at _ _ _ (by rw [put_size, hs2]; exact hda2)]
      · rw [put_ne _ _ _ _ (fun he => hs' (Option.some.inj he).symm)]
        by_cases hs'' : s = dv1
        · subst hs''
          rw [s1 hda1, put_at _ _ _ (by rw [hs2]; exact hda1)]
        · rw [put_ne _ _ _ _ (fun he => hs'' (Option.some.inj he).symm)]
          exact he s fun j hj hd' => by
            rcases (show j = i1 ∨ j = i2 by simpa using hj) with rfl | rfl
            · exact hs'' (Option.some.inj (hd'.symm.trans hdi1))
            · exact hs' (Option.some.inj (hd'.symm.trans hdi2))
    rw [e]
    exact hT δ w' (bs i1) (bs i2) hg hr s2 t2 s3 t3
end
end Go.Proofs.Ytflfjedimcbfeaa
