/- WALKS: what a head reads, of the program: read, and kept in a map. -/
import Derived.Test.YteopkbeokiomlaaHa
namespace Go.Proofs.Yteopkbeokiomlaa
open Go.RowKit Go.Sort

abbrev sgt (a l : Int) : Value := .agg #[.int .i64 a, .int .i64 l]
set_option maxRecDepth 20000 in
set_option maxHeartbeats 1000000 in
theorem iDkRead (A : Option Addr) (c : Nat) (xs : List Int) (e no a l S B p q : Int) (k k2 : Nat) (w : World) (X : Hid (RdH w A xs)) (hS : Sect xs a S B p q k k2) (hl : xs.length ≤ 72) (hc : xs.length ≤ c)
    (d1 : -600 ≤ e ∧ e ≤ 600) (d2 : -600 ≤ no ∧ no ≤ 600) (hB : HeadB (xs.length : Int) a S (flI p q S B) (offI e no a) l) :
    Calls Try.prog 157 #[dk A xs.length c e no, sgt a l] w fun x w' => x = .returned (.int .i64 (headR (xs.length : Int) a (flI p q S B) (offI e no a) l)) ∧ Gr w w' := by
  have HF := hid fun w' (hg : Gr w w') => iDkFault A c xs e no a S B p q k k2 w' (hid (X.out.keep hg)) hS hB.a1 hB.a2 hl hc
  have HO := hid fun w' => iDkSwing A xs.length c e no a w' d1 d2 hB.a1 hB.a2
  obtain ⟨_, _⟩ := hd_bd hB
  obtain ⟨ex1, ex2, ex3, ex4⟩ := ex_bd hB
  obtain ⟨a1, a2, _, _, _, _, _, _, _, o1, o2, l1, l2⟩ := hB
  unfold headR
  clear hS d1 d2
  generalize flI p q S B = F at *
  generalize offI e no a = O at *
  have eex : exI (xs.length : Int) a F O = a * 1296000 + (xs.length : Int) * F + O * 4 := rfl
  have ehd : hdI (xs.length : Int) a F O l = downI (2 * exI (xs.length : Int) a F O + l * 1296000) (2 * (l * 1296000)) := rfl
  generalize hdI (xs.length : Int) a F O l = y at *
  have hly : l * y = y * l := Int.mul_comm _ _
  have EEX := hid eex; have EHD := hid ehd
  generalize exI (xs.length : Int) a F O = E at *
  have hnr : ∀ w', Calls Try.prog 197 #[.int .i64 E, .int .i64 (l * 1296000)] w' fun e w'' => e = .returned (.int .i64 y) ∧ w' = w'' := fun w' => by
    rw [EHD.out]
    exact hnearDiv E (l * 1296000) w' (by omega) (by omega) (by omega) (by omega)
  have NR := hid hnr
  clear ehd hnr
  go_enter Try.func157, Try.ntmps157
  go_wp2_with fail
  refine wp_reg0 13 (by kernel_rfl) (by kernel_rfl) ?_
  apply Exists.intro
  refine ⟨fun wb hb => ?_, ?_⟩
  · obtain ⟨x0, x1, _, _⟩ := alloc2 (Gr.refl ((w.alloc (.cells #[.slice A xs.length c, .int .i64 e, .int .i64 no] 59)).alloc (.cells #[.int .i64 a, .int .i64 l] 183)))
    obtain ⟨_, _, _⟩ := hb.at3 x0
    obtain ⟨_, _⟩ := hb.at2 x1
    clear x0 x1
    have HF2 := hid fun (m : Nat) (os : Array Obj) => HF.out (grow (wb.drewN m) os) (((((Gr.refl w).al _).al _).trans hb).trans ⟨⟨m, os⟩, rfl⟩)
    simp only [headOps, List.contains, List.elem, reduceIte, Bool.false_eq_true]
    repeat (first | go_big_quiet_step (first | (go_at_call 195; exact Calls.of_gr (HF2.out _ _)) | (go_at_call 196; exact Calls.of_gr (HO.out _))) | quiet_step (fail))
    exact wpQuiet_nil rfl
  intro w1 hg1
  obtain ⟨x0, x1, _, g1⟩ := alloc2 hg1
  have X1 := hid x1
  have G1 := hid g1
  clear hg1 x0 x1 g1
  rw [← EEX.out]
  clear eex
  simp only [List.drop_succ_cons, List.drop_zero]
  go_wp2_with fail
  refine wp_reg0 9 (by kernel_rfl) (by kernel_rfl) ?_
  apply Exists.intro
  refine ⟨fun wb hb => ?_, ?_⟩
  · obtain ⟨_, _⟩ := hb.at2 X1.out
    simp only [headOps, List.contains, List.elem, reduceIte, Bool.false_eq_true]
    repeat (first | go_big_quiet_step (first | (go_at_call 197; exact Calls.of_same (NR.out _)) | (go_at_call 158; exact Calls.of_same (iwrap _ _ (by omega) (by omega)))) | quiet_step (fail))
    exact wpQuiet_nil rfl
  intro w2 hg2
  have G2 := hid (G1.out.trans hg2)
  clear hg2
  go_wp2_with fail
  go_ret
  exact ⟨rfl, G2.out⟩

/-! the map of readings: from places (with one unit) to what is read -/
/-- Whatever is kept is what is read. -/
def Kept (H : Int → Int) (l : Int) (es : Array MapEntry) : Prop := ∀ x ∈ es.toList, ∃ a : Int, x.key = sgt a l ∧ x.val = .int .i64 (H a)
theorem Kept.nil (H : Int → Int) (l : Int) : Kept H l #[] := fun x hx => by simp at hx
theorem Kept.push {H : Int → Int} {l a : Int} {es : Array MapEntry} (h : Kept H l es) (born : Nat) : Kept H l (es.push { key := sgt a l, val := .int .i64 (H a), born := born }) := fun x hx => by
  simp only [Array.toList_push, List.mem_append, List.mem_singleton] at hx
  rcases hx with hx | rfl
  · exact h x hx
  · exact ⟨a, rfl, rfl⟩
theorem keyOk (b : Bool) (a l : Int) (w : World) : (Instr.checkKey b 10000 183 (sgt a l)).run Try.prog w = .ok () w := by kernel_rfl
theorem sgtEq (a a' l : Int) (w : World) : (Op.equal 183 (sgt a l) (sgt a' l)).run Try.prog w = .ok (a == a') w := by
  have hp : Try.prog.stoodInHeld 183 = false := by kernel_rfl
  have h := run_equalIn_struct (P := Try.prog) w 9999 183 #[.int .i64 a, .int .i64 l] #[.int .i64 a', .int .i64 l] (by kernel_rfl) hp
  have e : (Op.equal 183 (sgt a l) (sgt a' l)).run Try.prog w = (Op.equalIn (9999 + 1) 183 (sgt a l) (sgt a' l)).run Try.prog w := rfl
  rw [e, h]
  by_cases haa : a = a'
  · subst haa
    simp [Op.eqFields, Program.fieldsOf, go_sem]
  · have hb : (a == a') = false := by simpa using haa
    simp [Op.eqFields, Program.fieldsOf, go_sem, hb]
theorem findAsk (H : Int → Int) (l a : Int) : ∀ (es : List MapEntry) (i : Nat), (∀ x ∈ es, ∃ a', x.key = sgt a' l ∧ x.val = .int .i64 (H a')) →
    (∃ j, ∀ w, (Instr.findAsking 183 (sgt a l) es i).run Try.prog w = .ok (some (j, .int .i64 (H a))) w) ∨ ∀ w, (Instr.findAsking 183 (sgt a l) es i).run Try.prog w = .ok none w
  | [], i, _ => .inr fun w => rfl
  | x :: r, i, h => by
    obtain ⟨a', hk, hv⟩ := h x (by simp)
    by_cases haa : a = a'
    · subst haa
      refine .inl ⟨i, fun w => ?_⟩
      simp [Instr.findAsking, hk, hv, sgtEq, Result.andThen]
    · have hb : (a == a') = false := by simpa using haa
      rcases findAsk H l a r (i + 1) (fun y hy => h y (by simp [hy])) with ⟨j, hj⟩ | hj
      · refine .inl ⟨j, fun w => ?_⟩
        simp [Instr.findAsking, hk, sgtEq, hb, hj, Result.andThen]
      · refine .inr fun w => ?_
        simp [Instr.findAsking, hk, sgtEq, hb, hj, Result.andThen]
theorem findKept (H : Int → Int) (l a : Int) (es : Array MapEntry) (h : Kept H l es) :
    (∃ j, ∀ w, (Instr.findKey 183 (sgt a l) es.toList).run Try.prog w = .ok (some (j, .int .i64 (H a))) w) ∨ ∀ w, (Instr.findKey 183 (sgt a l) es.toList).run Try.prog w = .ok none w := by
  have hu : Try.prog.underlying 183 = some (.struct (Try.prog.fieldsOf 183)) := by kernel_rfl
  unfold Kept at h
  generalize es.toList = L at *
  cases L with
  | nil => exact .inr fun w => by simp [Instr.findKey, run_underlying hu, Instr.findNow, Result.andThen]
  | cons x r =>
    obtain ⟨a', hk, hv⟩ := h x (by simp)
    have hs : Instr.findNow (.struct (Try.prog.fieldsOf 183)) (sgt a l) (x :: r) 0 = none := by
      simp [Instr.findNow, Instr.sameNow]
    rcases findAsk H l a (x :: r) 0 h with ⟨j, hj⟩ | hj
    · exact .inl ⟨j, fun w => by simp [Instr.findKey, run_underlying hu, hs, hj, Result.andThen]⟩
    · exact .inr fun w => by simp [Instr.findKey, run_underlying hu, hs, hj, Result.andThen]
/-- The look-up, and what a store behind it does. -/
theorem lookKept (H : Int → Int) (l a : Int) (es : Array MapEntry) (clock m : Nat) (h : Kept H l es) :
    (∀ w : World, w.heap[m]? = some (.map es clock) → (Instr.lookup 181 (.map (some m)) (sgt a l) true).run Try.prog w = .ok (.tuple #[.int .i64 (H a), .bool true]) w) ∨
    ((∀ w : World, w.heap[m]? = some (.map es clock) → (Instr.lookup 181 (.map (some m)) (sgt a l) true).run Try.prog w = .ok (.tuple #[.int .i64 0, .bool false]) w) ∧
     (∀ w : World, w.heap[m]? = some (.map es clock) → ∃ w' es', (Instr.mapUpdate 181 (.map (some m)) (sgt a l) (.int .i64 (H a))).run Try.prog w = .ok () w' ∧ w'.heap[m]? = some (.map es' (clock + 1)) ∧ Kept H l es' ∧ Only m w w')) := by
  have hu : Try.prog.underlying 181 = some (.map 183 126) := by kernel_rfl
  have hz : ∀ w, (zeroValue 126).run Try.prog w = .ok (.int .i64 0) w := fun w => by kernel_rfl
  rcases findKept H l a es h with ⟨j, hj⟩ | hj
  · refine .inl fun w hm => ?_
    simp [Instr.lookup, run_underlying hu, MapKept.run_getObj_map hm, keyOk, hj, Result.andThen]
  · refine .inr ⟨fun w hm => ?_, fun w hm => ?_⟩
    · simp [Instr.lookup, run_underlying hu, MapKept.run_getObj_map hm, keyOk, hj, hz, Result.andThen]
    · refine ⟨{ w with heap := w.heap.setIfInBounds m (.map (es.push { key := sgt a l, val := .int .i64 (H a), born := clock }) (clock + 1)) }, es.push { key := sgt a l, val := .int .i64 (H a), born := clock }, ?_, ?_, h.push (a := a) clock, ?_⟩
      · simp [Instr.mapUpdate, run_underlying hu, MapKept.run_getObj_map hm, keyOk, hj, MapKept.run_setObj_map _ hm, Result.andThen]
      · exact (MapKept.heap_set hm).1
      · refine ⟨fun j o hj ho => by rw [← ho]; exact (MapKept.heap_set hm).2 j hj, fun W0 h0 hb => h0.heap rfl rfl rfl rfl (by simp) fun j hj => (MapKept.heap_set hm).2 j (by omega)⟩
theorem Only.heapKeep {m : Nat} {w w' : World} (o : Only m w w') {b : Nat} {cs : Array Value} {T : TypeId} (h : w.heap[b]? = some (.cells cs T)) (hne : b ≠ m) : w'.heap[b]? = some (.cells cs T) := o.1 b _ hne h
theorem Only.gr {m : Nat} {w w1 w' : World} (h : Gr w w1) (o : Only m w1 w') : Only m w w' :=
  ⟨fun j o' hj ho => o.1 j o' hj (h.keep ho), fun W0 h0 hb => o.2 W0 (h0.trans h) hb⟩
theorem Only.grr {m : Nat} {w w1 w' : World} (o : Only m w w1) (h : Gr w1 w') : Only m w w' :=
  ⟨fun j o' hj ho => h.keep (o.1 j o' hj ho), fun W0 h0 hb => (o.2 W0 h0 hb).trans h⟩
theorem map_ne {w : World} {b m : Nat} {cs : Array Value} {T : TypeId} {es : Array MapEntry} {k : Nat} (h1 : w.heap[b]? = some (.cells cs T)) (h2 : w.heap[m]? = some (.map es k)) : b ≠ m := by
  rintro rfl
  rw [h1] at h2
  cases h2
/-- What a reader has captured: the unit, the map and the disk. -/
structure Rdr (w : World) (H : Int → Int) (l : Int) (dv : Array Value) (bl bk bd m : Nat) : Prop where
  xl : ∃ T, w.heap[bl]? = some (.cells #[.int .i64 l] T)
  xk : ∃ T, w.heap[bk]? = some (.cells #[.map (some m)] T)
  xd : ∃ T, w.heap[bd]? = some (.cells dv T)
  xm : ∃ es c, w.heap[m]? = some (.map es c) ∧ Kept H l es
theorem Rdr.keep {w w' : World} {H : Int → Int} {l : Int} {dv : Array Value} {bl bk bd m : Nat} (h : Rdr w H l dv bl bk bd m) (hg : Gr w w') : Rdr w' H l dv bl bk bd m := by
  obtain ⟨⟨T1, h1⟩, ⟨T2, h2⟩, ⟨T3, h3⟩, es, c, h4, h5⟩ := h
  exact ⟨⟨T1, hg.keep h1⟩, ⟨T2, hg.keep h2⟩, ⟨T3, hg.keep h3⟩, es, c, hg.keep h4, h5⟩
set_option maxRecDepth 20000 in
set_option maxHeartbeats 1000000 in
theorem iReader (H : Int → Int) (A : Option Addr) (n c : Nat) (e no l a : Int) (bl bk bd m : Nat) (w : World) (hr : Rdr w H l #[.slice A n c, .int .i64 e, .int .i64 no] bl bk bd m)
    (hread : ∀ w', Gr w w' → Calls Try.prog 157 #[dk A n c e no, sgt a l] w' fun x w'' => x = .returned (.int .i64 (H a)) ∧ Gr w' w'') :
    Calls Try.prog 156 #[.int .i64 a, .pointer (some ⟨bl, 0, none⟩), .pointer (some ⟨bk, 0, none⟩), .pointer (some ⟨bd, 0, none⟩)] w fun x w' => x = .returned (.int .i64 (H a)) ∧ Rdr w' H l #[.slice A n c, .int .i64 e, .int .i64 no] bl bk bd m ∧ Only m w w' := by
  have HREAD := hid hread; clear hread
  have HR := hid hr
  obtain ⟨⟨T1, h1⟩, ⟨T2, h2⟩, ⟨T3, h3⟩, es, ck, h4, h5⟩ := hr
  have n1 := map_ne h1 h4
  have n2 := map_ne h2 h4
  have n3 := map_ne h3 h4
  have GA := hid ((Gr.refl w).al (.cells #[.int .i64 a, .int .i64 l] 183))
  have _ := cells1 h1
  have _ := cells1 (GA.out.keep h2)
  obtain ⟨_, _, _⟩ := cells3 (GA.out.keep h3)
  have hm' := GA.out.keep h4
  have hsz := ltb h1; have hsz2 := ltb h2; have hsz3 := ltb h3
  rcases lookKept H l a es ck m h5 with hk | ⟨hk, hu⟩
  · have hk' := hk _ hm'
    clear hk hm' h1 h2 h3 h4
    go_enter Try.func156, Try.ntmps156
    go_wp2_with fail
    go_ret
    exact ⟨rfl, HR.out.keep GA.out, Only.gr GA.out (Only.refl _ _)⟩
  · have hk' := hk _ hm'
    have HU := hid hu
    have H2 := hid (GA.out.keep h2); have H4 := hid hm'
    have XS := hid (alloc1 (Gr.refl (w.alloc (.cells #[.int .i64 a, .int .i64 l] 183)))).1
    have H1 := hid (GA.out.keep h1); have H3 := hid (GA.out.keep h3)
    clear hk hm' h1 h2 h3 h4 hu
    go_enter Try.func156, Try.ntmps156
    go_wp2_with fail
    refine (HREAD.out _ GA.out).mono ?_
    rintro x w1 ⟨rfl, hg1⟩
    obtain ⟨w2, es', hup, hm2, hk2, ho2⟩ := HU.out _ (hg1.keep H4.out)
    have _ := cells1 (hg1.keep H2.out)
    obtain ⟨_, _⟩ := cells2 (hg1.keep XS.out)
    have K1 := hid (hg1.keep H1.out); have K2 := hid (hg1.keep H2.out); have K3 := hid (hg1.keep H3.out)
    have G1 := hid hg1; have HO := hid ho2; have HM := hid hm2
    clear hg1 ho2 hm2
    go_wp2_with fail
    go_ret
    exact ⟨rfl, ⟨⟨T1, HO.out.heapKeep K1.out n1⟩, ⟨T2, HO.out.heapKeep K2.out n2⟩, ⟨T3, HO.out.heapKeep K3.out n3⟩, es', _, HM.out, hk2⟩, Only.gr (GA.out.trans G1.out) HO.out⟩
end Go.Proofs.Yteopkbeokiomlaa
