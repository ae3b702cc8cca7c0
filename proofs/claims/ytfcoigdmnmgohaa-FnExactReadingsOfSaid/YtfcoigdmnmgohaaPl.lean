/- WALKS: ReadingsOf, of the program and of the reference. -/
import Derived.Test.YtfcoigdmnmgohaaPk
import Derived.Test.YtfcoigdmnmgohaaPi
import Derived.Test.YtfcoigdmnmgohaaIw
import Derived.Test.YtfcoigdmnmgohaaRegC
namespace Go.Proofs.Ytfcoigdmnmgohaa
open Go.RowKit Go.Sort

/-! told, of a slice of integers -/
set_option maxHeartbeats 400000 in
theorem catch_idle_LI (p : Addr) (w : World) :
    CallsD Try.prog 145 #[.pointer (some p)] .returning w fun e u' w' => e = .returned (.tuple #[]) ∧ u' = .returning ∧ w' = w := by
  have h1 : ∀ w, (Instr.typeAssert .nilIface 20 166 true).run Try.prog w = .ok (.tuple #[.nilIface, .bool false]) w := fun _ => by kernel_rfl
  refine callsD_of_wpS Try.func145 rfl fun c₀ cs hu => ?_
  apply wpS_seq
  apply wpS_region
  simp [wpOpsS, go_sem, recoverD, hu, Try.ntmps145, Exit.thenS, ↓h1]
  apply wpS_of_wp
  go_wp2
  cases c₀
  simp_all [bodyPostS, results, Try.results145]
set_option maxHeartbeats 400000 in
theorem catch_nor_LI (b : Nat) (x : Int) (w : World) (c : Int) (T : TypeId) (hc : w.heap[b]? = some (.cells #[.int .i64 c] T)) :
    CallsD Try.prog 145 #[.pointer (some ⟨b, 0, none⟩)] (.panicking [{ v := .iface 181 (.int .i64 x), recovered := false }]) w fun e u' w' =>
      e = .returned (.tuple #[]) ∧ u' = .panicking [{ v := .iface 181 (.int .i64 x), recovered := true }] ∧ ∃ w1, Gr w w1 ∧ w' = w1.setCell ⟨b, 0, none⟩ (.int .i64 2) := by
  have h1 : ∀ x w, (Instr.typeAssert (.iface 181 x) 20 166 true).run Try.prog w = .ok (.tuple #[.iface 181 x, .bool true]) w := fun _ _ => by kernel_rfl
  refine callsD_of_wpS Try.func145 rfl fun c₀ cs hu => ?_
  apply wpS_seq
  apply wpS_region
  simp [wpOpsS, go_sem, recoverD, hu, Try.ntmps145, Exit.thenS, ↓h1, Array.replicate, List.replicate]
  apply wpS_of_wp
  clear hu h1
  have HC := hid hc; clear hc
  go_wp2_with (go_at_call 278; refine (code_nor _ _).mono ?_; rintro e w1 ⟨rfl, hg⟩; have hb := hg.keep HC.out; have f0 := fz hb; have c0 := cells1 hb; have HG := hid hg; clear hg hb)
  cases c₀
  simp [bodyPostS, results, Try.results145]
  exact ⟨w1, HG.out, rfl⟩
theorem ownI_set {W : World} {base : Nat} {n c b : Nat} {A : Option Addr} {ys : List Int} (h : W.ownsRow base 2 1 (.slice A n c) n (ys.map (.int .i64 ·))) (hne : ∀ ad, A = some ad → ad.block ≠ b) (y : Value) :
    (W.setCell ⟨b, 0, none⟩ y).ownsRow base 2 1 (.slice A n c) n (ys.map (.int .i64 ·)) := by
  refine ⟨h.1, ?_⟩
  rcases h.2 with h0 | ⟨g, cap, cur, h1, h2, h3, h4⟩
  · exact .inl h0
  · refine .inr ⟨g, cap, cur, h1, h2, ?_, h4⟩
    injection h1 with e1 e2 e3
    have := hne _ e1
    rw [Below.heap_setCell _ _ _ _ (by simpa using this)]
    exact h3
/-- The closure made a slice of its own. -/
def OwnI (W : World) (base : Nat) (w' : World) (e : Ending) (ys : List Int) : Prop := ∃ A c, e = .returned (.slice A ys.length c) ∧ w'.ownsRow base 2 1 (.slice A ys.length c) ys.length (ys.map (.int .i64 ·)) ∧ Gr W w'
set_option maxRecDepth 20000 in
set_option maxHeartbeats 400000 in
theorem told_ok_LI (f : Nat) (cap : Array Value) (ys : List Int) (w : World) (hen : ∀ w, (callFunc f cap).run Try.prog w = .ok (.enter f cap) w) (hF : ∀ w', Gr w w' → Calls Try.prog f cap w' fun e w'' => OwnI w' w'.heap.size w'' e ys) :
    Calls Try.prog 87 #[.func (.func f) #[] cap] w fun e w' => GivesI w w' e ys 0 := by
  have HF := hid hF; clear hF
  go_enter_defers Try.func87, Try.ntmps87
  go_wp2_with fail
  refine (HF.out _ (Gr.alloc _ _)).mono ?_
  rintro e w1 ⟨A, c, rfl, hR, hg⟩
  obtain ⟨x1, hz, G1⟩ := alloc1 hg
  have _ := cells1 x1
  have _ := fz x1
  have HNE := hid (fun (ad : Addr) he => Nat.ne_of_gt (Nat.lt_of_lt_of_le (Nat.lt_succ_self w.heap.size) (show w.heap.size + 1 ≤ ad.block by have := (own_lt hR ad he).1; simpa using this)))
  have G1 := hid G1; have HR := hid (own_base hR (show w.heap.size ≤ _ by simp))
  clear hg x1 hR
  go_wp2_with fail
  refine leaves_cons (f := 145) (args := #[.pointer (some ⟨w.heap.size, 0, none⟩)]) (by simp) (by simp [go_sem]) ?_
  refine (catch_idle_LI _ _).mono ?_
  rintro e u' w2 ⟨rfl, rfl, rfl⟩
  simp [Leaves, settle, results, Try.results87, go_sem, *]
  exact ⟨A, c, rfl, ownI_set HR.out HNE.out _, G1.out.setCell (by simp) _⟩
set_option maxRecDepth 20000 in
set_option maxHeartbeats 400000 in
theorem told_nor_LI (f : Nat) (cap : Array Value) (w : World) (hen : ∀ w, (callFunc f cap).run Try.prog w = .ok (.enter f cap) w) (hF : ∀ w', Gr w w' → Calls Try.prog f cap w' fun e w'' => (∃ p, e = .panicked [{ v := .iface 181 (.int .i64 p), recovered := false }]) ∧ Gr w' w'') :
    Calls Try.prog 87 #[.func (.func f) #[] cap] w fun e w' => e = .returned (.tuple #[.slice none 0 0, .int .i64 2]) ∧ Gr w w' := by
  have HF := hid hF; clear hF
  go_enter_defers Try.func87, Try.ntmps87
  go_wp2_with fail
  refine (HF.out _ (Gr.alloc _ _)).mono ?_
  rintro e w1 ⟨⟨p, rfl⟩, hg⟩
  obtain ⟨x1, hz, G1⟩ := alloc1 hg
  refine leaves_cons (f := 145) (args := #[.pointer (some ⟨w.heap.size, 0, none⟩)]) (by simp) (by simp [go_sem]) ?_
  refine (catch_nor_LI _ _ _ _ _ x1).mono ?_
  rintro e u' w2 ⟨rfl, rfl, w3, hg3, rfl⟩
  have _ := cells1 (hg3.keep x1)
  simp [Leaves, settle, results, Try.results87, go_sem, *]
  exact (G1.trans hg3).setCell (by simp) _

/-! the readings -/
def rdL (b u : Int) (o : Bool) (xs : List (Int × Int)) : List Int := xs.map fun x => rdV b u o x.1 x.2
theorem rdL_len (b u : Int) (o : Bool) (xs : List (Int × Int)) : (rdL b u o xs).length = xs.length := by simp [rdL]
theorem rdL_get {b u : Int} {o : Bool} {xs : List (Int × Int)} {k : Nat} {p q : Int} (h : xs[k]? = some (p, q)) : (rdL b u o xs)[k]? = some (rdV b u o p q) := by simp [rdL, h]
theorem rdL_take {b u : Int} {o : Bool} {xs : List (Int × Int)} {k : Nat} {p q : Int} (h : xs[k]? = some (p, q)) : (rdL b u o xs).take (k + 1) = (rdL b u o xs).take k ++ [rdV b u o p q] := by
  rw [List.take_add_one, rdL_get h]
  rfl
set_option maxRecDepth 20000 in
set_option maxHeartbeats 2000000 in
theorem cRds_ok (s : ByteArray) (b u : Int) (o : Bool) (A : Option Addr) (c n : Nat) (xs : List (Int × Int)) (w : World) (k1 k2 : Nat) (T1 T2 : TypeId) (X1 : Hid (w.heap[k1]? = some (.cells #[.slice A n c] T1))) (X2 : Hid (w.heap[k2]? = some (.cells #[.string s, .int .i16 b, .int .i16 u, .bool o] T2)))
    (X : Hid (RdF w A xs)) (hn : xs.length = n) (h64 : n ≤ 64) (hg : gsB b u = true) (h : allF xs = true) (hr : (rdL b u o xs).all okR = true) :
    Calls Try.prog 88 #[.pointer (some ⟨k1, 0, none⟩), .pointer (some ⟨k2, 0, none⟩)] w fun e w' => OwnI w w.heap.size w' e (rdL b u o xs) := by
  obtain ⟨i0, hi, hz0, hz1, hz2⟩ : ∃ i, Try.prog.info? 2 = some i ∧ i.zero = some (.int .i64 0) ∧ i.size = 1 ∧ i.bytes = 8 := ⟨_, rfl, rfl, rfl, rfl⟩
  have H := hid h; have HN := hid hn; have HG := hid hg; have HR := hid hr
  have hk1 := ltb X1.out
  have hk2 := ltb X2.out
  clear h hn hg hr
  go_enter Try.func88, Try.ntmps88
  have _ := cells1 X1.out
  go_wp2_with fail
  go_loopw [3, 8] (fun v u' wr => ∃ (k : Nat) (A' : Option Addr) (c' : Nat), u' = .int .i64 (k : Int) ∧ v = .slice A' k c' ∧ k ≤ n ∧ Gr w wr ∧ wr.ownsRow w.heap.size 2 1 (.slice A' k c') k (((rdL b u o xs).take k).map (.int .i64 ·))) (fun _ u' _ => n - (intOf u').toNat)
  case atStart => exact ⟨0, _, _, rfl, rfl, by omega, Gr.refl _, World.ownsRow_nil _ _ _ _⟩
  case round =>
    obtain ⟨k, A', c', rfl, rfl, hk, hg, hown⟩ := hrel
    have GW := hid hg; have OWN := hid hown
    have Y2 := hid (hg.keep X2.out)
    clear hg hown
    by_cases hlt : k < n
    · obtain ⟨⟨p, q⟩, hp⟩ : ∃ x, xs[k]? = some x := ⟨xs[k]'(by rw [HN.out]; exact hlt), List.getElem?_eq_getElem _⟩
      obtain ⟨ad, rfl, _, _⟩ := (X.out.keep GW.out) k p q hp
      have B := rd_bd HG.out (all_get hp (show xs.all (fun x => okB x.1 x.2) = true from H.out))
      have hok : okR (rdV b u o p q) = true := allI_get (rdL_get hp) HR.out
      have htk := rdL_take (b := b) (u := u) (o := o) hp
      obtain ⟨r, hrv⟩ : ∃ r, rdV b u o p q = r := ⟨_, rfl⟩
      rw [hrv] at hok htk
      have HI := hid fun (w : World) => ireading_ok b u p q o r w B hrv hok
      have HTK := hid htk
      clear hp B hok htk hrv
      obtain ⟨_, _, _, _⟩ := cells4 Y2.out
      have _ := fz Y2.out
      have _ := ltb Y2.out
      go_wp2_with fail
      refine wp_regA (b0 := .cells #[.int .i64 r] 2) (fun b => .slice (some ⟨b, 0, none⟩) 1 1) 6 5 17 (by kernel_rfl) (by kernel_rfl) rfl rfl (by simp) ?_
      apply Exists.intro
      refine ⟨fun wb hb => ?_, fun w' => ?_, ?_⟩
      · obtain ⟨_, _, _, _⟩ := hb.at4 (((Gr.refl _).al _).keep Y2.out)
        obtain ⟨_, _⟩ := hb.at2 (alloc1 (Gr.refl _)).1
        simp only [headOps, List.contains, List.elem, Nat.reduceAdd, Nat.reduceBEq, reduceIte, Bool.false_eq_true, dumOp]
        repeat (first | go_big_quiet_step (first | (go_at_call 89; exact Calls.of_gr (iHabit _ _ _ _ _)) | (go_at_call 90; exact Calls.of_gr (HI.out _))) | quiet_step (fail))
        exact wpQuiet_nil rfl
      · kernel_rfl
      intro w3 nb hg3 hb3 xb
      have OWN3 := hid (own_gr OWN.out (((Gr.refl _).al _).trans hg3))
      have NEW := hid (one_news xb)
      have G3 := hid ((GW.out.al _).trans hg3)
      have hsz := G3.out.size
      clear hg3 hb3 xb OWN
      simp only [List.drop_succ_cons, List.drop_zero]
      refine (wpList_append_gr rfl _ _ 47 rfl w.heap.size 2 i0 (.int .i64 0) 1 8 Try.underlying47 hi hz0 hz1 hz2 rfl (by decide) _ k _ rfl OWN3.out ⟨nb, 0, none⟩ 1 1 [.int .i64 r] rfl rfl NEW.out (by simp [Value.oneCell']) (by decide) (by unfold maxLen; omega) (by omega) hsz ?_)
      intro v' w4 own4 _ _ hgr
      obtain ⟨A2, c2, rfl⟩ := own_form own4
      have e2 : (((rdL b u o xs).take k).map (Value.int .i64 ·)) ++ [.int .i64 r] = ((rdL b u o xs).take (k + 1)).map (Value.int .i64 ·) := by rw [HTK.out]; simp
      rw [e2] at own4
      have OWN4 := hid own4
      have G4 := hid (hgr _ G3.out (Nat.le_refl _))
      clear own4 hgr e2 OWN3 NEW hsz
      go_wp2_with fail
      exact ⟨⟨k + 1, A2, c2, by simp, by simp, by omega, G4.out, OWN4.out⟩, by simp [intOf]; omega⟩
    · have hke : k = n := by omega
      subst hke
      go_wp2_with fail
      go_ret
      have h := OWN.out
      rw [List.take_of_length_le (by rw [rdL_len, HN.out]; exact Nat.le_refl _)] at h
      refine ⟨A', c', by rw [rdL_len, HN.out]; rfl, ?_, GW.out⟩
      rw [rdL_len, HN.out]
      exact h
set_option maxRecDepth 20000 in
set_option maxHeartbeats 2000000 in
theorem cRds_bad (s : ByteArray) (b u : Int) (o : Bool) (A : Option Addr) (c n : Nat) (xs : List (Int × Int)) (w : World) (k1 k2 : Nat) (T1 T2 : TypeId) (X1 : Hid (w.heap[k1]? = some (.cells #[.slice A n c] T1))) (X2 : Hid (w.heap[k2]? = some (.cells #[.string s, .int .i16 b, .int .i16 u, .bool o] T2)))
    (X : Hid (RdF w A xs)) (hn : xs.length = n) (h64 : n ≤ 64) (hg : gsB b u = true) (h : allF xs = true) (hr : (rdL b u o xs).all okR = false) :
    Calls Try.prog 88 #[.pointer (some ⟨k1, 0, none⟩), .pointer (some ⟨k2, 0, none⟩)] w fun e w' => (∃ n, e = .panicked [{ v := .iface 181 (.int .i64 n), recovered := false }]) ∧ Gr w w' := by
  obtain ⟨i0, hi, hz0, hz1, hz2⟩ : ∃ i, Try.prog.info? 2 = some i ∧ i.zero = some (.int .i64 0) ∧ i.size = 1 ∧ i.bytes = 8 := ⟨_, rfl, rfl, rfl, rfl⟩
  have H := hid h; have HN := hid hn; have HG := hid hg; have HR := hid hr
  have hk1 := ltb X1.out
  have hk2 := ltb X2.out
  clear h hn hg hr
  go_enter Try.func88, Try.ntmps88
  have _ := cells1 X1.out
  go_wp2_with fail
  go_loopw [3, 8] (fun v u' wr => ∃ (k : Nat) (A' : Option Addr) (c' : Nat), u' = .int .i64 (k : Int) ∧ v = .slice A' k c' ∧ k ≤ n ∧ Gr w wr ∧ wr.ownsRow w.heap.size 2 1 (.slice A' k c') k (((rdL b u o xs).take k).map (.int .i64 ·)) ∧ ((rdL b u o xs).take k).all okR = true) (fun _ u' _ => n - (intOf u').toNat)
  case atStart => exact ⟨0, _, _, rfl, rfl, by omega, Gr.refl _, World.ownsRow_nil _ _ _ _, rfl⟩
  case round =>
    obtain ⟨k, A', c', rfl, rfl, hk, hg, hown, ha⟩ := hrel
    have GW := hid hg; have OWN := hid hown; have HA := hid ha
    have Y2 := hid (hg.keep X2.out)
    clear hg hown ha
    by_cases hlt : k < n
    · obtain ⟨⟨p, q⟩, hp⟩ : ∃ x, xs[k]? = some x := ⟨xs[k]'(by rw [HN.out]; exact hlt), List.getElem?_eq_getElem _⟩
      obtain ⟨ad, rfl, _, _⟩ := (X.out.keep GW.out) k p q hp
      have B := rd_bd HG.out (all_get hp (show xs.all (fun x => okB x.1 x.2) = true from H.out))
      have htk := rdL_take (b := b) (u := u) (o := o) hp
      have hgt := rdL_get (b := b) (u := u) (o := o) hp
      obtain ⟨r, hrv⟩ : ∃ r, rdV b u o p q = r := ⟨_, rfl⟩
      rw [hrv] at htk hgt
      cases hok : okR r with
      | true =>
        have HI := hid fun (w : World) => ireading_ok b u p q o r w B hrv hok
        have HTK := hid htk
        have HA2 := hid (allI_take hgt HA.out hok)
        clear hp B hok htk hrv hgt
        obtain ⟨_, _, _, _⟩ := cells4 Y2.out
        have _ := fz Y2.out
        have _ := ltb Y2.out
        go_wp2_with fail
        refine wp_regA (b0 := .cells #[.int .i64 r] 2) (fun b => .slice (some ⟨b, 0, none⟩) 1 1) 6 5 17 (by kernel_rfl) (by kernel_rfl) rfl rfl (by simp) ?_
        apply Exists.intro
        refine ⟨fun wb hb => ?_, fun w' => ?_, ?_⟩
        · obtain ⟨_, _, _, _⟩ := hb.at4 (((Gr.refl _).al _).keep Y2.out)
          obtain ⟨_, _⟩ := hb.at2 (alloc1 (Gr.refl _)).1
          simp only [headOps, List.contains, List.elem, Nat.reduceAdd, Nat.reduceBEq, reduceIte, Bool.false_eq_true, dumOp]
          repeat (first | go_big_quiet_step (first | (go_at_call 89; exact Calls.of_gr (iHabit _ _ _ _ _)) | (go_at_call 90; exact Calls.of_gr (HI.out _))) | quiet_step (fail))
          exact wpQuiet_nil rfl
        · kernel_rfl
        intro w3 nb hg3 hb3 xb
        have OWN3 := hid (own_gr OWN.out (((Gr.refl _).al _).trans hg3))
        have NEW := hid (one_news xb)
        have G3 := hid ((GW.out.al _).trans hg3)
        have hsz := G3.out.size
        clear hg3 hb3 xb OWN
        simp only [List.drop_succ_cons, List.drop_zero]
        refine (wpList_append_gr rfl _ _ 47 rfl w.heap.size 2 i0 (.int .i64 0) 1 8 Try.underlying47 hi hz0 hz1 hz2 rfl (by decide) _ k _ rfl OWN3.out ⟨nb, 0, none⟩ 1 1 [.int .i64 r] rfl rfl NEW.out (by simp [Value.oneCell']) (by decide) (by unfold maxLen; omega) (by omega) hsz ?_)
        intro v' w4 own4 _ _ hgr
        obtain ⟨A2, c2, rfl⟩ := own_form own4
        have e2 : (((rdL b u o xs).take k).map (Value.int .i64 ·)) ++ [.int .i64 r] = ((rdL b u o xs).take (k + 1)).map (Value.int .i64 ·) := by rw [HTK.out]; simp
        rw [e2] at own4
        have OWN4 := hid own4
        have G4 := hid (hgr _ G3.out (Nat.le_refl _))
        clear own4 hgr e2 OWN3 NEW hsz
        go_wp2_with fail
        exact ⟨⟨k + 1, A2, c2, by simp, by simp, by omega, G4.out, OWN4.out, HA2.out⟩, by simp [intOf]; omega⟩
      | false =>
        have HI := hid fun (w : World) => ireading_bad b u p q o r w B hrv hok
        clear hp B hok htk hrv hgt
        obtain ⟨_, _, _, _⟩ := cells4 Y2.out
        have _ := fz Y2.out
        have _ := ltb Y2.out
        go_wp2_with fail
        refine wp_regC 4 [5, 6, 7] (by kernel_rfl) (by kernel_rfl) rfl ?_
        apply Exists.intro
        refine ⟨90, #[gs b u o, fr p q], fun wb hb => ?_, ?_⟩
        · obtain ⟨_, _, _, _⟩ := hb.at4 (((Gr.refl _).al _).keep Y2.out)
          obtain ⟨_, _⟩ := hb.at2 (alloc1 (Gr.refl _)).1
          simp only [headOps, List.contains, List.elem, List.length_cons, List.length_nil, Nat.zero_add, Nat.reduceAdd, Nat.reduceBEq, reduceIte, Bool.false_eq_true, dumOp]
          repeat (first | go_big_quiet_step (first | (go_at_call 89; exact Calls.of_gr (iHabit _ _ _ _ _))) | quiet_step (fail))
          exact wpQuiet_nil rfl
        refine ⟨fun w' => by kernel_rfl, fun w' hg' => (HI.out w').mono fun e w2 ⟨⟨m, he⟩, hg2⟩ => ⟨_, he, fun a' ha' => ⟨ha', ⟨m, rfl⟩, ((GW.out.al _).trans hg').trans hg2⟩⟩⟩
    · exfalso
      have := HA.out
      rw [List.take_of_length_le (by rw [rdL_len, HN.out]; omega), HR.out] at this
      cases this
end Go.Proofs.Ytfcoigdmnmgohaa
namespace Go.Proofs.Ytfcoigdmnmgohaa
open Go.RowKit Go.Sort

/-! ReadingsOf of the program -/
theorem keepR {w : World} {g : Nat} {T : TypeId} {xs : List (Int × Int)} (X : Hid (w.heap[g]? = some (.cells (flatA xs) T))) : Hid (RdF w (some ⟨g, 0, none⟩) xs) := hid (RdF.of_block X.out)
theorem icnt_is (n : Int) (r : Bool) (w : World) (h : inB n 1 64 = r) : Calls Try.prog 86 #[.int .i64 n] w fun e w' => e = .returned (.bool r) ∧ Gr w w' := by
  subst h
  cases h : inB n 1 64 with
  | true => exact (icntR_t n w h).mono fun e w' ⟨he, hw⟩ => ⟨he, hw ▸ Gr.refl _⟩
  | false => exact (icntR_f n w h).mono fun e w' ⟨he, hw⟩ => ⟨he, hw ▸ Gr.refl _⟩
theorem smany_is (n : Int) (r : Bool) (w : World) (h : inB n 1 64 = r) : Calls Try.prog 80 #[.int .i64 n] w fun e w' => e = .returned (.bool r) ∧ Gr w w' :=
  (smany n w).mono fun e w' ⟨he, hw⟩ => ⟨by rw [he, h], hw ▸ Gr.refl _⟩
set_option maxRecDepth 20000 in
set_option maxHeartbeats 600000 in
theorem iRds_1 (s : ByteArray) (b u : Int) (o : Bool) (A : Option Addr) (n c : Nat) (w : World) (hb : W16 b) (hu : W16 u) (h : rrB s b u = false) :
    Calls Try.prog 27 #[rdr s b u o, .slice A n c] w fun e w' => GivesI w w' e [] 1 := by
  have HV := hid fun (w : World) => iVR_is s b u o false w hb hu h
  clear hb hu h
  go_enter Try.func27, Try.ntmps27
  go_wp2_with fail
  refine (HV.out _).mono ?_
  rintro e w1 ⟨rfl, hg1⟩
  obtain ⟨x1_0, x1_1, hz1, g1⟩ := alloc2 hg1
  obtain ⟨_, _, _, _⟩ := cells4 x1_0
  have _ := fz x1_0
  have _ := ltb x1_0
  have _ := cells1 x1_1
  have _ := fz x1_1
  have _ := ltb x1_1
  have X1_0 := hid x1_0; clear x1_0
  have X1_1 := hid x1_1; clear x1_1
  have G1 := hid (g1)
  clear hg1 g1
  go_wp2_with fail
  go_ret2
  exact ⟨_, _, rfl, World.ownsRow_nil _ _ _ _, G1.out⟩
set_option maxRecDepth 20000 in
set_option maxHeartbeats 600000 in
theorem iRds_2 (s : ByteArray) (b u : Int) (o : Bool) (A : Option Addr) (n c : Nat) (xs : List (Int × Int)) (w : World) (hb : W16 b) (hu : W16 u) (h : rrB s b u = true) (X : Hid (RdF w A xs)) (hx : xs.length = n) (hn : n ≤ 1048576) (hk : allF xs = false) :
    Calls Try.prog 27 #[rdr s b u o, .slice A n c] w fun e w' => GivesI w w' e [] 1 := by
  have HV := hid fun (w : World) => iVR_is s b u o true w hb hu h
  have HF := hid fun (w' : World) (Z : Hid (RdF w' A xs)) => iFracs_is A c xs false w' Z (by omega) hk
  rw [hx] at HF
  clear hb hu h hk hx
  go_enter Try.func27, Try.ntmps27
  go_wp2_with fail
  refine (HV.out _).mono ?_
  rintro e w1 ⟨rfl, hg1⟩
  obtain ⟨x1_0, x1_1, hz1, g1⟩ := alloc2 hg1
  obtain ⟨_, _, _, _⟩ := cells4 x1_0
  have _ := fz x1_0
  have _ := ltb x1_0
  have _ := cells1 x1_1
  have _ := fz x1_1
  have _ := ltb x1_1
  have X1_0 := hid x1_0; clear x1_0
  have X1_1 := hid x1_1; clear x1_1
  have G1 := hid (g1)
  clear hg1 g1
  go_wp2_with fail
  refine (HF.out _ (hid (X.out.keep G1.out))).mono ?_
  rintro e w2 ⟨rfl, hg2⟩
  have x2_1 := hg2.keep X1_0.out
  have x2_2 := hg2.keep X1_1.out
  obtain ⟨_, _, _, _⟩ := cells4 x2_1
  have _ := fz x2_1
  have _ := ltb x2_1
  have _ := cells1 x2_2
  have _ := fz x2_2
  have _ := ltb x2_2
  have X2_1 := hid x2_1; clear x2_1
  have X2_2 := hid x2_2; clear x2_2
  have G2 := hid (G1.out.trans hg2)
  clear hg2
  go_wp2_with fail
  go_ret2
  exact ⟨_, _, rfl, World.ownsRow_nil _ _ _ _, G2.out⟩
set_option maxRecDepth 20000 in
set_option maxHeartbeats 600000 in
theorem iRds_3 (s : ByteArray) (b u : Int) (o : Bool) (A : Option Addr) (n c : Nat) (xs : List (Int × Int)) (w : World) (hb : W16 b) (hu : W16 u) (h : rrB s b u = true) (X : Hid (RdF w A xs)) (hx : xs.length = n) (hn : n ≤ 1048576) (hk : allF xs = true) (hl : inB (n : Int) 1 64 = false) :
    Calls Try.prog 27 #[rdr s b u o, .slice A n c] w fun e w' => GivesI w w' e [] 2 := by
  have HV := hid fun (w : World) => iVR_is s b u o true w hb hu h
  have HF := hid fun (w' : World) (Z : Hid (RdF w' A xs)) => iFracs_is A c xs true w' Z (by omega) hk
  rw [hx] at HF
  have HL := hid hl
  clear hb hu h hk hx hl
  go_enter Try.func27, Try.ntmps27
  go_wp2_with fail
  refine (HV.out _).mono ?_
  rintro e w1 ⟨rfl, hg1⟩
  obtain ⟨x1_0, x1_1, hz1, g1⟩ := alloc2 hg1
  obtain ⟨_, _, _, _⟩ := cells4 x1_0
  have _ := fz x1_0
  have _ := ltb x1_0
  have _ := cells1 x1_1
  have _ := fz x1_1
  have _ := ltb x1_1
  have X1_0 := hid x1_0; clear x1_0
  have X1_1 := hid x1_1; clear x1_1
  have G1 := hid (g1)
  clear hg1 g1
  go_wp2_with fail
  refine (HF.out _ (hid (X.out.keep G1.out))).mono ?_
  rintro e w2 ⟨rfl, hg2⟩
  have x2_1 := hg2.keep X1_0.out
  have x2_2 := hg2.keep X1_1.out
  obtain ⟨_, _, _, _⟩ := cells4 x2_1
  have _ := fz x2_1
  have _ := ltb x2_1
  have _ := cells1 x2_2
  have _ := fz x2_2
  have _ := ltb x2_2
  have X2_1 := hid x2_1; clear x2_1
  have X2_2 := hid x2_2; clear x2_2
  have G2 := hid (G1.out.trans hg2)
  clear hg2
  go_wp2_with fail
  refine (icnt_is _ _ _ HL.out).mono ?_
  rintro e w3 ⟨rfl, hg3⟩
  have x3_1 := hg3.keep X2_1.out
  have x3_2 := hg3.keep X2_2.out
  obtain ⟨_, _, _, _⟩ := cells4 x3_1
  have _ := fz x3_1
  have _ := ltb x3_1
  have _ := cells1 x3_2
  have _ := fz x3_2
  have _ := ltb x3_2
  have X3_1 := hid x3_1; clear x3_1
  have X3_2 := hid x3_2; clear x3_2
  have G3 := hid (G2.out.trans hg3)
  clear hg3
  go_wp2_with fail
  go_ret2
  exact ⟨_, _, rfl, World.ownsRow_nil _ _ _ _, G3.out⟩
set_option maxRecDepth 20000 in
set_option maxHeartbeats 600000 in
theorem iRds_4 (s : ByteArray) (b u : Int) (o : Bool) (A : Option Addr) (n c : Nat) (xs : List (Int × Int)) (ys : List Int) (C : Int) (w : World) (hb : W16 b) (hu : W16 u) (h : rrB s b u = true) (X : Hid (RdF w A xs)) (hx : xs.length = n) (hn : n ≤ 1048576) (hk : allF xs = true) (hl : inB (n : Int) 1 64 = true)
    (ht : ∀ (w' : World) (k1 k2 : Nat) (T1 T2 : TypeId), Gr w w' → Hid (w'.heap[k1]? = some (.cells #[.slice A n c] T1)) → Hid (w'.heap[k2]? = some (.cells #[.string s, .int .i16 b, .int .i16 u, .bool o] T2)) → Calls Try.prog 87 #[.func (.func 88) #[] #[.pointer (some ⟨k1, 0, none⟩), .pointer (some ⟨k2, 0, none⟩)]] w' fun e w'' => GivesI w' w'' e ys C) :
    Calls Try.prog 27 #[rdr s b u o, .slice A n c] w fun e w' => GivesI w w' e ys C := by
  have HV := hid fun (w : World) => iVR_is s b u o true w hb hu h
  have HF := hid fun (w' : World) (Z : Hid (RdF w' A xs)) => iFracs_is A c xs true w' Z (by omega) hk
  rw [hx] at HF
  have HL := hid hl; have HT := hid ht
  clear hb hu h hk hx hl ht
  go_enter Try.func27, Try.ntmps27
  go_wp2_with fail
  refine (HV.out _).mono ?_
  rintro e w1 ⟨rfl, hg1⟩
  obtain ⟨x1_0, x1_1, hz1, g1⟩ := alloc2 hg1
  obtain ⟨_, _, _, _⟩ := cells4 x1_0
  have _ := fz x1_0
  have _ := ltb x1_0
  have _ := cells1 x1_1
  have _ := fz x1_1
  have _ := ltb x1_1
  have X1_0 := hid x1_0; clear x1_0
  have X1_1 := hid x1_1; clear x1_1
  have G1 := hid (g1)
  clear hg1 g1
  go_wp2_with fail
  refine (HF.out _ (hid (X.out.keep G1.out))).mono ?_
  rintro e w2 ⟨rfl, hg2⟩
  have x2_1 := hg2.keep X1_0.out
  have x2_2 := hg2.keep X1_1.out
  obtain ⟨_, _, _, _⟩ := cells4 x2_1
  have _ := fz x2_1
  have _ := ltb x2_1
  have _ := cells1 x2_2
  have _ := fz x2_2
  have _ := ltb x2_2
  have X2_1 := hid x2_1; clear x2_1
  have X2_2 := hid x2_2; clear x2_2
  have G2 := hid (G1.out.trans hg2)
  clear hg2
  go_wp2_with fail
  refine (icnt_is _ _ _ HL.out).mono ?_
  rintro e w3 ⟨rfl, hg3⟩
  have x3_1 := hg3.keep X2_1.out
  have x3_2 := hg3.keep X2_2.out
  obtain ⟨_, _, _, _⟩ := cells4 x3_1
  have _ := fz x3_1
  have _ := ltb x3_1
  have _ := cells1 x3_2
  have _ := fz x3_2
  have _ := ltb x3_2
  have X3_1 := hid x3_1; clear x3_1
  have X3_2 := hid x3_2; clear x3_2
  have G3 := hid (G2.out.trans hg3)
  clear hg3
  go_wp2_with fail
  refine (HT.out _ _ _ _ _ G3.out (hid X3_2.out) (hid X3_1.out)).mono ?_
  rintro e w4 ⟨A', c', rfl, own, hg4⟩
  have OWN := hid own; have G4 := hid (G3.out.trans hg4)
  have hsz := G3.out.size
  clear own hg4
  go_wp2_with fail
  go_ret2
  exact ⟨A', c', rfl, own_base OWN.out hsz, G4.out⟩

/-! .. of the reference -/
set_option maxRecDepth 20000 in
set_option maxHeartbeats 600000 in
theorem sRds_1 (s : ByteArray) (b u : Int) (o : Bool) (A : Option Addr) (n c : Nat) (w : World) (hb : W16 b) (hu : W16 u) (h : rrB s b u = false) :
    Calls Try.prog 25 #[rdr s b u o, .slice A n c] w fun e w' => GivesI w w' e [] 1 := by
  have HV := hid fun (w : World) (k : Nat) (T : TypeId) X => sOkR_is s b u o false w hb hu h k T X
  clear hb hu h
  go_enter Try.func25, Try.ntmps25
  go_wp2_with fail
  refine (HV.out _ _ _ (hid (alloc1 (Gr.refl _)).1)).mono ?_
  rintro e w1 ⟨rfl, hg1⟩
  obtain ⟨x1_0, hz1, g1⟩ := alloc1 hg1
  obtain ⟨_, _, _, _⟩ := cells4 x1_0
  have _ := fz x1_0
  have _ := ltb x1_0
  have X1_0 := hid x1_0; clear x1_0
  have G1 := hid (g1)
  clear hg1 g1
  go_wp2_with fail
  go_ret2
  exact ⟨_, _, rfl, World.ownsRow_made _ #[] 0 G1.out.size (by simp [maxLen]) (by simp), G1.out.al _⟩
set_option maxRecDepth 20000 in
set_option maxHeartbeats 600000 in
theorem sRds_2 (s : ByteArray) (b u : Int) (o : Bool) (A : Option Addr) (n c : Nat) (xs : List (Int × Int)) (w : World) (hb : W16 b) (hu : W16 u) (h : rrB s b u = true) (X : Hid (RdF w A xs)) (hx : xs.length = n) (hn : n ≤ 1048576) (hk : allF xs = false) :
    Calls Try.prog 25 #[rdr s b u o, .slice A n c] w fun e w' => GivesI w w' e [] 1 := by
  have HV := hid fun (w : World) (k : Nat) (T : TypeId) X => sOkR_is s b u o true w hb hu h k T X
  have HF := hid fun (w' : World) (Z : Hid (RdF w' A xs)) => sValues_is A c xs false w' Z (by omega) hk
  rw [hx] at HF
  clear hb hu h hk hx
  go_enter Try.func25, Try.ntmps25
  go_wp2_with fail
  refine (HV.out _ _ _ (hid (alloc1 (Gr.refl _)).1)).mono ?_
  rintro e w1 ⟨rfl, hg1⟩
  obtain ⟨x1_0, hz1, g1⟩ := alloc1 hg1
  obtain ⟨_, _, _, _⟩ := cells4 x1_0
  have _ := fz x1_0
  have _ := ltb x1_0
  have X1_0 := hid x1_0; clear x1_0
  have G1 := hid (g1)
  clear hg1 g1
  go_wp2_with fail
  refine (HF.out _ (hid (X.out.keep G1.out))).mono ?_
  rintro e w2 ⟨rfl, hg2⟩
  have x2_1 := hg2.keep X1_0.out
  obtain ⟨_, _, _, _⟩ := cells4 x2_1
  have _ := fz x2_1
  have _ := ltb x2_1
  have X2_1 := hid x2_1; clear x2_1
  have G2 := hid (G1.out.trans hg2)
  clear hg2
  go_wp2_with fail
  go_ret2
  exact ⟨_, _, rfl, World.ownsRow_made _ #[] 0 G2.out.size (by simp [maxLen]) (by simp), G2.out.al _⟩
set_option maxRecDepth 20000 in
set_option maxHeartbeats 600000 in
theorem sRds_3 (s : ByteArray) (b u : Int) (o : Bool) (A : Option Addr) (n c : Nat) (xs : List (Int × Int)) (w : World) (hb : W16 b) (hu : W16 u) (h : rrB s b u = true) (X : Hid (RdF w A xs)) (hx : xs.length = n) (hn : n ≤ 1048576) (hk : allF xs = true) (hl : inB (n : Int) 1 64 = false) :
    Calls Try.prog 25 #[rdr s b u o, .slice A n c] w fun e w' => GivesI w w' e [] 2 := by
  have HV := hid fun (w : World) (k : Nat) (T : TypeId) X => sOkR_is s b u o true w hb hu h k T X
  have HF := hid fun (w' : World) (Z : Hid (RdF w' A xs)) => sValues_is A c xs true w' Z (by omega) hk
  rw [hx] at HF
  have HL := hid hl
  clear hb hu h hk hx hl
  go_enter Try.func25, Try.ntmps25
  go_wp2_with fail
  refine (HV.out _ _ _ (hid (alloc1 (Gr.refl _)).1)).mono ?_
  rintro e w1 ⟨rfl, hg1⟩
  obtain ⟨x1_0, hz1, g1⟩ := alloc1 hg1
  obtain ⟨_, _, _, _⟩ := cells4 x1_0
  have _ := fz x1_0
  have _ := ltb x1_0
  have X1_0 := hid x1_0; clear x1_0
  have G1 := hid (g1)
  clear hg1 g1
  go_wp2_with fail
  refine (HF.out _ (hid (X.out.keep G1.out))).mono ?_
  rintro e w2 ⟨rfl, hg2⟩
  have x2_1 := hg2.keep X1_0.out
  obtain ⟨_, _, _, _⟩ := cells4 x2_1
  have _ := fz x2_1
  have _ := ltb x2_1
  have X2_1 := hid x2_1; clear x2_1
  have G2 := hid (G1.out.trans hg2)
  clear hg2
  go_wp2_with fail
  refine (smany_is _ _ _ HL.out).mono ?_
  rintro e w3 ⟨rfl, hg3⟩
  have x3_1 := hg3.keep X2_1.out
  obtain ⟨_, _, _, _⟩ := cells4 x3_1
  have _ := fz x3_1
  have _ := ltb x3_1
  have X3_1 := hid x3_1; clear x3_1
  have G3 := hid (G2.out.trans hg3)
  clear hg3
  go_wp2_with fail
  go_ret2
  exact ⟨_, _, rfl, World.ownsRow_made _ #[] 0 G3.out.size (by simp [maxLen]) (by simp), G3.out.al _⟩
set_option maxRecDepth 20000 in
set_option maxHeartbeats 3000000 in
theorem sRds_4 (s : ByteArray) (b u : Int) (o : Bool) (A : Option Addr) (n c : Nat) (xs : List (Int × Int)) (w : World) (hb : W16 b) (hu : W16 u) (h : rrB s b u = true) (X : Hid (RdF w A xs)) (hx : xs.length = n) (hn : n ≤ 1048576) (hk : allF xs = true) (hl : inB (n : Int) 1 64 = true) :
    Calls Try.prog 25 #[rdr s b u o, .slice A n c] w fun e w' => ((rdL b u o xs).all okR = true ∧ GivesI w w' e (rdL b u o xs) 0) ∨ ((rdL b u o xs).all okR = false ∧ GivesI w w' e [] 2) := by
  obtain ⟨i0, hi, iz0, iz1, iz2⟩ : ∃ i, Try.prog.info? 2 = some i ∧ i.zero = some (.int .i64 0) ∧ i.size = 1 ∧ i.bytes = 8 := ⟨_, rfl, rfl, rfl, rfl⟩
  have h64 := (cnt_bd hl).2
  have HV := hid fun (w : World) (k : Nat) (T : TypeId) X => sOkR_is s b u o true w hb hu h k T X
  have HF := hid fun (w' : World) (Z : Hid (RdF w' A xs)) => sValues_is A c xs true w' Z (by omega) hk
  rw [hx] at HF
  have HL := hid hl; have HG := hid (rr_gs h); have H := hid hk; have HN := hid hx
  clear hb hu h hk hx hl
  go_enter Try.func25, Try.ntmps25
  go_wp2_with fail
  refine (HV.out _ _ _ (hid (alloc1 (Gr.refl _)).1)).mono ?_
  rintro e w1 ⟨rfl, hg1⟩
  obtain ⟨x1_0, hz1, g1⟩ := alloc1 hg1
  obtain ⟨_, _, _, _⟩ := cells4 x1_0
  have _ := fz x1_0
  have _ := ltb x1_0
  have X1_0 := hid x1_0; clear x1_0
  have G1 := hid (g1)
  clear hg1 g1
  go_wp2_with fail
  refine (HF.out _ (hid (X.out.keep G1.out))).mono ?_
  rintro e w2 ⟨rfl, hg2⟩
  have x2_1 := hg2.keep X1_0.out
  obtain ⟨_, _, _, _⟩ := cells4 x2_1
  have _ := fz x2_1
  have _ := ltb x2_1
  have X2_1 := hid x2_1; clear x2_1
  have G2 := hid (G1.out.trans hg2)
  clear hg2
  go_wp2_with fail
  refine (smany_is _ _ _ HL.out).mono ?_
  rintro e w3 ⟨rfl, hg3⟩
  have x3_1 := hg3.keep X2_1.out
  obtain ⟨_, _, _, _⟩ := cells4 x3_1
  have _ := fz x3_1
  have _ := ltb x3_1
  have X3_1 := hid x3_1; clear x3_1
  have G3 := hid (G2.out.trans hg3)
  clear hg3
  have XR := hid X3_1.out
  have hkw : w.heap.size < w3.heap.size := ltb XR.out
  go_wp2_with fail
  go_loopw [6, 7] (fun v u' wr => ∃ (k : Nat) (A' : Option Addr) (c' : Nat), u' = .int .i64 (k : Int) ∧ v = .slice A' k c' ∧ k ≤ n ∧ Gr w3 wr ∧ wr.heap[w.heap.size]? = some (.cells #[.string s, .int .i16 b, .int .i16 u, .bool o] 50) ∧ wr.ownsRow w3.heap.size 2 1 (.slice A' k c') k (((rdL b u o xs).take k).map (.int .i64 ·)) ∧ ((rdL b u o xs).take k).all okR = true) (fun _ u' _ => n - (intOf u').toNat)
  case atStart => exact ⟨0, _, _, rfl, rfl, by omega, (Gr.refl _).al _, ((Gr.refl _).al _).keep XR.out, World.ownsRow_made _ #[] 0 (Nat.le_refl _) (by simp [maxLen]) (by simp), rfl⟩
  case round =>
    obtain ⟨k, A', c', rfl, rfl, hk, hg, hrx, hown, ha⟩ := hrel
    have G0 := hid hg; have GW := hid (G3.out.trans hg); have OWN := hid hown; have HA := hid ha; have Y := hid hrx
    clear hg hown ha hrx
    by_cases hlt : k < n
    · obtain ⟨⟨p, q⟩, hp⟩ : ∃ x, xs[k]? = some x := ⟨xs[k]'(by rw [HN.out]; exact hlt), List.getElem?_eq_getElem _⟩
      obtain ⟨ad, rfl, c1, c2⟩ := (X.out.keep GW.out) k p q hp
      have C1 := hid c1; have C2 := hid c2
      have B := rd_bd HG.out (all_get hp (show xs.all (fun x => okB x.1 x.2) = true from H.out))
      have HM := hid fun (w : World) => sread b u p q o w B
      have htk := rdL_take (b := b) (u := u) (o := o) hp
      have hgt := rdL_get (b := b) (u := u) (o := o) hp
      obtain ⟨r, hrv⟩ : ∃ r, rdV b u o p q = r := ⟨_, rfl⟩
      rw [hrv] at htk hgt HM
      cases hok : okR r with
      | true =>
        have HO := hid hok
        have HTK := hid htk
        have HA2 := hid (allI_take hgt HA.out hok)
        clear hp B hok htk hrv hgt c1 c2
        obtain ⟨_, _, _, _⟩ := cells4 Y.out
        have _ := fz Y.out
        have _ := ltb Y.out
        go_wp2_with fail
        refine wp_reg0 6 (by kernel_rfl) (by kernel_rfl) ?_
        apply Exists.intro
        refine ⟨fun wb hb => ?_, ?_⟩
        · obtain ⟨_, _, _, _⟩ := hb.at4 Y.out
          have _ := hb.atA C1.out
          have _ := hb.atA C2.out
          simp only [headOps, List.contains, List.elem, reduceIte, Bool.false_eq_true]
          repeat (first | go_big_quiet_step (first | (go_at_call 82; exact Calls.of_gr (sHabit _ _ _ _ _ _ _ (hid ((hb.trans ⟨⟨_, _⟩, rfl⟩).keep Y.out)))) | (go_at_call 81; exact Calls.of_gr (HM.out _))) | quiet_step (fail))
          exact wpQuiet_nil rfl
        intro w5 hg5
        have OWN3 := hid (own_gr OWN.out (hg5.al (.cells #[.int .i64 r] 2)))
        have NEW := hid (one_news (w := w5.alloc (.cells #[.int .i64 r] 2)) (b := w5.heap.size) (alloc1 (Gr.refl _)).1)
        have G5 := hid ((G0.out.trans hg5).al (.cells #[.int .i64 r] 2))
        have hsz := G5.out.size
        have hwg := GW.out.size
        have Y5 := hid ((hg5.al (.cells #[.int .i64 r] 2)).keep Y.out)
        have hne := hid (fun ad he => Nat.ne_of_gt (Nat.lt_of_lt_of_le hkw (own_lt OWN3.out ad he).1))
        clear hg5 OWN
        go_wp2_with (first | (go_at_call 83; refine (splain_is _ _ _ HO.out).mono ?_; rintro e w4 ⟨rfl, rfl⟩) | (at_builtin; refine (wpList_append_gr rfl _ _ 47 rfl w3.heap.size 2 i0 (.int .i64 0) 1 8 Try.underlying47 hi iz0 iz1 iz2 rfl (by decide) _ k _ rfl OWN3.out ⟨w5.heap.size, 0, none⟩ 1 1 [.int .i64 r] rfl rfl NEW.out (by simp [Value.oneCell']) (by decide) (by unfold maxLen; omega) (by omega) hsz ?_)))
        intro v' w6 own4 hgrown _ hgr
        obtain ⟨A2, c3, rfl⟩ := own_form own4
        have e2 : (((rdL b u o xs).take k).map (Value.int .i64 ·)) ++ [.int .i64 r] = ((rdL b u o xs).take (k + 1)).map (Value.int .i64 ·) := by rw [HTK.out]; simp
        simp only [← List.map_take] at own4
        rw [e2] at own4
        have OWN4 := hid own4
        have G6 := hid (hgr _ G5.out (Nat.le_refl _))
        have Y6 := hid (G6.out.keep XR.out)
        clear own4 hgr e2 OWN3 NEW hsz hgrown
        go_wp2_with fail
        exact ⟨⟨k + 1, A2, c3, by simp, by simp, by omega, G6.out, Y6.out, OWN4.out, HA2.out⟩, by simp [intOf]; omega⟩
      | false =>
        have HO := hid hok
        have HNA := hid (allI_not hgt hok)
        clear hp B hok htk hrv hgt c1 c2
        obtain ⟨_, _, _, _⟩ := cells4 Y.out
        have _ := fz Y.out
        have _ := ltb Y.out
        go_wp2_with fail
        refine wp_reg0 6 (by kernel_rfl) (by kernel_rfl) ?_
        apply Exists.intro
        refine ⟨fun wb hb => ?_, ?_⟩
        · obtain ⟨_, _, _, _⟩ := hb.at4 Y.out
          have _ := hb.atA C1.out
          have _ := hb.atA C2.out
          simp only [headOps, List.contains, List.elem, reduceIte, Bool.false_eq_true]
          repeat (first | go_big_quiet_step (first | (go_at_call 82; exact Calls.of_gr (sHabit _ _ _ _ _ _ _ (hid ((hb.trans ⟨⟨_, _⟩, rfl⟩).keep Y.out)))) | (go_at_call 81; exact Calls.of_gr (HM.out _))) | quiet_step (fail))
          exact wpQuiet_nil rfl
        intro w5 hg5
        have G5 := hid (GW.out.trans hg5)
        clear hg5 OWN
        go_wp2_with (go_at_call 83; refine (splain_is _ _ _ HO.out).mono ?_; rintro e w4 ⟨rfl, rfl⟩)
        go_ret2
        exact .inr ⟨HNA.out, _, _, rfl, World.ownsRow_made _ #[] 0 G5.out.size (by simp [maxLen]) (by simp), G5.out.al _⟩
    · have hke : k = n := by omega
      subst hke
      have hlen : (rdL b u o xs).length = k := by rw [rdL_len, HN.out]
      have h := OWN.out
      have hal := HA.out
      rw [List.take_of_length_le (by omega)] at h hal
      have OW := hid (own_base h (show w.heap.size ≤ w3.heap.size by omega))
      have HAL := hid hal
      have HLEN := hid hlen
      clear h hal hlen
      go_wp2_with fail
      go_ret2
      refine .inl ⟨HAL.out, A', c', by rw [HLEN.out]; rfl, ?_, GW.out⟩
      rw [HLEN.out]
      exact OW.out
theorem bothReadingsOf (s : ByteArray) (b u : Int) (o : Bool) (xs : List (Int × Int)) (_ : s.size ≤ 1048576) (hn : xs.length ≤ 1048576) (wb : W16 b) (wu : W16 u) : ∃ (ys : List Int) (C : Int), ys.length ≤ 1048576 ∧
    (∀ (g : Nat) (T : TypeId) (w : World), Hid (w.heap[g]? = some (.cells (flatA xs) T)) → Calls Try.prog 25 #[rdr s b u o, sl g xs.length] w fun e w' => GivesI w w' e ys C) ∧
    (∀ (g : Nat) (T : TypeId) (w : World), Hid (w.heap[g]? = some (.cells (flatA xs) T)) → Calls Try.prog 27 #[rdr s b u o, sl g xs.length] w fun e w' => GivesI w w' e ys C) := by
  cases h : rrB s b u with
  | false => exact ⟨[], 1, by simp, fun g T w X => sRds_1 s b u o _ _ _ w wb wu h, fun g T w X => iRds_1 s b u o _ _ _ w wb wu h⟩
  | true =>
    cases hk : allF xs with
    | false => exact ⟨[], 1, by simp, fun g T w X => sRds_2 s b u o _ _ _ xs w wb wu h (keepR X) rfl hn hk, fun g T w X => iRds_2 s b u o _ _ _ xs w wb wu h (keepR X) rfl hn hk⟩
    | true =>
      cases hl : inB (xs.length : Int) 1 64 with
      | false => exact ⟨[], 2, by simp, fun g T w X => sRds_3 s b u o _ _ _ xs w wb wu h (keepR X) rfl hn hk hl, fun g T w X => iRds_3 s b u o _ _ _ xs w wb wu h (keepR X) rfl hn hk hl⟩
      | true =>
        have h64 := (cnt_bd hl).2
        cases hr : (rdL b u o xs).all okR with
        | false =>
          refine ⟨[], 2, by simp, fun g T w X => (sRds_4 s b u o _ _ _ xs w wb wu h (keepR X) rfl hn hk hl).mono fun e w' hh => hh.elim (fun hh => by rw [hr] at hh; cases hh.1) (·.2), fun g T w X => iRds_4 s b u o _ _ _ xs [] 2 w wb wu h (keepR X) rfl hn hk hl fun w' k1 k2 T1 T2 hg X1 X2 => ?_⟩
          exact (told_nor_LI 88 _ w' (fun _ => by kernel_rfl) fun w2 hg2 => cRds_bad s b u o _ _ _ xs w2 k1 k2 T1 T2 (hid (hg2.keep X1.out)) (hid (hg2.keep X2.out)) (hid ((keepR X).out.keep (hg.trans hg2))) rfl h64 (rr_gs h) hk hr).mono fun e w2 ⟨he, hg⟩ => ⟨_, _, he, World.ownsRow_nil _ _ _ _, hg⟩
        | true =>
          refine ⟨rdL b u o xs, 0, by rw [rdL_len]; exact hn, fun g T w X => (sRds_4 s b u o _ _ _ xs w wb wu h (keepR X) rfl hn hk hl).mono fun e w' hh => hh.elim (·.2) (fun hh => by rw [hr] at hh; cases hh.1), fun g T w X => iRds_4 s b u o _ _ _ xs _ 0 w wb wu h (keepR X) rfl hn hk hl fun w' k1 k2 T1 T2 hg X1 X2 => ?_⟩
          exact told_ok_LI 88 _ _ w' (fun _ => by kernel_rfl) fun w2 hg2 => cRds_ok s b u o _ _ _ xs w2 k1 k2 T1 T2 (hid (hg2.keep X1.out)) (hid (hg2.keep X2.out)) (hid ((keepR X).out.keep (hg.trans hg2))) rfl h64 (rr_gs h) hk hr
end Go.Proofs.Ytfcoigdmnmgohaa
