/- READERS: lists of readers that are valid, of both sides. -/
import Derived.Test.YtpadjkgbeijkpaaDoorRb
import Derived.Test.YtpadjkgbeijkpaaDoorPc
namespace Go.Proofs.YtpadjkgbeijkpaaDoor
open Go.RowKit Go.Sort

/-- The numbers of a reader are what they can be. -/
def wfR (x : Rqv) : Bool := decide (-32768 ≤ x.b ∧ x.b ≤ 32767 ∧ -32768 ≤ x.u ∧ x.u ≤ 32767)
theorem wfR_w {x : Rqv} (h : wfR x = true) : W16 x.b ∧ W16 x.u := by
  unfold wfR at h
  simp at h
  exact ⟨⟨h.1, h.2.1⟩, ⟨h.2.2.1, h.2.2.2⟩⟩
/-- A reader is valid. -/
def okRd (x : Rqv) : Bool := rrB x.nm x.b x.u
theorem allRq_take {xs : List Rqv} {k : Nat} {x : Rqv} {f : Rqv → Bool} (h : xs[k]? = some x) (ha : (xs.take k).all f = true) (hx : f x = true) : (xs.take (k + 1)).all f = true := by
  rw [List.take_add_one, h]
  simp only [Option.toList, List.all_append, ha, List.all_cons, hx, List.all_nil, Bool.and_self]
theorem allRq_not {xs : List Rqv} {k : Nat} {x : Rqv} {f : Rqv → Bool} (h : xs[k]? = some x) (hx : f x = false) : xs.all f = false := by
  rw [List.all_eq_false]
  exact ⟨x, List.mem_of_getElem? h, by simp [hx]⟩
theorem allRq_get {xs : List Rqv} {k : Nat} {x : Rqv} {f : Rqv → Bool} (h : xs[k]? = some x) (ha : xs.all f = true) : f x = true := by
  rw [List.all_eq_true] at ha
  exact ha x (List.mem_of_getElem? h)
theorem gr_inRq {w wb : World} (hb : Gr w wb) {n : Nat} {os : Array Obj} : Gr w (grow (wb.drewN n) os) := hb.trans ⟨⟨n, os⟩, rfl⟩
set_option maxRecDepth 20000 in
set_option maxHeartbeats 1000000 in
theorem iIndexRq (F : Nat) (cap : Array Value) (f : Rqv → Bool) (A : Option Addr) (c : Nat) (xs : List Rqv) (w : World) (X : Hid (RdRq w A xs)) (hn : xs.length ≤ 1048576) (hw : xs.all wfR = true)
    (hen : ∀ x w, (callFunc F (#[vRq x] ++ cap)).run Tryd.prog w = .ok (.enter F (#[vRq x] ++ cap)) w) (hF : ∀ x w', Gr w w' → wfR x = true → Calls Tryd.prog F (#[vRq x] ++ cap) w' fun e w'' => e = .returned (.bool (!f x)) ∧ Gr w' w'') :
    Calls Tryd.prog 143 #[.slice A xs.length c, .func (.func F) #[] cap] w fun e w' => (∃ r : Int, e = .returned (.int .i64 r) ∧ decide (0 ≤ r) = !xs.all f) ∧ Gr w w' := by
  have hno := hid fun (x : Rqv) (w' : World) (hg : Gr w w') (hx : wfR x = true) (h : f x = false) => (hF x w' hg hx).mono (R' := fun e w'' => e = .returned (.bool true) ∧ Gr w' w'') fun e w' hh => ⟨by rw [hh.1, h]; rfl, hh.2⟩
  have hyes := hid fun (x : Rqv) (w' : World) (hg : Gr w w') (hx : wfR x = true) (h : f x = true) => (hF x w' hg hx).mono (R' := fun e w'' => e = .returned (.bool false) ∧ Gr w' w'') fun e w' hh => ⟨by rw [hh.1, h]; rfl, hh.2⟩
  have HW := hid hw
  clear hF hw
  go_enter Tryd.func143, Tryd.ntmps143
  go_wp2_with fail
  go_loopw [8] (fun u wr => ∃ (k : Nat), u = .int .i64 (k : Int) ∧ k ≤ xs.length ∧ Gr w wr ∧ (xs.take k).all f = true) (fun u _ => xs.length - (intOf u).toNat)
  case atStart => exact ⟨0, rfl, by omega, Gr.refl _, rfl⟩
  case round =>
    obtain ⟨k, rfl, hk, g0, ha⟩ := hrel
    have GW := hid g0; have HA := hid ha; clear g0 ha
    by_cases hlt : k < xs.length
    · obtain ⟨x, hxk⟩ : ∃ x, xs[k]? = some x := ⟨xs[k], List.getElem?_eq_getElem _⟩
      obtain ⟨ad, rfl, c1⟩ := (X.out.keep GW.out) k x hxk
      obtain ⟨_, _, _, _⟩ := c1
      have hen' := hen x
      have HP := hid hxk; have HWX := hid (allRq_get hxk HW.out); clear hxk hen
      cases hx : f x with
      | true =>
        have HX := hid hx; clear hx
        go_wp2_with fail
        refine (hyes.out x _ GW.out HWX.out HX.out).mono ?_
        rintro e w1 ⟨rfl, hg1⟩
        have G1 := hid (GW.out.trans hg1); clear hg1 hen'
        go_wp2_with fail
        exact ⟨⟨k + 1, by simp, by omega, G1.out, allRq_take HP.out HA.out HX.out⟩, by simp [intOf]; omega⟩
      | false =>
        have HX := hid hx; clear hx
        go_wp2_with fail
        refine (hno.out x _ GW.out HWX.out HX.out).mono ?_
        rintro e w1 ⟨rfl, hg1⟩
        have G1 := hid (GW.out.trans hg1); clear hg1 hen'
        go_wp2
        go_ret
        exact ⟨⟨_, rfl, by rw [allRq_not HP.out HX.out]; simp⟩, G1.out⟩
    · have hke : k = xs.length := by omega
      have hall : xs.all f = true := by
        have h := HA.out
        rwa [hke, List.take_length] at h
      have HALL := hid hall
      clear hke hall hen
      go_wp2
      go_ret
      exact ⟨⟨_, rfl, by rw [HALL.out]; simp⟩, GW.out⟩
set_option maxRecDepth 20000 in
set_option maxHeartbeats 400000 in
theorem iContRq (F : Nat) (cap : Array Value) (f : Rqv → Bool) (A : Option Addr) (c : Nat) (xs : List Rqv) (w : World) (X : Hid (RdRq w A xs)) (hn : xs.length ≤ 1048576) (hw : xs.all wfR = true)
    (hen : ∀ x w, (callFunc F (#[vRq x] ++ cap)).run Tryd.prog w = .ok (.enter F (#[vRq x] ++ cap)) w) (hF : ∀ x w', Gr w w' → wfR x = true → Calls Tryd.prog F (#[vRq x] ++ cap) w' fun e w'' => e = .returned (.bool (!f x)) ∧ Gr w' w'') :
    Calls Tryd.prog 107 #[.slice A xs.length c, .func (.func F) #[] cap] w fun e w' => e = .returned (.bool (!xs.all f)) ∧ Gr w w' := by
  have HI := hid (iIndexRq F cap f A c xs w X hn hw hen hF); clear hen hF hw
  go_enter Tryd.func107, Tryd.ntmps107
  go_wp2_with fail
  refine HI.out.mono ?_
  rintro e w1 ⟨⟨r, rfl, hr⟩, hg⟩
  have HR := hid hr; have HG := hid hg; clear hr hg
  go_wp2_with fail
  go_ret
  exact ⟨ret_bool (by rw [← HR.out]), HG.out⟩

set_option maxRecDepth 20000 in
set_option maxHeartbeats 400000 in
theorem iVRs1 (x : Rqv) (w : World) (h : wfR x = true) : Calls Tryd.prog 108 #[vRq x] w fun e w' => e = .returned (.bool (!okRd x)) ∧ Gr w w' := by
  obtain ⟨hb, hu⟩ := wfR_w h
  have HV := hid fun (w : World) => iVReader x.nm x.b x.u x.o w hb hu
  clear hb hu h
  unfold okRd
  go_enter Tryd.func108, Tryd.ntmps108
  go_wp2_with fail
  refine (HV.out _).mono ?_
  rintro e w1 ⟨rfl, hg1⟩
  obtain ⟨x1_0, hz1, g1⟩ := alloc1 hg1
  obtain ⟨_, _, _, _⟩ := cells4 x1_0
  have _ := fz x1_0
  have _ := ltb x1_0
  have X1_0 := hid x1_0; clear x1_0
  have G1 := hid (g1)
  clear hg1 g1
  go_wp2
  go_ret
  exact ⟨rfl, G1.out⟩
set_option maxRecDepth 20000 in
set_option maxHeartbeats 400000 in
theorem iVRs (A : Option Addr) (c : Nat) (xs : List Rqv) (r : Bool) (w : World) (X : Hid (RdRq w A xs)) (hn : xs.length ≤ 1048576) (hw : xs.all wfR = true) (hr : xs.all okRd = r) :
    Calls Tryd.prog 65 #[.slice A xs.length c] w fun e w' => e = .returned (.bool r) ∧ Gr w w' := by
  have HC := hid fun (w : World) (X : Hid (RdRq w A xs)) => iContRq 108 #[] okRd A c xs w X hn hw (fun _ _ => by kernel_rfl) (fun x w' _ hx => iVRs1 x w' hx)
  rw [hr] at HC
  clear hw hr
  go_enter Tryd.func65, Tryd.ntmps65
  go_wp2_with fail
  refine (HC.out _ X).mono ?_
  rintro e w1 ⟨rfl, hg1⟩
  have G1 := hid (hg1)
  clear hg1
  go_wp2
  go_ret
  exact ⟨ret_bool (by simp), G1.out⟩
set_option maxRecDepth 20000 in
set_option maxHeartbeats 600000 in
theorem sHabitAt (s : ByteArray) (b u : Int) (o : Bool) (w : World) (g k : Nat) (X : Hid (CelRq w ⟨g, k, none⟩ ⟨s, b, u, o⟩)) :
    Calls Tryd.prog 142 #[.pointer (some ⟨g, k, none⟩)] w fun e w' => e = .returned (gs b u o) ∧ Gr w w' := by
  go_enter Tryd.func142, Tryd.ntmps142
  go_wp2_with fail
  refine wp_reg0 13 (by kernel_rfl) (by kernel_rfl) ?_
  apply Exists.intro
  refine ⟨fun wb hb => ?_, ?_⟩
  · obtain ⟨f0, f1, f2, f3⟩ := (X.out.keep ((Gr.refl w).al (.cells #[.int .i16 0, .int .i16 0, .bool false] 192))).blk
    have _ := hb.atF f1; have _ := hb.atF f2; have _ := hb.atF f3
    clear f0 f1 f2 f3
    obtain ⟨y0, _, _⟩ := alloc1 (Gr.refl _)
    obtain ⟨_, _, _⟩ := hb.at3 y0
    clear y0
    simp only [headOps, List.contains, List.elem, reduceIte, Bool.false_eq_true]
    repeat (first | go_big_quiet_step (first | (fail)) | quiet_step (fail))
    exact wpQuiet_nil rfl
  intro w1 hg1
  obtain ⟨x1_0, hz1, g1⟩ := alloc1 hg1
  obtain ⟨_, _, _⟩ := cells3 x1_0
  have _ := fz x1_0
  have _ := ltb x1_0
  have X1_0 := hid x1_0; clear x1_0
  have G1 := hid (g1)
  clear hg1 g1
  go_wp2
  refine bodyPost_ret (v := gs b u o) (by simp [results, Tryd.results142, go_sem, *]) rfl ⟨rfl, ?_⟩
  exact (((G1.out).setCell (by simp <;> omega) _).setCell (by simp <;> omega) _).setCell (by simp <;> omega) _
set_option maxRecDepth 20000 in
set_option maxHeartbeats 600000 in
theorem sOkRAt (s : ByteArray) (b u : Int) (o : Bool) (r : Bool) (w : World) (hb : W16 b) (hu : W16 u) (g k : Nat) (X : Hid (CelRq w ⟨g, k, none⟩ ⟨s, b, u, o⟩)) (hr : rrB s b u = r) :
    Calls Tryd.prog 106 #[.pointer (some ⟨g, k, none⟩)] w fun e w' => e = .returned (.bool r) ∧ Gr w w' := by
  subst hr
  unfold rrB
  obtain ⟨r, hr⟩ : ∃ r, gsB b u = r := ⟨_, rfl⟩
  rw [hr]
  have HG := hid fun (w : World) => gsGuess b u o r w hb hu hr
  clear hr hb hu
  have c0 := X.out.h0
  cases h : nmB s 12 with
  | false =>
    have H := hid h; clear h
    go_enter Tryd.func106, Tryd.ntmps106
    go_wp2_with fail
    refine (sName_is s false _ H.out).mono ?_
    rintro e w1 ⟨rfl, hg1⟩
    have G1 := hid (hg1)
    clear hg1
    go_wp2
    go_ret
    exact ⟨ret_bool (by simp), G1.out⟩
  | true =>
    have H := hid h; clear h
    go_enter Tryd.func106, Tryd.ntmps106
    go_wp2_with fail
    refine (sName_is s true _ H.out).mono ?_
    rintro e w1 ⟨rfl, hg1⟩
    have G1 := hid (hg1)
    clear hg1
    go_wp2_with fail
    refine (sHabitAt s b u o _ g k (hid (X.out.keep G1.out))).mono ?_
    rintro e w2 ⟨rfl, hg2⟩
    have G2 := hid (G1.out.trans hg2)
    clear hg2
    go_wp2_with fail
    refine (HG.out _).mono ?_
    rintro e w3 ⟨rfl, hg3⟩
    have G3 := hid (G2.out.trans hg3)
    clear hg3
    go_wp2
    go_ret
    exact ⟨ret_bool (by simp), G3.out⟩
set_option maxRecDepth 20000 in
set_option maxHeartbeats 1000000 in
theorem sVRs (g c : Nat) (xs : List Rqv) (r : Bool) (w : World) (X : Hid (RdRq w (some ⟨g, 0, none⟩) xs)) (hn : xs.length ≤ 1048576) (hw : xs.all wfR = true) (hr : xs.all okRd = r) :
    Calls Tryd.prog 62 #[.slice (some ⟨g, 0, none⟩) xs.length c] w fun e w' => e = .returned (.bool r) ∧ Gr w w' := by
  have HW := hid hw; have HR := hid hr; clear hw hr
  go_enter Tryd.func62, Tryd.ntmps62
  go_wp2_with fail
  go_loopw [3] (fun u wr => ∃ (k : Nat), u = .int .i64 (k : Int) ∧ k ≤ xs.length ∧ Gr w wr ∧ (xs.take k).all okRd = true) (fun u _ => xs.length - (intOf u).toNat)
  case atStart => exact ⟨0, rfl, by omega, Gr.refl _, rfl⟩
  case round =>
    obtain ⟨k, rfl, hk, g0, ha⟩ := hrel
    have GW := hid g0; have HA := hid ha; clear g0 ha
    by_cases hlt : k < xs.length
    · obtain ⟨x, hxk⟩ : ∃ x, xs[k]? = some x := ⟨xs[k], List.getElem?_eq_getElem _⟩
      obtain ⟨ad, he, c1⟩ := (X.out.keep GW.out) k x hxk
      cases he
      rw [add_at] at c1
      have C1 := hid c1; clear c1
      have hwx := wfR_w (allRq_get hxk HW.out)
      have HP := hid hxk; clear hxk
      have HO := hid fun (r : Bool) (h : okRd x = r) => sOkRAt x.nm x.b x.u x.o r wr hwx.1 hwx.2 g (k * 4) C1 h
      clear hwx
      cases hx : okRd x with
      | true =>
        have HX := hid hx; clear hx
        go_wp2_with fail
        refine (HO.out true HX.out).mono ?_
        rintro e w1 ⟨rfl, hg1⟩
        have G1 := hid (GW.out.trans hg1); clear hg1
        go_wp2_with fail
        exact ⟨⟨k + 1, by simp, by omega, G1.out, allRq_take HP.out HA.out HX.out⟩, by simp [intOf]; omega⟩
      | false =>
        have HX := hid hx; clear hx
        have HRR := hid (show r = false by rw [← HR.out]; exact allRq_not HP.out HX.out)
        go_wp2_with fail
        refine (HO.out false HX.out).mono ?_
        rintro e w1 ⟨rfl, hg1⟩
        have G1 := hid (GW.out.trans hg1); clear hg1
        go_wp2
        go_ret
        exact ⟨ret_bool HRR.out.symm, G1.out⟩
    · have hke : k = xs.length := by omega
      have hall : xs.all okRd = true := by
        have h := HA.out
        rwa [hke, List.take_length] at h
      have HRR := hid (show r = true by rw [← HR.out]; exact hall)
      clear hke hall
      go_wp2
      go_ret
      exact ⟨ret_bool HRR.out.symm, GW.out⟩
end Go.Proofs.YtpadjkgbeijkpaaDoor
