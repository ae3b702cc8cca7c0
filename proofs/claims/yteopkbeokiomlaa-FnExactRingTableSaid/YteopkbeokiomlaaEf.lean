/- WALKS: fractions that are looked at, and the scale that is made of its first error and of those of its intervals, of the program and of the reference. -/
import Derived.Test.YteopkbeokiomlaaFm
import Derived.Test.YteopkbeokiomlaaRegC
import Derived.Test.YteopkbeokiomlaaSkh
import Derived.Test.YteopkbeokiomlaaFu
namespace Go.Proofs.Yteopkbeokiomlaa
open Go.RowKit Go.Sort

def allF (xs : List (Int × Int)) : Bool := xs.all (fun x => okB x.1 x.2)
set_option maxRecDepth 20000 in
set_option maxHeartbeats 1000000 in
theorem sFracs (A : Option Addr) (c : Nat) (xs : List (Int × Int)) (w : World) (X : Hid (RdF w A xs)) (hn : xs.length ≤ 1048576) :
    Calls Try.prog 119 #[.slice A xs.length c] w fun e w' => e = .returned (.bool (allF xs)) ∧ Gr w w' := by
  go_enter Try.func119, Try.ntmps119
  go_wp2_with fail
  go_loopw [3] (fun u wr => ∃ (k : Nat), u = .int .i64 (k : Int) ∧ k ≤ xs.length ∧ Gr w wr ∧ (xs.take k).all (fun x => okB x.1 x.2) = true) (fun u _ => xs.length - (intOf u).toNat)
  case atStart => exact ⟨0, rfl, by omega, Gr.refl _, rfl⟩
  case round =>
    obtain ⟨k, rfl, hk, g0, ha⟩ := hrel
    have GW := hid g0; have HA := hid ha; clear g0 ha
    by_cases hlt : k < xs.length
    · obtain ⟨⟨p, q⟩, hpq⟩ : ∃ pq, xs[k]? = some pq := ⟨xs[k], List.getElem?_eq_getElem _⟩
      obtain ⟨ad, rfl, c1, c2⟩ := (X.out.keep GW.out) k p q hpq
      have HP := hid hpq; clear hpq
      cases hx : okB p q with
      | true =>
        have HX := hid hx; clear hx
        go_wp2_with fail
        refine (sok_t _ _ _ HX.out).mono ?_
        rintro e w1 ⟨rfl, hg1⟩
        have G1 := hid (GW.out.trans hg1)
        clear hg1
        go_wp2_with fail
        exact ⟨⟨k + 1, by simp, by omega, G1.out, all_take HP.out HA.out HX.out⟩, by simp [intOf]; omega⟩
      | false =>
        have HX := hid hx; clear hx
        go_wp2_with fail
        refine (sok_f _ _ _ HX.out).mono ?_
        rintro e w1 ⟨rfl, hg1⟩
        have G1 := hid (GW.out.trans hg1)
        clear hg1
        go_wp2
        go_ret
        exact ⟨ret_bool (by unfold allF; rw [all_not HP.out HX.out]), G1.out⟩
    · have hke : k = xs.length := by omega
      have hall : allF xs = true := by
        have h := HA.out
        rw [hke] at h
        simpa [allF] using h
      have HALL := hid hall
      clear hke hall
      go_wp2
      go_ret
      exact ⟨ret_bool (by rw [HALL.out]), GW.out⟩
set_option maxRecDepth 20000 in
set_option maxHeartbeats 400000 in
theorem iNotF (p q : Int) (w : World) : Calls Try.prog 174 #[fr p q] w fun e w' => e = .returned (.bool (!okB p q)) ∧ Gr w w' := by
  go_enter Try.func174, Try.ntmps174
  go_wp2_with fail
  refine (iok_any p q _).mono ?_
  rintro e w1 ⟨rfl, hg1⟩
  obtain ⟨x1_0, hz1, g1⟩ := alloc1 hg1
  obtain ⟨_, _⟩ := cells2 x1_0
  have _ := fz x1_0
  have _ := ltb x1_0
  have X1_0 := hid x1_0; clear x1_0
  have G1 := hid (g1)
  clear hg1 g1
  go_wp2
  go_ret
  exact ⟨rfl, G1.out⟩
set_option maxRecDepth 20000 in
set_option maxHeartbeats 1000000 in
theorem iIndexQ (A : Option Addr) (c : Nat) (xs : List (Int × Int)) (w : World) (X : Hid (RdF w A xs)) (hn : xs.length ≤ 1048576) :
    Calls Try.prog 206 #[.slice A xs.length c, .func (.func 174) #[] #[]] w fun e w' => (∃ r : Int, e = .returned (.int .i64 r) ∧ decide (0 ≤ r) = !allF xs) ∧ Gr w w' := by
  have hen : ∀ p q w, (callFunc 174 #[fr p q]).run Try.prog w = .ok (.enter 174 #[fr p q]) w := fun p q w => by kernel_rfl
  have hno := hid fun (p q : Int) (w : World) (h : okB p q = false) => (iNotF p q w).mono (R' := fun e w' => e = .returned (.bool true) ∧ Gr w w') fun e w' hh => ⟨by rw [hh.1, h]; rfl, hh.2⟩
  have hyes := hid fun (p q : Int) (w : World) (h : okB p q = true) => (iNotF p q w).mono (R' := fun e w' => e = .returned (.bool false) ∧ Gr w w') fun e w' hh => ⟨by rw [hh.1, h]; rfl, hh.2⟩
  go_enter Try.func206, Try.ntmps206
  go_wp2_with fail
  go_loopw [8] (fun u wr => ∃ (k : Nat), u = .int .i64 (k : Int) ∧ k ≤ xs.length ∧ Gr w wr ∧ (xs.take k).all (fun x => okB x.1 x.2) = true) (fun u _ => xs.length - (intOf u).toNat)
  case atStart => exact ⟨0, rfl, by omega, Gr.refl _, rfl⟩
  case round =>
    obtain ⟨k, rfl, hk, g0, ha⟩ := hrel
    have GW := hid g0; have HA := hid ha; clear g0 ha
    by_cases hlt : k < xs.length
    · obtain ⟨⟨p, q⟩, hpq⟩ : ∃ pq, xs[k]? = some pq := ⟨xs[k], List.getElem?_eq_getElem _⟩
      obtain ⟨ad, rfl, c1, c2⟩ := (X.out.keep GW.out) k p q hpq
      have HP := hid hpq; clear hpq
      cases hx : okB p q with
      | true =>
        have HX := hid hx; clear hx
        go_wp2_with fail
        refine (hyes.out p q _ HX.out).mono ?_
        rintro e w1 ⟨rfl, hg1⟩
        have G1 := hid (GW.out.trans hg1)
        clear hg1
        go_wp2_with fail
        exact ⟨⟨k + 1, by simp, by omega, G1.out, all_take HP.out HA.out HX.out⟩, by simp [intOf]; omega⟩
      | false =>
        have HX := hid hx; clear hx
        go_wp2_with fail
        refine (hno.out p q _ HX.out).mono ?_
        rintro e w1 ⟨rfl, hg1⟩
        have G1 := hid (GW.out.trans hg1)
        clear hg1
        go_wp2
        go_ret
        exact ⟨⟨_, rfl, by unfold allF; rw [all_not HP.out HX.out]; simp⟩, G1.out⟩
    · have hke : k = xs.length := by omega
      have hall : allF xs = true := by
        have h := HA.out
        rw [hke] at h
        simpa [allF] using h
      have HALL := hid hall
      clear hke hall
      go_wp2
      go_ret
      exact ⟨⟨_, rfl, by rw [HALL.out]; simp⟩, GW.out⟩
set_option maxRecDepth 20000 in
set_option maxHeartbeats 400000 in
theorem iContQ (A : Option Addr) (c : Nat) (xs : List (Int × Int)) (w : World) (X : Hid (RdF w A xs)) (hn : xs.length ≤ 1048576) :
    Calls Try.prog 173 #[.slice A xs.length c, .func (.func 174) #[] #[]] w fun e w' => e = .returned (.bool (!allF xs)) ∧ Gr w w' := by
  go_enter Try.func173, Try.ntmps173
  go_wp2_with fail
  refine (iIndexQ A c xs w X hn).mono ?_
  rintro e w1 ⟨⟨r, rfl, hr⟩, hg⟩
  have HR := hid hr; have HG := hid hg; clear hr hg
  go_wp2_with fail
  go_ret
  exact ⟨ret_bool (by rw [← HR.out]), HG.out⟩
set_option maxRecDepth 20000 in
set_option maxHeartbeats 400000 in
theorem iFracs (A : Option Addr) (c : Nat) (xs : List (Int × Int)) (w : World) (X : Hid (RdF w A xs)) (hn : xs.length ≤ 1048576) :
    Calls Try.prog 121 #[.slice A xs.length c] w fun e w' => e = .returned (.bool (allF xs)) ∧ Gr w w' := by
  have HC := hid (iContQ A c xs w X hn)
  obtain ⟨r, hr⟩ : ∃ r, allF xs = r := ⟨_, rfl⟩
  rw [hr] at HC
  rw [hr]
  go_enter Try.func121, Try.ntmps121
  go_wp2_with fail
  refine (HC.out).mono ?_
  rintro e w1 ⟨rfl, hg1⟩
  have G1 := hid (hg1)
  clear hg1
  go_wp2
  go_ret
  exact ⟨ret_bool (by simp), G1.out⟩

/-! told, of a scale -/
theorem own_low {W : World} {base : Nat} {E : TypeId} {sz n : Nat} {v : Value} {xs : List Value} (h : W.ownsRow base E sz v n xs) {a : Addr} (ha : a.block < base) (y : Value) : (W.setCell a y).ownsRow base E sz v n xs := by
  refine ⟨h.1, ?_⟩
  rcases h.2 with h0 | ⟨g, cap, cur, h1, h2, h3, h4⟩
  · exact .inl h0
  · exact .inr ⟨g, cap, cur, h1, h2, keepSet' h3 (by omega), h4⟩
set_option maxHeartbeats 400000 in
theorem catch_idle_Z (p : Addr) (w : World) :
    CallsD Try.prog 168 #[.pointer (some p)] .returning w fun e u' w' => e = .returned (.tuple #[]) ∧ u' = .returning ∧ w' = w := by
  have h1 : ∀ w, (Instr.typeAssert .nilIface 20 165 true).run Try.prog w = .ok (.tuple #[.nilIface, .bool false]) w := fun _ => by kernel_rfl
  refine callsD_of_wpS Try.func168 rfl fun c₀ cs hu => ?_
  apply wpS_seq
  apply wpS_region
  simp [wpOpsS, go_sem, recoverD, hu, Try.ntmps168, Exit.thenS, ↓h1]
  apply wpS_of_wp
  go_wp2
  cases c₀
  simp_all [bodyPostS, results, Try.results168]
set_option maxHeartbeats 400000 in
theorem catch_great_Z (b : Nat) (x y : Int) (w : World) (c : Int) (T : TypeId) (hc : w.heap[b]? = some (.cells #[.int .i64 c] T)) :
    CallsD Try.prog 168 #[.pointer (some ⟨b, 0, none⟩)] (.panicking [{ v := .iface 194 (fr x y), recovered := false }]) w fun e u' w' =>
      e = .returned (.tuple #[]) ∧ u' = .panicking [{ v := .iface 194 (fr x y), recovered := true }] ∧ ∃ w1, Gr w w1 ∧ w' = w1.setCell ⟨b, 0, none⟩ (.int .i64 3) := by
  have h1 : ∀ x w, (Instr.typeAssert (.iface 194 x) 20 165 true).run Try.prog w = .ok (.tuple #[.iface 194 x, .bool true]) w := fun _ _ => by kernel_rfl
  refine callsD_of_wpS Try.func168 rfl fun c₀ cs hu => ?_
  apply wpS_seq
  apply wpS_region
  simp [wpOpsS, go_sem, recoverD, hu, Try.ntmps168, Exit.thenS, ↓h1, Array.replicate, List.replicate]
  apply wpS_of_wp
  clear hu h1
  have HC := hid hc; clear hc
  go_wp2_with (go_at_call 253; refine (code_great _ _ _).mono ?_; rintro e w1 ⟨rfl, hg⟩; have hb := hg.keep HC.out; have f0 := fz hb; have c0 := cells1 hb; have HG := hid hg; clear hg hb)
  cases c₀
  simp [bodyPostS, results, Try.results168]
  exact ⟨w1, HG.out, rfl⟩
set_option maxRecDepth 20000 in
set_option maxHeartbeats 400000 in
theorem toldS_ok (f : Nat) (cap : Array Value) (a b : Int) (n : Nat) (ys : List (Int × Int)) (w : World) (hen : ∀ w, (callFunc f cap).run Try.prog w = .ok (.enter f cap) w) (hF : ∀ w', Gr w w' → Calls Try.prog f cap w' fun e w'' => ∃ A c, e = .returned (scl a b A n c) ∧ w''.ownsRow w'.heap.size 26 2 (.slice A n c) n (flatL ys) ∧ Gr w' w'') :
    Calls Try.prog 106 #[.func (.func f) #[] cap] w fun e w' => ∃ A c, e = .returned (.tuple #[scl a b A n c, .int .i64 0]) ∧ w'.ownsRow w.heap.size 26 2 (.slice A n c) n (flatL ys) ∧ Gr w w' := by
  have HF := hid hF; clear hF
  go_enter_defers Try.func106, Try.ntmps106
  go_wp2_with fail
  refine (HF.out _ ((Gr.alloc _ _).trans (Gr.alloc _ _))).mono ?_
  rintro e w1 ⟨A, c, rfl, hR, hg⟩
  obtain ⟨x0, x1, hz, G1⟩ := alloc2 hg
  obtain ⟨_, _, _⟩ := cells3 x0
  have _ := cells1 x1
  have _ := fz x0
  have _ := fz x1
  have G1 := hid G1
  have HR := hid (own_base hR (show w.heap.size + 2 ≤ _ by simp))
  clear hg x0 x1 hR
  go_wp2_with fail
  refine leaves_cons (f := 168) (args := #[.pointer (some ⟨w.heap.size + 1, 0, none⟩)]) (by simp) (by simp [go_sem]) ?_
  refine (catch_idle_Z _ _).mono ?_
  rintro e u' w2 ⟨rfl, rfl, rfl⟩
  simp [Leaves, settle, results, Try.results106, go_sem, *]
  refine ⟨A, c, ⟨rfl, rfl⟩, own_base (base' := w.heap.size) (own_low (own_low (own_low (own_low HR.out (by simp) _) (by simp) _) (by simp) _) (by simp) _) (by omega), ?_⟩
  exact ((((G1.out.setCell (by simp) _).setCell (by simp) _).setCell (by simp) _).setCell (by simp) _)
set_option maxRecDepth 20000 in
set_option maxHeartbeats 400000 in
theorem toldS_great (f : Nat) (cap : Array Value) (w : World) (hen : ∀ w, (callFunc f cap).run Try.prog w = .ok (.enter f cap) w) (hF : ∀ w', Gr w w' → Calls Try.prog f cap w' fun e w'' => (∃ p q, e = .panicked [{ v := .iface 194 (fr p q), recovered := false }]) ∧ Gr w' w'') :
    Calls Try.prog 106 #[.func (.func f) #[] cap] w fun e w' => e = .returned (.tuple #[scl 0 0 none 0 0, .int .i64 3]) ∧ Gr w w' := by
  have HF := hid hF; clear hF
  go_enter_defers Try.func106, Try.ntmps106
  go_wp2_with fail
  refine (HF.out _ ((Gr.alloc _ _).trans (Gr.alloc _ _))).mono ?_
  rintro e w1 ⟨⟨p, q, rfl⟩, hg⟩
  obtain ⟨x0, x1, hz, G1⟩ := alloc2 hg
  refine leaves_cons (f := 168) (args := #[.pointer (some ⟨w.heap.size + 1, 0, none⟩)]) (by simp) (by simp [go_sem]) ?_
  refine (catch_great_Z _ _ _ _ _ _ x1).mono ?_
  rintro e u' w2 ⟨rfl, rfl, w3, hg3, rfl⟩
  have x0 := hg3.keep x0
  obtain ⟨_, _, _⟩ := cells3 x0
  have _ := cells1 (hg3.keep x1)
  simp [Leaves, settle, results, Try.results106, go_sem, *]
  exact (G1.trans hg3).setCell (by simp) _
/-! validOr -/
set_option maxRecDepth 20000 in
set_option maxHeartbeats 400000 in
theorem iOr_t (C a b : Int) (A : Option Addr) (c : Nat) (xs : List (Int × Int)) (w : World) (X : Hid (RdF w A xs)) (hn : xs.length ≤ 1048576) (h : sclB a b xs = true) :
    Calls Try.prog 113 #[.int .i64 C, scl a b A xs.length c] w fun e w' => e = .returned (.tuple #[scl a b A xs.length c, .int .i64 0]) ∧ Gr w w' := by
  have h := hid h
  go_enter Try.func113, Try.ntmps113
  go_wp2_with fail
  refine (iScT a b A c xs _ (hid (X.out.keep (((Gr.refl w).al _).al _))) hn h.out).mono ?_
  rintro e w1 ⟨rfl, hg1⟩
  obtain ⟨x1_0, x1_1, hz1, g1⟩ := alloc2 hg1
  obtain ⟨_, _, _⟩ := cells3 x1_0
  have _ := fz x1_0
  have _ := ltb x1_0
  obtain ⟨_, _, _⟩ := cells3 x1_1
  have _ := fz x1_1
  have _ := ltb x1_1
  have X1_0 := hid x1_0; clear x1_0
  have X1_1 := hid x1_1; clear x1_1
  have G1 := hid (g1)
  clear hg1 g1
  go_wp2
  refine bodyPost_ret (v := .tuple #[scl a b A xs.length c, .int .i64 0]) (by simp [results, Try.results113, go_sem, *]) rfl ⟨rfl, ?_⟩
  exact (((G1.out).setCell (by simp <;> omega) _).setCell (by simp <;> omega) _).setCell (by simp <;> omega) _
set_option maxRecDepth 20000 in
set_option maxHeartbeats 400000 in
theorem iOr_f (C a b : Int) (A : Option Addr) (c : Nat) (xs : List (Int × Int)) (w : World) (X : Hid (RdF w A xs)) (hn : xs.length ≤ 1048576) (h : sclB a b xs = false) :
    Calls Try.prog 113 #[.int .i64 C, scl a b A xs.length c] w fun e w' => e = .returned (.tuple #[scl 0 0 none 0 0, .int .i64 C]) ∧ Gr w w' := by
  have h := hid h
  go_enter Try.func113, Try.ntmps113
  go_wp2_with fail
  refine (iScF a b A c xs _ (hid (X.out.keep (((Gr.refl w).al _).al _))) hn h.out).mono ?_
  rintro e w1 ⟨rfl, hg1⟩
  obtain ⟨x1_0, x1_1, hz1, g1⟩ := alloc2 hg1
  obtain ⟨_, _, _⟩ := cells3 x1_0
  have _ := fz x1_0
  have _ := ltb x1_0
  obtain ⟨_, _, _⟩ := cells3 x1_1
  have _ := fz x1_1
  have _ := ltb x1_1
  have X1_0 := hid x1_0; clear x1_0
  have X1_1 := hid x1_1; clear x1_1
  have G1 := hid (g1)
  clear hg1 g1
  go_wp2
  refine bodyPost_ret (v := .tuple #[scl 0 0 none 0 0, .int .i64 C]) (by simp [results, Try.results113, go_sem, *]) rfl ⟨rfl, ?_⟩
  exact (((G1.out).setCell (by simp <;> omega) _).setCell (by simp <;> omega) _).setCell (by simp <;> omega) _
end Go.Proofs.Yteopkbeokiomlaa
