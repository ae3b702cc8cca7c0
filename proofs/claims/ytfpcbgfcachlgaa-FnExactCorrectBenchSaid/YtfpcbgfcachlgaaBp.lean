/- BENCHES: CorrectBench: things copied; the program. -/
import Derived.Test.YtfpcbgfcachlgaaBf
import Derived.Test.YtfpcbgfcachlgaaCs
import Derived.Test.YtfpcbgfcachlgaaCz
namespace Go.Proofs.Ytfpcbgfcachlgaa
open Go.RowKit Go.Sort

theorem tg_news {w : World} {g : Nat} {ts : List Tgv} (T : RdTg w (some ⟨g, 0, none⟩) ts) : ∀ (j : Nat) (u : Value), (flTg ts)[j]? = some u → w.cell? ((⟨g, 0, none⟩ : Addr).add j) = some u := by
  intro j u hj
  have hl : j < ts.length * 5 := by have := (List.getElem?_eq_some_iff.1 hj).1; rwa [flTg_len] at this
  obtain ⟨x, hx⟩ : ∃ x, ts[j / 5]? = some x := ⟨ts[j / 5]'(by omega), List.getElem?_eq_getElem _⟩
  have hg := flTg_get ts (j / 5) x hx (j % 5) (Nat.mod_lt _ (by omega))
  rw [show j / 5 * 5 + j % 5 = j by omega, hj] at hg
  obtain ⟨ad, he, c⟩ := T (j / 5) x hx
  cases he
  rw [add_at] at c ⊢
  have hm := Nat.mod_lt j (show 0 < 5 by omega)
  have hj2 : j = j / 5 * 5 + j % 5 := by omega
  obtain ⟨q, r, hq, hr⟩ : ∃ q r, j / 5 = q ∧ j % 5 = r := ⟨_, _, rfl, rfl⟩
  rw [hq, hr] at hj2
  rw [hr] at hg hm
  rw [hq] at c
  subst hj2
  match r, hm, hg with
  | 0, _, hg => simp [cTg] at hg; subst hg; exact c.h0
  | 1, _, hg => simp [cTg] at hg; subst hg; exact c.h1
  | 2, _, hg => simp [cTg] at hg; subst hg; exact c.h2
  | 3, _, hg => simp [cTg] at hg; subst hg; exact c.h3
  | 4, _, hg => simp [cTg] at hg; subst hg; exact c.h4
theorem own_emptyTg (w : World) : (w.alloc (.cells #[] 111)).ownsRow w.heap.size 111 5 (.slice (some ⟨w.heap.size, 0, none⟩) 0 0) 0 (flTg []) :=
  ⟨by simp [flTg], .inr ⟨w.heap.size, 0, #[], rfl, Nat.le_refl _, (alloc1 (Gr.refl _)).1, by simp [flTg]⟩⟩
set_option maxRecDepth 20000 in
set_option maxHeartbeats 1000000 in
theorem iCloneTg (g c : Nat) (ts : List Tgv) (w : World) (T : Hid (RdTg w (some ⟨g, 0, none⟩) ts)) (hn : ts.length ≤ 1048576) :
    Calls Try.prog 60 #[.slice (some ⟨g, 0, none⟩) ts.length c] w fun e w' => ∃ A' c', e = .returned (.slice A' ts.length c') ∧ w'.ownsRow w.heap.size 111 5 (.slice A' ts.length c') ts.length (flTg ts) ∧ Gr w w' := by
  obtain ⟨i0, hi, hz0, hz1, hz2⟩ : ∃ i, Try.prog.info? 111 = some i ∧ i.zero = some (vTg zTg) ∧ i.size = 5 ∧ i.bytes = 48 := ⟨_, rfl, by kernel_rfl, rfl, rfl⟩
  have hnil : ∀ (ad : Addr) (n c : Nat) (w : World), (binOp .eql 39 (.slice (some ad) n c) (.slice none 0 0)).run Try.prog w = .ok (.bool false) w := fun _ _ _ _ => by kernel_rfl
  have NEW : Hid (∀ (j : Nat) (u : Value), (flTg ts)[j]? = some u → (w.alloc (.cells #[] 111)).cell? ((⟨g, 0, none⟩ : Addr).add j) = some u) := hid (tg_news (T.out.keep ((Gr.refl w).al (.cells #[] 111))))
  by_cases h0 : 0 < ts.length
  · go_enter Try.func60, Try.ntmps60
    go_wp2_with (at_builtin; refine wpList_append_gr rfl _ _ 39 rfl w.heap.size 111 i0 (vTg zTg) 5 48 Try.underlying39 hi hz0 hz1 hz2 rfl (by decide) _ 0 [] rfl (World.ownsRow_made _ #[] 0 (Nat.le_refl _) (by simp [maxLen]) (by simp)) ⟨g, 0, none⟩ ts.length c (flTg ts) rfl (by rw [flTg_len]) NEW.out (flTg_one ts) h0 (by unfold maxLen; omega) (by omega) (by simp) ?_)
    intro v' w2 own2 _ _ hgr
    obtain ⟨A2, c2, rfl⟩ := own_form own2
    have OWN2 := hid own2
    have G2 := hid (hgr w ((Gr.refl w).al _) (Nat.le_refl _))
    clear own2 hgr
    go_wp2_with fail
    go_ret
    exact ⟨A2, c2, rfl, by simpa using OWN2.out, G2.out⟩
  · have hts : ts = [] := List.eq_nil_of_length_eq_zero (by omega)
    subst hts
    go_enter Try.func60, Try.ntmps60
    go_wp2_with (at_builtin; refine wpList_append_zero rfl _ _ 39 rfl 111 i0 Try.underlying39 hi (some ⟨w.heap.size, 0, none⟩) 0 0 (Nat.le_refl _) (some ⟨g, 0, none⟩) 0 c rfl rfl rfl ?_)
    go_wp2_with fail
    go_ret
    exact ⟨some ⟨w.heap.size, 0, none⟩, 0, rfl, own_emptyTg w, (Gr.refl w).al _⟩
def GivesB (w w' : World) (e : Ending) (p q : Int) (zs : List (Int × Int)) (N : Int) (kb : Bool) (u v : Int) (ss : List Tgv) (C : Int) : Prop := ∃ A c B d, e = .returned (.tuple #[bnc p q A zs.length c N kb u v B ss.length d, .int .i64 C]) ∧ w'.ownsRow w.heap.size 34 2 (.slice A zs.length c) zs.length (flatL zs) ∧ w'.ownsRow w.heap.size 111 5 (.slice B ss.length d) ss.length (flTg ss) ∧ Gr w w'
theorem own_nilTg (w : World) (base : Nat) : w.ownsRow base 111 5 (.slice none 0 0) 0 (flTg []) := World.ownsRow_nil _ _ _ _
theorem givesB0 {w w' : World} {e : Ending} {C : Int} (h : e = .returned (.tuple #[bnc 0 0 none 0 0 0 false 0 0 none 0 0, .int .i64 C]) ∧ Gr w w') : GivesB w w' e 0 0 [] 0 false 0 0 [] C := ⟨none, 0, none, 0, h.1, own_nilF _ _, own_nilTg _ _, h.2⟩
set_option maxRecDepth 20000 in
set_option maxHeartbeats 400000 in
theorem iCB_0 (a b : Int) (A : Option Addr) (c : Nat) (xs : List (Int × Int)) (N : Int) (kb : Bool) (u v : Int) (B : Option Addr) (d : Nat) (ts : List Tgv) (E : Option Addr) (m e : Nat) (w : World) (X : Hid (RdF w A xs)) (T : Hid (RdTg w B ts)) (hn : xs.length ≤ 1048576) (hm : ts.length ≤ 1048576) (hr : benB a b xs N u v ts = false) :
    Calls Try.prog 15 #[bnc a b A xs.length c N kb u v B ts.length d, .slice E m e] w fun e w' => e = .returned (.tuple #[bnc 0 0 none 0 0 0 false 0 0 none 0 0, .int .i64 1]) ∧ Gr w w' := by
  have HR := hid hr; clear hr
  go_enter Try.func15, Try.ntmps15
  go_wp2_with fail
  refine (iVB a b A c xs N kb u v B d ts false _ (hid (X.out.keep (((Gr.refl w).al _).al _))) (hid (T.out.keep (((Gr.refl w).al _).al _))) hn hm HR.out).mono ?_
  rintro e w1 ⟨rfl, hg1⟩
  obtain ⟨x1_0, x1_1, hz1, g1⟩ := alloc2 hg1
  obtain ⟨_, _, _, _, _, _, _, _⟩ := cells8 x1_0
  have _ := fz x1_0
  have _ := ltb x1_0
  obtain ⟨_, _, _, _, _, _, _, _⟩ := cells8 x1_1
  have _ := fz x1_1
  have _ := ltb x1_1
  have X1_0 := hid x1_0; clear x1_0
  have X1_1 := hid x1_1; clear x1_1
  have G1 := hid (g1)
  clear hg1 g1
  go_wp2
  refine bodyPost_ret (v := .tuple #[bnc 0 0 none 0 0 0 false 0 0 none 0 0, .int .i64 1]) (by simp [results, Try.results15, go_sem, *]) rfl ⟨rfl, ?_⟩
  exact ((((((((G1.out).setCell (by simp <;> omega) _).setCell (by simp <;> omega) _).setCell (by simp <;> omega) _).setCell (by simp <;> omega) _).setCell (by simp <;> omega) _).setCell (by simp <;> omega) _).setCell (by simp <;> omega) _).setCell (by simp <;> omega) _
set_option maxRecDepth 20000 in
set_option maxHeartbeats 1000000 in
theorem iCB_1 (a b : Int) (A : Option Addr) (c : Nat) (xs : List (Int × Int)) (N : Int) (kb : Bool) (u v : Int) (B : Option Addr) (d : Nat) (ts : List Tgv) (E : Option Addr) (m e : Nat) (p q C : Int) (zs : List (Int × Int)) (w : World) (X : Hid (RdF w A xs)) (T : Hid (RdTg w B ts)) (hn : xs.length ≤ 1048576) (hm : ts.length ≤ 1048576) (hr : benB a b xs N u v ts = true) (hC : C ≠ 0)
    (hc : ∀ w', Gr w w' → Calls Try.prog 59 #[scl a b A xs.length c, .slice E m e] w' fun x w'' => GivesS w' w'' x p q zs C) :
    Calls Try.prog 15 #[bnc a b A xs.length c N kb u v B ts.length d, .slice E m e] w fun e w' => e = .returned (.tuple #[bnc 0 0 none 0 0 0 false 0 0 none 0 0, .int .i64 C]) ∧ Gr w w' := by
  have HR := hid hr; have HC := hid hc; clear hr hc
  have c1 : ((C : Int) == 0) = false := by simpa using hC
  have c2 : ((C : Int) != 0) = true := by simpa using hC
  go_enter Try.func15, Try.ntmps15
  go_wp2_with fail
  refine (iVB a b A c xs N kb u v B d ts true _ (hid (X.out.keep (((Gr.refl w).al _).al _))) (hid (T.out.keep (((Gr.refl w).al _).al _))) hn hm HR.out).mono ?_
  rintro e w1 ⟨rfl, hg1⟩
  obtain ⟨x1_0, x1_1, hz1, g1⟩ := alloc2 hg1
  obtain ⟨_, _, _, _, _, _, _, _⟩ := cells8 x1_0
  have _ := fz x1_0
  have _ := ltb x1_0
  obtain ⟨_, _, _, _, _, _, _, _⟩ := cells8 x1_1
  have _ := fz x1_1
  have _ := ltb x1_1
  have X1_0 := hid x1_0; clear x1_0
  have X1_1 := hid x1_1; clear x1_1
  have G1 := hid (g1)
  clear hg1 g1
  go_wp2_with fail
  refine (HC.out _ G1.out).mono ?_
  rintro x w2 ⟨A3, c3, rfl, _, hg2⟩
  have y2 := ((Gr.refl w2).al (.cells #[.int .i64 p, .int .i64 q, .slice A3 zs.length c3] 37)).keep (hg2.keep X1_1.out)
  obtain ⟨_, _, _, _, _, _, _, _⟩ := cells8 y2
  have _ := fz y2
  have _ := ltb y2
  have G2 := hid ((G1.out.trans hg2).al (.cells #[.int .i64 p, .int .i64 q, .slice A3 zs.length c3] 37))
  clear hg2 y2
  go_wp2_with fail
  refine bodyPost_ret (v := .tuple #[bnc 0 0 none 0 0 0 false 0 0 none 0 0, .int .i64 C]) (by simp [results, Try.results15, go_sem, *]) rfl ⟨rfl, ?_⟩
  exact ((((((((G2.out.setCell (by simp <;> omega) _).setCell (by simp <;> omega) _).setCell (by simp <;> omega) _).setCell (by simp <;> omega) _).setCell (by simp <;> omega) _).setCell (by simp <;> omega) _).setCell (by simp <;> omega) _).setCell (by simp <;> omega) _)
end Go.Proofs.Ytfpcbgfcachlgaa
namespace Go.Proofs.Ytfpcbgfcachlgaa
open Go.RowKit Go.Sort
theorem boxSet {w : World} {b : Nat} {cs : Array Value} {T : TypeId} (h : w.heap[b]? = some (.cells cs T)) (i : Nat) (v : Value) : (w.setCell ⟨b, i, none⟩ v).heap[b]? = some (.cells (cs.setIfInBounds i v) T) := by
  simp [World.setCell, Array.getElem?_modify, h]
theorem box4 {w : World} {b : Nat} {a a' c c' d d' e e' N k u v : Value} {T : TypeId} (h : w.heap[b]? = some (.cells #[a, c, d, N, k, u, v, e] T)) : ((((w.setCell ⟨b, 0, none⟩ a').setCell ⟨b, 1, none⟩ c').setCell ⟨b, 2, none⟩ d').setCell ⟨b, 7, none⟩ e').heap[b]? = some (.cells #[a', c', d', N, k, u, v, e'] T) := by
  have := boxSet (boxSet (boxSet (boxSet h 0 a') 1 c') 2 d') 7 e'
  simpa using this
theorem low4 {w : World} {base b : Nat} {E : TypeId} {sz n : Nat} {x : Value} {xs : List Value} (h : w.ownsRow base E sz x n xs) (hb : b < base) (a c d e : Value) : ((((w.setCell ⟨b, 0, none⟩ a).setCell ⟨b, 1, none⟩ c).setCell ⟨b, 2, none⟩ d).setCell ⟨b, 7, none⟩ e).ownsRow base E sz x n xs :=
  own_low (own_low (own_low (own_low h hb _) hb _) hb _) hb _
theorem gr4 {w0 w : World} {b : Nat} (h : Gr w0 w) (hb : w0.heap.size ≤ b) (a c d e : Value) : Gr w0 ((((w.setCell ⟨b, 0, none⟩ a).setCell ⟨b, 1, none⟩ c).setCell ⟨b, 2, none⟩ d).setCell ⟨b, 7, none⟩ e) :=
  (((h.setCell hb _).setCell hb _).setCell hb _).setCell hb _
theorem keep4 {w : World} {b j : Nat} {o : Obj} (h : w.heap[j]? = some o) (hj : b ≠ j) (a c d e : Value) : ((((w.setCell ⟨b, 0, none⟩ a).setCell ⟨b, 1, none⟩ c).setCell ⟨b, 2, none⟩ d).setCell ⟨b, 7, none⟩ e).heap[j]? = some o := by
  simp [World.setCell, Array.getElem?_modify, h, hj]
theorem low8 {w : World} {base b : Nat} {E : TypeId} {sz n : Nat} {x : Value} {xs : List Value} (h : w.ownsRow base E sz x n xs) (hb : b < base) (a0 a1 a2 a3 a4 a5 a6 a7 : Value) : ((((((((w.setCell ⟨b, 0, none⟩ a0).setCell ⟨b, 1, none⟩ a1).setCell ⟨b, 2, none⟩ a2).setCell ⟨b, 3, none⟩ a3).setCell ⟨b, 4, none⟩ a4).setCell ⟨b, 5, none⟩ a5).setCell ⟨b, 6, none⟩ a6).setCell ⟨b, 7, none⟩ a7).ownsRow base E sz x n xs :=
  own_low (own_low (own_low (own_low (own_low (own_low (own_low (own_low h hb _) hb _) hb _) hb _) hb _) hb _) hb _) hb _
theorem gr8 {w0 w : World} {b : Nat} (h : Gr w0 w) (hb : w0.heap.size ≤ b) (a0 a1 a2 a3 a4 a5 a6 a7 : Value) : Gr w0 ((((((((w.setCell ⟨b, 0, none⟩ a0).setCell ⟨b, 1, none⟩ a1).setCell ⟨b, 2, none⟩ a2).setCell ⟨b, 3, none⟩ a3).setCell ⟨b, 4, none⟩ a4).setCell ⟨b, 5, none⟩ a5).setCell ⟨b, 6, none⟩ a6).setCell ⟨b, 7, none⟩ a7) :=
  (((((((h.setCell hb _).setCell hb _).setCell hb _).setCell hb _).setCell hb _).setCell hb _).setCell hb _).setCell hb _
set_option maxRecDepth 20000 in
set_option maxHeartbeats 1000000 in
theorem iCB_2 (a b : Int) (A : Option Addr) (c : Nat) (xs : List (Int × Int)) (N : Int) (kb : Bool) (u v : Int) (g d : Nat) (ts : List Tgv) (E : Option Addr) (m e : Nat) (p q : Int) (zs : List (Int × Int)) (w : World) (X : Hid (RdF w A xs)) (T : Hid (RdTg w (some ⟨g, 0, none⟩) ts)) (hn : xs.length ≤ 1048576) (hm : ts.length ≤ 1048576) (hr : benB a b xs N u v ts = true)
    (hc : ∀ w', Gr w w' → Calls Try.prog 59 #[scl a b A xs.length c, .slice E m e] w' fun x w'' => GivesS w' w'' x p q zs 0) :
    Calls Try.prog 15 #[bnc a b A xs.length c N kb u v (some ⟨g, 0, none⟩) ts.length d, .slice E m e] w fun e w' => GivesB w w' e p q zs N kb u v ts 0 := by
  have HR := hid hr; have HC := hid hc; clear hr hc
  go_enter Try.func15, Try.ntmps15
  go_wp2_with fail
  refine (iVB a b A c xs N kb u v _ d ts true _ (hid (X.out.keep (((Gr.refl w).al _).al _))) (hid (T.out.keep (((Gr.refl w).al _).al _))) hn hm HR.out).mono ?_
  rintro e w1 ⟨rfl, hg1⟩
  obtain ⟨x1_0, x1_1, hz1, g1⟩ := alloc2 hg1
  obtain ⟨_, _, _, _, _, _, _, _⟩ := cells8 x1_0
  have _ := fz x1_0
  have _ := ltb x1_0
  obtain ⟨_, _, _, _, _, _, _, _⟩ := cells8 x1_1
  have _ := fz x1_1
  have _ := ltb x1_1
  have X1_0 := hid x1_0; clear x1_0
  have X1_1 := hid x1_1; clear x1_1
  have G1 := hid (g1)
  clear hg1 g1
  go_wp2_with fail
  refine (HC.out _ G1.out).mono ?_
  rintro x w2 ⟨A3, c3, rfl, own2, hg2⟩
  obtain ⟨W, hW⟩ : ∃ W, W = w2.alloc (.cells #[.int .i64 p, .int .i64 q, .slice A3 zs.length c3] 37) := ⟨_, rfl⟩
  have gal := (Gr.refl w2).al (.cells #[.int .i64 p, .int .i64 q, .slice A3 zs.length c3] 37)
  have xk := (alloc1 (w := w2) (A := .cells #[.int .i64 p, .int .i64 q, .slice A3 zs.length c3] 37) (Gr.refl _)).1
  rw [← hW] at gal xk
  have Y0 := hid (gal.keep (hg2.keep X1_0.out)); have Y1 := hid (gal.keep (hg2.keep X1_1.out)); have XK := hid xk; have OWN := hid (own_gr own2 gal)
  have G2 := hid ((G1.out.trans hg2).trans gal); have GT := hid (hg2.trans gal)
  have HB := hid (show w.heap.size + 1 < w1.heap.size from ltb X1_1.out)
  clear hg2 own2 gal xk
  go_wp2_with fail
  rw [← hW]
  obtain ⟨_, _, _, _, _, _, _, _⟩ := cells8 Y0.out
  obtain ⟨_, _, _⟩ := cells3 XK.out
  have _ := fz Y0.out
  have _ := ltb Y0.out
  clear hW
  go_region_with (go_at_call 60; refine (iCloneTg g d ts W.drew (hid (T.out.keep (G2.out.trans (Gr.drew W)))) hm).mono ?_; rintro x w3 ⟨A4, c4, rfl, own3, hg3⟩; have OWN3 := hid own3; have GD := hid ((Gr.drew W).trans hg3); obtain ⟨_, _, _, _, _, _, _, _⟩ := cells8 (GD.out.keep Y0.out); obtain ⟨_, _, _⟩ := cells3 (GD.out.keep XK.out); have _ := fz (GD.out.keep Y0.out); have _ := ltb (GD.out.keep Y0.out); clear own3 hg3)
  all_goals (
    have Z0 := hid (box4 (a' := .int .i64 p) (c' := .int .i64 q) (d' := .slice A3 zs.length c3) (e' := .slice A4 ts.length c4) (GD.out.keep Y0.out))
    have Z1 := hid (keep4 (b := w.heap.size) (GD.out.keep Y1.out) (by omega) (.int .i64 p) (.int .i64 q) (.slice A3 zs.length c3) (.slice A4 ts.length c4))
    have O1 := hid (low4 (own_gr OWN.out GD.out) (show w.heap.size < w1.heap.size by have := HB.out; omega) (.int .i64 p) (.int .i64 q) (.slice A3 zs.length c3) (.slice A4 ts.length c4))
    have O2 := hid (low4 OWN3.out (show w.heap.size < W.heap.size from ltb Y0.out) (.int .i64 p) (.int .i64 q) (.slice A3 zs.length c3) (.slice A4 ts.length c4))
    have HW := hid (show w.heap.size + 1 < W.drew.heap.size from ltb Y1.out)
    have G4 := hid (gr4 (G2.out.trans GD.out) (Nat.le_refl w.heap.size) (.int .i64 p) (.int .i64 q) (.slice A3 zs.length c3) (.slice A4 ts.length c4))
    generalize ((((w3.setCell ⟨w.heap.size, 0, none⟩ (.int .i64 p)).setCell ⟨w.heap.size, 1, none⟩ (.int .i64 q)).setCell ⟨w.heap.size, 2, none⟩ (.slice A3 zs.length c3)).setCell ⟨w.heap.size, 7, none⟩ (.slice A4 ts.length c4)) = w4 at Z0 Z1 O1 O2 G4 ⊢
    clear OWN OWN3 GD Y0 Y1 XK
    obtain ⟨_, _, _, _, _, _, _, _⟩ := cells8 Z0.out
    obtain ⟨_, _, _, _, _, _, _, _⟩ := cells8 Z1.out
    have _ := fz Z0.out
    have _ := ltb Z0.out
    have _ := fz Z1.out
    have _ := ltb Z1.out
    clear hn hm HR HC X T X1_0 X1_1 G1 GT G2)
  all_goals (
    go_wp2_with fail
    refine bodyPost_ret (v := .tuple #[bnc p q A3 zs.length c3 N kb u v A4 ts.length c4, .int .i64 0]) (by simp [results, Try.results15, go_sem, *]) rfl ⟨A3, c3, A4, c4, rfl, ?_, ?_, ?_⟩
    · exact own_base (low8 O1.out HB.out _ _ _ _ _ _ _ _) (by have := HB.out; omega)
    · exact own_base (low8 O2.out HW.out _ _ _ _ _ _ _ _) (by have := HW.out; omega)
    · exact gr8 G4.out (by omega) _ _ _ _ _ _ _ _)
end Go.Proofs.Ytfpcbgfcachlgaa
namespace Go.Proofs.Ytfpcbgfcachlgaa
open Go.RowKit Go.Sort

section
variable {P : Program}
/-- As wpList_append_gr, where there may be nothing new. -/
theorem wpList_append_grz {w : World} {ops : Array Oper} {rest : List Oper} {o : Oper} {a : Act} {Q : Exit → Act → World → Prop} (hgd : o.guard = none) (s x : Operand) (t : TypeId)
    (ho : o.op = .call { callee := .builtin .append, args := #[s, x], argTypes := #[t, t] })
    (base : Nat) (e : TypeId) (i : TypeInfo) (z : Value) (size bytes : Nat) (ht : P.underlying t = some (.slice e)) (hi : P.info? e = some i) (hz : i.zero = some z)
    (hsize : i.size = size) (hby : i.bytes = bytes) (hzs : z.cells.size = size) (hsz : 0 < size)
    (A : Option Addr) (n c0 : Nat) (xs : List Value) (hs : a.eval s = .slice A n c0) (hown : w.ownsRow base e size (.slice A n c0) n xs)
    (ad : Addr) (m c : Nat) (news : List Value) (hx : a.eval x = .slice (some ad) m c) (hl : news.length = m * size) (hnews : ∀ j u, news[j]? = some u → w.cell? (ad.add j) = some u) (h1 : ∀ u ∈ news, u.oneCell' = true)
    (h63 : n + m ≤ maxLen) (hbytes : (n + m) * bytes ≤ 140737488355328) (hbase : base ≤ w.heap.size)
    (h : ∀ A' c' w', w'.ownsRow base e size (.slice A' (n + m) c') (n + m) (xs ++ news) → (∀ W0, Gr W0 w → W0.heap.size ≤ base → Gr W0 w') → wpList P ops Q rest (a.put o.dst (.slice A' (n + m) c')) w') :
    wpList P ops Q (o :: rest) a w := by
  by_cases hm : m = 0
  · subst hm
    obtain rfl : news = [] := List.eq_nil_of_length_eq_zero (by simpa using hl)
    exact wpList_append_zero hgd s x t ho e i ht hi A n c0 (own_le hown) (some ad) 0 c rfl hs hx (h A c0 w (by simpa using hown) (fun W0 g _ => g))
  · refine wpList_append_gr hgd s x t ho base e i z size bytes ht hi hz hsize hby hzs hsz _ n xs hs hown ad m c news hx hl hnews h1 (by omega) h63 hbytes hbase ?_
    intro v' w' own _ _ hgr
    obtain ⟨A', c', rfl⟩ := own_form own
    exact h A' c' w' own hgr
end
theorem box3 {w : World} {b : Nat} {a a' c c' d d' e N k u v : Value} {T : TypeId} (h : w.heap[b]? = some (.cells #[a, c, d, N, k, u, v, e] T)) : (((w.setCell ⟨b, 0, none⟩ a').setCell ⟨b, 1, none⟩ c').setCell ⟨b, 2, none⟩ d').heap[b]? = some (.cells #[a', c', d', N, k, u, v, e] T) := by
  have := boxSet (boxSet (boxSet h 0 a') 1 c') 2 d'
  simpa using this
theorem keep3 {w : World} {b j : Nat} {o : Obj} (h : w.heap[j]? = some o) (hj : b ≠ j) (a c d : Value) : (((w.setCell ⟨b, 0, none⟩ a).setCell ⟨b, 1, none⟩ c).setCell ⟨b, 2, none⟩ d).heap[j]? = some o := by
  simp [World.setCell, Array.getElem?_modify, h, hj]
theorem low3 {w : World} {base b : Nat} {E : TypeId} {sz n : Nat} {x : Value} {xs : List Value} (h : w.ownsRow base E sz x n xs) (hb : b < base) (a c d : Value) : (((w.setCell ⟨b, 0, none⟩ a).setCell ⟨b, 1, none⟩ c).setCell ⟨b, 2, none⟩ d).ownsRow base E sz x n xs :=
  own_low (own_low (own_low h hb _) hb _) hb _
theorem gr3 {w0 w : World} {b : Nat} (h : Gr w0 w) (hb : w0.heap.size ≤ b) (a c d : Value) : Gr w0 (((w.setCell ⟨b, 0, none⟩ a).setCell ⟨b, 1, none⟩ c).setCell ⟨b, 2, none⟩ d) :=
  ((h.setCell hb _).setCell hb _).setCell hb _
set_option maxRecDepth 20000 in
set_option maxHeartbeats 400000 in
theorem sCB_0 (a b : Int) (A : Option Addr) (c : Nat) (xs : List (Int × Int)) (N : Int) (kb : Bool) (u v : Int) (g d : Nat) (ts : List Tgv) (E : Option Addr) (m e : Nat) (w : World) (X : Hid (RdF w A xs)) (T : Hid (RdTg w (some ⟨g, 0, none⟩) ts)) (hn : xs.length ≤ 1048576) (hm : ts.length ≤ 1048576) (hz : ∀ x ∈ ts, x.nm.size ≤ 9223372036854775807) (hr : benB a b xs N u v ts = false) :
    Calls Try.prog 12 #[bnc a b A xs.length c N kb u v (some ⟨g, 0, none⟩) ts.length d, .slice E m e] w fun e w' => e = .returned (.tuple #[bnc 0 0 none 0 0 0 false 0 0 none 0 0, .int .i64 1]) ∧ Gr w w' := by
  have HV := hid fun (w : World) (j : Nat) (XJ : Hid (w.heap[j]? = some (.cells (bncA a b A xs.length c N kb u v (some ⟨g, 0, none⟩) ts.length d) 41))) (X : Hid (RdF w A xs)) (T : Hid (RdTg w (some ⟨g, 0, none⟩) ts)) => sVB a b A c j xs N kb u v g d ts false w XJ X T hn hm hz hr
  clear hr hz
  go_enter Try.func12, Try.ntmps12
  go_wp2_with fail
  refine (HV.out _ _ (hid (alloc2 (Gr.refl _)).1) (hid (X.out.keep (((Gr.refl w).al _).al _))) (hid (T.out.keep (((Gr.refl w).al _).al _)))).mono ?_
  rintro e w1 ⟨rfl, hg1⟩
  obtain ⟨x1_0, x1_1, hz1, g1⟩ := alloc2 hg1
  obtain ⟨_, _, _, _, _, _, _, _⟩ := cells8 x1_0
  have _ := fz x1_0
  have _ := ltb x1_0
  obtain ⟨_, _, _, _, _, _, _, _⟩ := cells8 x1_1
  have _ := fz x1_1
  have _ := ltb x1_1
  have X1_0 := hid x1_0; clear x1_0
  have X1_1 := hid x1_1; clear x1_1
  have G1 := hid (g1)
  clear hg1 g1
  go_wp2
  refine bodyPost_ret (v := .tuple #[bnc 0 0 none 0 0 0 false 0 0 none 0 0, .int .i64 1]) (by simp [results, Try.results12, go_sem, *]) rfl ⟨rfl, ?_⟩
  exact ((((((((G1.out).setCell (by simp <;> omega) _).setCell (by simp <;> omega) _).setCell (by simp <;> omega) _).setCell (by simp <;> omega) _).setCell (by simp <;> omega) _).setCell (by simp <;> omega) _).setCell (by simp <;> omega) _).setCell (by simp <;> omega) _
set_option maxRecDepth 20000 in
set_option maxHeartbeats 1000000 in
theorem sCB_1 (a b : Int) (A : Option Addr) (c : Nat) (xs : List (Int × Int)) (N : Int) (kb : Bool) (u v : Int) (g d : Nat) (ts : List Tgv) (E : Option Addr) (m e : Nat) (p q C : Int) (zs : List (Int × Int)) (w : World) (X : Hid (RdF w A xs)) (T : Hid (RdTg w (some ⟨g, 0, none⟩) ts)) (hn : xs.length ≤ 1048576) (hm : ts.length ≤ 1048576) (hz : ∀ x ∈ ts, x.nm.size ≤ 9223372036854775807) (hr : benB a b xs N u v ts = true) (hC : C ≠ 0)
    (hc : ∀ w', Gr w w' → Calls Try.prog 53 #[scl a b A xs.length c, .slice E m e] w' fun x w'' => GivesS w' w'' x p q zs C) :
    Calls Try.prog 12 #[bnc a b A xs.length c N kb u v (some ⟨g, 0, none⟩) ts.length d, .slice E m e] w fun e w' => e = .returned (.tuple #[bnc 0 0 none 0 0 0 false 0 0 none 0 0, .int .i64 C]) ∧ Gr w w' := by
  have HV := hid fun (w : World) (j : Nat) (XJ : Hid (w.heap[j]? = some (.cells (bncA a b A xs.length c N kb u v (some ⟨g, 0, none⟩) ts.length d) 41))) (X : Hid (RdF w A xs)) (T : Hid (RdTg w (some ⟨g, 0, none⟩) ts)) => sVB a b A c j xs N kb u v g d ts true w XJ X T hn hm hz hr
  have HC := hid hc; clear hc hr hz
  have c1 : ((C : Int) == 0) = false := by simpa using hC
  have c2 : ((C : Int) != 0) = true := by simpa using hC
  go_enter Try.func12, Try.ntmps12
  go_wp2_with fail
  refine (HV.out _ _ (hid (alloc2 (Gr.refl _)).1) (hid (X.out.keep (((Gr.refl w).al _).al _))) (hid (T.out.keep (((Gr.refl w).al _).al _)))).mono ?_
  rintro e w1 ⟨rfl, hg1⟩
  obtain ⟨x1_0, x1_1, hz1, g1⟩ := alloc2 hg1
  obtain ⟨_, _, _, _, _, _, _, _⟩ := cells8 x1_0
  have _ := fz x1_0
  have _ := ltb x1_0
  obtain ⟨_, _, _, _, _, _, _, _⟩ := cells8 x1_1
  have _ := fz x1_1
  have _ := ltb x1_1
  have X1_0 := hid x1_0; clear x1_0
  have X1_1 := hid x1_1; clear x1_1
  have G1 := hid (g1)
  clear hg1 g1
  go_wp2_with fail
  refine (HC.out _ G1.out).mono ?_
  rintro x w2 ⟨A3, c3, rfl, _, hg2⟩
  have y2 := ((Gr.refl w2).al (.cells #[.int .i64 p, .int .i64 q, .slice A3 zs.length c3] 37)).keep (hg2.keep X1_1.out)
  obtain ⟨_, _, _, _, _, _, _, _⟩ := cells8 y2
  have _ := fz y2
  have _ := ltb y2
  have G2 := hid ((G1.out.trans hg2).al (.cells #[.int .i64 p, .int .i64 q, .slice A3 zs.length c3] 37))
  clear hg2 y2
  go_wp2_with fail
  refine bodyPost_ret (v := .tuple #[bnc 0 0 none 0 0 0 false 0 0 none 0 0, .int .i64 C]) (by simp [results, Try.results12, go_sem, *]) rfl ⟨rfl, ?_⟩
  exact ((((((((G2.out.setCell (by simp <;> omega) _).setCell (by simp <;> omega) _).setCell (by simp <;> omega) _).setCell (by simp <;> omega) _).setCell (by simp <;> omega) _).setCell (by simp <;> omega) _).setCell (by simp <;> omega) _).setCell (by simp <;> omega) _)
set_option maxRecDepth 20000 in
set_option maxHeartbeats 1000000 in
theorem sCB_2 (a b : Int) (A : Option Addr) (c : Nat) (xs : List (Int × Int)) (N : Int) (kb : Bool) (u v : Int) (g d : Nat) (ts : List Tgv) (E : Option Addr) (m e : Nat) (p q : Int) (zs : List (Int × Int)) (w : World) (X : Hid (RdF w A xs)) (T : Hid (RdTg w (some ⟨g, 0, none⟩) ts)) (hn : xs.length ≤ 1048576) (hm : ts.length ≤ 1048576) (hz : ∀ x ∈ ts, x.nm.size ≤ 9223372036854775807) (hr : benB a b xs N u v ts = true)
    (hc : ∀ w', Gr w w' → Calls Try.prog 53 #[scl a b A xs.length c, .slice E m e] w' fun x w'' => GivesS w' w'' x p q zs 0) :
    Calls Try.prog 12 #[bnc a b A xs.length c N kb u v (some ⟨g, 0, none⟩) ts.length d, .slice E m e] w fun e w' => GivesB w w' e p q zs N kb u v ts 0 := by
  have HV := hid fun (w : World) (j : Nat) (XJ : Hid (w.heap[j]? = some (.cells (bncA a b A xs.length c N kb u v (some ⟨g, 0, none⟩) ts.length d) 41))) (X : Hid (RdF w A xs)) (T : Hid (RdTg w (some ⟨g, 0, none⟩) ts)) => sVB a b A c j xs N kb u v g d ts true w XJ X T hn hm hz hr
  have HC := hid hc; clear hc hr hz
  go_enter Try.func12, Try.ntmps12
  go_wp2_with fail
  refine (HV.out _ _ (hid (alloc2 (Gr.refl _)).1) (hid (X.out.keep (((Gr.refl w).al _).al _))) (hid (T.out.keep (((Gr.refl w).al _).al _)))).mono ?_
  rintro e w1 ⟨rfl, hg1⟩
  obtain ⟨x1_0, x1_1, hz1, g1⟩ := alloc2 hg1
  obtain ⟨_, _, _, _, _, _, _, _⟩ := cells8 x1_0
  have _ := fz x1_0
  have _ := ltb x1_0
  obtain ⟨_, _, _, _, _, _, _, _⟩ := cells8 x1_1
  have _ := fz x1_1
  have _ := ltb x1_1
  have X1_0 := hid x1_0; clear x1_0
  have X1_1 := hid x1_1; clear x1_1
  have G1 := hid (g1)
  clear hg1 g1
  go_wp2_with fail
  refine (HC.out _ G1.out).mono ?_
  rintro x w2 ⟨A3, c3, rfl, own2, hg2⟩
  have gal := (Gr.refl w2).al (.cells #[.int .i64 p, .int .i64 q, .slice A3 zs.length c3] 37)
  have y0 := gal.keep (hg2.keep X1_0.out)
  have y1 := gal.keep (hg2.keep X1_1.out)
  have HB := hid (show w.heap.size + 1 < w1.heap.size from ltb X1_1.out)
  have HS := hid (show w.heap.size + 1 < w2.heap.size from ltb (hg2.keep X1_1.out))
  obtain ⟨W4, hW4⟩ : ∃ W4, W4 = ((((w2.alloc (.cells #[.int .i64 p, .int .i64 q, .slice A3 zs.length c3] 37)).setCell ⟨w.heap.size, 0, none⟩ (.int .i64 p)).setCell ⟨w.heap.size, 1, none⟩ (.int .i64 q)).setCell ⟨w.heap.size, 2, none⟩ (.slice A3 zs.length c3)) := ⟨_, rfl⟩
  have hs4 : W4.heap.size = w2.heap.size + 1 := by rw [hW4]; simp only [World.setCell, Array.size_modify]; exact Array.size_push _
  have Z0 := hid (show W4.heap[w.heap.size]? = _ from hW4 ▸ box3 (a' := .int .i64 p) (c' := .int .i64 q) (d' := .slice A3 zs.length c3) y0)
  have Z1 := hid (show W4.heap[w.heap.size + 1]? = _ from hW4 ▸ keep3 (b := w.heap.size) y1 (by omega) (.int .i64 p) (.int .i64 q) (.slice A3 zs.length c3))
  have OWN := hid (show W4.ownsRow w1.heap.size 34 2 (.slice A3 zs.length c3) zs.length (flatL zs) from hW4 ▸ low3 (own_gr own2 gal) (show w.heap.size < w1.heap.size by have := HB.out; omega) (.int .i64 p) (.int .i64 q) (.slice A3 zs.length c3))
  have G4 := hid (show Gr w W4 from hW4 ▸ gr3 ((G1.out.trans hg2).trans gal) (Nat.le_refl w.heap.size) (.int .i64 p) (.int .i64 q) (.slice A3 zs.length c3))
  have GA := hid ((Gr.refl W4).al (.cells #[] 111))
  have OE := hid (show (W4.alloc (.cells #[] 111)).ownsRow (w2.heap.size + 1) 111 5 (.slice (some ⟨w2.heap.size + 1, 0, none⟩) 0 0) 0 [] from hs4 ▸ own_emptyTg W4)
  obtain ⟨_, _, _, _, _, _, _, _⟩ := cells8 y0
  have _ := fz y0
  have _ := ltb y0
  have NEW := hid (tg_news (T.out.keep (G4.out.trans GA.out)))
  have Z05 := hid (GA.out.keep Z0.out); have Z15 := hid (GA.out.keep Z1.out)
  have HS4 := hid hs4
  clear hg2 own2 gal y0 y1 hs4
  obtain ⟨i0, hi, hz0, hz1, hz2⟩ : ∃ i, Try.prog.info? 111 = some i ∧ i.zero = some (vTg zTg) ∧ i.size = 5 ∧ i.bytes = 48 := ⟨_, rfl, by kernel_rfl, rfl, rfl⟩
  subst hW4
  obtain ⟨_, _, _, _, _, _, _, _⟩ := cells8 Z05.out
  have _ := fz Z05.out
  have _ := ltb Z05.out
  · go_wp2_with (at_builtin; refine wpList_append_grz rfl _ _ 39 rfl (w2.heap.size + 1) 111 i0 (vTg zTg) 5 48 Try.underlying39 hi hz0 hz1 hz2 rfl (by decide) _ 0 _ [] rfl OE.out ⟨g, 0, none⟩ ts.length d (flTg ts) rfl (by rw [flTg_len]) NEW.out (flTg_one ts) (by unfold maxLen; omega) (by omega) (by simp) ?_)
    intro A6 c6 w6 own6 hgr
    have GR := hid (hgr _ GA.out (Nat.le_of_eq HS4.out))
    have OWN6 := hid own6
    clear own6 hgr
    obtain ⟨_, _, _, _, _, _, _, _⟩ := cells8 (GR.out.keep Z0.out)
    have _ := fz (GR.out.keep Z0.out)
    have _ := ltb (GR.out.keep Z0.out)
    obtain ⟨_, _, _, _, _, _, _, _⟩ := cells8 (GR.out.keep Z1.out)
    have _ := fz (GR.out.keep Z1.out)
    have _ := ltb (GR.out.keep Z1.out)
    have OWN7 := hid (show w6.ownsRow (w2.heap.size + 1) 111 5 (.slice A6 ts.length c6) ts.length (flTg ts) by simpa using OWN6.out)
    clear OWN6 NEW OE
    go_wp2_with fail
    refine bodyPost_ret (v := .tuple #[bnc p q A3 zs.length c3 N kb u v (A6) ts.length c6, .int .i64 0]) (by simp [results, Try.results12, go_sem, *]) rfl ⟨A3, c3, A6, c6, rfl, ?_, ?_, ?_⟩
    · exact own_base (low8 (own_low (own_gr OWN.out GR.out) (show w.heap.size < w1.heap.size by have := HB.out; omega) _) HB.out _ _ _ _ _ _ _ _) (by have := HB.out; omega)
    · exact own_base (low8 (own_low OWN7.out (show w.heap.size < w2.heap.size + 1 by have := HS.out; omega) _) (show w.heap.size + 1 < w2.heap.size + 1 by have := HS.out; omega) _ _ _ _ _ _ _ _) (by have := HS.out; omega)
    · exact gr8 (((G4.out.trans GR.out).setCell (Nat.le_refl _) _)) (by omega) _ _ _ _ _ _ _ _
theorem bothCorrectBench (a b : Int) (xs : List (Int × Int)) (N : Int) (kb : Bool) (u v : Int) (ts : List Tgv) (ys : List (Int × Int)) (hn : xs.length ≤ 1048576) (hm : ts.length ≤ 1048576) (hy : ys.length ≤ 1048576) (hz : ∀ x ∈ ts, x.nm.size ≤ 9223372036854775807) :
    ∃ (p q : Int) (zs : List (Int × Int)) (N' : Int) (kb' : Bool) (u' v' : Int) (ss : List Tgv) (C : Int), zs.length ≤ 1048576 ∧ ss.length ≤ 1048576 ∧
    (∀ (A E : Option Addr) (c g d e : Nat) (w : World), Hid (RdF w A xs) → Hid (RdTg w (some ⟨g, 0, none⟩) ts) → Hid (RdF w E ys) → Calls Try.prog 12 #[bnc a b A xs.length c N kb u v (some ⟨g, 0, none⟩) ts.length d, .slice E ys.length e] w fun x w' => GivesB w w' x p q zs N' kb' u' v' ss C) ∧
    (∀ (A E : Option Addr) (c g d e : Nat) (w : World), Hid (RdF w A xs) → Hid (RdTg w (some ⟨g, 0, none⟩) ts) → Hid (RdF w E ys) → Calls Try.prog 15 #[bnc a b A xs.length c N kb u v (some ⟨g, 0, none⟩) ts.length d, .slice E ys.length e] w fun x w' => GivesB w w' x p q zs N' kb' u' v' ss C) := by
  cases hr : benB a b xs N u v ts with
  | false => exact ⟨0, 0, [], 0, false, 0, 0, [], 1, by simp, by simp, fun A E c g d e w X T Y => (sCB_0 a b A c xs N kb u v g d ts E ys.length e w X T hn hm hz hr).mono fun _ _ h => givesB0 h, fun A E c g d e w X T Y => (iCB_0 a b A c xs N kb u v _ d ts E ys.length e w X T hn hm hr).mono fun _ _ h => givesB0 h⟩
  | true =>
    obtain ⟨p, q, zs, C, hzs, hs, hi⟩ := bothCorrectScale a b xs ys hn hy
    by_cases hC : C = 0
    · subst hC
      exact ⟨p, q, zs, N, kb, u, v, ts, 0, hzs, hm, fun A E c g d e w X T Y => sCB_2 a b A c xs N kb u v g d ts E ys.length e p q zs w X T hn hm hz hr (fun w' hg => hs A E c e w' (hid (X.out.keep hg)) (hid (Y.out.keep hg))), fun A E c g d e w X T Y => iCB_2 a b A c xs N kb u v g d ts E ys.length e p q zs w X T hn hm hr (fun w' hg => hi A E c e w' (hid (X.out.keep hg)) (hid (Y.out.keep hg)))⟩
    · exact ⟨0, 0, [], 0, false, 0, 0, [], C, by simp, by simp, fun A E c g d e w X T Y => (sCB_1 a b A c xs N kb u v g d ts E ys.length e p q C zs w X T hn hm hz hr hC (fun w' hg => hs A E c e w' (hid (X.out.keep hg)) (hid (Y.out.keep hg)))).mono fun _ _ h => givesB0 h, fun A E c g d e w X T Y => (iCB_1 a b A c xs N kb u v _ d ts E ys.length e p q C zs w X T hn hm hr hC (fun w' hg => hi A E c e w' (hid (X.out.keep hg)) (hid (Y.out.keep hg)))).mono fun _ _ h => givesB0 h⟩
end Go.Proofs.Ytfpcbgfcachlgaa
