/- WALKS: the scale that is made of its first error and of those of its intervals, of the program and of the reference. -/
import Derived.Test.YtnbdafecgccojaaEf
import Derived.Test.YtnbdafecgccojaaRegL
namespace Go.Proofs.Ytnbdafecgccojaa
open Go.RowKit Go.Sort

def adP (p q r s : Int) : Int := redP (p * s + r * q) (q * s)
def adQ (p q r s : Int) : Int := redQ (p * s + r * q) (q * s)
/-- The errors of the marks, one after the other. -/
def efA (p q : Int) (xs : List (Int × Int)) : Nat → Int × Int
  | 0 => (p, q)
  | k + 1 => (adP (efA p q xs k).1 (efA p q xs k).2 (xs.getD k (0, 0)).1 (xs.getD k (0, 0)).2, adQ (efA p q xs k).1 (efA p q xs k).2 (xs.getD k (0, 0)).1 (xs.getD k (0, 0)).2)
def efL (p q : Int) (xs : List (Int × Int)) (n : Nat) : List (Int × Int) := (List.range n).map (efA p q xs)
def EfOk (p q : Int) (xs : List (Int × Int)) : Prop := ∀ i, i ≤ xs.length → okB (efA p q xs i).1 (efA p q xs i).2 = true
theorem efL_len (p q : Int) (xs : List (Int × Int)) (n : Nat) : (efL p q xs n).length = n := by simp [efL]
theorem efL_get (p q : Int) (xs : List (Int × Int)) {n k : Nat} (h : k < n) : (efL p q xs n)[k]? = some ((efA p q xs k).1, (efA p q xs k).2) := by simp [efL, h]
theorem efL_succ (p q : Int) (xs : List (Int × Int)) (n : Nat) : efL p q xs (n + 1) = efL p q xs n ++ [((efA p q xs n).1, (efA p q xs n).2)] := by simp [efL, List.range_succ]
theorem efA_succ {p q : Int} {xs : List (Int × Int)} {k : Nat} {r s : Int} (h : xs[k]? = some (r, s)) : efA p q xs (k + 1) = (adP (efA p q xs k).1 (efA p q xs k).2 r s, adQ (efA p q xs k).1 (efA p q xs k).2 r s) := by
  simp [efA, List.getD_eq_getElem?_getD, h]
theorem plusa_t (p q r s : Int) (w : World) (h1 : okB p q = true) (h2 : okB r s = true) (h : okB (adP p q r s) (adQ p q r s) = true) :
    Calls Try.prog 129 #[fr p q, fr r s] w fun e w' => e = .returned (fr (adP p q r s) (adQ p q r s)) ∧ Gr w w' := plus_yes p q r s w h1 h2 h
theorem plusa_f (p q r s : Int) (w : World) (h1 : okB p q = true) (h2 : okB r s = true) (h : okB (adP p q r s) (adQ p q r s) = false) :
    Calls Try.prog 129 #[fr p q, fr r s] w fun e w' => (∃ x y, e = .panicked [{ v := .iface 212 (fr x y), recovered := false }]) ∧ Gr w w' := plus_no p q r s w h1 h2 h
theorem sadda_t (p q r s : Int) (w : World) (h1 : okB p q = true) (h2 : okB r s = true) (h : okB (adP p q r s) (adQ p q r s) = true) :
    Calls Try.prog 82 #[fr p q, fr r s] w fun e w' => e = .returned (.tuple #[fr (adP p q r s) (adQ p q r s), .int .i64 0]) ∧ Gr w w' := sadd_t p q r s w h1 h2 h
theorem sadda_f (p q r s : Int) (w : World) (h1 : okB p q = true) (h2 : okB r s = true) (h : okB (adP p q r s) (adQ p q r s) = false) :
    Calls Try.prog 82 #[fr p q, fr r s] w fun e w' => e = .returned (.tuple #[fr 0 0, .int .i64 3]) ∧ Gr w w' := sadd_f p q r s w h1 h2 h
theorem allF_get {xs : List (Int × Int)} {k : Nat} {p q : Int} (h : allF xs = true) (hk : xs[k]? = some (p, q)) : okB p q = true := by
  unfold allF at h
  exact List.all_eq_true.1 h (p, q) (List.mem_of_getElem? hk)

set_option maxRecDepth 20000 in
set_option maxHeartbeats 1000000 in
theorem iadded (p q : Int) (A : Option Addr) (c : Nat) (xs : List (Int × Int)) (w : World) (X : Hid (RdF w A xs)) (hl : xs.length ≤ 59) (hpq : okB p q = true) (hall : allF xs = true) :
    Calls Try.prog 87 #[fr p q, .slice A xs.length c] w fun e w' => ((EfOk p q xs ∧ ∃ A' c', e = .returned (.slice A' (xs.length + 1) c') ∧ w'.ownsRow w.heap.size 30 2 (.slice A' (xs.length + 1) c') (xs.length + 1) (flatL (efL p q xs (xs.length + 1)))) ∨ (¬ EfOk p q xs ∧ ∃ x y, e = .panicked [{ v := .iface 212 (fr x y), recovered := false }])) ∧ Gr w w' := by
  obtain ⟨i0, hi, hz0, hz1, hz2⟩ : ∃ i, Try.prog.info? 30 = some i ∧ i.zero = some (fr 0 0) ∧ i.size = 2 ∧ i.bytes = 16 := ⟨_, rfl, rfl, rfl, rfl⟩
  have HPQ := hid hpq; have HALL := hid hall; clear hpq hall
  go_enter Try.func87, Try.ntmps87
  go_wp2_with fail
  go_loopw [5, 12] (fun v u wr => ∃ (k : Nat) (A' : Option Addr) (c' : Nat), u = .int .i64 (k : Int) ∧ v = .slice A' (k + 1) c' ∧ k ≤ xs.length ∧ Gr (w.alloc (.cells #[.int .i64 p, .int .i64 q] 30)) wr ∧ wr.ownsRow (w.heap.size + 1) 30 2 (.slice A' (k + 1) c') (k + 1) (flatL (efL p q xs (k + 1))) ∧ (∀ i, i ≤ k → okB (efA p q xs i).1 (efA p q xs i).2 = true)) (fun _ u _ => xs.length - (intOf u).toNat)
  case atStart =>
    have e : fracR [(p, q)] [] = #[.int .i64 p, .int .i64 q] := rfl
    refine ⟨0, _, _, rfl, rfl, by omega, (Gr.refl _).al _, own_closeF (ys := [(p, q)]) (rest := []) (by simp) ?_ (by simp [maxLen]) (by simp), fun i hi => ?_⟩
    · rw [e]
      simpa using (alloc1 (w := w.alloc (.cells #[.int .i64 p, .int .i64 q] 30)) (A := .cells #[.int .i64 p, .int .i64 q] 30) (Gr.refl _)).1
    · obtain rfl : i = 0 := by omega
      exact HPQ.out
  case round =>
    obtain ⟨k, A', c', rfl, rfl, hk, hg, hown, hall⟩ := hrel
    have GW := hid hg; have OWN := hid hown; have HOK := hid hall
    have GV := hid (((Gr.refl w).al (.cells #[.int .i64 p, .int .i64 q] 30)).trans hg)
    have Y0 := hid (hg.keep (alloc1 (w := w) (A := .cells #[.int .i64 p, .int .i64 q] 30) (Gr.refl _)).1)
    clear hg hown hall
    by_cases hlt : k < xs.length
    · obtain ⟨⟨r, s⟩, h0⟩ : ∃ pq, xs[k]? = some pq := ⟨xs[k], List.getElem?_eq_getElem _⟩
      have HRS := hid (allF_get HALL.out h0)
      obtain ⟨ad, rfl, c1, c2⟩ := (X.out.keep GV.out) k r s h0
      have RO := hid ((RdF.of_ownF OWN.out).keep ((Gr.refl wr).al (.cells #[.int .i64 r, .int .i64 s] 30)))
      obtain ⟨ad2, rfl, d1, d2⟩ := RO.out k _ _ (efL_get p q xs (show k < k + 1 by omega))
      have D1 := hid d1; have D2 := hid d2
      have hst := efA_succ (p := p) (q := q) h0
      have hsu := efL_succ p q xs (k + 1)
      have hok := HOK.out k (Nat.le_refl _)
      obtain ⟨u, hu⟩ : ∃ u, (efA p q xs k).1 = u := ⟨_, rfl⟩
      obtain ⟨v, hv⟩ : ∃ v, (efA p q xs k).2 = v := ⟨_, rfl⟩
      rw [hu, hv] at hst hok
      rw [hu] at D1; rw [hv] at D2
      have HO := hid hok; have HST := hid hst
      clear d1 d2 h0 hok hst RO
      cases hd : okB (adP u v r s) (adQ u v r s) with
      | true =>
        have hpl := fun w => plusa_t u v r s w HO.out HRS.out hd
        have hok1 : okB (efA p q xs (k + 1)).1 (efA p q xs (k + 1)).2 = true := by rw [HST.out]; exact hd
        rw [HST.out] at hsu
        obtain ⟨P, hP⟩ : ∃ P, adP u v r s = P := ⟨_, rfl⟩
        obtain ⟨Q, hQ⟩ : ∃ Q, adQ u v r s = Q := ⟨_, rfl⟩
        rw [hP, hQ] at hpl hsu
        have HPL := hid hpl; have HSU := hid hsu; have HO1 := hid hok1
        clear hd hpl hP hQ hsu hu hv hok1
        go_wp2_with fail
        refine wp_regA (b0 := .cells #[.int .i64 P, .int .i64 Q] 30) (fun b => .slice (some ⟨b, 0, none⟩) 1 1) 8 7 24 (by kernel_rfl) (by kernel_rfl) rfl rfl (by simp) ?_
        apply Exists.intro
        refine ⟨fun wb hb => ?_, fun w' => ?_, ?_⟩
        · obtain ⟨_, _⟩ := hb.at2 (alloc1 (Gr.refl _)).1
          have _ := hb.atF D1.out; have _ := hb.atF D2.out
          simp only [headOps, List.contains, List.elem, Nat.reduceAdd, Nat.reduceBEq, reduceIte, Bool.false_eq_true, dumOp]
          repeat (first | go_big_quiet_step (first | (go_at_call 129; exact Calls.of_gr (HPL.out _))) | quiet_step (fail))
          exact wpQuiet_nil rfl
        · kernel_rfl
        intro w3 nb hg3 hb3 xb
        have OWN3 := hid (own_gr OWN.out (((Gr.refl _).al _).trans hg3))
        have NEW := hid (one_newsF xb)
        have G3 := hid ((GW.out.al _).trans hg3)
        have hsz := G3.out.size
        clear hg3 hb3 xb OWN c1 c2
        simp only [List.drop_succ_cons, List.drop_zero]
        refine (wpList_append_gr rfl _ _ 35 rfl (w.heap.size + 1) 30 i0 (fr 0 0) 2 16 Try.underlying35 hi hz0 hz1 hz2 rfl (by decide) _ (k + 1) _ rfl OWN3.out ⟨nb, 0, none⟩ 1 1 [.int .i64 P, .int .i64 Q] rfl rfl NEW.out (by simp [Value.oneCell']) (by decide) (by unfold maxLen; omega) (by omega) (by simpa using hsz) ?_)
        intro v' w4 own4 _ _ hgr
        obtain ⟨A2, c2, rfl⟩ := own_form own4
        rw [flatL_app, ← HSU.out] at own4
        have OWN4 := hid own4
        have G4 := hid (hgr _ G3.out (by simp))
        clear own4 hgr OWN3 NEW hsz
        go_wp2_with fail
        refine ⟨⟨k + 1, A2, c2, by simp, by simp, by omega, G4.out, OWN4.out, fun i hi => ?_⟩, by simp [intOf]; omega⟩
        by_cases hik : i = k + 1
        · subst hik; exact HO1.out
        · exact HOK.out i (by omega)
      | false =>
        have HPL := hid fun w => plusa_f u v r s w HO.out HRS.out hd
        have HNA : Hid (¬ EfOk p q xs) := hid fun h => by have := h (k + 1) (by omega); rw [HST.out, hd] at this; cases this
        clear hd hsu hu hv
        go_wp2_with fail
        refine wp_regC 6 [7, 8, 9] (by kernel_rfl) (by kernel_rfl) rfl ?_
        apply Exists.intro
        refine ⟨129, #[fr u v, fr r s], fun wb hb => ?_, ?_⟩
        · obtain ⟨_, _⟩ := hb.at2 (alloc1 (Gr.refl _)).1
          have _ := hb.atF D1.out; have _ := hb.atF D2.out
          simp only [headOps, List.contains, List.elem, List.length_cons, List.length_nil, Nat.zero_add, Nat.reduceAdd, Nat.reduceBEq, reduceIte, Bool.false_eq_true, dumOp]
          repeat (first | go_big_quiet_step (first | (fail)) | quiet_step (fail))
          exact wpQuiet_nil rfl
        refine ⟨fun w' => by kernel_rfl, fun w' hg' => (HPL.out w').mono fun e w2 ⟨⟨x, y, he⟩, hg2⟩ => ⟨_, he, fun a' ha' => ⟨ha', .inr ⟨HNA.out, x, y, rfl⟩, ((GV.out.al _).trans hg').trans hg2⟩⟩⟩
    · have hke : k = xs.length := by omega
      subst hke
      go_wp2_with fail
      go_ret
      exact ⟨.inl ⟨fun i hi => HOK.out i hi, A', c', rfl, own_base (base' := w.heap.size) OWN.out (by omega)⟩, GV.out⟩

set_option maxRecDepth 20000 in
set_option maxHeartbeats 1000000 in
theorem cef (a b p q : Int) (A : Option Addr) (c k1 k2 k3 : Nat) (xs : List (Int × Int)) (w : World) (T2 : TypeId) (X1 : Hid (w.heap[k1]? = some (.cells #[.int .i64 a, .int .i64 b] 30))) (X2 : Hid (w.heap[k2]? = some (.cells #[.int .i64 p, .int .i64 q] 30))) (X3 : Hid (w.heap[k3]? = some (.cells #[.slice A xs.length c] T2))) (X : Hid (RdF w A xs)) (hl : xs.length ≤ 59) (hpq : okB p q = true) (hall : allF xs = true) :
    Calls Try.prog 86 #[.pointer (some ⟨k1, 0, none⟩), .pointer (some ⟨k2, 0, none⟩), .pointer (some ⟨k3, 0, none⟩)] w fun e w' => ((EfOk p q xs ∧ ∃ A' c', e = .returned (scl a b A' (xs.length + 1) c') ∧ w'.ownsRow w.heap.size 30 2 (.slice A' (xs.length + 1) c') (xs.length + 1) (flatL (efL p q xs (xs.length + 1)))) ∨ (¬ EfOk p q xs ∧ ∃ x y, e = .panicked [{ v := .iface 212 (fr x y), recovered := false }])) ∧ Gr w w' := by
  have HA := hid fun (w : World) (X : Hid (RdF w A xs)) => iadded p q A c xs w X hl hpq hall
  clear hpq hall
  by_cases hok : EfOk p q xs
  · have HOK := hid hok
    have HA2 := hid fun (w : World) (X : Hid (RdF w A xs)) => (HA.out w X).mono (R' := fun e w' => ∃ δ : Option Addr × Nat, e = .returned (.slice δ.1 (xs.length + 1) δ.2) ∧ w'.ownsRow w.heap.size 30 2 (.slice δ.1 (xs.length + 1) δ.2) (xs.length + 1) (flatL (efL p q xs (xs.length + 1))) ∧ Gr w w') fun e w' h => by
      rcases h with ⟨⟨_, A', c', he, ho⟩ | ⟨hn, _⟩, hg⟩
      · exact ⟨(A', c'), he, ho, hg⟩
      · exact absurd HOK.out hn
    clear hok HA
    go_enter Try.func86, Try.ntmps86
    obtain ⟨_, _⟩ := cells2 X1.out
    have _ := fz X1.out
    have _ := ltb X1.out
    obtain ⟨_, _⟩ := cells2 X2.out
    have _ := fz X2.out
    have _ := ltb X2.out
    have _ := cells1 X3.out
    have _ := fz X3.out
    have _ := ltb X3.out
    go_wp2_with fail
    refine wp_regL1 (fun δ : Option Addr × Nat => .slice δ.1 (xs.length + 1) δ.2) (fun δ w' => w'.ownsRow (w.heap.size + 1) 30 2 (.slice δ.1 (xs.length + 1) δ.2) (xs.length + 1) (flatL (efL p q xs (xs.length + 1)))) 5 3 7 [0, 0, 0, 0, 1] [3, 4] [0, 1, 2, 3] (by kernel_rfl) (by kernel_rfl) (by kernel_rfl) rfl (by decide) (fun δ δ' h => by cases δ; cases δ'; simp only [Value.slice.injEq] at h; simp [h.1, h.2.2]) (fun δ w w' h hg => own_gr h hg) ?_
    apply Exists.intro; apply Exists.intro
    refine ⟨fun wb hb => ?_, fun o ho wb hb => ?_, fun δ wb hb hg => ?_, fun δ w2 hg2 o2 => ?_⟩
    · obtain ⟨y0, _, _⟩ := alloc1 (Gr.refl _)
      obtain ⟨_, _, _⟩ := hb.at3 y0
      clear y0
      obtain ⟨_, _⟩ := hb.at2 (((Gr.refl _).al _).keep X1.out)
      obtain ⟨_, _⟩ := hb.at2 (((Gr.refl _).al _).keep X2.out)
      have _ := hb.at1 (((Gr.refl _).al _).keep X3.out)
      simp only [headOps, List.contains, List.elem, Nat.reduceAdd, Nat.reduceBEq, reduceIte, Bool.false_eq_true, dumOp]
      repeat (first | go_big_quiet_step (first | (fail)) | quiet_step (fail))
      exact wpQuiet_nil rfl
    · cases ho
      exact ⟨_, _, by kernel_rfl, (HA2.out _ (hid (X.out.keep (((Gr.refl w).al _).trans hb)))).mono fun e w' ⟨δ, he, ho, hg'⟩ => ⟨δ, he, own_base ho (by have := hb.size; simpa using this), hg'⟩⟩
    · simp only [headOps, List.contains, List.elem, Nat.reduceAdd, Nat.reduceBEq, reduceIte, Bool.false_eq_true, dumOp]
      repeat (first | go_big_quiet_step (first | (fail)) | quiet_step (fail))
      exact wpQuiet_nil rfl
    simp only [List.drop_succ_cons, List.drop_zero]
    have OWN := hid o2; have G2 := hid (((Gr.refl w).al _).trans hg2)
    have Y0 := hid (hg2.keep (alloc1 (w := w) (A := .cells #[.int .i64 0, .int .i64 0, .slice none 0 0] 37) (Gr.refl _)).1)
    clear hg2 o2
    obtain ⟨_, _, _⟩ := cells3 Y0.out
    have _ := fz Y0.out
    have _ := ltb Y0.out
    go_wp2_with fail
    refine bodyPost_ret (v := scl a b δ.1 (xs.length + 1) δ.2) (by simp [results, Try.results86, go_sem, *]) rfl ?_
    exact ⟨.inl ⟨HOK.out, δ.1, δ.2, rfl, own_base (base' := w.heap.size) (own_low (own_low (own_low OWN.out (by simp) _) (by simp) _) (by simp) _) (by omega)⟩, ((G2.out.setCell (by simp) _).setCell (by simp) _).setCell (by simp) _⟩
  · have HOK := hid hok
    have HA2 := hid fun (w : World) (X : Hid (RdF w A xs)) => (HA.out w X).mono (R' := fun e w' => (∃ x y, e = .panicked [{ v := .iface 212 (fr x y), recovered := false }]) ∧ Gr w w') fun e w' h => by
      rcases h with ⟨⟨hn, _⟩ | ⟨_, hp⟩, hg⟩
      · exact absurd hn HOK.out
      · exact ⟨hp, hg⟩
    clear hok HA
    go_enter Try.func86, Try.ntmps86
    obtain ⟨_, _⟩ := cells2 X1.out
    have _ := fz X1.out
    have _ := ltb X1.out
    obtain ⟨_, _⟩ := cells2 X2.out
    have _ := fz X2.out
    have _ := ltb X2.out
    have _ := cells1 X3.out
    have _ := fz X3.out
    have _ := ltb X3.out
    go_wp2_with fail
    refine wp_regP 3 [4, 5] (by kernel_rfl) (by kernel_rfl) rfl ?_
    apply Exists.intro
    refine ⟨87, #[fr p q, .slice A xs.length c], fun wb hb => ?_, ?_⟩
    · obtain ⟨y0, _, _⟩ := alloc1 (Gr.refl _)
      obtain ⟨_, _, _⟩ := hb.at3 y0
      clear y0
      obtain ⟨_, _⟩ := hb.at2 (((Gr.refl _).al _).keep X1.out)
      obtain ⟨_, _⟩ := hb.at2 (((Gr.refl _).al _).keep X2.out)
      have _ := hb.at1 (((Gr.refl _).al _).keep X3.out)
      simp only [headOps, List.contains, List.elem, List.length_cons, List.length_nil, Nat.zero_add, Nat.reduceAdd, Nat.reduceBEq, reduceIte, Bool.false_eq_true, dumOp]
      repeat (first | go_big_quiet_step (first | (fail)) | quiet_step (fail))
      exact wpQuiet_nil rfl
    refine ⟨fun w' => by kernel_rfl, fun w' hg' => (HA2.out _ (hid (X.out.keep (((Gr.refl w).al _).trans hg')))).mono fun e w2 ⟨⟨x, y, he⟩, hg2⟩ => ⟨_, he, fun a' ha' => ⟨ha', .inr ⟨HOK.out, x, y, rfl⟩, (((Gr.refl _).al _).trans hg').trans hg2⟩⟩⟩

/-! The reference -/
theorem own_ne {W : World} {base b : Nat} {n : Nat} {v : Value} {xs : List Value} {cs : Array Value} (h : W.ownsRow base 30 2 v n xs) (hb : W.heap[b]? = some (.cells cs 37)) : v.ownBlock ≠ some b := by
  rcases h.2 with ⟨rfl, _⟩ | ⟨g, cap, cur, rfl, _, h3, _⟩
  · simp [Value.ownBlock]
  · intro he
    have : g = b := by simpa [Value.ownBlock] using he
    subst this
    rw [h3] at hb
    cases hb
theorem own_setS {W : World} {base b i : Nat} {n : Nat} {v : Value} {xs : List Value} {cs : Array Value} (h : W.ownsRow base 30 2 v n xs) (hb : W.heap[b]? = some (.cells cs 37)) (y : Value) : (W.setCell ⟨b, i, none⟩ y).ownsRow base 30 2 v n xs := by
  refine ⟨h.1, ?_⟩
  rcases h.2 with h0 | ⟨g, cap, cur, h1, h2, h3, h4⟩
  · exact .inl h0
  · refine .inr ⟨g, cap, cur, h1, h2, keepSet' h3 ?_, h4⟩
    intro he
    subst he
    rw [h3] at hb
    cases hb
def rangeB (n : Nat) : Bool := inB (n : Int) 1 59
set_option maxRecDepth 20000 in
set_option maxHeartbeats 400000 in
theorem sEF_0 (a b p q : Int) (A : Option Addr) (c : Nat) (xs : List (Int × Int)) (w : World) (h : okB a b = false) :
    Calls Try.prog 24 #[fr a b, fr p q, .slice A xs.length c] w fun e w' => e = .returned (.tuple #[scl 0 0 none 0 0, .int .i64 1]) ∧ Gr w w' := by
  have h := hid h
  go_enter Try.func24, Try.ntmps24
  go_wp2_with fail
  refine (sok_f _ _ _ h.out).mono ?_
  rintro e w1 ⟨rfl, hg1⟩
  obtain ⟨x1_0, x1_1, x1_2, hz1, g1⟩ := alloc3 hg1
  obtain ⟨_, _⟩ := cells2 x1_0
  have _ := fz x1_0
  have _ := ltb x1_0
  obtain ⟨_, _⟩ := cells2 x1_1
  have _ := fz x1_1
  have _ := ltb x1_1
  obtain ⟨_, _, _⟩ := cells3 x1_2
  have _ := fz x1_2
  have _ := ltb x1_2
  have X1_0 := hid x1_0; clear x1_0
  have X1_1 := hid x1_1; clear x1_1
  have X1_2 := hid x1_2; clear x1_2
  have G1 := hid (g1)
  clear hg1 g1
  go_wp2
  refine bodyPost_ret (v := .tuple #[scl 0 0 none 0 0, .int .i64 1]) (by simp [results, Try.results24, go_sem, *]) rfl ⟨rfl, ?_⟩
  exact (((G1.out).setCell (by simp <;> omega) _).setCell (by simp <;> omega) _).setCell (by simp <;> omega) _
set_option maxRecDepth 20000 in
set_option maxHeartbeats 400000 in
theorem sEF_1 (a b p q : Int) (A : Option Addr) (c : Nat) (xs : List (Int × Int)) (w : World) (h : okB a b = true) (h2 : okB p q = false) :
    Calls Try.prog 24 #[fr a b, fr p q, .slice A xs.length c] w fun e w' => e = .returned (.tuple #[scl 0 0 none 0 0, .int .i64 1]) ∧ Gr w w' := by
  have h := hid h; have h2 := hid h2
  go_enter Try.func24, Try.ntmps24
  go_wp2_with fail
  refine (sok_t _ _ _ h.out).mono ?_
  rintro e w1 ⟨rfl, hg1⟩
  obtain ⟨x1_0, x1_1, x1_2, hz1, g1⟩ := alloc3 hg1
  obtain ⟨_, _⟩ := cells2 x1_0
  have _ := fz x1_0
  have _ := ltb x1_0
  obtain ⟨_, _⟩ := cells2 x1_1
  have _ := fz x1_1
  have _ := ltb x1_1
  obtain ⟨_, _, _⟩ := cells3 x1_2
  have _ := fz x1_2
  have _ := ltb x1_2
  have X1_0 := hid x1_0; clear x1_0
  have X1_1 := hid x1_1; clear x1_1
  have X1_2 := hid x1_2; clear x1_2
  have G1 := hid (g1)
  clear hg1 g1
  go_wp2_with fail
  refine (sok_f _ _ _ h2.out).mono ?_
  rintro e w2 ⟨rfl, hg2⟩
  have x2_1 := hg2.keep X1_0.out
  have x2_2 := hg2.keep X1_1.out
  have x2_3 := hg2.keep X1_2.out
  obtain ⟨_, _⟩ := cells2 x2_1
  have _ := fz x2_1
  have _ := ltb x2_1
  obtain ⟨_, _⟩ := cells2 x2_2
  have _ := fz x2_2
  have _ := ltb x2_2
  obtain ⟨_, _, _⟩ := cells3 x2_3
  have _ := fz x2_3
  have _ := ltb x2_3
  have X2_1 := hid x2_1; clear x2_1
  have X2_2 := hid x2_2; clear x2_2
  have X2_3 := hid x2_3; clear x2_3
  have G2 := hid (G1.out.trans hg2)
  clear hg2
  go_wp2
  refine bodyPost_ret (v := .tuple #[scl 0 0 none 0 0, .int .i64 1]) (by simp [results, Try.results24, go_sem, *]) rfl ⟨rfl, ?_⟩
  exact (((G2.out).setCell (by simp <;> omega) _).setCell (by simp <;> omega) _).setCell (by simp <;> omega) _
set_option maxRecDepth 20000 in
set_option maxHeartbeats 400000 in
theorem sEF_2 (a b p q : Int) (A : Option Addr) (c : Nat) (xs : List (Int × Int)) (w : World) (X : Hid (RdF w A xs)) (hn : xs.length ≤ 1048576) (h : okB a b = true) (h2 : okB p q = true) (h3 : allF xs = false) :
    Calls Try.prog 24 #[fr a b, fr p q, .slice A xs.length c] w fun e w' => e = .returned (.tuple #[scl 0 0 none 0 0, .int .i64 1]) ∧ Gr w w' := by
  have h := hid h; have h2 := hid h2
  have HS := hid fun (w' : World) (Z : Hid (RdF w' A xs)) => h3 ▸ sFracs A c xs w' Z hn
  go_enter Try.func24, Try.ntmps24
  go_wp2_with fail
  refine (sok_t _ _ _ h.out).mono ?_
  rintro e w1 ⟨rfl, hg1⟩
  obtain ⟨x1_0, x1_1, x1_2, hz1, g1⟩ := alloc3 hg1
  obtain ⟨_, _⟩ := cells2 x1_0
  have _ := fz x1_0
  have _ := ltb x1_0
  obtain ⟨_, _⟩ := cells2 x1_1
  have _ := fz x1_1
  have _ := ltb x1_1
  obtain ⟨_, _, _⟩ := cells3 x1_2
  have _ := fz x1_2
  have _ := ltb x1_2
  have X1_0 := hid x1_0; clear x1_0
  have X1_1 := hid x1_1; clear x1_1
  have X1_2 := hid x1_2; clear x1_2
  have G1 := hid (g1)
  clear hg1 g1
  go_wp2_with fail
  refine (sok_t _ _ _ h2.out).mono ?_
  rintro e w2 ⟨rfl, hg2⟩
  have x2_1 := hg2.keep X1_0.out
  have x2_2 := hg2.keep X1_1.out
  have x2_3 := hg2.keep X1_2.out
  obtain ⟨_, _⟩ := cells2 x2_1
  have _ := fz x2_1
  have _ := ltb x2_1
  obtain ⟨_, _⟩ := cells2 x2_2
  have _ := fz x2_2
  have _ := ltb x2_2
  obtain ⟨_, _, _⟩ := cells3 x2_3
  have _ := fz x2_3
  have _ := ltb x2_3
  have X2_1 := hid x2_1; clear x2_1
  have X2_2 := hid x2_2; clear x2_2
  have X2_3 := hid x2_3; clear x2_3
  have G2 := hid (G1.out.trans hg2)
  clear hg2
  go_wp2_with fail
  refine (HS.out _ (hid (X.out.keep G2.out))).mono ?_
  rintro e w3 ⟨rfl, hg3⟩
  have x3_1 := hg3.keep X2_1.out
  have x3_2 := hg3.keep X2_2.out
  have x3_3 := hg3.keep X2_3.out
  obtain ⟨_, _⟩ := cells2 x3_1
  have _ := fz x3_1
  have _ := ltb x3_1
  obtain ⟨_, _⟩ := cells2 x3_2
  have _ := fz x3_2
  have _ := ltb x3_2
  obtain ⟨_, _, _⟩ := cells3 x3_3
  have _ := fz x3_3
  have _ := ltb x3_3
  have X3_1 := hid x3_1; clear x3_1
  have X3_2 := hid x3_2; clear x3_2
  have X3_3 := hid x3_3; clear x3_3
  have G3 := hid (G2.out.trans hg3)
  clear hg3
  go_wp2
  refine bodyPost_ret (v := .tuple #[scl 0 0 none 0 0, .int .i64 1]) (by simp [results, Try.results24, go_sem, *]) rfl ⟨rfl, ?_⟩
  exact (((G3.out).setCell (by simp <;> omega) _).setCell (by simp <;> omega) _).setCell (by simp <;> omega) _
set_option maxRecDepth 20000 in
set_option maxHeartbeats 400000 in
theorem sEF_3 (a b p q : Int) (A : Option Addr) (c : Nat) (xs : List (Int × Int)) (w : World) (X : Hid (RdF w A xs)) (hn : xs.length ≤ 1048576) (h : okB a b = true) (h2 : okB p q = true) (h3 : allF xs = true) (h4 : rangeB xs.length = false) :
    Calls Try.prog 24 #[fr a b, fr p q, .slice A xs.length c] w fun e w' => e = .returned (.tuple #[scl 0 0 none 0 0, .int .i64 2]) ∧ Gr w w' := by
  have h := hid h; have h2 := hid h2
  have HS := hid fun (w' : World) (Z : Hid (RdF w' A xs)) => h3 ▸ sFracs A c xs w' Z hn
  have HI := hid fun (w' : World) => (in_any (xs.length : Int) 1 59 w').mono (R' := fun e w'' => e = .returned (.bool false) ∧ Gr w' w'') fun e w'' hh => ⟨by rw [hh.1]; show Ending.returned (.bool (rangeB xs.length)) = _; rw [h4], hh.2 ▸ Gr.refl _⟩
  go_enter Try.func24, Try.ntmps24
  go_wp2_with fail
  refine (sok_t _ _ _ h.out).mono ?_
  rintro e w1 ⟨rfl, hg1⟩
  obtain ⟨x1_0, x1_1, x1_2, hz1, g1⟩ := alloc3 hg1
  obtain ⟨_, _⟩ := cells2 x1_0
  have _ := fz x1_0
  have _ := ltb x1_0
  obtain ⟨_, _⟩ := cells2 x1_1
  have _ := fz x1_1
  have _ := ltb x1_1
  obtain ⟨_, _, _⟩ := cells3 x1_2
  have _ := fz x1_2
  have _ := ltb x1_2
  have X1_0 := hid x1_0; clear x1_0
  have X1_1 := hid x1_1; clear x1_1
  have X1_2 := hid x1_2; clear x1_2
  have G1 := hid (g1)
  clear hg1 g1
  go_wp2_with fail
  refine (sok_t _ _ _ h2.out).mono ?_
  rintro e w2 ⟨rfl, hg2⟩
  have x2_1 := hg2.keep X1_0.out
  have x2_2 := hg2.keep X1_1.out
  have x2_3 := hg2.keep X1_2.out
  obtain ⟨_, _⟩ := cells2 x2_1
  have _ := fz x2_1
  have _ := ltb x2_1
  obtain ⟨_, _⟩ := cells2 x2_2
  have _ := fz x2_2
  have _ := ltb x2_2
  obtain ⟨_, _, _⟩ := cells3 x2_3
  have _ := fz x2_3
  have _ := ltb x2_3
  have X2_1 := hid x2_1; clear x2_1
  have X2_2 := hid x2_2; clear x2_2
  have X2_3 := hid x2_3; clear x2_3
  have G2 := hid (G1.out.trans hg2)
  clear hg2
  go_wp2_with fail
  refine (HS.out _ (hid (X.out.keep G2.out))).mono ?_
  rintro e w3 ⟨rfl, hg3⟩
  have x3_1 := hg3.keep X2_1.out
  have x3_2 := hg3.keep X2_2.out
  have x3_3 := hg3.keep X2_3.out
  obtain ⟨_, _⟩ := cells2 x3_1
  have _ := fz x3_1
  have _ := ltb x3_1
  obtain ⟨_, _⟩ := cells2 x3_2
  have _ := fz x3_2
  have _ := ltb x3_2
  obtain ⟨_, _, _⟩ := cells3 x3_3
  have _ := fz x3_3
  have _ := ltb x3_3
  have X3_1 := hid x3_1; clear x3_1
  have X3_2 := hid x3_2; clear x3_2
  have X3_3 := hid x3_3; clear x3_3
  have G3 := hid (G2.out.trans hg3)
  clear hg3
  go_wp2_with fail
  refine (HI.out _).mono ?_
  rintro e w4 ⟨rfl, hg4⟩
  have x4_1 := hg4.keep X3_1.out
  have x4_2 := hg4.keep X3_2.out
  have x4_3 := hg4.keep X3_3.out
  obtain ⟨_, _⟩ := cells2 x4_1
  have _ := fz x4_1
  have _ := ltb x4_1
  obtain ⟨_, _⟩ := cells2 x4_2
  have _ := fz x4_2
  have _ := ltb x4_2
  obtain ⟨_, _, _⟩ := cells3 x4_3
  have _ := fz x4_3
  have _ := ltb x4_3
  have X4_1 := hid x4_1; clear x4_1
  have X4_2 := hid x4_2; clear x4_2
  have X4_3 := hid x4_3; clear x4_3
  have G4 := hid (G3.out.trans hg4)
  clear hg4
  go_wp2
  refine bodyPost_ret (v := .tuple #[scl 0 0 none 0 0, .int .i64 2]) (by simp [results, Try.results24, go_sem, *]) rfl ⟨rfl, ?_⟩
  exact (((G4.out).setCell (by simp <;> omega) _).setCell (by simp <;> omega) _).setCell (by simp <;> omega) _
set_option maxRecDepth 20000 in
set_option maxHeartbeats 2000000 in
theorem sEF_4 (a b p q : Int) (A : Option Addr) (c : Nat) (xs : List (Int × Int)) (w : World) (X : Hid (RdF w A xs)) (hn : xs.length ≤ 1048576) (h : okB a b = true) (h2 : okB p q = true) (h3 : allF xs = true) (h4 : rangeB xs.length = true) :
    Calls Try.prog 24 #[fr a b, fr p q, .slice A xs.length c] w fun e w' => (EfOk p q xs ∧ ((sclB a b (efL p q xs (xs.length + 1)) = true ∧ GivesS w w' e a b (efL p q xs (xs.length + 1)) 0) ∨ (sclB a b (efL p q xs (xs.length + 1)) = false ∧ GivesS w w' e 0 0 [] 4))) ∨ (¬ EfOk p q xs ∧ GivesS w w' e 0 0 [] 3) := by
  obtain ⟨i0, hi, iz0, iz1, iz2⟩ : ∃ i, Try.prog.info? 30 = some i ∧ i.zero = some (fr 0 0) ∧ i.size = 2 ∧ i.bytes = 16 := ⟨_, rfl, rfl, rfl, rfl⟩
  have hl : xs.length ≤ 59 := by unfold rangeB inB at h4; simp at h4; omega
  have HPQ := hid h2; have HALL := hid h3
  have HS := hid fun (w' : World) (Z : Hid (RdF w' A xs)) => h3 ▸ sFracs A c xs w' Z hn
  have HI := hid fun (w' : World) => (in_any (xs.length : Int) 1 59 w').mono (R' := fun e w'' => e = .returned (.bool true) ∧ Gr w' w'') fun e w'' hh => ⟨by rw [hh.1]; show Ending.returned (.bool (rangeB xs.length)) = _; rw [h4], hh.2 ▸ Gr.refl _⟩
  have h := hid h; have h2 := hid h2
  clear h3 h4
  go_enter Try.func24, Try.ntmps24
  go_wp2_with fail
  refine (sok_t _ _ _ h.out).mono ?_
  rintro e w1 ⟨rfl, hg1⟩
  obtain ⟨x1_0, x1_1, x1_2, hz1, g1⟩ := alloc3 hg1
  obtain ⟨_, _⟩ := cells2 x1_0
  have _ := fz x1_0
  have _ := ltb x1_0
  obtain ⟨_, _⟩ := cells2 x1_1
  have _ := fz x1_1
  have _ := ltb x1_1
  obtain ⟨_, _, _⟩ := cells3 x1_2
  have _ := fz x1_2
  have _ := ltb x1_2
  have X1_0 := hid x1_0; clear x1_0
  have X1_1 := hid x1_1; clear x1_1
  have X1_2 := hid x1_2; clear x1_2
  have G1 := hid (g1)
  clear hg1 g1
  go_wp2_with fail
  refine (sok_t _ _ _ h2.out).mono ?_
  rintro e w2 ⟨rfl, hg2⟩
  have x2_1 := hg2.keep X1_0.out
  have x2_2 := hg2.keep X1_1.out
  have x2_3 := hg2.keep X1_2.out
  obtain ⟨_, _⟩ := cells2 x2_1
  have _ := fz x2_1
  have _ := ltb x2_1
  obtain ⟨_, _⟩ := cells2 x2_2
  have _ := fz x2_2
  have _ := ltb x2_2
  obtain ⟨_, _, _⟩ := cells3 x2_3
  have _ := fz x2_3
  have _ := ltb x2_3
  have X2_1 := hid x2_1; clear x2_1
  have X2_2 := hid x2_2; clear x2_2
  have X2_3 := hid x2_3; clear x2_3
  have G2 := hid (G1.out.trans hg2)
  clear hg2
  go_wp2_with fail
  refine (HS.out _ (hid (X.out.keep G2.out))).mono ?_
  rintro e w3 ⟨rfl, hg3⟩
  have x3_1 := hg3.keep X2_1.out
  have x3_2 := hg3.keep X2_2.out
  have x3_3 := hg3.keep X2_3.out
  obtain ⟨_, _⟩ := cells2 x3_1
  have _ := fz x3_1
  have _ := ltb x3_1
  obtain ⟨_, _⟩ := cells2 x3_2
  have _ := fz x3_2
  have _ := ltb x3_2
  obtain ⟨_, _, _⟩ := cells3 x3_3
  have _ := fz x3_3
  have _ := ltb x3_3
  have X3_1 := hid x3_1; clear x3_1
  have X3_2 := hid x3_2; clear x3_2
  have X3_3 := hid x3_3; clear x3_3
  have G3 := hid (G2.out.trans hg3)
  clear hg3
  go_wp2_with fail
  refine (HI.out _).mono ?_
  rintro e w4 ⟨rfl, hg4⟩
  have x4_1 := hg4.keep X3_1.out
  have x4_2 := hg4.keep X3_2.out
  have x4_3 := hg4.keep X3_3.out
  obtain ⟨_, _⟩ := cells2 x4_1
  have _ := fz x4_1
  have _ := ltb x4_1
  obtain ⟨_, _⟩ := cells2 x4_2
  have _ := fz x4_2
  have _ := ltb x4_2
  obtain ⟨_, _, _⟩ := cells3 x4_3
  have _ := fz x4_3
  have _ := ltb x4_3
  have X4_1 := hid x4_1; clear x4_1
  have X4_2 := hid x4_2; clear x4_2
  have X4_3 := hid x4_3; clear x4_3
  have G4 := hid (G3.out.trans hg4)
  clear hg4
  have hw4 := G4.out.size
  go_wp2_with fail
  go_loopw [9] (fun u wr => ∃ (k : Nat) (A' : Option Addr) (c' : Nat), u = .int .i64 (k : Int) ∧ k ≤ xs.length ∧ Gr w4 wr ∧ wr.heap[w4.heap.size + 1]? = some (.cells #[.int .i64 a, .int .i64 b, .slice A' (k + 1) c'] 37) ∧ wr.ownsRow w4.heap.size 30 2 (.slice A' (k + 1) c') (k + 1) (flatL (efL p q xs (k + 1))) ∧ (∀ i, i ≤ k → okB (efA p q xs i).1 (efA p q xs i).2 = true)) (fun u _ => xs.length - (intOf u).toNat)
  case atStart =>
    have e : fracR [(p, q)] [] = #[.int .i64 p, .int .i64 q] := rfl
    refine ⟨0, _, _, rfl, by omega, ((Gr.refl _).al _).al _, by simpa using (alloc1 (w := w4.alloc (.cells #[.int .i64 p, .int .i64 q] 30)) (A := .cells #[.int .i64 a, .int .i64 b, .slice (some ⟨w4.heap.size, 0, none⟩) 1 1] 37) (Gr.refl _)).1, own_closeF (ys := [(p, q)]) (rest := []) (Nat.le_refl _) ?_ (by simp [maxLen]) (by simp), fun i hi => ?_⟩
    · rw [e]
      exact ((Gr.refl _).al _).keep (alloc1 (Gr.refl _)).1
    · obtain rfl : i = 0 := by omega
      exact HPQ.out
  case round =>
    obtain ⟨k, A', c', rfl, hk, hg, hsc, hown, hall⟩ := hrel
    have GW := hid hg; have OWN := hid hown; have HOK := hid hall; have Y8 := hid hsc
    have GV := hid (G4.out.trans hg)
    have Y3 := hid (hg.keep X4_3.out)
    clear hg hown hall hsc
    by_cases hlt : k < xs.length
    · obtain ⟨⟨r, s⟩, h0⟩ : ∃ pq, xs[k]? = some pq := ⟨xs[k], List.getElem?_eq_getElem _⟩
      have HRS := hid (allF_get HALL.out h0)
      obtain ⟨ad, rfl, c1, c2⟩ := (X.out.keep GV.out) k r s h0
      obtain ⟨ad2, rfl, d1, d2⟩ := (RdF.of_ownF OWN.out) k _ _ (efL_get p q xs (show k < k + 1 by omega))
      have C1 := hid c1; have C2 := hid c2
      have hst := efA_succ (p := p) (q := q) h0
      have hsu := efL_succ p q xs (k + 1)
      have hok := HOK.out k (Nat.le_refl _)
      obtain ⟨u, hu⟩ : ∃ u, (efA p q xs k).1 = u := ⟨_, rfl⟩
      obtain ⟨v, hv⟩ : ∃ v, (efA p q xs k).2 = v := ⟨_, rfl⟩
      rw [hu, hv] at hst hok
      rw [hu] at d1; rw [hv] at d2
      have D1 := hid d1; have D2 := hid d2
      have HO := hid hok; have HST := hid hst
      clear c1 c2 d1 d2 h0 hok hst
      cases hd : okB (adP u v r s) (adQ u v r s) with
      | true =>
        have hpl := fun w => sadda_t u v r s w HO.out HRS.out hd
        have hok1 : okB (efA p q xs (k + 1)).1 (efA p q xs (k + 1)).2 = true := by rw [HST.out]; exact hd
        rw [HST.out] at hsu
        obtain ⟨P, hP⟩ : ∃ P, adP u v r s = P := ⟨_, rfl⟩
        obtain ⟨Q, hQ⟩ : ∃ Q, adQ u v r s = Q := ⟨_, rfl⟩
        rw [hP, hQ] at hpl hsu
        have HPL := hid hpl; have HSU := hid hsu; have HO1 := hid hok1
        clear hd hpl hP hQ hsu hu hv hok1
        obtain ⟨_, _, _⟩ := cells3 Y8.out
        have _ := fz Y8.out
        have _ := ltb Y8.out
        go_wp2_with fail
        refine wp_reg1s #[.int .i64 0, .int .i64 0] 15 13 10 14 52 (by kernel_rfl) (by kernel_rfl) rfl rfl (by simp) rfl rfl (by decide) (fun _ _ => by kernel_rfl) (by kernel_rfl) ?_
        apply Exists.intro; apply Exists.intro
        refine ⟨fun wb hb => ?_, ?_⟩
        · obtain ⟨_, _, _⟩ := hb.at3 Y8.out
          have _ := hb.atF C1.out; have _ := hb.atF C2.out; have _ := hb.atF D1.out; have _ := hb.atF D2.out
          simp only [headOps, List.contains, List.elem, Nat.reduceAdd, Nat.reduceBEq, reduceIte, Bool.false_eq_true, dumOp]
          repeat (first | go_big_quiet_step (first | (go_at_call 82; exact Calls.of_gr (HPL.out _))) | quiet_step (fail))
          exact wpQuiet_nil rfl
        refine ⟨rfl, ⟨rfl, by simp [Value.oneCell']⟩, fun w5 b5 hg5 _ xb5 => ?_⟩
        have OWN5 := hid (own_gr OWN.out (hg5.al (.cells #[.int .i64 P, .int .i64 Q] 30)))
        have NEW := hid (one_newsF (w := w5.alloc (.cells #[.int .i64 P, .int .i64 Q] 30)) (b := w5.heap.size) (alloc1 (Gr.refl _)).1)
        have G5 := hid ((GW.out.trans hg5).al (.cells #[.int .i64 P, .int .i64 Q] 30))
        have Y5 := hid (hg5.keep Y8.out)
        have hsz := G5.out.size
        obtain ⟨_, _⟩ := cells2 xb5
        have _ := fz xb5
        have _ := ltb xb5
        obtain ⟨_, _, _⟩ := cells3 Y5.out
        have _ := ltb Y5.out
        have Z5 := hid (((Gr.refl w5).al (.cells #[.int .i64 P, .int .i64 Q] 30)).keep Y5.out)
        have hne := own_ne OWN5.out Z5.out
        clear hg5 xb5 OWN
        go_wp2_with (at_builtin; refine (wpList_append_gr rfl _ _ 35 rfl w4.heap.size 30 i0 (fr 0 0) 2 16 Try.underlying35 hi iz0 iz1 iz2 rfl (by decide) _ (k + 1) _ rfl OWN5.out ⟨w5.heap.size, 0, none⟩ 1 1 [.int .i64 P, .int .i64 Q] rfl rfl NEW.out (by simp [Value.oneCell']) (by decide) (by unfold maxLen; omega) (by omega) hsz ?_))
        intro v' w6 own6 hgrow _ hgr
        obtain ⟨A2, c2, rfl⟩ := own_form own6
        rw [flatL_app, ← HSU.out] at own6
        have y6 := (hgrow.block (w4.heap.size + 1) (ltb Z5.out) (Ne.symm hne)).trans Z5.out
        have OWN6 := hid own6; have Y6 := hid y6
        have G6 := hid (hgr _ G5.out (Nat.le_refl _))
        obtain ⟨_, _, _⟩ := cells3 Y6.out
        have _ := fz Y6.out
        clear own6 y6 hgrow hgr OWN5 NEW hsz hne Y5 Z5
        go_wp2_with fail
        refine ⟨⟨k + 1, A2, c2, by simp, by omega, G6.out.setCell (by simp) _, by simpa using Joins.block_setCell (i := 2) Y6.out _, own_setS OWN6.out Y6.out _, fun i hi => ?_⟩, by simp [intOf]; omega⟩
        by_cases hik : i = k + 1
        · subst hik; exact HO1.out
        · exact HOK.out i (by omega)
      | false =>
        have HPL := hid fun w => sadda_f u v r s w HO.out HRS.out hd
        have HNA : Hid (¬ EfOk p q xs) := hid fun h => by have := h (k + 1) (by omega); rw [HST.out, hd] at this; cases this
        clear hd hsu hu hv
        obtain ⟨_, _, _⟩ := cells3 Y8.out
        have _ := fz Y8.out
        have _ := ltb Y8.out
        go_wp2_with fail
        refine wp_reg1s #[.int .i64 0, .int .i64 0] 15 13 10 14 52 (by kernel_rfl) (by kernel_rfl) rfl rfl (by simp) rfl rfl (by decide) (fun _ _ => by kernel_rfl) (by kernel_rfl) ?_
        apply Exists.intro; apply Exists.intro
        refine ⟨fun wb hb => ?_, ?_⟩
        · obtain ⟨_, _, _⟩ := hb.at3 Y8.out
          have _ := hb.atF C1.out; have _ := hb.atF C2.out; have _ := hb.atF D1.out; have _ := hb.atF D2.out
          simp only [headOps, List.contains, List.elem, Nat.reduceAdd, Nat.reduceBEq, reduceIte, Bool.false_eq_true, dumOp]
          repeat (first | go_big_quiet_step (first | (go_at_call 82; exact Calls.of_gr (HPL.out _))) | quiet_step (fail))
          exact wpQuiet_nil rfl
        refine ⟨rfl, ⟨rfl, by simp [Value.oneCell']⟩, fun w5 b5 hg5 _ xb5 => ?_⟩
        have G5 := hid (GV.out.trans hg5)
        have Y5 := hid (hg5.keep Y3.out)
        obtain ⟨_, _, _⟩ := cells3 Y5.out
        have _ := fz Y5.out
        have _ := ltb Y5.out
        clear hg5 xb5
        go_wp2_with fail
        refine bodyPost_ret (v := .tuple #[scl 0 0 none 0 0, .int .i64 3]) (by simp [results, Try.results24, go_sem, *]) rfl ?_
        exact .inr ⟨HNA.out, _, _, rfl, own_nilF _ _, ((G5.out.setCell (by simp; omega) _).setCell (by simp; omega) _).setCell (by simp; omega) _⟩
    · have hke : k = xs.length := by omega
      subst hke
      have RO := hid (RdF.of_ownF OWN.out)
      have HEF : Hid (EfOk p q xs) := hid fun i hi => HOK.out i hi
      have Y9 : Hid (wr.heap[w4.heap.size + 1]? = some (.cells #[.int .i64 a, .int .i64 b, .slice A' (efL p q xs (xs.length + 1)).length c'] 37)) := hid (by rw [efL_len]; exact Y8.out)
      have hlen : (efL p q xs (xs.length + 1)).length ≤ 1048576 := by rw [efL_len]; omega
      obtain ⟨_, _, _⟩ := cells3 Y8.out
      have _ := fz Y8.out
      have _ := ltb Y8.out
      obtain ⟨_, _, _⟩ := cells3 Y3.out
      have _ := fz Y3.out
      have _ := ltb Y3.out
      cases hsc : sclB a b (efL p q xs (xs.length + 1)) with
      | true =>
        have HSC := hid hsc
        go_wp2_with fail
        refine (sScT a b A' c' _ (efL p q xs (xs.length + 1)) _ Y9 RO hlen HSC.out).mono ?_
        rintro e w7 ⟨rfl, hg7⟩
        have OWN7 := hid (own_gr OWN.out hg7); have Y7 := hid (hg7.keep Y8.out); have Z7 := hid (hg7.keep Y3.out); have G7 := hid (GV.out.trans hg7)
        clear hg7 hsc
        obtain ⟨_, _, _⟩ := cells3 Y7.out
        have _ := ltb Y7.out
        obtain ⟨_, _, _⟩ := cells3 Z7.out
        have _ := fz Z7.out
        have _ := ltb Z7.out
        go_wp2_with fail
        refine bodyPost_ret (v := .tuple #[scl a b A' (xs.length + 1) c', .int .i64 0]) (by simp [results, Try.results24, go_sem, *]) rfl ?_
        have hb : w.heap.size + 1 + 1 < w4.heap.size := ltb X4_3.out
        exact .inl ⟨HEF.out, .inl ⟨HSC.out, A', c', by rw [efL_len], by rw [efL_len]; exact own_base (base' := w.heap.size) (own_low (own_low (own_low OWN7.out (by simpa using hb) _) (by simpa using hb) _) (by simpa using hb) _) (by omega), ((G7.out.setCell (by simp; omega) _).setCell (by simp; omega) _).setCell (by simp; omega) _⟩⟩
      | false =>
        have HSC := hid hsc
        go_wp2_with fail
        refine (sScF a b A' c' _ (efL p q xs (xs.length + 1)) _ Y9 RO hlen HSC.out).mono ?_
        rintro e w7 ⟨rfl, hg7⟩
        have Z7 := hid (hg7.keep Y3.out); have G7 := hid (GV.out.trans hg7)
        clear hg7 hsc
        obtain ⟨_, _, _⟩ := cells3 Z7.out
        have _ := fz Z7.out
        have _ := ltb Z7.out
        go_wp2_with fail
        refine bodyPost_ret (v := .tuple #[scl 0 0 none 0 0, .int .i64 4]) (by simp [results, Try.results24, go_sem, *]) rfl ?_
        exact .inl ⟨HEF.out, .inr ⟨HSC.out, _, _, rfl, own_nilF _ _, ((G7.out.setCell (by simp; omega) _).setCell (by simp; omega) _).setCell (by simp; omega) _⟩⟩
end Go.Proofs.Ytnbdafecgccojaa
