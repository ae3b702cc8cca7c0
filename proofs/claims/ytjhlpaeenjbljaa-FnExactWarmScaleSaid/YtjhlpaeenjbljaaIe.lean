/- WALKS: errors of intervals, of the program and of the reference. -/
import Derived.Test.YtjhlpaeenjbljaaFm
import Derived.Test.YtjhlpaeenjbljaaRegC
import Derived.Test.YtjhlpaeenjbljaaSkh
namespace Go.Proofs.Ytjhlpaeenjbljaa
open Go.RowKit Go.Sort

theorem ownF_set {W : World} {base : Nat} {n c b : Nat} {A : Option Addr} {ys : List (Int × Int)} {x : Value} (h : W.ownsRow base 24 2 (.slice A n c) n (flatL ys)) (hb : W.heap[b]? = some (.cells #[x] 2)) (y : Value) :
    (W.setCell ⟨b, 0, none⟩ y).ownsRow base 24 2 (.slice A n c) n (flatL ys) := by
  refine ⟨h.1, ?_⟩
  rcases h.2 with h0 | ⟨g, cap, cur, h1, h2, h3, h4⟩
  · exact .inl h0
  · refine .inr ⟨g, cap, cur, h1, h2, keepSet' h3 ?_, h4⟩
    intro he
    subst he
    rw [h3] at hb
    cases hb
/-! told, of a method that is bound to a value -/
set_option maxRecDepth 20000 in
set_option maxHeartbeats 400000 in
theorem toldB_ok (f : Nat) (u : Value) (n : Nat) (ys : List (Int × Int)) (w : World) (hen : ∀ w, (callFunc f #[u]).run Try.prog w = .ok (.enter f #[u]) w) (hF : ∀ w', Gr w w' → Calls Try.prog f #[u] w' fun e w'' => ∃ A c, e = .returned (.slice A n c) ∧ w''.ownsRow w'.heap.size 24 2 (.slice A n c) n (flatL ys) ∧ Gr w' w'') :
    Calls Try.prog 78 #[.func (.func f) #[u] #[]] w fun e w' => ∃ A c, e = .returned (.tuple #[.slice A n c, .int .i64 0]) ∧ w'.ownsRow w.heap.size 24 2 (.slice A n c) n (flatL ys) ∧ Gr w w' := by
  have HF := hid hF; clear hF
  go_enter_defers Try.func78, Try.ntmps78
  go_wp2_with fail
  refine (HF.out _ (Gr.alloc _ _)).mono ?_
  rintro e w1 ⟨A, c, rfl, hR, hg⟩
  obtain ⟨x1, hz, G1⟩ := alloc1 hg
  have _ := cells1 x1
  have _ := fz x1
  have G1 := hid G1; have HR := hid (own_base hR (show w.heap.size ≤ _ by simp)); have X1 := hid x1
  clear hg x1 hR
  go_wp2_with fail
  refine leaves_cons (f := 122) (args := #[.pointer (some ⟨w.heap.size, 0, none⟩)]) (by simp) (by simp [go_sem]) ?_
  refine (catch_idle_L _ _).mono ?_
  rintro e u' w2 ⟨rfl, rfl, rfl⟩
  simp [Leaves, settle, results, Try.results78, go_sem, *]
  exact ⟨A, c, ⟨rfl, rfl⟩, ownF_set HR.out X1.out _, G1.out.setCell (by simp) _⟩
set_option maxRecDepth 20000 in
set_option maxHeartbeats 400000 in
theorem toldB_great (f : Nat) (u : Value) (w : World) (hen : ∀ w, (callFunc f #[u]).run Try.prog w = .ok (.enter f #[u]) w) (hF : ∀ w', Gr w w' → Calls Try.prog f #[u] w' fun e w'' => (∃ p q, e = .panicked [{ v := .iface 138 (fr p q), recovered := false }]) ∧ Gr w' w'') :
    Calls Try.prog 78 #[.func (.func f) #[u] #[]] w fun e w' => e = .returned (.tuple #[.slice none 0 0, .int .i64 3]) ∧ Gr w w' := by
  have HF := hid hF; clear hF
  go_enter_defers Try.func78, Try.ntmps78
  go_wp2_with fail
  refine (HF.out _ (Gr.alloc _ _)).mono ?_
  rintro e w1 ⟨⟨p, q, rfl⟩, hg⟩
  obtain ⟨x1, hz, G1⟩ := alloc1 hg
  refine leaves_cons (f := 122) (args := #[.pointer (some ⟨w.heap.size, 0, none⟩)]) (by simp) (by simp [go_sem]) ?_
  refine (catch_great_L _ _ _ _ _ _ x1).mono ?_
  rintro e u' w2 ⟨rfl, rfl, w3, hg3, rfl⟩
  have _ := cells1 (hg3.keep x1)
  simp [Leaves, settle, results, Try.results78, go_sem, *]
  exact (G1.trans hg3).setCell (by simp) _

/-! The differences -/
def sbP (p q r s : Int) : Int := redP (p * s - r * q) (q * s)
def sbQ (p q r s : Int) : Int := redQ (p * s - r * q) (q * s)
def sbB (p q r s : Int) : Bool := okB (sbP p q r s) (sbQ p q r s)
def ivAt (xs : List (Int × Int)) (k : Nat) : Int × Int := (sbP (xs.getD (k + 1) (0, 0)).1 (xs.getD (k + 1) (0, 0)).2 (xs.getD k (0, 0)).1 (xs.getD k (0, 0)).2, sbQ (xs.getD (k + 1) (0, 0)).1 (xs.getD (k + 1) (0, 0)).2 (xs.getD k (0, 0)).1 (xs.getD k (0, 0)).2)
def ivs (xs : List (Int × Int)) : List (Int × Int) := (List.range (xs.length - 1)).map (ivAt xs)
def AllV (xs : List (Int × Int)) : Prop := ∀ (k : Nat) (p q r s : Int), xs[k]? = some (r, s) → xs[k + 1]? = some (p, q) → sbB p q r s = true
theorem ivs_len (xs : List (Int × Int)) : (ivs xs).length = xs.length - 1 := by simp [ivs]
theorem ivs_take {xs : List (Int × Int)} {k : Nat} {p q r s : Int} (h0 : xs[k]? = some (r, s)) (h1 : xs[k + 1]? = some (p, q)) : (ivs xs).take (k + 1) = (ivs xs).take k ++ [(sbP p q r s, sbQ p q r s)] := by
  have hlt : k + 1 < xs.length := (List.getElem?_eq_some_iff.1 h1).1
  have hg : (ivs xs)[k]? = some (sbP p q r s, sbQ p q r s) := by
    unfold ivs
    rw [List.getElem?_map, List.getElem?_range (by omega)]
    simp [ivAt, List.getD_eq_getElem?_getD, h0, h1]
  rw [List.take_add_one, hg]
  rfl
theorem minusv_t (p q r s : Int) (w : World) (h1 : okB p q = true) (h2 : okB r s = true) (h : sbB p q r s = true) :
    Calls Try.prog 137 #[fr p q, fr r s] w fun e w' => e = .returned (fr (sbP p q r s) (sbQ p q r s)) ∧ Gr w w' := minus_yes p q r s w h1 h2 h
theorem minusv_f (p q r s : Int) (w : World) (h1 : okB p q = true) (h2 : okB r s = true) (h : sbB p q r s = false) :
    Calls Try.prog 137 #[fr p q, fr r s] w fun e w' => (∃ x y, e = .panicked [{ v := .iface 138 (fr x y), recovered := false }]) ∧ Gr w w' := minus_no p q r s w h1 h2 h
theorem ssubv_t (p q r s : Int) (w : World) (h1 : okB p q = true) (h2 : okB r s = true) (h : sbB p q r s = true) :
    Calls Try.prog 94 #[fr p q, fr r s] w fun e w' => e = .returned (.tuple #[fr (sbP p q r s) (sbQ p q r s), .int .i64 0]) ∧ Gr w w' := ssub_t p q r s w h1 h2 h
theorem ssubv_f (p q r s : Int) (w : World) (h1 : okB p q = true) (h2 : okB r s = true) (h : sbB p q r s = false) :
    Calls Try.prog 94 #[fr p q, fr r s] w fun e w' => e = .returned (.tuple #[fr 0 0, .int .i64 3]) ∧ Gr w w' := ssub_f p q r s w h1 h2 h
theorem add_two (ad : Addr) (n : Nat) : ad.add (2 + n) = ⟨ad.block, ad.off + 2 + n, none⟩ := by
  unfold Addr.add
  rw [if_neg (by omega), Nat.add_assoc]

set_option maxRecDepth 20000 in
set_option maxHeartbeats 1000000 in
theorem iivl (a b : Int) (A : Option Addr) (c : Nat) (xs : List (Int × Int)) (w : World) (X : Hid (RdF w A xs)) (hlo : 2 ≤ xs.length) (hl : xs.length ≤ 60) (hc : xs.length ≤ c) (hok : ∀ (k : Nat) (p q : Int), xs[k]? = some (p, q) → okB p q = true) :
    Calls Try.prog 134 #[scl a b A xs.length c] w fun e w' => ((AllV xs ∧ ∃ A' c', e = .returned (.slice A' (xs.length - 1) c') ∧ w'.ownsRow w.heap.size 24 2 (.slice A' (xs.length - 1) c') (xs.length - 1) (flatL (ivs xs))) ∨ (¬ AllV xs ∧ ∃ x y, e = .panicked [{ v := .iface 138 (fr x y), recovered := false }])) ∧ Gr w w' := by
  obtain ⟨i0, hi, hz0, hz1, hz2⟩ : ∃ i, Try.prog.info? 24 = some i ∧ i.zero = some (fr 0 0) ∧ i.size = 2 ∧ i.bytes = 16 := ⟨_, rfl, rfl, rfl, rfl⟩
  obtain ⟨ad, rfl, _⟩ := X.out 0 xs[0].1 xs[0].2 (List.getElem?_eq_getElem _)
  have HOK := hid hok; clear hok
  go_enter Try.func134, Try.ntmps134
  go_wp2_with fail
  go_loopw [3, 10] (fun v u wr => ∃ (k : Nat) (A' : Option Addr) (c' : Nat), u = .int .i64 (k : Int) ∧ v = .slice A' k c' ∧ k ≤ xs.length - 1 ∧ Gr (w.alloc (.cells #[.int .i64 a, .int .i64 b, .slice (some ad) xs.length c] 27)) wr ∧ wr.ownsRow (w.heap.size + 1) 24 2 (.slice A' k c') k (flatL ((ivs xs).take k)) ∧ (∀ (i : Nat) (p q r s : Int), i < k → xs[i]? = some (r, s) → xs[i + 1]? = some (p, q) → sbB p q r s = true)) (fun _ u _ => xs.length - 1 - (intOf u).toNat)
  case atStart => exact ⟨0, none, 0, rfl, rfl, by omega, Gr.refl _, own_nilF _ _, fun i p q r s h => by omega⟩
  case round =>
    obtain ⟨k, A', c', rfl, rfl, hk, hg, hown, hall⟩ := hrel
    have GW := hid hg; have OWN := hid hown; have HALL := hid hall
    have Y1 := hid (hg.keep (alloc1 (w := w) (A := (.cells #[.int .i64 a, .int .i64 b, .slice (some ad) xs.length c] 27)) (Gr.refl _)).1)
    have GV := hid (((Gr.refl w).al (.cells #[.int .i64 a, .int .i64 b, .slice (some ad) xs.length c] 27)).trans hg)
    clear hg hown hall
    by_cases hlt : k < xs.length - 1
    · obtain ⟨⟨r, s⟩, h0⟩ : ∃ pq, xs[k]? = some pq := ⟨xs[k], List.getElem?_eq_getElem _⟩
      obtain ⟨⟨p, q⟩, h1⟩ : ∃ pq, xs[k + 1]? = some pq := ⟨xs[k + 1], List.getElem?_eq_getElem _⟩
      have HO0 := hid (HOK.out _ _ _ h0); have HO1 := hid (HOK.out _ _ _ h1)
      obtain ⟨ad0, e0, c1, c2⟩ := (X.out.keep GV.out) k r s h0
      cases e0
      obtain ⟨ad1, e1, c3, c4⟩ := (X.out.keep GV.out) (k + 1) p q h1
      cases e1
      rw [show (k + 1) * 2 = 2 + k * 2 by omega, add_two] at c3 c4
      obtain ⟨ad2, e2, d1, d2⟩ := (X.out.keep (GV.out.al (.cells #[.int .i64 p, .int .i64 q] 24))) k r s h0
      cases e2
      have D1 := hid d1; have D2 := hid d2
      have H0 := hid h0; have H1 := hid h1
      have HTK := hid (ivs_take h0 h1)
      clear c1 c2 d1 d2 h0 h1
      cases hd : sbB p q r s with
      | true =>
        have HD := hid hd
        have hmn := fun w => minusv_t p q r s w HO1.out HO0.out HD.out
        obtain ⟨P, hP⟩ : ∃ P, sbP p q r s = P := ⟨_, rfl⟩
        obtain ⟨Q, hQ⟩ : ∃ Q, sbQ p q r s = Q := ⟨_, rfl⟩
        rw [hP, hQ] at hmn HTK
        have HMN := hid hmn
        clear hd hmn hP hQ
        obtain ⟨_, _, _⟩ := cells3 Y1.out
        have _ := fz Y1.out
        have _ := ltb Y1.out
        go_wp2_with fail
        refine wp_regA (b0 := .cells #[.int .i64 P, .int .i64 Q] 24) (fun b => .slice (some ⟨b, 0, none⟩) 1 1) 9 8 23 (by kernel_rfl) (by kernel_rfl) rfl rfl (by simp) ?_
        apply Exists.intro
        refine ⟨fun wb hb => ?_, fun w' => ?_, ?_⟩
        · obtain ⟨_, _, _⟩ := hb.at3 (((Gr.refl _).al _).keep Y1.out)
          obtain ⟨_, _⟩ := hb.at2 (alloc1 (Gr.refl _)).1
          have _ := hb.atF D1.out; have _ := hb.atF D2.out
          simp only [headOps, List.contains, List.elem, Nat.reduceAdd, Nat.reduceBEq, reduceIte, Bool.false_eq_true, dumOp]
          repeat (first | go_big_quiet_step (first | (go_at_call 137; exact Calls.of_gr (HMN.out _))) | quiet_step (fail))
          exact wpQuiet_nil rfl
        · kernel_rfl
        intro w3 nb hg3 hb3 xb
        have OWN3 := hid (own_gr OWN.out (((Gr.refl _).al _).trans hg3))
        have NEW := hid (one_newsF xb)
        have G3 := hid ((GW.out.al _).trans hg3)
        have hsz := G3.out.size
        clear hg3 hb3 xb OWN c3 c4
        simp only [List.drop_succ_cons, List.drop_zero]
        refine (wpList_append_gr rfl _ _ 25 rfl (w.heap.size + 1) 24 i0 (fr 0 0) 2 16 Try.underlying25 hi hz0 hz1 hz2 rfl (by decide) _ k _ rfl OWN3.out ⟨nb, 0, none⟩ 1 1 [.int .i64 P, .int .i64 Q] rfl rfl NEW.out (by simp [Value.oneCell']) (by decide) (by unfold maxLen; omega) (by omega) (by simpa using hsz) ?_)
        intro v' w4 own4 _ _ hgr
        obtain ⟨A2, c2, rfl⟩ := own_form own4
        rw [flatL_app, ← HTK.out] at own4
        have OWN4 := hid own4
        have G4 := hid (hgr _ G3.out (by simp))
        clear own4 hgr OWN3 NEW hsz
        go_wp2_with fail
        refine ⟨⟨k + 1, A2, c2, by simp, by simp, by omega, G4.out, OWN4.out, fun i p' q' r' s' hi h0 h1 => ?_⟩, by simp [intOf]; omega⟩
        by_cases hik : i = k
        · subst hik
          have := H0.out.symm.trans h0
          cases this
          have := H1.out.symm.trans h1
          cases this
          exact HD.out
        · exact HALL.out i p' q' r' s' (by omega) h0 h1
      | false =>
        have HD := hid hd
        have HMN := hid fun w => minusv_f p q r s w HO1.out HO0.out HD.out
        have HNA : Hid (¬ AllV xs) := hid fun h => by have := h k p q r s H0.out H1.out; rw [HD.out] at this; cases this
        clear hd
        obtain ⟨_, _, _⟩ := cells3 Y1.out
        have _ := fz Y1.out
        have _ := ltb Y1.out
        go_wp2_with fail
        refine wp_regC 7 [8, 9, 10] (by kernel_rfl) (by kernel_rfl) rfl ?_
        apply Exists.intro
        refine ⟨137, #[fr p q, fr r s], fun wb hb => ?_, ?_⟩
        · obtain ⟨_, _, _⟩ := hb.at3 (((Gr.refl _).al _).keep Y1.out)
          obtain ⟨_, _⟩ := hb.at2 (alloc1 (Gr.refl _)).1
          have _ := hb.atF D1.out; have _ := hb.atF D2.out
          simp only [headOps, List.contains, List.elem, List.length_cons, List.length_nil, Nat.zero_add, Nat.reduceAdd, Nat.reduceBEq, reduceIte, Bool.false_eq_true, dumOp]
          repeat (first | go_big_quiet_step (first | (fail)) | quiet_step (fail))
          exact wpQuiet_nil rfl
        refine ⟨fun w' => by kernel_rfl, fun w' hg' => (HMN.out w').mono fun e w2 ⟨⟨x, y, he⟩, hg2⟩ => ⟨_, he, fun a' ha' => ⟨ha', .inr ⟨HNA.out, x, y, rfl⟩, ((GV.out.al _).trans hg').trans hg2⟩⟩⟩
    · have hke : k = xs.length - 1 := by omega
      subst hke
      go_wp2_with fail
      go_ret
      have h := OWN.out
      rw [← ivs_len xs, List.take_length, ivs_len] at h
      refine ⟨.inl ⟨fun k p q r s h0 h1 => HALL.out k p q r s (by have := (List.getElem?_eq_some_iff.1 h1).1; omega) h0 h1, A', c', rfl, own_base h (by omega)⟩, GV.out⟩

/-! The reference -/
set_option maxRecDepth 20000 in
set_option maxHeartbeats 1000000 in
theorem sivl (a b : Int) (A : Option Addr) (c j : Nat) (xs : List (Int × Int)) (w : World) (X1 : Hid (w.heap[j]? = some (.cells #[.int .i64 a, .int .i64 b, .slice A xs.length c] 27))) (X : Hid (RdF w A xs)) (hlo : 2 ≤ xs.length) (hl : xs.length ≤ 60) (hok : ∀ (k : Nat) (p q : Int), xs[k]? = some (p, q) → okB p q = true) :
    Calls Try.prog 92 #[.pointer (some ⟨j, 0, none⟩)] w fun e w' => (AllV xs ∧ GivesF w w' e (ivs xs) 0) ∨ (¬ AllV xs ∧ GivesF w w' e [] 3) := by
  obtain ⟨i0, hi, hz0, hz1, hz2⟩ : ∃ i, Try.prog.info? 24 = some i ∧ i.zero = some (fr 0 0) ∧ i.size = 2 ∧ i.bytes = 16 := ⟨_, rfl, rfl, rfl, rfl⟩
  obtain ⟨ad, rfl, _⟩ := X.out 0 xs[0].1 xs[0].2 (List.getElem?_eq_getElem _)
  have HOK := hid hok; clear hok
  have hjw := ltb X1.out
  go_enter Try.func92, Try.ntmps92
  go_wp2_with fail
  go_loopw [4, 5] (fun v u wr => ∃ (k : Nat) (A' : Option Addr) (c' : Nat), u = .int .i64 ((k : Int) + 1) ∧ v = .slice A' k c' ∧ k ≤ xs.length - 1 ∧ Gr w wr ∧ wr.ownsRow w.heap.size 24 2 (.slice A' k c') k (flatL ((ivs xs).take k)) ∧ (∀ (i : Nat) (p q r s : Int), i < k → xs[i]? = some (r, s) → xs[i + 1]? = some (p, q) → sbB p q r s = true)) (fun _ u _ => xs.length - (intOf u).toNat)
  case atStart => exact ⟨0, _, _, rfl, rfl, by omega, (Gr.refl _).al _, World.ownsRow_made _ #[] 0 (Nat.le_refl _) (by simp [maxLen]) (by simp), fun i p q r s h => by omega⟩
  case round =>
    obtain ⟨k, A', c', rfl, rfl, hk, hg, hown, hall⟩ := hrel
    have GW := hid hg; have OWN := hid hown; have HALL := hid hall
    have Y1 := hid (hg.keep X1.out)
    clear hg hown hall
    by_cases hlt : k < xs.length - 1
    · obtain ⟨⟨r, s⟩, h0⟩ : ∃ pq, xs[k]? = some pq := ⟨xs[k], List.getElem?_eq_getElem _⟩
      obtain ⟨⟨p, q⟩, h1⟩ : ∃ pq, xs[k + 1]? = some pq := ⟨xs[k + 1], List.getElem?_eq_getElem _⟩
      have HO0 := hid (HOK.out _ _ _ h0); have HO1 := hid (HOK.out _ _ _ h1)
      obtain ⟨ad0, e0, c1, c2⟩ := (X.out.keep GW.out) k r s h0
      cases e0
      obtain ⟨ad1, e1, c3, c4⟩ := (X.out.keep GW.out) (k + 1) p q h1
      cases e1
      have C1 := hid c1; have C2 := hid c2; have C3 := hid c3; have C4 := hid c4
      have H0 := hid h0; have H1 := hid h1
      have HTK := hid (ivs_take h0 h1)
      clear c1 c2 c3 c4 h0 h1
      cases hd : sbB p q r s with
      | true =>
        have HD := hid hd
        have hmn := fun w => ssubv_t p q r s w HO1.out HO0.out HD.out
        obtain ⟨P, hP⟩ : ∃ P, sbP p q r s = P := ⟨_, rfl⟩
        obtain ⟨Q, hQ⟩ : ∃ Q, sbQ p q r s = Q := ⟨_, rfl⟩
        rw [hP, hQ] at hmn HTK
        have HMN := hid hmn
        clear hd hmn hP hQ
        obtain ⟨_, _, _⟩ := cells3 Y1.out
        have _ := fz Y1.out
        have _ := ltb Y1.out
        go_wp2_with fail
        refine wp_reg1s #[.int .i64 0, .int .i64 0] 21 19 6 20 35 (by kernel_rfl) (by kernel_rfl) rfl rfl (by simp) rfl rfl (by decide) (fun _ _ => by kernel_rfl) (by kernel_rfl) ?_
        apply Exists.intro; apply Exists.intro
        refine ⟨fun wb hb => ?_, ?_⟩
        · obtain ⟨_, _, _⟩ := hb.at3 Y1.out
          have _ := hb.atF C1.out; have _ := hb.atF C2.out; have _ := hb.atF C3.out; have _ := hb.atF C4.out
          simp only [headOps, List.contains, List.elem, Nat.reduceAdd, Nat.reduceBEq, reduceIte, Bool.false_eq_true, dumOp]
          repeat (first | go_big_quiet_step (first | (go_at_call 94; exact Calls.of_gr (HMN.out _))) | quiet_step (fail))
          exact wpQuiet_nil rfl
        refine ⟨rfl, ⟨rfl, by simp [Value.oneCell']⟩, fun w1 b1 hg1 _ xb1 => ?_⟩
        have OWN2 := hid (own_gr OWN.out (hg1.al (.cells #[.int .i64 P, .int .i64 Q] 24)))
        have NEW := hid (one_newsF (w := w1.alloc (.cells #[.int .i64 P, .int .i64 Q] 24)) (b := w1.heap.size) (alloc1 (Gr.refl _)).1)
        have G2 := hid ((GW.out.trans hg1).al (.cells #[.int .i64 P, .int .i64 Q] 24))
        have hsz := G2.out.size
        obtain ⟨_, _⟩ := cells2 xb1
        have _ := fz xb1
        have _ := ltb xb1
        clear hg1 xb1 OWN
        go_wp2_with (at_builtin; refine (wpList_append_gr rfl _ _ 25 rfl w.heap.size 24 i0 (fr 0 0) 2 16 Try.underlying25 hi hz0 hz1 hz2 rfl (by decide) _ k _ rfl OWN2.out ⟨w1.heap.size, 0, none⟩ 1 1 [.int .i64 P, .int .i64 Q] rfl rfl NEW.out (by simp [Value.oneCell']) (by decide) (by unfold maxLen; omega) (by omega) hsz ?_))
        intro v' w4 own4 _ _ hgr
        obtain ⟨A2, c2, rfl⟩ := own_form own4
        rw [flatL_app, ← HTK.out] at own4
        have OWN4 := hid own4
        have G4 := hid (hgr _ G2.out (Nat.le_refl _))
        clear own4 hgr OWN2 NEW hsz
        go_wp2_with fail
        refine ⟨⟨k + 1, A2, c2, by simp, by simp, by omega, G4.out, OWN4.out, fun i p' q' r' s' hi h0 h1 => ?_⟩, by simp [intOf]; omega⟩
        by_cases hik : i = k
        · subst hik
          have := H0.out.symm.trans h0
          cases this
          have := H1.out.symm.trans h1
          cases this
          exact HD.out
        · exact HALL.out i p' q' r' s' (by omega) h0 h1
      | false =>
        have HD := hid hd
        have HMN := hid fun w => ssubv_f p q r s w HO1.out HO0.out HD.out
        have HNA : Hid (¬ AllV xs) := hid fun h => by have := h k p q r s H0.out H1.out; rw [HD.out] at this; cases this
        clear hd
        obtain ⟨_, _, _⟩ := cells3 Y1.out
        have _ := fz Y1.out
        have _ := ltb Y1.out
        go_wp2_with fail
        refine wp_reg1s #[.int .i64 0, .int .i64 0] 21 19 6 20 35 (by kernel_rfl) (by kernel_rfl) rfl rfl (by simp) rfl rfl (by decide) (fun _ _ => by kernel_rfl) (by kernel_rfl) ?_
        apply Exists.intro; apply Exists.intro
        refine ⟨fun wb hb => ?_, ?_⟩
        · obtain ⟨_, _, _⟩ := hb.at3 Y1.out
          have _ := hb.atF C1.out; have _ := hb.atF C2.out; have _ := hb.atF C3.out; have _ := hb.atF C4.out
          simp only [headOps, List.contains, List.elem, Nat.reduceAdd, Nat.reduceBEq, reduceIte, Bool.false_eq_true, dumOp]
          repeat (first | go_big_quiet_step (first | (go_at_call 94; exact Calls.of_gr (HMN.out _))) | quiet_step (fail))
          exact wpQuiet_nil rfl
        refine ⟨rfl, ⟨rfl, by simp [Value.oneCell']⟩, fun w1 b1 hg1 _ xb1 => ?_⟩
        have G1 := hid (GW.out.trans hg1)
        have hsz := G1.out.size
        clear hg1 xb1
        go_wp2_with fail
        go_ret2
        exact .inr ⟨HNA.out, _, _, rfl, World.ownsRow_made _ #[] 0 hsz (by simp [maxLen]) (by simp), G1.out.al _⟩
    · have hke : k = xs.length - 1 := by omega
      subst hke
      obtain ⟨_, _, _⟩ := cells3 Y1.out
      have _ := fz Y1.out
      have _ := ltb Y1.out
      go_wp2_with fail
      go_ret2
      have h := OWN.out
      rw [← ivs_len xs, List.take_length] at h
      exact .inl ⟨fun k p q r s h0 h1 => HALL.out k p q r s (by have := (List.getElem?_eq_some_iff.1 h1).1; omega) h0 h1, A', c', by rw [ivs_len]; rfl, h, GW.out⟩

/-! IntervalErrors -/
end Go.Proofs.Ytjhlpaeenjbljaa
