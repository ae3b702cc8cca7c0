/- WALKS: closings that are shared out, of the reference and of the program. -/
import Derived.Test.YtlekfoboolemgaaIu
import Derived.Test.YtlekfoboolemgaaRegA
namespace Go.Proofs.Ytlekfoboolemgaa
open Go.RowKit Go.Sort

def shAt (xs : List Int) (e : Int) (k : Nat) : Int := xs.getD k 0 - (downI (((k : Int) + 1) * e) (xs.length : Int) - downI ((k : Int) * e) (xs.length : Int))
def shr (xs : List Int) : List Int := (List.range xs.length).map (fun k : Nat => shAt xs (clo xs) k)
theorem shr_len (xs : List Int) : (shr xs).length = xs.length := by simp [shr]
theorem shr_get (xs : List Int) {k : Nat} (h : k < xs.length) : (shr xs)[k]? = some (shAt xs (clo xs) k) := by simp [shr, h]
theorem shr_take (xs : List Int) {k : Nat} (h : k < xs.length) : (shr xs).take (k + 1) = (shr xs).take k ++ [shAt xs (clo xs) k] := by
  rw [List.take_add_one, shr_get xs h]
  rfl
theorem own_gr {w w' : World} {base : Nat} {e : TypeId} {size n : Nat} {v : Value} {xs : List Value} (h : w.ownsRow base e size v n xs) (hg : Gr w w') : w'.ownsRow base e size v n xs := by
  refine ⟨h.1, ?_⟩
  rcases h.2 with h0 | ⟨g, cap, cur, h1, h2, h3, h4⟩
  · exact .inl h0
  · exact .inr ⟨g, cap, cur, h1, h2, hg.keep h3, h4⟩
theorem Gr.atA {w wb : World} (h : Gr w wb) {a : Addr} {v : Value} (hc : w.cell? a = some v) : ∀ (m : Nat) (os : Array Obj), (grow (wb.drewN m) os).cell? a = some v := fun m os =>
  ((h.trans ⟨⟨m, os⟩, rfl⟩).cellI (World.block_lt_of_cell? _ _ hc)).trans hc
theorem one_news {w : World} {b : Nat} {v : Value} {T : TypeId} (h : w.heap[b]? = some (.cells #[v] T)) : ∀ (j : Nat) (u : Value), [v][j]? = some u → w.cell? ((⟨b, 0, none⟩ : Addr).add j) = some u := by
  intro j u hj
  match j with
  | 0 => simp at hj; subst hj; rw [add_at]; exact cells1 h
  | j + 1 => simp at hj
theorem own_form {w : World} {base : Nat} {e : TypeId} {size n : Nat} {v : Value} {xs : List Value} (h : w.ownsRow base e size v n xs) : ∃ A c, v = .slice A n c := by
  rcases h.2 with ⟨rfl, rfl⟩ | ⟨g, cap, cur, rfl, _⟩
  · exact ⟨none, 0, rfl⟩
  · exact ⟨_, cap, rfl⟩
theorem own_base {w : World} {base base' : Nat} {e : TypeId} {size n : Nat} {v : Value} {xs : List Value} (h : w.ownsRow base e size v n xs) (hb : base' ≤ base) : w.ownsRow base' e size v n xs := by
  refine ⟨h.1, ?_⟩
  rcases h.2 with h0 | ⟨g, cap, cur, h1, h2, h3, h4⟩
  · exact .inl h0
  · exact .inr ⟨g, cap, cur, h1, by omega, h3, h4⟩
/-- A slice of integers of the call's own, and a code. -/
def GivesI (w w' : World) (e : Ending) (ys : List Int) (C : Int) : Prop := ∃ A c, e = .returned (.tuple #[.slice A ys.length c, .int .i64 C]) ∧ w'.ownsRow w.heap.size 2 1 (.slice A ys.length c) ys.length (ys.map (.int .i64 ·)) ∧ Gr w w'
theorem sh_bd {xs : List Int} (h2 : xs.length ≤ 72) (h3 : xs.all okSec = true) {k : Nat} (hk : k < xs.length) :
    (-1000000000000000000 ≤ ((k : Int) + 1) * clo xs ∧ ((k : Int) + 1) * clo xs ≤ 1000000000000000000) ∧ (-1000000000000000000 ≤ (k : Int) * clo xs ∧ (k : Int) * clo xs ≤ 1000000000000000000) := by
  have hb := clo_bd xs xs.length h3 (Nat.le_refl _)
  rw [List.take_length] at hb
  exact ⟨mul_bd (by omega) (by omega) (by omega) (by omega), mul_bd (by omega) (by omega) (by omega) (by omega)⟩
theorem down_bd (p q : Int) (h1 : -1000000000000000000 ≤ p) (h2 : p ≤ 1000000000000000000) : -4000000000000000001 ≤ downI p q ∧ downI p q ≤ 4000000000000000000 := by
  have := tdiv_bd' p q (by omega) (by omega)
  unfold downI
  split <;> omega

set_option maxRecDepth 20000 in
set_option maxHeartbeats 1000000 in
theorem sShared (A : Option Addr) (c : Nat) (xs : List Int) (w : World) (X : Hid (RdI w A xs)) (h : secB xs = true) :
    Calls Try.prog 80 #[.slice A xs.length c] w fun e w' => ∃ A' c', e = .returned (.slice A' (shr xs).length c') ∧ w'.ownsRow w.heap.size 2 1 (.slice A' (shr xs).length c') (shr xs).length ((shr xs).map (.int .i64 ·)) ∧ Gr w w' := by
  obtain ⟨h1, h2, h3⟩ := sec_parts h
  have H3 := hid h3
  have H := hid h
  obtain ⟨i0, hi, hz0, hz1, hz2⟩ : ∃ i, Try.prog.info? 2 = some i ∧ i.zero = some (.int .i64 0) ∧ i.size = 1 ∧ i.bytes = 8 := ⟨_, rfl, rfl, rfl, rfl⟩
  clear h h3
  go_enter Try.func80, Try.ntmps80
  go_wp2_with (go_at_call 77; refine (sClosing A c xs _ X H.out).mono ?_; rintro e w1 ⟨rfl, rfl⟩)
  go_loopw [5, 6] (fun v u wr => ∃ (k : Nat) (A' : Option Addr) (c' : Nat), u = .int .i64 (k : Int) ∧ v = .slice A' k c' ∧ k ≤ xs.length ∧ Gr w wr ∧ wr.ownsRow w.heap.size 2 1 (.slice A' k c') k (((shr xs).take k).map (.int .i64 ·))) (fun _ u _ => xs.length - (intOf u).toNat)
  case atStart => exact ⟨0, _, _, rfl, rfl, by omega, (Gr.refl _).al _, World.ownsRow_made _ #[] 0 (Nat.le_refl _) (by simp [maxLen]) (by simp)⟩
  case round =>
    obtain ⟨k, A', c', rfl, rfl, hk, hg, hown⟩ := hrel
    have HG := hid hg; have OWN := hid hown
    clear hg hown
    by_cases hlt : k < xs.length
    · obtain ⟨p, hp⟩ : ∃ p, xs[k]? = some p := ⟨xs[k], List.getElem?_eq_getElem _⟩
      obtain ⟨ad, rfl, c1⟩ := (X.out.keep HG.out) k p hp
      obtain ⟨⟨m1, m2⟩, m3, m4⟩ := sh_bd h2 H3.out hlt
      obtain ⟨d1, d2⟩ := down_bd _ (xs.length : Int) m1 m2
      obtain ⟨d3, d4⟩ := down_bd _ (xs.length : Int) m3 m4
      have hx := allI_get hp H3.out
      unfold okSec at hx
      simp only [Bool.and_eq_true, decide_eq_true_eq] at hx
      obtain ⟨_, _⟩ := hx
      have hsh : shAt xs (clo xs) k = p - (downI (((k : Int) + 1) * clo xs) (xs.length : Int) - downI ((k : Int) * clo xs) (xs.length : Int)) := by unfold shAt; rw [List.getD_eq_getElem?_getD, hp]; rfl
      have HSH := hid hsh; clear hsh hp
      go_wp2_with fail
      refine wp_regA (b0 := .cells #[.int .i64 (shAt xs (clo xs) k)] 2) (fun b => .slice (some ⟨b, 0, none⟩) 1 1) 19 18 35 (by kernel_rfl) (by kernel_rfl) rfl rfl (by simp) ?_
      apply Exists.intro
      refine ⟨fun wb hb => ?_, fun w' => ?_, ?_⟩
      · have _ := hb.atA c1
        simp only [headOps, List.contains, List.elem, Nat.reduceAdd, Nat.reduceBEq, reduceIte, Bool.false_eq_true, dumOp]
        repeat (first | go_big_quiet_step (first | (go_at_call 94; exact Calls.of_same (sdown _ _ _ (by omega) (by omega) (by omega) (by omega)))) | quiet_step (fail))
        exact wpQuiet_nil rfl
      · rw [HSH.out]
        kernel_rfl
      intro w1 b hg1 hb1 xb
      have OWN1 := hid (own_gr OWN.out hg1)
      have NEW := hid (one_news xb)
      have G1 := hid (HG.out.trans hg1)
      have hsz := G1.out.size
      clear hg1 hb1 xb c1 OWN
      simp only [List.drop_succ_cons, List.drop_zero]
      refine (wpList_append_gr rfl _ _ 48 rfl w.heap.size 2 i0 (.int .i64 0) 1 8 Try.underlying48 hi hz0 hz1 hz2 rfl (by decide) _ k _ rfl OWN1.out ⟨b, 0, none⟩ 1 1 [.int .i64 (shAt xs (clo xs) k)] rfl rfl NEW.out (by simp [Value.oneCell']) (by decide) (by unfold maxLen; omega) (by omega) hsz ?_)
      intro v' w2 own2 _ _ hgr
      obtain ⟨A2, c2, rfl⟩ := own_form own2
      have e2 : (((shr xs).take k).map (Value.int .i64 ·)) ++ [.int .i64 (shAt xs (clo xs) k)] = ((shr xs).take (k + 1)).map (Value.int .i64 ·) := by rw [shr_take xs hlt]; simp
      rw [e2] at own2
      have OWN2 := hid own2
      have G2 := hid (hgr w G1.out (Nat.le_refl _))
      clear own2 hgr e2 OWN1 NEW hsz
      go_wp2_with fail
      exact ⟨⟨k + 1, A2, c2, by simp, by simp, by omega, G2.out, OWN2.out⟩, by simp [intOf]; omega⟩
    · have hke : k = xs.length := by omega
      subst hke
      go_wp2_with fail
      go_ret
      have h := OWN.out
      have e : (shr xs).take xs.length = shr xs := by rw [← shr_len]; simp
      rw [e] at h
      rw [shr_len]
      exact ⟨A', c', rfl, h, HG.out⟩

/-! ShareClosing -/
set_option maxRecDepth 20000 in
set_option maxHeartbeats 1000000 in
theorem sShare_yes (A : Option Addr) (c : Nat) (xs : List Int) (w : World) (X : Hid (RdI w A xs)) (h : secB xs = true) :
    Calls Try.prog 41 #[.slice A xs.length c] w fun e w' => GivesI w w' e (shr xs) 0 := by
  have H := hid h; clear h
  go_enter Try.func41, Try.ntmps41
  go_wp2_with fail
  refine (sSectors_yes A c xs _ X H.out).mono ?_
  rintro e w1 ⟨rfl, hg1⟩
  have G1 := hid (hg1)
  clear hg1
  go_wp2_with fail
  refine (sShared A c xs _ (hid (X.out.keep G1.out)) H.out).mono ?_
  rintro e w2 ⟨A', c', rfl, own, hg2⟩
  have OWN := hid own; have G2 := hid (G1.out.trans hg2)
  have hsz := G1.out.size
  clear own hg2
  go_wp2_with fail
  go_ret2
  exact ⟨A', c', rfl, own_base OWN.out hsz, G2.out⟩
set_option maxRecDepth 20000 in
set_option maxHeartbeats 1000000 in
theorem sShare_no (A : Option Addr) (c : Nat) (xs : List Int) (w : World) (X : Hid (RdI w A xs)) (hn : xs.length ≤ 1048576) (h : secB xs = false) :
    Calls Try.prog 41 #[.slice A xs.length c] w fun e w' => GivesI w w' e [] 2 := by
  go_enter Try.func41, Try.ntmps41
  go_wp2_with fail
  refine (sSectors_no A c xs _ X hn h).mono ?_
  rintro e w1 ⟨rfl, hg1⟩
  have G1 := hid (hg1)
  clear hg1
  go_wp2_with fail
  go_ret2
  exact ⟨_, _, rfl, World.ownsRow_made _ #[] 0 G1.out.size (by simp [maxLen]) (by simp), G1.out.al _⟩
/-- A row of the call's own: what it holds, and what is spare. -/
def intR (ys : List Int) (rest : List Value) : Array Value := ((ys.map (Value.int .i64 ·)) ++ rest).toArray
theorem intR_size (ys : List Int) (rest : List Value) : (intR ys rest).size = ys.length + rest.length := by simp [intR]
theorem intR_get {ys : List Int} {rest : List Value} {k : Nat} {p : Int} (h : ys[k]? = some p) : (intR ys rest)[k]? = some (.int .i64 p) := by
  have hk : k < ys.length := (List.getElem?_eq_some_iff.1 h).1
  unfold intR
  rw [List.getElem?_toArray, List.getElem?_append_left (by simpa using hk), List.getElem?_map, h]
  rfl
theorem intR_set {ys : List Int} {rest : List Value} {k : Nat} (p : Int) (h : k < ys.length) : (intR ys rest).setIfInBounds k (.int .i64 p) = intR (ys.set k p) rest := by
  unfold intR
  simp [List.map_set, h]
theorem intR_cell {w : World} {g k : Nat} {T : TypeId} {ys : List Int} {rest : List Value} {p : Int} (h : w.heap[g]? = some (.cells (intR ys rest) T)) (hk : ys[k]? = some p) : w.cell? ⟨g, k, none⟩ = some (.int .i64 p) := by
  have := intR_get (rest := rest) hk
  simp [World.cell?, h, this]
theorem intR_store {w : World} {g k : Nat} {T : TypeId} {ys : List Int} {rest : List Value} (p : Int) (h : w.heap[g]? = some (.cells (intR ys rest) T)) (hk : k < ys.length) :
    (w.setCell ⟨g, k, none⟩ (.int .i64 p)).heap[g]? = some (.cells (intR (ys.set k p) rest) T) := by
  have e1 := Joins.block_setCell (i := k) h (.int .i64 p)
  rw [intR_set p hk] at e1
  exact e1
theorem own_open {w : World} {base : Nat} {E : TypeId} {A : Option Addr} {c : Nat} {xs : List Int} (h : w.ownsRow base E 1 (.slice A xs.length c) xs.length (xs.map (Value.int .i64 ·))) (h0 : 0 < xs.length) :
    ∃ g rest, A = some ⟨g, 0, none⟩ ∧ base ≤ g ∧ w.heap[g]? = some (.cells (intR xs rest) E) ∧ c ≤ maxLen ∧ xs.length + rest.length = c := by
  rcases h.2 with ⟨hv, hn⟩ | ⟨g, cap, cur, hv, hb, hg, hnc, hcm, hcs, ht⟩
  · omega
  · injection hv with e1 e2 e3
    subst e1 e3
    rw [Nat.mul_one] at ht hcs
    refine ⟨g, cur.toList.drop xs.length, rfl, hb, ?_, hcm, ?_⟩
    · rw [hg]
      have : intR xs (cur.toList.drop xs.length) = cur := by
        unfold intR
        rw [← ht, List.take_append_drop]
      rw [this]
    · have := congrArg List.length ht
      simp at this ⊢
      omega
theorem own_close {w : World} {base g : Nat} {E : TypeId} {c : Nat} {ys : List Int} {rest : List Value} (hb : base ≤ g) (hg : w.heap[g]? = some (.cells (intR ys rest) E)) (hc : c ≤ maxLen) (hl : ys.length + rest.length = c) :
    w.ownsRow base E 1 (.slice (some ⟨g, 0, none⟩) ys.length c) ys.length (ys.map (Value.int .i64 ·)) :=
  ⟨by simp, .inr ⟨g, c, _, rfl, hb, hg, by omega, hc, by rw [intR_size]; omega, by simp [intR]⟩⟩
set_option maxRecDepth 20000 in
set_option maxHeartbeats 1000000 in
theorem iClone (A : Option Addr) (c : Nat) (xs : List Int) (w : World) (X : Hid (RdI w A xs)) (h0 : 0 < xs.length) (hn : xs.length ≤ 1048576) :
    Calls Try.prog 81 #[.slice A xs.length c] w fun e w' => ∃ A' c', e = .returned (.slice A' xs.length c') ∧ w'.ownsRow w.heap.size 2 1 (.slice A' xs.length c') xs.length (xs.map (.int .i64 ·)) ∧ Gr w w' := by
  obtain ⟨i0, hi, hz0, hz1, hz2⟩ : ∃ i, Try.prog.info? 2 = some i ∧ i.zero = some (.int .i64 0) ∧ i.size = 1 ∧ i.bytes = 8 := ⟨_, rfl, rfl, rfl, rfl⟩
  obtain ⟨ad, rfl, _⟩ := X.out 0 xs[0] (List.getElem?_eq_getElem _)
  have NEW : Hid (∀ (j : Nat) (u : Value), (xs.map (Value.int .i64 ·))[j]? = some u → (w.alloc (.cells #[] 2)).cell? (ad.add j) = some u) := fun j u hj => by
    rw [List.getElem?_map, Option.map_eq_some_iff] at hj
    obtain ⟨p, hp, rfl⟩ := hj
    obtain ⟨ad', e, hc⟩ := (X.out.keep ((Gr.refl w).al (.cells #[] 2))) j p hp
    cases e
    exact hc
  have hnil : ∀ (ad : Addr) (n c : Nat) (w : World), (binOp .eql 48 (.slice (some ad) n c) (.slice none 0 0)).run Try.prog w = .ok (.bool false) w := fun _ _ _ _ => by kernel_rfl
  go_enter Try.func81, Try.ntmps81
  go_wp2_with (at_builtin; refine wpList_append_gr rfl _ _ 48 rfl w.heap.size 2 i0 (.int .i64 0) 1 8 Try.underlying48 hi hz0 hz1 hz2 rfl (by decide) _ 0 [] rfl (World.ownsRow_made _ #[] 0 (Nat.le_refl _) (by simp [maxLen]) (by simp)) ad xs.length c (xs.map (Value.int .i64 ·)) rfl (by simp) NEW.out (by simp [Value.oneCell']) h0 (by unfold maxLen; omega) (by omega) (by simp) ?_)
  intro v' w2 own2 _ _ hgr
  obtain ⟨A2, c2, rfl⟩ := own_form own2
  have OWN2 := hid own2
  have G2 := hid (hgr w ((Gr.refl w).al _) (Nat.le_refl _))
  clear own2 hgr
  go_wp2_with fail
  go_ret
  exact ⟨A2, c2, rfl, OWN2.out, G2.out⟩

theorem down_zero (n e : Int) : downI (((0 : Nat) : Int) * e) n = 0 := by simp [downI]
def ysh (xs : List Int) (k : Nat) : List Int := (shr xs).take k ++ xs.drop k
theorem ysh_len {xs : List Int} {k : Nat} (h : k ≤ xs.length) : (ysh xs k).length = xs.length := by simp [ysh, shr_len]; omega
theorem ysh_get {xs : List Int} {k : Nat} {p : Int} (h : xs[k]? = some p) : (ysh xs k)[k]? = some p := by
  have hk : k < xs.length := (List.getElem?_eq_some_iff.1 h).1
  have hl : ((shr xs).take k).length = k := by simp [shr_len]; omega
  unfold ysh
  rw [List.getElem?_append_right (by omega), hl, Nat.sub_self, List.getElem?_drop]
  simpa using h
theorem ysh_set {xs : List Int} {k : Nat} (hk : k < xs.length) : (ysh xs k).set k (shAt xs (clo xs) k) = ysh xs (k + 1) := by
  have hl : ((shr xs).take k).length = k := by simp [shr_len]; omega
  unfold ysh
  rw [List.set_append_right _ _ (by omega), hl, Nat.sub_self, shr_take xs hk, List.drop_eq_getElem_cons hk, List.set_cons_zero]
  simp
set_option maxRecDepth 20000 in
set_option maxHeartbeats 1000000 in
theorem iShare_no (A : Option Addr) (c : Nat) (xs : List Int) (w : World) (X : Hid (RdI w A xs)) (hn : xs.length ≤ 1048576) (h : secB xs = false) :
    Calls Try.prog 42 #[.slice A xs.length c] w fun e w' => GivesI w w' e [] 2 := by
  go_enter Try.func42, Try.ntmps42
  go_wp2_with fail
  refine (iClosing_no A c xs _ X hn h).mono ?_
  rintro e w1 ⟨rfl, rfl⟩
  go_wp2_with fail
  go_ret2
  exact ⟨_, _, rfl, World.ownsRow_nil _ _ _ _, Gr.refl _⟩
set_option maxRecDepth 20000 in
set_option maxHeartbeats 1000000 in
theorem iShare_yes (A : Option Addr) (c : Nat) (xs : List Int) (w : World) (X : Hid (RdI w A xs)) (h : secB xs = true) :
    Calls Try.prog 42 #[.slice A xs.length c] w fun e w' => GivesI w w' e (shr xs) 0 := by
  obtain ⟨h1, h2, h3⟩ := sec_parts h
  have H3 := hid h3
  have H := hid h
  clear h h3
  go_enter Try.func42, Try.ntmps42
  go_wp2_with (first | (go_at_call 39; refine (iClosing_yes A c xs _ X H.out).mono ?_; rintro e w1 ⟨rfl, rfl⟩))
  refine (iClone A c xs _ X h1 (by omega)).mono ?_
  rintro e w1 ⟨A1, c1, rfl, own1, hg1⟩
  obtain ⟨g, rest, rfl, hb, hg, hc, hl⟩ := own_open own1 h1
  have G1 := hid hg1; have XG := hid hg
  clear own1 hg1 hg
  go_wp2_with fail
  go_loopw [8, 25] (fun t u wr => ∃ (k : Nat), u = .int .i64 (k : Int) ∧ t = .int .i64 (downI ((k : Int) * clo xs) (xs.length : Int)) ∧ k ≤ xs.length ∧ Gr w wr ∧ wr.heap[g]? = some (.cells (intR (ysh xs k) rest) 2)) (fun _ u _ => xs.length - (intOf u).toNat)
  case atStart => exact ⟨0, rfl, by rw [down_zero], by omega, G1.out, by simpa [ysh] using XG.out⟩
  case round =>
    obtain ⟨k, rfl, rfl, hk, hgr, hx0⟩ := hrel
    have GR := hid hgr; have X0 := hid hx0
    clear hgr
    by_cases hlt : k < xs.length
    · obtain ⟨p, hp⟩ : ∃ p, xs[k]? = some p := ⟨xs[k], List.getElem?_eq_getElem _⟩
      have c2 := intR_cell hx0 (ysh_get hp)
      have f2 := fz hx0
      obtain ⟨⟨m1, m2⟩, m3, m4⟩ := sh_bd h2 H3.out hlt
      obtain ⟨d1, d2⟩ := down_bd _ (xs.length : Int) m1 m2
      obtain ⟨d3, d4⟩ := down_bd _ (xs.length : Int) m3 m4
      have hx := allI_get hp H3.out
      unfold okSec at hx
      simp only [Bool.and_eq_true, decide_eq_true_eq] at hx
      obtain ⟨_, _⟩ := hx
      have hsh : shAt xs (clo xs) k = p - (downI (((k : Int) + 1) * clo xs) (xs.length : Int) - downI ((k : Int) * clo xs) (xs.length : Int)) := by unfold shAt; rw [List.getD_eq_getElem?_getD, hp]; rfl
      have HSH := hid hsh; clear hsh hp hx0
      go_wp2_with (go_at_call 82; refine (idown _ _ _ (by omega) (by omega) (by omega) (by omega)).mono ?_; rintro e w2 ⟨rfl, rfl⟩)
      refine ⟨⟨k + 1, by simp, by simp, by omega, GR.out.setCell (by simp; omega) _, ?_⟩, by simp [intOf]; omega⟩
      have e1 := intR_store (shAt xs (clo xs) k) X0.out (k := k) (by rw [ysh_len (by omega)]; exact hlt)
      rw [ysh_set hlt, HSH.out] at e1
      exact e1
    · have hke : k = xs.length := by omega
      subst hke
      clear hx0
      go_wp2_with fail
      go_ret2
      have e : ysh xs xs.length = shr xs := by unfold ysh; rw [List.take_of_length_le (by rw [shr_len]; exact Nat.le_refl _)]; simp
      have h := X0.out
      rw [e] at h
      have e2 : xs.length = (shr xs).length := (shr_len xs).symm
      refine ⟨some ⟨g, 0, none⟩, c1, by rw [shr_len]; rfl, own_close hb h hc (by rw [shr_len]; exact hl), GR.out⟩
end Go.Proofs.Ytlekfoboolemgaa
