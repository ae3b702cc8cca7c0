/- WALKS: closing errors that are shared out in whole numbers, of the reference and of the program. -/
import Derived.Test.YteeadoglbkociaaIw
namespace Go.Proofs.Yteeadoglbkociaa
open Go.RowKit Go.Sort

def okW (a : Int) : Bool := inB a (-1000000000) 1000000000
def shareB (xs : List Int) (t : Int) : Bool := inB (xs.length : Int) 1 64 && (inB t (-1000000000) 1000000000 && xs.all okW)
def smW (t : Int) (xs : List Int) : Int := xs.foldl (· + ·) (-t)
def whAt (xs : List Int) (t : Int) (k : Nat) : Int := xs.getD k 0 - downI (smW t xs) (xs.length : Int) - (if (k : Int) < smW t xs - downI (smW t xs) (xs.length : Int) * (xs.length : Int) then 1 else 0)
def whs (xs : List Int) (t : Int) : List Int := (List.range xs.length).map (fun k : Nat => whAt xs t k)
theorem whs_len (xs : List Int) (t : Int) : (whs xs t).length = xs.length := by simp [whs]
theorem whs_get (xs : List Int) (t : Int) {k : Nat} (h : k < xs.length) : (whs xs t)[k]? = some (whAt xs t k) := by simp [whs, h]
theorem whs_take (xs : List Int) (t : Int) {k : Nat} (h : k < xs.length) : (whs xs t).take (k + 1) = (whs xs t).take k ++ [whAt xs t k] := by
  rw [List.take_add_one, whs_get xs t h]
  rfl
theorem smW_step {t : Int} {xs : List Int} {k : Nat} {x : Int} (h : xs[k]? = some x) : smW t (xs.take (k + 1)) = smW t (xs.take k) + x := by
  unfold smW
  rw [List.take_add_one, h]
  simp [List.foldl_append]
theorem okW_bd {a : Int} (h : okW a = true) : -1000000000 ≤ a ∧ a ≤ 1000000000 := by
  unfold okW inB at h
  simpa using h
theorem smW_bd {t : Int} (ht : okW t = true) : ∀ (xs : List Int) (k : Nat), xs.all okW = true → k ≤ xs.length → -1000000000 - 1000000000 * (k : Int) ≤ smW t (xs.take k) ∧ smW t (xs.take k) ≤ 1000000000 + 1000000000 * (k : Int)
  | xs, 0, _, _ => by have := okW_bd ht; simp [smW]; omega
  | xs, k + 1, h, hk => by
    obtain ⟨x, hx⟩ : ∃ x, xs[k]? = some x := ⟨xs[k], List.getElem?_eq_getElem _⟩
    have h1 := smW_bd ht xs k h (by omega)
    have h2 := okW_bd (allI_get hx h)
    rw [smW_step hx]
    omega
theorem downW_bd (p q B : Int) (h1 : -B ≤ p) (h2 : p ≤ B) : -B - 1 ≤ downI p q ∧ downI p q ≤ B := by
  have e : (p.tdiv q).natAbs = p.natAbs / q.natAbs := by rw [Int.natAbs_tdiv]; rfl
  have := Nat.div_le_self p.natAbs q.natAbs
  unfold downI
  split <;> omega
theorem share_parts {xs : List Int} {t : Int} (h : shareB xs t = true) : 1 ≤ xs.length ∧ xs.length ≤ 64 ∧ okW t = true ∧ xs.all okW = true := by
  unfold shareB at h
  simp only [Bool.and_eq_true] at h
  obtain ⟨h1, h2, h3⟩ := h
  unfold inB at h1
  simp only [Bool.and_eq_true, decide_eq_true_eq] at h1
  exact ⟨by omega, by omega, h2, h3⟩
theorem gtW (a : Int) : gtB a 1000000000 = !okW a := by
  unfold gtB okW inB
  by_cases h1 : a < -1000000000
  · have : ¬ (-1000000000 ≤ a) := by omega
    simp [h1, this]
  · by_cases h2 : 1000000000 < a
    · have : ¬ (a ≤ 1000000000) := by omega
      simp [h2, this]
    · have a1 : -1000000000 ≤ a := by omega
      have a2 : a ≤ 1000000000 := by omega
      simp [h1, h2, a1, a2]
/-- What the walks know of the numbers. -/
theorem share_bd {xs : List Int} {t : Int} (h : shareB xs t = true) : (-65000000000 ≤ smW t xs ∧ smW t xs ≤ 65000000000) ∧ (-65000000001 ≤ downI (smW t xs) (xs.length : Int) ∧ downI (smW t xs) (xs.length : Int) ≤ 65000000000) ∧
    (-6500000000100 ≤ downI (smW t xs) (xs.length : Int) * (xs.length : Int) ∧ downI (smW t xs) (xs.length : Int) * (xs.length : Int) ≤ 6500000000100) := by
  obtain ⟨h1, h2, h3, h4⟩ := share_parts h
  have hs := smW_bd h3 xs xs.length h4 (Nat.le_refl _)
  rw [List.take_length] at hs
  have hd := downW_bd (smW t xs) (xs.length : Int) 65000000000 (by omega) (by omega)
  have hm := mul_bound (x := downI (smW t xs) (xs.length : Int)) (y := (xs.length : Int)) 65000000001 100 (by omega) (by omega) (by omega) (by omega)
  exact ⟨by omega, by omega, by omega⟩

set_option maxRecDepth 20000 in
set_option maxHeartbeats 1000000 in
theorem sShareWhole_no (t : Int) (A : Option Addr) (c : Nat) (xs : List Int) (w : World) (X : Hid (RdI w A xs)) (hn : xs.length ≤ 1048576) (h : shareB xs t = false) :
    Calls Try.prog 44 #[.slice A xs.length c, .int .i64 t] w fun e w' => GivesI w w' e [] 2 := by
  have H := hid h; clear h
  cases h1 : inB (xs.length : Int) 1 64 <;> cases h2 : inB t (-1000000000) 1000000000
  all_goals
    have H1 := hid h1; have H2 := hid h2
    clear h1 h2
    go_enter Try.func44, Try.ntmps44
    go_wp2_with (go_at_call 68; refine (in_any _ _ _ _).mono ?_; rintro e w1 ⟨rfl, rfl⟩; first | rw [H1.out] | rw [H2.out])
    go_loopw [7, 8] (fun o u wr => ∃ (k : Nat) (b : Bool), u = .int .i64 (k : Int) ∧ o = .bool b ∧ k ≤ xs.length ∧ (b = true → inB (xs.length : Int) 1 64 = true ∧ inB t (-1000000000) 1000000000 = true ∧ (xs.take k).all okW = true) ∧ wr = w) (fun _ u _ => xs.length - (intOf u).toNat)
    case atStart => exact ⟨0, _, rfl, rfl, by omega, fun hb => by first | (cases hb; done) | exact ⟨H1.out, H2.out, by simp⟩, by simp⟩
    case round =>
      obtain ⟨k, b, rfl, rfl, hk, hb, rfl⟩ := hrel
      have HB := hid hb; clear hb
      cases b with
      | false =>
        by_cases hlt : k < xs.length
        all_goals
          go_wp2_with fail
          go_ret2
          exact ⟨_, _, rfl, World.ownsRow_made _ #[] 0 (Nat.le_refl _) (by simp [maxLen]) (by simp), (Gr.refl _).al _⟩
      | true =>
        by_cases hlt : k < xs.length
        · obtain ⟨p, hp⟩ : ∃ p, xs[k]? = some p := ⟨xs[k], List.getElem?_eq_getElem _⟩
          obtain ⟨ad, rfl, c1⟩ := X.out k p hp
          have HP := hid hp; clear hp
          go_wp2_with (go_at_call 68; refine (in_any _ _ _ _).mono ?_; rintro e w1 ⟨rfl, rfl⟩)
          obtain ⟨h3, h4, h5⟩ := HB.out (by simp)
          exact ⟨⟨k + 1, _, by simp, rfl, by omega, fun hx => ⟨h3, h4, allI_take HP.out h5 hx⟩, by simp⟩, by simp [intOf]; omega⟩
        · exfalso
          have hke : k = xs.length := by omega
          obtain ⟨h3, h4, h5⟩ := HB.out (by simp)
          rw [hke, List.take_length] at h5
          have := H.out
          unfold shareB at this
          rw [h3, h4, h5] at this
          cases this
set_option maxRecDepth 20000 in
set_option maxHeartbeats 1000000 in
theorem sShareWhole_yes (t : Int) (A : Option Addr) (c : Nat) (xs : List Int) (w : World) (X : Hid (RdI w A xs)) (h : shareB xs t = true) :
    Calls Try.prog 44 #[.slice A xs.length c, .int .i64 t] w fun e w' => GivesI w w' e (whs xs t) 0 := by
  obtain ⟨h1, h2, h3, h4⟩ := share_parts h
  obtain ⟨⟨e1, e2⟩, ⟨q1, q2⟩, m1, m2⟩ := share_bd h
  obtain ⟨t1, t2⟩ := okW_bd h3
  have H1 := hid (show inB (xs.length : Int) 1 64 = true by unfold inB; simp; omega)
  have H2 := hid (show inB t (-1000000000) 1000000000 = true from h3)
  have H3 := hid h3; have H4 := hid h4
  obtain ⟨i0, hi, hz0, hz1, hz2⟩ : ∃ i, Try.prog.info? 2 = some i ∧ i.zero = some (.int .i64 0) ∧ i.size = 1 ∧ i.bytes = 8 := ⟨_, rfl, rfl, rfl, rfl⟩
  clear h h3 h4
  go_enter Try.func44, Try.ntmps44
  go_wp2_with (go_at_call 68; refine (in_any _ _ _ _).mono ?_; rintro e w1 ⟨rfl, rfl⟩; first | rw [H1.out] | rw [H2.out])
  go_loopw [7, 8] (fun o u wr => ∃ (k : Nat), u = .int .i64 (k : Int) ∧ o = .bool true ∧ k ≤ xs.length ∧ w = wr) (fun _ u _ => xs.length - (intOf u).toNat)
  case atStart => exact ⟨0, rfl, rfl, by omega, by simp⟩
  case round =>
    obtain ⟨k, rfl, rfl, hk, rfl⟩ := hrel
    by_cases hlt : k < xs.length
    · obtain ⟨p, hp⟩ : ∃ p, xs[k]? = some p := ⟨xs[k], List.getElem?_eq_getElem _⟩
      obtain ⟨ad, rfl, c1⟩ := X.out k p hp
      have HX := hid (show inB p (-1000000000) 1000000000 = true from show okW p = true from allI_get hp H4.out); clear hp
      go_wp2_with (go_at_call 68; refine (in_any _ _ _ _).mono ?_; rintro e w1 ⟨rfl, rfl⟩; rw [HX.out])
      exact ⟨⟨k + 1, by simp, rfl, by omega, by simp⟩, by simp [intOf]; omega⟩
    · go_wp2_with fail
      go_loopw [9, 10] (fun s u wr => ∃ (k : Nat), u = .int .i64 (k : Int) ∧ s = .int .i64 (smW t (xs.take k)) ∧ k ≤ xs.length ∧ w = wr) (fun _ u _ => xs.length - (intOf u).toNat)
      case atStart => exact ⟨0, rfl, by simp [smW], by omega, by simp⟩
      case round =>
        obtain ⟨k, rfl, rfl, hk, rfl⟩ := hrel
        by_cases hlt : k < xs.length
        · obtain ⟨p, hp⟩ : ∃ p, xs[k]? = some p := ⟨xs[k], List.getElem?_eq_getElem _⟩
          obtain ⟨ad, rfl, c1⟩ := X.out k p hp
          obtain ⟨_, _⟩ := smW_bd H3.out xs k H4.out (by omega)
          obtain ⟨_, _⟩ := okW_bd (allI_get hp H4.out)
          have HP := hid (smW_step (t := t) hp); clear hp
          go_wp2_with fail
          exact ⟨⟨k + 1, by simp, by rw [HP.out], by omega, by simp⟩, by simp [intOf]; omega⟩
        · have hke : k = xs.length := by omega
          subst hke
          rw [List.take_length]
          go_wp2_with (go_at_call 110; refine (sdown _ _ _ (by omega) (by omega) (by omega) (by omega)).mono ?_; rintro e w1 ⟨rfl, rfl⟩)
          go_loopw [12, 13] (fun v u wr => ∃ (k : Nat) (A' : Option Addr) (c' : Nat), u = .int .i64 (k : Int) ∧ v = .slice A' k c' ∧ k ≤ xs.length ∧ Gr w wr ∧ wr.ownsRow w.heap.size 2 1 (.slice A' k c') k (((whs xs t).take k).map (.int .i64 ·))) (fun _ u _ => xs.length - (intOf u).toNat)
          case atStart => exact ⟨0, _, _, rfl, rfl, by omega, (Gr.refl _).al _, World.ownsRow_made _ #[] 0 (Nat.le_refl _) (by simp [maxLen]) (by simp)⟩
          case round =>
            obtain ⟨k, A', c', rfl, rfl, hk, hg, hown⟩ := hrel
            have HG := hid hg; have OWN := hid hown
            clear hg hown
            by_cases hlt : k < xs.length
            · obtain ⟨p, hp⟩ : ∃ p, xs[k]? = some p := ⟨xs[k], List.getElem?_eq_getElem _⟩
              obtain ⟨ad, rfl, c1⟩ := (X.out.keep HG.out) k p hp
              obtain ⟨_, _⟩ := okW_bd (allI_get hp H4.out)
              by_cases hd : (k : Int) < smW t xs - downI (smW t xs) (xs.length : Int) * (xs.length : Int)
              · have hv : whAt xs t k = p - downI (smW t xs) (xs.length : Int) - 1 := by unfold whAt; rw [List.getD_eq_getElem?_getD, hp]; simp [hd]
                have HV := hid hv
                have OWN1 := hid (own_gr OWN.out ((Gr.refl _).al (.cells #[.int .i64 (p - downI (smW t xs) (xs.length : Int) - 1)] 2)))
                have NEW := hid (one_news (w := wr.alloc (.cells #[.int .i64 (p - downI (smW t xs) (xs.length : Int) - 1)] 2)) (b := wr.heap.size) (v := .int .i64 (p - downI (smW t xs) (xs.length : Int) - 1)) (T := 2) (alloc1 (Gr.refl _)).1)
                have G1 := hid (HG.out.al (.cells #[.int .i64 (p - downI (smW t xs) (xs.length : Int) - 1)] 2))
                have hsz := G1.out.size
                clear hv hp OWN
                go_wp2_with (at_builtin; refine (wpList_append_gr rfl _ _ 54 rfl w.heap.size 2 i0 (.int .i64 0) 1 8 Try.underlying54 hi hz0 hz1 hz2 rfl (by decide) _ k _ rfl OWN1.out ⟨wr.heap.size, 0, none⟩ 1 1 [.int .i64 (p - downI (smW t xs) (xs.length : Int) - 1)] rfl rfl NEW.out (by simp [Value.oneCell']) (by decide) (by unfold maxLen; omega) (by omega) hsz ?_))
                intro v' w2 own2 _ _ hgr
                obtain ⟨A2, c2, rfl⟩ := own_form own2
                have e2 : (((whs xs t).take k).map (Value.int .i64 ·)) ++ [.int .i64 (p - downI (smW t xs) (xs.length : Int) - 1)] = ((whs xs t).take (k + 1)).map (Value.int .i64 ·) := by rw [whs_take xs t hlt, HV.out]; simp
                rw [← List.map_take, e2] at own2
                have OWN2 := hid own2
                have G2 := hid (hgr w G1.out (Nat.le_refl _))
                clear own2 hgr e2 OWN1 NEW hsz
                go_wp2_with fail
                exact ⟨⟨k + 1, A2, c2, by simp, by simp, by omega, G2.out, OWN2.out⟩, by simp [intOf]; omega⟩
              · have hv : whAt xs t k = p - downI (smW t xs) (xs.length : Int) := by unfold whAt; rw [List.getD_eq_getElem?_getD, hp]; simp [hd]
                have HV := hid hv
                have OWN1 := hid (own_gr OWN.out ((Gr.refl _).al (.cells #[.int .i64 (p - downI (smW t xs) (xs.length : Int))] 2)))
                have NEW := hid (one_news (w := wr.alloc (.cells #[.int .i64 (p - downI (smW t xs) (xs.length : Int))] 2)) (b := wr.heap.size) (v := .int .i64 (p - downI (smW t xs) (xs.length : Int))) (T := 2) (alloc1 (Gr.refl _)).1)
                have G1 := hid (HG.out.al (.cells #[.int .i64 (p - downI (smW t xs) (xs.length : Int))] 2))
                have hsz := G1.out.size
                clear hv hp OWN
                go_wp2_with (at_builtin; refine (wpList_append_gr rfl _ _ 54 rfl w.heap.size 2 i0 (.int .i64 0) 1 8 Try.underlying54 hi hz0 hz1 hz2 rfl (by decide) _ k _ rfl OWN1.out ⟨wr.heap.size, 0, none⟩ 1 1 [.int .i64 (p - downI (smW t xs) (xs.length : Int))] rfl rfl NEW.out (by simp [Value.oneCell']) (by decide) (by unfold maxLen; omega) (by omega) hsz ?_))
                intro v' w2 own2 _ _ hgr
                obtain ⟨A2, c2, rfl⟩ := own_form own2
                have e2 : (((whs xs t).take k).map (Value.int .i64 ·)) ++ [.int .i64 (p - downI (smW t xs) (xs.length : Int))] = ((whs xs t).take (k + 1)).map (Value.int .i64 ·) := by rw [whs_take xs t hlt, HV.out]; simp
                rw [← List.map_take, e2] at own2
                have OWN2 := hid own2
                have G2 := hid (hgr w G1.out (Nat.le_refl _))
                clear own2 hgr e2 OWN1 NEW hsz
                go_wp2_with fail
                exact ⟨⟨k + 1, A2, c2, by simp, by simp, by omega, G2.out, OWN2.out⟩, by simp [intOf]; omega⟩
            · have hke : k = xs.length := by omega
              subst hke
              go_wp2_with fail
              go_ret2
              have h := OWN.out
              have e : (whs xs t).take xs.length = whs xs t := by rw [← whs_len xs t]; simp
              rw [e] at h
              exact ⟨A', c', by rw [whs_len]; rfl, by rw [whs_len]; exact h, HG.out⟩
set_option maxRecDepth 20000 in
set_option maxHeartbeats 400000 in
theorem iFarW (s : Int) (w : World) : Calls Try.prog 111 #[.int .i64 s] w fun e w' => e = .returned (.bool (!okW s)) ∧ w = w' := by
  rw [← gtW]
  have hs := hid (gt_any s 1000000000)
  go_enter Try.func111, Try.ntmps111
  go_wp2_with (go_at_call 112; refine (hs.out _ (by omega) (by omega)).mono ?_; rintro e w1 ⟨rfl, rfl⟩)
  go_ret
  exact ⟨rfl, rfl⟩
set_option maxRecDepth 20000 in
set_option maxHeartbeats 1000000 in
theorem iIndexW (A : Option Addr) (c : Nat) (xs : List Int) (w : World) (X : Hid (RdI w A xs)) (hn : xs.length ≤ 1048576) :
    Calls Try.prog 167 #[.slice A xs.length c, .func (.func 111) #[] #[]] w fun e w' => (∃ r : Int, e = .returned (.int .i64 r) ∧ decide (0 ≤ r) = !xs.all okW) ∧ w = w' := by
  have hen : ∀ s w, (callFunc 111 #[.int .i64 s]).run Try.prog w = .ok (.enter 111 #[.int .i64 s]) w := fun s w => by kernel_rfl
  go_enter Try.func167, Try.ntmps167
  go_wp2_with fail
  go_loopw [8] (fun u wr => ∃ (k : Nat), u = .int .i64 (k : Int) ∧ k ≤ xs.length ∧ (xs.take k).all okW = true ∧ wr = w) (fun u _ => xs.length - (intOf u).toNat)
  case atStart => exact ⟨0, rfl, by omega, by simp, by simp⟩
  case round =>
    obtain ⟨k, rfl, hk, ha, rfl⟩ := hrel
    have HA := hid ha; clear ha
    by_cases hlt : k < xs.length
    · obtain ⟨p, hp⟩ : ∃ p, xs[k]? = some p := ⟨xs[k], List.getElem?_eq_getElem _⟩
      obtain ⟨ad, rfl, c1⟩ := X.out k p hp
      have HP := hid hp; clear hp
      cases hx : okW p with
      | true =>
        have HX := hid hx
        go_wp2_with (go_at_call 111; refine (iFarW _ _).mono ?_; rintro e w1 ⟨rfl, rfl⟩; rw [HX.out])
        exact ⟨⟨k + 1, by simp, by omega, allI_take HP.out HA.out HX.out, by simp⟩, by simp [intOf]; omega⟩
      | false =>
        have HX := hid hx
        go_wp2_with (go_at_call 111; refine (iFarW _ _).mono ?_; rintro e w1 ⟨rfl, rfl⟩; rw [HX.out])
        go_ret
        exact ⟨⟨_, rfl, by rw [allI_not HP.out HX.out]; simp⟩, rfl⟩
    · have hke : k = xs.length := by omega
      have hall : xs.all okW = true := by have := HA.out; rwa [hke, List.take_length] at this
      have HALL := hid hall; clear hall hke
      go_wp2_with fail
      go_ret
      exact ⟨⟨_, rfl, by rw [HALL.out]; simp⟩, by simp⟩
set_option maxRecDepth 20000 in
set_option maxHeartbeats 1000000 in
theorem iContW (A : Option Addr) (c : Nat) (xs : List Int) (w : World) (X : Hid (RdI w A xs)) (hn : xs.length ≤ 1048576) :
    Calls Try.prog 113 #[.slice A xs.length c, .func (.func 111) #[] #[]] w fun e w' => e = .returned (.bool (!xs.all okW)) ∧ w = w' := by
  go_enter Try.func113, Try.ntmps113
  go_wp2_with fail
  refine (iIndexW A c xs w X hn).mono ?_
  rintro e w1 ⟨⟨r, rfl, hr⟩, rfl⟩
  have HR := hid hr; clear hr
  go_wp2_with fail
  go_ret
  exact ⟨ret_bool (by rw [← HR.out]), rfl⟩
set_option maxRecDepth 20000 in
set_option maxHeartbeats 1000000 in
theorem iShareWhole_no (t : Int) (A : Option Addr) (c : Nat) (xs : List Int) (w : World) (X : Hid (RdI w A xs)) (hn : xs.length ≤ 1048576) (h : shareB xs t = false) :
    Calls Try.prog 46 #[.slice A xs.length c, .int .i64 t] w fun e w' => GivesI w w' e [] 2 := by
  have fin : ∀ w : World, GivesI w w (.returned (.tuple #[.slice none 0 0, .int .i64 2])) [] 2 := fun w => ⟨_, _, rfl, World.ownsRow_nil _ _ _ _, Gr.refl _⟩
  have hen : ∀ s w, (callFunc 111 #[.int .i64 s]).run Try.prog w = .ok (.enter 111 #[.int .i64 s]) w := fun s w => by kernel_rfl
  by_cases h1 : xs.length < 1
  · clear h
    go_enter Try.func46, Try.ntmps46
    go_wp2_with fail
    go_ret2
    exact fin w
  · by_cases h2 : 64 < xs.length
    · clear h
      go_enter Try.func46, Try.ntmps46
      go_wp2_with fail
      go_ret2
      exact fin w
    · cases h3 : xs.all okW with
      | false =>
        have H3 := hid h3
        clear h h3
        go_enter Try.func46, Try.ntmps46
        go_wp2_with (go_at_call 113; refine (iContW A c xs _ X hn).mono ?_; rintro e w1 ⟨rfl, rfl⟩; rw [H3.out])
        go_ret2
        exact fin w
      | true =>
        have h4 : okW t = false := by
          unfold shareB at h
          rw [h3, show inB (xs.length : Int) 1 64 = true by unfold inB; simp; omega] at h
          simpa [okW] using h
        have H3 := hid h3; have H4 := hid h4
        clear h h3 h4
        go_enter Try.func46, Try.ntmps46
        go_wp2_with (first | (go_at_call 113; refine (iContW A c xs _ X hn).mono ?_; rintro e w1 ⟨rfl, rfl⟩; rw [H3.out]) | (go_at_call 111; refine (iFarW _ _).mono ?_; rintro e w1 ⟨rfl, rfl⟩; rw [H4.out]))
        go_ret2
        exact fin w
/-- The numbers, the first k of them with their share taken away. -/
def yshW (xs : List Int) (t : Int) (k : Nat) : List Int := (whs xs t).take k ++ xs.drop k
theorem yshW_len {xs : List Int} {t : Int} {k : Nat} (h : k ≤ xs.length) : (yshW xs t k).length = xs.length := by simp [yshW, whs_len]; omega
theorem yshW_get {xs : List Int} {t : Int} {k : Nat} {p : Int} (h : xs[k]? = some p) : (yshW xs t k)[k]? = some p := by
  have hk : k < xs.length := (List.getElem?_eq_some_iff.1 h).1
  have hl : ((whs xs t).take k).length = k := by simp [whs_len]; omega
  unfold yshW
  rw [List.getElem?_append_right (by omega), hl, Nat.sub_self, List.getElem?_drop]
  simpa using h
theorem yshW_set {xs : List Int} {t : Int} {k : Nat} (hk : k < xs.length) : (yshW xs t k).set k (whAt xs t k) = yshW xs t (k + 1) := by
  have hl : ((whs xs t).take k).length = k := by simp [whs_len]; omega
  unfold yshW
  rw [List.set_append_right _ _ (by omega), hl, Nat.sub_self, whs_take xs t hk, List.drop_eq_getElem_cons hk, List.set_cons_zero]
  simp
set_option maxRecDepth 20000 in
set_option maxHeartbeats 1000000 in
theorem iShareWhole_yes (t : Int) (A : Option Addr) (c : Nat) (xs : List Int) (w : World) (X : Hid (RdI w A xs)) (h : shareB xs t = true) :
    Calls Try.prog 46 #[.slice A xs.length c, .int .i64 t] w fun e w' => GivesI w w' e (whs xs t) 0 := by
  have hen : ∀ s w, (callFunc 111 #[.int .i64 s]).run Try.prog w = .ok (.enter 111 #[.int .i64 s]) w := fun s w => by kernel_rfl
  obtain ⟨h1, h2, h3, h4⟩ := share_parts h
  obtain ⟨⟨e1, e2⟩, ⟨q1, q2⟩, m1, m2⟩ := share_bd h
  obtain ⟨t1, t2⟩ := okW_bd h3
  have H3 := hid h3; have H4 := hid h4
  clear h h3 h4
  go_enter Try.func46, Try.ntmps46
  go_wp2_with (first | (go_at_call 113; refine (iContW A c xs _ X (by omega)).mono ?_; rintro e w1 ⟨rfl, rfl⟩; rw [H4.out]) | (go_at_call 111; refine (iFarW _ _).mono ?_; rintro e w1 ⟨rfl, rfl⟩; rw [H3.out]))
  go_loopw [7, 38] (fun s u wr => ∃ (k : Nat), u = .int .i64 (k : Int) ∧ s = .int .i64 (smW t (xs.take k)) ∧ k ≤ xs.length ∧ w = wr) (fun _ u _ => xs.length - (intOf u).toNat)
  case atStart => exact ⟨0, rfl, by simp [smW], by omega, by simp⟩
  case round =>
    obtain ⟨k, rfl, rfl, hk, rfl⟩ := hrel
    by_cases hlt : k < xs.length
    · obtain ⟨p, hp⟩ : ∃ p, xs[k]? = some p := ⟨xs[k], List.getElem?_eq_getElem _⟩
      obtain ⟨ad, rfl, c1⟩ := X.out k p hp
      obtain ⟨_, _⟩ := smW_bd H3.out xs k H4.out (by omega)
      obtain ⟨_, _⟩ := okW_bd (allI_get hp H4.out)
      have HP := hid (smW_step (t := t) hp); clear hp
      go_wp2_with fail
      exact ⟨⟨k + 1, by simp, by rw [HP.out], by omega, by simp⟩, by simp [intOf]; omega⟩
    · have hke : k = xs.length := by omega
      subst hke
      rw [List.take_length]
      go_wp2_with (first | (go_at_call 114; refine (idown _ _ _ (by omega) (by omega) (by omega) (by omega)).mono ?_; rintro e w1 ⟨rfl, rfl⟩))
      refine (iClone A c xs _ X h1 (by omega)).mono ?_
      rintro e w1 ⟨A1, c1, rfl, own1, hg1⟩
      obtain ⟨g, rest, rfl, hb, hg, hc, hl⟩ := own_open own1 h1
      have G1 := hid hg1; have XG := hid hg
      clear own1 hg1 hg
      go_wp2_with fail
      go_loopw [53] (fun u wr => ∃ (k : Nat), u = .int .i64 (k : Int) ∧ k ≤ xs.length ∧ Gr w wr ∧ wr.heap[g]? = some (.cells (intR (yshW xs t k) rest) 2)) (fun u _ => xs.length - (intOf u).toNat)
      case atStart => exact ⟨0, rfl, by omega, G1.out, by simpa [yshW] using XG.out⟩
      case round =>
        obtain ⟨k, rfl, hk, hgr, hx0⟩ := hrel
        have GR := hid hgr; have X0 := hid hx0
        clear hgr
        by_cases hlt : k < xs.length
        · obtain ⟨p, hp⟩ : ∃ p, xs[k]? = some p := ⟨xs[k], List.getElem?_eq_getElem _⟩
          have c2 := intR_cell hx0 (yshW_get hp)
          have f2 := fz hx0
          have e0 := intR_store (p - downI (smW t xs) (xs.length : Int)) X0.out (k := k) (by rw [yshW_len (by omega)]; exact hlt)
          have c3 := intR_cell (k := k) (p := p - downI (smW t xs) (xs.length : Int)) e0 (by rw [List.getElem?_set_self (by rw [yshW_len (by omega)]; exact hlt)])
          have f3 := fz e0
          obtain ⟨_, _⟩ := okW_bd (allI_get hp H4.out)
          by_cases hd : (k : Int) < smW t xs - downI (smW t xs) (xs.length : Int) * (xs.length : Int)
          · have hv : whAt xs t k = p - downI (smW t xs) (xs.length : Int) - 1 := by unfold whAt; rw [List.getD_eq_getElem?_getD, hp]; simp [hd]
            have HV := hid hv; have E0 := hid e0
            clear hv hp hx0 e0
            go_wp2_with fail
            refine ⟨⟨k + 1, by simp, by omega, (GR.out.setCell (by simp; omega) _).setCell (by simp; omega) _, ?_⟩, by simp [intOf]; omega⟩
            have e1 := intR_store (whAt xs t k) E0.out (k := k) (by rw [List.length_set, yshW_len (by omega)]; exact hlt)
            rw [List.set_set, yshW_set hlt, HV.out] at e1
            exact e1
          · have hv : whAt xs t k = p - downI (smW t xs) (xs.length : Int) := by unfold whAt; rw [List.getD_eq_getElem?_getD, hp]; simp [hd]
            have HV := hid hv; have E0 := hid e0
            clear hv hp hx0 e0
            go_wp2_with fail
            refine ⟨⟨k + 1, by simp, by omega, GR.out.setCell (by simp; omega) _, ?_⟩, by simp [intOf]; omega⟩
            have e1 := E0.out
            rw [← HV.out, yshW_set hlt] at e1
            rw [← HV.out]
            exact e1
        · have hke : k = xs.length := by omega
          subst hke
          clear hx0
          go_wp2_with fail
          go_ret2
          have e : yshW xs t xs.length = whs xs t := by unfold yshW; rw [List.take_of_length_le (by rw [whs_len]; exact Nat.le_refl _)]; simp
          have h := X0.out
          rw [e] at h
          exact ⟨some ⟨g, 0, none⟩, c1, by rw [whs_len]; rfl, own_close hb h hc (by rw [whs_len]; exact hl), GR.out⟩
theorem bothShareWhole (t : Int) (xs : List Int) (hn : xs.length ≤ 1048576) : ∃ (ys : List Int) (C : Int), ys.length ≤ 1048576 ∧
    (∀ (A : Option Addr) (c : Nat) (w : World), Hid (RdI w A xs) → Calls Try.prog 44 #[.slice A xs.length c, .int .i64 t] w fun e w' => GivesI w w' e ys C) ∧
    (∀ (A : Option Addr) (c : Nat) (w : World), Hid (RdI w A xs) → Calls Try.prog 46 #[.slice A xs.length c, .int .i64 t] w fun e w' => GivesI w w' e ys C) := by
  cases h : shareB xs t with
  | true => exact ⟨whs xs t, 0, by rw [whs_len]; exact hn, fun A c w X => sShareWhole_yes t A c xs w X h, fun A c w X => iShareWhole_yes t A c xs w X h⟩
  | false => exact ⟨[], 2, by simp, fun A c w X => sShareWhole_no t A c xs w X hn h, fun A c w X => iShareWhole_no t A c xs w X hn h⟩
end Go.Proofs.Yteeadoglbkociaa
