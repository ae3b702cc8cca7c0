/- WALKS: WhoRead of both sides. -/
import Derived.Test.YtpadjkgbeijkpaaWq
namespace Go.Proofs.Ytpadjkgbeijkpaa
open Go.RowKit Go.Sort

/-- Those of the first k that hit n times. -/
def whoL (hs : List Int) (n : Int) (k : Nat) : List Int := ((List.range k).filter fun i => hs[i]? == some n).map fun i : Nat => (i : Int)
theorem whoL_hit {hs : List Int} {n : Int} {k : Nat} (h : hs[k]? = some n) : (whoL hs n k).map (Value.int .i64 ·) ++ [.int .i64 (k : Int)] = (whoL hs n (k + 1)).map (.int .i64 ·) := by
  unfold whoL
  rw [List.range_succ, List.filter_append]
  simp [h]
theorem whoL_miss {hs : List Int} {n x : Int} {k : Nat} (h : hs[k]? = some x) (hne : x ≠ n) : whoL hs n (k + 1) = whoL hs n k := by
  unfold whoL
  rw [List.range_succ, List.filter_append]
  simp [h, hne]
theorem whoL_hit_len {hs : List Int} {n : Int} {k : Nat} (h : hs[k]? = some n) : (whoL hs n (k + 1)).length = (whoL hs n k).length + 1 := by
  unfold whoL
  rw [List.range_succ, List.filter_append]
  simp [h]
theorem own_weak {w : World} {base b0 : Nat} {e : TypeId} {size n : Nat} {v : Value} {xs : List Value} (h : w.ownsRow base e size v n xs) (hb : b0 ≤ base) : w.ownsRow b0 e size v n xs :=
  ⟨h.1, h.2.imp_right fun ⟨g, cap, cur, h1, h2, h3⟩ => ⟨g, cap, cur, h1, Nat.le_trans hb h2, h3⟩⟩
theorem whoL_le (hs : List Int) (n : Int) (k : Nat) : (whoL hs n k).length ≤ k := by
  have := List.length_filter_le (fun i => hs[i]? == some n) (List.range k)
  simpa [whoL] using this
set_option maxRecDepth 20000 in
set_option maxHeartbeats 1000000 in
theorem iWho_no (va vf vb : Value) (C : Int) (w : World) (hC : C ≠ 0) (ht : ∀ w', Gr w w' → Calls Try.prog 62 #[va, vf, vb] w' fun e w'' => e = .returned (.tuple #[.slice none 0 0, .int .i64 C]) ∧ Gr w' w'') :
    Calls Try.prog 25 #[va, vf, vb] w fun e w' => GivesI w w' e [] C := by
  have HT := hid ht
  have hd : ((C : Int) == 0) = false := by simpa using hC
  have hd2 : ((C : Int) != 0) = true := by simpa using hC
  clear ht hC
  go_enter Try.func25, Try.ntmps25
  go_wp2_with fail
  refine (HT.out _ (Gr.refl _)).mono ?_
  rintro e w1 ⟨rfl, hg1⟩
  have G1 := hid (hg1)
  clear hg1
  go_wp2
  go_ret2
  exact ⟨none, 0, rfl, World.ownsRow_nil _ _ _ _, G1.out⟩
set_option maxRecDepth 20000 in
set_option maxHeartbeats 1000000 in
theorem iWho_ok (va vf : Value) (B : Option Addr) (cb m n : Nat) (hs : List Int) (w : World) (hn : hs.length = n) (h2 : n ≤ 12) (ht : ∀ w', Gr w w' → Calls Try.prog 62 #[va, vf, .slice B m cb] w' fun e w'' => ∃ A' c', e = .returned (.tuple #[.slice A' n c', .int .i64 0]) ∧ RdI w'' A' hs ∧ Gr w' w'') :
    Calls Try.prog 25 #[va, vf, .slice B m cb] w fun e w' => GivesI w w' e (whoL hs (m : Int) n) 0 := by
  obtain ⟨i0, hi, hz0, hz1, hz2⟩ : ∃ i, Try.prog.info? 2 = some i ∧ i.zero = some (.int .i64 0) ∧ i.size = 1 ∧ i.bytes = 8 := ⟨_, rfl, by kernel_rfl, rfl, rfl⟩
  have HT := hid ht; have HN := hid hn
  clear ht hn
  go_enter Try.func25, Try.ntmps25
  go_wp2_with fail
  refine (HT.out _ (Gr.refl _)).mono ?_
  rintro e w1 ⟨A1, c1, rfl, rd, hg⟩
  have RD := hid rd; have G1 := hid hg; clear rd hg
  go_wp2_with fail
  go_loopw [10, 25] (fun t u wr => ∃ (k : Nat) (A' : Option Addr) (c' : Nat), u = .int .i64 (k : Int) ∧ t = .slice A' (whoL hs (m : Int) k).length c' ∧ k ≤ n ∧ Gr w1 wr ∧ wr.ownsRow w1.heap.size 2 1 (.slice A' (whoL hs (m : Int) k).length c') (whoL hs (m : Int) k).length ((whoL hs (m : Int) k).map (.int .i64 ·))) (fun _ u _ => n - (intOf u).toNat)
  case atStart => exact ⟨0, none, 0, rfl, rfl, by omega, Gr.refl _, World.ownsRow_nil _ _ _ _⟩
  case round =>
    obtain ⟨k, A', c', rfl, rfl, hk, hg1, hown⟩ := hrel
    have GO := hid hg1; have OWN := hid hown; clear hg1 hown
    have hle := whoL_le hs (m : Int) k
    by_cases hlt : k < n
    · obtain ⟨x, hp⟩ : ∃ x, hs[k]? = some x := ⟨hs[k]'(by rw [HN.out]; exact hlt), List.getElem?_eq_getElem _⟩
      obtain ⟨ad, rfl, c2⟩ := (RD.out.keep GO.out) k x hp
      have _ := c2
      by_cases hx : x = (m : Int)
      · subst hx
        have TK := hid (whoL_hit hp); have TL := hid (whoL_hit_len hp)
        have OWN5 := hid (own_gr OWN.out ((Gr.refl wr).al (.cells #[.int .i64 (k : Int)] 2)))
        have NEW := hid (one_news (w := wr.alloc (.cells #[.int .i64 (k : Int)] 2)) (b := wr.heap.size) (alloc1 (Gr.refl _)).1)
        have G5 := hid (GO.out.al (.cells #[.int .i64 (k : Int)] 2))
        have hb5 := G5.out.size
        clear hp
        go_wp2_with (at_builtin; refine (wpList_append_gr rfl _ _ 42 rfl w1.heap.size 2 i0 (.int .i64 0) 1 8 Try.underlying42 hi hz0 hz1 hz2 rfl (by decide) _ (whoL hs (m : Int) k).length _ rfl OWN5.out ⟨wr.heap.size, 0, none⟩ 1 1 [.int .i64 (k : Int)] rfl rfl NEW.out (by simp [Value.oneCell']) (by decide) (by unfold maxLen; omega) (by omega) hb5 ?_))
        intro v' w9 own9 _ _ hgr
        obtain ⟨A2, c2', rfl⟩ := own_form own9
        rw [TK.out, ← TL.out] at own9
        have OWN9 := hid own9
        have G9 := hid (hgr _ G5.out (Nat.le_refl _))
        clear own9 hgr
        go_wp2_with fail
        exact ⟨⟨k + 1, A2, c2', by simp, by rw [TL.out], by omega, G9.out, OWN9.out⟩, by simp [intOf]; omega⟩
      · have TK := hid (whoL_miss hp hx)
        have hb : ((x : Int) == (m : Int)) = false := by simpa using hx
        clear hp
        go_wp2_with fail
        exact ⟨⟨k + 1, A', c', by simp, by rw [TK.out], by omega, GO.out, by rw [TK.out]; exact OWN.out⟩, by simp [intOf]; omega⟩
    · have hke : k = n := by omega
      subst hke
      go_wp2_with fail
      go_ret2
      exact ⟨A', c', rfl, own_weak OWN.out G1.out.size, G1.out.trans GO.out⟩
/-! the reference -/
set_option maxRecDepth 20000 in
set_option maxHeartbeats 1000000 in
theorem sWho_no (va vf vb : Value) (C : Int) (w : World) (hC : C ≠ 0) (ht : ∀ w', Gr w w' → Calls Try.prog 59 #[va, vf, vb] w' fun e w'' => e = .returned (.int .i64 C) ∧ Gr w' w'') :
    Calls Try.prog 23 #[va, vf, vb] w fun e w' => GivesI w w' e [] C := by
  have HT := hid ht
  have hd : ((C : Int) == 0) = false := by simpa using hC
  have hd2 : ((C : Int) != 0) = true := by simpa using hC
  clear ht hC
  go_enter Try.func23, Try.ntmps23
  go_wp2_with fail
  refine (HT.out _ (Gr.refl _)).mono ?_
  rintro e w1 ⟨rfl, hg1⟩
  have G1 := hid (hg1)
  clear hg1
  have hsz := G1.out.size
  go_wp2
  go_ret2
  exact ⟨_, _, rfl, World.ownsRow_made _ #[] 0 hsz (by simp [maxLen]) (by simp), G1.out.al _⟩
set_option maxRecDepth 20000 in
set_option maxHeartbeats 2000000 in
theorem sWho_ok (g : Nat) (F B : Option Addr) (c cf cb n : Nat) (xs : List Rqv) (fs : List (Int × Int)) (ns : List Int) (w : World) (X : Hid (RdRq w (some ⟨g, 0, none⟩) xs)) (XF : Hid (RdF w F fs)) (Y : Hid (RdI w B ns)) (h12 : xs.length ≤ 12) (hx : xs.all okRd = true) (hf : allF fs = true) (hfl : fs.length = n) (hnl : ns.length = n) (hn : n ≤ 1048576)
    (ht : ∀ w', Gr w w' → Calls Try.prog 59 #[.slice (some ⟨g, 0, none⟩) xs.length c, .slice F n cf, .slice B n cb] w' fun e w'' => e = .returned (.int .i64 0) ∧ Gr w' w'') :
    Calls Try.prog 23 #[.slice (some ⟨g, 0, none⟩) xs.length c, .slice F n cf, .slice B n cb] w fun e w' => GivesI w w' e (whoL (hts xs fs ns n) (n : Int) xs.length) 0 := by
  obtain ⟨i0, hi, hz0, hz1, hz2⟩ : ∃ i, Try.prog.info? 2 = some i ∧ i.zero = some (.int .i64 0) ∧ i.size = 1 ∧ i.bytes = 8 := ⟨_, rfl, by kernel_rfl, rfl, rfl⟩
  have HT := hid ht; have HX := hid hx; have HF := hid hf; have HFL := hid hfl; have HNL := hid hnl
  clear ht hx hf hfl hnl
  go_enter Try.func23, Try.ntmps23
  go_wp2_with fail
  refine (HT.out _ (Gr.refl _)).mono ?_
  rintro e w1 ⟨rfl, hg1⟩
  have G1 := hid (hg1)
  clear hg1
  have hsz1 := G1.out.size
  go_wp2_with fail
  go_loopw [9, 10] (fun t u wr => ∃ (k : Nat) (A' : Option Addr) (c' : Nat), u = .int .i64 (k : Int) ∧ t = .slice A' (whoL (hts xs fs ns n) (n : Int) k).length c' ∧ k ≤ xs.length ∧ Gr w1 wr ∧ wr.ownsRow w1.heap.size 2 1 (.slice A' (whoL (hts xs fs ns n) (n : Int) k).length c') (whoL (hts xs fs ns n) (n : Int) k).length ((whoL (hts xs fs ns n) (n : Int) k).map (.int .i64 ·))) (fun _ u _ => xs.length - (intOf u).toNat)
  case atStart => exact ⟨0, _, _, rfl, rfl, by omega, (Gr.refl _).al _, World.ownsRow_made _ #[] 0 (Nat.le_refl _) (by simp [maxLen]) (by simp)⟩
  case round =>
    obtain ⟨k, A', c', rfl, rfl, hk, hg1, hown⟩ := hrel
    have GO := hid hg1; have OWN := hid hown; clear hg1 hown
    have hle := whoL_le (hts xs fs ns n) (n : Int) k
    by_cases hlt : k < xs.length
    · obtain ⟨x, hp⟩ : ∃ x, xs[k]? = some x := ⟨xs[k], List.getElem?_eq_getElem _⟩
      obtain ⟨ad, he, c1⟩ := (X.out.keep (G1.out.trans GO.out)) k x hp
      cases he
      rw [add_at] at c1
      have C1 := hid c1; clear c1
      have hg0 := hid (show gsB x.b x.u = true by have := allRq_get hp HX.out; unfold okRd rrB at this; simp only [Bool.and_eq_true] at this; exact this.2)
      have HP := hid (hts_get (fs := fs) (ns := ns) (n := n) hp)
      obtain ⟨r, hr⟩ : ∃ r, exB x.b x.u x.o fs ns n = r := ⟨_, rfl⟩
      have HH := hid fun (w : World) (XF : Hid (RdF w F fs)) (Y : Hid (RdI w B ns)) => (sExpl x.b x.u x.o F B cf cb n fs ns w XF Y hn hg0.out HF.out HFL.out HNL.out).mono (R' := fun e w' => e = .returned (.bool r) ∧ Gr w w') fun _ _ hh => ⟨by rw [hh.1, hr], hh.2⟩
      have hrn : r = decide (htI fs ns n (x.b, x.u, x.o) = (n : Int)) := by
        rw [← hr, exB_hiN]
        unfold htI
        by_cases h : hiN x.b x.u x.o fs ns n = n
        · simp [h]
        · rw [decide_eq_false h, decide_eq_false (fun e => h (by exact_mod_cast e))]
      obtain ⟨h, hh⟩ : ∃ h, htI fs ns n (x.b, x.u, x.o) = h := ⟨_, rfl⟩
      rw [hh] at HP hrn
      clear hp hh hr
      go_wp2_with fail
      refine (sHabitAt x.nm x.b x.u x.o wr g (k * 4) C1).mono ?_
      rintro e w5 ⟨rfl, hg5⟩
      have G5 := hid (GO.out.trans hg5); have O5 := hid (own_gr OWN.out hg5); clear hg5
      go_wp2_with fail
      refine (HH.out _ (hid (XF.out.keep (G1.out.trans G5.out))) (hid (Y.out.keep (G1.out.trans G5.out)))).mono ?_
      rintro e w6 ⟨rfl, hg6⟩
      have G6 := hid (G5.out.trans hg6); have O6 := hid (own_gr O5.out hg6); clear hg6
      by_cases hx : h = (n : Int)
      · subst hx
        obtain rfl : r = true := by rw [hrn]; simp
        have TK := hid (whoL_hit HP.out); have TL := hid (whoL_hit_len HP.out)
        have OWN5 := hid (own_gr O6.out ((Gr.refl w6).al (.cells #[.int .i64 (k : Int)] 2)))
        have NEW := hid (one_news (w := w6.alloc (.cells #[.int .i64 (k : Int)] 2)) (b := w6.heap.size) (alloc1 (Gr.refl _)).1)
        have G7 := hid (G6.out.al (.cells #[.int .i64 (k : Int)] 2))
        have hb5 := G7.out.size
        clear hrn
        go_wp2_with (at_builtin; refine (wpList_append_gr rfl _ _ 42 rfl w1.heap.size 2 i0 (.int .i64 0) 1 8 Try.underlying42 hi hz0 hz1 hz2 rfl (by decide) _ (whoL (hts xs fs ns n) (n : Int) k).length _ rfl OWN5.out ⟨w6.heap.size, 0, none⟩ 1 1 [.int .i64 (k : Int)] rfl rfl NEW.out (by simp [Value.oneCell']) (by decide) (by unfold maxLen; omega) (by omega) hb5 ?_))
        intro v' w9 own9 _ _ hgr
        obtain ⟨A2, c2', rfl⟩ := own_form own9
        rw [TK.out, ← TL.out] at own9
        have OWN9 := hid own9
        have G9 := hid (hgr _ G7.out (Nat.le_refl _))
        clear own9 hgr
        go_wp2_with fail
        exact ⟨⟨k + 1, A2, c2', by simp, by rw [TL.out], by omega, G9.out, OWN9.out⟩, by simp [intOf]; omega⟩
      · obtain rfl : r = false := by rw [hrn]; exact decide_eq_false hx
        have TK := hid (whoL_miss HP.out hx)
        clear hrn
        go_wp2_with fail
        exact ⟨⟨k + 1, A', c', by simp, by rw [TK.out], by omega, G6.out, by rw [TK.out]; exact O6.out⟩, by simp [intOf]; omega⟩
    · have hke : k = xs.length := by omega
      subst hke
      go_wp2_with fail
      go_ret2
      exact ⟨A', c', rfl, own_weak OWN.out hsz1, G1.out.trans GO.out⟩
/-- What WhoRead gives. -/
theorem bothWhoRead (xs : List Rqv) (fs : List (Int × Int)) (ns : List Int) (hn : xs.length ≤ 1048576) (hf : fs.length ≤ 1048576) (hm : ns.length ≤ 1048576) (hw : xs.all wfR = true) : ∃ (ys : List Int) (C : Int), ys.length ≤ 1048576 ∧
    (∀ (g h : Nat) (B : Option Addr) (c ch d : Nat) (w : World), Hid (RdRq w (some ⟨g, 0, none⟩) xs) → Hid (RdF w (some ⟨h, 0, none⟩) fs) → Hid (RdI w B ns) → Calls Try.prog 23 #[.slice (some ⟨g, 0, none⟩) xs.length c, .slice (some ⟨h, 0, none⟩) fs.length ch, .slice B ns.length d] w fun e w' => GivesI w w' e ys C) ∧
    (∀ (g h : Nat) (B : Option Addr) (c ch d : Nat) (w : World), Hid (RdRq w (some ⟨g, 0, none⟩) xs) → Hid (RdF w (some ⟨h, 0, none⟩) fs) → Hid (RdI w B ns) → Calls Try.prog 25 #[.slice (some ⟨g, 0, none⟩) xs.length c, .slice (some ⟨h, 0, none⟩) fs.length ch, .slice B ns.length d] w fun e w' => GivesI w w' e ys C) := by
  cases hx : xs.all okRd with
  | false =>
    exact ⟨[], 1, by simp, fun g h B c ch d w X F Y => sWho_no _ _ _ 1 w (by decide) fun w' hg => sAsked_1 g _ B c ch d _ _ xs w' (hid (X.out.keep hg)) hn hw hx,
      fun g h B c ch d w X F Y => iWho_no _ _ _ 1 w (by decide) fun w' hg => iHits_1 _ _ B c ch d _ _ xs w' (hid (X.out.keep hg)) hn hw hx⟩
  | true =>
    cases ha : allF fs with
    | false =>
      exact ⟨[], 1, by simp, fun g h B c ch d w X F Y => sWho_no _ _ _ 1 w (by decide) fun w' hg => sAsked_2 g _ B c ch d _ _ xs 1 w' (hid (X.out.keep hg)) hn hw hx (by decide) fun w'' hg' => sPairs_1 _ B ch d _ fs w'' (hid (F.out.keep (hg.trans hg'))) hf ha,
        fun g h B c ch d w X F Y => iWho_no _ _ _ 1 w (by decide) fun w' hg => iHits_2 _ _ B c ch d _ _ xs 1 w' (hid (X.out.keep hg)) hn hw hx (by decide) fun w'' hg' => iTrial_1 _ B ch d _ fs w'' (hid (F.out.keep (hg.trans hg'))) hf ha⟩
    | true =>
      have sErr : rdB ns = false ∨ fs.length ≠ ns.length → ∀ (g h : Nat) (B : Option Addr) (c ch d : Nat) (w : World), Hid (RdRq w (some ⟨g, 0, none⟩) xs) → Hid (RdF w (some ⟨h, 0, none⟩) fs) → Hid (RdI w B ns) → Calls Try.prog 23 #[.slice (some ⟨g, 0, none⟩) xs.length c, .slice (some ⟨h, 0, none⟩) fs.length ch, .slice B ns.length d] w fun e w' => GivesI w w' e [] 2 := fun hor g h B c ch d w X F Y =>
        sWho_no _ _ _ 2 w (by decide) fun w' hg => sAsked_2 g _ B c ch d _ _ xs 2 w' (hid (X.out.keep hg)) hn hw hx (by decide) fun w'' hg' => by
          cases hr : rdB ns with
          | false => exact sPairs_2 _ B ch d _ fs ns w'' (hid (F.out.keep (hg.trans hg'))) (hid (Y.out.keep (hg.trans hg'))) hf rfl hm ha hr
          | true => exact sPairs_3 _ B ch d _ fs ns w'' (hid (F.out.keep (hg.trans hg'))) (hid (Y.out.keep (hg.trans hg'))) hf rfl ha hr (hor.resolve_left (by simp [hr]))
      by_cases hl : fs.length = ns.length
      · cases hr : rdB ns with
        | false =>
          exact ⟨[], 2, by simp, sErr (.inl hr),
            fun g h B c ch d w X F Y => iWho_no _ _ _ 2 w (by decide) fun w' hg => iHits_2 _ _ B c ch d _ _ xs 2 w' (hid (X.out.keep hg)) hn hw hx (by decide) fun w'' hg' => by
              have := iTrial_3 _ B ch d ns.length fs ns w'' (hid (F.out.keep (hg.trans hg'))) (hid (Y.out.keep (hg.trans hg'))) hm ha hl rfl hr
              rwa [← hl] at this ⊢⟩
        | true =>
          have hT : ∀ (h : Nat) (B : Option Addr) (ch d : Nat) (w : World), Hid (RdF w (some ⟨h, 0, none⟩) fs) → Hid (RdI w B ns) → Calls Try.prog 110 #[.slice (some ⟨h, 0, none⟩) fs.length ch, .slice B ns.length d] w fun e w' => e = .returned (.tuple #[tv (some ⟨h, 0, none⟩) fs.length ch B ns.length d, .int .i64 0]) ∧ Gr w w' := fun h B ch d w F Y => by
            have := iTrial_ok (some ⟨h, 0, none⟩) B ch d ns.length fs ns w F Y hm ha hl rfl hr
            rwa [← hl] at this ⊢
          have hP : ∀ (h : Nat) (B : Option Addr) (ch d : Nat) (w : World), Hid (RdF w (some ⟨h, 0, none⟩) fs) → Hid (RdI w B ns) → Calls Try.prog 108 #[.slice (some ⟨h, 0, none⟩) fs.length ch, .slice B ns.length d] w fun e w' => e = .returned (.int .i64 0) ∧ Gr w w' := fun h B ch d w F Y => by
            have := sPairs_ok (some ⟨h, 0, none⟩) B ch d ns.length fs ns w F Y hm ha hl rfl hr
            rwa [← hl] at this ⊢
          by_cases h12 : 1 ≤ xs.length ∧ xs.length ≤ 12
          · refine ⟨whoL (hts xs fs ns ns.length) (ns.length : Int) xs.length, 0, by have := whoL_le (hts xs fs ns ns.length) (ns.length : Int) xs.length; omega, fun g h B c ch d w X F Y => ?_, fun g h B c ch d w X F Y => ?_⟩
            · rw [hl]
              refine sWho_ok g (some ⟨h, 0, none⟩) B c ch d ns.length xs fs ns w X F Y h12.2 hx ha hl rfl hm fun w' hg => ?_
              have := sAsked_3 g (some ⟨h, 0, none⟩) B c ch d fs.length ns.length xs 0 w' (hid (X.out.keep hg)) hn hw hx (by rw [if_pos h12]) fun w'' hg' => hP h B ch d w'' (hid (F.out.keep (hg.trans hg'))) (hid (Y.out.keep (hg.trans hg')))
              rwa [hl] at this
            · rw [hl]
              refine iWho_ok _ _ B d ns.length xs.length (hts xs fs ns ns.length) w (hts_len _ _ _ _) h12.2 fun w' hg => ?_
              exact iHitsOf _ _ B c ch d ns.length xs fs ns w' (hid (X.out.keep hg)) (hid (F.out.keep hg)) (hid (Y.out.keep hg)) h12.1 h12.2 hw hx ha hl rfl hr hm
          · exact ⟨[], 2, by simp, fun g h B c ch d w X F Y => sWho_no _ _ _ 2 w (by decide) fun w' hg => sAsked_3 g _ B c ch d _ _ xs 2 w' (hid (X.out.keep hg)) hn hw hx (by rw [if_neg h12]) fun w'' hg' => hP h B ch d w'' (hid (F.out.keep (hg.trans hg'))) (hid (Y.out.keep (hg.trans hg'))),
              fun g h B c ch d w X F Y => iWho_no _ _ _ 2 w (by decide) fun w' hg => iHits_3 _ _ B c ch d _ _ xs w' (hid (X.out.keep hg)) hn hw hx h12 fun w'' hg' => hT h B ch d w'' (hid (F.out.keep (hg.trans hg'))) (hid (Y.out.keep (hg.trans hg')))⟩
      · exact ⟨[], 2, by simp, sErr (.inr hl),
          fun g h B c ch d w X F Y => iWho_no _ _ _ 2 w (by decide) fun w' hg => iHits_2 _ _ B c ch d _ _ xs 2 w' (hid (X.out.keep hg)) hn hw hx (by decide) fun w'' hg' => iTrial_2 _ B ch d _ fs w'' (hid (F.out.keep (hg.trans hg'))) hf ha hl⟩
end Go.Proofs.Ytpadjkgbeijkpaa
