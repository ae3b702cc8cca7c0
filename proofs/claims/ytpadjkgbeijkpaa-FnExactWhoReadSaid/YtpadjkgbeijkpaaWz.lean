/- WALKS: hitsOf; NearestReader of both sides. -/
import Derived.Test.YtpadjkgbeijkpaaWy
namespace Go.Proofs.Ytpadjkgbeijkpaa
open Go.RowKit Go.Sort

/-- How often each reader hits. -/
def htI (fs : List (Int × Int)) (ns : List Int) (n : Nat) (a : Gsk) : Int := (hiN a.1 a.2.1 a.2.2 fs ns n : Int)
def hts (xs : List Rqv) (fs : List (Int × Int)) (ns : List Int) (n : Nat) : List Int := xs.map fun x => htI fs ns n (x.b, x.u, x.o)
theorem hts_len (xs : List Rqv) (fs : List (Int × Int)) (ns : List Int) (n : Nat) : (hts xs fs ns n).length = xs.length := by simp [hts]
theorem hts_get {xs : List Rqv} {fs : List (Int × Int)} {ns : List Int} {n k : Nat} {x : Rqv} (h : xs[k]? = some x) : (hts xs fs ns n)[k]? = some (htI fs ns n (x.b, x.u, x.o)) := by simp [hts, h]
theorem al_topJ (w : World) (o : Obj) : (w.alloc o).heap[w.heap.size]? = some o := Array.getElem?_push_size
theorem hts_take {xs : List Rqv} {fs : List (Int × Int)} {ns : List Int} {n k : Nat} {x : Rqv} (h : xs[k]? = some x) : ((hts xs fs ns n).map (Value.int .i64 ·)).take k ++ [.int .i64 (htI fs ns n (x.b, x.u, x.o))] = ((hts xs fs ns n).map (.int .i64 ·)).take (k + 1) := by
  rw [List.take_add_one, List.getElem?_map, hts_get h]
  simp
theorem own_blkJ {w : World} {base m : Nat} {e : TypeId} {size n c : Nat} {A : Option Addr} {xs : List Value} (h : w.ownsRow base e size (.slice A n c) n xs) (hm : m < base) : some m ≠ (Value.slice A n c).ownBlock ∧ ∀ ad, A = some ad → ad.block ≠ m := by
  rcases h.2 with ⟨h0, _⟩ | ⟨g', cap, cur, h1, h2, h3, h4⟩
  · injection h0 with e1 e2 e3
    subst e1
    exact ⟨by simp [Value.ownBlock], fun ad h => by cases h⟩
  · injection h1 with e1 e2 e3
    subst e1
    refine ⟨by simp [Value.ownBlock]; omega, fun ad h => ?_⟩
    cases h
    show g' ≠ m
    omega
theorem htI_bd (fs : List (Int × Int)) (ns : List Int) (n : Nat) (a : Gsk) : 0 ≤ htI fs ns n a ∧ htI fs ns n a ≤ n := by
  unfold htI
  have := hiN_le a.1 a.2.1 a.2.2 fs ns n
  omega
set_option maxRecDepth 20000 in
set_option maxHeartbeats 4000000 in
theorem iHitsOf (A F B : Option Addr) (c cf cb n : Nat) (xs : List Rqv) (fs : List (Int × Int)) (ns : List Int) (w : World) (X : Hid (RdRq w A xs)) (XF : Hid (RdF w F fs)) (Y : Hid (RdI w B ns)) (h1 : 1 ≤ xs.length) (h12 : xs.length ≤ 12) (hw : xs.all wfR = true) (hx : xs.all okRd = true) (hf : allF fs = true) (hfl : fs.length = n) (hnl : ns.length = n) (hr : rdB ns = true) (hn : n ≤ 1048576) :
    Calls Try.prog 62 #[.slice A xs.length c, .slice F n cf, .slice B n cb] w fun e w' => ∃ A' c', e = .returned (.tuple #[.slice A' xs.length c', .int .i64 0]) ∧ RdI w' A' (hts xs fs ns n) ∧ Gr w w' := by
  obtain ⟨i0, hi, hz0, hz1, hz2⟩ : ∃ i, Try.prog.info? 3 = some i ∧ i.zero = some (.int .i64 0) ∧ i.size = 1 ∧ i.bytes = 8 := ⟨_, rfl, by kernel_rfl, rfl, rfl⟩
  have HV := hid fun (w : World) (X : Hid (RdRq w A xs)) => iVRs A c xs true w X (by omega) hw hx
  have HT := hid fun (w : World) (XF : Hid (RdF w F fs)) (Y : Hid (RdI w B ns)) => iTrial_ok F B cf cb n fs ns w XF Y hn hf hfl hnl hr
  have HX := hid hx; have HF := hid hf; have HFL := hid hfl; have HNL := hid hnl
  have hmk : ∀ w : World, (Instr.makeMap 158 none).run Try.prog w = .ok (.map (some w.heap.size)) (w.alloc (.map #[] 0)) := fun w => rfl
  clear hw hx hf hfl hnl hr
  go_enter Try.func62, Try.ntmps62
  go_wp2_with fail
  refine (HV.out _ X).mono ?_
  rintro e w1 ⟨rfl, hg1⟩
  have G1 := hid hg1; clear hg1
  go_wp2_with fail
  refine (HT.out _ (hid (XF.out.keep G1.out)) (hid (Y.out.keep G1.out))).mono ?_
  rintro e w2 ⟨rfl, hg2⟩
  have G2 := hid (G1.out.trans hg2); clear hg2
  have GT := hid ((Gr.refl w2).al (.cells #[.slice F n cf, .slice B n cb] 155))
  have GM := hid (GT.out.al (.map #[] 0))
  have TB := hid (alloc1 (w := w2) (A := .cells #[.slice F n cf, .slice B n cb] 155) (Gr.refl _)).1
  have hsz2 := G2.out.size
  have KE := hid (KeptG.nil (htI fs ns n))
  have _ := ltb TB.out
  have _ := fz TB.out
  clear HV HT
  go_wp2_with fail
  clear hmk
  go_loopw [11, 40] (fun t u wr => ∃ (k : Nat) (A' : Option Addr) (c' : Nat) (es : Array MapEntry) (ck : Nat), u = .int .i64 (k : Int) ∧ t = .slice A' k c' ∧ k ≤ xs.length ∧ Gr w wr ∧ w2.heap.size + 2 ≤ wr.heap.size ∧ wr.ownsRow (w2.heap.size + 2) 3 1 (.slice A' k c') k (((hts xs fs ns n).take k).map (.int .i64 ·)) ∧ wr.heap[w2.heap.size]? = some (.cells #[.slice F n cf, .slice B n cb] 155) ∧ wr.heap[w2.heap.size + 1]? = some (.map es ck) ∧ KeptG (htI fs ns n) es) (fun _ u _ => xs.length - (intOf u).toNat)
  case atStart =>
    refine ⟨0, _, _, #[], 0, rfl, rfl, by omega, G2.out.trans GM.out, by simp, World.ownsRow_nil _ _ _ _, ?_, ?_, KE.out⟩
    · exact ((Gr.refl _).al _).keep TB.out
    · simpa using (al_topJ (w2.alloc (.cells #[.slice F n cf, .slice B n cb] 155)) (.map #[] 0))
  case round =>
    obtain ⟨k, A', c', es, ck, rfl, rfl, hk, hg, hsz, hown, ht, hm, hkp⟩ := hrel
    have GW := hid hg; have OWN := hid hown; have TR := hid ht; have MP := hid hm; have KP := hid hkp
    clear hg hown ht hm hkp GT GM TB
    by_cases hlt : k < xs.length
    · obtain ⟨x, hp⟩ : ∃ x, xs[k]? = some x := ⟨xs[k], List.getElem?_eq_getElem _⟩
      obtain ⟨ad, rfl, c1⟩ := (X.out.keep GW.out) k x hp
      obtain ⟨_, _, _, _⟩ := c1
      have hg0 := hid (show gsB x.b x.u = true by have := allRq_get hp HX.out; unfold okRd rrB at this; simp only [Bool.and_eq_true] at this; exact this.2)
      have TK := hid (hts_take (fs := fs) (ns := ns) (n := n) hp)
      have HB := hid fun (w : World) (XF : Hid (RdF w F fs)) (Y : Hid (RdI w B ns)) => (iHitsBy x.b x.u x.o F B cf cb n fs ns w XF Y hn hg0.out HF.out HFL.out HNL.out).mono (R' := fun e w' => e = .returned (.int .i64 (htI fs ns n (x.b, x.u, x.o))) ∧ Gr w w') fun _ _ hh => hh
      have hlk := lookKeptG (htI fs ns n) (x.b, x.u, x.o) es ck (w2.heap.size + 1) KP.out
      obtain ⟨h, hh⟩ : ∃ h, htI fs ns n (x.b, x.u, x.o) = h := ⟨_, rfl⟩
      rw [hh] at TK HB hlk
      clear hp hh
      go_wp2_with fail
      refine (iHabit _ _ _ _ _).mono ?_
      rintro e w5 ⟨rfl, hg5⟩
      have GB := hid ((((Gr.refl wr).al (.cells #[.string x.nm, .int .i16 x.b, .int .i16 x.u, .bool x.o] 67)).trans hg5).al (.cells #[.int .i16 x.b, .int .i16 x.u, .bool x.o] 97))
      have Q5 := hid (alloc1 (w := w5) (A := (.cells #[.int .i16 x.b, .int .i16 x.u, .bool x.o] 97)) (Gr.refl _)).1
      have MB := hid (GB.out.keep MP.out); have TB := hid (GB.out.keep TR.out)
      have hsb := GB.out.size
      clear hg5
      obtain ⟨_, _, _⟩ := cells3 Q5.out
      have _ := ltb Q5.out; have _ := fz Q5.out
      obtain ⟨_, _⟩ := cells2 TB.out
      have _ := ltb TB.out; have _ := fz TB.out
      rcases hlk with hl | ⟨hl, hu⟩
      · have hk' := hl _ MB.out
        have OWN5 := hid (own_gr OWN.out (GB.out.al (.cells #[.int .i64 h] 3)))
        have NEW := hid (one_news (w := (w5.alloc (.cells #[.int .i16 x.b, .int .i16 x.u, .bool x.o] 97)).alloc (.cells #[.int .i64 h] 3)) (b := (w5.alloc (.cells #[.int .i16 x.b, .int .i16 x.u, .bool x.o] 97)).heap.size) (alloc1 (Gr.refl _)).1)
        have G5 := hid (GW.out.trans (GB.out.al (.cells #[.int .i64 h] 3)))
        have M5 := hid (((Gr.refl (w5.alloc (.cells #[.int .i16 x.b, .int .i16 x.u, .bool x.o] 97))).al (.cells #[.int .i64 h] 3)).keep MB.out)
        have T5 := hid (((Gr.refl (w5.alloc (.cells #[.int .i16 x.b, .int .i16 x.u, .bool x.o] 97))).al (.cells #[.int .i64 h] 3)).keep TB.out)
        have hb5 : w2.heap.size + 2 ≤ ((w5.alloc (.cells #[.int .i16 x.b, .int .i16 x.u, .bool x.o] 97)).alloc (.cells #[.int .i64 h] 3)).heap.size := by simp at hsb ⊢; omega
        have hw5 : w.heap.size ≤ w2.heap.size + 2 := by omega
        have e5 : (w5.alloc (.cells #[.int .i16 x.b, .int .i16 x.u, .bool x.o] 97)).heap.size = w5.heap.size + 1 := by simp
        rw [e5] at NEW
        clear hl e5
        dsimp only [gK] at hk'
        go_wp2_with (at_builtin; refine (wpList_append_gr rfl _ _ 100 rfl (w2.heap.size + 2) 3 i0 (.int .i64 0) 1 8 Try.underlying100 hi hz0 hz1 hz2 rfl (by decide) _ k _ rfl OWN5.out ⟨w5.heap.size + 1, 0, none⟩ 1 1 [.int .i64 h] rfl rfl NEW.out (by simp [Value.oneCell']) (by decide) (by unfold maxLen; omega) (by omega) hb5 ?_))
        intro v' w9 own9 hgrow _ hgr
        obtain ⟨A2, c2, rfl⟩ := own_form own9
        rw [TK.out] at own9
        have OWN9 := hid own9
        have G9 := hid (hgr _ G5.out hw5)
        have bm := own_blkJ OWN5.out (m := w2.heap.size + 1) (by omega)
        have bt := own_blkJ OWN5.out (m := w2.heap.size) (by omega)
        have M9 := hid ((hgrow.block _ (ltb M5.out) bm.1).trans M5.out)
        have T9 := hid ((hgrow.block _ (ltb T5.out) bt.1).trans T5.out)
        have hs9 := hgrow.size
        clear own9 hgrow hgr bm bt
        go_wp2_with fail
        exact ⟨⟨k + 1, A2, c2, es, ck, by simp, by simp, by omega, G9.out, by omega, by simpa using OWN9.out, T9.out, M9.out, KP.out⟩, by simp [intOf]; omega⟩
      · have hk' := hl _ MB.out
        have HU := hid hu
        clear hl hu
        dsimp only [gK] at hk'
        go_wp2_with fail
        refine (HB.out _ (hid (XF.out.keep (GW.out.trans GB.out))) (hid (Y.out.keep (GW.out.trans GB.out)))).mono ?_
        rintro e w6 ⟨rfl, hg6⟩
        obtain ⟨w7, es', hup, hm7, hk7, ho7, hsz7⟩ := HU.out _ (hg6.keep MB.out)
        dsimp only [gK] at hup
        have Q6 := hid (hg6.keep Q5.out)
        obtain ⟨_, _, _⟩ := cells3 Q6.out
        have _ := ltb Q6.out; have _ := fz Q6.out
        have G6 := hid (GB.out.trans hg6)
        have O6 := hid (own_gr OWN.out G6.out)
        have O7 := hid (own_only O6.out ho7 (own_blkJ O6.out (by omega)).2)
        have G7 := hid (ho7.2 _ (GW.out.trans G6.out) (by omega))
        have T7 := hid (ho7.1 _ _ (by omega) (hg6.keep TB.out))
        have M7 := hid hm7; have K7 := hid hk7
        have hs6 := G6.out.size
        have hs7 : w6.heap.size ≤ w7.heap.size := by omega
        clear hsz7
        clear hm7 hk7 ho7 hg6
        have OWN5 := hid (own_gr O7.out ((Gr.refl w7).al (.cells #[.int .i64 h] 3)))
        have NEW := hid (one_news (w := w7.alloc (.cells #[.int .i64 h] 3)) (b := w7.heap.size) (alloc1 (Gr.refl _)).1)
        have G5 := hid (G7.out.al (.cells #[.int .i64 h] 3))
        have M5 := hid (((Gr.refl w7).al (.cells #[.int .i64 h] 3)).keep M7.out)
        have T5 := hid (((Gr.refl w7).al (.cells #[.int .i64 h] 3)).keep T7.out)
        have hb5 : w2.heap.size + 2 ≤ (w7.alloc (.cells #[.int .i64 h] 3)).heap.size := by simp; omega
        have hw5 : w.heap.size ≤ w2.heap.size + 2 := by omega
        go_wp2_with (at_builtin; refine (wpList_append_gr rfl _ _ 100 rfl (w2.heap.size + 2) 3 i0 (.int .i64 0) 1 8 Try.underlying100 hi hz0 hz1 hz2 rfl (by decide) _ k _ rfl OWN5.out ⟨w7.heap.size, 0, none⟩ 1 1 [.int .i64 h] rfl rfl NEW.out (by simp [Value.oneCell']) (by decide) (by unfold maxLen; omega) (by omega) hb5 ?_))
        intro v' w9 own9 hgrow _ hgr
        obtain ⟨A2, c2, rfl⟩ := own_form own9
        rw [TK.out] at own9
        have OWN9 := hid own9
        have G9 := hid (hgr _ G5.out hw5)
        have bm := own_blkJ OWN5.out (m := w2.heap.size + 1) (by omega)
        have bt := own_blkJ OWN5.out (m := w2.heap.size) (by omega)
        have M9 := hid ((hgrow.block _ (ltb M5.out) bm.1).trans M5.out)
        have T9 := hid ((hgrow.block _ (ltb T5.out) bt.1).trans T5.out)
        have hs9 := hgrow.size
        clear own9 hgrow hgr bm bt
        go_wp2_with fail
        exact ⟨⟨k + 1, A2, c2, es', ck + 1, by simp, by simp, by omega, G9.out, by omega, by simpa using OWN9.out, T9.out, M9.out, K7.out⟩, by simp [intOf]; omega⟩
    · have hke : k = xs.length := by omega
      subst hke
      have hte : (hts xs fs ns n).take xs.length = hts xs fs ns n := List.take_of_length_le (by rw [hts_len]; exact Nat.le_refl _)
      have RO := hid (RdI.of_own OWN.out)
      rw [hte] at RO
      clear hte
      go_wp2_with fail
      go_ret2
      exact ⟨A', c', rfl, RO.out, GW.out⟩
end Go.Proofs.Ytpadjkgbeijkpaa
