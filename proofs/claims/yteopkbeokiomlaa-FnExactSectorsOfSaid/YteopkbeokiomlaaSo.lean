/- WALKS: SectorsOf, of the program. -/
import Derived.Test.YteopkbeokiomlaaHc
import Derived.Test.YteopkbeokiomlaaIv
import Derived.Test.YteopkbeokiomlaaIw
import Derived.Test.YteopkbeokiomlaaIx
import Derived.Deep.RegionWith
import Derived.Deep.CutRange
namespace Go.Proofs.Yteopkbeokiomlaa
open Go.RowKit Go.Sort

/-- The sector behind the mark k of n, as a head sees it. -/
def sctR (H : Int → Int) (a s : Int) : Int := if turnI (H a) (H (wrapI (a + s))) ≤ 0 then turnI (H a) (H (wrapI (a + s))) + 1296000 else turnI (H a) (H (wrapI (a + s)))
def sctAt (H : Int → Int) (n k : Nat) : Int := sctR H ((k : Int) * ((1296000 : Int) / (n : Int))) ((1296000 : Int) / (n : Int))
def scts (H : Int → Int) (n : Nat) : List Int := (List.range n).map (sctAt H n)
theorem scts_len (H : Int → Int) (n : Nat) : (scts H n).length = n := by simp [scts]
theorem scts_take (H : Int → Int) {n k : Nat} (h : k < n) : (scts H n).take (k + 1) = (scts H n).take k ++ [sctAt H n k] := by
  rw [List.take_add_one]
  simp [scts, h]
/-- What the walks know of the numbers. -/
theorem sct_bd {n k : Nat} (n1 : 2 ≤ n) (hd : divB (n : Int) = true) (h : k < n) : n ≤ 72 ∧ ∃ S : Int, (1296000 : Int) / (n : Int) = S ∧ 1 ≤ S ∧ S ≤ 648000 ∧ 0 ≤ (k : Int) * S ∧ (k : Int) * S + S ≤ 1296000 := by
  unfold divB at hd
  simp at hd
  obtain ⟨⟨_, h2⟩, h3⟩ := hd
  refine ⟨by omega, _, rfl, ?_⟩
  obtain ⟨S, hS⟩ : ∃ S, S = (1296000 : Int) / (n : Int) := ⟨_, rfl⟩
  rw [← hS]
  have e : (n : Int) * S = 1296000 := by
    have := Int.mul_ediv_add_emod (1296000 : Int) (n : Int)
    rw [h3, ← hS] at this
    omega
  have hS1 : 1 ≤ S := by
    by_cases h0 : S ≤ 0
    · have : (n : Int) * S ≤ 0 := Int.mul_nonpos_of_nonneg_of_nonpos (by omega) h0
      omega
    · omega
  have hS2 : 2 * S ≤ (n : Int) * S := Int.mul_le_mul_of_nonneg_right (by omega) (by omega)
  have hk : ((k : Int) + 1) * S ≤ (n : Int) * S := Int.mul_le_mul_of_nonneg_right (by omega) (by omega)
  have hk0 : 0 ≤ (k : Int) * S := Int.mul_nonneg (by omega) (by omega)
  rw [Int.add_mul, Int.one_mul] at hk
  omega
theorem Rdr.grown {w w' : World} {H : Int → Int} {l : Int} {dv : Array Value} {bl bk bd m : Nat} {row : Option Nat} (h : Rdr w H l dv bl bk bd m) (hg : w.grownBy w' row) (n1 : some bl ≠ row) (n2 : some bk ≠ row) (n3 : some bd ≠ row) (n4 : some m ≠ row) : Rdr w' H l dv bl bk bd m := by
  obtain ⟨⟨T1, h1⟩, ⟨T2, h2⟩, ⟨T3, h3⟩, es, c, h4, h5⟩ := h
  exact ⟨⟨T1, by rw [hg.block bl (ltb h1) n1]; exact h1⟩, ⟨T2, by rw [hg.block bk (ltb h2) n2]; exact h2⟩, ⟨T3, by rw [hg.block bd (ltb h3) n3]; exact h3⟩, es, c, by rw [hg.block m (ltb h4) n4]; exact h4, h5⟩
theorem Rdr.lt {w : World} {H : Int → Int} {l : Int} {dv : Array Value} {bl bk bd m : Nat} (h : Rdr w H l dv bl bk bd m) : bl < w.heap.size ∧ bk < w.heap.size ∧ bd < w.heap.size ∧ m < w.heap.size := by
  obtain ⟨⟨T1, h1⟩, ⟨T2, h2⟩, ⟨T3, h3⟩, es, c, h4, h5⟩ := h
  exact ⟨ltb h1, ltb h2, ltb h3, ltb h4⟩
theorem Only.size {g : Nat} {w w' : World} (h : Only g w w') (hg : g < w'.heap.size) : w.heap.size ≤ w'.heap.size := by
  by_cases h0 : w.heap.size = 0
  · omega
  · by_cases h1 : w.heap.size - 1 = g
    · omega
    · have := ltb (h.1 (w.heap.size - 1) (w.heap[w.heap.size - 1]) h1 (Array.getElem?_eq_getElem _))
      omega
theorem RdI.nil (w : World) : RdI w none [] := fun k p h => by simp at h
set_option maxRecDepth 20000 in
set_option maxHeartbeats 1000000 in
theorem iSect_no (A : Option Addr) (c : Nat) (xs : List Int) (e no n l C : Int) (w : World) (X : Hid (RdH w A xs)) (hn : xs.length ≤ 1048576) (hh : xs.all okH = true) (hC : codeR xs e no l [] = C) (h0 : C ≠ 0) :
    Calls Try.prog 34 #[dk A xs.length c e no, .int .i64 n, .int .i64 l] w fun x w' => GivesI w w' x [] C := by
  have HK := hid fun w' (hg : Gr w w') => iCheckR A none c 0 xs [] e no l w' (hid (X.out.keep hg)) (hid (RdI.nil w')) hn hh (by simp)
  rw [hC] at HK
  have c2 : ((C : Int) != 0) = true := by simpa using h0
  clear hh hC h0
  go_enter Try.func34, Try.ntmps34
  go_wp2_with fail
  refine (HK.out _ ((Gr.refl w).al _)).mono ?_
  rintro e w1 ⟨rfl, hg1⟩
  obtain ⟨x1_0, hz1, g1⟩ := alloc1 hg1
  obtain ⟨_, _, _⟩ := cells3 x1_0
  have _ := fz x1_0
  have _ := ltb x1_0
  have X1_0 := hid x1_0; clear x1_0
  have G1 := hid (g1)
  clear hg1 g1
  go_wp2_with fail
  go_ret2
  exact ⟨_, _, rfl, World.ownsRow_nil _ _ _ _, G1.out⟩
set_option maxRecDepth 20000 in
set_option maxHeartbeats 1000000 in
theorem iSect_many (A : Option Addr) (c : Nat) (xs : List Int) (e no n l : Int) (w : World) (X : Hid (RdH w A xs)) (hn : xs.length ≤ 1048576) (hh : xs.all okH = true) (hC : codeR xs e no l [] = 0) (hd : (decide (2 ≤ n) && divB n) = false) :
    Calls Try.prog 34 #[dk A xs.length c e no, .int .i64 n, .int .i64 l] w fun x w' => GivesI w w' x [] 2 := by
  have HK := hid fun w' (hg : Gr w w') => iCheckR A none c 0 xs [] e no l w' (hid (X.out.keep hg)) (hid (RdI.nil w')) hn hh (by simp)
  rw [hC] at HK
  clear hh hC
  by_cases h2 : n < 2
  · clear hd
    go_enter Try.func34, Try.ntmps34
    go_wp2_with fail
    refine (HK.out _ ((Gr.refl w).al _)).mono ?_
    rintro e w1 ⟨rfl, hg1⟩
    obtain ⟨x1_0, hz1, g1⟩ := alloc1 hg1
    obtain ⟨_, _, _⟩ := cells3 x1_0
    have _ := fz x1_0
    have _ := ltb x1_0
    have X1_0 := hid x1_0; clear x1_0
    have G1 := hid (g1)
    clear hg1 g1
    go_wp2_with fail
    go_ret2
    exact ⟨_, _, rfl, World.ownsRow_nil _ _ _ _, G1.out⟩
  · have hd2 : divB n = false := by
      have : decide (2 ≤ n) = true := by simp; omega
      simpa [this] using hd
    clear hd
    go_enter Try.func34, Try.ntmps34
    go_wp2_with fail
    refine (HK.out _ ((Gr.refl w).al _)).mono ?_
    rintro e w1 ⟨rfl, hg1⟩
    obtain ⟨x1_0, hz1, g1⟩ := alloc1 hg1
    obtain ⟨_, _, _⟩ := cells3 x1_0
    have _ := fz x1_0
    have _ := ltb x1_0
    have X1_0 := hid x1_0; clear x1_0
    have G1 := hid (g1)
    clear hg1 g1
    go_wp2_with (go_at_call 90; refine (idiv _ _).mono ?_; rintro x w2 ⟨rfl, rfl⟩; rw [hd2])
    go_ret2
    exact ⟨_, _, rfl, World.ownsRow_nil _ _ _ _, G1.out⟩
set_option maxRecDepth 20000 in
set_option maxHeartbeats 2000000 in
theorem iSect_yes (A : Option Addr) (c : Nat) (xs : List Int) (e no l : Int) (n : Nat) (w : World) (X : Hid (RdH w A xs)) (hn : xs.length ≤ 1048576) (hh : xs.all okH = true) (hc : xs.length ≤ c) (hC : codeR xs e no l [] = 0) (n1 : 2 ≤ n) (hd : divB (n : Int) = true) :
    Calls Try.prog 34 #[dk A xs.length c e no, .int .i64 (n : Int), .int .i64 l] w fun x w' => GivesI w w' x (scts (headF xs e no l) n) 0 := by
  have HK := hid fun w' (hg : Gr w w') => iCheckR A none c 0 xs [] e no l w' (hid (X.out.keep hg)) (hid (RdI.nil w')) hn hh (by simp)
  obtain ⟨hR, _⟩ := codeR_zero hC
  have HRD := hid fun a bl bk bd m w' (a1 : 0 ≤ a) (a2 : a < 1296000) (hx : Hid (RdH w' A xs)) hr => iReaderF A c xs e no l a bl bk bd m w' hx hR hc a1 a2 hr
  have HHB := hid fun a => headF_bd (xs := xs) (e := e) (no := no) (l := l) (a := a)
  have n2 := (sct_bd n1 hd (show 0 < n by omega)).1
  have HD := hid hd
  rw [hC] at HK
  generalize headF xs e no l = H at *
  clear hh hC hR hd
  obtain ⟨i0, hi, iz0, iz1, iz2⟩ : ∃ i, Try.prog.info? 2 = some i ∧ i.zero = some (.int .i64 0) ∧ i.size = 1 ∧ i.bytes = 8 := ⟨_, rfl, rfl, rfl, rfl⟩
  go_enter Try.func34, Try.ntmps34
  go_wp2_with fail
  refine (HK.out _ ((Gr.refl w).al _)).mono ?_
  rintro e w1 ⟨rfl, hg1⟩
  obtain ⟨x1_0, hz1, g1⟩ := alloc1 hg1
  obtain ⟨_, _, _⟩ := cells3 x1_0
  have _ := fz x1_0
  have _ := ltb x1_0
  have X1_0 := hid x1_0; clear x1_0
  have G1 := hid (g1)
  clear hg1 g1
  go_wp2_with (go_at_call 90; refine (idiv _ _).mono ?_; rintro x w2 ⟨rfl, rfl⟩; rw [HD.out])
  refine (iReaderOf H A xs.length c e no l _).mono ?_
  rintro x w2 ⟨bl, bk, bd, m, rfl, hr, hm, hg2⟩
  have RR := hid hr; have G2 := hid (G1.out.trans hg2); have hs1 := G1.out.size
  have HM := hid (Nat.le_trans hs1 hm)
  have hb1 := Nat.le_trans hs1 hg2.size
  clear hr hg2 hm
  go_wp2_with fail
  go_loopw [10, 31] (fun v u wr => ∃ (k : Nat) (A' : Option Addr) (c' : Nat), u = .int .i64 (k : Int) ∧ v = .slice A' k c' ∧ k ≤ n ∧ Gr w wr ∧ Rdr wr H l #[.slice A xs.length c, .int .i64 e, .int .i64 no] bl bk bd m ∧ w2.heap.size ≤ wr.heap.size ∧ wr.ownsRow w2.heap.size 2 1 (.slice A' k c') k (((scts H n).take k).map (.int .i64 ·))) (fun _ u _ => n - (intOf u).toNat)
  case atStart => exact ⟨0, _, _, rfl, rfl, by omega, G2.out, RR.out, Nat.le_refl _, World.ownsRow_nil _ _ _ _⟩
  case round =>
    obtain ⟨k, A', c', rfl, rfl, hk, hg, hrr, hsz, hown⟩ := hrel
    have ZR := hid (show w2.heap.size ≤ wr.drew.heap.size from hsz)
    have HG := hid hg; have YR := hid hrr; have OWN := hid hown
    clear hg hrr hown
    by_cases hlt : k < n
    · obtain ⟨_, S, hS, s1, s2, k1, k2⟩ := sct_bd n1 HD.out hlt
      obtain ⟨h1, h2⟩ := HHB.out ((k : Int) * S)
      obtain ⟨h3, h4⟩ := HHB.out (wrapI ((k : Int) * S + S))
      obtain ⟨o1, o2⟩ := wrap_bd ((k : Int) * S + S)
      have hen := enR ((k : Int) * S) bl bk bd
      have hen2 := enR (wrapI ((k : Int) * S + S)) bl bk bd
      go_wp2_with fail
      go_cut [13] from 34 to 47 (fun v wx => v = .int .i64 (turnI (H ((k : Int) * S)) (H (wrapI ((k : Int) * S + S)))) ∧ Gr w wx ∧ Rdr wx H l #[.slice A xs.length c, .int .i64 e, .int .i64 no] bl bk bd m ∧ w2.heap.size ≤ wx.heap.size ∧ wx.ownsRow w2.heap.size 2 1 (.slice A' k c') k (((scts H n).take k).map (.int .i64 ·)))
      case first =>
        go_region_with (first | (go_at_call_of 156 (Value.int .i64 ((k : Int) * S)); refine (HRD.out _ bl bk bd m _ k1 (by omega) (hid (X.out.keep (HG.out.trans (Gr.drew _)))) (YR.out.keep (Gr.drew _))).mono ?_; rintro x w3 ⟨rfl, hr3, ho3⟩; have R3 := hid hr3; have Z3 := hid (Nat.le_trans ZR.out (Only.size ho3 hr3.lt.2.2.2)); have G3 := hid (ho3.2 w (HG.out.trans (Gr.drew _)) HM.out); have O3 := hid (own_only (own_gr OWN.out (Gr.drew _)) ho3 (fun ad he => Nat.ne_of_gt (Nat.lt_of_lt_of_le (RR.out.lt.2.2.2) (own_lt (own_gr OWN.out (Gr.drew _)) ad he).1))); clear hr3 ho3) | (go_at_call 93; refine (iplus _ _ _ (by omega) (by omega) (by omega) (by omega)).mono ?_; rintro x w4 ⟨rfl, rfl⟩) | (go_at_call_of 156 (Value.int .i64 (wrapI ((k : Int) * S + S))); refine (HRD.out _ bl bk bd m _ o1 o2 (hid (X.out.keep G3.out)) R3.out).mono ?_; rintro x w5 ⟨rfl, hr5, ho5⟩; have R5 := hid hr5; have G5 := hid (ho5.2 w G3.out HM.out); have Z5 := hid (Nat.le_trans Z3.out (Only.size ho5 hr5.lt.2.2.2)); have O5 := hid (own_only O3.out ho5 (fun ad he => Nat.ne_of_gt (Nat.lt_of_lt_of_le (RR.out.lt.2.2.2) (own_lt O3.out ad he).1))); clear hr5 ho5) | (go_at_call 92; refine (iturn _ _ _ (by omega) (by omega) (by omega) (by omega)).mono ?_; rintro x w6 ⟨rfl, rfl⟩))
        all_goals
          go_wp2_with fail
          go_meet
          exact ⟨rfl, G5.out, R5.out, Z5.out, O5.out⟩
      case rest =>
        obtain ⟨rfl, hg5, hr5, hz5, ho5⟩ := hcut
        have G5 := hid hg5; have R5 := hid hr5; have O5 := hid ho5
        have hsct : sctAt H n k = sctR H ((k : Int) * S) S := by unfold sctAt; rw [hS]
        have HST := hid hsct
        clear hg5 hr5 ho5 hsct OWN YR HG
        obtain ⟨t1, t2⟩ := turn_bd (H ((k : Int) * S)) (H (wrapI ((k : Int) * S + S)))
        by_cases ht : turnI (H ((k : Int) * S)) (H (wrapI ((k : Int) * S + S))) ≤ 0
        · skip
          have e0 : sctR H ((k : Int) * S) S = turnI (H ((k : Int) * S)) (H (wrapI ((k : Int) * S + S))) + 1296000 := if_pos ht
          rw [e0] at HST
          clear e0
          have OWN1 := hid (own_gr O5.out ((Gr.refl _).al (.cells #[.int .i64 (turnI (H ((k : Int) * S)) (H (wrapI ((k : Int) * S + S))) + 1296000)] 2)))
          have NEW := hid (one_news (w := wc.alloc (.cells #[.int .i64 (turnI (H ((k : Int) * S)) (H (wrapI ((k : Int) * S + S))) + 1296000)] 2)) (b := wc.heap.size) (alloc1 (Gr.refl _)).1)
          have G6 := hid (G5.out.al (.cells #[.int .i64 (turnI (H ((k : Int) * S)) (H (wrapI ((k : Int) * S + S))) + 1296000)] 2))
          have R6 := hid (R5.out.keep ((Gr.refl _).al (.cells #[.int .i64 (turnI (H ((k : Int) * S)) (H (wrapI ((k : Int) * S + S))) + 1296000)] 2)))
          have hz6 : w2.heap.size ≤ (wc.alloc (.cells #[.int .i64 (turnI (H ((k : Int) * S)) (H (wrapI ((k : Int) * S + S))) + 1296000)] 2)).heap.size := by simp; omega
          have Z6 := hid hz6
          clear O5 G5 R5 hz6
          go_wp2_with (at_builtin; refine (wpList_append_gr rfl _ _ 56 rfl w2.heap.size 2 i0 (.int .i64 0) 1 8 Try.underlying56 hi iz0 iz1 iz2 rfl (by decide) _ k _ rfl OWN1.out ⟨wc.heap.size, 0, none⟩ 1 1 [.int .i64 (turnI (H ((k : Int) * S)) (H (wrapI ((k : Int) * S + S))) + 1296000)] rfl rfl NEW.out (by simp [Value.oneCell']) (by decide) (by unfold maxLen; omega) (by omega) Z6.out ?_))
          intro v' w4 own4 hgb _ hgr
          obtain ⟨A2, c2, rfl⟩ := own_form own4
          have e2 : (((scts H n).map (Value.int .i64 ·)).take k) ++ [.int .i64 (turnI (H ((k : Int) * S)) (H (wrapI ((k : Int) * S + S))) + 1296000)] = ((scts H n).take (k + 1)).map (Value.int .i64 ·) := by rw [scts_take H hlt, HST.out]; simp [List.map_take]
          rw [e2] at own4
          have OWN4 := hid own4
          have G4 := hid (hgr w G6.out hb1)
          have R4 := hid (R6.out.grown hgb (row_ne_low OWN1.out RR.out.lt.1) (row_ne_low OWN1.out RR.out.lt.2.1) (row_ne_low OWN1.out RR.out.lt.2.2.1) (row_ne_low OWN1.out RR.out.lt.2.2.2))
          have Z4 := hid (Nat.le_trans Z6.out hgb.size)
          clear own4 hgr hgb e2 OWN1 NEW
          go_wp2_with fail
          exact ⟨⟨k + 1, A2, c2, by simp, by simp, by omega, G4.out, R4.out, Z4.out, OWN4.out⟩, by simp [intOf]; omega⟩
        · skip
          have e0 : sctR H ((k : Int) * S) S = turnI (H ((k : Int) * S)) (H (wrapI ((k : Int) * S + S))) := if_neg ht
          rw [e0] at HST
          clear e0
          have OWN1 := hid (own_gr O5.out ((Gr.refl _).al (.cells #[.int .i64 (turnI (H ((k : Int) * S)) (H (wrapI ((k : Int) * S + S))))] 2)))
          have NEW := hid (one_news (w := wc.alloc (.cells #[.int .i64 (turnI (H ((k : Int) * S)) (H (wrapI ((k : Int) * S + S))))] 2)) (b := wc.heap.size) (alloc1 (Gr.refl _)).1)
          have G6 := hid (G5.out.al (.cells #[.int .i64 (turnI (H ((k : Int) * S)) (H (wrapI ((k : Int) * S + S))))] 2))
          have R6 := hid (R5.out.keep ((Gr.refl _).al (.cells #[.int .i64 (turnI (H ((k : Int) * S)) (H (wrapI ((k : Int) * S + S))))] 2)))
          have hz6 : w2.heap.size ≤ (wc.alloc (.cells #[.int .i64 (turnI (H ((k : Int) * S)) (H (wrapI ((k : Int) * S + S))))] 2)).heap.size := by simp; omega
          have Z6 := hid hz6
          clear O5 G5 R5 hz6
          go_wp2_with (at_builtin; refine (wpList_append_gr rfl _ _ 56 rfl w2.heap.size 2 i0 (.int .i64 0) 1 8 Try.underlying56 hi iz0 iz1 iz2 rfl (by decide) _ k _ rfl OWN1.out ⟨wc.heap.size, 0, none⟩ 1 1 [.int .i64 (turnI (H ((k : Int) * S)) (H (wrapI ((k : Int) * S + S))))] rfl rfl NEW.out (by simp [Value.oneCell']) (by decide) (by unfold maxLen; omega) (by omega) Z6.out ?_))
          intro v' w4 own4 hgb _ hgr
          obtain ⟨A2, c2, rfl⟩ := own_form own4
          have e2 : (((scts H n).map (Value.int .i64 ·)).take k) ++ [.int .i64 (turnI (H ((k : Int) * S)) (H (wrapI ((k : Int) * S + S))))] = ((scts H n).take (k + 1)).map (Value.int .i64 ·) := by rw [scts_take H hlt, HST.out]; simp [List.map_take]
          rw [e2] at own4
          have OWN4 := hid own4
          have G4 := hid (hgr w G6.out hb1)
          have R4 := hid (R6.out.grown hgb (row_ne_low OWN1.out RR.out.lt.1) (row_ne_low OWN1.out RR.out.lt.2.1) (row_ne_low OWN1.out RR.out.lt.2.2.1) (row_ne_low OWN1.out RR.out.lt.2.2.2))
          have Z4 := hid (Nat.le_trans Z6.out hgb.size)
          clear own4 hgr hgb e2 OWN1 NEW
          go_wp2_with fail
          exact ⟨⟨k + 1, A2, c2, by simp, by simp, by omega, G4.out, R4.out, Z4.out, OWN4.out⟩, by simp [intOf]; omega⟩
    · have hke : k = n := by omega
      subst hke
      go_wp2_with fail
      go_ret2
      have h := OWN.out
      have e3 : (scts H k).take k = scts H k := by rw [List.take_of_length_le (by rw [scts_len]; exact Nat.le_refl _)]
      rw [e3] at h
      rw [← scts_len H k] at h
      refine ⟨A', c', ?_, own_base (by rw [scts_len] at h ⊢; exact h) hb1, HG.out⟩
      rw [scts_len]
      rfl
end Go.Proofs.Yteopkbeokiomlaa
