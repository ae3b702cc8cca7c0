/- TEXTS of benches: of the reference; both joined. -/
import Derived.Test.YtgfopfomhgfcaaaGreatDoorJb
namespace Go.Proofs.YtgfopfomhgfcaaaGreatDoor
open Go.RowKit Go.Sort

set_option maxRecDepth 20000 in
set_option maxHeartbeats 2000000 in
theorem sScTextB (a b : Int) (A : Option Addr) (c j n : Nat) (N : Int) (kb : Bool) (u v : Int) (B : Option Addr) (l d : Nat) (xs : List (Int × Int)) (w : World) (X1 : Hid (w.heap[j]? = some (.cells (bncA a b A n c N kb u v B l d) 41))) (X : Hid (RdF w A xs)) (hn : xs.length = n) (h9 : n ≤ 999) (h0 : okB a b = true) (hk : ∀ x ∈ xs, okB x.1 x.2 = true) :
    Calls Tryz.prog 72 #[.pointer (some ⟨j, 0, none⟩)] w fun e w' => e = .returned (.string (scT a b xs n)) ∧ Gr w w' := by
  have HK := hid hk; have HN := hid hn; have H0 := hid h0
  have SZ := hid fun k => scT_size (a := a) (b := b) (xs := xs) k h0 hk (by omega)
  have HZ := hid (scT_zero a b xs)
  clear hk hn h0
  obtain ⟨_, _, _, _, _, _, _, _⟩ := cells8 X1.out
  have _ := ltb X1.out
  go_enter Tryz.func72, Tryz.ntmps72
  go_wp2_with fail
  refine (sText a b _ H0.out).mono ?_
  rintro e w1 ⟨rfl, hg1⟩
  have G1 := hid hg1; clear hg1
  have J1 := hid (G1.out.keep X1.out)
  obtain ⟨_, _, _, _, _, _, _, _⟩ := cells8 J1.out
  have _ := ltb J1.out
  go_wp2_with fail
  go_loopw [3, 4] (fun t U wr => ∃ (k : Nat), U = .int .i64 (k : Int) ∧ t = .string (scT a b xs k) ∧ k ≤ n ∧ Gr w wr) (fun _ U _ => n - (intOf U).toNat)
  case atStart => exact ⟨0, rfl, by rw [HZ.out], by omega, G1.out⟩
  case round =>
    obtain ⟨k, rfl, rfl, hkn, hg⟩ := hrel
    have GW := hid hg; clear hg
    have J2 := hid (GW.out.keep X1.out)
    obtain ⟨_, _, _, _, _, _, _, _⟩ := cells8 J2.out
    have _ := ltb J2.out
    by_cases hlt : k < n
    · obtain ⟨⟨p, q⟩, hp⟩ : ∃ x, xs[k]? = some x := ⟨xs[k]'(by rw [HN.out]; exact hlt), List.getElem?_eq_getElem _⟩
      obtain ⟨ad, rfl, c1, c2⟩ := (X.out.keep GW.out) k p q hp
      have hok := hid (HK.out (p, q) (List.mem_of_getElem? hp))
      have TK := hid (scT_succ (a := a) (b := b) hp)
      have s1 : (txtF p q).size ≤ 43 := by rw [txtF_mk]; show (txtFl p q).toArray.size ≤ 43; simpa using txtFl_len hok.out
      have s2 := SZ.out k
      obtain ⟨S, hS⟩ : ∃ S, scT a b xs k = S := ⟨_, rfl⟩
      rw [hS] at TK s2
      rw [hS]
      clear hp hS
      go_wp2_with fail
      refine (sText p q _ hok.out).mono ?_
      rintro e w5 ⟨rfl, hg5⟩
      have G5 := hid (GW.out.trans hg5); clear hg5
      go_wp2_with fail
      exact ⟨⟨k + 1, by simp, by rw [← TK.out], by omega, G5.out⟩, by simp [intOf]; omega⟩
    · have hke : k = n := by omega
      subst hke
      go_wp2_with fail
      go_ret
      exact ⟨rfl, GW.out⟩
set_option maxRecDepth 20000 in
set_option maxHeartbeats 4000000 in
theorem sBnText_true (a b : Int) (A : Option Addr) (c : Nat) (xs : List (Int × Int)) (N u v : Int) (g d j : Nat) (ts : List Tgv) (w : World) (XJ : Hid (w.heap[j]? = some (.cells (bncA a b A xs.length c N true u v (some ⟨g, 0, none⟩) ts.length d) 41))) (X : Hid (RdF w A xs)) (TT : Hid (RdTg w (some ⟨g, 0, none⟩) ts)) (h : benB a b xs N u v ts = true) :
    Calls Tryz.prog 29 #[.pointer (some ⟨j, 0, none⟩)] w fun e w' => e = .returned (.string ⟨(bnT (Lib.join (wds ((a, b) :: xs)) [32]) (vnLn N [98, 97, 99, 107] u v) ts ts.length).toArray⟩) ∧ Gr w w' := by
  obtain ⟨hsc, ⟨hN1, hN2⟩, huv, hl, htg⟩ := ben_ok h
  obtain ⟨k0, k1, k2, k3⟩ := scl_ok hsc
  have HS : Hid (∀ (w : World) (_ : Hid (w.heap[j]? = some (.cells (bncA a b A xs.length c N true u v (some ⟨g, 0, none⟩) ts.length d) 41))) (_ : Hid (RdF w A xs)), Calls Tryz.prog 72 #[.pointer (some ⟨j, 0, none⟩)] w fun e w' => e = .returned (.string ⟨(Lib.join (wds ((a, b) :: xs)) [32]).toArray⟩) ∧ Gr w w') := hid fun w X1 X => by
    have := sScTextB a b A c j xs.length N true u v (some ⟨g, 0, none⟩) ts.length d xs w X1 X rfl (by omega) k0 k3
    rwa [scT_all] at this
  have HU : Hid (∀ w : World, Calls Tryz.prog 73 #[.int .i64 N] w fun e w' => e = .returned (.string (txt N)) ∧ Gr w w') := hid fun w => by
    obtain ⟨n, hn⟩ := Int.eq_ofNat_of_zero_le (show 0 ≤ N by omega)
    rw [hn, txt_nat]
    exact sDec n w (by omega)
  have HT := hid fun (w : World) => sText u v w huv
  have HTG := hid htg
  have hhl : (vnLn N [98, 97, 99, 107] u v).length ≤ 70 := vnLn_len (by omega) hN2 (by decide) huv
  have hscl := scT_len hsc
  have HTL := hid fun k => bnT_len hscl hhl htg hl k
  have s1 : (txt N).size ≤ 21 := txt_size (by omega) (by omega)
  have s2 : (txtF u v).size ≤ 43 := by rw [txtF_mk]; show (txtFl u v).toArray.size ≤ 43; simpa using txtFl_len huv
  have s3 : (⟨(Lib.join (wds ((a, b) :: xs)) [32]).toArray⟩ : ByteArray).size ≤ 50000 := by show (Lib.join (wds ((a, b) :: xs)) [32]).toArray.size ≤ 50000; simpa using hscl
  have HB0 := hid (show ((((((⟨(Lib.join (wds ((a, b) :: xs)) [32]).toArray⟩ : ByteArray) ++ ⟨#[10]⟩) ++ txt N) ++ ⟨#[32, 98, 97, 99, 107, 32]⟩) ++ txtF u v) ++ ⟨#[10]⟩) = ⟨(bnT (Lib.join (wds ((a, b) :: xs)) [32]) (vnLn N [98, 97, 99, 107] u v) ts 0).toArray⟩ by
    rw [bnT_zero, vnLn_is, txtF_mk]
    unfold txt
    rw [ba_app, ba_app, ba_app, ba_app, ba_app]
    simp)
  obtain ⟨Sc, hSc⟩ : ∃ Sc, Lib.join (wds ((a, b) :: xs)) [32] = Sc := ⟨_, rfl⟩
  obtain ⟨Hd, hHd⟩ : ∃ Hd, vnLn N [98, 97, 99, 107] u v = Hd := ⟨_, rfl⟩
  rw [hSc, hHd] at HTL
  rw [hHd] at HB0
  rw [hSc] at HS s3
  obtain ⟨SQ, hSQ⟩ : ∃ SQ, (⟨Sc.toArray⟩ : ByteArray) = SQ := ⟨_, rfl⟩
  rw [hSc, hSQ] at HB0
  rw [hSQ] at HS s3
  rw [hSc, hHd]
  clear h hsc htg huv hhl hSc hHd k0 k1 k2 k3 hscl hSQ
  obtain ⟨z0, z1, z2, z3, z4, z5, z6, z7⟩ := cells8 XJ.out
  have _ := ltb XJ.out
  go_enter Tryz.func29, Tryz.ntmps29
  go_wp2_with fail
  refine wp_reg0 21 (by kernel_rfl) (by kernel_rfl) ?_
  apply Exists.intro
  refine ⟨fun wb hb => ?_, ?_⟩
  · have _ := hb.atF z3; have _ := hb.atF z5; have _ := hb.atF z6
    have YB := fun (m : Nat) (os : Array Obj) => (XJ.out |> (hb.trans ⟨⟨m, os⟩, rfl⟩ : Gr w (grow (wb.drewN m) os)).keep)
    have XB := fun (m : Nat) (os : Array Obj) => X.out.keep (hb.trans ⟨⟨m, os⟩, rfl⟩ : Gr w (grow (wb.drewN m) os))
    simp only [headOps, List.contains, List.elem, reduceIte, Bool.false_eq_true]
    repeat (first | go_big_quiet_step (first | (go_at_call 73; exact Calls.of_gr (HU.out _)) | (go_at_call 72; exact Calls.of_gr (HS.out _ (hid (YB _ _)) (hid (XB _ _)))) | (go_at_call 74; exact Calls.of_gr (HT.out _))) | quiet_step (fail))
    exact wpQuiet_nil rfl
  intro w1 hg1
  have G1 := hid (hg1)
  clear hg1
  go_wp2_with fail
  go_loopw [4, 5] (fun t U wr => ∃ (k : Nat), U = .int .i64 (k : Int) ∧ t = .string ⟨(bnT Sc Hd ts k).toArray⟩ ∧ k ≤ ts.length ∧ Gr w wr) (fun _ U _ => ts.length - (intOf U).toNat)
  case atStart => exact ⟨0, rfl, by rw [← HB0.out], by omega, G1.out⟩
  case round =>
    obtain ⟨k, rfl, rfl, hkn, hg⟩ := hrel
    have GW := hid hg; clear hg
    have J2 := hid (GW.out.keep XJ.out)
    obtain ⟨_, _, _, _, _, _, _, _⟩ := cells8 J2.out
    have _ := ltb J2.out
    by_cases hlt : k < ts.length
    · obtain ⟨x, hx⟩ : ∃ x, ts[k]? = some x := ⟨ts[k], List.getElem?_eq_getElem _⟩
      have HTK := hid (bnT_succ (Sc := Sc) (Hd := Hd) hx)
      obtain ⟨hnm, o1, o2⟩ := tg_oks (HTG.out x (List.mem_of_getElem? hx))
      obtain ⟨ad, he, hcel⟩ := (TT.out.keep GW.out) k x hx
      cases he
      rw [add_at] at hcel
      obtain ⟨f0, f1, f2, f3, f4⟩ := hcel.blk
      have s4 : (⟨(bnT Sc Hd ts k).toArray⟩ : ByteArray).size ≤ 60000 := by show (bnT Sc Hd ts k).toArray.size ≤ 60000; simpa using HTL.out k
      have s5 : (txtF x.p x.q).size ≤ 43 := by rw [txtF_mk]; show (txtFl x.p x.q).toArray.size ≤ 43; simpa using txtFl_len o1
      have s6 : (txtF x.a x.b).size ≤ 43 := by rw [txtF_mk]; show (txtFl x.a x.b).toArray.size ≤ 43; simpa using txtFl_len o2
      have O1 := hid o1; have O2 := hid o2
      have HE := hid (show (⟨(bnT Sc Hd ts k).toArray⟩ : ByteArray) ++ (((((x.nm ++ ⟨#[32]⟩) ++ txtF x.p x.q) ++ ⟨#[32]⟩) ++ txtF x.a x.b) ++ ⟨#[10]⟩) = ⟨(bnT Sc Hd ts (k + 1)).toArray⟩ by
        rw [HTK.out, txtF_mk, txtF_mk]
        apply ByteArray.ext
        apply Array.ext'
        simp [tgLn])
      obtain ⟨R, hR⟩ : ∃ R, (⟨(bnT Sc Hd ts k).toArray⟩ : ByteArray) = R := ⟨_, rfl⟩
      rw [hR] at HE s4
      rw [hR]
      clear hx hR o1 o2 hcel
      go_wp2_with fail
      refine wp_reg0 21 (by kernel_rfl) (by kernel_rfl) ?_
      apply Exists.intro
      refine ⟨fun wb hb => ?_, ?_⟩
      · have _ := hb.atF f0; have _ := hb.atF f1; have _ := hb.atF f2; have _ := hb.atF f3; have _ := hb.atF f4
        simp only [headOps, List.contains, List.elem, reduceIte, Bool.false_eq_true]
        repeat (first | go_big_quiet_step (first | (go_at_call_of 74 (Value.agg #[Value.int IntKind.i64 x.p, Value.int IntKind.i64 x.q]); exact Calls.of_gr (sText x.p x.q _ O1.out)) | (go_at_call_of 74 (Value.agg #[Value.int IntKind.i64 x.a, Value.int IntKind.i64 x.b]); exact Calls.of_gr (sText x.a x.b _ O2.out))) | quiet_step (fail))
        exact wpQuiet_nil rfl
      intro w5 hg5
      have G5 := hid (GW.out.trans hg5); clear hg5
      go_wp2_with fail
      exact ⟨⟨k + 1, by simp, by rw [← HE.out], by omega, G5.out⟩, by simp [intOf]; omega⟩
    · have hke : k = ts.length := by omega
      subst hke
      go_wp2_with fail
      go_ret
      exact ⟨rfl, GW.out⟩
set_option maxRecDepth 20000 in
set_option maxHeartbeats 4000000 in
theorem sBnText_false (a b : Int) (A : Option Addr) (c : Nat) (xs : List (Int × Int)) (N u v : Int) (g d j : Nat) (ts : List Tgv) (w : World) (XJ : Hid (w.heap[j]? = some (.cells (bncA a b A xs.length c N false u v (some ⟨g, 0, none⟩) ts.length d) 41))) (X : Hid (RdF w A xs)) (TT : Hid (RdTg w (some ⟨g, 0, none⟩) ts)) (h : benB a b xs N u v ts = true) :
    Calls Tryz.prog 29 #[.pointer (some ⟨j, 0, none⟩)] w fun e w' => e = .returned (.string ⟨(bnT (Lib.join (wds ((a, b) :: xs)) [32]) (vnLn N [111, 110] u v) ts ts.length).toArray⟩) ∧ Gr w w' := by
  obtain ⟨hsc, ⟨hN1, hN2⟩, huv, hl, htg⟩ := ben_ok h
  obtain ⟨k0, k1, k2, k3⟩ := scl_ok hsc
  have HS : Hid (∀ (w : World) (_ : Hid (w.heap[j]? = some (.cells (bncA a b A xs.length c N false u v (some ⟨g, 0, none⟩) ts.length d) 41))) (_ : Hid (RdF w A xs)), Calls Tryz.prog 72 #[.pointer (some ⟨j, 0, none⟩)] w fun e w' => e = .returned (.string ⟨(Lib.join (wds ((a, b) :: xs)) [32]).toArray⟩) ∧ Gr w w') := hid fun w X1 X => by
    have := sScTextB a b A c j xs.length N false u v (some ⟨g, 0, none⟩) ts.length d xs w X1 X rfl (by omega) k0 k3
    rwa [scT_all] at this
  have HU : Hid (∀ w : World, Calls Tryz.prog 73 #[.int .i64 N] w fun e w' => e = .returned (.string (txt N)) ∧ Gr w w') := hid fun w => by
    obtain ⟨n, hn⟩ := Int.eq_ofNat_of_zero_le (show 0 ≤ N by omega)
    rw [hn, txt_nat]
    exact sDec n w (by omega)
  have HT := hid fun (w : World) => sText u v w huv
  have HTG := hid htg
  have hhl : (vnLn N [111, 110] u v).length ≤ 70 := vnLn_len (by omega) hN2 (by decide) huv
  have hscl := scT_len hsc
  have HTL := hid fun k => bnT_len hscl hhl htg hl k
  have s1 : (txt N).size ≤ 21 := txt_size (by omega) (by omega)
  have s2 : (txtF u v).size ≤ 43 := by rw [txtF_mk]; show (txtFl u v).toArray.size ≤ 43; simpa using txtFl_len huv
  have s3 : (⟨(Lib.join (wds ((a, b) :: xs)) [32]).toArray⟩ : ByteArray).size ≤ 50000 := by show (Lib.join (wds ((a, b) :: xs)) [32]).toArray.size ≤ 50000; simpa using hscl
  have HB0 := hid (show ((((((⟨(Lib.join (wds ((a, b) :: xs)) [32]).toArray⟩ : ByteArray) ++ ⟨#[10]⟩) ++ txt N) ++ ⟨#[32, 111, 110, 32]⟩) ++ txtF u v) ++ ⟨#[10]⟩) = ⟨(bnT (Lib.join (wds ((a, b) :: xs)) [32]) (vnLn N [111, 110] u v) ts 0).toArray⟩ by
    rw [bnT_zero, vnLn_is, txtF_mk]
    unfold txt
    rw [ba_app, ba_app, ba_app, ba_app, ba_app]
    simp)
  obtain ⟨Sc, hSc⟩ : ∃ Sc, Lib.join (wds ((a, b) :: xs)) [32] = Sc := ⟨_, rfl⟩
  obtain ⟨Hd, hHd⟩ : ∃ Hd, vnLn N [111, 110] u v = Hd := ⟨_, rfl⟩
  rw [hSc, hHd] at HTL
  rw [hHd] at HB0
  rw [hSc] at HS s3
  obtain ⟨SQ, hSQ⟩ : ∃ SQ, (⟨Sc.toArray⟩ : ByteArray) = SQ := ⟨_, rfl⟩
  rw [hSc, hSQ] at HB0
  rw [hSQ] at HS s3
  rw [hSc, hHd]
  clear h hsc htg huv hhl hSc hHd k0 k1 k2 k3 hscl hSQ
  obtain ⟨z0, z1, z2, z3, z4, z5, z6, z7⟩ := cells8 XJ.out
  have _ := ltb XJ.out
  go_enter Tryz.func29, Tryz.ntmps29
  go_wp2_with fail
  refine wp_reg0 21 (by kernel_rfl) (by kernel_rfl) ?_
  apply Exists.intro
  refine ⟨fun wb hb => ?_, ?_⟩
  · have _ := hb.atF z3; have _ := hb.atF z5; have _ := hb.atF z6
    have YB := fun (m : Nat) (os : Array Obj) => (XJ.out |> (hb.trans ⟨⟨m, os⟩, rfl⟩ : Gr w (grow (wb.drewN m) os)).keep)
    have XB := fun (m : Nat) (os : Array Obj) => X.out.keep (hb.trans ⟨⟨m, os⟩, rfl⟩ : Gr w (grow (wb.drewN m) os))
    simp only [headOps, List.contains, List.elem, reduceIte, Bool.false_eq_true]
    repeat (first | go_big_quiet_step (first | (go_at_call 73; exact Calls.of_gr (HU.out _)) | (go_at_call 72; exact Calls.of_gr (HS.out _ (hid (YB _ _)) (hid (XB _ _)))) | (go_at_call 74; exact Calls.of_gr (HT.out _))) | quiet_step (fail))
    exact wpQuiet_nil rfl
  intro w1 hg1
  have G1 := hid (hg1)
  clear hg1
  go_wp2_with fail
  go_loopw [4, 5] (fun t U wr => ∃ (k : Nat), U = .int .i64 (k : Int) ∧ t = .string ⟨(bnT Sc Hd ts k).toArray⟩ ∧ k ≤ ts.length ∧ Gr w wr) (fun _ U _ => ts.length - (intOf U).toNat)
  case atStart => exact ⟨0, rfl, by rw [← HB0.out], by omega, G1.out⟩
  case round =>
    obtain ⟨k, rfl, rfl, hkn, hg⟩ := hrel
    have GW := hid hg; clear hg
    have J2 := hid (GW.out.keep XJ.out)
    obtain ⟨_, _, _, _, _, _, _, _⟩ := cells8 J2.out
    have _ := ltb J2.out
    by_cases hlt : k < ts.length
    · obtain ⟨x, hx⟩ : ∃ x, ts[k]? = some x := ⟨ts[k], List.getElem?_eq_getElem _⟩
      have HTK := hid (bnT_succ (Sc := Sc) (Hd := Hd) hx)
      obtain ⟨hnm, o1, o2⟩ := tg_oks (HTG.out x (List.mem_of_getElem? hx))
      obtain ⟨ad, he, hcel⟩ := (TT.out.keep GW.out) k x hx
      cases he
      rw [add_at] at hcel
      obtain ⟨f0, f1, f2, f3, f4⟩ := hcel.blk
      have s4 : (⟨(bnT Sc Hd ts k).toArray⟩ : ByteArray).size ≤ 60000 := by show (bnT Sc Hd ts k).toArray.size ≤ 60000; simpa using HTL.out k
      have s5 : (txtF x.p x.q).size ≤ 43 := by rw [txtF_mk]; show (txtFl x.p x.q).toArray.size ≤ 43; simpa using txtFl_len o1
      have s6 : (txtF x.a x.b).size ≤ 43 := by rw [txtF_mk]; show (txtFl x.a x.b).toArray.size ≤ 43; simpa using txtFl_len o2
      have O1 := hid o1; have O2 := hid o2
      have HE := hid (show (⟨(bnT Sc Hd ts k).toArray⟩ : ByteArray) ++ (((((x.nm ++ ⟨#[32]⟩) ++ txtF x.p x.q) ++ ⟨#[32]⟩) ++ txtF x.a x.b) ++ ⟨#[10]⟩) = ⟨(bnT Sc Hd ts (k + 1)).toArray⟩ by
        rw [HTK.out, txtF_mk, txtF_mk]
        apply ByteArray.ext
        apply Array.ext'
        simp [tgLn])
      obtain ⟨R, hR⟩ : ∃ R, (⟨(bnT Sc Hd ts k).toArray⟩ : ByteArray) = R := ⟨_, rfl⟩
      rw [hR] at HE s4
      rw [hR]
      clear hx hR o1 o2 hcel
      go_wp2_with fail
      refine wp_reg0 21 (by kernel_rfl) (by kernel_rfl) ?_
      apply Exists.intro
      refine ⟨fun wb hb => ?_, ?_⟩
      · have _ := hb.atF f0; have _ := hb.atF f1; have _ := hb.atF f2; have _ := hb.atF f3; have _ := hb.atF f4
        simp only [headOps, List.contains, List.elem, reduceIte, Bool.false_eq_true]
        repeat (first | go_big_quiet_step (first | (go_at_call_of 74 (Value.agg #[Value.int IntKind.i64 x.p, Value.int IntKind.i64 x.q]); exact Calls.of_gr (sText x.p x.q _ O1.out)) | (go_at_call_of 74 (Value.agg #[Value.int IntKind.i64 x.a, Value.int IntKind.i64 x.b]); exact Calls.of_gr (sText x.a x.b _ O2.out))) | quiet_step (fail))
        exact wpQuiet_nil rfl
      intro w5 hg5
      have G5 := hid (GW.out.trans hg5); clear hg5
      go_wp2_with fail
      exact ⟨⟨k + 1, by simp, by rw [← HE.out], by omega, G5.out⟩, by simp [intOf]; omega⟩
    · have hke : k = ts.length := by omega
      subst hke
      go_wp2_with fail
      go_ret
      exact ⟨rfl, GW.out⟩
set_option maxRecDepth 20000 in
set_option maxHeartbeats 1000000 in
theorem sBenchText_no (a b : Int) (A : Option Addr) (c : Nat) (xs : List (Int × Int)) (N : Int) (kb : Bool) (u v : Int) (g d : Nat) (ts : List Tgv) (w : World) (X : Hid (RdF w A xs)) (TT : Hid (RdTg w (some ⟨g, 0, none⟩) ts)) (hn : xs.length ≤ 1048576) (hm : ts.length ≤ 1048576) (hz : ∀ x ∈ ts, x.nm.size ≤ 9223372036854775807) (h : benB a b xs N u v ts = false) :
    Calls Tryz.prog 8 #[bnc a b A xs.length c N kb u v (some ⟨g, 0, none⟩) ts.length d] w fun e w' => e = .returned (.string ⟨#[]⟩) ∧ Gr w w' := by
  have HB := hid fun (w : World) (j : Nat) (XJ : Hid (w.heap[j]? = some (.cells (bncA a b A xs.length c N kb u v (some ⟨g, 0, none⟩) ts.length d) 41))) (X : Hid (RdF w A xs)) (T : Hid (RdTg w (some ⟨g, 0, none⟩) ts)) => sVB a b A c j xs N kb u v g d ts false w XJ X T hn hm hz h
  clear hz h
  go_enter Tryz.func8, Tryz.ntmps8
  go_wp2_with fail
  refine (HB.out _ _ (hid (alloc1 (Gr.refl _)).1) (hid (X.out.keep ((Gr.refl w).al _))) (hid (TT.out.keep ((Gr.refl w).al _)))).mono ?_
  rintro e w1 ⟨rfl, hg1⟩
  obtain ⟨x1_0, hz1, g1⟩ := alloc1 hg1
  obtain ⟨_, _, _, _, _, _, _, _⟩ := cells8 x1_0
  have _ := fz x1_0
  have _ := ltb x1_0
  have X1_0 := hid x1_0; clear x1_0
  have G1 := hid (g1)
  clear hg1 g1
  go_wp2
  go_ret
  exact ⟨rfl, G1.out⟩
set_option maxRecDepth 20000 in
set_option maxHeartbeats 1000000 in
theorem sBenchText_true (a b : Int) (A : Option Addr) (c : Nat) (xs : List (Int × Int)) (N u v : Int) (g d : Nat) (ts : List Tgv) (w : World) (X : Hid (RdF w A xs)) (TT : Hid (RdTg w (some ⟨g, 0, none⟩) ts)) (hn : xs.length ≤ 1048576) (hm : ts.length ≤ 1048576) (hz : ∀ x ∈ ts, x.nm.size ≤ 9223372036854775807) (h : benB a b xs N u v ts = true) :
    Calls Tryz.prog 8 #[bnc a b A xs.length c N true u v (some ⟨g, 0, none⟩) ts.length d] w fun e w' => e = .returned (.string ⟨(bnT (Lib.join (wds ((a, b) :: xs)) [32]) (vnLn N [98, 97, 99, 107] u v) ts ts.length).toArray⟩) ∧ Gr w w' := by
  have HB := hid fun (w : World) (j : Nat) (XJ : Hid (w.heap[j]? = some (.cells (bncA a b A xs.length c N true u v (some ⟨g, 0, none⟩) ts.length d) 41))) (X : Hid (RdF w A xs)) (T : Hid (RdTg w (some ⟨g, 0, none⟩) ts)) => sVB a b A c j xs N true u v g d ts true w XJ X T hn hm hz h
  have HT := hid fun (w : World) (j : Nat) (XJ : Hid (w.heap[j]? = some (.cells (bncA a b A xs.length c N true u v (some ⟨g, 0, none⟩) ts.length d) 41))) (X : Hid (RdF w A xs)) (T : Hid (RdTg w (some ⟨g, 0, none⟩) ts)) => sBnText_true a b A c xs N u v g d j ts w XJ X T h
  clear hz h
  go_enter Tryz.func8, Tryz.ntmps8
  go_wp2_with fail
  refine (HB.out _ _ (hid (alloc1 (Gr.refl _)).1) (hid (X.out.keep ((Gr.refl w).al _))) (hid (TT.out.keep ((Gr.refl w).al _)))).mono ?_
  rintro e w1 ⟨rfl, hg1⟩
  obtain ⟨x1_0, hz1, g1⟩ := alloc1 hg1
  obtain ⟨_, _, _, _, _, _, _, _⟩ := cells8 x1_0
  have _ := fz x1_0
  have _ := ltb x1_0
  have X1_0 := hid x1_0; clear x1_0
  have G1 := hid (g1)
  clear hg1 g1
  go_wp2_with fail
  refine (HT.out _ _ (hid X1_0.out) (hid (X.out.keep G1.out)) (hid (TT.out.keep G1.out))).mono ?_
  rintro e w2 ⟨rfl, hg2⟩
  have x2_1 := hg2.keep X1_0.out
  obtain ⟨_, _, _, _, _, _, _, _⟩ := cells8 x2_1
  have _ := fz x2_1
  have _ := ltb x2_1
  have X2_1 := hid x2_1; clear x2_1
  have G2 := hid (G1.out.trans hg2)
  clear hg2
  go_wp2
  go_ret
  exact ⟨rfl, G2.out⟩
set_option maxRecDepth 20000 in
set_option maxHeartbeats 1000000 in
theorem sBenchText_false (a b : Int) (A : Option Addr) (c : Nat) (xs : List (Int × Int)) (N u v : Int) (g d : Nat) (ts : List Tgv) (w : World) (X : Hid (RdF w A xs)) (TT : Hid (RdTg w (some ⟨g, 0, none⟩) ts)) (hn : xs.length ≤ 1048576) (hm : ts.length ≤ 1048576) (hz : ∀ x ∈ ts, x.nm.size ≤ 9223372036854775807) (h : benB a b xs N u v ts = true) :
    Calls Tryz.prog 8 #[bnc a b A xs.length c N false u v (some ⟨g, 0, none⟩) ts.length d] w fun e w' => e = .returned (.string ⟨(bnT (Lib.join (wds ((a, b) :: xs)) [32]) (vnLn N [111, 110] u v) ts ts.length).toArray⟩) ∧ Gr w w' := by
  have HB := hid fun (w : World) (j : Nat) (XJ : Hid (w.heap[j]? = some (.cells (bncA a b A xs.length c N false u v (some ⟨g, 0, none⟩) ts.length d) 41))) (X : Hid (RdF w A xs)) (T : Hid (RdTg w (some ⟨g, 0, none⟩) ts)) => sVB a b A c j xs N false u v g d ts true w XJ X T hn hm hz h
  have HT := hid fun (w : World) (j : Nat) (XJ : Hid (w.heap[j]? = some (.cells (bncA a b A xs.length c N false u v (some ⟨g, 0, none⟩) ts.length d) 41))) (X : Hid (RdF w A xs)) (T : Hid (RdTg w (some ⟨g, 0, none⟩) ts)) => sBnText_false a b A c xs N u v g d j ts w XJ X T h
  clear hz h
  go_enter Tryz.func8, Tryz.ntmps8
  go_wp2_with fail
  refine (HB.out _ _ (hid (alloc1 (Gr.refl _)).1) (hid (X.out.keep ((Gr.refl w).al _))) (hid (TT.out.keep ((Gr.refl w).al _)))).mono ?_
  rintro e w1 ⟨rfl, hg1⟩
  obtain ⟨x1_0, hz1, g1⟩ := alloc1 hg1
  obtain ⟨_, _, _, _, _, _, _, _⟩ := cells8 x1_0
  have _ := fz x1_0
  have _ := ltb x1_0
  have X1_0 := hid x1_0; clear x1_0
  have G1 := hid (g1)
  clear hg1 g1
  go_wp2_with fail
  refine (HT.out _ _ (hid X1_0.out) (hid (X.out.keep G1.out)) (hid (TT.out.keep G1.out))).mono ?_
  rintro e w2 ⟨rfl, hg2⟩
  have x2_1 := hg2.keep X1_0.out
  obtain ⟨_, _, _, _, _, _, _, _⟩ := cells8 x2_1
  have _ := fz x2_1
  have _ := ltb x2_1
  have X2_1 := hid x2_1; clear x2_1
  have G2 := hid (G1.out.trans hg2)
  clear hg2
  go_wp2
  go_ret
  exact ⟨rfl, G2.out⟩
/-- What BenchText gives. -/
theorem bothBenchText (a b : Int) (xs : List (Int × Int)) (N : Int) (kb : Bool) (u v : Int) (ts : List Tgv) (hn : xs.length ≤ 1048576) (hm : ts.length ≤ 1048576) (hz : ∀ x ∈ ts, x.nm.size ≤ 9223372036854775807) : ∃ S : ByteArray,
    (∀ (A : Option Addr) (g c d : Nat) (w : World), Hid (RdF w A xs) → Hid (RdTg w (some ⟨g, 0, none⟩) ts) → Calls Tryz.prog 8 #[bnc a b A xs.length c N kb u v (some ⟨g, 0, none⟩) ts.length d] w fun e w' => e = .returned (.string S) ∧ Gr w w') ∧
    (∀ (A : Option Addr) (g c d : Nat) (w : World), Hid (RdF w A xs) → Hid (RdTg w (some ⟨g, 0, none⟩) ts) → Hid (Pow w) → Calls Tryz.prog 10 #[bnc a b A xs.length c N kb u v (some ⟨g, 0, none⟩) ts.length d] w fun e w' => e = .returned (.string S) ∧ Bl w w') := by
  cases h : benB a b xs N u v ts with
  | false => exact ⟨_, fun A g c d w X T => sBenchText_no a b A c xs N kb u v g d ts w X T hn hm hz h, fun A g c d w X T _ => iBenchText_no a b A c xs N kb u v _ d ts w X T hn hm h⟩
  | true =>
    cases kb with
    | false => exact ⟨_, fun A g c d w X T => sBenchText_false a b A c xs N u v g d ts w X T hn hm hz h, fun A g c d w X T P => iBnText_false a b A c xs N u v _ d ts w X T P hn hm h⟩
    | true => exact ⟨_, fun A g c d w X T => sBenchText_true a b A c xs N u v g d ts w X T hn hm hz h, fun A g c d w X T P => iBnText_true a b A c xs N u v _ d ts w X T P hn hm h⟩
end Go.Proofs.YtgfopfomhgfcaaaGreatDoor
