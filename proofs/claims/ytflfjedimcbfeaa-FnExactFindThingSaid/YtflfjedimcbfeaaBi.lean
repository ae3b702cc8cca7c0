/- BENCHES: FindThing of both sides. -/
import Derived.Test.YtflfjedimcbfeaaBg
namespace Go.Proofs.Ytflfjedimcbfeaa
open Go.RowKit Go.Sort

/-- the place of the first thing with a name, or -1 -/
def fdx (s : ByteArray) : List Tgv → Nat → Int
  | [], _ => -1
  | x :: r, k => if (x.nm == s) = true then (k : Int) else fdx s r (k + 1)
theorem fdx_drop {s : ByteArray} {ts : List Tgv} {k : Nat} {x : Tgv} (h : ts[k]? = some x) : fdx s (ts.drop k) k = if (x.nm == s) = true then (k : Int) else fdx s (ts.drop (k + 1)) (k + 1) := by
  have hk : k < ts.length := (List.getElem?_eq_some_iff.1 h).1
  have e : ts[k] = x := by have := List.getElem?_eq_getElem hk; rw [h] at this; exact (Option.some.inj this).symm
  rw [List.drop_eq_getElem_cons hk, e]
  rfl
set_option maxRecDepth 20000 in
set_option maxHeartbeats 400000 in
theorem cFT (x : Tgv) (s : ByteArray) (k1 : Nat) (T : TypeId) (r : Bool) (w : World) (X1 : Hid (w.heap[k1]? = some (.cells #[.string s] T))) (hr : (x.nm == s) = r) :
    Calls Try.prog 50 #[vTg x, .pointer (some ⟨k1, 0, none⟩)] w fun e w' => e = .returned (.bool r) ∧ Gr w w' := by
  have he := eqlTg _ _ _ hr
  have _ := cells1 X1.out
  have _ := ltb X1.out
  cases r
  all_goals
    go_enter Try.func50, Try.ntmps50
    go_wp2_with fail
    go_ret
    exact ⟨rfl, Gr.alloc _ _⟩
set_option maxRecDepth 20000 in
set_option maxHeartbeats 1000000 in
theorem iIndexTg (s : ByteArray) (k1 : Nat) (T : TypeId) (B : Option Addr) (d : Nat) (ts : List Tgv) (R : Int) (w : World) (X1 : Hid (w.heap[k1]? = some (.cells #[.string s] T))) (TS : Hid (RdTg w B ts)) (hm : ts.length ≤ 1048576) (hR : fdx s ts 0 = R) :
    Calls Try.prog 49 #[.slice B ts.length d, .func (.func 50) #[] #[.pointer (some ⟨k1, 0, none⟩)]] w fun e w' => e = .returned (.int .i64 R) ∧ Gr w w' := by
  have hen : ∀ (x : Tgv) (w : World), (callFunc 50 #[vTg x, .pointer (some ⟨k1, 0, none⟩)]).run Try.prog w = .ok (.enter 50 #[vTg x, .pointer (some ⟨k1, 0, none⟩)]) w := fun _ _ => by kernel_rfl
  have HEN := hid hen; have HR := hid hR
  clear hen hR
  go_enter Try.func49, Try.ntmps49
  go_wp2_with fail
  go_loopw [8] (fun u wr => ∃ (k : Nat), u = .int .i64 (k : Int) ∧ k ≤ ts.length ∧ Gr w wr ∧ fdx s (ts.drop k) k = R) (fun u _ => ts.length - (intOf u).toNat)
  case atStart => exact ⟨0, rfl, by omega, Gr.refl _, HR.out⟩
  case round =>
    obtain ⟨k, rfl, hk, g0, hs⟩ := hrel
    have GW := hid g0; have HS := hid hs; clear g0 hs
    by_cases hlt : k < ts.length
    · obtain ⟨x, hx⟩ : ∃ x, ts[k]? = some x := ⟨ts[k], List.getElem?_eq_getElem _⟩
      obtain ⟨ad, rfl, c1⟩ := (TS.out.keep GW.out) k x hx
      obtain ⟨_, _, _, _, _⟩ := c1
      have hen' := HEN.out x
      have hst := HS.out
      rw [fdx_drop hx] at hst
      clear hx
      cases he : (x.nm == s) with
      | true =>
        rw [he, if_pos rfl] at hst
        have HE := hid he; have HST := hid hst; clear he hst
        go_wp2_with fail
        refine (cFT x s k1 T true _ (hid (GW.out.keep X1.out)) HE.out).mono ?_
        rintro e w1 ⟨rfl, hg1⟩
        have G1 := hid (GW.out.trans hg1); clear hg1 hen'
        go_wp2
        go_ret
        exact ⟨ret_int HST.out, G1.out⟩
      | false =>
        rw [he, if_neg (by decide)] at hst
        have HE := hid he; have HST := hid hst; clear he hst
        go_wp2_with fail
        refine (cFT x s k1 T false _ (hid (GW.out.keep X1.out)) HE.out).mono ?_
        rintro e w1 ⟨rfl, hg1⟩
        have G1 := hid (GW.out.trans hg1); clear hg1 hen'
        go_wp2_with fail
        exact ⟨⟨k + 1, by simp, by omega, G1.out, HST.out⟩, by simp [intOf]; omega⟩
    · have hke : k = ts.length := by omega
      have hst := HS.out
      rw [hke, List.drop_of_length_le (Nat.le_refl _)] at hst
      have HST := hid hst; clear hst hke
      go_wp2
      go_ret
      exact ⟨ret_int HST.out, GW.out⟩
theorem fdx_rng (s : ByteArray) : ∀ (ts : List Tgv) (k : Nat), fdx s ts k = -1 ∨ (0 ≤ fdx s ts k ∧ fdx s ts k < (k : Int) + ts.length)
  | [], k => .inl rfl
  | x :: r, k => by
    unfold fdx
    split
    · exact .inr ⟨by omega, by simp; omega⟩
    · rcases fdx_rng s r (k + 1) with h | h
      · exact .inl h
      · exact .inr ⟨h.1, by have := h.2; simp at this ⊢; omega⟩
def fdI (v : Bool) (R : Int) : Int := if v = true then (if R < 0 then 0 else R) else 0
def fdC (v : Bool) (R : Int) : Int := if v = true then (if R < 0 then 6 else 0) else 1
set_option maxRecDepth 20000 in
set_option maxHeartbeats 1000000 in
theorem iFind (a b : Int) (A : Option Addr) (c : Nat) (xs : List (Int × Int)) (N : Int) (kb : Bool) (u v : Int) (B : Option Addr) (d : Nat) (ts : List Tgv) (s : ByteArray) (w : World) (X : Hid (RdF w A xs)) (T : Hid (RdTg w B ts)) (hn : xs.length ≤ 1048576) (hm : ts.length ≤ 1048576) :
    Calls Try.prog 17 #[bnc a b A xs.length c N kb u v B ts.length d, .string s] w fun e w' => e = .returned (.tuple #[.int .i64 (fdI (benB a b xs N u v ts) (fdx s ts 0)), .int .i64 (fdC (benB a b xs N u v ts) (fdx s ts 0))]) ∧ Gr w w' := by
  cases hb : benB a b xs N u v ts with
  | false =>
    have HB := hid hb; clear hb
    go_enter Try.func17, Try.ntmps17
    go_wp2_with fail
    refine (iVB a b A c xs N kb u v B d ts false _ (hid (X.out.keep (((Gr.refl w).al _).al _))) (hid (T.out.keep (((Gr.refl w).al _).al _))) hn hm HB.out).mono ?_
    rintro e w1 ⟨rfl, hg1⟩
    obtain ⟨x1_0, x1_1, hz1, g1⟩ := alloc2 hg1
    obtain ⟨_, _, _, _, _, _, _, _⟩ := cells8 x1_0
    have _ := fz x1_0
    have _ := ltb x1_0
    have _ := cells1 x1_1
    have _ := fz x1_1
    have _ := ltb x1_1
    have X1_0 := hid x1_0; clear x1_0
    have X1_1 := hid x1_1; clear x1_1
    have G1 := hid (g1)
    clear hg1 g1
    go_wp2_with fail
    go_ret2
    exact ⟨rfl, G1.out⟩
  | true =>
    have HB := hid hb; clear hb
    obtain ⟨R, hR⟩ : ∃ R, fdx s ts 0 = R := ⟨_, rfl⟩
    have hrg := fdx_rng s ts 0
    rw [hR] at hrg ⊢
    have HR := hid hR; clear hR
    by_cases h0 : R < 0
    · obtain rfl : R = -1 := by omega
      go_enter Try.func17, Try.ntmps17
      go_wp2_with fail
      refine (iVB a b A c xs N kb u v B d ts true _ (hid (X.out.keep (((Gr.refl w).al _).al _))) (hid (T.out.keep (((Gr.refl w).al _).al _))) hn hm HB.out).mono ?_
      rintro e w1 ⟨rfl, hg1⟩
      obtain ⟨x1_0, x1_1, hz1, g1⟩ := alloc2 hg1
      obtain ⟨_, _, _, _, _, _, _, _⟩ := cells8 x1_0
      have _ := fz x1_0
      have _ := ltb x1_0
      have _ := cells1 x1_1
      have _ := fz x1_1
      have _ := ltb x1_1
      have X1_0 := hid x1_0; clear x1_0
      have X1_1 := hid x1_1; clear x1_1
      have G1 := hid (g1)
      clear hg1 g1
      go_wp2_with fail
      refine (iIndexTg s _ _ B d ts (-1) _ (hid X1_1.out) (hid (T.out.keep G1.out)) hm HR.out).mono ?_
      rintro e w2 ⟨rfl, hg2⟩
      have x2_1 := hg2.keep X1_0.out
      have x2_2 := hg2.keep X1_1.out
      obtain ⟨_, _, _, _, _, _, _, _⟩ := cells8 x2_1
      have _ := fz x2_1
      have _ := ltb x2_1
      have _ := cells1 x2_2
      have _ := fz x2_2
      have _ := ltb x2_2
      have X2_1 := hid x2_1; clear x2_1
      have X2_2 := hid x2_2; clear x2_2
      have G2 := hid (G1.out.trans hg2)
      clear hg2
      go_wp2_with fail
      go_ret2
      exact ⟨rfl, G2.out⟩
    · have e1 : fdI true R = R := by unfold fdI; rw [if_pos rfl, if_neg h0]
      have e2 : fdC true R = 0 := by unfold fdC; rw [if_pos rfl, if_neg h0]
      have E1 := hid e1; have E2 := hid e2; clear e1 e2
      go_enter Try.func17, Try.ntmps17
      go_wp2_with fail
      refine (iVB a b A c xs N kb u v B d ts true _ (hid (X.out.keep (((Gr.refl w).al _).al _))) (hid (T.out.keep (((Gr.refl w).al _).al _))) hn hm HB.out).mono ?_
      rintro e w1 ⟨rfl, hg1⟩
      obtain ⟨x1_0, x1_1, hz1, g1⟩ := alloc2 hg1
      obtain ⟨_, _, _, _, _, _, _, _⟩ := cells8 x1_0
      have _ := fz x1_0
      have _ := ltb x1_0
      have _ := cells1 x1_1
      have _ := fz x1_1
      have _ := ltb x1_1
      have X1_0 := hid x1_0; clear x1_0
      have X1_1 := hid x1_1; clear x1_1
      have G1 := hid (g1)
      clear hg1 g1
      go_wp2_with fail
      refine (iIndexTg s _ _ B d ts R _ (hid X1_1.out) (hid (T.out.keep G1.out)) hm HR.out).mono ?_
      rintro e w2 ⟨rfl, hg2⟩
      have x2_1 := hg2.keep X1_0.out
      have x2_2 := hg2.keep X1_1.out
      obtain ⟨_, _, _, _, _, _, _, _⟩ := cells8 x2_1
      have _ := fz x2_1
      have _ := ltb x2_1
      have _ := cells1 x2_2
      have _ := fz x2_2
      have _ := ltb x2_2
      have X2_1 := hid x2_1; clear x2_1
      have X2_2 := hid x2_2; clear x2_2
      have G2 := hid (G1.out.trans hg2)
      clear hg2
      go_wp2_with fail
      go_ret2
      exact ⟨by rw [E1.out, E2.out]; rfl, G2.out⟩
set_option maxRecDepth 20000 in
set_option maxHeartbeats 1000000 in
theorem sFind (a b : Int) (A : Option Addr) (c : Nat) (xs : List (Int × Int)) (N : Int) (kb : Bool) (u v : Int) (g d : Nat) (ts : List Tgv) (s : ByteArray) (w : World) (X : Hid (RdF w A xs)) (T : Hid (RdTg w (some ⟨g, 0, none⟩) ts)) (hn : xs.length ≤ 1048576) (hm : ts.length ≤ 1048576) (hz : ∀ x ∈ ts, x.nm.size ≤ 9223372036854775807) :
    Calls Try.prog 16 #[bnc a b A xs.length c N kb u v (some ⟨g, 0, none⟩) ts.length d, .string s] w fun e w' => e = .returned (.tuple #[.int .i64 (fdI (benB a b xs N u v ts) (fdx s ts 0)), .int .i64 (fdC (benB a b xs N u v ts) (fdx s ts 0))]) ∧ Gr w w' := by
  obtain ⟨r, hb⟩ : ∃ r, benB a b xs N u v ts = r := ⟨_, rfl⟩
  have HV := hid fun (w : World) (j : Nat) (XJ : Hid (w.heap[j]? = some (.cells (bncA a b A xs.length c N kb u v (some ⟨g, 0, none⟩) ts.length d) 41))) (X : Hid (RdF w A xs)) (T : Hid (RdTg w (some ⟨g, 0, none⟩) ts)) => sVB a b A c j xs N kb u v g d ts r w XJ X T hn hm hz hb
  rw [hb]
  clear hb hz
  cases r with
  | false =>
    go_enter Try.func16, Try.ntmps16
    go_wp2_with fail
    refine (HV.out _ _ (hid (alloc1 (Gr.refl _)).1) (hid (X.out.keep ((Gr.refl w).al _))) (hid (T.out.keep ((Gr.refl w).al _)))).mono ?_
    rintro e w1 ⟨rfl, hg1⟩
    obtain ⟨x1_0, hz1, g1⟩ := alloc1 hg1
    obtain ⟨_, _, _, _, _, _, _, _⟩ := cells8 x1_0
    have _ := fz x1_0
    have _ := ltb x1_0
    have X1_0 := hid x1_0; clear x1_0
    have G1 := hid (g1)
    clear hg1 g1
    go_wp2_with fail
    go_ret2
    exact ⟨rfl, G1.out⟩
  | true =>
    obtain ⟨R, hR⟩ : ∃ R, fdx s ts 0 = R := ⟨_, rfl⟩
    rw [hR]
    have HR := hid hR; clear hR
    go_enter Try.func16, Try.ntmps16
    go_wp2_with fail
    refine (HV.out _ _ (hid (alloc1 (Gr.refl _)).1) (hid (X.out.keep ((Gr.refl w).al _))) (hid (T.out.keep ((Gr.refl w).al _)))).mono ?_
    rintro e w1 ⟨rfl, hg1⟩
    obtain ⟨x1_0, hz1, g1⟩ := alloc1 hg1
    obtain ⟨_, _, _, _, _, _, _, _⟩ := cells8 x1_0
    have _ := fz x1_0
    have _ := ltb x1_0
    have X1_0 := hid x1_0; clear x1_0
    have G1 := hid (g1)
    clear hg1 g1
    go_wp2_with fail
    go_loopw [6] (fun U wr => ∃ (k : Nat), U = .int .i64 (k : Int) ∧ k ≤ ts.length ∧ wr = w1 ∧ fdx s (ts.drop k) k = R) (fun U _ => ts.length - (intOf U).toNat)
    case atStart => exact ⟨0, rfl, by omega, rfl, HR.out⟩
    case round =>
      obtain ⟨k, rfl, hk, hwr, hs⟩ := hrel
      subst hwr
      have HS := hid hs; clear hs
      by_cases hlt : k < ts.length
      · obtain ⟨x, hx⟩ : ∃ x, ts[k]? = some x := ⟨ts[k], List.getElem?_eq_getElem _⟩
        obtain ⟨ad, e0, hcel⟩ := (T.out.keep G1.out) k x hx
        cases e0
        rw [add_at] at hcel
        have hc0 := hcel.h0
        have hst := HS.out
        rw [fdx_drop hx] at hst
        clear hx hcel
        cases he : (x.nm == s) with
        | true =>
          have he2 := eqlTg _ _ _ he
          rw [he, if_pos rfl] at hst
          subst hst
          clear he
          go_wp2_with fail
          go_ret2
          exact ⟨by simp [fdI, fdC]; omega, G1.out⟩
        | false =>
          have he2 := eqlTg _ _ _ he
          rw [he, if_neg (by decide)] at hst
          have HST := hid hst; clear he hst
          go_wp2_with fail
          exact ⟨⟨k + 1, by simp, by omega, by simp, HST.out⟩, by simp [intOf]; omega⟩
      · have hke : k = ts.length := by omega
        have hst := HS.out
        rw [hke, List.drop_of_length_le (Nat.le_refl _)] at hst
        have hR1 : R = -1 := hst.symm
        subst hR1
        clear hst hke
        go_wp2_with fail
        go_ret2
        exact ⟨rfl, G1.out⟩
theorem bothFindThing (a b : Int) (xs : List (Int × Int)) (N : Int) (kb : Bool) (u v : Int) (ts : List Tgv) (s : ByteArray) (hn : xs.length ≤ 1048576) (hm : ts.length ≤ 1048576) (hz : ∀ x ∈ ts, x.nm.size ≤ 9223372036854775807) : ∃ R0 R1 : Int,
    (∀ (A : Option Addr) (g c d : Nat) (w : World), Hid (RdF w A xs) → Hid (RdTg w (some ⟨g, 0, none⟩) ts) → Calls Try.prog 16 #[bnc a b A xs.length c N kb u v (some ⟨g, 0, none⟩) ts.length d, .string s] w fun x w' => x = .returned (.tuple #[.int .i64 R0, .int .i64 R1]) ∧ Gr w w') ∧
    (∀ (A : Option Addr) (g c d : Nat) (w : World), Hid (RdF w A xs) → Hid (RdTg w (some ⟨g, 0, none⟩) ts) → Calls Try.prog 17 #[bnc a b A xs.length c N kb u v (some ⟨g, 0, none⟩) ts.length d, .string s] w fun x w' => x = .returned (.tuple #[.int .i64 R0, .int .i64 R1]) ∧ Gr w w') :=
  ⟨_, _, fun A g c d w X T => sFind a b A c xs N kb u v g d ts s w X T hn hm hz, fun A _ c d w X T => iFind a b A c xs N kb u v _ d ts s w X T hn hm⟩
end Go.Proofs.Ytflfjedimcbfeaa
