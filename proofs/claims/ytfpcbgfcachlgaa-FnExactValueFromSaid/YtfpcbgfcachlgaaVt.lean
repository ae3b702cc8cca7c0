/- READERS: what is in all of some spans, of the program (metBy). -/
import Derived.Test.YtfpcbgfcachlgaaVs
import Derived.Test.YtfpcbgfcachlgaaW
namespace Go.Proofs.Ytfpcbgfcachlgaa
open Go.RowKit Go.Sort

def okSp (x : Spv) : Bool := spB x.a x.b x.c x.d
def mtS (s t : Spv) : Spv := ⟨mxP s.a s.b t.a t.b, mxQ s.a s.b t.a t.b, mnP s.c s.d t.c t.d, mnQ s.c s.d t.c t.d⟩
def okM (s t : Spv) : Bool := decide (cmpI (mxP s.a s.b t.a t.b) (mxQ s.a s.b t.a t.b) (mnP s.c s.d t.c t.d) (mnQ s.c s.d t.c t.d) ≤ 0)
/-- What is in all of them, if there is anything. -/
def metF : Spv → List Spv → Option Spv
  | m, [] => some m
  | m, t :: r => if okM m t then metF (mtS m t) r else none
theorem mtS_ok {s t : Spv} (h1 : okSp s = true) (h2 : okSp t = true) (h : okM s t = true) : okSp (mtS s t) = true := by
  obtain ⟨a1, a2, _⟩ := spB_ok h1
  obtain ⟨b1, b2, _⟩ := spB_ok h2
  unfold okSp mtS spB
  simp only [ok_mx a1 b1, ok_mn a2 b2, Bool.and_true, Bool.true_and]
  exact h
theorem mtS_self (s : Spv) : mtS s s = s := by
  unfold mtS mxP mxQ mnP mnQ
  simp [cmpI]
theorem okM_self {s : Spv} (h : okSp s = true) : okM s s = true := by
  have := (spB_ok h).2.2
  unfold okM mxP mxQ mnP mnQ
  simpa [cmpI] using this
theorem metF_self {s : Spv} (h : okSp s = true) (r : List Spv) : metF s (s :: r) = metF s r := by
  simp [metF, okM_self h, mtS_self]
theorem iMeetS (s t : Spv) (r : Bool) (w : World) (h1 : okSp s = true) (h2 : okSp t = true) (h : okM s t = r) :
    Calls Try.prog 174 #[vN s, vN t] w fun e w' => e = .returned (.tuple #[if r then vN (mtS s t) else vN zN, .int .i64 (if r then 0 else 6)]) ∧ Gr w w' := by
  subst h
  cases hk : okM s t with
  | true =>
    have hd : decide (0 < cmpI (mxP s.a s.b t.a t.b) (mxQ s.a s.b t.a t.b) (mnP s.c s.d t.c t.d) (mnQ s.c s.d t.c t.d)) = false := by unfold okM at hk; simp at hk ⊢; omega
    exact iMeet_y s.a s.b s.c s.d t.a t.b t.c t.d w h1 h2 hd
  | false =>
    have hd : decide (0 < cmpI (mxP s.a s.b t.a t.b) (mxQ s.a s.b t.a t.b) (mnP s.c s.d t.c t.d) (mnQ s.c s.d t.c t.d)) = true := by unfold okM at hk; simp at hk ⊢; omega
    exact iMeet_e s.a s.b s.c s.d t.a t.b t.c t.d w h1 h2 hd
set_option maxRecDepth 20000 in
set_option maxHeartbeats 2000000 in
theorem iMetBy (A : Option Addr) (c : Nat) (xs : List Spv) (s0 : Spv) (R : Option Spv) (w : World) (X : Hid (RdN w A xs)) (h0 : xs[0]? = some s0) (hn : xs.length ≤ 1048576) (hv : ∀ (k : Nat) (x : Spv), xs[k]? = some x → okSp x = true) (hR : metF s0 xs = R) :
    Calls Try.prog 97 #[.slice A xs.length c] w fun e w' => e = .returned (.tuple #[vN (R.getD zN), .bool R.isSome]) ∧ Gr w w' := by
  obtain ⟨ad, rfl, c0⟩ := X.out 0 s0 h0
  rw [show ad.add (0 * 4) = ad by unfold Addr.add; simp] at c0
  have hl : 0 < xs.length := (List.getElem?_eq_some_iff.1 h0).1
  have H0 := hid h0; have HV := hid hv; have HR := hid hR
  clear h0 hv hR
  have A0 := hid ((Gr.refl w).al (.cells #[.int .i64 0, .int .i64 0, .int .i64 0, .int .i64 0] 85))
  have C0 := hid (c0.keep A0.out)
  clear c0
  obtain ⟨_, _, _, _⟩ := C0.out
  go_enter Try.func97, Try.ntmps97
  go_wp2_with fail
  go_loopw [13] (fun u wr => ∃ (k : Nat) (m : Spv), u = .int .i64 (k : Int) ∧ k ≤ xs.length ∧ Gr w wr ∧ wr.heap[w.heap.size + 1]? = some (.cells #[.int .i64 m.a, .int .i64 m.b, .int .i64 m.c, .int .i64 m.d] 85) ∧ wr.heap[w.heap.size]? = some (.cells #[.int .i64 0, .int .i64 0, .int .i64 0, .int .i64 0] 85) ∧ okSp m = true ∧ metF m (xs.drop k) = R) (fun u _ => xs.length - (intOf u).toNat)
  case atStart =>
    obtain ⟨y0, y1, _, _⟩ := alloc2 (w := w) (A := .cells #[.int .i64 0, .int .i64 0, .int .i64 0, .int .i64 0] 85) (B := .cells #[.int .i64 s0.a, .int .i64 s0.b, .int .i64 s0.c, .int .i64 s0.d] 85) (Gr.refl _)
    exact ⟨0, s0, rfl, by omega, A0.out.al _, y1, y0, HV.out 0 s0 H0.out, HR.out⟩
  case round =>
    obtain ⟨k, m, rfl, hk, hg, hm, hz, hok, hf⟩ := hrel
    have GW := hid hg; have M := hid hm; have Z := hid hz; have OK := hid hok; have F := hid hf
    clear hg hm hz hok hf
    by_cases hlt : k < xs.length
    · obtain ⟨x, hp⟩ : ∃ x, xs[k]? = some x := ⟨xs[k], List.getElem?_eq_getElem _⟩
      obtain ⟨ad2, he, c1⟩ := (X.out.keep GW.out) k x hp
      cases he
      have OX := hid (HV.out k x hp)
      have hdr : xs.drop k = x :: xs.drop (k + 1) := by
        rw [List.drop_eq_getElem_cons hlt]
        congr 1
        rw [List.getElem?_eq_getElem hlt] at hp
        exact Option.some.inj hp
      rw [hdr] at F
      clear hp hdr
      have GL := hid ((Gr.refl wr).al (.cells #[.int .i64 x.a, .int .i64 x.b, .int .i64 x.c, .int .i64 x.d] 85))
      have M1 := hid (GL.out.keep M.out)
      obtain ⟨_, _, _, _⟩ := c1
      obtain ⟨_, _, _, _⟩ := cells4 M1.out
      cases ho : okM m x with
      | true =>
        have HM := hid fun (w : World) => iMeetS m x true w OK.out OX.out ho
        have F2 : Hid (metF (mtS m x) (xs.drop (k + 1)) = R) := hid (by have := F.out; simpa [metF, ho] using this)
        have OK2 := hid (mtS_ok OK.out OX.out ho)
        clear ho
        obtain ⟨q, hq⟩ : ∃ q, mtS m x = q := ⟨_, rfl⟩
        rw [hq] at HM F2 OK2
        clear hq
        go_wp2_with fail
        refine (HM.out _).mono ?_
        rintro e w1 ⟨rfl, hg1⟩
        have GA := hid (GL.out.trans hg1)
        have GG := hid (GW.out.trans GA.out)
        have M2 := hid (hg1.keep M1.out)
        have Z2 := hid (GA.out.keep Z.out)
        clear hg1
        obtain ⟨_, _, _, _⟩ := cells4 M2.out
        have _ := fz M2.out
        have _ := ltb M2.out
        go_wp2_with fail
        refine ⟨⟨k + 1, q, by simp, by omega, ?_, ?_, ?_, OK2.out, F2.out⟩, by simp [intOf]; omega⟩
        · exact ((((GG.out).setCell (by simp <;> omega) _).setCell (by simp <;> omega) _).setCell (by simp <;> omega) _).setCell (by simp <;> omega) _
        · have := Joins.block_setCell (i := 3) (Joins.block_setCell (i := 2) (Joins.block_setCell (i := 1) (Joins.block_setCell (i := 0) M2.out (.int .i64 q.a)) (.int .i64 q.b)) (.int .i64 q.c)) (.int .i64 q.d)
          simpa using this
        · repeat (refine keepSet' ?_ (by simp <;> omega))
          exact Z2.out
      | false =>
        have HM := hid fun (w : World) => iMeetS m x false w OK.out OX.out ho
        have F2 : Hid (R = none) := hid (by have := F.out; simp [metF, ho] at this; exact this.symm)
        clear ho
        go_wp2_with fail
        refine (HM.out _).mono ?_
        rintro e w1 ⟨rfl, hg1⟩
        have GA := hid (GL.out.trans hg1)
        have GG := hid (GW.out.trans GA.out)
        have M2 := hid (hg1.keep M1.out)
        have Z2 := hid (GA.out.keep Z.out)
        clear hg1
        obtain ⟨_, _, _, _⟩ := cells4 M2.out
        have _ := fz M2.out
        have _ := ltb M2.out
        obtain ⟨_, _, _, _⟩ := cells4 Z2.out
        have _ := fz Z2.out
        have _ := ltb Z2.out
        go_wp2_with fail
        rw [F2.out]
        refine bodyPost_ret (v := .tuple #[vN zN, .bool false]) (by simp [results, Try.results97, go_sem, zN, *]) rfl ⟨rfl, ?_⟩
        exact ((((((((GG.out).setCell (by simp <;> omega) _).setCell (by simp <;> omega) _).setCell (by simp <;> omega) _).setCell (by simp <;> omega) _).setCell (by simp <;> omega) _).setCell (by simp <;> omega) _).setCell (by simp <;> omega) _).setCell (by simp <;> omega) _
    · have hke : k = xs.length := by omega
      have hd : xs.drop k = [] := by rw [hke]; exact List.drop_length ..
      rw [hd] at F
      have F2 : Hid (R = some m) := hid (by have := F.out; simp [metF] at this; exact this.symm)
      clear hke hd
      obtain ⟨_, _, _, _⟩ := cells4 M.out
      obtain ⟨_, _, _, _⟩ := cells4 Z.out
      have _ := fz Z.out
      have _ := ltb Z.out
      have _ := ltb M.out
      go_wp2_with fail
      rw [F2.out]
      refine bodyPost_ret (v := .tuple #[vN m, .bool true]) (by simp [results, Try.results97, go_sem, *]) rfl ⟨rfl, ?_⟩
      exact ((((GW.out).setCell (by simp <;> omega) _).setCell (by simp <;> omega) _).setCell (by simp <;> omega) _).setCell (by simp <;> omega) _
end Go.Proofs.Ytfpcbgfcachlgaa
