/- READERS: the spans of readings, of the program (spansRead). -/
import Derived.Test.YtpadjkgbeijkpaaVr
import Derived.Test.YtpadjkgbeijkpaaSn
import Derived.Test.YtpadjkgbeijkpaaRegL
namespace Go.Proofs.Ytpadjkgbeijkpaa
open Go.RowKit Go.Sort

/-- The span of a reading of a reader. -/
def spnS (n : Int) (x : Rqv) : Spv := ⟨redP (2 * (n - x.b) - x.u) 2, redQ (2 * (n - x.b) - x.u) 2, redP (2 * (n - x.b) + x.u) 2, redQ (2 * (n - x.b) + x.u) 2⟩
theorem spnS_v (n : Int) (x : Rqv) : spnV n x.b x.u = vN (spnS n x) := rfl
/-- A reading is one of the unit's multiples. -/
def divR (n : Int) (x : Rqv) : Bool := decide (Int.tmod n x.u = 0)
def spns : List Int → List Rqv → List Spv
  | n :: ns, x :: xs => spnS n x :: spns ns xs
  | _, _ => []
def divs : List Int → List Rqv → Bool
  | n :: ns, x :: xs => divR n x && divs ns xs
  | _, _ => true
theorem spns_len : ∀ (ns : List Int) (xs : List Rqv), ns.length = xs.length → (spns ns xs).length = xs.length
  | [], [], _ => rfl
  | n :: ns, x :: xs, h => by simp [spns, spns_len ns xs (by simpa using h)]
theorem spns_get : ∀ (ns : List Int) (xs : List Rqv) (k : Nat) (n : Int) (x : Rqv), ns[k]? = some n → xs[k]? = some x → (spns ns xs)[k]? = some (spnS n x)
  | [], _, _, _, _, h, _ => by simp at h
  | _ :: _, [], _, _, _, _, h => by simp at h
  | n :: ns, x :: xs, 0, _, _, h1, h2 => by simp at h1 h2; subst h1 h2; rfl
  | n :: ns, x :: xs, k + 1, m, y, h1, h2 => by simpa [spns] using spns_get ns xs k m y (by simpa using h1) (by simpa using h2)
theorem spns_take : ∀ {ns : List Int} {xs : List Rqv} {k : Nat} {n : Int} {x : Rqv}, ns[k]? = some n → xs[k]? = some x → flN ((spns ns xs).take k) ++ cN (spnS n x) = flN ((spns ns xs).take (k + 1)) := by
  intro ns xs k n x h1 h2
  rw [List.take_add_one, spns_get ns xs k n x h1 h2]
  simp [flN]
theorem divs_not : ∀ (ns : List Int) (xs : List Rqv) (k : Nat) (n : Int) (x : Rqv), ns[k]? = some n → xs[k]? = some x → divR n x = false → divs ns xs = false
  | [], _, _, _, _, h, _, _ => by simp at h
  | _ :: _, [], _, _, _, _, h, _ => by simp at h
  | n :: ns, x :: xs, 0, _, _, h1, h2, h3 => by simp at h1 h2; subst h1 h2; simp [divs, h3]
  | n :: ns, x :: xs, k + 1, m, y, h1, h2, h3 => by simp [divs, divs_not ns xs k m y (by simpa using h1) (by simpa using h2) h3]
theorem divs_all : ∀ (ns : List Int) (xs : List Rqv), ns.length = xs.length → (∀ (k : Nat) (n : Int) (x : Rqv), ns[k]? = some n → xs[k]? = some x → divR n x = true) → divs ns xs = true
  | [], [], _, _ => rfl
  | n :: ns, x :: xs, h, hd => by
    simp only [divs, Bool.and_eq_true]
    exact ⟨hd 0 n x rfl rfl, divs_all ns xs (by simpa using h) fun k m y h1 h2 => hd (k + 1) m y (by simpa using h1) (by simpa using h2)⟩
theorem okRd_u {x : Rqv} (h : okRd x = true) : -50 ≤ x.b ∧ x.b ≤ 50 ∧ 1 ≤ x.u ∧ x.u ≤ 20 := by
  unfold okRd rrB at h
  simp only [Bool.and_eq_true] at h
  exact gsB_bd h.2
theorem newsN {w : World} {b : Nat} {x : Spv} {T : TypeId} (h : w.heap[b]? = some (.cells #[.int .i64 x.a, .int .i64 x.b, .int .i64 x.c, .int .i64 x.d] T)) : ∀ (j : Nat) (u : Value), (cN x)[j]? = some u → w.cell? ((⟨b, 0, none⟩ : Addr).add j) = some u := by
  intro j u hj
  obtain ⟨n0, n1, n2, n3⟩ := cells4 h
  match j with
  | 0 => simp [cN] at hj; subst hj; exact n0
  | 1 => simp [cN] at hj; subst hj; exact n1
  | 2 => simp [cN] at hj; subst hj; exact n2
  | 3 => simp [cN] at hj; subst hj; exact n3
  | j + 4 => simp [cN] at hj
/-- A slice of spans of the call's own, and a code. -/
def GivesN (w w' : World) (e : Ending) (ys : List Spv) (C : Int) : Prop := ∃ A c, e = .returned (.tuple #[.slice A ys.length c, .int .i64 C]) ∧ w'.ownsRow w.heap.size 109 4 (.slice A ys.length c) ys.length (flN ys) ∧ Gr w w'
set_option maxRecDepth 20000 in
set_option maxHeartbeats 2000000 in
theorem iSpansRead (A B : Option Addr) (c d : Nat) (xs : List Rqv) (ns : List Int) (w : World) (X : Hid (RdRq w A xs)) (Y : Hid (RdI w B ns)) (hl : ns.length = xs.length) (h64 : xs.length ≤ 64) (hx : xs.all okRd = true) (hn : ns.all okR = true) (R : List Spv) (C : Int) (hRC : (divs ns xs = true ∧ R = spns ns xs ∧ C = 0) ∨ (divs ns xs = false ∧ R = [] ∧ C = 4)) :
    Calls Try.prog 71 #[.slice A xs.length c, .slice B ns.length d] w fun e w' => GivesN w w' e R C := by
  obtain ⟨i0, hi, hz0, hz1, hz2⟩ : ∃ i, Try.prog.info? 109 = some i ∧ i.zero = some (vN zN) ∧ i.size = 4 ∧ i.bytes = 32 := ⟨_, rfl, by kernel_rfl, rfl, rfl⟩
  have HL := hid hl; have HX := hid hx; have HN := hid hn; have HRC := hid hRC
  clear hl hx hn hRC
  go_enter Try.func71, Try.ntmps71
  go_wp2_with fail
  go_loopw [6, 11] (fun v u' wr => ∃ (k : Nat) (A' : Option Addr) (c' : Nat), u' = .int .i64 (k : Int) ∧ v = .slice A' k c' ∧ k ≤ xs.length ∧ Gr w wr ∧ wr.ownsRow w.heap.size 109 4 (.slice A' k c') k (flN ((spns ns xs).take k)) ∧ (∀ (j : Nat) (n : Int) (x : Rqv), j < k → ns[j]? = some n → xs[j]? = some x → divR n x = true)) (fun _ u' _ => xs.length - (intOf u').toNat)
  case atStart => exact ⟨0, _, _, rfl, rfl, by omega, Gr.refl _, World.ownsRow_nil _ _ _ _, fun j n x hj => by omega⟩
  case round =>
    obtain ⟨k, A', c', rfl, rfl, hk, hg, hown, hdv⟩ := hrel
    have GW := hid hg; have OWN := hid hown; have DV := hid hdv
    clear hg hown hdv
    by_cases hlt : k < xs.length
    · obtain ⟨x, hp⟩ : ∃ x, xs[k]? = some x := ⟨xs[k], List.getElem?_eq_getElem _⟩
      obtain ⟨n, hq⟩ : ∃ n, ns[k]? = some n := ⟨ns[k]'(by rw [HL.out]; exact hlt), List.getElem?_eq_getElem _⟩
      obtain ⟨ad, rfl, c1⟩ := (X.out.keep GW.out) k x hp
      obtain ⟨bd, rfl, c2⟩ := (Y.out.keep GW.out) k n hq
      have hu := okRd_u (allRq_get hp HX.out)
      have hok := okR_bd (allI_get hq HN.out)
      have hlb : k < ns.length := by rw [HL.out]; exact hlt
      have HP := hid hp; have HQ := hid hq
      have HS := hid fun (w : World) => iSpanOf x.b x.u x.o n w hu.1 hu.2.1 hu.2.2.1 hu.2.2.2 hok.1 hok.2
      have C1 := hid c1; have C2 := hid c2
      obtain ⟨hu1, hu2, hu3, hu4⟩ := hu
      clear hp hq c1 hok
      obtain ⟨_, _, _, _⟩ := C1.out
      have GL := hid ((Gr.refl wr).al (.cells #[.string x.nm, .int .i16 x.b, .int .i16 x.u, .bool x.o] 67))
      have hu0 : x.u ≠ 0 := by omega
      obtain ⟨r, hr⟩ : ∃ r, Int.tmod n x.u = r := ⟨_, rfl⟩
      by_cases hr0 : r = 0
      · have HD : Hid (divR n x = true) := hid (by unfold divR; rw [hr]; simpa using hr0)
        subst hr0
        have TK := hid (spns_take (n := n) (x := x) HQ.out HP.out)
        go_wp2_with fail
        refine wp_reg0 8 (by kernel_rfl) (by kernel_rfl) ?_
        apply Exists.intro
        refine ⟨fun wb hb => ?_, ?_⟩
        · have _ := (GL.out.trans hb).atF C2.out
          obtain ⟨_, _, _, _⟩ := hb.at4 (alloc1 (w := wr) (A := .cells #[.string x.nm, .int .i16 x.b, .int .i16 x.u, .bool x.o] 67) (Gr.refl _)).1
          simp only [headOps, List.contains, List.elem, reduceIte, Bool.false_eq_true]
          repeat (first | go_big_quiet_step (first | (fail)) | quiet_step (fail))
          exact wpQuiet_nil rfl
        intro w1 hg1
        have L1 := hid (hg1.keep (alloc1 (w := wr) (A := .cells #[.string x.nm, .int .i16 x.b, .int .i16 x.u, .bool x.o] 67) (Gr.refl _)).1)
        have GA := hid (GL.out.trans hg1)
        obtain ⟨_, _, _, _⟩ := cells4 L1.out
        have _ := fz L1.out
        have _ := ltb L1.out
        obtain ⟨S, hS⟩ : ∃ S, spnS n x = S := ⟨_, rfl⟩
        rw [hS] at TK
        have HSV := hid fun (w : World) => (HS.out w).mono (R' := fun e w' => e = .returned (vN S) ∧ Gr w w') fun e w' h => ⟨by rw [h.1, spnS_v, hS], h.2⟩
        clear hg1 HS hS hr
        go_wp2_with fail
        refine wp_regA (b0 := .cells #[.int .i64 S.a, .int .i64 S.b, .int .i64 S.c, .int .i64 S.d] 109) (fun b => .slice (some ⟨b, 0, none⟩) 1 1) 9 8 33 (by kernel_rfl) (by kernel_rfl) rfl rfl (by simp) ?_
        apply Exists.intro
        refine ⟨fun wb hb => ?_, fun w' => ?_, ?_⟩
        · have _ := (GA.out.trans hb).atF C2.out
          obtain ⟨_, _, _, _⟩ := hb.at4 L1.out
          simp only [headOps, List.contains, List.elem, Nat.reduceAdd, Nat.reduceBEq, reduceIte, Bool.false_eq_true, dumOp]
          repeat (first | go_big_quiet_step (first | (go_at_call 111; exact Calls.of_gr (iHabit _ _ _ _ _)) | (go_at_call 126; exact Calls.of_gr (HSV.out _))) | quiet_step (fail))
          exact wpQuiet_nil rfl
        · kernel_rfl
        intro w3 nb hg3 hb3 xb
        have OWN3 := hid (own_gr OWN.out (GA.out.trans hg3))
        have NEW := hid (newsN xb)
        have G3 := hid ((GW.out.trans GA.out).trans hg3)
        have hsz := G3.out.size
        clear hg3 hb3 xb OWN
        simp only [List.drop_succ_cons, List.drop_zero]
        refine (wpList_append_gr rfl _ _ 64 rfl w.heap.size 109 i0 (vN zN) 4 32 Try.underlying64 hi hz0 hz1 hz2 rfl (by decide) _ k _ rfl OWN3.out ⟨nb, 0, none⟩ 1 1 (cN S) rfl rfl NEW.out (cN_one S) (by decide) (by unfold maxLen; omega) (by omega) hsz ?_)
        intro v' w4 own4 _ _ hgr
        obtain ⟨A2, c2', rfl⟩ := own_form own4
        rw [TK.out] at own4
        have OWN4 := hid own4
        have G4 := hid (hgr _ G3.out (Nat.le_refl _))
        have DV2 : Hid (∀ (j : Nat) (n : Int) (x : Rqv), j < k + 1 → ns[j]? = some n → xs[j]? = some x → divR n x = true) := hid fun j m y hj h1 h2 => by
          by_cases hjk : j = k
          · subst hjk
            rw [HQ.out] at h1
            rw [HP.out] at h2
            cases h1; cases h2
            exact HD.out
          · exact DV.out j m y (by omega) h1 h2
        clear own4 hgr OWN3 NEW hsz
        go_wp2_with fail
        exact ⟨⟨k + 1, A2, c2', by simp, by simp, by omega, G4.out, OWN4.out, DV2.out⟩, by simp [intOf]; omega⟩
      · have HD : Hid (divR n x = false) := hid (by unfold divR; rw [hr]; simpa using hr0)
        have HF := hid (divs_not ns xs k n x HQ.out HP.out HD.out)
        go_wp2_with fail
        refine wp_reg0 8 (by kernel_rfl) (by kernel_rfl) ?_
        apply Exists.intro
        refine ⟨fun wb hb => ?_, ?_⟩
        · have _ := (GL.out.trans hb).atF C2.out
          obtain ⟨_, _, _, _⟩ := hb.at4 (alloc1 (Gr.refl _)).1
          simp only [headOps, List.contains, List.elem, reduceIte, Bool.false_eq_true]
          repeat (first | go_big_quiet_step (first | (fail)) | quiet_step (fail))
          exact wpQuiet_nil rfl
        intro w1 hg1
        obtain ⟨x1_0, hz1, g1⟩ := alloc1 hg1
        obtain ⟨_, _, _, _⟩ := cells4 x1_0
        have _ := fz x1_0
        have _ := ltb x1_0
        have X1_0 := hid x1_0; clear x1_0
        have G1 := hid (GW.out.trans g1)
        clear hg1 g1
        go_wp2_with fail
        go_ret2
        obtain ⟨rfl, rfl⟩ : R = [] ∧ C = 4 := HRC.out.elim (fun h => by rw [HF.out] at h; cases h.1) (fun h => h.2)
        exact ⟨none, 0, rfl, World.ownsRow_nil _ _ _ _, G1.out⟩
    · have hke : k = xs.length := by omega
      have hall : divs ns xs = true := divs_all ns xs HL.out fun j n x h1 h2 => DV.out j n x (by rw [hke]; exact (List.getElem?_eq_some_iff.1 h2).1) h1 h2
      have HA := hid hall; clear hall
      subst hke
      go_wp2_with fail
      go_ret2
      have h := OWN.out
      rw [List.take_of_length_le (by rw [spns_len _ _ HL.out]; exact Nat.le_refl _)] at h
      obtain ⟨rfl, rfl⟩ : R = spns ns xs ∧ C = 0 := HRC.out.elim (fun h => h.2) (fun h => by rw [HA.out] at h; cases h.1)
      refine ⟨A', c', by rw [spns_len _ _ HL.out]; rfl, ?_, GW.out⟩
      rw [spns_len _ _ HL.out]
      exact h
end Go.Proofs.Ytpadjkgbeijkpaa
