/- WALKS: a disk and angles are looked at; swings; SwingAt, of the program and of the reference. -/
import Derived.Test.YteopkbeokiomlaaDk
import Derived.Test.YteopkbeokiomlaaYb
namespace Go.Proofs.Yteopkbeokiomlaa
open Go.RowKit Go.Sort

theorem red_scale {n p q : Int} (hn : 1 ≤ n) (hq : 1 ≤ q) : redP (n * p) (n * q) = redP p q ∧ redQ (n * p) (n * q) = redQ p q := by
  have h1 : 0 < n * q := Int.mul_pos (by omega) (by omega)
  unfold redP redQ
  rw [if_neg (by omega), if_neg (by omega), if_neg (by omega), if_neg (by omega)]
  have hg : Int.gcd (n * p) (n * q) = n.natAbs * Int.gcd p q := Int.gcd_mul_left n p q
  rw [hg]
  have e : ((n.natAbs * Int.gcd p q : Nat) : Int) = n * (Int.gcd p q : Int) := by push_cast; rw [show (n.natAbs : Int) = n by omega]
  rw [e]
  exact ⟨Int.mul_tdiv_mul_of_pos _ _ (by omega), Int.mul_tdiv_mul_of_pos _ _ (by omega)⟩
theorem r_scale {n p q : Int} (hn : 1 ≤ n) (hq : 1 ≤ q) : rP (n * p) (n * q) = rP p q ∧ rQ (n * p) (n * q) = rQ p q ∧ rC (n * p) (n * q) = rC p q := by
  obtain ⟨h1, h2⟩ := red_scale (p := p) hn hq
  unfold rP rQ rC
  rw [h1, h2]
  exact ⟨rfl, rfl, rfl⟩
theorem mul_bdg {x y A B : Int} (a1 : -A ≤ x) (a2 : x ≤ A) (b1 : -B ≤ y) (b2 : y ≤ B) : -(A * B) ≤ x * y ∧ x * y ≤ A * B := by
  have h : (x * y).natAbs ≤ A.natAbs * B.natAbs := by rw [Int.natAbs_mul]; exact Nat.mul_le_mul (by omega) (by omega)
  have e : ((A.natAbs * B.natAbs : Nat) : Int) = A * B := by push_cast; rw [show (A.natAbs : Int) = A by omega, show (B.natAbs : Int) = B by omega]
  omega

def swI (b : Int) : Int := if b ≤ 324000 then b else if b ≤ 972000 then 648000 - b else b - 1296000
theorem sw_bd {b : Int} (h1 : 0 ≤ b) (h2 : b < 1296000) : -324000 ≤ swI b ∧ swI b ≤ 324000 := by unfold swI; split <;> (try split) <;> omega
def offI (e no a : Int) : Int := e * swI a + no * swI (wrapI (a + 324000))
set_option maxRecDepth 20000 in
set_option maxHeartbeats 400000 in
theorem iswing (b : Int) (w : World) (h1 : 0 ≤ b) (h2 : b < 1296000) :
    Calls Try.prog 229 #[.int .i64 b] w fun e w' => e = .returned (.int .i64 (swI b)) ∧ w = w' := by
  unfold swI
  by_cases k1 : b ≤ 324000
  · rw [if_pos k1]
    go_enter Try.func229, Try.ntmps229
    go_wp2
    go_ret
    exact ⟨rfl, rfl⟩
  · rw [if_neg k1]
    by_cases k2 : b ≤ 972000
    · rw [if_pos k2]
      go_enter Try.func229, Try.ntmps229
      go_wp2
      go_ret
      exact ⟨rfl, rfl⟩
    · rw [if_neg k2]
      go_enter Try.func229, Try.ntmps229
      go_wp2
      go_ret
      exact ⟨rfl, rfl⟩
set_option maxRecDepth 20000 in
set_option maxHeartbeats 400000 in
theorem sswing (b : Int) (w : World) (h1 : 0 ≤ b) (h2 : b < 1296000) :
    Calls Try.prog 190 #[.int .i64 b] w fun e w' => e = .returned (.int .i64 (swI b)) ∧ w = w' := by
  unfold swI
  by_cases k1 : b ≤ 324000
  · rw [if_pos k1]
    go_enter Try.func190, Try.ntmps190
    go_wp2
    go_ret
    exact ⟨rfl, rfl⟩
  · rw [if_neg k1]
    by_cases k2 : b ≤ 972000
    · rw [if_pos k2]
      go_enter Try.func190, Try.ntmps190
      go_wp2
      go_ret
      exact ⟨rfl, rfl⟩
    · rw [if_neg k2]
      go_enter Try.func190, Try.ntmps190
      go_wp2
      go_ret
      exact ⟨rfl, rfl⟩
set_option maxRecDepth 20000 in
set_option maxHeartbeats 400000 in
theorem iswingA (b : Int) (w : World) (h1 : 0 ≤ b) (h2 : b < 1296000) :
    Calls Try.prog 230 #[.int .i64 b] w fun e w' => e = .returned (.int .i64 (swI (wrapI (b + 324000)))) ∧ w = w' := by
  obtain ⟨_, _⟩ := wrap_bd (b + 324000)
  go_enter Try.func230, Try.ntmps230
  go_wp2_with (first | (go_at_call 93; refine (iplus _ _ _ (by omega) (by omega) (by omega) (by omega)).mono ?_; rintro e w1 ⟨rfl, rfl⟩) | (go_at_call 229; refine (iswing _ _ (by omega) (by omega)).mono ?_; rintro e w1 ⟨rfl, rfl⟩))
  go_ret
  exact ⟨rfl, rfl⟩
set_option maxRecDepth 20000 in
set_option maxHeartbeats 400000 in
theorem iswings (w : World) : Calls Try.prog 216 #[] w fun e w' => e = .returned (.agg #[.func (.func 229) #[] #[], .func (.func 230) #[] #[]]) ∧ Gr w w' := by
  go_enter Try.func216, Try.ntmps216
  go_wp2
  refine bodyPost_ret (v := .agg #[.func (.func 229) #[] #[], .func (.func 230) #[] #[]]) (by simp [results, Try.results216, go_sem, *]) rfl ⟨rfl, ?_⟩
  exact (Gr.refl _).al _

/-! a predicate over a slice of integers -/
set_option maxRecDepth 20000 in
set_option maxHeartbeats 1000000 in
theorem iIndexP (F : Nat) (f : Int → Bool) (A : Option Addr) (c : Nat) (xs : List Int) (w : World) (X : Hid (RdI w A xs)) (hn : xs.length ≤ 1048576)
    (hen : ∀ s w, (callFunc F #[.int .i64 s]).run Try.prog w = .ok (.enter F #[.int .i64 s]) w) (hF : ∀ s w, Calls Try.prog F #[.int .i64 s] w fun e w' => e = .returned (.bool (!f s)) ∧ w = w') :
    Calls Try.prog 215 #[.slice A xs.length c, .func (.func F) #[] #[]] w fun e w' => (∃ r : Int, e = .returned (.int .i64 r) ∧ decide (0 ≤ r) = !xs.all f) ∧ w = w' := by
  have HF := hid hF; clear hF
  go_enter Try.func215, Try.ntmps215
  go_wp2_with fail
  go_loopw [8] (fun u wr => ∃ (k : Nat), u = .int .i64 (k : Int) ∧ k ≤ xs.length ∧ (xs.take k).all f = true ∧ wr = w) (fun u _ => xs.length - (intOf u).toNat)
  case atStart => exact ⟨0, rfl, by omega, by simp, by simp⟩
  case round =>
    obtain ⟨k, rfl, hk, ha, rfl⟩ := hrel
    have HA := hid ha; clear ha
    by_cases hlt : k < xs.length
    · obtain ⟨p, hp⟩ : ∃ p, xs[k]? = some p := ⟨xs[k], List.getElem?_eq_getElem _⟩
      obtain ⟨ad, rfl, c1⟩ := X.out k p hp
      have HP := hid hp; clear hp
      cases hx : f p with
      | true =>
        have HX := hid hx
        go_wp2_with fail
        refine (HF.out _ _).mono ?_
        rintro e w1 ⟨rfl, rfl⟩
        rw [HX.out]
        go_wp2_with fail
        exact ⟨⟨k + 1, by simp, by omega, allI_take HP.out HA.out HX.out, by simp⟩, by simp [intOf]; omega⟩
      | false =>
        have HX := hid hx
        go_wp2_with fail
        refine (HF.out _ _).mono ?_
        rintro e w1 ⟨rfl, rfl⟩
        rw [HX.out]
        go_wp2_with fail
        go_ret
        exact ⟨⟨_, rfl, by rw [allI_not HP.out HX.out]; simp⟩, rfl⟩
    · have hke : k = xs.length := by omega
      have hall : xs.all f = true := by have := HA.out; rwa [hke, List.take_length] at this
      have HALL := hid hall; clear hall hke
      go_wp2_with fail
      go_ret
      exact ⟨⟨_, rfl, by rw [HALL.out]; simp⟩, by simp⟩
set_option maxRecDepth 20000 in
set_option maxHeartbeats 1000000 in
theorem iContP (F : Nat) (f : Int → Bool) (A : Option Addr) (c : Nat) (xs : List Int) (w : World) (X : Hid (RdI w A xs)) (hn : xs.length ≤ 1048576)
    (hen : ∀ s w, (callFunc F #[.int .i64 s]).run Try.prog w = .ok (.enter F #[.int .i64 s]) w) (hF : ∀ s w, Calls Try.prog F #[.int .i64 s] w fun e w' => e = .returned (.bool (!f s)) ∧ w = w') :
    Calls Try.prog 192 #[.slice A xs.length c, .func (.func F) #[] #[]] w fun e w' => e = .returned (.bool (!xs.all f)) ∧ w = w' := by
  have HI := hid (iIndexP F f A c xs w X hn hen hF); clear hen hF
  go_enter Try.func192, Try.ntmps192
  go_wp2_with fail
  refine HI.out.mono ?_
  rintro e w1 ⟨⟨r, rfl, hr⟩, rfl⟩
  have HR := hid hr; clear hr
  go_wp2_with fail
  go_ret
  exact ⟨ret_bool (by rw [← HR.out]), rfl⟩
set_option maxRecDepth 20000 in
set_option maxHeartbeats 400000 in
theorem iNoAng (s : Int) (w : World) : Calls Try.prog 193 #[.int .i64 s] w fun e w' => e = .returned (.bool (!angB s)) ∧ w = w' := by
  go_enter Try.func193, Try.ntmps193
  go_wp2_with (go_at_call 194; refine (iang _ _).mono ?_; rintro e w1 ⟨rfl, rfl⟩)
  go_ret
  exact ⟨rfl, rfl⟩
set_option maxRecDepth 20000 in
set_option maxHeartbeats 1000000 in
theorem iDkWith (A A2 : Option Addr) (c c2 : Nat) (xs gs : List Int) (e no : Int) (w : World) (X : Hid (RdH w A xs)) (X2 : Hid (RdI w A2 gs)) (hn : xs.length ≤ 1048576) (hh : xs.all okH = true) (hm : gs.length ≤ 1048576) :
    Calls Try.prog 155 #[dk A xs.length c e no, .slice A2 gs.length c2] w fun x w' => x = .returned (.bool (dkB xs e no && gs.all angB)) ∧ Gr w w' := by
  have HD := hid fun w' (hg : Gr w w') => iDkOk A c xs e no w' (hid (X.out.keep hg)) hn hh
  have HC := hid fun w' (hg : Gr w w') => iContP 193 angB A2 c2 gs w' (hid (X2.out.keep hg)) hm (fun _ _ => by kernel_rfl) (fun s w => iNoAng s w)
  cases hd : dkB xs e no with
  | false =>
    rw [hd] at HD
    go_enter Try.func155, Try.ntmps155
    go_wp2_with fail
    refine (HD.out _ ((Gr.refl _).al _)).mono ?_
    rintro e w1 ⟨rfl, hg1⟩
    obtain ⟨x1_0, hz1, g1⟩ := alloc1 hg1
    obtain ⟨_, _, _⟩ := cells3 x1_0
    have _ := fz x1_0
    have _ := ltb x1_0
    have X1_0 := hid x1_0; clear x1_0
    have G1 := hid (g1)
    clear hg1 g1
    go_wp2
    go_ret
    exact ⟨rfl, G1.out⟩
  | true =>
    rw [hd] at HD
    go_enter Try.func155, Try.ntmps155
    go_wp2_with fail
    refine (HD.out _ ((Gr.refl _).al _)).mono ?_
    rintro e w1 ⟨rfl, hg1⟩
    obtain ⟨x1_0, hz1, g1⟩ := alloc1 hg1
    obtain ⟨_, _, _⟩ := cells3 x1_0
    have _ := fz x1_0
    have _ := ltb x1_0
    have X1_0 := hid x1_0; clear x1_0
    have G1 := hid (g1)
    clear hg1 g1
    go_wp2_with fail
    refine (HC.out _ G1.out).mono ?_
    rintro x w2 ⟨rfl, rfl⟩
    go_wp2_with fail
    go_ret
    exact ⟨ret_bool (by simp), G1.out⟩
end Go.Proofs.Yteopkbeokiomlaa
