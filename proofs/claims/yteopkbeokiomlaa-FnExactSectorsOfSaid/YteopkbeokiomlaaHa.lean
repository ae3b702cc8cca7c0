/- WALKS: what a head reads, of the program (without what it keeps) and of the reference. -/
import Derived.Test.YteopkbeokiomlaaDx
namespace Go.Proofs.Yteopkbeokiomlaa
open Go.RowKit Go.Sort

set_option maxHeartbeats 400000 in
theorem hnearDiv (p q : Int) (w : World) (p0 : -1000000000000000000 ≤ p) (p1 : p ≤ 1000000000000000000) (q0 : 1 ≤ q) (q1 : q ≤ 1000000000000000000) :
    Calls Try.prog 197 #[.int .i64 p, .int .i64 q] w fun e w' => e = .returned (.int .i64 (downI (2 * p + q) (2 * q))) ∧ w = w' := by
  go_enter Try.func197, Try.ntmps197
  go_wp2_with (go_at_call 198; refine (idown _ _ _ (by omega) (by omega) (by omega) (by omega)).mono ?_; rintro e w1 ⟨rfl, rfl⟩)
  go_ret
  exact ⟨rfl, rfl⟩
/-- The exact place, in Circle-ths of a second. -/
def exI (n : Int) (a fl off : Int) : Int := a * 1296000 + n * fl + off * 4
/-- What is read of it, with a unit. -/
def hdI (n : Int) (a fl off l : Int) : Int := downI (2 * exI n a fl off + l * 1296000) (2 * (l * 1296000))
def headR (n : Int) (a fl off l : Int) : Int := wrapI (hdI n a fl off l * l)
structure HeadB (n a S fl off l : Int) : Prop where
  a1 : 0 ≤ a
  a2 : a < 1296000
  s1 : 1 ≤ S
  s2 : S ≤ 1296000
  nS : n * S = 1296000
  n1 : 1 ≤ n
  n2 : n ≤ 72
  f1 : -2400000000 ≤ fl
  f2 : fl ≤ 2400000000
  o1 : -388800000 ≤ off
  o2 : off ≤ 388800000
  l1 : 1 ≤ l
  l2 : l ≤ 3600
theorem ex_bd {n a S fl off l : Int} (h : HeadB n a S fl off l) : -2000000000000 ≤ exI n a fl off ∧ exI n a fl off ≤ 2000000000000 ∧ -172800000000 ≤ n * fl ∧ n * fl ≤ 172800000000 := by
  obtain ⟨a1, a2, s1, s2, nS, n1, n2, f1, f2, o1, o2, l1, l2⟩ := h
  have m := mul_bdg (x := n) (y := fl) (A := 72) (B := 2400000000) (by omega) (by omega) (by omega) (by omega)
  unfold exI
  omega
theorem hd_bd {n a S fl off l : Int} (h : HeadB n a S fl off l) : (-1000000000000 ≤ hdI n a fl off l * l ∧ hdI n a fl off l * l ≤ 1000000000000) := by
  obtain ⟨e1, e2, _, _⟩ := ex_bd h
  have l1 := h.l1
  have l2 := h.l2
  unfold hdI
  rw [down_div _ _ (by omega)]
  generalize exI n a fl off = x at *
  have q0 : (0 : Int) < 2 * (l * 1296000) := by omega
  have h1 := Int.ediv_mul_le (2 * x + l * 1296000) (show (2 * (l * 1296000) : Int) ≠ 0 by omega)
  have h2 := Int.lt_ediv_add_one_mul_self (2 * x + l * 1296000) q0
  generalize (2 * x + l * 1296000) / (2 * (l * 1296000)) = y at *
  have r1 : y * (2 * (l * 1296000)) = 2592000 * (y * l) := by rw [Int.mul_left_comm, ← Int.mul_assoc y l]; omega
  have r2 : (y + 1) * (2 * (l * 1296000)) = 2592000 * (y * l) + 2592000 * l := by rw [Int.add_mul, r1]; omega
  omega
/-- The reference's numbers. -/
def smI (a S fl off : Int) : Int := a * S * 324000 + fl * 324000 + off * S
def unI (S l : Int) : Int := S * 324000 * l
theorem sm_un_bd {n a S fl off l : Int} (h : HeadB n a S fl off l) :
    (-1700000000000 ≤ a * S ∧ a * S ≤ 1700000000000) ∧ (-503884800000000 ≤ off * S ∧ off * S ≤ 503884800000000) ∧ (1 ≤ S * 324000 * l ∧ S * 324000 * l ≤ 1511654400000000) := by
  obtain ⟨a1, a2, s1, s2, nS, n1, n2, f1, f2, o1, o2, l1, l2⟩ := h
  have m1 := mul_bdg (x := a) (y := S) (A := 1296000) (B := 1296000) (by omega) (by omega) (by omega) (by omega)
  have m2 := mul_bdg (x := off) (y := S) (A := 388800000) (B := 1296000) (by omega) (by omega) (by omega) (by omega)
  have m3 := mul_bdg (x := S * 324000) (y := l) (A := 419904000000) (B := 3600) (by omega) (by omega) (by omega) (by omega)
  have m4 : 0 < S * 324000 * l := Int.mul_pos (by omega) (by omega)
  omega
theorem head_same {n a S fl off l : Int} (h : HeadB n a S fl off l) : downI (2 * smI a S fl off + unI S l) (2 * unI S l) = hdI n a fl off l := by
  obtain ⟨_, _, m3, _⟩ := sm_un_bd h
  obtain ⟨a1, a2, s1, s2, nS, n1, n2, f1, f2, o1, o2, l1, l2⟩ := h
  have u1 : 1 ≤ unI S l := m3
  unfold hdI
  rw [down_div _ _ (by omega), down_div _ _ (by omega)]
  have k0 : (0 : Int) < S * 324000 := by omega
  -- both sides times what the other one is divided by
  have e1 : (2 * smI a S fl off + unI S l) * 1296000 = (2 * exI n a fl off + l * 1296000) * (S * 324000) := by
    unfold smI unI exI
    have t1 : n * fl * (S * 324000) = fl * 324000 * 1296000 := by rw [← nS]; simp only [Int.mul_assoc, Int.mul_left_comm, Int.mul_comm]
    have t2 : off * 4 * (S * 324000) = off * S * 1296000 := by rw [show off * 4 * (S * 324000) = off * S * (4 * 324000) by simp only [Int.mul_assoc, Int.mul_left_comm, Int.mul_comm]]; rfl
    have t3 : a * 1296000 * (S * 324000) = a * S * 324000 * 1296000 := by simp only [Int.mul_assoc, Int.mul_left_comm, Int.mul_comm]
    have t4 : l * 1296000 * (S * 324000) = S * 324000 * l * 1296000 := by simp only [Int.mul_assoc, Int.mul_left_comm, Int.mul_comm]
    simp only [Int.add_mul, Int.mul_add, Int.mul_assoc 2, t1, t2, t3, t4]
  have e2 : (2 * unI S l) * 1296000 = (2 * (l * 1296000)) * (S * 324000) := by
    unfold unI
    simp only [Int.mul_assoc, Int.mul_left_comm, Int.mul_comm]
  rw [← Int.mul_ediv_mul_of_pos_left (2 * smI a S fl off + unI S l) (2 * unI S l) (show (0 : Int) < 1296000 by omega), e1, e2, Int.mul_ediv_mul_of_pos_left _ _ k0]
set_option maxRecDepth 20000 in
set_option maxHeartbeats 1000000 in
theorem sHead (b : Nat) (T : TypeId) (A : Option Addr) (c : Nat) (xs : List Int) (e no a l S B p q : Int) (k k2 : Nat) (w : World) (XB : Hid (w.heap[b]? = some (.cells #[.slice A xs.length c, .int .i64 e, .int .i64 no] T))) (X : Hid (RdH w A xs)) (hS : Sect xs a S B p q k k2) (hl : xs.length ≤ 72)
    (d1 : -600 ≤ e ∧ e ≤ 600) (d2 : -600 ≤ no ∧ no ≤ 600) (hB : HeadB (xs.length : Int) a S (flI p q S B) (offI e no a) l) :
    Calls Try.prog 85 #[.pointer (some ⟨b, 0, none⟩), .int .i64 a, .int .i64 l] w fun x w' => x = .returned (.int .i64 (headR (xs.length : Int) a (flI p q S B) (offI e no a) l)) ∧ Gr w w' := by
  have HF := hid fun w' (hg : Gr w w') => sFault b T A c xs e no a S B p q k k2 w' (hid (hg.keep XB.out)) (hid (X.out.keep hg)) hS hB.a1 hB.a2 hl
  have HO := hid fun w' (hg : Gr w w') => sOff b T A xs.length c e no a w' (hid (hg.keep XB.out)) d1 d2 hB.a1 hB.a2
  have hsame := head_same hB
  obtain ⟨_, _⟩ := hd_bd hB
  obtain ⟨⟨_, _⟩, ⟨_, _⟩, _, _⟩ := sm_un_bd hB
  obtain ⟨_, _, _, _, _, _, _, _, _, _, _, _, _⟩ := hB
  unfold headR
  unfold smI unI at hsame
  have HSA := hid hsame
  clear hsame hS d1 d2
  generalize flI p q S B = F at *
  generalize offI e no a = O at *
  generalize hdI (xs.length : Int) a F O l = y at *
  have hly : l * y = y * l := Int.mul_comm _ _
  go_enter Try.func85, Try.ntmps85
  go_wp2_with fail
  refine (HF.out _ (Gr.refl _)).mono ?_
  rintro x w1 ⟨rfl, hg1⟩
  have G1 := hid hg1
  clear hg1
  go_wp2_with fail
  refine (HO.out _ G1.out).mono ?_
  rintro x w2 ⟨rfl, hg2⟩
  have G2 := hid (G1.out.trans hg2)
  clear hg2
  go_wp2_with (go_at_call 154; refine (sdown _ _ _ (by omega) (by omega) (by omega) (by omega)).mono ?_; rintro x w3 ⟨rfl, rfl⟩; rw [HSA.out])
  refine (swrap _ _ (by omega) (by omega)).mono ?_
  rintro x w3 ⟨rfl, rfl⟩
  go_wp2_with fail
  go_ret
  exact ⟨ret_int (by rw [Int.mul_comm]), G2.out⟩
end Go.Proofs.Yteopkbeokiomlaa
