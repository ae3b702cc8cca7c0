/- WALKS: FaultAt, of the program and of the reference. -/
import Derived.Test.YteopkbeokiomlaaDw
import Derived.Deep.QuietTactic
namespace Go.Proofs.Yteopkbeokiomlaa
open Go.RowKit Go.Sort

/-! append to a slice without room: one element behind one -/
theorem wpList_append_pair {P : Program} {w : World} {ops : Array Oper} {rest : List Oper} {o : Oper} {a : Act} {Q : Exit → Act → World → Prop} (hgd : o.guard = none) (s x : Operand) (t : TypeId)
    (ho : o.op = .call { callee := .builtin .append, args := #[s, x], argTypes := #[t, t] })
    (e : TypeId) (i : TypeInfo) (z : Value) (bytes : Nat) (ht : P.underlying t = some (.slice e)) (hi : P.info? e = some i) (hz : i.zero = some z)
    (hsize : i.size = 1) (hby : i.bytes = bytes) (hbb : bytes ≤ 1024)
    (b ad : Addr) (c : Nat) (p q : Value) (hs : a.eval s = .slice (some b) 1 1) (hp : w.cell? b = some p) (hx : a.eval x = .slice (some ad) 1 c) (hq : w.cell? ad = some q)
    (h : ∀ w' g c', Gr w w' → w.heap.size ≤ g → w'.cell? ⟨g, 0, none⟩ = some p → w'.cell? ⟨g, 1, none⟩ = some q → wpList P ops Q rest (a.put o.dst (.slice (some ⟨g, 0, none⟩) 2 c')) w') :
    wpList P ops Q (o :: rest) a w := by
  refine wpList_plain hgd fun K hK => ?_
  have hr := run_append_grow (P := P) w t o.type e i z ht hi hz b 1 1 [p] (by simp [hsize]) (fun j v hj => by
      match j with
      | 0 => simp at hj; subst hj; simpa [Addr.add] using hp
      | j + 1 => simp at hj) ad 1 c [q] (by simp [hsize]) (fun j v hj => by
      match j with
      | 0 => simp at hj; subst hj; simpa [Addr.add] using hq
      | j + 1 => simp at hj) (by omega) (by omega) (growslice_fits (by omega) (by rw [hby]; omega))
  unfold Oper.wp execOp
  simp only [ho, resolve, invoke, builtin, Sem.run_bind, Sem.run_pure, Result.andThen_ok, List.map_toArray, List.map_cons, List.map_nil, hs, hx, hr]
  refine hK _ _ (h _ _ _ (((Gr.refl w).trans (Gr.drew _)).al _) (Nat.le_refl _) ?_ ?_)
  · have : (w.drew.alloc (.cells ([p].toArray ++ [q].toArray ++ Builtin.zeroCells z.cells (grownCap w (1 + 1) 1 e - (1 + 1))) e)).heap[w.heap.size]? = some (.cells ([p].toArray ++ [q].toArray ++ Builtin.zeroCells z.cells (grownCap w (1 + 1) 1 e - (1 + 1))) e) := heap_alloc_new w.drew _
    simp only [World.cell?, this]
    simp only [List.append_toArray, List.cons_append, List.nil_append]
    rw [Array.getElem?_append_left (by simp)]
    rfl
  · have : (w.drew.alloc (.cells ([p].toArray ++ [q].toArray ++ Builtin.zeroCells z.cells (grownCap w (1 + 1) 1 e - (1 + 1))) e)).heap[w.heap.size]? = some (.cells ([p].toArray ++ [q].toArray ++ Builtin.zeroCells z.cells (grownCap w (1 + 1) 1 e - (1 + 1))) e) := heap_alloc_new w.drew _
    simp only [World.cell?, this]
    simp only [List.append_toArray, List.cons_append, List.nil_append]
    rw [Array.getElem?_append_left (by simp)]
    rfl

/-- The sector of an angle, the part of it behind its mark, and the faults of its two marks. -/
structure Sect (xs : List Int) (a S B p q : Int) (k k2 : Nat) : Prop where
  es : (1296000 : Int) / (xs.length : Int) = S
  ek : a / S = (k : Int)
  eb : a % S = B
  ek2 : ((k : Int) + 1) % (xs.length : Int) = (k2 : Int)
  ep : xs[k]? = some p
  eq : xs[k2]? = some q
  s1 : 1 ≤ S
  s2 : S ≤ 1296000
  nS : (xs.length : Int) * S = 1296000
  b1 : 0 ≤ B
  b2 : B < S
  kl : k < xs.length
  k2l : k2 < xs.length
  pb : -600 ≤ p ∧ p ≤ 600
  qb : -600 ≤ q ∧ q ≤ 600
  ab : a - (k : Int) * S = B
theorem sect_of {xs : List Int} {a : Int} (hd : divB (xs.length : Int) = true) (hf : xs.all okF = true) (a1 : 0 ≤ a) (a2 : a < 1296000) : ∃ S B p q k k2, Sect xs a S B p q k k2 := by
  unfold divB at hd
  simp only [Bool.and_eq_true, decide_eq_true_eq, beq_iff_eq] at hd
  obtain ⟨⟨n1, n2⟩, hm⟩ := hd
  have hnS : (xs.length : Int) * ((1296000 : Int) / (xs.length : Int)) = 1296000 := Int.mul_ediv_cancel' (Int.dvd_of_emod_eq_zero hm)
  obtain ⟨q1, q2⟩ := q_bd (n := (xs.length : Int)) n1
  have s1 : 1 ≤ (1296000 : Int) / (xs.length : Int) := by
    rcases Int.lt_or_le ((1296000 : Int) / (xs.length : Int)) 1 with h | h
    · have h0 : (1296000 : Int) / (xs.length : Int) = 0 := by omega
      rw [h0] at hnS; omega
    · exact h
  generalize hs : (1296000 : Int) / (xs.length : Int) = S at *
  have hb1 := Int.emod_nonneg a (show S ≠ 0 by omega)
  have hb2 := Int.emod_lt_of_pos a (show 0 < S by omega)
  have hk0 : 0 ≤ a / S := Int.ediv_nonneg a1 (by omega)
  have hkl : a / S < (xs.length : Int) := Int.ediv_lt_of_lt_mul (by omega) (by rw [hnS]; omega)
  have hj1 := Int.emod_nonneg (a / S + 1) (show (xs.length : Int) ≠ 0 by omega)
  have hj2 := Int.emod_lt_of_pos (a / S + 1) (show 0 < (xs.length : Int) by omega)
  have ek : a / S = (((a / S).toNat : Nat) : Int) := by omega
  have ek2 : (a / S + 1) % (xs.length : Int) = ((((a / S + 1) % (xs.length : Int)).toNat : Nat) : Int) := by omega
  have l1 : (a / S).toNat < xs.length := by omega
  have l2 : ((a / S + 1) % (xs.length : Int)).toNat < xs.length := by omega
  have f1 := allI_get (List.getElem?_eq_getElem l1) hf
  have f2 := allI_get (List.getElem?_eq_getElem l2) hf
  unfold okF inB at f1 f2
  simp only [Bool.and_eq_true, decide_eq_true_eq] at f1 f2
  refine ⟨S, a % S, xs[(a / S).toNat], xs[((a / S + 1) % (xs.length : Int)).toNat], (a / S).toNat, ((a / S + 1) % (xs.length : Int)).toNat, hs, ek, rfl, by rw [← ek]; exact ek2, List.getElem?_eq_getElem l1, List.getElem?_eq_getElem l2, s1, q2, hnS, hb1, hb2, l1, l2, f1, f2, ?_⟩
  rw [← ek]
  have := Int.mul_ediv_add_emod a S
  rw [Int.mul_comm] at this
  omega
def flI (p q S B : Int) : Int := p * S + (q - p) * B
theorem fl_scale {xs : List Int} {a S B p q : Int} {k k2 : Nat} (h : Sect xs a S B p q k k2) : p * 1296000 + (q - p) * (B * (xs.length : Int)) = (xs.length : Int) * flI p q S B := by
  unfold flI
  rw [← h.nS, Int.mul_add, Int.mul_left_comm (xs.length : Int) p S, Int.mul_left_comm (xs.length : Int) (q - p) B, Int.mul_comm B]
set_option maxRecDepth 20000 in
set_option maxHeartbeats 1000000 in
theorem sFault (b : Nat) (T : TypeId) (A : Option Addr) (c : Nat) (xs : List Int) (e no a S B p q : Int) (k k2 : Nat) (w : World) (XB : Hid (w.heap[b]? = some (.cells #[.slice A xs.length c, .int .i64 e, .int .i64 no] T))) (X : Hid (RdH w A xs)) (hS : Sect xs a S B p q k k2) (a1 : 0 ≤ a) (a2 : a < 1296000) (hn : xs.length ≤ 72) :
    Calls Try.prog 152 #[.pointer (some ⟨b, 0, none⟩), .int .i64 a] w fun x w' => x = .returned (.tuple #[.int .i64 (flI p q S B), .int .i64 S]) ∧ Gr w w' := by
  obtain ⟨hs, hk, hb, hk2, hp, hq, s1, s2, _, b1, b2, kl, k2l, ⟨p1, p2⟩, ⟨q1, q2⟩, hab⟩ := hS
  obtain ⟨ad, rfl, c1⟩ := X.out k p hp
  obtain ⟨ad', he, c2⟩ := X.out k2 q hq
  cases he
  obtain ⟨_, _, _⟩ := cells3 XB.out
  have m1 := mul_bdg (x := p) (y := S) (A := 600) (B := 1296000) (by omega) (by omega) (by omega) (by omega)
  have m2 := mul_bdg (x := q - p) (y := B) (A := 1200) (B := 1296000) (by omega) (by omega) (by omega) (by omega)
  have m3 := mul_bdg (x := (k : Int)) (y := S) (A := 72) (B := 1296000) (by omega) (by omega) (by omega) (by omega)
  obtain ⟨_, _⟩ := m1
  obtain ⟨_, _⟩ := m2
  obtain ⟨_, _⟩ := m3
  have hz : S ≠ 0 := by omega
  have hz2 : ((xs.length : Nat) : Int) ≠ 0 := by omega
  have hz3 : 0 ≤ S := by omega
  clear hp hq
  unfold flI
  go_enter Try.func152, Try.ntmps152
  go_wp2_with fail
  go_quiet (fail)
  go_wp2_with fail
  refine bodyPost_ret (v := .tuple #[.int .i64 (p * S + (q - p) * B), .int .i64 S]) (by simp [results, Try.results152, go_sem, hs]) rfl ⟨rfl, Gr.drewN _ _⟩
set_option maxRecDepth 20000 in
set_option maxHeartbeats 1000000 in
theorem iDkFault (A : Option Addr) (c : Nat) (xs : List Int) (e no a S B p q : Int) (k k2 : Nat) (w : World) (X : Hid (RdH w A xs)) (hS : Sect xs a S B p q k k2) (a1 : 0 ≤ a) (a2 : a < 1296000) (hn : xs.length ≤ 72) (hc : xs.length ≤ c) :
    Calls Try.prog 195 #[dk A xs.length c e no, .int .i64 a] w fun x w' => x = .returned (.int .i64 ((xs.length : Int) * flI p q S B)) ∧ Gr w w' := by
  rw [← fl_scale hS]
  obtain ⟨hs, hk, hb, hk2, hp, hq, s1, s2, _, b1, b2, kl, k2l, ⟨p1, p2⟩, ⟨q1, q2⟩, hab⟩ := hS
  obtain ⟨ad, rfl, c1⟩ := (X.out.keep ((Gr.refl w).al (.cells #[.slice A xs.length c, .int .i64 e, .int .i64 no] 59))) k p hp
  obtain ⟨ad', he, c2⟩ := (X.out.keep ((Gr.refl w).al (.cells #[.slice (some ad) xs.length c, .int .i64 e, .int .i64 no] 59))) k2 q hq
  cases he
  obtain ⟨i0, hi, hz0, hz1, hz2⟩ : ∃ i, Try.prog.info? 176 = some i ∧ i.zero = some (.int .i16 0) ∧ i.size = 1 ∧ i.bytes = 2 := ⟨_, rfl, rfl, rfl, rfl⟩
  have m1 := mul_bdg (x := B) (y := (xs.length : Int)) (A := 1296000) (B := 72) (by omega) (by omega) (by omega) (by omega)
  have m2 := mul_bdg (x := q - p) (y := B * (xs.length : Int)) (A := 1200) (B := 93312000) (by omega) (by omega) (by omega) (by omega)
  obtain ⟨_, _⟩ := m1
  obtain ⟨_, _⟩ := m2
  have hz : S ≠ 0 := by omega
  have hz4 : ((xs.length : Nat) : Int) ≠ 0 := by omega
  have hz3 : 0 ≤ S := by omega
  clear hp hq
  go_enter Try.func195, Try.ntmps195
  go_wp2_with fail
  go_quiet (fail)
  go_wp2_with fail
  have xbox := (alloc1 (Gr.drewN (w.alloc (.cells #[.slice (some ad) xs.length c, .int .i64 e, .int .i64 no] 59)) nq)).1
  have GQ := hid (((Gr.refl w).al (.cells #[.slice (some ad) xs.length c, .int .i64 e, .int .i64 no] 59)).trans (Gr.drewN _ nq))
  have d1 : ((w.alloc (.cells #[.slice (some ad) xs.length c, .int .i64 e, .int .i64 no] 59)).drewN nq).cell? (ad.add k) = some (.int .i16 p) := c1
  have d2 : ((w.alloc (.cells #[.slice (some ad) xs.length c, .int .i64 e, .int .i64 no] 59)).drewN nq).cell? (ad.add k2) = some (.int .i16 q) := c2
  clear c1 c2 X
  generalize hwq : (w.alloc (.cells #[.slice (some ad) xs.length c, .int .i64 e, .int .i64 no] 59)).drewN nq = wq at *
  clear hwq
  refine wp_regA (b0 := .cells #[.int .i16 q] 176) (fun b => .slice (some ⟨b, 0, none⟩) 1 1) 17 16 39 (by kernel_rfl) (by kernel_rfl) rfl rfl (by simp) ?_
  apply Exists.intro
  refine ⟨fun wb hb => ?_, fun w' => ?_, ?_⟩
  · have _ := hb.atA d1
    have _ := hb.atA d2
    obtain ⟨_, _, _⟩ := hb.at3 xbox
    simp only [headOps, List.contains, List.elem, Nat.reduceAdd, Nat.reduceBEq, reduceIte, Bool.false_eq_true, dumOp]
    repeat (first | go_big_quiet_step (first | (fail)) | quiet_step (fail))
    exact wpQuiet_nil rfl
  · kernel_rfl
  intro w1 b hg1 hb1 xb
  have GW := hid (GQ.out.trans hg1)
  have n1 : w1.cell? (ad.add k) = some (.int .i16 p) := (hg1.cellI (World.block_lt_of_cell? _ _ d1)).trans d1
  have n2 := cells1 xb
  have N1 := hid n1; have N2 := hid n2
  clear hg1 hb1 xb d1 d2 n1 n2 xbox
  simp only [List.drop_succ_cons, List.drop_zero]
  refine (wpList_append_pair rfl _ _ 52 rfl 176 i0 (.int .i16 0) 2 Try.underlying52 hi hz0 hz1 hz2 (by omega) (ad.add k) ⟨b, 0, none⟩ 1 (.int .i16 p) (.int .i16 q) rfl N1.out rfl N2.out ?_)
  intro w2 g c' hg2 hge r1 r2
  have G2 := hid (GW.out.trans hg2)
  clear hg2 N1 N2
  go_wp2_with fail
  go_quiet (fail)
  go_wp2_with fail
  go_ret
  exact ⟨rfl, G2.out.trans (Gr.drewN _ _)⟩
end Go.Proofs.Yteopkbeokiomlaa
