/- WALKS: TurnTo, of the program and of the reference. -/
import Derived.Test.YtjcebojmfoppaaaX7
namespace Go.Proofs.Ytjcebojmfoppaaa
open Go.RowKit Go.Sort

/-- A spindle at p / q is turned by y until the place e / f no longer lies on the side y; at most so many times, i have been done. -/
def tu (a b n c d e f y : Int) : Nat → Int → Int → Int → Int → Moves
  | 0, _, _, _, _ => ⟨0, 0, 0, 0, 7⟩
  | k + 1, t, p, q, i =>
    if stC a b n c d t y = 0 then
      if cmpI e f (atP a b n c d (t + y) p q) (atQ a b n c d (t + y) p q) = y then tu a b n c d e f y k (t + y) (atP a b n c d (t + y) p q) (atQ a b n c d (t + y) p q) (i + 1)
      else ⟨t + y, atP a b n c d (t + y) p q, atQ a b n c d (t + y) p q, i + 1, 0⟩
    else ⟨0, 0, 0, 0, stC a b n c d t y⟩
/-- The same, looked at ahead of each turn. -/
def tt (a b n c d e f y : Int) : Nat → Int → Int → Int → Int → Moves
  | 0, t, p, q, i => if cmpI e f p q = y then ⟨0, 0, 0, 0, 7⟩ else ⟨t, p, q, i, 0⟩
  | k + 1, t, p, q, i =>
    if cmpI e f p q = y then
      if stC a b n c d t y = 0 then tt a b n c d e f y k (t + y) (atP a b n c d (t + y) p q) (atQ a b n c d (t + y) p q) (i + 1)
      else ⟨0, 0, 0, 0, stC a b n c d t y⟩
    else ⟨t, p, q, i, 0⟩
theorem tt_tu {a b n c d e f y : Int} : ∀ (k : Nat) (t p q i : Int), cmpI e f p q = y → tt a b n c d e f y k t p q i = tu a b n c d e f y k t p q i
  | 0, t, p, q, i, h => by unfold tt tu; rw [if_pos h]
  | k + 1, t, p, q, i, h => by
    unfold tt tu
    rw [if_pos h]
    by_cases hC : stC a b n c d t y = 0
    · rw [if_pos hC, if_pos hC]
      by_cases hd : cmpI e f (atP a b n c d (t + y) p q) (atQ a b n c d (t + y) p q) = y
      · rw [if_pos hd]; exact tt_tu k _ _ _ _ hd
      · rw [if_neg hd]
        cases k with
        | zero => unfold tt; rw [if_neg hd]
        | succ k => unfold tt; rw [if_neg hd]
    · rw [if_neg hC, if_neg hC]
theorem tu_n {a b n c d e f y : Int} : ∀ (k : Nat) (t p q i : Int) (r : Moves), tu a b n c d e f y k t p q i = r → 0 ≤ i → r.c ≠ 0 ∧ r.t = 0 ∧ r.p = 0 ∧ r.q = 0 ∧ r.n = 0 ∨ r.c = 0 ∧ 0 ≤ r.n ∧ r.n ≤ i + k
  | 0, _, _, _, _, r, h, _ => by subst h; exact .inl ⟨by simp [tu], rfl, rfl, rfl, rfl⟩
  | k + 1, t, p, q, i, r, h, hi => by
    unfold tu at h
    by_cases hC : stC a b n c d t y = 0
    · rw [if_pos hC] at h
      by_cases hd : cmpI e f (atP a b n c d (t + y) p q) (atQ a b n c d (t + y) p q) = y
      · rw [if_pos hd] at h
        rcases tu_n k _ _ _ _ r h (by omega) with h' | h'
        · exact .inl h'
        · exact .inr ⟨h'.1, h'.2.1, by omega⟩
      · rw [if_neg hd] at h
        subst h
        exact .inr ⟨rfl, by show 0 ≤ i + 1; omega, by show i + 1 ≤ i + ((k + 1 : Nat) : Int); omega⟩
    · rw [if_neg hC] at h
      subst h
      exact .inl ⟨hC, rfl, rfl, rfl, rfl⟩
theorem at_ok {a b n c d t p q : Int} (hp : okB p q = true) (ge : eB a b n c d t = true) : okB (atP a b n c d t p q) (atQ a b n c d t p q) = true :=
  ok_mn (ok_mx hp (eB_all ge).2.2) (eB_all ge).2.1
set_option maxRecDepth 20000 in
set_option maxHeartbeats 400000 in
theorem there_loose_t (e f y P Q : Int) (w : World) (k1 k2 : Nat) (T : TypeId) (XA : Hid (w.heap[k1]? = some (.cells #[.int .i64 e, .int .i64 f] 33))) (XB : Hid (w.heap[k2]? = some (.cells #[.int .i64 y] T))) (h1 : okB e f = true) (h2 : okB P Q = true) (hd : cmpI e f P Q ≠ y) :
    Calls Try.prog 49 #[.iface 102 (fr P Q), .pointer (some ⟨k1, 0, none⟩), .pointer (some ⟨k2, 0, none⟩)] w fun e w' => e = .returned (.bool true) ∧ Gr w w' := by
  have c1 : ((cmpI e f P Q : Int) == y) = false := by simpa using hd
  have c2 : ((cmpI e f P Q : Int) != y) = true := by simpa using hd
  have h1 := hid h1; have h2 := hid h2; have C1 := hid c1; have C2 := hid c2; clear hd c1 c2
  go_enter Try.func49, Try.ntmps49
  obtain ⟨_, _⟩ := cells2 XA.out
  have _ := fz XA.out
  have _ := ltb XA.out
  have _ := cells1 XB.out
  have _ := fz XB.out
  have _ := ltb XB.out
  go_wp2_with fail
  refine wp_reg0 6 (by kernel_rfl) (by kernel_rfl) ?_
  apply Exists.intro
  refine ⟨fun wb hb => ?_, ?_⟩
  · obtain ⟨_, _⟩ := hb.at2 XA.out
    have _ := hb.at1 XB.out
    have hm : ∀ (v : Value) (w : World), (method 236 102 v "loop.example/g01254/impl.place").run Try.prog w = .ok (97, v) w := fun _ _ => by kernel_rfl
    have c1 := C1.out; have c2 := C2.out
    simp only [headOps, List.contains, List.elem, reduceIte, Bool.false_eq_true]
    repeat (first | go_big_quiet_step (first | (go_at_call 34; exact Calls.of_gr (iord _ _ _ _ _ h1.out h2.out)) | (exact Calls.of_gr (place_loose _ _ _))) | quiet_step (fail))
    exact wpQuiet_nil rfl
  intro w1 hg1
  have x1_1 := hg1.keep XA.out
  have x1_2 := hg1.keep XB.out
  obtain ⟨_, _⟩ := cells2 x1_1
  have _ := fz x1_1
  have _ := ltb x1_1
  have _ := cells1 x1_2
  have _ := fz x1_2
  have _ := ltb x1_2
  have X1_1 := hid x1_1; clear x1_1
  have X1_2 := hid x1_2; clear x1_2
  have G1 := hid (hg1)
  clear hg1
  go_wp2
  go_ret
  exact ⟨rfl, G1.out⟩
set_option maxRecDepth 20000 in
set_option maxHeartbeats 400000 in
theorem there_loose_f (e f y P Q : Int) (w : World) (k1 k2 : Nat) (T : TypeId) (XA : Hid (w.heap[k1]? = some (.cells #[.int .i64 e, .int .i64 f] 33))) (XB : Hid (w.heap[k2]? = some (.cells #[.int .i64 y] T))) (h1 : okB e f = true) (h2 : okB P Q = true) (hd : cmpI e f P Q = y) :
    Calls Try.prog 49 #[.iface 102 (fr P Q), .pointer (some ⟨k1, 0, none⟩), .pointer (some ⟨k2, 0, none⟩)] w fun e w' => e = .returned (.bool false) ∧ Gr w w' := by
  have c1 : ((cmpI e f P Q : Int) == y) = true := by simpa using hd
  have c2 : ((cmpI e f P Q : Int) != y) = false := by simpa using hd
  have h1 := hid h1; have h2 := hid h2; have C1 := hid c1; have C2 := hid c2; clear hd c1 c2
  go_enter Try.func49, Try.ntmps49
  obtain ⟨_, _⟩ := cells2 XA.out
  have _ := fz XA.out
  have _ := ltb XA.out
  have _ := cells1 XB.out
  have _ := fz XB.out
  have _ := ltb XB.out
  go_wp2_with fail
  refine wp_reg0 6 (by kernel_rfl) (by kernel_rfl) ?_
  apply Exists.intro
  refine ⟨fun wb hb => ?_, ?_⟩
  · obtain ⟨_, _⟩ := hb.at2 XA.out
    have _ := hb.at1 XB.out
    have hm : ∀ (v : Value) (w : World), (method 236 102 v "loop.example/g01254/impl.place").run Try.prog w = .ok (97, v) w := fun _ _ => by kernel_rfl
    have c1 := C1.out; have c2 := C2.out
    simp only [headOps, List.contains, List.elem, reduceIte, Bool.false_eq_true]
    repeat (first | go_big_quiet_step (first | (go_at_call 34; exact Calls.of_gr (iord _ _ _ _ _ h1.out h2.out)) | (exact Calls.of_gr (place_loose _ _ _))) | quiet_step (fail))
    exact wpQuiet_nil rfl
  intro w1 hg1
  have x1_1 := hg1.keep XA.out
  have x1_2 := hg1.keep XB.out
  obtain ⟨_, _⟩ := cells2 x1_1
  have _ := fz x1_1
  have _ := ltb x1_1
  have _ := cells1 x1_2
  have _ := fz x1_2
  have _ := ltb x1_2
  have X1_1 := hid x1_1; clear x1_1
  have X1_2 := hid x1_2; clear x1_2
  have G1 := hid (hg1)
  clear hg1
  go_wp2
  go_ret
  exact ⟨rfl, G1.out⟩
set_option maxRecDepth 20000 in
set_option maxHeartbeats 400000 in
theorem there_pulled_t (e f y P Q p2 q2 : Int) (w : World) (k1 k2 : Nat) (T : TypeId) (XA : Hid (w.heap[k1]? = some (.cells #[.int .i64 e, .int .i64 f] 33))) (XB : Hid (w.heap[k2]? = some (.cells #[.int .i64 y] T))) (h1 : okB e f = true) (h2 : okB P Q = true) (hd : cmpI e f P Q ≠ y) :
    Calls Try.prog 49 #[.iface 104 (sp P Q p2 q2), .pointer (some ⟨k1, 0, none⟩), .pointer (some ⟨k2, 0, none⟩)] w fun e w' => e = .returned (.bool true) ∧ Gr w w' := by
  have c1 : ((cmpI e f P Q : Int) == y) = false := by simpa using hd
  have c2 : ((cmpI e f P Q : Int) != y) = true := by simpa using hd
  have h1 := hid h1; have h2 := hid h2; have C1 := hid c1; have C2 := hid c2; clear hd c1 c2
  go_enter Try.func49, Try.ntmps49
  obtain ⟨_, _⟩ := cells2 XA.out
  have _ := fz XA.out
  have _ := ltb XA.out
  have _ := cells1 XB.out
  have _ := fz XB.out
  have _ := ltb XB.out
  go_wp2_with fail
  refine wp_reg0 6 (by kernel_rfl) (by kernel_rfl) ?_
  apply Exists.intro
  refine ⟨fun wb hb => ?_, ?_⟩
  · obtain ⟨_, _⟩ := hb.at2 XA.out
    have _ := hb.at1 XB.out
    have hm : ∀ (v : Value) (w : World), (method 236 104 v "loop.example/g01254/impl.place").run Try.prog w = .ok (98, v) w := fun _ _ => by kernel_rfl
    have c1 := C1.out; have c2 := C2.out
    simp only [headOps, List.contains, List.elem, reduceIte, Bool.false_eq_true]
    repeat (first | go_big_quiet_step (first | (go_at_call 34; exact Calls.of_gr (iord _ _ _ _ _ h1.out h2.out)) | (exact Calls.of_gr (place_pulled _ _ _ _ _))) | quiet_step (fail))
    exact wpQuiet_nil rfl
  intro w1 hg1
  have x1_1 := hg1.keep XA.out
  have x1_2 := hg1.keep XB.out
  obtain ⟨_, _⟩ := cells2 x1_1
  have _ := fz x1_1
  have _ := ltb x1_1
  have _ := cells1 x1_2
  have _ := fz x1_2
  have _ := ltb x1_2
  have X1_1 := hid x1_1; clear x1_1
  have X1_2 := hid x1_2; clear x1_2
  have G1 := hid (hg1)
  clear hg1
  go_wp2
  go_ret
  exact ⟨rfl, G1.out⟩
set_option maxRecDepth 20000 in
set_option maxHeartbeats 400000 in
theorem there_pulled_f (e f y P Q p2 q2 : Int) (w : World) (k1 k2 : Nat) (T : TypeId) (XA : Hid (w.heap[k1]? = some (.cells #[.int .i64 e, .int .i64 f] 33))) (XB : Hid (w.heap[k2]? = some (.cells #[.int .i64 y] T))) (h1 : okB e f = true) (h2 : okB P Q = true) (hd : cmpI e f P Q = y) :
    Calls Try.prog 49 #[.iface 104 (sp P Q p2 q2), .pointer (some ⟨k1, 0, none⟩), .pointer (some ⟨k2, 0, none⟩)] w fun e w' => e = .returned (.bool false) ∧ Gr w w' := by
  have c1 : ((cmpI e f P Q : Int) == y) = true := by simpa using hd
  have c2 : ((cmpI e f P Q : Int) != y) = false := by simpa using hd
  have h1 := hid h1; have h2 := hid h2; have C1 := hid c1; have C2 := hid c2; clear hd c1 c2
  go_enter Try.func49, Try.ntmps49
  obtain ⟨_, _⟩ := cells2 XA.out
  have _ := fz XA.out
  have _ := ltb XA.out
  have _ := cells1 XB.out
  have _ := fz XB.out
  have _ := ltb XB.out
  go_wp2_with fail
  refine wp_reg0 6 (by kernel_rfl) (by kernel_rfl) ?_
  apply Exists.intro
  refine ⟨fun wb hb => ?_, ?_⟩
  · obtain ⟨_, _⟩ := hb.at2 XA.out
    have _ := hb.at1 XB.out
    have hm : ∀ (v : Value) (w : World), (method 236 104 v "loop.example/g01254/impl.place").run Try.prog w = .ok (98, v) w := fun _ _ => by kernel_rfl
    have c1 := C1.out; have c2 := C2.out
    simp only [headOps, List.contains, List.elem, reduceIte, Bool.false_eq_true]
    repeat (first | go_big_quiet_step (first | (go_at_call 34; exact Calls.of_gr (iord _ _ _ _ _ h1.out h2.out)) | (exact Calls.of_gr (place_pulled _ _ _ _ _))) | quiet_step (fail))
    exact wpQuiet_nil rfl
  intro w1 hg1
  have x1_1 := hg1.keep XA.out
  have x1_2 := hg1.keep XB.out
  obtain ⟨_, _⟩ := cells2 x1_1
  have _ := fz x1_1
  have _ := ltb x1_1
  have _ := cells1 x1_2
  have _ := fz x1_2
  have _ := ltb x1_2
  have X1_1 := hid x1_1; clear x1_1
  have X1_2 := hid x1_2; clear x1_2
  have G1 := hid (hg1)
  clear hg1
  go_wp2
  go_ret
  exact ⟨rfl, G1.out⟩
set_option maxRecDepth 20000 in
set_option maxHeartbeats 400000 in
theorem there_pushed_t (e f y P Q p2 q2 : Int) (w : World) (k1 k2 : Nat) (T : TypeId) (XA : Hid (w.heap[k1]? = some (.cells #[.int .i64 e, .int .i64 f] 33))) (XB : Hid (w.heap[k2]? = some (.cells #[.int .i64 y] T))) (h1 : okB e f = true) (h2 : okB P Q = true) (hd : cmpI e f P Q ≠ y) :
    Calls Try.prog 49 #[.iface 105 (sp p2 q2 P Q), .pointer (some ⟨k1, 0, none⟩), .pointer (some ⟨k2, 0, none⟩)] w fun e w' => e = .returned (.bool true) ∧ Gr w w' := by
  have c1 : ((cmpI e f P Q : Int) == y) = false := by simpa using hd
  have c2 : ((cmpI e f P Q : Int) != y) = true := by simpa using hd
  have h1 := hid h1; have h2 := hid h2; have C1 := hid c1; have C2 := hid c2; clear hd c1 c2
  go_enter Try.func49, Try.ntmps49
  obtain ⟨_, _⟩ := cells2 XA.out
  have _ := fz XA.out
  have _ := ltb XA.out
  have _ := cells1 XB.out
  have _ := fz XB.out
  have _ := ltb XB.out
  go_wp2_with fail
  refine wp_reg0 6 (by kernel_rfl) (by kernel_rfl) ?_
  apply Exists.intro
  refine ⟨fun wb hb => ?_, ?_⟩
  · obtain ⟨_, _⟩ := hb.at2 XA.out
    have _ := hb.at1 XB.out
    have hm : ∀ (v : Value) (w : World), (method 236 105 v "loop.example/g01254/impl.place").run Try.prog w = .ok (99, v) w := fun _ _ => by kernel_rfl
    have c1 := C1.out; have c2 := C2.out
    simp only [headOps, List.contains, List.elem, reduceIte, Bool.false_eq_true]
    repeat (first | go_big_quiet_step (first | (go_at_call 34; exact Calls.of_gr (iord _ _ _ _ _ h1.out h2.out)) | (exact Calls.of_gr (place_pushed _ _ _ _ _))) | quiet_step (fail))
    exact wpQuiet_nil rfl
  intro w1 hg1
  have x1_1 := hg1.keep XA.out
  have x1_2 := hg1.keep XB.out
  obtain ⟨_, _⟩ := cells2 x1_1
  have _ := fz x1_1
  have _ := ltb x1_1
  have _ := cells1 x1_2
  have _ := fz x1_2
  have _ := ltb x1_2
  have X1_1 := hid x1_1; clear x1_1
  have X1_2 := hid x1_2; clear x1_2
  have G1 := hid (hg1)
  clear hg1
  go_wp2
  go_ret
  exact ⟨rfl, G1.out⟩
set_option maxRecDepth 20000 in
set_option maxHeartbeats 400000 in
theorem there_pushed_f (e f y P Q p2 q2 : Int) (w : World) (k1 k2 : Nat) (T : TypeId) (XA : Hid (w.heap[k1]? = some (.cells #[.int .i64 e, .int .i64 f] 33))) (XB : Hid (w.heap[k2]? = some (.cells #[.int .i64 y] T))) (h1 : okB e f = true) (h2 : okB P Q = true) (hd : cmpI e f P Q = y) :
    Calls Try.prog 49 #[.iface 105 (sp p2 q2 P Q), .pointer (some ⟨k1, 0, none⟩), .pointer (some ⟨k2, 0, none⟩)] w fun e w' => e = .returned (.bool false) ∧ Gr w w' := by
  have c1 : ((cmpI e f P Q : Int) == y) = true := by simpa using hd
  have c2 : ((cmpI e f P Q : Int) != y) = false := by simpa using hd
  have h1 := hid h1; have h2 := hid h2; have C1 := hid c1; have C2 := hid c2; clear hd c1 c2
  go_enter Try.func49, Try.ntmps49
  obtain ⟨_, _⟩ := cells2 XA.out
  have _ := fz XA.out
  have _ := ltb XA.out
  have _ := cells1 XB.out
  have _ := fz XB.out
  have _ := ltb XB.out
  go_wp2_with fail
  refine wp_reg0 6 (by kernel_rfl) (by kernel_rfl) ?_
  apply Exists.intro
  refine ⟨fun wb hb => ?_, ?_⟩
  · obtain ⟨_, _⟩ := hb.at2 XA.out
    have _ := hb.at1 XB.out
    have hm : ∀ (v : Value) (w : World), (method 236 105 v "loop.example/g01254/impl.place").run Try.prog w = .ok (99, v) w := fun _ _ => by kernel_rfl
    have c1 := C1.out; have c2 := C2.out
    simp only [headOps, List.contains, List.elem, reduceIte, Bool.false_eq_true]
    repeat (first | go_big_quiet_step (first | (go_at_call 34; exact Calls.of_gr (iord _ _ _ _ _ h1.out h2.out)) | (exact Calls.of_gr (place_pushed _ _ _ _ _))) | quiet_step (fail))
    exact wpQuiet_nil rfl
  intro w1 hg1
  have x1_1 := hg1.keep XA.out
  have x1_2 := hg1.keep XB.out
  obtain ⟨_, _⟩ := cells2 x1_1
  have _ := fz x1_1
  have _ := ltb x1_1
  have _ := cells1 x1_2
  have _ := fz x1_2
  have _ := ltb x1_2
  have X1_1 := hid x1_1; clear x1_1
  have X1_2 := hid x1_2; clear x1_2
  have G1 := hid (hg1)
  clear hg1
  go_wp2
  go_ret
  exact ⟨rfl, G1.out⟩
/-- A turn that is told, and what the closure says of what it hands on. -/
theorem turn_there (a b n c d t p q y e f : Int) (hs : scB a b n c d = true) (t1 : -10000 ≤ t) (t2 : t ≤ 10000) (y1 : -20000 ≤ y) (y2 : y ≤ 20000) (hp : okB p q = true) (hC : stC a b n c d t y = 0) (ho : okB e f = true) (P Q : Int) (eP : atP a b n c d (t + y) p q = P) (eQ : atQ a b n c d (t + y) p q = Q) :
    ∃ v : Value, (∀ w, Calls Try.prog 42 #[sc a b n c d, spi t p q, .int .i64 y] w fun e w' => e = .returned (.tuple #[spi (t + y) P Q, v, .int .i64 0]) ∧ Gr w w') ∧
      (∀ (w : World) (k1 k2 : Nat) (T : TypeId) (_ : Hid (w.heap[k1]? = some (.cells #[.int .i64 e, .int .i64 f] 33))) (_ : Hid (w.heap[k2]? = some (.cells #[.int .i64 y] T))), cmpI e f P Q ≠ y → Calls Try.prog 49 #[v, .pointer (some ⟨k1, 0, none⟩), .pointer (some ⟨k2, 0, none⟩)] w fun e w' => e = .returned (.bool true) ∧ Gr w w') ∧
      (∀ (w : World) (k1 k2 : Nat) (T : TypeId) (_ : Hid (w.heap[k1]? = some (.cells #[.int .i64 e, .int .i64 f] 33))) (_ : Hid (w.heap[k2]? = some (.cells #[.int .i64 y] T))), cmpI e f P Q = y → Calls Try.prog 49 #[v, .pointer (some ⟨k1, 0, none⟩), .pointer (some ⟨k2, 0, none⟩)] w fun e w' => e = .returned (.bool false) ∧ Gr w w') := by
  obtain ⟨_, hi, ge⟩ := stC_ok hC
  have ok := at_ok hp ge
  rw [eP, eQ] at ok
  by_cases h1 : cmpI p q (lP a b n c d (t + y)) (lQ a b n c d (t + y)) < 0
  · obtain ⟨e1, e2⟩ := at_lo hs ge h1
    rw [e1] at eP; rw [e2] at eQ
    subst eP eQ
    exact ⟨_, fun w => iturn_lo a b n c d t p q y w t1 t2 y1 y2 hs hi hp ge (by simpa using h1), fun w k1 k2 T XA XB hd => there_pulled_t e f y _ _ _ _ w k1 k2 T XA XB ho ok hd, fun w k1 k2 T XA XB hd => there_pulled_f e f y _ _ _ _ w k1 k2 T XA XB ho ok hd⟩
  · by_cases h2 : 0 < cmpI p q (nP a b n (t + y)) (nQ a b n (t + y))
    · obtain ⟨e1, e2⟩ := at_hi h1 h2
      rw [e1] at eP; rw [e2] at eQ
      subst eP eQ
      exact ⟨_, fun w => iturn_hi a b n c d t p q y w t1 t2 y1 y2 hs hi hp ge (by simpa using h1) (by simpa using h2), fun w k1 k2 T XA XB hd => there_pushed_t e f y _ _ _ _ w k1 k2 T XA XB ho ok hd, fun w k1 k2 T XA XB hd => there_pushed_f e f y _ _ _ _ w k1 k2 T XA XB ho ok hd⟩
    · obtain ⟨e1, e2⟩ := at_mid h1 h2
      rw [e1] at eP; rw [e2] at eQ
      subst eP eQ
      exact ⟨_, fun w => iturn_mid a b n c d t p q y w t1 t2 y1 y2 hs hi hp ge (by simpa using h1) (by simpa using h2), fun w k1 k2 T XA XB hd => there_loose_t e f y _ _ w k1 k2 T XA XB ho ok hd, fun w k1 k2 T XA XB hd => there_loose_f e f y _ _ w k1 k2 T XA XB ho ok hd⟩
set_option maxRecDepth 20000 in
set_option maxHeartbeats 1000000 in
theorem iuntil (a b n c d t p q y m e f : Int) (w : World) (k1 k2 : Nat) (T : TypeId) (XA : Hid (w.heap[k1]? = some (.cells #[.int .i64 e, .int .i64 f] 33))) (XB : Hid (w.heap[k2]? = some (.cells #[.int .i64 y] T))) (hs : scB a b n c d = true)
    (hp : okB p q = true) (ho : okB e f = true) (t1 : -10000 ≤ t) (t2 : t ≤ 10000) (y1 : -20000 ≤ y) (y2 : y ≤ 20000) (m1 : 0 ≤ m) (m2 : m ≤ 10000) (r : Moves) (hr : tu a b n c d e f y m.toNat t p q 0 = r) :
    Calls Try.prog 50 #[sc a b n c d, .func (.func 49) #[] #[.pointer (some ⟨k1, 0, none⟩), .pointer (some ⟨k2, 0, none⟩)], spi t p q, .int .i64 y, .int .i64 m] w fun e w' => e = .returned (mvV r) ∧ Gr w w' := by
  have hs := hid hs; have hp := hid hp; have ho := hid ho
  have hr := hid hr
  have T1 := hid t1; have T2 := hid t2; clear t1 t2
  go_enter Try.func50, Try.ntmps50
  go_wp2_with fail
  go_loopw [18] (fun u wr => ∃ (i : Nat) (s P Q : Int), u = .int .i64 (i : Int) ∧ (i : Int) ≤ m ∧ Gr w wr ∧ wr.heap[w.heap.size]? = some (.cells #[.int .i64 a, .int .i64 b, .int .i64 n, .int .i64 c, .int .i64 d] 35) ∧ wr.heap[w.heap.size + 1]? = some (.cells #[.int .i64 s, .int .i64 P, .int .i64 Q] 42) ∧ wr.heap[w.heap.size + 1 + 1]? = some (.cells #[.int .i64 0, .int .i64 0, .int .i64 0] 42) ∧ -10000 ≤ s ∧ s ≤ 10000 ∧ okB P Q = true ∧ tu a b n c d e f y (m.toNat - i) s P Q i = r) (fun u _ => (m - intOf u).toNat)
  case atStart =>
    obtain ⟨x0, x1, x2, _, _⟩ := alloc3 (Gr.refl (((w.alloc _).alloc _).alloc _))
    exact ⟨0, t, p, q, rfl, by simpa using m1, (((Gr.refl _).al _).al _).al _, x0, x1, x2, T1.out, T2.out, hp.out, by simpa using hr.out⟩
  case round =>
    obtain ⟨i, s, P, Q, rfl, hi, g, x5, x7, x8, s1, s2, hpq, hm⟩ := hrel
    have YA := hid (g.keep XA.out); have YB := hid (g.keep XB.out)
    have GW := hid g
    have XS := hid x5; have X5 := hid x7; have X8 := hid x8; have HPQ := hid hpq
    clear g x5 x7 x8 hpq
    by_cases hlt : (i : Int) < m
    · obtain ⟨j, hf⟩ : ∃ j, m.toNat - i = j + 1 := ⟨m.toNat - i - 1, by omega⟩
      rw [hf] at hm
      unfold tu at hm
      by_cases hC : stC a b n c d s y = 0
      · rw [if_pos hC] at hm
        obtain ⟨P2, eP⟩ : ∃ P2, atP a b n c d (s + y) P Q = P2 := ⟨_, rfl⟩
        obtain ⟨Q2, eQ⟩ : ∃ Q2, atQ a b n c d (s + y) P Q = Q2 := ⟨_, rfl⟩
        obtain ⟨i12, _, hge⟩ := stC_ok hC
        obtain ⟨v, tv, dt, df⟩ := turn_there a b n c d s P Q y e f hs.out s1 s2 y1 y2 HPQ.out hC ho.out P2 Q2 eP eQ
        have ok2 := at_ok HPQ.out hge
        rw [eP, eQ] at ok2 hm
        have TV := hid tv; have DT := hid dt; have DF := hid df; have OK2 := hid ok2; have I := hid i12
        clear tv dt df ok2 i12 hge eP eQ hC
        by_cases hd : cmpI e f P2 Q2 = y
        · rw [if_pos hd] at hm
          have HM := hid hm; have HD := hid hd; have HF := hid hf
          clear hm hd hf
          obtain ⟨_, _, _, _, _⟩ := cells5 XS.out
          have _ := fz XS.out
          have _ := ltb XS.out
          obtain ⟨_, _, _⟩ := cells3 X5.out
          have _ := fz X5.out
          have _ := ltb X5.out
          obtain ⟨_, _, _⟩ := cells3 X8.out
          have _ := fz X8.out
          have _ := ltb X8.out
          obtain ⟨_, _⟩ := cells2 YA.out
          have _ := fz YA.out
          have _ := ltb YA.out
          have _ := cells1 YB.out
          have _ := fz YB.out
          have _ := ltb YB.out
          go_wp2_with fail
          refine (TV.out _).mono ?_
          rintro e w1 ⟨rfl, hg1⟩
          have x1_1 := hg1.keep XS.out
          have x1_2 := hg1.keep X5.out
          have x1_3 := hg1.keep X8.out
          have x1_4 := hg1.keep YA.out
          have x1_5 := hg1.keep YB.out
          obtain ⟨_, _, _, _, _⟩ := cells5 x1_1
          have _ := fz x1_1
          have _ := ltb x1_1
          obtain ⟨_, _, _⟩ := cells3 x1_2
          have _ := fz x1_2
          have _ := ltb x1_2
          obtain ⟨_, _, _⟩ := cells3 x1_3
          have _ := fz x1_3
          have _ := ltb x1_3
          obtain ⟨_, _⟩ := cells2 x1_4
          have _ := fz x1_4
          have _ := ltb x1_4
          have _ := cells1 x1_5
          have _ := fz x1_5
          have _ := ltb x1_5
          have X1_1 := hid x1_1; clear x1_1
          have X1_2 := hid x1_2; clear x1_2
          have X1_3 := hid x1_3; clear x1_3
          have X1_4 := hid x1_4; clear x1_4
          have X1_5 := hid x1_5; clear x1_5
          have G1 := hid (GW.out.trans hg1)
          clear hg1
          go_wp2_with fail
          refine (DF.out _ _ _ _ (hid (((Gr.refl _).al _).keep X1_4.out)) (hid (((Gr.refl _).al _).keep X1_5.out)) HD.out).mono ?_
          rintro e w2 ⟨rfl, hg2⟩
          obtain ⟨x2_0, hz2, g2⟩ := alloc1 hg2
          have x2_1 := g2.keep X1_1.out
          have x2_2 := g2.keep X1_2.out
          have x2_3 := g2.keep X1_3.out
          have x2_4 := g2.keep X1_4.out
          have x2_5 := g2.keep X1_5.out
          obtain ⟨_, _, _, _, _⟩ := cells5 x2_1
          have _ := fz x2_1
          have _ := ltb x2_1
          obtain ⟨_, _, _⟩ := cells3 x2_2
          have _ := fz x2_2
          have _ := ltb x2_2
          obtain ⟨_, _, _⟩ := cells3 x2_3
          have _ := fz x2_3
          have _ := ltb x2_3
          obtain ⟨_, _⟩ := cells2 x2_4
          have _ := fz x2_4
          have _ := ltb x2_4
          have _ := cells1 x2_5
          have _ := fz x2_5
          have _ := ltb x2_5
          obtain ⟨_, _, _⟩ := cells3 x2_0
          have _ := fz x2_0
          have _ := ltb x2_0
          have X2_1 := hid x2_1; clear x2_1
          have X2_2 := hid x2_2; clear x2_2
          have X2_3 := hid x2_3; clear x2_3
          have X2_4 := hid x2_4; clear x2_4
          have X2_5 := hid x2_5; clear x2_5
          have X2_0 := hid x2_0; clear x2_0
          have G2 := hid (G1.out.trans g2)
          clear hg2 g2
          go_wp2_with fail
          refine ⟨⟨i + 1, s + y, P2, Q2, by simp, by omega, ((G2.out.setCell (by simp) _).setCell (by simp) _).setCell (by simp) _, set3_old X2_1.out (by omega), set3_new X2_2.out, set3_old X2_3.out (by omega), I.out.1, I.out.2, OK2.out, ?_⟩, by simp [intOf]; omega⟩
          rw [show m.toNat - (i + 1) = j by have := HF.out; omega]
          exact HM.out
        · rw [if_neg hd] at hm
          have HM := hid hm; have HD := hid hd
          clear hm hd hf
          obtain ⟨_, _, _, _, _⟩ := cells5 XS.out
          have _ := fz XS.out
          have _ := ltb XS.out
          obtain ⟨_, _, _⟩ := cells3 X5.out
          have _ := fz X5.out
          have _ := ltb X5.out
          obtain ⟨_, _, _⟩ := cells3 X8.out
          have _ := fz X8.out
          have _ := ltb X8.out
          obtain ⟨_, _⟩ := cells2 YA.out
          have _ := fz YA.out
          have _ := ltb YA.out
          have _ := cells1 YB.out
          have _ := fz YB.out
          have _ := ltb YB.out
          go_wp2_with fail
          refine (TV.out _).mono ?_
          rintro e w1 ⟨rfl, hg1⟩
          have x1_1 := hg1.keep XS.out
          have x1_2 := hg1.keep X5.out
          have x1_3 := hg1.keep X8.out
          have x1_4 := hg1.keep YA.out
          have x1_5 := hg1.keep YB.out
          obtain ⟨_, _, _, _, _⟩ := cells5 x1_1
          have _ := fz x1_1
          have _ := ltb x1_1
          obtain ⟨_, _, _⟩ := cells3 x1_2
          have _ := fz x1_2
          have _ := ltb x1_2
          obtain ⟨_, _, _⟩ := cells3 x1_3
          have _ := fz x1_3
          have _ := ltb x1_3
          obtain ⟨_, _⟩ := cells2 x1_4
          have _ := fz x1_4
          have _ := ltb x1_4
          have _ := cells1 x1_5
          have _ := fz x1_5
          have _ := ltb x1_5
          have X1_1 := hid x1_1; clear x1_1
          have X1_2 := hid x1_2; clear x1_2
          have X1_3 := hid x1_3; clear x1_3
          have X1_4 := hid x1_4; clear x1_4
          have X1_5 := hid x1_5; clear x1_5
          have G1 := hid (GW.out.trans hg1)
          clear hg1
          go_wp2_with fail
          refine (DT.out _ _ _ _ (hid (((Gr.refl _).al _).keep X1_4.out)) (hid (((Gr.refl _).al _).keep X1_5.out)) HD.out).mono ?_
          rintro e w2 ⟨rfl, hg2⟩
          obtain ⟨x2_0, hz2, g2⟩ := alloc1 hg2
          have x2_1 := g2.keep X1_1.out
          have x2_2 := g2.keep X1_2.out
          have x2_3 := g2.keep X1_3.out
          have x2_4 := g2.keep X1_4.out
          have x2_5 := g2.keep X1_5.out
          obtain ⟨_, _, _, _, _⟩ := cells5 x2_1
          have _ := fz x2_1
          have _ := ltb x2_1
          obtain ⟨_, _, _⟩ := cells3 x2_2
          have _ := fz x2_2
          have _ := ltb x2_2
          obtain ⟨_, _, _⟩ := cells3 x2_3
          have _ := fz x2_3
          have _ := ltb x2_3
          obtain ⟨_, _⟩ := cells2 x2_4
          have _ := fz x2_4
          have _ := ltb x2_4
          have _ := cells1 x2_5
          have _ := fz x2_5
          have _ := ltb x2_5
          obtain ⟨_, _, _⟩ := cells3 x2_0
          have _ := fz x2_0
          have _ := ltb x2_0
          have X2_1 := hid x2_1; clear x2_1
          have X2_2 := hid x2_2; clear x2_2
          have X2_3 := hid x2_3; clear x2_3
          have X2_4 := hid x2_4; clear x2_4
          have X2_5 := hid x2_5; clear x2_5
          have X2_0 := hid x2_0; clear x2_0
          have G2 := hid (G1.out.trans g2)
          clear hg2 g2
          go_wp2
          refine bodyPost_ret (v := .tuple #[spi (s + y) P2 Q2, .int .i64 ((i : Int) + 1), .int .i64 0]) (by simp [results, Try.results50, go_sem, *]) rfl ⟨(by rw [← HM.out]; rfl), ?_⟩
          exact (((G2.out).setCell (by simp <;> omega) _).setCell (by simp <;> omega) _).setCell (by simp <;> omega) _
      · rw [if_neg hC] at hm
        clear hf
        obtain ⟨C, eC⟩ : ∃ C, stC a b n c d s y = C := ⟨_, rfl⟩
        rw [eC] at hC hm
        have EC := hid eC; clear eC
        have HC := hid hC
        have HM := hid hm; clear hm
        have c1 : ((C : Int) == 0) = false := by simpa using hC
        have c2 : ((C : Int) != 0) = true := by simpa using hC
        clear hC
        obtain ⟨_, _, _, _, _⟩ := cells5 XS.out
        have _ := fz XS.out
        have _ := ltb XS.out
        obtain ⟨_, _, _⟩ := cells3 X5.out
        have _ := fz X5.out
        have _ := ltb X5.out
        obtain ⟨_, _, _⟩ := cells3 X8.out
        have _ := fz X8.out
        have _ := ltb X8.out
        go_wp2_with fail
        refine (iturn_no _ _ _ _ _ _ _ _ _ _ hs.out s1 s2 y1 y2 _ EC.out HC.out).mono ?_
        rintro e w1 ⟨rfl, hg1⟩
        have x1_1 := hg1.keep XS.out
        have x1_2 := hg1.keep X5.out
        have x1_3 := hg1.keep X8.out
        obtain ⟨_, _, _, _, _⟩ := cells5 x1_1
        have _ := fz x1_1
        have _ := ltb x1_1
        obtain ⟨_, _, _⟩ := cells3 x1_2
        have _ := fz x1_2
        have _ := ltb x1_2
        obtain ⟨_, _, _⟩ := cells3 x1_3
        have _ := fz x1_3
        have _ := ltb x1_3
        have X1_1 := hid x1_1; clear x1_1
        have X1_2 := hid x1_2; clear x1_2
        have X1_3 := hid x1_3; clear x1_3
        have G1 := hid (GW.out.trans hg1)
        clear hg1
        go_wp2
        refine bodyPost_ret (v := .tuple #[spi 0 0 0, .int .i64 0, .int .i64 C]) (by simp [results, Try.results50, go_sem, *]) rfl ⟨(by rw [← HM.out]; rfl), ?_⟩
        exact ((((G1.out).setCell (by simp <;> omega) _).setCell (by simp <;> omega) _).setCell (by simp <;> omega) _).al _
    · have e0 : m.toNat - i = 0 := by omega
      rw [e0] at hm
      unfold tu at hm
      clear e0
      have HM := hid hm; clear hm
      obtain ⟨_, _, _, _, _⟩ := cells5 XS.out
      have _ := fz XS.out
      have _ := ltb XS.out
      obtain ⟨_, _, _⟩ := cells3 X5.out
      have _ := fz X5.out
      have _ := ltb X5.out
      obtain ⟨_, _, _⟩ := cells3 X8.out
      have _ := fz X8.out
      have _ := ltb X8.out
      go_wp2
      refine bodyPost_ret (v := .tuple #[spi 0 0 0, .int .i64 0, .int .i64 7]) (by simp [results, Try.results50, go_sem, *]) rfl ⟨(by rw [← HM.out]; rfl), ?_⟩
      exact (((GW.out).setCell (by simp <;> omega) _).setCell (by simp <;> omega) _).setCell (by simp <;> omega) _
end Go.Proofs.Ytjcebojmfoppaaa
