/- WALKS: where a line of a vernier is, of the program and of the reference. -/
import Derived.Test.YtnbdafecgccojaaSkh
namespace Go.Proofs.Ytnbdafecgccojaa
open Go.RowKit Go.Sort

def lnP (a b n t x y : Int) : Int := redP (x * nQ a b n t + nP a b n t * y) (y * nQ a b n t)
def lnQ (a b n t x y : Int) : Int := redQ (x * nQ a b n t + nP a b n t * y) (y * nQ a b n t)
/-- Can the place of a line be told, its step being told? -/
def ln3 (a b n t x y : Int) : Bool := okB (lnP a b n t x y) (lnQ a b n t x y)
def lnB (a b n t x y : Int) : Bool := n1B a b t && (nB a b n t && ln3 a b n t x y)
/-- The steps of the line i. -/
def stp (n : Int) (r : Bool) (i : Int) : Int := if r then i * (n + 1) else i * (n - 1)
theorem plusl_t (a b n t x y : Int) (w : World) (h2 : okB x y = true) (g2 : nB a b n t = true) (g3 : ln3 a b n t x y = true) :
    Calls Try.prog 129 #[fr x y, fr (nP a b n t) (nQ a b n t)] w fun e w' => e = .returned (fr (lnP a b n t x y) (lnQ a b n t x y)) ∧ Gr w w' := plus_yes x y _ _ w h2 g2 g3
theorem saddl_t (a b n t x y : Int) (w : World) (h2 : okB x y = true) (g2 : nB a b n t = true) (g3 : ln3 a b n t x y = true) :
    Calls Try.prog 82 #[fr x y, fr (nP a b n t) (nQ a b n t)] w fun e w' => e = .returned (.tuple #[fr (lnP a b n t x y) (lnQ a b n t x y), .int .i64 0]) ∧ Gr w w' := sadd_t x y _ _ w h2 g2 g3
theorem saddl_f (a b n t x y : Int) (w : World) (h2 : okB x y = true) (g2 : nB a b n t = true) (g3 : ln3 a b n t x y = false) :
    Calls Try.prog 82 #[fr x y, fr (nP a b n t) (nQ a b n t)] w fun e w' => e = .returned (.tuple #[fr 0 0, .int .i64 3]) ∧ Gr w w' := sadd_f x y _ _ w h2 g2 g3

/-- What is told of a fraction that is calculated: by the program .. -/
def ResI (B : Bool) (P Q : Int) (w : World) (e : Ending) (w' : World) : Prop := (B = true → e = .returned (fr P Q)) ∧ (B = false → ∃ x y, e = .panicked [{ v := .iface 212 (fr x y), recovered := false }]) ∧ Gr w w'
/-- .. and by the reference. -/
def ResS (B : Bool) (P Q : Int) (w : World) (e : Ending) (w' : World) : Prop := e = .returned (.tuple #[fr (if B then P else 0) (if B then Q else 0), .int .i64 (if B then 0 else 3)]) ∧ Gr w w'
theorem stp_bd {n i : Int} {r : Bool} (n1 : 2 ≤ n) (n2 : n ≤ 40) (i1 : 0 ≤ i) (i2 : i ≤ n) : -2000 ≤ stp n r i ∧ stp n r i ≤ 2000 := by
  unfold stp
  have h0 : 0 ≤ i * (n - 1) := Int.mul_nonneg i1 (by omega)
  have h1 : 0 ≤ i * (n + 1) := Int.mul_nonneg i1 (by omega)
  have h2 : i * (n - 1) ≤ 40 * (n - 1) := Int.mul_le_mul_of_nonneg_right (by omega) (by omega)
  have h3 : i * (n + 1) ≤ 40 * (n + 1) := Int.mul_le_mul_of_nonneg_right (by omega) (by omega)
  split <;> omega
end Go.Proofs.Ytnbdafecgccojaa
namespace Go.Proofs.Ytnbdafecgccojaa
open Go.RowKit Go.Sort

/-- Are a scale, a vernier and a place valid? -/
def askB (a b : Int) (xs : List (Int × Int)) (n x y : Int) : Bool := sclB a b xs && (inB n 2 40 && okB x y)
theorem vernT (n : Int) (r : Bool) (w : World) (k : Nat) (X1 : Hid (w.heap[k]? = some (.cells #[.int .i64 n, .bool r] 39))) (h : inB n 2 40 = true) : Calls Try.prog 143 #[.pointer (some ⟨k, 0, none⟩)] w fun e w' => e = .returned (.bool true) ∧ Gr w w' :=
  (sVernAt n r w k X1).mono fun _ _ ⟨he, hg⟩ => ⟨by rw [he, h], hg⟩
theorem vernF (n : Int) (r : Bool) (w : World) (k : Nat) (X1 : Hid (w.heap[k]? = some (.cells #[.int .i64 n, .bool r] 39))) (h : inB n 2 40 = false) : Calls Try.prog 143 #[.pointer (some ⟨k, 0, none⟩)] w fun e w' => e = .returned (.bool false) ∧ Gr w w' :=
  (sVernAt n r w k X1).mono fun _ _ ⟨he, hg⟩ => ⟨by rw [he, h], hg⟩
theorem iVernT (n : Int) (r : Bool) (w : World) (h : inB n 2 40 = true) : Calls Try.prog 73 #[vn n r] w fun e w' => e = .returned (.bool true) ∧ Gr w w' :=
  (iValidVernier n r w).mono fun _ _ ⟨he, hg⟩ => ⟨by rw [he, h], hg⟩
theorem iVernF (n : Int) (r : Bool) (w : World) (h : inB n 2 40 = false) : Calls Try.prog 73 #[vn n r] w fun e w' => e = .returned (.bool false) ∧ Gr w w' :=
  (iValidVernier n r w).mono fun _ _ ⟨he, hg⟩ => ⟨by rw [he, h], hg⟩

set_option maxRecDepth 20000 in
set_option maxHeartbeats 400000 in
theorem sask_f0 (a b n x y : Int) (r : Bool) (A : Option Addr) (c : Nat) (xs : List (Int × Int)) (w : World) (j j2 : Nat) (X1 : Hid (w.heap[j]? = some (.cells #[.int .i64 a, .int .i64 b, .slice A xs.length c] 37))) (X2 : Hid (w.heap[j2]? = some (.cells #[.int .i64 n, .bool r] 39))) (X : Hid (RdF w A xs)) (hn : xs.length ≤ 1048576) (h : sclB a b xs = false) :
    Calls Try.prog 69 #[.pointer (some ⟨j, 0, none⟩), .pointer (some ⟨j2, 0, none⟩), fr x y] w fun e w' => e = .returned (.int .i64 1) ∧ Gr w w' := by
  have h := hid h
  go_enter Try.func69, Try.ntmps69
  obtain ⟨_, _, _⟩ := cells3 X1.out
  have _ := fz X1.out
  have _ := ltb X1.out
  obtain ⟨_, _⟩ := cells2 X2.out
  have _ := fz X2.out
  have _ := ltb X2.out
  go_wp2_with fail
  refine (sScF a b A c j xs _ (hid (((Gr.refl _).al _).keep X1.out)) (hid (X.out.keep ((Gr.refl w).al _))) hn h.out).mono ?_
  rintro e w1 ⟨rfl, hg1⟩
  obtain ⟨x1_0, hz1, g1⟩ := alloc1 hg1
  have x1_1 := g1.keep X1.out
  have x1_2 := g1.keep X2.out
  obtain ⟨_, _⟩ := cells2 x1_0
  have _ := fz x1_0
  have _ := ltb x1_0
  obtain ⟨_, _, _⟩ := cells3 x1_1
  have _ := fz x1_1
  have _ := ltb x1_1
  obtain ⟨_, _⟩ := cells2 x1_2
  have _ := fz x1_2
  have _ := ltb x1_2
  have X1_0 := hid x1_0; clear x1_0
  have X1_1 := hid x1_1; clear x1_1
  have X1_2 := hid x1_2; clear x1_2
  have G1 := hid (g1)
  clear hg1 g1
  go_wp2
  go_ret
  exact ⟨rfl, G1.out⟩
set_option maxRecDepth 20000 in
set_option maxHeartbeats 400000 in
theorem sask_f1 (a b n x y : Int) (r : Bool) (A : Option Addr) (c : Nat) (xs : List (Int × Int)) (w : World) (j j2 : Nat) (X1 : Hid (w.heap[j]? = some (.cells #[.int .i64 a, .int .i64 b, .slice A xs.length c] 37))) (X2 : Hid (w.heap[j2]? = some (.cells #[.int .i64 n, .bool r] 39))) (X : Hid (RdF w A xs)) (hn : xs.length ≤ 1048576) (h : sclB a b xs = true) (hv : inB n 2 40 = false) :
    Calls Try.prog 69 #[.pointer (some ⟨j, 0, none⟩), .pointer (some ⟨j2, 0, none⟩), fr x y] w fun e w' => e = .returned (.int .i64 1) ∧ Gr w w' := by
  have h := hid h
  have hv := hid hv
  go_enter Try.func69, Try.ntmps69
  obtain ⟨_, _, _⟩ := cells3 X1.out
  have _ := fz X1.out
  have _ := ltb X1.out
  obtain ⟨_, _⟩ := cells2 X2.out
  have _ := fz X2.out
  have _ := ltb X2.out
  go_wp2_with fail
  refine (sScT a b A c j xs _ (hid (((Gr.refl _).al _).keep X1.out)) (hid (X.out.keep ((Gr.refl w).al _))) hn h.out).mono ?_
  rintro e w1 ⟨rfl, hg1⟩
  obtain ⟨x1_0, hz1, g1⟩ := alloc1 hg1
  have x1_1 := g1.keep X1.out
  have x1_2 := g1.keep X2.out
  obtain ⟨_, _⟩ := cells2 x1_0
  have _ := fz x1_0
  have _ := ltb x1_0
  obtain ⟨_, _, _⟩ := cells3 x1_1
  have _ := fz x1_1
  have _ := ltb x1_1
  obtain ⟨_, _⟩ := cells2 x1_2
  have _ := fz x1_2
  have _ := ltb x1_2
  have X1_0 := hid x1_0; clear x1_0
  have X1_1 := hid x1_1; clear x1_1
  have X1_2 := hid x1_2; clear x1_2
  have G1 := hid (g1)
  clear hg1 g1
  go_wp2_with fail
  refine (vernF n r _ j2 (hid X1_2.out) hv.out).mono ?_
  rintro e w2 ⟨rfl, hg2⟩
  have x2_1 := hg2.keep X1_0.out
  have x2_2 := hg2.keep X1_1.out
  have x2_3 := hg2.keep X1_2.out
  obtain ⟨_, _⟩ := cells2 x2_1
  have _ := fz x2_1
  have _ := ltb x2_1
  obtain ⟨_, _, _⟩ := cells3 x2_2
  have _ := fz x2_2
  have _ := ltb x2_2
  obtain ⟨_, _⟩ := cells2 x2_3
  have _ := fz x2_3
  have _ := ltb x2_3
  have X2_1 := hid x2_1; clear x2_1
  have X2_2 := hid x2_2; clear x2_2
  have X2_3 := hid x2_3; clear x2_3
  have G2 := hid (G1.out.trans hg2)
  clear hg2
  go_wp2
  go_ret
  exact ⟨rfl, G2.out⟩
set_option maxRecDepth 20000 in
set_option maxHeartbeats 400000 in
theorem sask_f2 (a b n x y : Int) (r : Bool) (A : Option Addr) (c : Nat) (xs : List (Int × Int)) (w : World) (j j2 : Nat) (X1 : Hid (w.heap[j]? = some (.cells #[.int .i64 a, .int .i64 b, .slice A xs.length c] 37))) (X2 : Hid (w.heap[j2]? = some (.cells #[.int .i64 n, .bool r] 39))) (X : Hid (RdF w A xs)) (hn : xs.length ≤ 1048576) (h : sclB a b xs = true) (hv : inB n 2 40 = true) (hx : okB x y = false) :
    Calls Try.prog 69 #[.pointer (some ⟨j, 0, none⟩), .pointer (some ⟨j2, 0, none⟩), fr x y] w fun e w' => e = .returned (.int .i64 1) ∧ Gr w w' := by
  have h := hid h
  have hv := hid hv
  have hx := hid hx
  go_enter Try.func69, Try.ntmps69
  obtain ⟨_, _, _⟩ := cells3 X1.out
  have _ := fz X1.out
  have _ := ltb X1.out
  obtain ⟨_, _⟩ := cells2 X2.out
  have _ := fz X2.out
  have _ := ltb X2.out
  go_wp2_with fail
  refine (sScT a b A c j xs _ (hid (((Gr.refl _).al _).keep X1.out)) (hid (X.out.keep ((Gr.refl w).al _))) hn h.out).mono ?_
  rintro e w1 ⟨rfl, hg1⟩
  obtain ⟨x1_0, hz1, g1⟩ := alloc1 hg1
  have x1_1 := g1.keep X1.out
  have x1_2 := g1.keep X2.out
  obtain ⟨_, _⟩ := cells2 x1_0
  have _ := fz x1_0
  have _ := ltb x1_0
  obtain ⟨_, _, _⟩ := cells3 x1_1
  have _ := fz x1_1
  have _ := ltb x1_1
  obtain ⟨_, _⟩ := cells2 x1_2
  have _ := fz x1_2
  have _ := ltb x1_2
  have X1_0 := hid x1_0; clear x1_0
  have X1_1 := hid x1_1; clear x1_1
  have X1_2 := hid x1_2; clear x1_2
  have G1 := hid (g1)
  clear hg1 g1
  go_wp2_with fail
  refine (vernT n r _ j2 (hid X1_2.out) hv.out).mono ?_
  rintro e w2 ⟨rfl, hg2⟩
  have x2_1 := hg2.keep X1_0.out
  have x2_2 := hg2.keep X1_1.out
  have x2_3 := hg2.keep X1_2.out
  obtain ⟨_, _⟩ := cells2 x2_1
  have _ := fz x2_1
  have _ := ltb x2_1
  obtain ⟨_, _, _⟩ := cells3 x2_2
  have _ := fz x2_2
  have _ := ltb x2_2
  obtain ⟨_, _⟩ := cells2 x2_3
  have _ := fz x2_3
  have _ := ltb x2_3
  have X2_1 := hid x2_1; clear x2_1
  have X2_2 := hid x2_2; clear x2_2
  have X2_3 := hid x2_3; clear x2_3
  have G2 := hid (G1.out.trans hg2)
  clear hg2
  go_wp2_with fail
  refine (sok_f _ _ _ hx.out).mono ?_
  rintro e w3 ⟨rfl, hg3⟩
  have x3_1 := hg3.keep X2_1.out
  have x3_2 := hg3.keep X2_2.out
  have x3_3 := hg3.keep X2_3.out
  obtain ⟨_, _⟩ := cells2 x3_1
  have _ := fz x3_1
  have _ := ltb x3_1
  obtain ⟨_, _, _⟩ := cells3 x3_2
  have _ := fz x3_2
  have _ := ltb x3_2
  obtain ⟨_, _⟩ := cells2 x3_3
  have _ := fz x3_3
  have _ := ltb x3_3
  have X3_1 := hid x3_1; clear x3_1
  have X3_2 := hid x3_2; clear x3_2
  have X3_3 := hid x3_3; clear x3_3
  have G3 := hid (G2.out.trans hg3)
  clear hg3
  go_wp2
  go_ret
  exact ⟨rfl, G3.out⟩
set_option maxRecDepth 20000 in
set_option maxHeartbeats 400000 in
theorem sask_t (a b n x y : Int) (r : Bool) (A : Option Addr) (c : Nat) (xs : List (Int × Int)) (w : World) (j j2 : Nat) (X1 : Hid (w.heap[j]? = some (.cells #[.int .i64 a, .int .i64 b, .slice A xs.length c] 37))) (X2 : Hid (w.heap[j2]? = some (.cells #[.int .i64 n, .bool r] 39))) (X : Hid (RdF w A xs)) (hn : xs.length ≤ 1048576) (h : sclB a b xs = true) (hv : inB n 2 40 = true) (hx : okB x y = true) :
    Calls Try.prog 69 #[.pointer (some ⟨j, 0, none⟩), .pointer (some ⟨j2, 0, none⟩), fr x y] w fun e w' => e = .returned (.int .i64 0) ∧ Gr w w' := by
  have h := hid h
  have hv := hid hv
  have hx := hid hx
  go_enter Try.func69, Try.ntmps69
  obtain ⟨_, _, _⟩ := cells3 X1.out
  have _ := fz X1.out
  have _ := ltb X1.out
  obtain ⟨_, _⟩ := cells2 X2.out
  have _ := fz X2.out
  have _ := ltb X2.out
  go_wp2_with fail
  refine (sScT a b A c j xs _ (hid (((Gr.refl _).al _).keep X1.out)) (hid (X.out.keep ((Gr.refl w).al _))) hn h.out).mono ?_
  rintro e w1 ⟨rfl, hg1⟩
  obtain ⟨x1_0, hz1, g1⟩ := alloc1 hg1
  have x1_1 := g1.keep X1.out
  have x1_2 := g1.keep X2.out
  obtain ⟨_, _⟩ := cells2 x1_0
  have _ := fz x1_0
  have _ := ltb x1_0
  obtain ⟨_, _, _⟩ := cells3 x1_1
  have _ := fz x1_1
  have _ := ltb x1_1
  obtain ⟨_, _⟩ := cells2 x1_2
  have _ := fz x1_2
  have _ := ltb x1_2
  have X1_0 := hid x1_0; clear x1_0
  have X1_1 := hid x1_1; clear x1_1
  have X1_2 := hid x1_2; clear x1_2
  have G1 := hid (g1)
  clear hg1 g1
  go_wp2_with fail
  refine (vernT n r _ j2 (hid X1_2.out) hv.out).mono ?_
  rintro e w2 ⟨rfl, hg2⟩
  have x2_1 := hg2.keep X1_0.out
  have x2_2 := hg2.keep X1_1.out
  have x2_3 := hg2.keep X1_2.out
  obtain ⟨_, _⟩ := cells2 x2_1
  have _ := fz x2_1
  have _ := ltb x2_1
  obtain ⟨_, _, _⟩ := cells3 x2_2
  have _ := fz x2_2
  have _ := ltb x2_2
  obtain ⟨_, _⟩ := cells2 x2_3
  have _ := fz x2_3
  have _ := ltb x2_3
  have X2_1 := hid x2_1; clear x2_1
  have X2_2 := hid x2_2; clear x2_2
  have X2_3 := hid x2_3; clear x2_3
  have G2 := hid (G1.out.trans hg2)
  clear hg2
  go_wp2_with fail
  refine (sok_t _ _ _ hx.out).mono ?_
  rintro e w3 ⟨rfl, hg3⟩
  have x3_1 := hg3.keep X2_1.out
  have x3_2 := hg3.keep X2_2.out
  have x3_3 := hg3.keep X2_3.out
  obtain ⟨_, _⟩ := cells2 x3_1
  have _ := fz x3_1
  have _ := ltb x3_1
  obtain ⟨_, _, _⟩ := cells3 x3_2
  have _ := fz x3_2
  have _ := ltb x3_2
  obtain ⟨_, _⟩ := cells2 x3_3
  have _ := fz x3_3
  have _ := ltb x3_3
  have X3_1 := hid x3_1; clear x3_1
  have X3_2 := hid x3_2; clear x3_2
  have X3_3 := hid x3_3; clear x3_3
  have G3 := hid (G2.out.trans hg3)
  clear hg3
  go_wp2
  go_ret
  exact ⟨rfl, G3.out⟩
theorem sask (a b n x y : Int) (r : Bool) (A : Option Addr) (c : Nat) (xs : List (Int × Int)) (w : World) (j j2 : Nat) (X1 : Hid (w.heap[j]? = some (.cells #[.int .i64 a, .int .i64 b, .slice A xs.length c] 37))) (X2 : Hid (w.heap[j2]? = some (.cells #[.int .i64 n, .bool r] 39))) (X : Hid (RdF w A xs)) (hn : xs.length ≤ 1048576) :
    Calls Try.prog 69 #[.pointer (some ⟨j, 0, none⟩), .pointer (some ⟨j2, 0, none⟩), fr x y] w fun e w' => e = .returned (.int .i64 (if askB a b xs n x y then 0 else 1)) ∧ Gr w w' := by
  unfold askB
  cases h : sclB a b xs with
  | false => exact sask_f0 a b n x y r A c xs w j j2 X1 X2 X hn h
  | true =>
    cases hv : inB n 2 40 with
    | false => exact sask_f1 a b n x y r A c xs w j j2 X1 X2 X hn h hv
    | true =>
      cases hx : okB x y with
      | false => exact sask_f2 a b n x y r A c xs w j j2 X1 X2 X hn h hv hx
      | true => exact sask_t a b n x y r A c xs w j j2 X1 X2 X hn h hv hx
theorem ask_of {a b : Int} {xs : List (Int × Int)} {n x y : Int} (h : askB a b xs n x y = true) : sclB a b xs = true ∧ inB n 2 40 = true ∧ okB x y = true := by
  unfold askB at h
  simpa using h
theorem saskT (a b n x y : Int) (r : Bool) (A : Option Addr) (c : Nat) (xs : List (Int × Int)) (w : World) (j j2 : Nat) (X1 : Hid (w.heap[j]? = some (.cells #[.int .i64 a, .int .i64 b, .slice A xs.length c] 37))) (X2 : Hid (w.heap[j2]? = some (.cells #[.int .i64 n, .bool r] 39))) (X : Hid (RdF w A xs)) (hn : xs.length ≤ 1048576) (h : askB a b xs n x y = true) :
    Calls Try.prog 69 #[.pointer (some ⟨j, 0, none⟩), .pointer (some ⟨j2, 0, none⟩), fr x y] w fun e w' => e = .returned (.int .i64 0) ∧ Gr w w' :=
  (sask a b n x y r A c xs w j j2 X1 X2 X hn).mono fun _ _ ⟨he, hg⟩ => ⟨by rw [he, h]; rfl, hg⟩
theorem saskF (a b n x y : Int) (r : Bool) (A : Option Addr) (c : Nat) (xs : List (Int × Int)) (w : World) (j j2 : Nat) (X1 : Hid (w.heap[j]? = some (.cells #[.int .i64 a, .int .i64 b, .slice A xs.length c] 37))) (X2 : Hid (w.heap[j2]? = some (.cells #[.int .i64 n, .bool r] 39))) (X : Hid (RdF w A xs)) (hn : xs.length ≤ 1048576) (h : askB a b xs n x y = false) :
    Calls Try.prog 69 #[.pointer (some ⟨j, 0, none⟩), .pointer (some ⟨j2, 0, none⟩), fr x y] w fun e w' => e = .returned (.int .i64 1) ∧ Gr w w' :=
  (sask a b n x y r A c xs w j j2 X1 X2 X hn).mono fun _ _ ⟨he, hg⟩ => ⟨by rw [he, h]; rfl, hg⟩

theorem told_R (f : Nat) (cap : Array Value) (B : Bool) (P Q : Int) (w : World) (hen : ∀ w, (callFunc f cap).run Try.prog w = .ok (.enter f cap) w) (hF : ∀ w', Gr w w' → Calls Try.prog f cap w' (ResI B P Q w')) :
    Calls Try.prog 75 #[.func (.func f) #[] cap] w (ResS B P Q w) := by
  unfold ResS
  cases B with
  | true => exact told_ok_F f cap P Q w hen fun w' hg => (hF w' hg).mono fun e w'' h => ⟨h.1 rfl, h.2.2⟩
  | false => exact told_great_F f cap w hen fun w' hg => (hF w' hg).mono fun e w'' h => ⟨h.2.1 rfl, h.2.2⟩
end Go.Proofs.Ytnbdafecgccojaa
