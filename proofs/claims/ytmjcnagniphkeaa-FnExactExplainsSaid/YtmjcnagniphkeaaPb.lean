/- WALKS: what is calculated of readings that are checked; UnitSeen, of the program and of the reference. -/
import Derived.Test.YtmjcnagniphkeaaPa
import Derived.Test.YtmjcnagniphkeaaC1
import Derived.Test.YtmjcnagniphkeaaA
namespace Go.Proofs.Ytmjcnagniphkeaa
open Go.RowKit Go.Sort

theorem iRd_t (A : Option Addr) (c : Nat) (xs : List Int) (w : World) (X : Hid (RdI w A xs)) (h : rdB xs = true) :
    Calls Try.prog 124 #[.slice A xs.length c] w fun e w' => e = .returned (.bool true) ∧ Gr w w' :=
  (iReadings A c xs w X).mono fun e w' ⟨he, hw⟩ => ⟨by rw [he, h], hw ▸ Gr.refl _⟩
theorem iRd_f (A : Option Addr) (c : Nat) (xs : List Int) (w : World) (X : Hid (RdI w A xs)) (h : rdB xs = false) :
    Calls Try.prog 124 #[.slice A xs.length c] w fun e w' => e = .returned (.bool false) ∧ Gr w w' :=
  (iReadings A c xs w X).mono fun e w' ⟨he, hw⟩ => ⟨by rw [he, h], hw ▸ Gr.refl _⟩
set_option maxRecDepth 20000 in
set_option maxHeartbeats 400000 in
theorem cR_I (F : Nat) (A : Option Addr) (n c : Nat) (R : Int) (w : World) (k1 k2 : Nat) (T1 T2 : TypeId) (X1 : Hid (w.heap[k1]? = some (.cells #[.func (.func F) #[] #[]] T1))) (X2 : Hid (w.heap[k2]? = some (.cells #[.slice A n c] T2)))
    (hen : ∀ w, (callFunc F #[.slice A n c]).run Try.prog w = .ok (.enter F #[.slice A n c]) w) (hf : ∀ w', Gr w w' → Calls Try.prog F #[.slice A n c] w' fun e w'' => e = .returned (.int .i64 R) ∧ Gr w' w'') :
    Calls Try.prog 176 #[.pointer (some ⟨k1, 0, none⟩), .pointer (some ⟨k2, 0, none⟩)] w fun e w' => e = .returned (.int .i64 R) ∧ Gr w w' := by
  have HF := hid hf; clear hf
  go_enter Try.func176, Try.ntmps176
  have _ := cells1 X1.out
  have _ := fz X1.out
  have _ := ltb X1.out
  have _ := cells1 X2.out
  have _ := fz X2.out
  have _ := ltb X2.out
  go_wp2_with fail
  refine (HF.out _ (Gr.refl _)).mono ?_
  rintro e w1 ⟨rfl, hg1⟩
  have x1_1 := hg1.keep X1.out
  have x1_2 := hg1.keep X2.out
  have _ := cells1 x1_1
  have _ := fz x1_1
  have _ := ltb x1_1
  have _ := cells1 x1_2
  have _ := fz x1_2
  have _ := ltb x1_2
  have X1_1 := hid x1_1; clear x1_1
  have X1_2 := hid x1_2; clear x1_2
  have G1 := hid (hg1)
  clear hg1
  go_wp2
  go_ret
  exact ⟨rfl, G1.out⟩
set_option maxRecDepth 20000 in
set_option maxHeartbeats 400000 in
theorem ofR_I_no (F : Nat) (A : Option Addr) (c : Nat) (xs : List Int) (w : World) (X : Hid (RdI w A xs)) (h : rdB xs = false) :
    Calls Try.prog 114 #[.slice A xs.length c, .func (.func F) #[] #[]] w fun e w' => e = .returned (.tuple #[.int .i64 0, .int .i64 2]) ∧ Gr w w' := by
  have H := hid h; clear h
  go_enter Try.func114, Try.ntmps114
  go_wp2_with fail
  refine (iRd_f A c xs _ (hid (X.out.keep (((Gr.refl w).al _).al _))) H.out).mono ?_
  rintro e w1 ⟨rfl, hg1⟩
  obtain ⟨x1_0, x1_1, hz1, g1⟩ := alloc2 hg1
  have _ := cells1 x1_0
  have _ := fz x1_0
  have _ := ltb x1_0
  have _ := cells1 x1_1
  have _ := fz x1_1
  have _ := ltb x1_1
  have X1_0 := hid x1_0; clear x1_0
  have X1_1 := hid x1_1; clear x1_1
  have G1 := hid (g1)
  clear hg1 g1
  go_wp2
  go_ret2
  exact ⟨rfl, G1.out⟩
set_option maxRecDepth 20000 in
set_option maxHeartbeats 400000 in
theorem ofR_I_yes (F : Nat) (A : Option Addr) (c : Nat) (xs : List Int) (R : Int) (w : World) (X : Hid (RdI w A xs)) (h : rdB xs = true)
    (hen : ∀ w, (callFunc F #[.slice A xs.length c]).run Try.prog w = .ok (.enter F #[.slice A xs.length c]) w) (hf : ∀ w', Gr w w' → Calls Try.prog F #[.slice A xs.length c] w' fun e w'' => e = .returned (.int .i64 R) ∧ Gr w' w'') :
    Calls Try.prog 114 #[.slice A xs.length c, .func (.func F) #[] #[]] w fun e w' => e = .returned (.tuple #[.int .i64 R, .int .i64 0]) ∧ Gr w w' := by
  have H := hid h; clear h
  have HT := hid fun (w1 : World) (hg1 : Gr w w1) (k1 k2 : Nat) (T1 T2 : TypeId) (X1 : Hid (w1.heap[k1]? = some (.cells #[.func (.func F) #[] #[]] T1))) (X2 : Hid (w1.heap[k2]? = some (.cells #[.slice A xs.length c] T2))) =>
    told_ok_I 176 #[.pointer (some ⟨k1, 0, none⟩), .pointer (some ⟨k2, 0, none⟩)] R w1 (fun _ => by kernel_rfl) fun w2 hg2 => cR_I F A xs.length c R w2 k1 k2 T1 T2 (hid (hg2.keep X1.out)) (hid (hg2.keep X2.out)) hen fun w3 hg3 => hf w3 ((hg1.trans hg2).trans hg3)
  clear hen hf
  go_enter Try.func114, Try.ntmps114
  go_wp2_with fail
  refine (iRd_t A c xs _ (hid (X.out.keep (((Gr.refl w).al _).al _))) H.out).mono ?_
  rintro e w1 ⟨rfl, hg1⟩
  obtain ⟨x1_0, x1_1, hz1, g1⟩ := alloc2 hg1
  have _ := cells1 x1_0
  have _ := fz x1_0
  have _ := ltb x1_0
  have _ := cells1 x1_1
  have _ := fz x1_1
  have _ := ltb x1_1
  have X1_0 := hid x1_0; clear x1_0
  have X1_1 := hid x1_1; clear x1_1
  have G1 := hid (g1)
  clear hg1 g1
  go_wp2_with fail
  refine (HT.out _ G1.out _ _ _ _ (hid X1_1.out) (hid X1_0.out)).mono ?_
  rintro e w2 ⟨rfl, hg2⟩
  have x2_1 := hg2.keep X1_0.out
  have x2_2 := hg2.keep X1_1.out
  have _ := cells1 x2_1
  have _ := fz x2_1
  have _ := ltb x2_1
  have _ := cells1 x2_2
  have _ := fz x2_2
  have _ := ltb x2_2
  have X2_1 := hid x2_1; clear x2_1
  have X2_2 := hid x2_2; clear x2_2
  have G2 := hid (G1.out.trans hg2)
  clear hg2
  go_wp2
  go_ret2
  exact ⟨rfl, G2.out⟩

/-! UnitSeen -/
def gcdN (xs : List Int) : Nat := xs.foldl (fun g n => Nat.gcd g n.natAbs) 0
theorem gcdN_step {xs : List Int} {k : Nat} {x : Int} (h : xs[k]? = some x) : gcdN (xs.take (k + 1)) = Nat.gcd (gcdN (xs.take k)) x.natAbs := by
  unfold gcdN
  rw [List.take_add_one, h]
  simp [List.foldl_append]
theorem gcd_le' {a b m : Nat} (h1 : a ≤ m) (h2 : b ≤ m) : Nat.gcd a b ≤ m := by
  cases a with
  | zero => simpa using h2
  | succ a => exact Nat.le_trans (Nat.gcd_le_left b (by omega)) h1
theorem gcdN_le : ∀ (xs : List Int) (k : Nat), xs.all okR = true → k ≤ xs.length → gcdN (xs.take k) ≤ 1000000
  | xs, 0, _, _ => by simp [gcdN]
  | xs, k + 1, h, hk => by
    obtain ⟨x, hx⟩ : ∃ x, xs[k]? = some x := ⟨xs[k], List.getElem?_eq_getElem _⟩
    have h2 := okR_bd (allI_get hx h)
    rw [gcdN_step hx]
    exact gcd_le' (gcdN_le xs k h (by omega)) (by omega)
theorem cd_eq (p : Int) (g : Nat) : (Int.gcd p (g : Int) : Int) = ((Nat.gcd g p.natAbs : Nat) : Int) := by
  simp [Int.gcd, Nat.gcd_comm]
theorem sgcd_eq (p : Int) (g : Nat) : (Int.gcd (g : Int) (p.natAbs : Int) : Int) = ((Nat.gcd g p.natAbs : Nat) : Int) := by
  simp [Int.gcd]
set_option maxRecDepth 20000 in
set_option maxHeartbeats 1000000 in
theorem iUnit1 (A : Option Addr) (c : Nat) (xs : List Int) (w : World) (X : Hid (RdI w A xs)) (h : rdB xs = true) :
    Calls Try.prog 115 #[.slice A xs.length c] w fun e w' => e = .returned (.int .i64 (gcdN xs : Int)) ∧ Gr w w' := by
  obtain ⟨h1, h2, h3⟩ := rd_parts h
  have H3 := hid h3
  clear h h3
  go_enter Try.func115, Try.ntmps115
  go_wp2_with fail
  go_loopw [3, 8] (fun s u wr => ∃ (k : Nat), u = .int .i64 (k : Int) ∧ s = .int .i64 (gcdN (xs.take k) : Int) ∧ k ≤ xs.length ∧ wr = w) (fun _ u _ => xs.length - (intOf u).toNat)
  case atStart => exact ⟨0, rfl, by simp [gcdN], by omega, by simp⟩
  case round =>
    obtain ⟨k, rfl, rfl, hk, rfl⟩ := hrel
    have hle := gcdN_le xs k H3.out hk
    by_cases hlt : k < xs.length
    · obtain ⟨p, hp⟩ : ∃ p, xs[k]? = some p := ⟨xs[k], List.getElem?_eq_getElem _⟩
      obtain ⟨ad, rfl, c1⟩ := X.out k p hp
      obtain ⟨_, _⟩ := okR_bd (allI_get hp H3.out)
      have HS := hid (gcdN_step hp)
      clear hp
      go_wp2_with (go_at_call 116; refine (cd_any _ _ _ (by omega) (by omega) (by omega) (by omega)).mono ?_; rintro e w1 ⟨rfl, rfl⟩; rw [cd_eq])
      exact ⟨⟨k + 1, by simp, by rw [HS.out], by omega, by simp⟩, by simp [intOf]; omega⟩
    · have hke : k = xs.length := by omega
      subst hke
      go_wp2_with fail
      go_ret
      exact ⟨ret_int (by rw [List.take_length]), Gr.refl _⟩
set_option maxRecDepth 20000 in
set_option maxHeartbeats 400000 in
theorem iUnitSeen (A : Option Addr) (c : Nat) (xs : List Int) (R C : Int) (w : World) (ho : ∀ w, Hid (RdI w A xs) → Calls Try.prog 114 #[.slice A xs.length c, .func (.func 115) #[] #[]] w fun e w' => e = .returned (.tuple #[.int .i64 R, .int .i64 C]) ∧ Gr w w') (X : Hid (RdI w A xs)) :
    Calls Try.prog 57 #[.slice A xs.length c] w fun e w' => e = .returned (.tuple #[.int .i64 R, .int .i64 C]) ∧ Gr w w' := by
  have HO := hid ho; clear ho
  go_enter Try.func57, Try.ntmps57
  go_wp2_with fail
  refine (HO.out _ X).mono ?_
  rintro e w1 ⟨rfl, hg1⟩
  have G1 := hid (hg1)
  clear hg1
  go_wp2
  go_ret2
  exact ⟨rfl, G1.out⟩
set_option maxRecDepth 20000 in
set_option maxHeartbeats 400000 in
theorem sUnit_no (A : Option Addr) (c : Nat) (xs : List Int) (w : World) (X : Hid (RdI w A xs)) (hn : xs.length ≤ 1048576) (h : rdB xs = false) :
    Calls Try.prog 56 #[.slice A xs.length c] w fun e w' => e = .returned (.tuple #[.int .i64 0, .int .i64 2]) ∧ Gr w w' := by
  have H := hid h; clear h
  go_enter Try.func56, Try.ntmps56
  go_wp2_with fail
  refine (sReadings_no A c xs _ X hn H.out).mono ?_
  rintro e w1 ⟨rfl, hg1⟩
  have G1 := hid (hg1)
  clear hg1
  go_wp2
  go_ret2
  exact ⟨rfl, G1.out⟩
set_option maxRecDepth 20000 in
set_option maxHeartbeats 1000000 in
theorem sUnit_yes (A : Option Addr) (c : Nat) (xs : List Int) (w : World) (X : Hid (RdI w A xs)) (h : rdB xs = true) :
    Calls Try.prog 56 #[.slice A xs.length c] w fun e w' => e = .returned (.tuple #[.int .i64 (gcdN xs : Int), .int .i64 0]) ∧ Gr w w' := by
  obtain ⟨h1, h2, h3⟩ := rd_parts h
  have H := hid h
  have H3 := hid h3
  clear h h3
  go_enter Try.func56, Try.ntmps56
  go_wp2_with fail
  refine (sReadings_yes A c xs _ X H.out).mono ?_
  rintro e w1 ⟨rfl, hg1⟩
  have G1 := hid (hg1)
  clear hg1
  have X2 := hid (X.out.keep G1.out)
  go_wp2_with fail
  go_loopw [5, 6] (fun s u wr => ∃ (k : Nat), u = .int .i64 (k : Int) ∧ s = .int .i64 (gcdN (xs.take k) : Int) ∧ k ≤ xs.length ∧ wr = w1) (fun _ u _ => xs.length - (intOf u).toNat)
  case atStart => exact ⟨0, rfl, by simp [gcdN], by omega, by simp⟩
  case round =>
    obtain ⟨k, rfl, rfl, hk, rfl⟩ := hrel
    have hle := gcdN_le xs k H3.out hk
    by_cases hlt : k < xs.length
    · obtain ⟨p, hp⟩ : ∃ p, xs[k]? = some p := ⟨xs[k], List.getElem?_eq_getElem _⟩
      obtain ⟨ad, rfl, c1⟩ := X2.out k p hp
      obtain ⟨_, _⟩ := okR_bd (allI_get hp H3.out)
      have HS := hid (gcdN_step hp)
      clear hp
      go_wp2_with (first | (go_at_call 113; refine (abs_any _ _ (by omega) (by omega)).mono ?_; rintro e w1 ⟨rfl, rfl⟩) | (go_at_call 112; refine (gcd_any _ _ _ (by omega) (by omega) (by omega) (by omega)).mono ?_; rintro e w1 ⟨rfl, rfl⟩; rw [sgcd_eq]))
      exact ⟨⟨k + 1, by simp, by rw [HS.out], by omega, by simp⟩, by simp [intOf]; omega⟩
    · have hke : k = xs.length := by omega
      subst hke
      go_wp2_with fail
      go_ret2
      rw [List.take_length]
      exact ⟨rfl, G1.out⟩
theorem bothUnitSeen (xs : List Int) (hn : xs.length ≤ 1048576) : ∃ R C : Int,
    (∀ (A : Option Addr) (c : Nat) (w : World), Hid (RdI w A xs) → Calls Try.prog 56 #[.slice A xs.length c] w fun e w' => e = .returned (.tuple #[.int .i64 R, .int .i64 C]) ∧ Gr w w') ∧
    (∀ (A : Option Addr) (c : Nat) (w : World), Hid (RdI w A xs) → Calls Try.prog 57 #[.slice A xs.length c] w fun e w' => e = .returned (.tuple #[.int .i64 R, .int .i64 C]) ∧ Gr w w') := by
  cases h : rdB xs with
  | false => exact ⟨0, 2, fun A c w X => sUnit_no A c xs w X hn h, fun A c w X => iUnitSeen A c xs _ _ w (fun w X => ofR_I_no _ A c xs w X h) X⟩
  | true => exact ⟨_, 0, fun A c w X => sUnit_yes A c xs w X h, fun A c w X => iUnitSeen A c xs _ _ w (fun w X => ofR_I_yes 115 A c xs _ w X h (fun _ => by kernel_rfl) fun w' hg => iUnit1 A c xs w' (hid (X.out.keep hg)) h) X⟩
end Go.Proofs.Ytmjcnagniphkeaa
