/- WALKS: readings: how many there may be, how great; of the program and of the reference. -/
import Derived.Test.YtpadjkgbeijkpaaIc
import Derived.Test.YtpadjkgbeijkpaaA
import Derived.Test.YtpadjkgbeijkpaaC0
namespace Go.Proofs.Ytpadjkgbeijkpaa
open Go.RowKit Go.Sort

theorem gt_inM (n m : Int) : gtB n m = !inB n (-m) m := by
  unfold gtB inB
  by_cases h1 : n < -m
  · have : ¬ -m ≤ n := by omega
    simp [h1, this]
  · have h1' : -m ≤ n := by omega
    by_cases h2 : m < n
    · have : ¬ n ≤ m := by omega
      simp [h1, h1', h2, this]
    · have : n ≤ m := by omega
      simp [h1, h1', h2, this]
def okR (n : Int) : Bool := inB n (-1000000) 1000000
def rdB (xs : List Int) : Bool := inB (xs.length : Int) 1 64 && xs.all okR
theorem okR_bd {n : Int} (h : okR n = true) : -1000000 ≤ n ∧ n ≤ 1000000 := by unfold okR inB at h; simpa using h
theorem cnt_bd {n : Nat} (h : inB (n : Int) 1 64 = true) : 1 ≤ n ∧ n ≤ 64 := by unfold inB at h; simp at h; omega
theorem rd_parts {xs : List Int} (h : rdB xs = true) : 1 ≤ xs.length ∧ xs.length ≤ 64 ∧ xs.all okR = true := by
  unfold rdB at h
  simp only [Bool.and_eq_true] at h
  obtain ⟨h1, h2⟩ := cnt_bd h.1
  exact ⟨h1, h2, h.2⟩
set_option maxHeartbeats 400000 in
theorem smany (n : Int) (w : World) : Calls Try.prog 92 #[.int .i64 n] w fun e w' => e = .returned (.bool (inB n 1 64)) ∧ w = w' := by
  go_enter Try.func92, Try.ntmps92
  go_wp2_with (go_at_call 53; refine (in_any _ _ _ _).mono ?_; rintro e w1 ⟨rfl, rfl⟩)
  go_ret
  exact ⟨rfl, rfl⟩
set_option maxHeartbeats 400000 in
theorem splain (n : Int) (w : World) : Calls Try.prog 93 #[.int .i64 n] w fun e w' => e = .returned (.bool (okR n)) ∧ w = w' := by
  go_enter Try.func93, Try.ntmps93
  go_wp2_with (go_at_call 53; refine (in_any _ _ _ _).mono ?_; rintro e w1 ⟨rfl, rfl⟩)
  go_ret
  exact ⟨rfl, rfl⟩
set_option maxHeartbeats 400000 in
theorem icntR_t (n : Int) (w : World) (h : inB n 1 64 = true) : Calls Try.prog 124 #[.int .i64 n] w fun e w' => e = .returned (.bool true) ∧ w = w' := by
  have h1 : 1 ≤ n := by unfold inB at h; simp at h; omega
  have h2 : n ≤ 64 := by unfold inB at h; simp at h; omega
  clear h
  go_enter Try.func124, Try.ntmps124
  go_wp2
  go_ret
  exact ⟨rfl, rfl⟩
set_option maxHeartbeats 400000 in
theorem icntR_f (n : Int) (w : World) (h : inB n 1 64 = false) : Calls Try.prog 124 #[.int .i64 n] w fun e w' => e = .returned (.bool false) ∧ w = w' := by
  by_cases h1 : 1 ≤ n
  · have h2 : ¬ n ≤ 64 := by unfold inB at h; simp at h; omega
    clear h
    go_enter Try.func124, Try.ntmps124
    go_wp2
    go_ret
    exact ⟨rfl, rfl⟩
  · clear h
    go_enter Try.func124, Try.ntmps124
    go_wp2
    go_ret
    exact ⟨rfl, rfl⟩
set_option maxHeartbeats 400000 in
theorem iNoRd (n : Int) (w : World) : Calls Try.prog 122 #[.int .i64 n] w fun e w' => e = .returned (.bool (!okR n)) ∧ w = w' := by
  have h := gt_any n 1000000 w (by omega) (by omega)
  rw [gt_inM] at h
  have H := hid h; clear h
  go_enter Try.func122, Try.ntmps122
  go_wp2_with (go_at_call 123; refine H.out.mono ?_; rintro e w1 ⟨rfl, rfl⟩)
  go_ret
  exact ⟨rfl, rfl⟩

set_option maxRecDepth 20000 in
set_option maxHeartbeats 1000000 in
theorem sReadings_yes (A : Option Addr) (c : Nat) (xs : List Int) (w : World) (X : Hid (RdI w A xs)) (h : rdB xs = true) :
    Calls Try.prog 52 #[.slice A xs.length c] w fun e w' => e = .returned (.int .i64 0) ∧ Gr w w' := by
  obtain ⟨h1, h2, h3⟩ := rd_parts h
  have hin : inB (xs.length : Int) 1 64 = true := by unfold inB; simp; omega
  have H3 := hid h3
  clear h h3
  go_enter Try.func52, Try.ntmps52
  go_wp2_with (go_at_call 92; refine (smany _ _).mono ?_; rintro e w1 ⟨rfl, rfl⟩; rw [hin])
  go_loopw [3] (fun u wr => ∃ (k : Nat), u = .int .i64 (k : Int) ∧ k ≤ xs.length ∧ wr = w) (fun u _ => xs.length - (intOf u).toNat)
  case atStart => exact ⟨0, rfl, by omega, by simp⟩
  case round =>
    obtain ⟨k, rfl, hk, rfl⟩ := hrel
    by_cases hlt : k < xs.length
    · obtain ⟨p, hp⟩ : ∃ p, xs[k]? = some p := ⟨xs[k], List.getElem?_eq_getElem _⟩
      obtain ⟨ad, rfl, c1⟩ := X.out k p hp
      have hx : okR p = true := allI_get hp H3.out
      clear hp
      go_wp2_with (go_at_call 93; refine (splain _ _).mono ?_; rintro e w1 ⟨rfl, rfl⟩; rw [hx])
      exact ⟨⟨k + 1, by simp, by omega, by simp⟩, by simp [intOf]; omega⟩
    · go_wp2_with fail
      go_ret
      exact ⟨rfl, Gr.refl _⟩
set_option maxRecDepth 20000 in
set_option maxHeartbeats 1000000 in
theorem sReadings_no (A : Option Addr) (c : Nat) (xs : List Int) (w : World) (X : Hid (RdI w A xs)) (hn : xs.length ≤ 1048576) (h : rdB xs = false) :
    Calls Try.prog 52 #[.slice A xs.length c] w fun e w' => e = .returned (.int .i64 2) ∧ Gr w w' := by
  by_cases hl : 1 ≤ xs.length ∧ xs.length ≤ 64
  · obtain ⟨h1, h2⟩ := hl
    have hin : inB (xs.length : Int) 1 64 = true := by unfold inB; simp; omega
    have h3 : xs.all okR = false := by
      unfold rdB at h
      rw [hin] at h
      simpa using h
    have H3 := hid h3
    clear h h3
    go_enter Try.func52, Try.ntmps52
    go_wp2_with (go_at_call 92; refine (smany _ _).mono ?_; rintro e w1 ⟨rfl, rfl⟩; rw [hin])
    go_loopw [3] (fun u wr => ∃ (k : Nat), u = .int .i64 (k : Int) ∧ k ≤ xs.length ∧ (xs.take k).all okR = true ∧ wr = w) (fun u _ => xs.length - (intOf u).toNat)
    case atStart => exact ⟨0, rfl, by omega, by simp, by simp⟩
    case round =>
      obtain ⟨k, rfl, hk, ha, rfl⟩ := hrel
      have HA := hid ha; clear ha
      by_cases hlt : k < xs.length
      · obtain ⟨p, hp⟩ : ∃ p, xs[k]? = some p := ⟨xs[k], List.getElem?_eq_getElem _⟩
        obtain ⟨ad, rfl, c1⟩ := X.out k p hp
        have HP := hid hp; clear hp
        cases hx : okR p with
        | true =>
          have HX := hid hx
          go_wp2_with (go_at_call 93; refine (splain _ _).mono ?_; rintro e w1 ⟨rfl, rfl⟩; rw [HX.out])
          exact ⟨⟨k + 1, by simp, by omega, allI_take HP.out HA.out HX.out, by simp⟩, by simp [intOf]; omega⟩
        | false =>
          have HX := hid hx
          go_wp2_with (go_at_call 93; refine (splain _ _).mono ?_; rintro e w1 ⟨rfl, rfl⟩; rw [HX.out])
          go_ret
          exact ⟨rfl, Gr.refl _⟩
      · exfalso
        have hke : k = xs.length := by omega
        have := HA.out
        rw [hke, List.take_length, H3.out] at this
        cases this
  · have hin : inB (xs.length : Int) 1 64 = false := by unfold inB; simp; omega
    clear h
    go_enter Try.func52, Try.ntmps52
    go_wp2_with (go_at_call 92; refine (smany _ _).mono ?_; rintro e w1 ⟨rfl, rfl⟩; rw [hin])
    go_ret
    exact ⟨rfl, Gr.refl _⟩
set_option maxRecDepth 20000 in
set_option maxHeartbeats 400000 in
theorem iReadings_cnt (A : Option Addr) (c n : Nat) (w : World) (h : inB (n : Int) 1 64 = false) :
    Calls Try.prog 70 #[.slice A n c] w fun e w' => e = .returned (.bool false) ∧ w = w' := by
  have H := hid h; clear h
  go_enter Try.func70, Try.ntmps70
  go_wp2_with (go_at_call 124; refine (icntR_f _ _ H.out).mono ?_; rintro e w1 ⟨rfl, rfl⟩)
  go_ret
  exact ⟨rfl, rfl⟩
set_option maxRecDepth 20000 in
set_option maxHeartbeats 400000 in
theorem iReadings_all (A : Option Addr) (c : Nat) (xs : List Int) (w : World) (X : Hid (RdI w A xs)) (h : inB (xs.length : Int) 1 64 = true) :
    Calls Try.prog 70 #[.slice A xs.length c] w fun e w' => e = .returned (.bool (xs.all okR)) ∧ w = w' := by
  have hl := cnt_bd h
  have HC := hid (iContP 122 okR A c xs w X (by omega) (fun _ _ => by kernel_rfl) (fun s w => iNoRd s w))
  have H := hid h; clear h hl
  go_enter Try.func70, Try.ntmps70
  go_wp2_with (first | (go_at_call 124; refine (icntR_t _ _ H.out).mono ?_; rintro e w1 ⟨rfl, rfl⟩) | (go_at_call 125; refine HC.out.mono ?_; rintro e w1 ⟨rfl, rfl⟩))
  go_ret
  exact ⟨ret_bool (by simp), rfl⟩
theorem iReadings (A : Option Addr) (c : Nat) (xs : List Int) (w : World) (X : Hid (RdI w A xs)) :
    Calls Try.prog 70 #[.slice A xs.length c] w fun e w' => e = .returned (.bool (rdB xs)) ∧ w = w' := by
  unfold rdB
  cases h : inB (xs.length : Int) 1 64 with
  | true => exact iReadings_all A c xs w X h
  | false => exact iReadings_cnt A c xs.length w h
end Go.Proofs.Ytpadjkgbeijkpaa
namespace Go.Proofs.Ytpadjkgbeijkpaa
open Go.RowKit Go.Sort

theorem iRd_t (A : Option Addr) (c : Nat) (xs : List Int) (w : World) (X : Hid (RdI w A xs)) (h : rdB xs = true) :
    Calls Try.prog 70 #[.slice A xs.length c] w fun e w' => e = .returned (.bool true) ∧ Gr w w' :=
  (iReadings A c xs w X).mono fun e w' ⟨he, hw⟩ => ⟨by rw [he, h], hw ▸ Gr.refl _⟩
theorem iRd_f (A : Option Addr) (c : Nat) (xs : List Int) (w : World) (X : Hid (RdI w A xs)) (h : rdB xs = false) :
    Calls Try.prog 70 #[.slice A xs.length c] w fun e w' => e = .returned (.bool false) ∧ Gr w w' :=
  (iReadings A c xs w X).mono fun e w' ⟨he, hw⟩ => ⟨by rw [he, h], hw ▸ Gr.refl _⟩
/-! UnitSeen -/
def gcdN (xs : List Int) : Nat := xs.foldl (fun g n => Nat.gcd g n.natAbs) 0
theorem gcdN_step {xs : List Int} {k : Nat} {x : Int} (h : xs[k]? = some x) : gcdN (xs.take (k + 1)) = Nat.gcd (gcdN (xs.take k)) x.natAbs := by
  unfold gcdN
  rw [List.take_add_one, h]
  simp [List.foldl_append]
theorem gcd_le' {a b m : Nat} (h1 : a ≤ m) (h2 : b ≤ m) : Nat.gcd a b ≤ m := by
  cases a with
  | zero => simpa using h2
  | succ a => exact Nat.le_trans (Nat.gcd_le_left b (by omega)) h1
theorem gcdN_le : ∀ (xs : List Int) (k : Nat), xs.all okR = true → k ≤ xs.length → gcdN (xs.take k) ≤ 1000000
  | xs, 0, _, _ => by simp [gcdN]
  | xs, k + 1, h, hk => by
    obtain ⟨x, hx⟩ : ∃ x, xs[k]? = some x := ⟨xs[k], List.getElem?_eq_getElem _⟩
    have h2 := okR_bd (allI_get hx h)
    rw [gcdN_step hx]
    exact gcd_le' (gcdN_le xs k h (by omega)) (by omega)
theorem cd_eq (p : Int) (g : Nat) : (Int.gcd p (g : Int) : Int) = ((Nat.gcd g p.natAbs : Nat) : Int) := by
  simp [Int.gcd, Nat.gcd_comm]
theorem sgcd_eq (p : Int) (g : Nat) : (Int.gcd (g : Int) (p.natAbs : Int) : Int) = ((Nat.gcd g p.natAbs : Nat) : Int) := by
  simp [Int.gcd]
end Go.Proofs.Ytpadjkgbeijkpaa
