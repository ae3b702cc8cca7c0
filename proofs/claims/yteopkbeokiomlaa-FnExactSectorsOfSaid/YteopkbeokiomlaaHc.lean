/- WALKS: ReadHead and ReadTwo, of the program and of the reference. -/
import Derived.Test.YteopkbeokiomlaaHb
namespace Go.Proofs.Yteopkbeokiomlaa
open Go.RowKit Go.Sort

/-- What a head reads at an angle. -/
def headF (xs : List Int) (e no l a : Int) : Int :=
  headR (xs.length : Int) a (flI (xs.getD (a / ((1296000 : Int) / (xs.length : Int))).toNat 0) (xs.getD ((a / ((1296000 : Int) / (xs.length : Int)) + 1) % (xs.length : Int)).toNat 0) ((1296000 : Int) / (xs.length : Int)) (a % ((1296000 : Int) / (xs.length : Int)))) (offI e no a) l
theorem headF_eq {xs : List Int} {a S B p q : Int} {k k2 : Nat} (h : Sect xs a S B p q k k2) (e no l : Int) : headF xs e no l a = headR (xs.length : Int) a (flI p q S B) (offI e no a) l := by
  unfold headF
  rw [h.es, h.ek, h.eb, Int.toNat_natCast, h.ek2, Int.toNat_natCast, List.getD_eq_getElem?_getD, List.getD_eq_getElem?_getD, h.ep, h.eq]
  rfl
/-- A disk, and a unit, that are valid. -/
structure Rding (xs : List Int) (e no l : Int) : Prop where
  d : dkB xs e no = true
  l1 : 1 ≤ l
  l2 : l ≤ 3600
theorem Rding.len {xs : List Int} {e no l : Int} (h : Rding xs e no l) : xs.length ≤ 72 := by
  have dv := (dk_parts h.d).1
  unfold divB at dv
  simp at dv
  omega
theorem Rding.head {xs : List Int} {e no l a : Int} (h : Rding xs e no l) (a1 : 0 ≤ a) (a2 : a < 1296000) : ∃ S B p q k k2, Sect xs a S B p q k k2 ∧ HeadB (xs.length : Int) a S (flI p q S B) (offI e no a) l := by
  obtain ⟨dv, d1, d2, hf⟩ := dk_parts h.d
  have hl := h.len
  obtain ⟨S, B, p, q, k, k2, hS⟩ := sect_of dv hf a1 a2
  have m1 := mul_bdg (x := p) (y := S) (A := 600) (B := 1296000) (by have := hS.pb; omega) (by have := hS.pb; omega) (by have := hS.s1; omega) hS.s2
  have m2 := mul_bdg (x := q - p) (y := B) (A := 1200) (B := 1296000) (by have := hS.pb; have := hS.qb; omega) (by have := hS.pb; have := hS.qb; omega) (by have := hS.b1; omega) (by have := hS.b2; have := hS.s2; omega)
  obtain ⟨⟨o1, o2⟩, o3, o4⟩ := off_bd d1 d2 a1 a2
  exact ⟨S, B, p, q, k, k2, hS, ⟨a1, a2, hS.s1, hS.s2, hS.nS, by have := hS.kl; omega, by omega, by unfold flI; omega, by unfold flI; omega, by unfold offI; omega, by unfold offI; omega, h.l1, h.l2⟩⟩
theorem headF_bd {xs : List Int} {e no l a : Int} : 0 ≤ headF xs e no l a ∧ headF xs e no l a < 1296000 := wrap_bd _
theorem iReadF (A : Option Addr) (c : Nat) (xs : List Int) (e no l a : Int) (w : World) (X : Hid (RdH w A xs)) (h : Rding xs e no l) (hc : xs.length ≤ c) (a1 : 0 ≤ a) (a2 : a < 1296000) :
    Calls Try.prog 157 #[dk A xs.length c e no, sgt a l] w fun x w' => x = .returned (.int .i64 (headF xs e no l a)) ∧ Gr w w' := by
  obtain ⟨S, B, p, q, k, k2, hS, hB⟩ := h.head a1 a2
  obtain ⟨_, d1, d2, _⟩ := dk_parts h.d
  rw [headF_eq hS]
  exact iDkRead A c xs e no a l S B p q k k2 w X hS h.len hc d1 d2 hB
theorem sHeadF (b : Nat) (T : TypeId) (A : Option Addr) (c : Nat) (xs : List Int) (e no a l : Int) (w : World) (XB : Hid (w.heap[b]? = some (.cells #[.slice A xs.length c, .int .i64 e, .int .i64 no] T))) (X : Hid (RdH w A xs)) (h : Rding xs e no l) (a1 : 0 ≤ a) (a2 : a < 1296000) :
    Calls Try.prog 85 #[.pointer (some ⟨b, 0, none⟩), .int .i64 a, .int .i64 l] w fun x w' => x = .returned (.int .i64 (headF xs e no l a)) ∧ Gr w w' := by
  obtain ⟨S, B, p, q, k, k2, hS, hB⟩ := h.head a1 a2
  obtain ⟨_, d1, d2, _⟩ := dk_parts h.d
  rw [headF_eq hS]
  exact sHead b T A c xs e no a l S B p q k k2 w XB X hS h.len d1 d2 hB
/-- The code of a disk, angles and a unit. -/
def codeR (xs : List Int) (e no l : Int) (gs : List Int) : Int := if (dkB xs e no && gs.all angB) = true then (if inB l 1 3600 = true then 0 else 2) else 1
theorem codeR_zero {xs : List Int} {e no l : Int} {gs : List Int} (h : codeR xs e no l gs = 0) : Rding xs e no l ∧ gs.all angB = true := by
  unfold codeR at h
  by_cases h1 : (dkB xs e no && gs.all angB) = true
  · rw [if_pos h1] at h
    by_cases h2 : inB l 1 3600 = true
    · simp only [Bool.and_eq_true] at h1
      unfold inB at h2
      simp at h2
      exact ⟨⟨h1.1, h2.1, h2.2⟩, h1.2⟩
    · rw [if_neg h2] at h; cases h
  · rw [if_neg h1] at h; cases h
set_option maxRecDepth 20000 in
set_option maxHeartbeats 1000000 in
theorem iCheckR (A A2 : Option Addr) (c c2 : Nat) (xs gs : List Int) (e no l : Int) (w : World) (X : Hid (RdH w A xs)) (X2 : Hid (RdI w A2 gs)) (hn : xs.length ≤ 1048576) (hh : xs.all okH = true) (hm : gs.length ≤ 1048576) :
    Calls Try.prog 89 #[dk A xs.length c e no, .int .i64 l, .slice A2 gs.length c2] w fun x w' => x = .returned (.int .i64 (codeR xs e no l gs)) ∧ Gr w w' := by
  have HD := hid fun w' (hg : Gr w w') => iDkWith A A2 c c2 xs gs e no w' (hid (X.out.keep hg)) (hid (X2.out.keep hg)) hn hh hm
  unfold codeR
  cases h1 : (dkB xs e no && gs.all angB) with
  | false =>
    rw [h1] at HD
    rw [if_neg (by simp)]
    go_enter Try.func89, Try.ntmps89
    go_wp2_with fail
    refine (HD.out _ ((Gr.refl _).al _)).mono ?_
    rintro e w1 ⟨rfl, hg1⟩
    obtain ⟨x1_0, hz1, g1⟩ := alloc1 hg1
    obtain ⟨_, _, _⟩ := cells3 x1_0
    have _ := fz x1_0
    have _ := ltb x1_0
    have X1_0 := hid x1_0; clear x1_0
    have G1 := hid (g1)
    clear hg1 g1
    go_wp2
    go_ret
    exact ⟨rfl, G1.out⟩
  | true =>
    rw [h1] at HD
    rw [if_pos rfl]
    by_cases k1 : l < 1
    · have e2 : inB l 1 3600 = false := by unfold inB; simp; omega
      rw [e2, if_neg (by simp)]
      go_enter Try.func89, Try.ntmps89
      go_wp2_with fail
      refine (HD.out _ ((Gr.refl _).al _)).mono ?_
      rintro e w1 ⟨rfl, hg1⟩
      obtain ⟨x1_0, hz1, g1⟩ := alloc1 hg1
      obtain ⟨_, _, _⟩ := cells3 x1_0
      have _ := fz x1_0
      have _ := ltb x1_0
      have X1_0 := hid x1_0; clear x1_0
      have G1 := hid (g1)
      clear hg1 g1
      go_wp2
      go_ret
      exact ⟨rfl, G1.out⟩
    · by_cases k2 : 3600 < l
      · have e2 : inB l 1 3600 = false := by unfold inB; simp; omega
        rw [e2, if_neg (by simp)]
        go_enter Try.func89, Try.ntmps89
        go_wp2_with fail
        refine (HD.out _ ((Gr.refl _).al _)).mono ?_
        rintro e w1 ⟨rfl, hg1⟩
        obtain ⟨x1_0, hz1, g1⟩ := alloc1 hg1
        obtain ⟨_, _, _⟩ := cells3 x1_0
        have _ := fz x1_0
        have _ := ltb x1_0
        have X1_0 := hid x1_0; clear x1_0
        have G1 := hid (g1)
        clear hg1 g1
        go_wp2
        go_ret
        exact ⟨rfl, G1.out⟩
      · have e2 : inB l 1 3600 = true := by unfold inB; simp; omega
        rw [e2, if_pos rfl]
        go_enter Try.func89, Try.ntmps89
        go_wp2_with fail
        refine (HD.out _ ((Gr.refl _).al _)).mono ?_
        rintro e w1 ⟨rfl, hg1⟩
        obtain ⟨x1_0, hz1, g1⟩ := alloc1 hg1
        obtain ⟨_, _, _⟩ := cells3 x1_0
        have _ := fz x1_0
        have _ := ltb x1_0
        have X1_0 := hid x1_0; clear x1_0
        have G1 := hid (g1)
        clear hg1 g1
        go_wp2
        go_ret
        exact ⟨rfl, G1.out⟩
set_option maxRecDepth 20000 in
set_option maxHeartbeats 1000000 in
theorem iReaderOf (H : Int → Int) (A : Option Addr) (n c : Nat) (e no l : Int) (w : World) :
    Calls Try.prog 91 #[dk A n c e no, .int .i64 l] w fun x w' => ∃ bl bk bd m, x = .returned (.func (.func 156) #[] #[.pointer (some ⟨bl, 0, none⟩), .pointer (some ⟨bk, 0, none⟩), .pointer (some ⟨bd, 0, none⟩)]) ∧ Rdr w' H l #[.slice A n c, .int .i64 e, .int .i64 no] bl bk bd m ∧ w.heap.size ≤ m ∧ Gr w w' := by
  have hmk : ∀ w : World, (Instr.makeMap 181 none).run Try.prog w = .ok (.map (some w.heap.size)) (w.alloc (.map #[] 0)) := fun w => rfl
  go_enter Try.func91, Try.ntmps91
  go_wp2_with fail
  go_ret
  obtain ⟨b0, b1, b2, b3, _, g⟩ := alloc4 (Gr.refl ((((w.alloc (.cells #[.slice A n c, .int .i64 e, .int .i64 no] 59)).alloc (.cells #[.int .i64 l] 2)).alloc (.map #[] 0)).alloc (.cells #[.map (some (w.heap.size + 1 + 1))] 181)))
  exact ⟨_, _, _, w.heap.size + 1 + 1, rfl, ⟨⟨_, b1⟩, ⟨_, b3⟩, ⟨_, b0⟩, #[], 0, b2, Kept.nil _ _⟩, by omega, g⟩
/-- A reader, called at an angle. -/
theorem iReaderF (A : Option Addr) (c : Nat) (xs : List Int) (e no l a : Int) (bl bk bd m : Nat) (w : World) (X : Hid (RdH w A xs)) (h : Rding xs e no l) (hc : xs.length ≤ c) (a1 : 0 ≤ a) (a2 : a < 1296000) (hr : Rdr w (headF xs e no l) l #[.slice A xs.length c, .int .i64 e, .int .i64 no] bl bk bd m) :
    Calls Try.prog 156 #[.int .i64 a, .pointer (some ⟨bl, 0, none⟩), .pointer (some ⟨bk, 0, none⟩), .pointer (some ⟨bd, 0, none⟩)] w fun x w' => x = .returned (.int .i64 (headF xs e no l a)) ∧ Rdr w' (headF xs e no l) l #[.slice A xs.length c, .int .i64 e, .int .i64 no] bl bk bd m ∧ Only m w w' :=
  iReader (headF xs e no l) A xs.length c e no l a bl bk bd m w hr fun w' hg => iReadF A c xs e no l a w' (hid (X.out.keep hg)) h hc a1 a2
theorem enR (a : Int) (bl bk bd : Nat) (w : World) : (callFunc 156 #[.int .i64 a, .pointer (some ⟨bl, 0, none⟩), .pointer (some ⟨bk, 0, none⟩), .pointer (some ⟨bd, 0, none⟩)]).run Try.prog w = .ok (.enter 156 #[.int .i64 a, .pointer (some ⟨bl, 0, none⟩), .pointer (some ⟨bk, 0, none⟩), .pointer (some ⟨bd, 0, none⟩)]) w := by kernel_rfl
end Go.Proofs.Yteopkbeokiomlaa
