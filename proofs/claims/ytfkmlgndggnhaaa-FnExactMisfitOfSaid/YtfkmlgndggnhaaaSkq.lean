/- WALKS: the first least one of fractions, of the program (a scope with two labels). -/
import Derived.ScopeJumps
import Derived.WalkMore
import Derived.Test.YtfkmlgndggnhaaaSkp
namespace Go.Proofs.Ytfkmlgndggnhaaa
open Go.RowKit Go.Sort

/-- As Q; by a goto to label l: J; to label l1: K. -/
def jump2 (l l1 : Nat) (J K : Act → World → Prop) (Q : Exit → Act → World → Prop) : Exit → Act → World → Prop
  | .goto l', a, w => (l' = l ∧ J a w) ∨ (l' = l1 ∧ K a w)
  | e, a, w => Q e a w
section
variable {P : Program} {a : Act} {w : World} {Q : Exit → Act → World → Prop}
@[go_sem] theorem jump2_normal (l l1 : Nat) (J K : Act → World → Prop) (a : Act) (w : World) : jump2 l l1 J K Q .normal a w = Q .normal a w := rfl
@[go_sem] theorem jump2_ret (l l1 : Nat) (J K : Act → World → Prop) (a : Act) (w : World) : jump2 l l1 J K Q .ret a w = Q .ret a w := rfl
@[go_sem] theorem jump1_normal (l : Nat) (J : Act → World → Prop) (a : Act) (w : World) : Exit.jump l J Q .normal a w = Q .normal a w := rfl
@[go_sem] theorem jump1_ret (l : Nat) (J : Act → World → Prop) (a : Act) (w : World) : Exit.jump l J Q .ret a w = Q .ret a w := rfl
theorem jump1_mono {l : Nat} {J J' : Act → World → Prop} (h : ∀ a w, J a w → J' a w) (e : Exit) (a : Act) (w : World) (hq : Exit.jump l J Q e a w) : Exit.jump l J' Q e a w := by
  cases e <;> first | exact hq | exact ⟨hq.1, h _ _ hq.2⟩
/-- A loop of a label and gotos: from each pass at label l the run comes to l again, maybe by way of l1. -/
theorem wp_scope_loop2 {x rest rest0 rest1 : Code} (l l1 : Nat) (J : Act → World → Prop) (μ : Act → World → Nat)
    (hf : findLabel (x.seq ((Code.label l).seq rest)) l = some rest0) (h0 : rest0 = Code.skip.seq rest) (hf1 : findLabel (x.seq ((Code.label l).seq rest)) l1 = some rest1)
    (first : x.wp P (Exit.then J fun _ _ _ => False) a w)
    (pass : ∀ a w, J a w → rest.wp P (jump2 l l1 (fun a' w' => J a' w' ∧ μ a' w' < μ a w) (fun a' w' => rest1.wp P (Exit.jump l (fun a'' w'' => J a'' w'' ∧ μ a'' w'' < μ a w) Q) a' w') Q) a w) : (Code.scope (x.seq ((Code.label l).seq rest))).wp P Q a w := by
  subst h0
  intro b k cs
  obtain ⟨c, hc⟩ : ∃ c, c = x.seq ((Code.label l).seq rest) := ⟨_, rfl⟩
  have hg : gotoIn l (.inScope c :: k) = some (.code (Code.skip.seq rest) :: .inScope c :: k) := by rw [hc]; simp [gotoIn, hf]
  have hg1 : gotoIn l1 (.inScope c :: k) = some (.code rest1 :: .inScope c :: k) := by rw [hc]; simp [gotoIn, hf1]
  rw [← hc]
  have key : ∀ n a w, μ a w = n → J a w → ∃ e a' w', Q e a' w' ∧ Arrives P (lone (b.at a (.code rest :: .inScope c :: k)) cs w) b k cs e a' w' := by
    intro n
    induction n using Nat.strongRecOn with
    | _ n ih =>
      intro a w hn hJ
      have again : ∀ a₁ w₁, J a₁ w₁ → μ a₁ w₁ < μ a w → ∃ e a' w', Q e a' w' ∧ Arrives P (lone (b.at a₁ (.code (Code.skip.seq rest) :: .inScope c :: k)) cs w₁) b k cs e a' w' := by
        intro a₁ w₁ hJ' hlt
        obtain ⟨e₂, a₂, w₂, hq₂, harr₂⟩ := ih _ (by omega) a₁ w₁ rfl hJ'
        exact ⟨e₂, a₂, w₂, hq₂, .of_steps (.head step_seq (.one step_skip)) harr₂⟩
      obtain ⟨e, a₁, w₁, hq, harr⟩ := pass a w hJ b (.inScope c :: k) cs
      cases e with
      | normal => exact ⟨.normal, a₁, w₁, hq, Steps.trans harr (.one step_inScope)⟩
      | exit id => exact ⟨.exit id, a₁, w₁, hq, fun k' hk => harr k' (by simp [exitTo, hk])⟩
      | goto l' =>
        rcases hq with ⟨rfl, hJ', hlt⟩ | ⟨rfl, hK⟩
        · obtain ⟨e₂, a₂, w₂, hq₂, harr₂⟩ := again a₁ w₁ hJ' hlt
          exact ⟨e₂, a₂, w₂, hq₂, .of_steps (harr _ hg) harr₂⟩
        · obtain ⟨e₃, a₃, w₃, hq₃, harr₃⟩ := hK b (.inScope c :: k) cs
          cases e₃ with
          | normal => exact ⟨.normal, a₃, w₃, hq₃, .of_steps (harr _ hg1) (Steps.trans harr₃ (.one step_inScope))⟩
          | exit id => exact ⟨.exit id, a₃, w₃, hq₃, .of_steps (harr _ hg1) (fun k' hk => harr₃ k' (by simp [exitTo, hk]))⟩
          | goto l' =>
            obtain ⟨rfl, hJ', hlt⟩ := hq₃
            obtain ⟨e₂, a₂, w₂, hq₂, harr₂⟩ := again a₃ w₃ hJ' hlt
            exact ⟨e₂, a₂, w₂, hq₂, .of_steps (harr _ hg1) (.of_steps (harr₃ _ hg) harr₂)⟩
          | ret => exact ⟨_, a₃, w₃, hq₃, .of_steps (harr _ hg1) harr₃⟩
          | panic ch => exact ⟨_, a₃, w₃, hq₃, .of_steps (harr _ hg1) harr₃⟩
          | outgrown => exact ⟨_, a₃, w₃, hq₃, .of_steps (harr _ hg1) harr₃⟩
      | ret => exact ⟨_, a₁, w₁, hq, harr⟩
      | panic ch => exact ⟨_, a₁, w₁, hq, harr⟩
      | outgrown => exact ⟨_, a₁, w₁, hq, harr⟩
  obtain ⟨e, a₁, w₁, hq, harr⟩ := first b (.code ((Code.label l).seq rest) :: .inScope c :: k) cs
  cases e with
  | normal =>
    obtain ⟨e₂, a₂, w₂, hq₂, harr₂⟩ := key _ a₁ w₁ rfl hq
    refine ⟨e₂, a₂, w₂, hq₂, .of_steps ?_ harr₂⟩
    refine .head step_scope ?_
    rw [hc]
    refine .head step_seq (Steps.trans (hc ▸ harr) (.head step_seq (.one step_label)))
  | _ => exact hq.elim
end

/-- The first least one of L, b being the one of those before n, P / Q. -/
def fl : List (Int × Int) → Nat → Nat → Int → Int → Nat × (Int × Int)
  | [], _, b, P, Q => (b, P, Q)
  | x :: r, n, b, P, Q => if cmpI x.1 x.2 P Q < 0 then fl r (n + 1) n x.1 x.2 else fl r (n + 1) b P Q
theorem fl_step {L : List (Int × Int)} {n b : Nat} {p q P Q : Int} (h : L[n]? = some (p, q)) : fl (L.drop n) n b P Q = if cmpI p q P Q < 0 then fl (L.drop (n + 1)) (n + 1) n p q else fl (L.drop (n + 1)) (n + 1) b P Q := by
  have hk : n < L.length := (List.getElem?_eq_some_iff.1 h).1
  have e : L[n] = (p, q) := (List.getElem?_eq_some_iff.1 h).2
  rw [List.drop_eq_getElem_cons hk, e]
  rfl
/-- What 'firstLeast' holds at its label. -/
def FLJ (A : Option Addr) (c : Nat) (L : List (Int × Int)) (R : Nat) (w : World) (a' : Act) (w' : World) : Prop :=
  Gr w w' ∧ ∃ (u1 : Value) (b n : Nat) (P Q : Int) (u5 u6 u7 u8 u9 u10 u11 u12 u13 u14 u15 u16 u17 u18 u19 u20 u21 u22 : Value), a' = { tmps := #[.slice A L.length c, u1, .int .i64 0, .int .i64 (b : Int), .int .i64 (n : Int), u5, u6, u7, u8, u9, u10, u11, u12, u13, u14, u15, u16, u17, u18, u19, u20, u21, u22], defers := [] } ∧ b < L.length ∧ n ≤ L.length ∧ L[b]? = some (P, Q) ∧ (fl (L.drop n) n b P Q).1 = R
set_option maxRecDepth 20000 in
set_option maxHeartbeats 1000000 in
theorem ifirst (A : Option Addr) (c : Nat) (L : List (Int × Int)) (P0 Q0 : Int) (R : Nat) (w : World) (X : Hid (RdF w A L)) (hn : L.length ≤ 1048576) (hall : L.all (fun x => okB x.1 x.2) = true) (h0 : L[0]? = some (P0, Q0)) (hr : (fl (L.drop 1) 1 0 P0 Q0).1 = R) :
    Calls Try.prog 78 #[.slice A L.length c] w fun e w' => e = .returned (.int .i64 (R : Int)) ∧ Gr w w' := by
  have HALL := hid hall; have H0 := hid h0; have HR := hid hr
  clear hall h0 hr
  have hlen : 0 < L.length := (List.getElem?_eq_some_iff.1 H0.out).1
  go_enter Try.func78, Try.ntmps78
  go_wp2_with fail
  refine wp_scope_loop2 0 1 (FLJ A c L R w) (fun a' _ => L.length - (intOf (a'.tmps.getD 4 undef)).toNat) rfl rfl rfl ?first ?pass
  case first =>
    go_wp2_with fail
    exact ⟨Gr.refl _, _, 0, 1, P0, Q0, _, _, _, _, _, _, _, _, _, _, _, _, _, _, _, _, _, _, rfl, hlen, hlen, H0.out, HR.out⟩
  case pass =>
    rintro a' w' ⟨hg, u1, b, n, P, Q, u5, u6, u7, u8, u9, u10, u11, u12, u13, u14, u15, u16, u17, u18, u19, u20, u21, u22, rfl, hb, hn2, hbp, hs⟩
    by_cases hlt : n < L.length
    · obtain ⟨⟨p, q⟩, hpq⟩ : ∃ pq, L[n]? = some pq := ⟨L[n], List.getElem?_eq_getElem _⟩
      have hd : ((n : Int) == (L.length : Int)) = false := by simp; omega
      have okp := hid (all_get hpq HALL.out)
      have okb := hid (all_get hbp HALL.out)
      rw [fl_step hpq] at hs
      obtain ⟨ad, rfl, c1, c2⟩ := X.out b P Q hbp
      obtain ⟨ad', he, d1, d2⟩ := X.out n p q hpq
      cases he
      have C1 := hid c1; have C2 := hid c2; have D1 := hid d1; have D2 := hid d2
      have HPQ := hid hpq; have HBP := hid hbp
      have HG := hid hg
      clear c1 c2 d1 d2 hpq hbp hg
      by_cases hc : cmpI p q P Q < 0
      · have hge : decide (0 ≤ cmpI p q P Q) = false := by simp; omega
        have HGE := hid hge
        rw [if_pos hc] at hs
        have HS := hid hs
        clear hs
        go_wp2_with fail
        refine wp_reg0 9 (by kernel_rfl) (by kernel_rfl) ?_
        apply Exists.intro
        refine ⟨fun wb hb => ?_, ?_⟩
        · have hg := HG.out.trans hb
          have _ := hg.atF C1.out; have _ := hg.atF C2.out; have _ := hg.atF D1.out; have _ := hg.atF D2.out
          clear hg
          simp only [headOps, List.contains, List.elem, reduceIte, Bool.false_eq_true]
          repeat (first | go_big_quiet_step (first | (go_at_call 122; exact Calls.of_gr (iord _ _ _ _ _ okp.out okb.out))) | quiet_step (fail))
          exact wpQuiet_nil rfl
        intro w1 hg1
        have HG1 := hid (HG.out.trans hg1)
        clear hg1
        go_wp2_with fail
        go_step3
        go_wp2_with fail
        go_step3
        exact .inl ⟨rfl, ⟨HG1.out, _, n, n + 1, p, q, _, _, _, _, _, _, _, _, _, _, _, _, _, _, _, _, _, _, rfl, hlt, by omega, HPQ.out, HS.out⟩, by simp [intOf]; omega⟩
      · have hge : decide (0 ≤ cmpI p q P Q) = true := by simp; omega
        have HGE := hid hge
        rw [if_neg hc] at hs
        have HS := hid hs
        clear hs
        go_wp2_with fail
        refine wp_reg0 9 (by kernel_rfl) (by kernel_rfl) ?_
        apply Exists.intro
        refine ⟨fun wb hb => ?_, ?_⟩
        · have hg := HG.out.trans hb
          have _ := hg.atF C1.out; have _ := hg.atF C2.out; have _ := hg.atF D1.out; have _ := hg.atF D2.out
          clear hg
          simp only [headOps, List.contains, List.elem, reduceIte, Bool.false_eq_true]
          repeat (first | go_big_quiet_step (first | (go_at_call 122; exact Calls.of_gr (iord _ _ _ _ _ okp.out okb.out))) | quiet_step (fail))
          exact wpQuiet_nil rfl
        intro w1 hg1
        have HG1 := hid (HG.out.trans hg1)
        clear hg1
        go_wp2_with fail
        go_step3
        refine .inr ⟨rfl, ?_⟩
        go_wp2_with fail
        go_step3
        exact ⟨rfl, ⟨HG1.out, _, b, n + 1, P, Q, _, _, _, _, _, _, _, _, _, _, _, _, _, _, _, _, _, _, rfl, hb, by omega, HBP.out, HS.out⟩, by simp [intOf]; omega⟩
    · obtain rfl : n = L.length := by omega
      have hs2 : b = R := by simpa [fl] using hs
      subst hs2
      go_wp2_with fail
      go_ret
      exact ⟨rfl, hg⟩
end Go.Proofs.Ytfkmlgndggnhaaa
