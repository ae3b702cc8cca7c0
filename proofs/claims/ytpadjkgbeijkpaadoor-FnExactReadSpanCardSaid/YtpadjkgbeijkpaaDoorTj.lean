/- TEXTS READ: ReadSpan of both sides, joined. -/
import Derived.Test.YtpadjkgbeijkpaaDoorTt
namespace Go.Proofs.YtpadjkgbeijkpaaDoor
open Go.RowKit Go.Sort

theorem txtSl_inj {a b c d p q p' q' : Int} (h1 : spB a b c d = true) (h2 : spB p q p' q' = true) (h : txtSl a b c d = txtSl p q p' q') : (a = p ∧ b = q) ∧ c = p' ∧ d = q' := by
  obtain ⟨a1, a2, _⟩ := spB_ok h1
  obtain ⟨p1, p2, _⟩ := spB_ok h2
  unfold txtSl at h
  obtain ⟨e1, e2⟩ := part_eq (no46F a b) (no46F p q) h
  simp only [List.cons.injEq, true_and] at e2
  exact ⟨txtFl_inj a1 p1 e1, txtFl_inj a2 p2 e2⟩
/-- What ReadSpan gives. -/
theorem bothReadSpan (s : ByteArray) (hs : s.size ≤ 1048576) : ∃ a b c d C : Int, (∀ w, Calls Tryd.prog 12 #[.string s] w fun e w' => e = .returned (.tuple #[sp a b c d, .int .i64 C]) ∧ Gr w w') ∧ (∀ w, Hid (TxW w) → Calls Tryd.prog 13 #[.string s] w fun e w' => e = .returned (.tuple #[sp a b c d, .int .i64 C]) ∧ Bl w w') := by
  by_cases hF : ∃ a b c d, spB a b c d = true ∧ s.data.toList = txtSl a b c d
  · obtain ⟨a, b, c, d, hk, he⟩ := hF
    refine ⟨a, b, c, d, 0, fun w => (sReadSpan s w hs).mono ?_, ?_⟩
    · rintro e w' ⟨⟨p, q, p', q', ⟨hk', he', rfl⟩ | ⟨hno, _⟩⟩, hg⟩
      · obtain ⟨⟨rfl, rfl⟩, rfl, rfl⟩ := txtSl_inj hk hk' (he.symm.trans he')
        exact ⟨rfl, hg⟩
      · exact absurd he (hno a b c d hk)
    · obtain ⟨k1, k2, _⟩ := spB_ok hk
      have hl : (txtFl a b).length ≤ s.size ∧ (txtFl c d).length ≤ s.size := by
        have := congrArg List.length he
        rw [s_len] at this
        unfold txtSl at this
        simp at this
        omega
      obtain ⟨a1, b1, r1, n1, HL⟩ := iRdF ⟨(txtFl a b).toArray⟩ (by show (txtFl a b).toArray.size ≤ _; simp; omega)
      obtain ⟨c1, d1, r2, n2, HM⟩ := iRdF ⟨(txtFl c d).toArray⟩ (by show (txtFl c d).toArray.size ≤ _; simp; omega)
      rw [ba_list] at n1 n2
      cases r1 with
      | false => exact absurd rfl (n1.2 rfl a b k1)
      | true =>
        cases r2 with
        | false => exact absurd rfl (n2.2 rfl c d k2)
        | true =>
          obtain ⟨m1, e1⟩ := n1.1 rfl
          obtain ⟨m2, e2⟩ := n2.1 rfl
          obtain ⟨rfl, rfl⟩ := txtFl_inj k1 m1 e1
          obtain ⟨rfl, rfl⟩ := txtFl_inj k2 m2 e2
          have hc : cutQ s ⟨(txtFl a b).toArray⟩ ⟨(txtFl c d).toArray⟩ true := by
            unfold cutQ
            rw [he, txtSl_cut]
          intro w T
          exact iRSp s _ _ true a b c d 0 0 a b c d 0 w hs T hc HL HM (.inl ⟨rfl, rfl, hk, ⟨rfl, rfl, rfl, rfl⟩, rfl⟩)
  · refine ⟨0, 0, 0, 0, 5, fun w => (sReadSpan s w hs).mono ?_, ?_⟩
    · rintro e w' ⟨⟨p, q, p', q', ⟨hk', he', rfl⟩ | ⟨hno, rfl⟩⟩, hg⟩
      · exact absurd ⟨p, q, p', q', hk', he'⟩ hF
      · exact ⟨rfl, hg⟩
    · obtain ⟨o, u, bb, hc, ho, hu, hx⟩ : ∃ (o u : ByteArray) (bb : Bool), cutQ s o u bb ∧ o.size ≤ 1048576 ∧ u.size ≤ 1048576 ∧ (s.data.toList = o.data.toList ++ 46 :: 46 :: u.data.toList ∨ u.data.toList = []) := by
        rcases cut_cases s.data.toList 46 [46] with ⟨x, y, h, he⟩ | h
        · have hl := congrArg List.length he
          rw [s_len] at hl
          simp at hl
          exact ⟨⟨x.toArray⟩, ⟨y.toArray⟩, true, h, by show x.toArray.size ≤ _; simp; omega, by show y.toArray.size ≤ _; simp; omega, .inl (by rw [he]; simp)⟩
        · exact ⟨s, ⟨#[]⟩, false, h, hs, by decide, .inr rfl⟩
      obtain ⟨a, b, r1, n1, HL⟩ := iRdF o ho
      obtain ⟨c, d, r2, n2, HM⟩ := iRdF u hu
      have hno : ¬ (r1 = true ∧ r2 = true ∧ spB a b c d = true) := fun ⟨h1, h2, h3⟩ => by
        obtain ⟨_, e1⟩ := n1.1 h1
        obtain ⟨_, e2⟩ := n2.1 h2
        rcases hx with hx | hx
        · exact hF ⟨a, b, c, d, h3, by rw [hx, e1, e2]; rfl⟩
        · exact txtFl_ne (e2.symm.trans hx)
      intro w T
      cases r1 with
      | false =>
        cases r2 with
        | false => exact iRSp s o u bb a b c d 5 5 0 0 0 0 5 w hs T hc HL HM (.inr (.inr (.inr (.inr ⟨rfl, rfl, trivial, ⟨rfl, rfl, rfl, rfl⟩, rfl⟩))))
        | true => exact iRSp s o u bb a b c d 5 0 0 0 0 0 5 w hs T hc HL HM (.inr (.inr (.inr (.inl ⟨rfl, rfl, trivial, ⟨rfl, rfl, rfl, rfl⟩, rfl⟩))))
      | true =>
        cases r2 with
        | false => exact iRSp s o u bb a b c d 0 5 0 0 0 0 5 w hs T hc HL HM (.inr (.inr (.inl ⟨rfl, rfl, trivial, ⟨rfl, rfl, rfl, rfl⟩, rfl⟩)))
        | true =>
          cases hv : spB a b c d with
          | true => exact absurd ⟨rfl, rfl, hv⟩ hno
          | false => exact iRSp s o u bb a b c d 0 0 0 0 0 0 5 w hs T hc HL HM (.inr (.inl ⟨rfl, rfl, hv, ⟨rfl, rfl, rfl, rfl⟩, rfl⟩))
end Go.Proofs.YtpadjkgbeijkpaaDoor
