/- The law DecBetween: joined. -/
import Derived.Test.YtponhogmbbjnbaaQg
namespace Go.Proofs.Ytponhogmbbjnbaa
open Go.RowKit
set_option linter.unusedVariables false

theorem tv_same (a b : Int) (t : Nat) : tv a t (-b) t = a - b := by unfold tv; simp; omega
theorem of_one (t : Nat) (w : World) (ht : (t : Int) ≤ 18) :
    Calls Try.prog 13 #[.int .i64 1, .int .i64 t] w fun e w' => e = .returned (.tuple #[.agg #[.int .i64 0, .int .u64 1, .int .i64 t], .int .i64 0]) ∧ Below w.heap.size w w' := by
  have h := of_ok 1 t w (by omega) (by omega) ht
  rw [show dhi 1 = 0 by decide, show dlo 1 = 1 by decide] at h
  exact h
theorem dlo_next (L : Int) : ¬ dlo (L + 1) = dlo L := by unfold dlo; omega
theorem between_walk (h l s t : Int) (wh : (Lit.int .i64 h).wf = true) (wl : (Lit.int .u64 l).wf = true) (w : World) :
    Calls Try.prog 3 #[.agg #[.int .i64 h, .int .u64 l, .int .i64 s], .int .i64 t] w fun e w' => e = .returned (.bool true) ∧ Below w.heap.size w w' := by
  by_cases ht : t < 0 ∨ 18 < t
  · exact between_lo h l s t 0 0 0 1 1 w (by omega) (fun w => rescale_arg h l s t 2 w (Or.inl ht)) (fun w => rescale_arg h l s t 3 w (Or.inl ht))
  rcases form_cases h l s wh wl with hb | ⟨c, n, rfl, rfl, rfl, ic, hn⟩
  · exact between_lo h l s t 0 0 0 3 3 w (by omega) (fun w => rescale_form h l s t 2 w (by omega) (by omega) (by omega) hb) (fun w => rescale_form h l s t 3 w (by omega) (by omega) (by omega) hb)
  obtain ⟨u, rfl⟩ : ∃ u : Nat, t = u := ⟨t.toNat, by omega⟩
  have hu : (u : Int) ≤ 18 := by omega
  by_cases h2 : InR (rv c n u 2)
  · by_cases h3 : InR (rv c n u 3)
    · obtain ⟨f1, f2, f3⟩ := between_facts c n u
      have R2 := fun w => rescale_yes c n u 2 w ic hn hu (by omega) h2
      have R3 := fun w => rescale_yes c n u 3 w ic hn hu (by omega) h3
      have C1 := fun w => cmp_yes (rv c n u 2) c u n w h2 ic hu hn
      have C2 := fun w => cmp_yes c (rv c n u 3) n u w ic h3 hn hu
      have RM : ∀ (m : Nat), (m : Int) ≤ 6 → (∀ w, Calls Try.prog 10 #[.agg #[.int .i64 (dhi c), .int .u64 (dlo c), .int .i64 n], .int .i64 u, .int .i64 m] w fun e w' => e = .returned (.tuple #[.agg #[.int .i64 (dhi (rv c n u 2)), .int .u64 (dlo (rv c n u 2)), .int .i64 u], .int .i64 0]) ∧ Below w.heap.size w w')
          ∨ (∀ w, Calls Try.prog 10 #[.agg #[.int .i64 (dhi c), .int .u64 (dlo c), .int .i64 n], .int .i64 u, .int .i64 m] w fun e w' => e = .returned (.tuple #[.agg #[.int .i64 (dhi (rv c n u 3)), .int .u64 (dlo (rv c n u 3)), .int .i64 u], .int .i64 0]) ∧ Below w.heap.size w w') := by
        intro m hm
        rcases f3 m with e | e
        · exact Or.inl fun w => by rw [← e]; exact rescale_yes c n u m w ic hn hu hm (by rw [e]; exact h2)
        · exact Or.inr fun w => by rw [← e]; exact rescale_yes c n u m w ic hn hu hm (by rw [e]; exact h3)
      have S := fun w (hg : InR (tv (rv c n u 3) u (-(rv c n u 2)) u)) => sub_yes (rv c n u 3) (rv c n u 2) u u w h3 h2 hu hu hg
      rw [tv_same, Nat.max_self] at S
      rcases f1 with ⟨g, k⟩ | ⟨g, k⟩
      · have e : rv c n u 3 = rv c n u 2 := by omega
        rw [g, dhi_0, dlo_0] at S
        rw [k] at C1
        rw [e] at R3 C2 S
        rw [e] at f2
        refine between_same _ _ _ _ _ _ w f2 R2 R3 C1 C2 (fun w => S w InR.zero) (fun w => of_one u w hu) (fun m hm w => ?_)
        rcases RM m hm with r | r
        · exact r w
        · have := r w; rw [e] at this; exact this
      · have e : rv c n u 3 = rv c n u 2 + 1 := by omega
        rw [g, show dhi 1 = 0 by decide, show dlo 1 = 1 by decide] at S
        rw [k] at C1
        exact between_next _ _ _ _ _ _ _ w f2 (by rw [e]; exact dlo_next _) R2 R3 C1 C2 (fun w => S w ⟨by decide, by decide⟩) (fun w => of_one u w hu) RM
    · exact between_hi _ _ _ _ _ _ _ 4 w (by omega) (fun w => rescale_yes c n u 2 w ic hn hu (by omega) h2) (fun w => rescale_no c n u 3 w ic hn hu (by omega) h3)
  · by_cases h3 : InR (rv c n u 3)
    · exact between_lo _ _ _ _ _ _ _ 4 _ w (by omega) (fun w => rescale_no c n u 2 w ic hn hu (by omega) h2) (fun w => rescale_yes c n u 3 w ic hn hu (by omega) h3)
    · exact between_lo _ _ _ _ _ _ _ 4 _ w (by omega) (fun w => rescale_no c n u 2 w ic hn hu (by omega) h2) (fun w => rescale_no c n u 3 w ic hn hu (by omega) h3)
end Go.Proofs.Ytponhogmbbjnbaa
