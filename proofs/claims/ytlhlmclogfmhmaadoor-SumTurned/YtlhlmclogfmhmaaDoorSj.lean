/- sum: the walk of SumTurned. -/
import Derived.Test.YtlhlmclogfmhmaaDoorSi
namespace Go.Proofs.YtlhlmclogfmhmaaDoor
open Go.RowKit
set_option linter.unusedVariables false

set_option maxHeartbeats 1000000 in
set_option maxRecDepth 100000 in
theorem sumTurned_walk (v : Value) (bs : List Nat) (A K : Nat) (w : World) (h : Bs w v bs) (hl : bs.length ≤ 140737488355328) (T : Tb w) (hA : A ≤ 65535) (hK : K ≤ 255) :
    Calls Tryd.prog 5 #[v, .int .u16 A, .int .u8 K] w fun e w' => e = .returned (.bool true) ∧ Below w.heap.size w w' := by
  have H := (show Hid _ from h)
  have HT := (show Hid _ from T)
  have hw1 := T.lt
  obtain ⟨n, hn⟩ : ∃ n, n = bs.length := ⟨_, rfl⟩
  have HN := (show Hid _ from hn)
  have hv := (show ∃ a c, v = .slice a n c ∧ n ≤ c ∧ c ≤ 9223372036854775807 from by obtain ⟨_, a, c, e, h1, h2, _⟩ := h; exact ⟨a, c, by rw [hn]; exact e, by rw [hn]; exact h1, h2⟩)
  obtain ⟨a, c, rfl, hc1, hc2⟩ := hv
  have HLN : Hid (bs.length ≤ 140737488355328) := hl
  clear h T hn hl
  go_enter Tryd.func5, Tryd.ntmps5
  go_wp2_with fail
  refine (awake_ok _ HT.out).mono ?_
  rintro e w1 ⟨rfl, hb1⟩
  have H1 := (show Hid _ from H.out.step hb1)
  have B1 := (show Hid _ from hb1)
  clear hb1 H HT
  by_cases h0 : n = 0
  · have e0 : bs = [] := List.eq_nil_of_length_eq_zero (by have := HN.out; omega)
    subst h0
    subst e0
    go_wp2_with fail
    refine (crc_ok _ [] _ H1.out).mono ?_
    rintro e w2 ⟨rfl, rfl⟩
    rw [crc_nil]
    go_wp2_with fail
    go_ret
    exact ⟨rfl, B1.out⟩
  go_wp2_with fail
  refine (twin_ok _ bs _ H1.out HLN.out).mono ?_
  rintro e w2 ⟨⟨u, rfl, ho⟩, hb2⟩
  rcases ho.head with ⟨_, e0⟩ | ⟨g, cap, rfl, hg1, hg2, hg3, hg4⟩
  · exact absurd (by rw [HN.out, e0]; rfl) h0
  rw [← HN.out] at ho hg3 ⊢
  have H2 := (show Hid _ from H1.out.step hb2)
  have B2 := (show Hid _ from B1.out.trans (hb2.mono B1.out.size))
  have HB12 := (show Hid _ from hb2)
  obtain ⟨q, hq⟩ : ∃ q, q = A % n := ⟨_, rfl⟩
  have hqn : q < n := by rw [hq]; exact Nat.mod_lt _ (by omega)
  have e1 : (A : Int).tmod (n : Int) = (q : Int) := by rw [hq, Int.tmod_eq_emod_of_nonneg (by omega)]; rfl
  have c1 := ho.cell HN.out.symm q hqn
  have f1 := ho.free q
  have hx := by_getD ho.byte q
  have ho' := (show Hid _ from ho)
  unfold bt at c1
  have HX : Hid (bs.getD q 0 = bs.getD q 0) := rfl
  obtain ⟨x, hxx⟩ : ∃ x, x = bs.getD q 0 := ⟨_, rfl⟩
  have HXX := (show Hid _ from hxx)
  rw [← hxx] at c1 hx
  obtain ⟨tn1, tn2⟩ := turn_ne x (K % 8) hx (Nat.mod_lt _ (by omega))
  have HD : Hid (bits .xor .u8 (x : Int) (2 ^ (K % 8) % 256) = ((x ^^^ 2 ^ (K % 8) : Nat) : Int)) := by
    have hp : 2 ^ (K % 8) < 256 := Nat.lt_of_lt_of_le (Nat.pow_lt_pow_right (by omega) (Nat.mod_lt K (by omega : 0 < 8))) (by decide)
    have := u8_xor_nat x (2 ^ (K % 8)) hx hp
    show _ = _
    rw [← this]
    congr 1
    obtain ⟨t, ht⟩ : ∃ t : Nat, t = 2 ^ (K % 8) := ⟨_, rfl⟩
    rw [← ht] at hp
    rw [show ((2 : Int) ^ (K % 8)) = (t : Int) by rw [ht]; simp, ← ht]
    omega
  have HT2 : Hid (x ^^^ 2 ^ (K % 8) ≠ x ∧ x ^^^ 2 ^ (K % 8) < 256) := ⟨tn1, tn2⟩
  clear tn1 tn2
  clear ho hq hxx hb2 HX
  go_wp2_with fail
  rw [HD.out]
  have hd := HT2.out
  generalize x ^^^ 2 ^ (K % 8) = d at *
  have O3 := ho'.out.set HN.out.symm q d hd.2
  have X3 := (show Hid _ from O3.bs)
  have B3 := (show Hid _ from B2.out.setCell (p := ⟨g, q, none⟩) (by have := B1.out.size; show w.heap.size ≤ g; omega) (.int .u8 (d : Int)))
  have Y3 := (show Hid _ from H1.out.step (HB12.out.setCell (p := ⟨g, q, none⟩) hg1 (.int .u8 (d : Int))))
  have hne := crc_set bs q d ho'.out.byte hd.2 (by have := HN.out; omega) (by rw [← HXX.out]; exact hd.1)
  clear O3 ho' c1 f1
  generalize w2.setCell ⟨g, q, none⟩ (.int .u8 (d : Int)) = w3 at *
  refine (crc_ok _ (bs.set q d) _ X3.out).mono ?_
  rintro e w4 ⟨rfl, rfl⟩
  go_wp2_with fail
  refine (crc_ok _ bs _ Y3.out).mono ?_
  rintro e w5 ⟨rfl, rfl⟩
  generalize crc (bs.set q d) = s1 at *
  generalize crc bs = s2 at *
  have n1 : ¬ ((s1 : Int) = (s2 : Int)) := by omega
  have n2 : ((s1 : Int) == (s2 : Int)) = false := by simpa using n1
  have n3 : ((s1 : Int) != (s2 : Int)) = true := by simp [bne, n2]
  go_wp2_with fail
  go_ret
  exact ⟨rfl, B3.out⟩
end Go.Proofs.YtlhlmclogfmhmaaDoor
