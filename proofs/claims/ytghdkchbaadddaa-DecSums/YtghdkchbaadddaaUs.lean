/- The law DecSums, of all decimals. -/
import Derived.Test.YtghdkchbaadddaaUr
namespace Go.Proofs.Ytghdkchbaadddaa
open Go.RowKit
set_option linter.unusedVariables false

theorem dadd_ay (ca cb : Int) (sa sb : Nat) (w : World) (ia : InR ca) (ib : InR cb) (hsa : (sa : Int) ≤ 18) (hsb : (sb : Int) ≤ 18) (hr : InR (tv ca sa cb sb)) :
    Calls Try.prog 10 #[.agg #[.int .i64 (dhi ca), .int .u64 (dlo ca), .int .i64 sa], .agg #[.int .i64 (dhi cb), .int .u64 (dlo cb), .int .i64 sb], .bool false] w fun e w' => e = .returned (.tuple #[.agg #[.int .i64 (dhi (tv ca sa cb sb)), .int .u64 (dlo (tv ca sa cb sb)), .int .i64 ((max sa sb : Nat) : Int)], .int .i64 0]) ∧ Below w.heap.size w w' := by
  by_cases hlt : sa < sb
  · rw [show max sa sb = sb by omega]; exact dadd_aylt ca cb sa sb w ia ib hsa hsb hlt hr
  · rw [show max sa sb = sa by omega]; exact dadd_ayge ca cb sa sb w ia ib hsa hsb hlt hr
theorem dadd_an (ca cb : Int) (sa sb : Nat) (w : World) (ia : InR ca) (ib : InR cb) (hsa : (sa : Int) ≤ 18) (hsb : (sb : Int) ≤ 18) (hr : ¬ InR (tv ca sa cb sb)) :
    Calls Try.prog 10 #[.agg #[.int .i64 (dhi ca), .int .u64 (dlo ca), .int .i64 sa], .agg #[.int .i64 (dhi cb), .int .u64 (dlo cb), .int .i64 sb], .bool false] w fun e w' => e = .returned (.tuple #[.agg #[.int .i64 0, .int .u64 0, .int .i64 0], .int .i64 4]) ∧ Below w.heap.size w w' := by
  by_cases hlt : sa < sb
  · exact dadd_anlt ca cb sa sb w ia ib hsa hsb hlt hr
  · exact dadd_ange ca cb sa sb w ia ib hsa hsb hlt hr
theorem dadd_sy (ca cb : Int) (sa sb : Nat) (w : World) (ia : InR ca) (ib : InR cb) (hsa : (sa : Int) ≤ 18) (hsb : (sb : Int) ≤ 18) (hr : InR (tv ca sa (-cb) sb)) :
    Calls Try.prog 10 #[.agg #[.int .i64 (dhi ca), .int .u64 (dlo ca), .int .i64 sa], .agg #[.int .i64 (dhi cb), .int .u64 (dlo cb), .int .i64 sb], .bool true] w fun e w' => e = .returned (.tuple #[.agg #[.int .i64 (dhi (tv ca sa (-cb) sb)), .int .u64 (dlo (tv ca sa (-cb) sb)), .int .i64 ((max sa sb : Nat) : Int)], .int .i64 0]) ∧ Below w.heap.size w w' := by
  by_cases hlt : sa < sb
  · rw [show max sa sb = sb by omega]; exact dadd_sylt ca cb sa sb w ia ib hsa hsb hlt hr
  · rw [show max sa sb = sa by omega]; exact dadd_syge ca cb sa sb w ia ib hsa hsb hlt hr
theorem dadd_sn (ca cb : Int) (sa sb : Nat) (w : World) (ia : InR ca) (ib : InR cb) (hsa : (sa : Int) ≤ 18) (hsb : (sb : Int) ≤ 18) (hr : ¬ InR (tv ca sa (-cb) sb)) :
    Calls Try.prog 10 #[.agg #[.int .i64 (dhi ca), .int .u64 (dlo ca), .int .i64 sa], .agg #[.int .i64 (dhi cb), .int .u64 (dlo cb), .int .i64 sb], .bool true] w fun e w' => e = .returned (.tuple #[.agg #[.int .i64 0, .int .u64 0, .int .i64 0], .int .i64 4]) ∧ Below w.heap.size w w' := by
  by_cases hlt : sa < sb
  · exact dadd_snlt ca cb sa sb w ia ib hsa hsb hlt hr
  · exact dadd_snge ca cb sa sb w ia ib hsa hsb hlt hr

theorem sums_walk (ha la sa hb lb sb : Int) (wha : (Lit.int .i64 ha).wf = true) (wla : (Lit.int .u64 la).wf = true) (whb : (Lit.int .i64 hb).wf = true) (wlb : (Lit.int .u64 lb).wf = true) (w : World) :
    Calls Try.prog 3 #[.agg #[.int .i64 ha, .int .u64 la, .int .i64 sa], .agg #[.int .i64 hb, .int .u64 lb, .int .i64 sb]] w fun e w' => e = .returned (.bool true) ∧ Below w.heap.size w w' := by
  rcases form_cases ha la sa wha wla with hbad | ⟨ca, n, rfl, rfl, rfl, ia, hn⟩
  · exact sums_no ha la sa hb lb sb _ _ _ _ _ _ _ _ _ _ _ _ _ _ _ _ w
      (fun w => add_bad ha la sa hb lb sb w fun w => both_bad1 ha la sa hb lb sb w hbad) (fun w => dadd_bad1 ha la sa hb lb sb false w hbad)
      (fun w => sub_bad ha la sa hb lb sb w fun w => both_bad1 ha la sa hb lb sb w hbad) (fun w => dadd_bad1 ha la sa hb lb sb true w hbad)
      (fun w => cmp_bad ha la sa hb lb sb w fun w => both_bad1 ha la sa hb lb sb w hbad) (fun w => dcmp_bad1 ha la sa hb lb sb w hbad)
      (fun w => neg_bad ha la sa w hbad) (fun w => dneg_bad ha la sa w hbad) (fun w => sign_bad ha la sa w hbad) (fun w => dsign_bad ha la sa w hbad) (fun w => check_bad ha la sa w hbad) (fun w => form_no ha la sa w hbad)
  · have N1 := fun w => neg_ok ca _ _ n w (IsD.self _) ia hn
    have N2 := fun w => dneg_ok ca n w ia hn
    have G1 := fun w => sign_ok ca _ _ n w (IsD.self _) ia hn
    have G2 := fun w => dsign_ok ca n w ia hn
    have K1 := fun w => check_ok ca _ _ n w (IsD.self _) ia hn
    have K2 := fun w => form_yes ca n w ia hn
    rcases form_cases hb lb sb whb wlb with hbad | ⟨cb, m, rfl, rfl, rfl, ib, hm⟩
    · exact sums_yes _ _ _ hb lb sb _ _ _ _ _ _ _ _ _ _ _ _ _ _ _ _ w
        (fun w => add_bad _ _ _ hb lb sb w fun w => both_bad2 ca _ _ hb lb sb n w (IsD.self _) ia hn hbad) (fun w => dadd_bad2 _ _ _ hb lb sb false w ca n ia hn rfl rfl rfl hbad)
        (fun w => sub_bad _ _ _ hb lb sb w fun w => both_bad2 ca _ _ hb lb sb n w (IsD.self _) ia hn hbad) (fun w => dadd_bad2 _ _ _ hb lb sb true w ca n ia hn rfl rfl rfl hbad)
        (fun w => cmp_bad _ _ _ hb lb sb w fun w => both_bad2 ca _ _ hb lb sb n w (IsD.self _) ia hn hbad) (fun w => dcmp_bad2 _ _ _ hb lb sb w ca n ia hn rfl rfl rfl hbad)
        N1 N2 G1 G2 K1 K2
    · have C1 := fun w => cmp_yes ca cb n m w ia ib hn hm
      have C2 := fun w => dcmp_ok ca cb n m w ia ib hn hm
      by_cases h1 : InR (tv ca n cb m)
      · have S1 := fun w => add_yes ca cb n m w ia ib hn hm h1
        have S2 := fun w => dadd_ay ca cb n m w ia ib hn hm h1
        by_cases h2 : InR (tv ca n (-cb) m)
        · exact sums_yes _ _ _ _ _ _ _ _ _ _ _ _ _ _ _ _ _ _ _ _ _ _ w S1 S2 (fun w => sub_yes ca cb n m w ia ib hn hm h2) (fun w => dadd_sy ca cb n m w ia ib hn hm h2) C1 C2 N1 N2 G1 G2 K1 K2
        · exact sums_yes _ _ _ _ _ _ _ _ _ _ _ _ _ _ _ _ _ _ _ _ _ _ w S1 S2 (fun w => sub_not ca cb n m w ia ib hn hm h2) (fun w => dadd_sn ca cb n m w ia ib hn hm h2) C1 C2 N1 N2 G1 G2 K1 K2
      · have S1 := fun w => add_not ca cb n m w ia ib hn hm h1
        have S2 := fun w => dadd_an ca cb n m w ia ib hn hm h1
        by_cases h2 : InR (tv ca n (-cb) m)
        · exact sums_yes _ _ _ _ _ _ _ _ _ _ _ _ _ _ _ _ _ _ _ _ _ _ w S1 S2 (fun w => sub_yes ca cb n m w ia ib hn hm h2) (fun w => dadd_sy ca cb n m w ia ib hn hm h2) C1 C2 N1 N2 G1 G2 K1 K2
        · exact sums_yes _ _ _ _ _ _ _ _ _ _ _ _ _ _ _ _ _ _ _ _ _ _ w S1 S2 (fun w => sub_not ca cb n m w ia ib hn hm h2) (fun w => dadd_sn ca cb n m w ia ib hn hm h2) C1 C2 N1 N2 G1 G2 K1 K2
end Go.Proofs.Ytghdkchbaadddaa
