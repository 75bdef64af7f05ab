/- Business days, and rolls: the contracts of cal's inner functions over a list of holidays. -/
import Derived.Test.YthbnjdkmlendhaaDoorCi
namespace Go.Proofs.YthbnjdkmlendhaaDoor
open Go.RowKit
set_option linter.unusedVariables false

/-- The slice v holds the numbers zs. -/
structure Hol (w : World) (v : Value) (zs : List Int) : Prop where
  cases : (∃ a c, v = .slice a 0 c ∧ zs = []) ∨ ∃ b off len c, v = .slice (Option.some ⟨b, off, Option.none⟩) len c ∧ zs.length = len ∧ len ≤ 400 ∧ ∀ k, k < len → w.cell? ⟨b, off + k, Option.none⟩ = Option.some (.int .i64 (zs.getD k 0))
theorem Hol.none {w : World} (a : Option Addr) (c : Nat) : Hol w (.slice a 0 c) [] := ⟨Or.inl ⟨a, c, rfl, rfl⟩⟩
theorem Hol.some {w : World} (b off len c : Nat) (zs : List Int) (hl : zs.length = len) (hm : len ≤ 400) (hc : ∀ k, k < len → w.cell? ⟨b, off + k, Option.none⟩ = Option.some (.int .i64 (zs.getD k 0))) : Hol w (.slice (Option.some ⟨b, off, Option.none⟩) len c) zs := ⟨Or.inr ⟨b, off, len, c, rfl, hl, hm, hc⟩⟩
/-- Is business done? -/
def Bus (n : Int) (zs : List Int) : Prop := (n - 1) % 7 < 5 ∧ n ∉ zs
instance (n : Int) (zs : List Int) : Decidable (Bus n zs) := by unfold Bus; exact inferInstance
theorem mem_getD {n : Int} {zs : List Int} (h : n ∈ zs) : ∃ k, k < zs.length ∧ zs.getD k 0 = n := by
  obtain ⟨k, hk, e⟩ := List.getElem_of_mem h
  exact ⟨k, hk, by simp [hk, e]⟩
theorem getD_mem {k : Nat} {zs : List Int} (h : k < zs.length) : zs.getD k 0 ∈ zs := by simp [h]
theorem bus_none (n : Int) (a : Option Addr) (c : Nat) (w : World) (h1 : 1 ≤ n) (h2 : n ≤ 3652059) :
    Calls Tryd.prog 14 #[.int .i64 n, .slice a 0 c] w fun e w' => e = .returned (.bool (decide (Bus n []))) ∧ w' = w := by
  by_cases hb : (n - 1) % 7 < 5
  · have e : decide (Bus n []) = true := by simp [Bus, hb]
    rw [e]
    go_enter Tryd.func14, Tryd.ntmps14
    go_wp2_with fail
    refine (weekday_ok n _ h1 h2).mono ?_
    rintro e w1 ⟨rfl, rfl⟩
    go_wp2_with fail
    refine wp_loop_rounds 1 ?_
    rw [rounds_succ]
    go_wp2_with fail
    go_ret
    exact ⟨rfl, rfl⟩
  · have e : decide (Bus n []) = false := by simp [Bus, hb]
    rw [e]
    go_enter Tryd.func14, Tryd.ntmps14
    go_wp2_with fail
    refine (weekday_ok n _ h1 h2).mono ?_
    rintro e w1 ⟨rfl, rfl⟩
    go_wp2_with fail
    go_ret
    exact ⟨rfl, rfl⟩
theorem bus_some (n : Int) (b off len c : Nat) (zs : List Int) (w : World) (h1 : 1 ≤ n) (h2 : n ≤ 3652059) (hl : zs.length = len) (hm : len ≤ 400) (hc : ∀ k, k < len → w.cell? ⟨b, off + k, none⟩ = some (.int .i64 (zs.getD k 0))) :
    Calls Tryd.prog 14 #[.int .i64 n, .slice (some ⟨b, off, none⟩) len c] w fun e w' => e = .returned (.bool (decide (Bus n zs))) ∧ w' = w := by
  by_cases hb : (n - 1) % 7 < 5
  · have HC := (show Hid _ from hc)
    have HL : Hid (zs.length = len) := hl
    clear hc hl
    go_enter Tryd.func14, Tryd.ntmps14
    go_wp2_with fail
    refine (weekday_ok n _ h1 h2).mono ?_
    rintro e w1 ⟨rfl, rfl⟩
    go_wp2_with fail
    go_loop [12] (fun i => ∃ k : Nat, k ≤ len ∧ i = .int .i64 k ∧ Hid (∀ j, j < k → zs.getD j 0 ≠ n)) (fun i => len - (intOf i).toNat)
    case atStart => exact ⟨0, by omega, rfl, fun j hj => by omega⟩
    case round =>
      obtain ⟨k, hk, rfl, hno⟩ := hrel
      by_cases hkl : k = len
      · subst hkl
        go_wp2_with fail
        go_ret
        refine ⟨?_, rfl⟩
        have : Bus n zs := ⟨hb, fun hmem => by
          obtain ⟨j, hj, e⟩ := mem_getD hmem
          exact hno.out j (by have := HL.out; omega) e⟩
        simp [this]
      · have hkl' : k < len := by omega
        have hcell := HC.out k hkl'
        rw [List.getD_eq_getElem?_getD] at hcell
        by_cases he : zs[k]?.getD 0 = n
        · rw [he] at hcell
          go_wp2_with fail
          go_ret
          refine ⟨?_, rfl⟩
          have : ¬ Bus n zs := fun hB => hB.2 (by rw [← he, ← List.getD_eq_getElem?_getD]; exact getD_mem (by have := HL.out; omega))
          simp [this]
        · have he' : (zs[k]?.getD 0 == n) = false := by simp [he]
          go_wp2_with fail
          exact ⟨⟨k + 1, by omega, by go_num, fun j hj => by
            by_cases hjk : j = k
            · subst hjk; rw [List.getD_eq_getElem?_getD]; exact he
            · exact hno.out j (by omega)⟩, by simp [intOf]; omega⟩
  · have e : decide (Bus n zs) = false := by simp [Bus, hb]
    rw [e]
    clear hc
    go_enter Tryd.func14, Tryd.ntmps14
    go_wp2_with fail
    refine (weekday_ok n _ h1 h2).mono ?_
    rintro e w1 ⟨rfl, rfl⟩
    go_wp2_with fail
    go_ret
    exact ⟨rfl, rfl⟩
theorem business_ok (n : Int) (v : Value) (zs : List Int) (w : World) (h1 : 1 ≤ n) (h2 : n ≤ 3652059) (h : Hol w v zs) :
    Calls Tryd.prog 14 #[.int .i64 n, v] w fun e w' => e = .returned (.bool (decide (Bus n zs))) ∧ w' = w := by
  rcases h.cases with ⟨a, c, rfl, rfl⟩ | ⟨b, off, len, c, rfl, hl, hm, hc⟩
  · exact bus_none n a c w h1 h2
  · exact bus_some n b off len c zs w h1 h2 hl hm hc
end Go.Proofs.YthbnjdkmlendhaaDoor
