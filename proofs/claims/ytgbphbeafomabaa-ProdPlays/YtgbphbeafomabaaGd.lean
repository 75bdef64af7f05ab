/- prod: tiers alone: the program's Tiers and the document's. -/
import Derived.Test.YtgbphbeafomabaaGc
namespace Go.Proofs.Ytgbphbeafomabaa
open Go.RowKit
set_option linter.unusedVariables false

def tf (ts : List (Int × Int)) (i : Nat) : Int := (ts.getD i (0, 0)).1
def tr (ts : List (Int × Int)) (i : Nat) : Int := (ts.getD i (0, 0)).2
/-- is the tier number i as it should be? -/
def gdb (ts : List (Int × Int)) (i : Nat) : Bool := decide ((i = 0 → tf ts i = 0) ∧ (0 < i → tf ts (i - 1) < tf ts i) ∧ tf ts i ≤ 10000000000000 ∧ 0 ≤ tr ts i ∧ tr ts i ≤ 1000000000)
def terr (ts : List (Int × Int)) : Int := if 8 < ts.length then 2 else if ts.length = 0 then 3 else if (List.range ts.length).all (gdb ts) then 0 else 3
theorem terr_long {ts : List (Int × Int)} (h : 8 < ts.length) : terr ts = 2 := by unfold terr; rw [if_pos h]
theorem terr_none {ts : List (Int × Int)} (h : ts.length = 0) : terr ts = 3 := by unfold terr; rw [if_neg (by omega), if_pos h]
theorem terr_bad {ts : List (Int × Int)} (h : ¬ 8 < ts.length) {i : Nat} (hi : i < ts.length) (hb : gdb ts i = false) : terr ts = 3 := by
  unfold terr
  rw [if_neg h, if_neg (by omega), if_neg]
  intro e
  have := List.all_eq_true.1 e i (List.mem_range.2 hi)
  rw [hb] at this
  cases this
theorem terr_ok {ts : List (Int × Int)} (h : ¬ 8 < ts.length) (h0 : ts.length ≠ 0) (hg : ∀ i, i < ts.length → gdb ts i = true) : terr ts = 0 := by
  unfold terr
  rw [if_neg h, if_neg h0, if_pos]
  exact List.all_eq_true.2 (fun i hi => hg i (List.mem_range.1 hi))
theorem Tr.cells {w : World} {a : Option Addr} {n c : Nat} {ts : List (Int × Int)} (h : Tr w (.slice a n c) ts) (k : Nat) (hk : k < n) : ∃ b off, a = some ⟨b, off, none⟩ ∧ w.cell? ⟨b, off + k * 2, none⟩ = some (.int .i64 (tf ts k)) ∧ w.cell? ⟨b, off + k * 2 + 1, none⟩ = some (.int .i64 (tr ts k)) := by
  obtain ⟨b, off, e, _, h1, h2⟩ := h.at k hk
  rw [Nat.mul_comm 2 k] at h1 h2
  exact ⟨b, off, e, h1, h2⟩
set_option maxHeartbeats 1000000 in
set_option maxRecDepth 100000 in
theorem tiers_ok (tv : Value) (ts : List (Int × Int)) (w : World) (h : Tr w tv ts) :
    Calls Try.prog 12 #[tv] w fun e w' => e = .returned (.int .i64 (terr ts)) ∧ Below w.heap.size w w' := by
  obtain ⟨n, hn⟩ : ∃ n, n = ts.length := ⟨_, rfl⟩
  have H := (show Hid _ from h)
  obtain ⟨ta, tc, rfl, g1, g2⟩ : ∃ a c, tv = .slice a n c ∧ n ≤ c ∧ c ≤ 9223372036854775807 := by obtain ⟨_, a, c, e, h1, h2, _⟩ := h; exact ⟨a, c, by rw [hn]; exact e, by rw [hn]; exact h1, h2⟩
  have HN := (show Hid _ from hn)
  clear h hn
  by_cases h8 : 8 < n
  · rw [terr_long (by have := HN.out; omega)]
    go_enter Try.func12, Try.ntmps12
    go_wp2_with fail
    go_ret
    exact ⟨rfl, Below.refl _ _⟩
  by_cases h0 : n = 0
  · rw [terr_none (by have := HN.out; omega)]
    subst h0
    go_enter Try.func12, Try.ntmps12
    go_wp2_with fail
    go_ret
    exact ⟨rfl, Below.refl _ _⟩
  have h0' : ¬ ((n : Int) = 0) := by omega
  have hp : 0 < n := by omega
  obtain ⟨b, off, rfl, y1, y2⟩ := H.out.cells 0 hp
  rw [Nat.zero_mul, Nat.add_zero] at y1 y2
  by_cases hf : tf ts 0 = 0
  · rw [hf] at y1
    clear y2
    have HF := (show Hid _ from hf)
    clear hf
    have e1 : ((n : Int) == 0) = false := by simpa using h0'
    go_enter Try.func12, Try.ntmps12
    go_wp2_with fail
    go_loopw [20] (fun i wr => ∃ k : Nat, k ≤ n ∧ i = .int .i64 k ∧ Hid (∀ i, i < k → gdb ts i = true) ∧ Below w.heap.size w wr) (fun i _ => n - (intOf i).toNat)
    case atStart => exact ⟨0, by omega, rfl, (fun i hi => by omega), Below.refl _ _⟩
    case round =>
      obtain ⟨k, hk, rfl, HG, hbel⟩ := hrel
      have HB := (show Hid _ from hbel)
      clear hbel y1
      by_cases hkn : k = n
      · subst hkn
        go_wp2_with fail
        go_ret
        exact ⟨by rw [terr_ok (by have := HN.out; omega) (by have := HN.out; omega) (fun i hi => HG.out i (by have := HN.out; omega))]; rfl, HB.out⟩
      have hk' : k < n := by omega
      obtain ⟨b', off', e, z1, z2⟩ := (H.out.step HB.out).cells k hk'
      cases e
      have d1 : (0 : Int) ≤ (k : Int) := by omega
      have d2 : (k : Int) < (n : Int) := by omega
      have hgd : gdb ts k = decide ((k = 0 → tf ts k = 0) ∧ (0 < k → tf ts (k - 1) < tf ts k) ∧ tf ts k ≤ 10000000000000 ∧ 0 ≤ tr ts k ∧ tr ts k ≤ 1000000000) := rfl
      have HGD := (show Hid _ from hgd)
      clear hgd
      have bad : Hid (gdb ts k = false → terr ts = 3) := fun hb => terr_bad (by have := HN.out; omega) (by have := HN.out; omega) hb
      have R0 : tf ts k ≤ 10000000000000 → wi (tr ts k) 0 1000000000 = true → (k = 0 → tf ts k = 0) → (0 < k → tf ts (k - 1) < tf ts k) → gdb ts k = true := by
        intro u1 u2 u3 u4
        rw [HGD.out]
        simp only [wi, decide_eq_true_eq] at u2 ⊢
        exact ⟨u3, u4, u1, u2.1, u2.2⟩
      have N1 : ¬ tf ts k ≤ 10000000000000 → gdb ts k = false := by
        intro u
        rw [HGD.out]
        simp only [decide_eq_false_iff_not]
        exact fun v => u v.2.2.1
      have N2 : wi (tr ts k) 0 1000000000 = false → gdb ts k = false := by
        intro u
        rw [HGD.out]
        simp only [wi, decide_eq_false_iff_not] at u ⊢
        exact fun v => u ⟨v.2.2.2.1, v.2.2.2.2⟩
      have N3 : 0 < k → ¬ tf ts (k - 1) < tf ts k → gdb ts k = false := by
        intro u0 u
        rw [HGD.out]
        simp only [decide_eq_false_iff_not]
        exact fun v => u (v.2.1 u0)
      have HR0 := (show Hid _ from R0)
      have HN1 := (show Hid _ from N1)
      have HN2 := (show Hid _ from N2)
      have HN3 := (show Hid _ from N3)
      clear R0 N1 N2 N3 HGD
      by_cases hk0 : k = 0
      · subst hk0
        rw [HF.out, Nat.zero_mul, Nat.add_zero] at z1
        rw [Nat.zero_mul, Nat.add_zero] at z2
        generalize tr ts 0 = r at *
        go_wp2_with fail
        go_quiet (fail)
        go_wp2_with fail
        refine (within64_ok _ _ _ _).mono ?_
        rintro e w2 ⟨rfl, rfl⟩
        cases hr : wi r 0 1000000000
        · go_wp2_with fail
          go_ret
          exact ⟨by rw [bad.out (HN2.out hr)]; rfl, (bel_drewN (HB.out.alloc HB.out.size _) _)⟩
        · go_wp2_with fail
          have G1 : ∀ i, i < 0 + 1 → gdb ts i = true := by
            intro i hi
            obtain rfl : i = 0 := by omega
            exact HR0.out (by rw [HF.out]; omega) hr (fun _ => HF.out) (fun h => by omega)
          exact ⟨⟨0 + 1, by omega, by go_num, G1, bel_drewN (HB.out.alloc HB.out.size _) _⟩, by simp [intOf]; omega⟩
      · obtain ⟨m, rfl⟩ : ∃ m, k = m + 1 := ⟨k - 1, by omega⟩
        obtain ⟨b', off', e, x1, x2⟩ := (H.out.step HB.out).cells m (by omega)
        cases e
        rw [Nat.add_sub_cancel] at HR0 HN3
        generalize tf ts m = f0 at *
        generalize tf ts (m + 1) = f1 at *
        generalize tr ts (m + 1) = r at *
        have d3 : (0 : Int) < ((m + 1 : Nat) : Int) := by omega
        have d4 : ((m + 1 : Nat) : Int) - 1 = (m : Int) := by omega
        have d5 : (0 : Int) ≤ (m : Int) := by omega
        have d6 : (m : Int) < (n : Int) := by omega
        have d7 : IntKind.i64.wrap (m : Int) = (m : Int) := by rw [IntKind.wrap_i64]; omega
        have x3 : ∀ o : Obj, (wr.alloc o).cell? ⟨b, off + m * 2, none⟩ = some (.int .i64 f0) := fun o => (((Below.refl wr.heap.size wr).alloc (Nat.le_refl _) o).cell (p := ⟨b, off + m * 2, none⟩) (World.block_lt_of_cell? wr _ x1)).trans x1
        by_cases hf : f0 < f1
        · go_wp2_with fail
          go_quiet (fail)
          by_cases hM : f1 ≤ 10000000000000
          · go_wp2_with fail
            refine (within64_ok _ _ _ _).mono ?_
            rintro e w2 ⟨rfl, rfl⟩
            cases hr : wi r 0 1000000000
            · go_wp2_with fail
              go_ret
              exact ⟨by rw [bad.out (HN2.out hr)]; rfl, (bel_drewN (HB.out.alloc HB.out.size _) _)⟩
            · go_wp2_with fail
              have G1 : ∀ i, i < m + 1 + 1 → gdb ts i = true := by
                intro i hi
                by_cases e : i = m + 1
                · subst e
                  exact HR0.out hM hr (fun h => by omega) (fun _ => hf)
                · exact HG.out i (by omega)
              exact ⟨⟨m + 1 + 1, by omega, by go_num, G1, bel_drewN (HB.out.alloc HB.out.size _) _⟩, by simp [intOf]; omega⟩
          · go_wp2_with fail
            go_ret
            exact ⟨by rw [bad.out (HN1.out hM)]; rfl, (bel_drewN (HB.out.alloc HB.out.size _) _)⟩
        · go_wp2_with fail
          go_quiet (fail)
          go_wp2_with fail
          go_ret
          exact ⟨by rw [bad.out (HN3.out (by omega) hf)]; rfl, (bel_drewN (HB.out.alloc HB.out.size _) _)⟩
  · rw [terr_bad (i := 0) (by have := HN.out; omega) (by have := HN.out; omega) (by simp [gdb, hf])]
    generalize tf ts 0 = f at *
    have e1 : ((n : Int) == 0) = false := by simpa using h0'
    have e2 : (f != 0) = true := by simpa using hf
    go_enter Try.func12, Try.ntmps12
    go_wp2_with fail
    go_ret
    exact ⟨rfl, Below.refl _ _⟩
set_option maxHeartbeats 1000000 in
set_option maxRecDepth 100000 in
theorem rtiers_ok (tv : Value) (ts : List (Int × Int)) (w : World) (h : Tr w tv ts) :
    Calls Try.prog 13 #[tv] w fun e w' => e = .returned (.int .i64 (terr ts)) ∧ Below w.heap.size w w' := by
  obtain ⟨n, hn⟩ : ∃ n, n = ts.length := ⟨_, rfl⟩
  have H := (show Hid _ from h)
  obtain ⟨ta, tc, rfl, g1, g2⟩ : ∃ a c, tv = .slice a n c ∧ n ≤ c ∧ c ≤ 9223372036854775807 := by obtain ⟨_, a, c, e, h1, h2, _⟩ := h; exact ⟨a, c, by rw [hn]; exact e, by rw [hn]; exact h1, h2⟩
  have HN := (show Hid _ from hn)
  clear h hn
  by_cases h8 : 8 < n
  · rw [terr_long (by have := HN.out; omega)]
    go_enter Try.func13, Try.ntmps13
    go_wp2_with fail
    go_ret
    exact ⟨rfl, Below.refl _ _⟩
  go_enter Try.func13, Try.ntmps13
  go_wp2_with fail
  go_loopw [3, 11] (fun l i wr => ∃ k : Nat, k ≤ n ∧ i = .int .i64 k ∧ l = .int .i64 (if k = 0 then -1 else tf ts (k - 1)) ∧ Hid (∀ i, i < k → gdb ts i = true) ∧ Below w.heap.size w wr) (fun _ i _ => n - (intOf i).toNat)
  case atStart => exact ⟨0, by omega, rfl, rfl, (fun i hi => by omega), Below.refl _ _⟩
  case round =>
    obtain ⟨k, hk, rfl, rfl, HG, hbel⟩ := hrel
    have HB := (show Hid _ from hbel)
    clear hbel
    obtain ⟨l, hl⟩ : ∃ l, l = (if k = 0 then -1 else tf ts (k - 1)) := ⟨_, rfl⟩
    have HL := (show Hid _ from hl)
    rw [← hl]
    clear hl
    by_cases hkn : k = n
    · subst hkn
      by_cases h0 : k = 0
      · subst h0
        go_wp2_with fail
        go_ret
        exact ⟨by rw [terr_none (by have := HN.out; omega)]; rfl, HB.out⟩
      · have h0' : ¬ ((k : Int) = 0) := by omega
        have e1 : ((k : Int) == 0) = false := by simpa using h0'
        go_wp2_with fail
        go_ret
        exact ⟨by rw [terr_ok (by have := HN.out; omega) (by have := HN.out; omega) (fun i hi => HG.out i (by have := HN.out; omega))]; rfl, HB.out⟩
    have hk' : k < n := by omega
    obtain ⟨b', off', rfl, z1, z2⟩ := (H.out.step HB.out).cells k hk'
    have d1 : (0 : Int) ≤ (k : Int) := by omega
    have d2 : (k : Int) < (n : Int) := by omega
    have HE1 : Hid (gdb ts k = true ↔ ((k = 0 → tf ts k = 0) ∧ l < tf ts k ∧ tf ts k ≤ 10000000000000 ∧ 0 ≤ tr ts k ∧ tr ts k ≤ 1000000000)) := by
      have h1 := HL.out
      unfold gdb
      rw [decide_eq_true_eq]
      by_cases e : k = 0
      · subst e
        simp at h1
        constructor
        · rintro ⟨a, b, c⟩; have := a rfl; exact ⟨a, by omega, c⟩
        · rintro ⟨a, b, c⟩; exact ⟨a, fun h => by omega, c⟩
      · rw [if_neg e] at h1
        constructor
        · rintro ⟨a, b, c⟩; exact ⟨a, by rw [h1]; exact b (by omega), c⟩
        · rintro ⟨a, b, c⟩; exact ⟨a, fun _ => by rw [← h1]; exact b, c⟩
    have HE := (show Hid _ from HE1.out.2)
    have BAD : Hid (¬ ((k = 0 → tf ts k = 0) ∧ l < tf ts k ∧ tf ts k ≤ 10000000000000 ∧ 0 ≤ tr ts k ∧ tr ts k ≤ 1000000000) → terr ts = 3) := fun hb => terr_bad (i := k) (by have := HN.out; omega) (by have := HN.out; omega) (by
      cases e : gdb ts k
      · rfl
      · exact absurd (HE1.out.1 e) hb)
    clear HE1
    have HNX : Hid (tf ts k = if k + 1 = 0 then -1 else tf ts (k + 1 - 1)) := by rw [if_neg (by omega), Nat.add_sub_cancel]; exact rfl
    generalize tf ts k = f at *
    generalize tr ts k = r at *
    by_cases t1 : l < f
    · by_cases t2 : f ≤ 10000000000000
      · by_cases t3 : 0 ≤ r
        · by_cases t4 : r ≤ 1000000000
          · by_cases k0 : k = 0
            · have e1 : ((k : Int) == 0) = true := by simp; omega
              have K0 := (show Hid _ from k0)
              clear k0
              by_cases f0 : f = 0
              · have e2 : (f != 0) = false := by simpa using f0
                have F0 := (show Hid _ from f0)
                clear f0
                go_wp2_with fail
                have G1 : ∀ i, i < k + 1 → gdb ts i = true := by
                  intro i hi
                  obtain rfl : i = k := by have := K0.out; omega
                  exact HE.out ⟨fun _ => F0.out, t1, t2, t3, t4⟩
                exact ⟨⟨k + 1, by omega, by go_num, by rw [HNX.out], G1, HB.out.alloc HB.out.size _⟩, by simp [intOf]; omega⟩
              · have e2 : (f != 0) = true := by simpa using f0
                go_wp2_with fail
                go_ret
                exact ⟨by rw [BAD.out (fun v => f0 (v.1 K0.out))]; rfl, HB.out.alloc HB.out.size _⟩
            · have e1 : ((k : Int) == 0) = false := by simp; omega
              go_wp2_with fail
              have G1 : ∀ i, i < k + 1 → gdb ts i = true := by
                intro i hi
                by_cases e : i = k
                · subst e
                  exact HE.out ⟨fun h => absurd h k0, t1, t2, t3, t4⟩
                · exact HG.out i (by omega)
              exact ⟨⟨k + 1, by omega, by go_num, by rw [HNX.out], G1, HB.out.alloc HB.out.size _⟩, by simp [intOf]; omega⟩
          · by_cases k0 : k = 0
            · have e1 : ((k : Int) == 0) = true := by simp; omega
              have K0 := (show Hid _ from k0)
              clear k0
              by_cases f0 : f = 0
              · have e2 : (f != 0) = false := by simpa using f0
                have F0 := (show Hid _ from f0)
                clear f0
                go_wp2_with fail
                go_ret
                exact ⟨by rw [BAD.out (fun v => by have := v.2; omega)]; rfl, HB.out.alloc HB.out.size _⟩
              · have e2 : (f != 0) = true := by simpa using f0
                go_wp2_with fail
                go_ret
                exact ⟨by rw [BAD.out (fun v => by have := v.2; omega)]; rfl, HB.out.alloc HB.out.size _⟩
            · have e1 : ((k : Int) == 0) = false := by simp; omega
              go_wp2_with fail
              go_ret
              exact ⟨by rw [BAD.out (fun v => by have := v.2; omega)]; rfl, HB.out.alloc HB.out.size _⟩
        · by_cases k0 : k = 0
          · have e1 : ((k : Int) == 0) = true := by simp; omega
            have K0 := (show Hid _ from k0)
            clear k0
            by_cases f0 : f = 0
            · have e2 : (f != 0) = false := by simpa using f0
              have F0 := (show Hid _ from f0)
              clear f0
              go_wp2_with fail
              go_ret
              exact ⟨by rw [BAD.out (fun v => by have := v.2; omega)]; rfl, HB.out.alloc HB.out.size _⟩
            · have e2 : (f != 0) = true := by simpa using f0
              go_wp2_with fail
              go_ret
              exact ⟨by rw [BAD.out (fun v => by have := v.2; omega)]; rfl, HB.out.alloc HB.out.size _⟩
          · have e1 : ((k : Int) == 0) = false := by simp; omega
            go_wp2_with fail
            go_ret
            exact ⟨by rw [BAD.out (fun v => by have := v.2; omega)]; rfl, HB.out.alloc HB.out.size _⟩
      · by_cases k0 : k = 0
        · have e1 : ((k : Int) == 0) = true := by simp; omega
          have K0 := (show Hid _ from k0)
          clear k0
          by_cases f0 : f = 0
          · have e2 : (f != 0) = false := by simpa using f0
            have F0 := (show Hid _ from f0)
            clear f0
            go_wp2_with fail
            go_ret
            exact ⟨by rw [BAD.out (fun v => by have := v.2; omega)]; rfl, HB.out.alloc HB.out.size _⟩
          · have e2 : (f != 0) = true := by simpa using f0
            go_wp2_with fail
            go_ret
            exact ⟨by rw [BAD.out (fun v => by have := v.2; omega)]; rfl, HB.out.alloc HB.out.size _⟩
        · have e1 : ((k : Int) == 0) = false := by simp; omega
          go_wp2_with fail
          go_ret
          exact ⟨by rw [BAD.out (fun v => by have := v.2; omega)]; rfl, HB.out.alloc HB.out.size _⟩
    · by_cases k0 : k = 0
      · have e1 : ((k : Int) == 0) = true := by simp; omega
        have K0 := (show Hid _ from k0)
        clear k0
        by_cases f0 : f = 0
        · have e2 : (f != 0) = false := by simpa using f0
          have F0 := (show Hid _ from f0)
          clear f0
          go_wp2_with fail
          go_ret
          exact ⟨by rw [BAD.out (fun v => by have := v.2; omega)]; rfl, HB.out.alloc HB.out.size _⟩
        · have e2 : (f != 0) = true := by simpa using f0
          go_wp2_with fail
          go_ret
          exact ⟨by rw [BAD.out (fun v => by have := v.2; omega)]; rfl, HB.out.alloc HB.out.size _⟩
      · have e1 : ((k : Int) == 0) = false := by simp; omega
        go_wp2_with fail
        go_ret
        exact ⟨by rw [BAD.out (fun v => by have := v.2; omega)]; rfl, HB.out.alloc HB.out.size _⟩
end Go.Proofs.Ytgbphbeafomabaa
