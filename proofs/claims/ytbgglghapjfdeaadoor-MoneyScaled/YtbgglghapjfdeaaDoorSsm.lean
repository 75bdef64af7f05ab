/- money: Split of any weights. -/
import Derived.Test.YtbgglghapjfdeaaDoorSsl
namespace Go.Proofs.YtbgglghapjfdeaaDoor
open Go.RowKit
set_option linter.unusedVariables false

theorem ord_abs (m : Int) : ord m 0 * m = (m.natAbs : Int) := by
  unfold ord
  by_cases h1 : m < 0
  · rw [if_pos h1]; omega
  · rw [if_neg h1]
    by_cases h2 : 0 < m
    · rw [if_pos h2]; omega
    · rw [if_neg h2]; omega
theorem ord_cases (m : Int) : ord m 0 = -1 ∨ ord m 0 = 0 ∨ ord m 0 = 1 := by
  unfold ord
  by_cases h1 : m < 0
  · rw [if_pos h1]; exact Or.inl rfl
  · rw [if_neg h1]
    by_cases h2 : 0 < m
    · rw [if_pos h2]; exact Or.inr (Or.inr rfl)
    · rw [if_neg h2]; exact Or.inr (Or.inl rfl)
/-- what one gets, with its sign -/
def gots (m : Int) (t : Nat) (W g : Nat → Nat) (n i : Nat) : Int := ord m 0 * (got m.natAbs t W g n i : Int)
set_option maxHeartbeats 4000000 in
set_option maxRecDepth 100000 in
theorem split_yes (c m : Int) (zs : List Int) (v : Value) (w : World) (I : Is w v zs) (hb : ∀ i, i < zs.length → 0 ≤ zs.getD i 0 ∧ zs.getD i 0 ≤ 1000000000) (hl0 : 0 < zs.length) (hl : zs.length ≤ 64) (hm : mform c m = true) (W : Nat → Nat) (hW : ∀ i, i < zs.length → zs.getD i 0 = (W i : Int)) (ht : 0 < sm W zs.length) :
    Calls Tryd.prog 7 #[.agg (mcl c m).toArray, v] w fun e w' => (∃ M g, w.heap.size < M ∧ e = .returned (.tuple #[.slice (some ⟨M, 0, none⟩) zs.length zs.length, .int .i64 0]) ∧ Pm (fun x => x) g 0 zs.length ∧ Srt (pr m.natAbs (sm W zs.length) W) g 0 zs.length ∧ VA w' M (mo (fun _ => c) (gots m (sm W zs.length) W g zs.length) zs.length) 23) ∧ Below w.heap.size w w' := by
  have hm1 : -10000000000000 ≤ m ∧ m ≤ 10000000000000 := by
    simp only [mform, Bool.and_eq_true, wi, decide_eq_true_eq] at hm; exact hm.2
  obtain ⟨m1, m2⟩ := hm1
  have HI_0 := (show Hid _ from I.step ((Below.refl _ _).alloc (Nat.le_refl _) (.cells (mcl c m).toArray 23)))
  have VM_0 := (show Hid _ from va_new w (mcl c m) 23)
  have BB_0 := (show Hid _ from (Below.refl w.heap.size w).alloc (Nat.le_refl _) (.cells (mcl c m).toArray 23))
  obtain ⟨va, vc, e0, _, hc, _⟩ := I.form
  clear I
  have HCK : Hid (Unit → ∀ w', Is w' v zs → Calls Tryd.prog 15 #[.agg (mcl c m).toArray, v] w' fun e w'' => e = .returned (.int .i64 0) ∧ Below w'.heap.size w' w'') := fun _ w' I' => check_yes c m zs v w' I' hb hl0 hl hm W hW ht
  have HB := (show Hid _ from hb)
  have HW := (show Hid _ from hW)
  have HT0 := (show Hid _ from ht)
  clear hb hW ht hm
  obtain ⟨n, hn⟩ : ∃ n, zs.length = n := ⟨_, rfl⟩
  have HN := (show Hid _ from hn)
  rw [hn] at e0
  rw [hn]
  subst e0
  have hn1 : (n : Int) ≤ 64 := by omega
  have HN0 : Hid (0 < n) := by show 0 < n; omega
  clear hn hl hl0 hc
  obtain ⟨s, hs⟩ : ∃ s, ord m 0 = s := ⟨_, rfl⟩
  obtain ⟨sz, hz⟩ : ∃ sz, m.natAbs = sz := ⟨_, rfl⟩
  have hsm : s * m = (sz : Int) := by rw [← hs, ← hz]; exact ord_abs m
  have HSM : Hid (IntKind.i64.wrap (s * m) = (sz : Int)) := by show _ = _; rw [hsm, IntKind.wrap_i64]; omega
  have hz1 : (sz : Int) ≤ 10000000000000 := by omega
  have hs3 : s = -1 ∨ s = 0 ∨ s = 1 := by rw [← hs]; exact ord_cases m
  have HSE := (show Hid _ from hs)
  have HZE := (show Hid _ from hz)
  have HS3 := (show Hid _ from hs3)
  clear hs hz hsm hs3
  go_enter Tryd.func7, Tryd.ntmps7
  go_wp2_with (refine ldA rfl 23 _ rfl w.heap.size (by rfl) (mcl c m) _ VM_0.out _ Tryd.underlying23 rfl infoM ?_)
  refine (HCK.out () _ HI_0.out).mono ?_
  rintro e w1 ⟨rfl, b1⟩
  have HI_1 := (show Hid _ from HI_0.out.step b1)
  have VM_1 := (show Hid _ from VM_0.out.step b1)
  have BB_1 := (show Hid _ from BB_0.out.trans (b1.mono BB_0.out.size))
  clear b1 HI_0 VM_0 BB_0 HCK
  have c1 := VM_1.out.cell 1 (v := .int .i64 m) rfl
  go_wp2_with fail
  refine (cmp64_ok m 0 _).mono ?_
  rintro e wx ⟨rfl, hq⟩
  obtain rfl := hq.symm
  rw [HSE.out]
  clear c1
  go_upto_region 6 with (refine mkV rfl 26 23 _ _ rfl Tryd.underlying26 (.agg #[.int .i64 0, .int .i64 0]) 2 16 n infoMoney (by decide) (by omega) (mo (fun _ => 0) (fun _ => 0) n) (made_mo n) (by rfl) (by rfl) ?_; intro w2 v2 b2; have VO_2 := (show Hid _ from v2); have HI_2 := (show Hid _ from HI_1.out.step b2); have VM_2 := (show Hid _ from VM_1.out.step b2); have BB_2 := (show Hid _ from BB_1.out.trans (b2.mono BB_1.out.size)); have HM : Hid (w.heap.size < w1.heap.size) := VM_1.out.lt; clear v2 b2 HI_1 VM_1 BB_1)
  generalize w1.heap.size = M at *
  have c1 := VM_2.out.cell 1 (v := .int .i64 m) rfl
  have hw0 := HSM.out
  go_wp2_with fail
  clear c1 hw0
  refine (shares_ok sz n W _ _ (by have h := HI_2.out.wts HW.out; rw [HN.out] at h; exact h) (by omega) (fun i hi => ?_) (by have := HT0.out; rwa [HN.out] at this) (by omega)).mono ?_
  · have h1 := HB.out i (by rw [HN.out]; exact hi)
    have h2 := HW.out i (by rw [HN.out]; exact hi)
    omega
  rintro e w3 ⟨rfl, ⟨g, p3, s3, v3⟩, b3⟩
  have HP : Hid (Pm (fun x => x) g 0 n) := p3
  have HS : Hid (Srt (pr sz (sm W n) W) g 0 n) := s3
  have HGL : Hid (∀ i, i < n → got sz (sm W n) W g n i ≤ sz) := fun i hi => got_le (by have := HT0.out; rwa [HN.out] at this) p3 s3 i hi
  obtain ⟨G, hG⟩ : ∃ G, got sz (sm W n) W g n = G := ⟨_, rfl⟩
  obtain ⟨R, hR⟩ : ∃ R, pr sz (sm W n) W = R := ⟨_, rfl⟩
  rw [hG, hR] at v3
  have HGE := (show Hid _ from hG)
  have HGL : Hid (∀ i, i < n → G i ≤ sz) := by rw [← hG]; exact HGL
  clear p3 s3 hG hR
  have VS_3 := (show Hid _ from v3)
  have VO_3 := (show Hid _ from VO_2.out.step b3)
  have VM_3 := (show Hid _ from VM_2.out.step b3)
  have BB_3 := (show Hid _ from BB_2.out.trans (b3.mono BB_2.out.size))
  have HNE : Hid (w.heap.size < M ∧ M < w2.heap.size) := ⟨HM.out, VO_2.out.lt⟩
  clear v3 b3 VO_2 HI_2 VM_2 BB_2
  generalize w2.heap.size = S at *
  go_wp2_with fail
  go_loopw [9, 10, 31] (fun s9 s10 s31 wr => ∃ i : Nat, i ≤ n ∧ s31 = .int .i64 (i : Int) ∧ Hid (VA wr M (mo (fun j => if j < i then c else 0) (fun j => if j < i then s * (G j : Int) else 0) n) 23) ∧ Hid (VA wr S (shr G R n) 54) ∧ Hid (VA wr w.heap.size (mcl c m) 23) ∧ Hid (Below w.heap.size w wr)) (fun _ _ s31 _ => n - (intOf s31).toNat)
  case atStart => exact ⟨0, by omega, by go_num, by rw [mo_congr (A' := fun _ => 0) (B' := fun _ => 0) (fun j _ => by simp) (fun j _ => by simp)]; exact VO_3.out, VS_3.out, VM_3.out, BB_3.out⟩
  case round =>
    rename_i wr
    obtain ⟨i, hi, rfl, VO, VS, VM, BB⟩ := hrel
    clear VO_3 VS_3 VM_3 BB_3
    by_cases hin : (n : Int) ≤ (i : Int)
    · go_wp2_with fail
      refine bodyPost_ret (v := .tuple #[.slice (some ⟨M, 0, none⟩) n n, .int .i64 0]) (by simp [results, Tryd.results7, go_sem]) rfl ⟨⟨M, g, HNE.out.1, rfl, HP.out, by rw [HZE.out]; exact HS.out, ?_⟩, BB.out⟩
      have h := VO.out
      rw [mo_congr (A' := fun _ => c) (B' := gots m (sm W n) W g n) (fun j hj => by rw [if_pos (by omega)]) (fun j hj => by rw [if_pos (by omega)]; simp only [gots]; rw [HZE.out, HSE.out, HGE.out])] at h
      exact h
    · have hi1 : (i : Int) < (n : Int) := by omega
      have hi2 : i < n := by omega
      have s0 := VS.out.cell (i * 2) (shr_u G R hi2)
      have s1 := VS.out.cell (i * 2 + 1) (shr_r G R hi2)
      have sl := VS.out.lt
      have m0 := VM.out.cell 0 (v := .int .i64 c) rfl
      have ml := VM.out.lt
      have o0 := VO.out.cell (i * 2) (mo_a _ _ hi2)
      have o1 := VO.out.cell (i * 2 + 1) (mo_b _ _ hi2)
      have g0 := VO.out.free (i * 2)
      have g1 := VO.out.free (i * 2 + 1)
      have ol := VO.out.lt
      have hG1 : (G i : Int) ≤ 10000000000000 := by have := HGL.out i hi2; omega
      have hw2 : IntKind.i64.wrap (s * (G i : Int)) = s * (G i : Int) := by
        rw [IntKind.wrap_i64]
        rcases HS3.out with h | h | h <;> rw [h] <;> omega
      go_wp2_with (refine ldM rfl 54 _ rfl S (i * 2) (by rfl) (.int .u64 (G i : Int)) (.int .u64 (R i : Int)) s0 s1 _ Tryd.underlying54 rfl infoSh ?_)
      refine ⟨⟨i + 1, by omega, by go_num, ?_, ?_, ?_, ?_⟩, by simp [intOf]; omega⟩
      · have h := ((VO.out.set (i * 2) (.int .i64 c)).set (i * 2 + 1) (.int .i64 (s * (G i : Int)))).alloc (.cells #[.int .u64 (G i : Int), .int .u64 (R i : Int)] 54)
        rw [mo_set _ _ (fun j => if j < i + 1 then c else 0) (fun j => if j < i + 1 then s * (G j : Int) else 0) hi2 c (s * (G i : Int)) (fun j hj => by
          by_cases e : j = i
          · rw [if_pos e, if_pos (by omega)]
          · rw [if_neg e]
            by_cases e2 : j < i
            · rw [if_pos e2, if_pos (by omega)]
            · rw [if_neg e2, if_neg (by omega)]) (fun j hj => by
          by_cases e : j = i
          · rw [if_pos e, if_pos (by omega), e]
          · rw [if_neg e]
            by_cases e2 : j < i
            · rw [if_pos e2, if_pos (by omega)]
            · rw [if_neg e2, if_neg (by omega)])] at h
        exact h
      · exact ((VS.out.set_other (q := M) (by have := HNE.out; omega) (i * 2) (.int .i64 c)).set_other (q := M) (by have := HNE.out; omega) (i * 2 + 1) (.int .i64 (s * (G i : Int)))).alloc (.cells #[.int .u64 (G i : Int), .int .u64 (R i : Int)] 54)
      · exact ((VM.out.set_other (q := M) (by have := HNE.out; omega) (i * 2) (.int .i64 c)).set_other (q := M) (by have := HNE.out; omega) (i * 2 + 1) (.int .i64 (s * (G i : Int)))).alloc (.cells #[.int .u64 (G i : Int), .int .u64 (R i : Int)] 54)
      · exact ((BB.out.setCell (p := ⟨M, i * 2, none⟩) (by have := HNE.out; show _ ≤ M; omega) (.int .i64 c)).setCell (p := ⟨M, i * 2 + 1, none⟩) (by have := HNE.out; show _ ≤ M; omega) (.int .i64 (s * (G i : Int)))).alloc (by simp; exact BB.out.size) (.cells #[.int .u64 (G i : Int), .int .u64 (R i : Int)] 54)
end Go.Proofs.YtbgglghapjfdeaaDoor
