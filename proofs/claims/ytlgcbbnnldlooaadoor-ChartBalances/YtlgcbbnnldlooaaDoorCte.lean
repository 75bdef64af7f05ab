/- chart: the ledger; New. -/
import Derived.Test.YtlgcbbnnldlooaaDoorCtd
import Derived.Deep.RegionHeld3
import Derived.Deep.DeepCutAuto
import Derived.Deep.RegionLaw
import Derived.Deep.CutBlock
namespace Go.Proofs.YtlgcbbnnldlooaaDoor
open Go.RowKit Go.Maps
set_option linter.unusedVariables false

def M36 : Int := 1000000000000000000000000000000000000
/-- a map of accounts holds, of those that T tells, what b says, and nothing else -/
structure AMap (w : World) (m n : Nat) (T : Int → Int → Bool) (b : Int → Int → Int) : Prop where
  ex : ∃ f, MapF w 64 m n f ∧ (∀ c u, Va c u → f (la c u) = if T c u then some (dv (b c u) 12) else none) ∧ (∀ key kl, keyOf Tryd.prog 64 key = some kl → (f kl).isSome = true → ∃ c u, Va c u ∧ kl = la c u)
theorem AMap.but {X : Nat → Prop} {w w' : World} {m n : Nat} {T : Int → Int → Bool} {b : Int → Int → Int} (h : AMap w m n T b) (k : But X w w') (hm : ¬ X m) : AMap w' m n T b := by
  obtain ⟨f, h1, h2⟩ := h.ex; exact ⟨f, h1.but k hm, h2⟩
theorem AMap.step {w w' : World} {m n : Nat} {T : Int → Int → Bool} {b : Int → Int → Int} (h : AMap w m n T b) (k : Below w.heap.size w w') : AMap w' m n T b := by
  obtain ⟨f, h1, h2⟩ := h.ex; exact ⟨f, h1.step k, h2⟩
theorem AMap.lt {w : World} {m n : Nat} {T : Int → Int → Bool} {b : Int → Int → Int} (h : AMap w m n T b) : m < w.heap.size := by
  obtain ⟨f, h1, h2⟩ := h.ex; exact h1.lt
theorem amap_made (w : World) (b : Int → Int → Int) : AMap (w.alloc (.map #[] 0)) w.heap.size 0 (fun _ _ => false) b :=
  ⟨_, mapF_made w _, fun c u _ => by simp, fun key kl _ h => by simp at h⟩
/-- all 32 keys -/
def allLa : List Lit := (accs 32).map fun p => la p.1 p.2
theorem allLa_len : allLa.length = 32 := by simp [allLa, accs_len]
theorem AMap.fit {w : World} {m n : Nat} {T : Int → Int → Bool} {b : Int → Int → Int} (h : AMap w m n T b) : AMap w m 32 T b := by
  obtain ⟨f, h1, h2, h3⟩ := h.ex
  refine ⟨f, ?_, h2, h3⟩
  rw [← allLa_len]
  refine h1.fit keyedA _ (fun key kl hk hs => ?_)
  obtain ⟨c, u, hv, rfl⟩ := h3 key kl hk hs
  obtain ⟨i, hi, he⟩ := va_acc hv
  exact List.mem_map.2 ⟨(c, u), List.mem_of_getElem? (by rw [accs_get hi, he]), rfl⟩
/-- behind a store -/
theorem AMap.put {w' : World} {m n : Nat} {T : Int → Int → Bool} {b : Int → Int → Int} {f : Lit → Option Value} (h2 : ∀ c u, Va c u → f (la c u) = if T c u then some (dv (b c u) 12) else none) (h3 : ∀ key kl, keyOf Tryd.prog 64 key = some kl → (f kl).isSome = true → ∃ c u, Va c u ∧ kl = la c u)
    {c u z : Int} (hv : Va c u) (h : MapF w' 64 m n (upF f (la c u) (dv z 12))) : AMap w' m n (fun c' u' => T c' u' || decide (c' = c ∧ u' = u)) (fun c' u' => if c' = c ∧ u' = u then z else b c' u') := by
  refine ⟨_, h, fun c' u' hv' => ?_, fun key kl hk hs => ?_⟩
  · by_cases e : c' = c ∧ u' = u
    · obtain ⟨rfl, rfl⟩ := e
      rw [upF_same f (keyedA.key hv.key)]
      simp
    · rw [upF_other f _ (la_ne hv' hv e), h2 c' u' hv', decide_eq_false e, if_neg e, Bool.or_false]
  · by_cases e : kl = la c u
    · exact ⟨c, u, hv, e⟩
    · rw [upF_other f _ e] at hs
      exact h3 key kl hk hs
theorem AMap.congr {w : World} {m n : Nat} {T T' : Int → Int → Bool} {b b' : Int → Int → Int} (h : AMap w m n T b) (hT : ∀ c u, Va c u → T c u = T' c u) (hb : ∀ c u, Va c u → T c u = true → b c u = b' c u) : AMap w m n T' b' := by
  obtain ⟨f, h1, h2, h3⟩ := h.ex
  refine ⟨f, h1, fun c u hv => ?_, h3⟩
  rw [h2 c u hv, ← hT c u hv]
  cases e : T c u
  · rfl
  · simp only [if_true]
    rw [hb c u hv e]
/-- The ledger behind the pointer to block p, its map in block m: the balances b (in 10^-12), n entries. -/
structure Led (w : World) (p m : Nat) (b : Int → Int → Int) (n : Int) : Prop where
  rng : ∀ c u, Va c u → -M36 ≤ b c u ∧ b c u ≤ M36
  va : VA w p [.map (some m), .int .i64 n] 67
  map : AMap w m 32 (fun _ _ => true) b
theorem Led.but {X : Nat → Prop} {w w' : World} {p m : Nat} {b : Int → Int → Int} {n : Int} (h : Led w p m b n) (k : But X w w') (hp : ¬ X p) (hm : ¬ X m) : Led w' p m b n := ⟨h.rng, h.va.but k hp, h.map.but k hm⟩
theorem Led.step {w w' : World} {p m : Nat} {b : Int → Int → Int} {n : Int} (h : Led w p m b n) (k : Below w.heap.size w w') : Led w' p m b n := ⟨h.rng, h.va.step k, h.map.step k⟩
theorem Led.ne {w : World} {p m : Nat} {b : Int → Int → Int} {n : Int} (h : Led w p m b n) : m ≠ p := by
  obtain ⟨f, h1, _⟩ := h.map.ex
  rintro rfl
  obtain ⟨D, ⟨es, clock, hb, _⟩, _⟩ := h1
  have := h.va.blk
  rw [hb] at this
  cases this
theorem VA.notM {w : World} {p m n : Nat} {cs : List Value} {S : TypeId} {T : Int → Int → Bool} {b : Int → Int → Int} (h : VA w p cs S) (a : AMap w m n T b) : p ≠ m := by
  obtain ⟨f, h1, _⟩ := a.ex
  rintro rfl
  obtain ⟨D, ⟨es, clock, hb, _⟩, _⟩ := h1
  have := h.blk
  rw [hb] at this
  cases this
set_option maxHeartbeats 2000000 in
set_option maxRecDepth 100000 in
theorem cnew_ok (w : World) : Calls Tryd.prog 10 #[] w fun e w' => (∃ p m, e = .returned (.pointer (some ⟨p, 0, none⟩)) ∧ w.heap.size ≤ p ∧ w.heap.size ≤ m ∧ Led w' p m (fun _ _ => 0) 0) ∧ Below w.heap.size w w' := by
  have hmm := @run_makeMap Tryd.prog
  have HM0 := (show Hid _ from amap_made w (fun _ _ => 0))
  have HB0 := (show Hid _ from (Below.refl w.heap.size w).alloc (Nat.le_refl _) (.map #[] 0))
  go_enter Tryd.func10, Tryd.ntmps10
  go_wp2_with fail
  refine (accounts_ok _).mono ?_
  rintro e w1 ⟨⟨v, rfl, o1⟩, b1⟩
  have HM1 := (show Hid _ from HM0.out.step b1)
  have HB1 := (show Hid _ from HB0.out.trans (b1.mono (by simp)))
  clear b1 HM0 HB0
  obtain ⟨va, vc, rfl, l1, l2⟩ := o1.form
  rw [accs_len] at o1 l1 ⊢
  have HO1 := (show Hid _ from o1)
  clear o1
  rw [World.size_alloc] at HO1
  generalize hq : w.heap.size = q at *
  have HQ := (show Hid _ from hq)
  clear hq
  go_wp2_with fail
  go_loopw [7] (fun i wr => ∃ k : Nat, k ≤ 32 ∧ i = .int .i64 (k : Int) ∧ Hid (AMap wr q k (fun c u => decide (∃ j, j < k ∧ acc j = (c, u))) (fun _ _ => 0)) ∧ Hid (Below q w wr) ∧ Hid (Own AC wr (q + 1) (.slice va 32 vc) (accs 32))) (fun i _ => 32 - (intOf i).toNat)
  case atStart => exact ⟨0, by omega, rfl, HM1.out.congr (fun c u _ => by simp) (fun _ _ _ h => by simp at h), HB1.out, HO1.out⟩
  case round =>
    obtain ⟨k, hk, rfl, HM, HB, HO⟩ := hrel
    by_cases h32 : k = 32
    · subst h32
      go_wp2_with fail
      go_ret
      refine ⟨⟨_, q, rfl, by have := HB.out.size; have := HQ.out; omega, by have := HQ.out; omega, ⟨fun c u _ => by decide, va_new wr [.map (some q), .int .i64 0] 67, (HM.out.congr (fun c u hv => ?_) (fun _ _ _ _ => rfl)).step ((Below.refl _ _).alloc (Nat.le_refl _) _)⟩⟩, by rw [HQ.out]; exact HB.out.alloc (by have := HB.out.size; have := HQ.out; omega) _⟩
      obtain ⟨i, hi, he⟩ := va_acc hv
      exact decide_eq_true ⟨i, hi, he⟩
    have hk' : k < 32 := by omega
    obtain ⟨b, off, e, hb, hc⟩ := HO.out.sl.at k (acc k) (accs_get hk')
    cases e
    have hva := acc_va hk'
    generalize hac : acc k = x at *
    obtain ⟨x0, x1⟩ := x
    have c0 : wr.cell? ⟨b, off + k * 2, none⟩ = some (.int .i64 x0) := hc 0 _ rfl
    have c1 : wr.cell? ⟨b, off + k * 2 + 1, none⟩ = some (.int .i64 x1) := hc 1 _ rfl
    have HAC := (show Hid _ from hac)
    have HVA : Hid (Va x0 x1) := hva
    clear hc hb hac hva
    have d1 : (0 : Int) ≤ (k : Int) := by omega
    have d2 : (k : Int) < 32 := by omega
    go_upto_region 5 with fail
    have BA := (Below.refl wr.heap.size wr).alloc (Nat.le_refl _) (.cells #[.int .i64 x0, .int .i64 x1] 64)
    have HV := va_new wr [.int .i64 x0, .int .i64 x1] 64
    have HM2 := (show Hid _ from HM.out.step BA)
    have HO2 := (show Hid _ from HO.out.step BA)
    have HB2 := (show Hid _ from HB.out.trans (BA.mono (by have := HB.out.size; have := HQ.out; omega)))
    clear BA c0 c1 HM HO HB
    generalize wr.heap.size = pa at *
    generalize wr.alloc (.cells #[.int .i64 x0, .int .i64 x1] 64) = w2 at *
    have HV2 := (show Hid _ from HV)
    refine wp_region_noPanic ?_
    refine wp_region_held_drew (S := fun w' => VA w' pa [.int .i64 x0, .int .i64 x1] 64) (by kernel_rfl) HV.drew (fun hHeld => ?_)
    clear HV
    refine takeD 0 11 (.map (some q)) (by exact rfl) rfl (by kernel_rfl) (by kernel_rfl) (by kernel_rfl) (fun _ _ _ h => h) (Or.inl ⟨by rfl, ?_⟩) (by assumption) ?_
    · intro wq hS
      go_simp
    try simp only [Act.put, List.setIfInBounds_toArray, List.set_cons_zero, List.set_cons_succ]
    refine takeD 1 12 (.agg #[.int .i64 x0, .int .i64 x1]) (by exact rfl) rfl (by kernel_rfl) (by kernel_rfl) (by kernel_rfl) (fun _ _ _ h => h) (Or.inl ⟨by rfl, ?_⟩) (by assumption) ?_
    · intro wq hS
      have c := hS.cell 0 (v := .int .i64 x0) rfl
      have d := hS.cell 1 (v := .int .i64 x1) rfl
      go_simp
    try simp only [Act.put, List.setIfInBounds_toArray, List.set_cons_zero, List.set_cons_succ]
    clear hHeld
    refine wpAnyH_ready (rs := [2]) (by kernel_rfl) (by simp) ?_
    refine AllReadyH.cons (by exact rfl) (fun K hK => ?_) AllReadyH.nil
    go_simp
    refine (nought_ok _).mono ?_
    rintro e w3 ⟨rfl, b3⟩
    have b3 : Below w2.heap.size w2 w3 := ((Below.refl w2.heap.size w2).drew).trans b3
    have HM3 := (show Hid _ from HM2.out.step b3)
    have HO3 := (show Hid _ from HO2.out.step b3)
    have HV3 := (show Hid _ from HV2.out.step b3)
    have HB3 := (show Hid _ from HB2.out.trans (b3.mono (by have := HB2.out.size; have := HQ.out; omega)))
    clear b3 HM2 HO2 HV2 HB2
    go_wp2_with fail
    refine hK.out _ _ HV3.out (fun hHeld => ?_)
    clear hK K hHeld
    try simp only [Act.put, List.setIfInBounds_toArray, List.set_cons_zero, List.set_cons_succ]
    refine wpAnyH_ready (rs := [3]) (by kernel_rfl) (by simp) ?_
    refine AllReadyH.cons (by exact rfl) (fun K hK => ?_) AllReadyH.nil
    obtain ⟨f, m1, m2, m3⟩ := HM3.out.ex
    refine stMd (by rfl) _ _ _ 60 (by rfl) 64 37 keyedA Tryd.underlying60 q k f (by rfl) m1 (by unfold maxLen; omega) (.agg #[.int .i64 x0, .int .i64 x1]) (dv 0 12) (la x0 x1) (by rfl) (by rfl) HVA.out.key ?_
    intro w4 m4 t4
    have M4 := AMap.put m2 m3 HVA.out m4
    have U4 := turned_but t4
    refine hK.out _ _ (HV3.out.but U4 (HV3.out.notM HM3.out)) (fun hHeld => ?_)
    clear hK K hHeld
    refine wpAnyH_done (by kernel_rfl) ?_ _
    refine NoPanic.normal ?_
    have HM4 := (show Hid _ from M4)
    have HB4 := (show Hid _ from HB3.out.trans (U4.below (by have := HB3.out.size; have := HQ.out; omega) (fun i (hi : i = q) => by omega)))
    have HO4 := (show Hid _ from HO3.out.but U4 (fun g hg (e : g = q) => by have := HO3.out.block g hg; omega))
    clear M4 U4 m4 t4 m1 m2 m3
    go_wp2_with fail
    refine ⟨⟨k + 1, by omega, by go_num, ?_, HB4.out, HO4.out⟩, by simp [intOf]; omega⟩
    refine HM4.out.congr (fun c u hv => ?_) (fun c u _ _ => by simp)
    rw [← Bool.decide_or]
    refine decide_eq_decide.2 ⟨?_, ?_⟩
    · rintro (⟨j, hj, e⟩ | ⟨rfl, rfl⟩)
      · exact ⟨j, by omega, e⟩
      · exact ⟨k, by omega, HAC.out⟩
    · rintro ⟨j, hj, e⟩
      by_cases h : j = k
      · subst h
        rw [HAC.out] at e
        cases e
        exact Or.inr ⟨rfl, rfl⟩
      · exact Or.inl ⟨j, by omega, e⟩
end Go.Proofs.YtlgcbbnnldlooaaDoor
