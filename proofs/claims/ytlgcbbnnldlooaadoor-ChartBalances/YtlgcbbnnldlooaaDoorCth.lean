/- chart: balanced. -/
import Derived.Test.YtlgcbbnnldlooaaDoorCtg
namespace Go.Proofs.YtlgcbbnnldlooaaDoor
open Go.RowKit Go.Maps
set_option linter.unusedVariables false

theorem keyedI : Keyed Tryd.prog 3 := int_keyed Tryd.underlying3
theorem li_key {u : Int} (h : I6 u) : keyOf Tryd.prog 3 (.int .i64 u) = some (.int .i64 u) := keyOf_int_mk Tryd.underlying3 (WalkArith.wf_i64 h)
/-- m[key] as a region that draws its order meets it -/
theorem lkD {w : World} {y : Nat → Option Bool} {o : Oper} {a : Act} {Q : Exit → Act → World → Prop} {K' : Act → World → Prop} {k0 : Prop} (hgd : Region.wanted o y = true) (m x : Operand) (t : TypeId) (hop : o.op = Op.lookup t m x false)
    (k e : TypeId) (K : Keyed Tryd.prog k) (ht : Tryd.prog.underlying t = some (.map k e)) (z : Value) (hz : (zeroValue e).run Tryd.prog w = .ok z w) (b n : Nat) (f : Lit → Option Value) (hm : a.eval m = .map (some b)) (h : MapF w k b n f)
    (key : Value) (kl : Lit) (hx : a.eval x = key) (hkey : keyOf Tryd.prog k key = some kl) (v : Value) (hv : (f kl).getD z = v) (d : Nat) (hd : o.dst = some d)
    (hK : K' (a.put (some d) v) w) : if Region.wanted o y then o.wp Tryd.prog a w K' Q else k0 := by
  rw [if_pos hgd]
  have hrun := h.look K ht hz hkey
  rw [hv] at hrun
  rw [← hd] at hK
  unfold Oper.wp
  simp [execOp, hop, hm, hx, hrun, Result.andThen]
  exact hK
/-- a map of currencies holds, of those that have a line, the sums of the lines -/
structure UMap (w : World) (m n : Nat) (ls : List Ln) : Prop where
  ex : ∃ f, MapF w 3 m n f ∧ (∀ u, 0 ≤ u → u ≤ 3 → (tcu ls u = false → f (.int .i64 u) = none) ∧ (tcu ls u = true → ∃ (c : Int) (s : Nat), f (.int .i64 u) = some (dv c s) ∧ s ≤ 12 ∧ c * (10 : Int) ^ (12 - s) = sau ls u)) ∧ (∀ key kl, keyOf Tryd.prog 3 key = some kl → (f kl).isSome = true → ∃ u, 0 ≤ u ∧ u ≤ 3 ∧ kl = .int .i64 u)
theorem UMap.step {w w' : World} {m n : Nat} {ls : List Ln} (h : UMap w m n ls) (k : Below w.heap.size w w') : UMap w' m n ls := by
  obtain ⟨f, h1, h2⟩ := h.ex; exact ⟨f, h1.step k, h2⟩
theorem umap_made (w : World) : UMap (w.alloc (.map #[] 0)) w.heap.size 0 [] := ⟨_, mapF_made w _, fun u _ _ => ⟨fun _ => rfl, fun h => by simp [tcu] at h⟩, fun key kl _ h => by simp at h⟩
theorem VA.notF {w : World} {p m n : Nat} {cs : List Value} {S k : TypeId} {f : Lit → Option Value} (h : VA w p cs S) (a : MapF w k m n f) : p ≠ m := by
  rintro rfl
  obtain ⟨D, ⟨es, clock, hb, _⟩, _⟩ := a
  have := h.blk
  rw [hb] at this
  cases this
def bal (ls : List Ln) : Bool := decide (sau ls 0 = 0 ∧ sau ls 1 = 0 ∧ sau ls 2 = 0 ∧ sau ls 3 = 0)
theorem bal_yes {ls : List Ln} (h : ∀ u, 0 ≤ u → u ≤ 3 → sau ls u = 0) : bal ls = true := decide_eq_true ⟨h 0 (by decide) (by decide), h 1 (by decide) (by decide), h 2 (by decide) (by decide), h 3 (by decide) (by decide)⟩
theorem bal_no {ls : List Ln} {u : Int} (h0 : 0 ≤ u) (h3 : u ≤ 3) (h : sau ls u ≠ 0) : bal ls = false := by
  refine decide_eq_false (fun e => h ?_)
  have hu : u = 0 ∨ u = 1 ∨ u = 2 ∨ u = 3 := by omega
  rcases hu with rfl | rfl | rfl | rfl
  · exact e.1
  · exact e.2.1
  · exact e.2.2.1
  · exact e.2.2.2
theorem sau_none {ls : List Ln} {u : Int} (h : tcu ls u = false) : sau ls u = 0 := by
  induction ls with
  | nil => rfl
  | cons x ls ih =>
    simp only [tcu, List.any_cons, Bool.or_eq_false_iff, decide_eq_false_iff_not] at h
    have := ih h.2
    simp only [sau, List.map_cons, List.sum_cons, if_neg h.1] at this ⊢
    omega
/-- what is no more when it is scaled up -/
theorem coef_bd {c p z B : Int} (hp : 1 ≤ p) (e : c * p = z) (h : -B ≤ z ∧ z ≤ B) : -B ≤ c ∧ c ≤ B := by
  subst e
  rcases Int.lt_or_le c 0 with h0 | h0
  · have := Int.mul_le_mul_of_nonpos_left (Int.le_of_lt h0) hp
    omega
  · have := Int.mul_le_mul_of_nonneg_left hp h0
    omega
theorem p10_1 (n : Nat) : (1 : Int) ≤ (10 : Int) ^ n := by have : (0 : Int) < (10 : Int) ^ n := Int.pow_pos (by decide); omega
/-- a sum and a line -/
theorem plus_tot (x : Ln) (hx : x.wf) (ho : x.ok = true) (c : Int) (s : Nat) (z : Int) (hs : s ≤ 12) (e : c * (10 : Int) ^ (12 - s) = z) (hz : -(2 * M36) ≤ z ∧ z ≤ 2 * M36) : ∃ (c' : Int) (s' : Nat), s' ≤ 12 ∧ c' * (10 : Int) ^ (12 - s') = z + x.un ∧ ∀ w : World,
    Calls Tryd.prog 40 #[dv c s, .agg #[.int .i64 x.h, .int .u64 x.l, .int .i64 x.s]] w fun e w' => e = .returned (dv c' s') ∧ Below w.heap.size w w' := by
  obtain ⟨cx, n, h1, h2, h3, hn, ic, ec, eu, b1, b2⟩ := good_form hx ho
  have hc := coef_bd (p10_1 _) e hz
  have et : tv c s cx n * (10 : Int) ^ (12 - max s n) = z + x.un := by rw [tv_up c s cx n 12 (by omega), e, eu]
  have hb := coef_bd (B := 4 * M36) (p10_1 _) et (by unfold M32 M36 at *; omega)
  refine ⟨tv c s cx n, max s n, by omega, et, fun w => ?_⟩
  rw [h1, h2, h3]
  exact cplus_ok c cx s n w (inr36 (by omega)) ic (by omega) (by omega) (inr36 hb)
theorem sau_36 {ls : List Ln} (h : ∀ x ∈ ls, x.wf ∧ x.ok = true) (hl : ls.length ≤ 16) (u : Int) : -(2 * M36) ≤ sau ls u ∧ sau ls u ≤ 2 * M36 := by
  have h2 := sau_bd h u
  have h4 : ((ls.length : Int)) * M32 ≤ 16 * M32 := Int.mul_le_mul_of_nonneg_right (by omega) (by decide)
  unfold M36 M32 at *
  omega
theorem UMap.put {w' : World} {m n : Nat} {ls : List Ln} {x : Ln} {f : Lit → Option Value} (h2 : ∀ u, 0 ≤ u → u ≤ 3 → (tcu ls u = false → f (.int .i64 u) = none) ∧ (tcu ls u = true → ∃ (c : Int) (s : Nat), f (.int .i64 u) = some (dv c s) ∧ s ≤ 12 ∧ c * (10 : Int) ^ (12 - s) = sau ls u)) (h3 : ∀ key kl, keyOf Tryd.prog 3 key = some kl → (f kl).isSome = true → ∃ u, 0 ≤ u ∧ u ≤ 3 ∧ kl = .int .i64 u)
    (hx : 0 ≤ x.cur ∧ x.cur ≤ 3) {c : Int} {s : Nat} (hs : s ≤ 12) (hc : c * (10 : Int) ^ (12 - s) = sau ls x.cur + x.un) (h : MapF w' 3 m n (upF f (.int .i64 x.cur) (dv c s))) : UMap w' m n (ls ++ [x]) := by
  refine ⟨_, h, fun u hu0 hu3 => ?_, fun key kl hk hs => ?_⟩
  · rw [tcu_snoc, sau_snoc]
    by_cases e : x.cur = u
    · subst e
      rw [upF_same f (keyedI.key (li_key (by unfold I6; omega)))]
      refine ⟨fun h => by simp at h, fun _ => ⟨c, s, rfl, hs, ?_⟩⟩
      rw [if_pos rfl]
      exact hc
    · rw [upF_other f _ (fun e' => e (by injection e' with _ e'; exact e'.symm)), decide_eq_false e, Bool.or_false, if_neg e, Int.add_zero]
      exact h2 u hu0 hu3
  · by_cases e : kl = .int .i64 x.cur
    · exact ⟨x.cur, hx.1, hx.2, e⟩
    · rw [upF_other f _ e] at hs
      exact h3 key kl hk hs
set_option maxHeartbeats 4000000 in
set_option maxRecDepth 100000 in
theorem balanced_ok (v : Value) (ls : List Ln) (w : World) (h : Sl LN w v ls) (hg : ∀ x ∈ ls, x.wf ∧ x.pl = true ∧ x.ok = true) (hl : ls.length ≤ 16) :
    Calls Tryd.prog 28 #[v] w fun e w' => e = .returned (.bool (bal ls)) ∧ Below w.heap.size w w' := by
  obtain ⟨n, hn⟩ : ∃ n, n = ls.length := ⟨_, rfl⟩
  have H := (show Hid _ from h)
  obtain ⟨ta, tc, rfl, g1, g2⟩ : ∃ a c, v = .slice a n c ∧ n ≤ c ∧ c ≤ 9223372036854775807 := by obtain ⟨a, c, e, h1, h2, _⟩ := h; exact ⟨a, c, by rw [hn]; exact e, by rw [hn]; exact h1, h2⟩
  have HN := (show Hid _ from hn)
  have HL16 := (show Hid _ from hl)
  have HG := (show Hid _ from hg)
  clear h hn hl hg
  have hmm := @run_makeMap Tryd.prog
  have HM0 := (show Hid _ from umap_made w)
  have HB0 := (show Hid _ from (Below.refl w.heap.size w).alloc (Nat.le_refl _) (.map #[] 0))
  go_enter Tryd.func28, Tryd.ntmps28
  go_wp2_with fail
  generalize hq : w.heap.size = q at *
  have HQ := (show Hid _ from hq)
  clear hq
  go_loopw [11] (fun i wr => ∃ k : Nat, k ≤ n ∧ i = .int .i64 (k : Int) ∧ Hid (UMap wr q k (ls.take k)) ∧ Hid (Below q w wr)) (fun i _ => n - (intOf i).toNat)
  case atStart => exact ⟨0, by omega, rfl, HM0.out, HB0.out⟩
  case round =>
    obtain ⟨k, hk, rfl, HM, HB⟩ := hrel
    by_cases hkn : k = n
    · subst hkn
      have hm := HM.out
      rw [HN.out, List.take_length] at hm
      obtain ⟨f, m1, m2, m3⟩ := hm.ex
      have HM1 : Hid (MapF wr 3 q ls.length f) := m1
      have HM2 := (show Hid _ from m2)
      have HM3 := (show Hid _ from m3)
      clear m1 m2 m3 hm HM
      go_wp2_with (first | (at_range; refine rgM rfl _ 95 rfl 3 37 keyedI Tryd.underlying95 q ls.length f (by rfl) HM1.out ?_; intro w1 left cnt r1 l1 b1) | go_in)
      go_frame
      have hb1 := HB.out.trans (b1.mono (by have := HB.out.size; have := HQ.out; omega))
      have R1 : Hid (RanF w1 3 q wr.heap.size ls.length f left cnt) := r1
      have HQR : Hid (q ≤ wr.heap.size) := (show q ≤ wr.heap.size by have := HB.out.size; have := HQ.out; omega)
      have L1 : Hid (∀ u, 0 ≤ u → u ≤ 3 → tcu ls u = true → left (.int .i64 u) = false → sau ls u = 0) := fun u h0 h3 ht hf => by
        obtain ⟨c, s, hc, _⟩ := (HM2.out u h0 h3).2 ht
        rw [l1 _ _ (li_key (by unfold I6; omega)), hc] at hf
        cases hf
      clear r1 l1 b1
      generalize wr.heap.size = r at *
      go_loopw [] (fun wx => ∃ left cnt, Hid (RanF wx 3 q r ls.length f left cnt) ∧ Hid (∀ u, 0 ≤ u → u ≤ 3 → tcu ls u = true → left (.int .i64 u) = false → sau ls u = 0) ∧ Hid (Below q w wx)) (fun wx => wx.rangeLeft q r)
      case atStart => exact ⟨left, cnt, R1.out, L1.out, hb1⟩
      case round =>
        obtain ⟨left, cnt, R, L, HBx⟩ := hrel
        go_wp2_with (at_next; refine nxM rfl _ rfl 3 keyedI q r ls.length f left cnt (by rfl) R.out ?_ ?_)
        · intro hl0
          go_wp2_with fail
          go_ret
          refine ⟨?_, by rw [HQ.out]; exact HBx.out⟩
          rw [bal_yes (fun u h0 h3 => ?_)]
          · rfl
          · cases ht : tcu ls u
            · exact sau_none ht
            · exact L.out u h0 h3 ht (hl0 _)
        · intro x c kl w2 cnt2 hkey hlk hc R2 hlt U2 hen
          obtain ⟨u, h0, h3, rfl⟩ := HM3.out x kl hkey (by rw [hc]; rfl)
          have ht : tcu ls u = true := by
            cases ht : tcu ls u
            · rw [(HM2.out u h0 h3).1 ht] at hc; cases hc
            · rfl
          obtain ⟨cc, s, hc2, hs, hsum⟩ := (HM2.out u h0 h3).2 ht
          rw [hc] at hc2
          cases hc2
          have hxk : x = .int .i64 u := keyedI.inj hkey (li_key (by unfold I6; omega))
          subst hxk
          have hcb := coef_bd (p10_1 _) hsum (sau_36 (ls := ls) (fun y hy => by have := HG.out y hy; exact ⟨this.1, this.2.2⟩) HL16.out u)
          have HC := (show Hid _ from fun w => isNought_ok cc s w (inr36 (by omega)) (by omega))
          have HR2 : Hid (RanF w2 3 q r ls.length f _ cnt2) := R2
          have HB2 := (show Hid _ from HBx.out.trans (U2.below (by have := HBx.out.size; have := HQ.out; omega) (fun i (hi : i = r) => by have := HQR.out; omega)))
          have HMS : Hid (w2.rangeLeft q r = cnt2 ∧ wr.rangeLeft q r = cnt ∧ cnt2 < cnt) := ⟨R2.left_eq, R.out.left_eq, hlt⟩
          have HSU : Hid (cc = 0 ↔ sau ls u = 0) := by
            constructor
            · rintro rfl; rw [← hsum]; simp
            · intro e
              rw [e] at hsum
              rcases Int.mul_eq_zero.1 hsum with h | h
              · exact h
              · have := p10_1 (12 - s); omega
          have HU := (show Hid _ from (And.intro h0 (And.intro h3 ht)))
          clear R2 U2 hlt hcb hc hlk hkey h0 h3 ht hsum hs
          unfold dv at hen
          unfold dv
          unfold dv at HC
          go_wp2_with fail
          refine (HC.out _).mono ?_
          rintro e w3 ⟨rfl, b3⟩
          have b3' := below_over b3
          have HR3 : Hid (RanF w3 3 q r ls.length f _ cnt2) := HR2.out.step b3'
          have HB3 := (show Hid _ from HB2.out.trans (b3'.mono (by have := HB2.out.size; have := HQ.out; omega)))
          clear b3 b3' HB2 HR2
          by_cases hz : cc = 0
          · rw [decide_eq_true hz]
            have HZ := (show Hid _ from hz)
            clear hz
            go_wp2_with fail
            refine ⟨⟨_, cnt2, HR3.out, ?_, HB3.out⟩, ?_⟩
            · intro u' h0' h3' ht' hf
              simp only [Bool.and_eq_false_iff] at hf
              rcases hf with hf | hf
              · exact L.out u' h0' h3' ht' hf
              · have : Lit.sameKey (.int .i64 u') (.int .i64 u) = true := by simpa using hf
                have := WideAt.sameKey_eq this
                injection this with _ this
                rw [this]
                exact HSU.out.1 HZ.out
            · rw [HR3.out.left_eq, HMS.out.2.1]
              exact HMS.out.2.2
          · rw [decide_eq_false hz]
            have HZ := (show Hid _ from hz)
            clear hz
            go_wp2_with fail
            go_ret
            refine ⟨by rw [bal_no HU.out.1 HU.out.2.1 (fun e => HZ.out (HSU.out.2 e))]; rfl, by rw [HQ.out]; exact HB3.out⟩
    have hk' : k < n := by omega
    obtain ⟨x, hx⟩ : ∃ x, ls[k]? = some x := ⟨ls[k]'(by have := HN.out; omega), by simp⟩
    have hgx := HG.out x (List.mem_of_getElem? hx)
    obtain ⟨bb, off, e, hb, hc⟩ := (H.out.step (w' := wr) (by rw [HQ.out]; exact HB.out)).at k x hx
    cases e
    have hva := Ln.va hgx.2.1
    obtain ⟨f, m1, m2, m3⟩ := HM.out.ex
    have HM1 : Hid (MapF wr 3 q k f) := m1
    have HM2 := (show Hid _ from m2)
    have HM3 := (show Hid _ from m3)
    have hx0 : 0 ≤ x.cur ∧ x.cur ≤ 3 := ⟨hva.2.2.1, hva.2.2.2⟩
    obtain ⟨cc, s, hf, hs, hsum⟩ : ∃ (c : Int) (s : Nat), (f (.int .i64 x.cur)).getD (.agg #[.int .i64 0, .int .u64 0, .int .i64 0]) = dv c s ∧ s ≤ 12 ∧ c * (10 : Int) ^ (12 - s) = sau (ls.take k) x.cur := by
      cases ht : tcu (ls.take k) x.cur
      · refine ⟨0, 0, ?_, by omega, by rw [sau_none ht]; simp⟩
        rw [(m2 _ hx0.1 hx0.2).1 ht]
        unfold dv
        rw [dhi0, dlo0]
        rfl
      · obtain ⟨c, s, h1, h2, h3⟩ := (m2 _ hx0.1 hx0.2).2 ht
        exact ⟨c, s, by rw [h1]; rfl, h2, h3⟩
    obtain ⟨c', s', hs', hsum', HPL⟩ := plus_tot x hgx.1 hgx.2.2 cc s _ hs hsum (sau_36 (fun y hy => by have := HG.out y (List.mem_of_mem_take hy); exact ⟨this.1, this.2.2⟩) (by rw [List.length_take]; have := HL16.out; omega) _)
    have HPUT : Hid (∀ w', MapF w' 3 q (k + 1) (upF f (.int .i64 x.cur) (dv c' s')) → UMap w' q (k + 1) (ls.take (k + 1))) := fun w' hm => by rw [take_snoc hx]; exact UMap.put m2 m3 hx0 hs' hsum' hm
    have HP := (show Hid _ from HPL)
    have HF := (show Hid _ from hf)
    have HX0 := (show Hid _ from hx0)
    obtain ⟨x0, x1, x2, x3, x4⟩ := x
    simp only at HP HPUT HF HX0
    have c0 : wr.cell? ⟨bb, off + k * 5, none⟩ = some (.int .i64 x0) := hc 0 _ rfl
    have c1 : wr.cell? ⟨bb, off + k * 5 + 1, none⟩ = some (.int .i64 x1) := hc 1 _ rfl
    have c2 : wr.cell? ⟨bb, off + k * 5 + 2, none⟩ = some (.int .i64 x2) := hc 2 _ rfl
    have c3 : wr.cell? ⟨bb, off + k * 5 + 3, none⟩ = some (.int .u64 x3) := hc 3 _ rfl
    have c4 : wr.cell? ⟨bb, off + k * 5 + 4, none⟩ = some (.int .i64 x4) := hc 4 _ rfl
    have d1 : (0 : Int) ≤ (k : Int) := by omega
    have d2 : (k : Int) < (n : Int) := by omega
    clear hc hb hx hgx hva m1 m2 m3 hx0 hf hs hsum hs' hsum' HPL HM
    go_upto_region 5 with fail
    have BA := (Below.refl wr.heap.size wr).alloc (Nat.le_refl _) (.cells #[.int .i64 x0, .int .i64 x1, .int .i64 x2, .int .u64 x3, .int .i64 x4] 39)
    have HV : Hid (VA (wr.alloc (.cells #[.int .i64 x0, .int .i64 x1, .int .i64 x2, .int .u64 x3, .int .i64 x4] 39)) wr.heap.size [.int .i64 x0, .int .i64 x1, .int .i64 x2, .int .u64 x3, .int .i64 x4] 39) := va_new wr [.int .i64 x0, .int .i64 x1, .int .i64 x2, .int .u64 x3, .int .i64 x4] 39
    have HMX : Hid (MapF (wr.alloc (.cells #[.int .i64 x0, .int .i64 x1, .int .i64 x2, .int .u64 x3, .int .i64 x4] 39)) 3 q k f) := HM1.out.step BA
    have HBX := (show Hid _ from HB.out.trans (BA.mono (by have := HB.out.size; have := HQ.out; omega)))
    clear BA c0 c1 c2 c3 c4 HM1 HB
    generalize wr.heap.size = q5 at *
    generalize wr.alloc (.cells #[.int .i64 x0, .int .i64 x1, .int .i64 x2, .int .u64 x3, .int .i64 x4] 39) = w2 at *
    refine wp_region_noPanic ?_
    refine wp_region_held_drew (S := fun w' => VA w' q5 [.int .i64 x0, .int .i64 x1, .int .i64 x2, .int .u64 x3, .int .i64 x4] 39) (by kernel_rfl) HV.out.drew (fun hHeld => ?_)
    refine takeD 0 15 (.map (some q)) (by exact rfl) rfl (by kernel_rfl) (by kernel_rfl) (by kernel_rfl) (fun _ _ _ h => h) (Or.inl ⟨by rfl, ?_⟩) (by assumption) ?_
    · intro wq hS
      go_simp
    try simp only [Act.put, List.setIfInBounds_toArray, List.set_cons_zero, List.set_cons_succ]
    refine takeD 1 16 (.pointer (some ⟨q5, 1, none⟩)) (by exact rfl) rfl (by kernel_rfl) (by kernel_rfl) (by kernel_rfl) (fun _ _ _ h => h) (Or.inl ⟨by rfl, ?_⟩) (by assumption) ?_
    · intro wq hS
      go_simp
    try simp only [Act.put, List.setIfInBounds_toArray, List.set_cons_zero, List.set_cons_succ]
    refine takeD 2 17 (.int .i64 x1) (by exact rfl) rfl (by kernel_rfl) (by kernel_rfl) (by kernel_rfl) (fun _ _ _ h => h) (Or.inl ⟨by rfl, ?_⟩) (by assumption) ?_
    · intro wq hS
      have e0 := hS.cell 1 (v := .int .i64 x1) rfl
      go_simp
    try simp only [Act.put, List.setIfInBounds_toArray, List.set_cons_zero, List.set_cons_succ]
    refine takeD 3 18 (.map (some q)) (by exact rfl) rfl (by kernel_rfl) (by kernel_rfl) (by kernel_rfl) (fun _ _ _ h => h) (Or.inl ⟨by rfl, ?_⟩) (by assumption) ?_
    · intro wq hS
      go_simp
    try simp only [Act.put, List.setIfInBounds_toArray, List.set_cons_zero, List.set_cons_succ]
    refine takeD 4 19 (.pointer (some ⟨q5, 1, none⟩)) (by exact rfl) rfl (by kernel_rfl) (by kernel_rfl) (by kernel_rfl) (fun _ _ _ h => h) (Or.inl ⟨by rfl, ?_⟩) (by assumption) ?_
    · intro wq hS
      go_simp
    try simp only [Act.put, List.setIfInBounds_toArray, List.set_cons_zero, List.set_cons_succ]
    refine takeD 5 20 (.int .i64 x1) (by exact rfl) rfl (by kernel_rfl) (by kernel_rfl) (by kernel_rfl) (fun _ _ _ h => h) (Or.inl ⟨by rfl, ?_⟩) (by assumption) ?_
    · intro wq hS
      have e0 := hS.cell 1 (v := .int .i64 x1) rfl
      go_simp
    try simp only [Act.put, List.setIfInBounds_toArray, List.set_cons_zero, List.set_cons_succ]
    refine takeD 7 22 (.pointer (some ⟨q5, 2, none⟩)) (by exact rfl) rfl (by kernel_rfl) (by kernel_rfl) (by kernel_rfl) (fun _ _ _ h => h) (Or.inl ⟨by rfl, ?_⟩) (by assumption) ?_
    · intro wq hS
      go_simp
    try simp only [Act.put, List.setIfInBounds_toArray, List.set_cons_zero, List.set_cons_succ]
    refine takeD 8 23 (.agg #[.int .i64 x2, .int .u64 x3, .int .i64 x4]) (by exact rfl) rfl (by kernel_rfl) (by kernel_rfl) (by kernel_rfl) (fun _ _ _ h => h) (Or.inl ⟨by rfl, ?_⟩) (by assumption) ?_
    · intro wq hS
      have e0 := hS.cell 2 (v := .int .i64 x2) rfl
      have e1 := hS.cell 3 (v := .int .u64 x3) rfl
      have e2 := hS.cell 4 (v := .int .i64 x4) rfl
      go_simp
    try simp only [Act.put, List.setIfInBounds_toArray, List.set_cons_zero, List.set_cons_succ]
    clear hHeld
    refine wpAnyH_ready (rs := [6]) (by kernel_rfl) (by simp) ?_
    refine AllReadyH.cons (by exact rfl) (fun K hK => ?_) AllReadyH.nil
    skip
    refine lkD (by rfl) _ _ 95 (by rfl) 3 37 keyedI Tryd.underlying95 _ (zeroD _) q k f (by rfl) (HMX.out.step (Below.refl _ _).drew) (.int .i64 x1) (.int .i64 x1) (by rfl) (li_key (by have := HX0.out; unfold I6; omega)) (.agg #[.int .i64 (dhi cc), .int .u64 (dlo cc), .int .i64 (s : Int)]) HF.out 21 (by rfl) ?_
    refine hK.out _ _ HV.out.drew (fun hHeld => ?_)
    clear hK K hHeld
    try simp only [Act.put, List.setIfInBounds_toArray, List.set_cons_zero, List.set_cons_succ]
    refine wpAnyH_ready (rs := [9]) (by kernel_rfl) (by simp) ?_
    refine AllReadyH.cons (by exact rfl) (fun K hK => ?_) AllReadyH.nil
    go_simp
    refine (HP.out _).mono ?_
    rintro e w5 ⟨rfl, b3⟩
    have b3 : Below w2.heap.size w2 w5 := ((Below.refl w2.heap.size w2).drew).trans b3
    have HM5 : Hid (MapF w5 3 q k f) := HMX.out.step b3
    have HV5 := (show Hid _ from HV.out.step b3)
    have HB5 := (show Hid _ from HBX.out.trans (b3.mono (by have := HBX.out.size; have := HQ.out; omega)))
    clear b3 HMX HV HBX
    go_wp2_with fail
    refine hK.out _ _ HV5.out (fun hHeld => ?_)
    clear hK K hHeld
    try simp only [Act.put, List.setIfInBounds_toArray, List.set_cons_zero, List.set_cons_succ]
    refine wpAnyH_ready (rs := [10]) (by kernel_rfl) (by simp) ?_
    refine AllReadyH.cons (by exact rfl) (fun K hK => ?_) AllReadyH.nil
    skip
    refine stMd (by rfl) _ _ _ 95 (by rfl) 3 37 keyedI Tryd.underlying95 q k f (by rfl) HM5.out (by have := HL16.out; have := HN.out; unfold maxLen; omega) (.int .i64 x1) (dv c' s') (.int .i64 x1) (by rfl) (by rfl) (li_key (by have := HX0.out; unfold I6; omega)) ?_
    intro w6 m6 t6
    have M6 := HPUT.out _ m6
    have U6 := turned_but t6
    refine hK.out _ _ (HV5.out.but U6 (HV5.out.notF HM5.out)) (fun hHeld => ?_)
    clear hK K hHeld
    refine wpAnyH_done (by kernel_rfl) ?_ _
    refine NoPanic.normal ?_
    have HM6 := (show Hid _ from M6)
    have HB6 := (show Hid _ from HB5.out.trans (U6.below (by have := HB5.out.size; have := HQ.out; omega) (fun i (hi : i = q) => by omega)))
    clear M6 U6 m6 t6 HM5
    go_wp2_with fail
    exact ⟨⟨k + 1, by omega, by go_num, HM6.out, HB6.out⟩, by simp [intOf]; omega⟩
end Go.Proofs.YtlgcbbnnldlooaaDoor
