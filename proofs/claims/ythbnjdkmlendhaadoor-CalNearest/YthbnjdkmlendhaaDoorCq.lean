/- The law CalNearest: its walk. -/
import Derived.Test.YthbnjdkmlendhaaDoorCp
import Derived.Laws.AppendOwn
import Derived.Below
import Derived.Deep.DeepCutAuto
namespace Go.Proofs.YthbnjdkmlendhaaDoor
open Go.RowKit
set_option linter.unusedVariables false

theorem Tryd.info3 : (Tryd.prog.info? 3).map (fun i => (i.zero, i.size, i.bytes)) = some (some (.int .i64 0), 1, 8) := by kernel_rfl
/-- what the call's own row holds is a list of holidays -/
theorem hol_own {w : World} {base : Nat} {v : Value} {ys : List Int} {n : Nat} (h : w.ownsRow base 3 1 v n (ys.map (Value.int .i64))) (hn : n = ys.length) (hm : ys.length ≤ 400) : Hol w v ys := by
  subst hn
  have h0 := h
  obtain ⟨hl, hcase⟩ := h
  rcases hcase with ⟨rfl, e⟩ | ⟨g, cap, cur, rfl, hb, hh, hn, hcap, hsz, htake⟩
  · have : ys = [] := List.length_eq_zero_iff.1 e
    subst this
    exact Hol.none none 0
  · refine Hol.some g 0 ys.length cap ys rfl hm (fun k hk => ?_)
    rw [Nat.zero_add, h0.cellAt k (by omega)]
    simp [List.getD, List.getElem?_eq_getElem hk]
/-- the holidays that came in -/
structure Came (w : World) (v : Value) (zs : List Int) : Prop where
  cases : (v = .slice none 0 0 ∧ zs = []) ∨ (∃ a c, v = .slice (some a) 0 c ∧ zs = []) ∨ ∃ b off len c, v = .slice (Option.some ⟨b, off, Option.none⟩) len c ∧ b < w.heap.size ∧ len ≤ zs.length ∧ 1 ≤ len ∧ len ≤ c ∧ c ≤ 9223372036854775807 ∧ ∀ k, k < len → w.cell? ⟨b, off + k, Option.none⟩ = Option.some (.int .i64 (zs.getD k 0))
theorem Came.nil {w : World} : Came w (.slice none 0 0) [] := ⟨Or.inl ⟨rfl, rfl⟩⟩
theorem Came.empty {w : World} (a : Addr) (c : Nat) : Came w (.slice (some a) 0 c) [] := ⟨Or.inr (Or.inl ⟨a, c, rfl, rfl⟩)⟩
theorem Came.some {w : World} (b off len c : Nat) (zs : List Int) (hb : b < w.heap.size) (hl : len ≤ zs.length) (hl1 : 1 ≤ len) (hlc : len ≤ c) (hc : c ≤ 9223372036854775807) (hz : ∀ k, k < len → w.cell? ⟨b, off + k, Option.none⟩ = Option.some (.int .i64 (zs.getD k 0))) : Came w (.slice (Option.some ⟨b, off, Option.none⟩) len c) zs := ⟨Or.inr (Or.inr ⟨b, off, len, c, rfl, hb, hl, hl1, hlc, hc, hz⟩)⟩
theorem u_mod (a : Int) {k : Int} (hk : 0 < k) : 0 ≤ (IntKind.u64.wrap a).tmod k ∧ (IntKind.u64.wrap a).tmod k < k := by
  have h : 0 ≤ IntKind.u64.wrap a := by rw [IntKind.wrap_u64]; omega
  rw [Int.tmod_eq_emod_of_nonneg h]
  exact ⟨Int.emod_nonneg _ (by omega), Int.emod_lt_of_pos _ hk⟩
theorem rolled_none {k n r : Int} {zs : List Int} (h : Rolled k n r zs) (d : Int) (h1 : n ≤ d ∨ r ≤ d) (h2 : d ≤ n ∨ d ≤ r) (hd : d ≠ r) : ¬ Bus d zs := by
  obtain ⟨a, b, c, h⟩ := h
  rcases h with ⟨_, e1, e2, _⟩ | ⟨_, e1, e2⟩
  · exact e2 d (by omega) (by omega)
  · exact e2 d (by omega) (by omega)
set_option maxHeartbeats 4000000 in
set_option maxRecDepth 100000 in
theorem nearest_walk (n how : Int) (v : Value) (zs : List Int) (w : World) (hv : Came w v zs) (hh : 0 ≤ how ∧ how ≤ 255) :
    Calls Tryd.prog 3 #[.int .i64 n, v, .int .u8 how] w fun e w' => e = .returned (.bool true) ∧ Below w.heap.size w w' := by
  have HV : Hid (Came w v zs) := hv
  clear hv
  go_enter Tryd.func3, Tryd.ntmps3
  go_wp2_with fail
  refine (awake03 _).mono ?_
  rintro e w1 ⟨rfl, rfl⟩
  go_upto_region 3 with fail
  go_cut [1] (fun s1 wx => ∃ ys, Hol wx s1 ys ∧ Below w1.heap.size w1 wx)
  case first =>
    obtain ⟨i0, hi, hz⟩ := Option.map_eq_some_iff.1 Tryd.info3
    simp only [Prod.mk.injEq] at hz
    obtain ⟨hz0, hz1, hz2⟩ := hz
    have hv := HV.out
    have own0 := World.ownsRow_made (base := w1.heap.size) (e := 3) (size := 1) w1 #[] 0 (Nat.le_refl _) (by decide) rfl
    have bel0 : Below w1.heap.size w1 (w1.alloc (.cells #[] 3)) := (Below.refl _ _).alloc (Nat.le_refl _) _
    have back : ∀ {w' : World}, (w1.alloc (.cells #[] 3)).grownBy w' (Value.slice (some ⟨w1.heap.size, 0, none⟩) 0 0).ownBlock → Below w1.heap.size w1 w' := fun {w'} hg =>
      bel0.grown hg (by simp) (fun k hk => by simp [Value.ownBlock] at hk; omega)
    have BK := (show Hid _ from @back)
    clear back
    rcases hv.cases with ⟨rfl, rfl⟩ | ⟨a, c, rfl, rfl⟩ | ⟨b, off, len, c, rfl, hb, hl, hl1, hlc, hc, hz⟩
    · clear hv
      clear own0
      go_wp2_with fail
      go_meet
      exact ⟨[], Hol.none _ _, bel0⟩
    · clear hv
      go_wp2_with (first | (at_builtin; refine wpList_append_own _ rfl _ _ 22 rfl w1.heap.size 3 i0 (.int .i64 0) 1 8 Tryd.underlying22 hi hz0 hz1 hz2 rfl (by decide) _ 0 [] rfl own0 a 0 c [] rfl rfl (by simp) (by simp) (by decide) (by decide) (by simp) ?_))
      intro v' w' g1 g2 g3
      have HG := (show Hid _ from And.intro g1 g2)
      clear g1 g2 g3 own0
      go_wp2_with fail
      go_meet
      exact ⟨[], hol_own (ys := []) HG.out.1 rfl (by simp), BK.out HG.out.2⟩
    · clear hv
      have news : ∀ m, m ≤ len → ∀ (j : Nat) (u : Value), ((zs.take m).map (Value.int .i64))[j]? = some u → (w1.alloc (.cells #[] 3)).cell? ((⟨b, off, none⟩ : Addr).add j) = some u := by
        intro m hm j u hu
        rw [List.getElem?_map] at hu
        obtain ⟨x, hx, rfl⟩ := Option.map_eq_some_iff.1 hu
        have hj : j < m := by
          have := (List.getElem?_eq_some_iff.1 hx).1
          simp at this; omega
        rw [List.getElem?_take_of_lt hj] at hx
        rw [Go.WideShapes.add_plain, World.cell?_alloc_past _ _ _ hb, hz j (by omega)]
        simp [List.getD, hx]
      have NW := (show Hid _ from news)
      have HZ := (show Hid _ from hl)
      clear news hz hl
      by_cases h60 : 60 < len
      · go_wp2_with (first | (at_builtin; refine wpList_append_own _ rfl _ _ 22 rfl w1.heap.size 3 i0 (.int .i64 0) 1 8 Tryd.underlying22 hi hz0 hz1 hz2 rfl (by decide) _ 0 [] rfl own0 ⟨b, off, none⟩ 60 c ((zs.take 60).map (Value.int .i64)) rfl (by have := HZ.out; simp; omega) (NW.out 60 (by omega)) (fun u hu => by obtain ⟨x, _, rfl⟩ := List.mem_map.1 hu; rfl) (by decide) (by decide) (by simp) ?_))
        intro v' w' g1 g2 g3
        have HG := (show Hid _ from And.intro g1 g2)
        clear g1 g2 g3 own0
        go_wp2_with fail
        go_meet
        exact ⟨zs.take 60, hol_own (by simpa using HG.out.1) (by have := HZ.out; simp; omega) (by simp; omega), BK.out HG.out.2⟩
      · have h60' : len ≤ 60 := by omega
        go_wp2_with (first | (at_builtin; refine wpList_append_own _ rfl _ _ 22 rfl w1.heap.size 3 i0 (.int .i64 0) 1 8 Tryd.underlying22 hi hz0 hz1 hz2 rfl (by decide) _ 0 [] rfl own0 ⟨b, off, none⟩ len c ((zs.take len).map (Value.int .i64)) rfl (by have := HZ.out; simp; omega) (NW.out len (by omega)) (fun u hu => by obtain ⟨x, _, rfl⟩ := List.mem_map.1 hu; rfl) (by unfold maxLen; omega) (by omega) (by simp) ?_))
        intro v' w' g1 g2 g3
        have HG := (show Hid _ from And.intro g1 g2)
        clear g1 g2 g3 own0
        go_wp2_with fail
        go_meet
        exact ⟨zs.take len, hol_own (by simpa using HG.out.1) (by have := HZ.out; simp; omega) (by simp; omega), BK.out HG.out.2⟩
  case rest =>
    obtain ⟨ys, hy, hb⟩ := hcut
    have HY := (show Hid _ from hy)
    have HB := (show Hid _ from hb)
    clear hy hb HV
    go_upto_region 4 with fail
    go_cut [37] (fun s37 wx => wx = wc ∧ s37 = .bool (decide (¬ (1 ≤ n ∧ n ≤ 3652059))))
    case first =>
      by_cases c1 : n < 1
      · have e : decide (¬ (1 ≤ n ∧ n ≤ 3652059)) = true := decide_eq_true (by omega)
        go_wp2_with fail
        go_meet
        exact ⟨rfl, by rw [e]⟩
      · have c1' : decide (n < 1) = false := decide_eq_false c1
        by_cases c2 : 3652059 < n
        · have e : decide (¬ (1 ≤ n ∧ n ≤ 3652059)) = true := decide_eq_true (by omega)
          go_wp2_with fail
          go_meet
          exact ⟨rfl, by rw [e]⟩
        · have e : decide (¬ (1 ≤ n ∧ n ≤ 3652059)) = false := decide_eq_false (by omega)
          have c2' : decide (3652059 < n) = false := decide_eq_false c2
          go_wp2_with fail
          go_meet
          exact ⟨rfl, by rw [e]⟩
    case rest =>
      obtain ⟨rfl, rfl⟩ := hcut
      go_upto_if 37 with fail
      go_cut [0] (fun s0 wx => wx = wc ∧ ∃ N : Int, 1 ≤ N ∧ N ≤ 3652059 ∧ s0 = .int .i64 N)
      case first =>
        have hn := u_mod n (show (0 : Int) < 3652059 by omega)
        by_cases c : 1 ≤ n ∧ n ≤ 3652059
        · have e : decide (¬ (1 ≤ n ∧ n ≤ 3652059)) = false := decide_eq_false (by omega)
          rw [e]
          go_wp2_with fail
          go_meet
          exact ⟨rfl, n, c.1, c.2, rfl⟩
        · have e : decide (¬ (1 ≤ n ∧ n ≤ 3652059)) = true := decide_eq_true c
          rw [e]
          clear c e
          go_wp2_with fail
          go_meet
          exact ⟨rfl, _, by omega, by omega, rfl⟩
      case rest =>
        obtain ⟨rfl, N, n1, n2, rfl⟩ := hcut
        have hk : how % 3 = 0 ∨ how % 3 = 1 ∨ how % 3 = 2 := by omega
        rcases hk with hk | hk | hk
        · go_wp2_with fail
          refine (Roll_0 N _ ys _ n1 n2 HY.out).mono ?_
          rintro e w2 ⟨rfl | ⟨r, hr, rfl⟩, rfl⟩
          · go_wp2_with fail
            go_ret
            exact ⟨rfl, HB.out⟩
          · have HR : Hid (Rolled 0 N r ys) := hr
            obtain ⟨r1, r2, r3, r4⟩ := hr
            have hbd : decide (Bus r ys) = true := decide_eq_true r3
            clear r3
            obtain ⟨y, m, d, D⟩ := date_ex N n1 n2
            obtain ⟨y', m', d', D'⟩ := date_ex r r1 r2
            have hmm : (0 : Int) = 2 → N < r → m = m' := fun h2 hlt => by
              rcases r4 with ⟨_, _, _, h⟩ | ⟨_, h, _⟩
              · exact h h2 _ _ _ _ _ _ D D'
              · omega
            have ord : (N ≤ r) := by rcases r4 with ⟨h, h', _⟩ | ⟨h, h', _⟩ <;> omega
            have HM : Hid (0 = 0) := (show 0 = 0 from rfl)
            clear r4 hmm
            go_wp2_with fail
            refine (Business_ok r _ ys _ r1 r2 HY.out).mono ?_
            rintro e w3 ⟨rfl, rfl⟩
            rw [hbd]
            clear hbd
            rcases Int.lt_trichotomy r N with c | c | c
            · omega
            · subst c
              go_wp2_with fail
              go_loop [12] (fun i => ∃ E : Int, r ≤ E ∧ E ≤ r + 1 ∧ i = .int .i64 E) (fun i => (r + 1 - intOf i).toNat)
              case atStart => exact ⟨r, by omega, by omega, rfl⟩
              case round =>
                obtain ⟨E, e1, e2, rfl⟩ := hrel
                by_cases hE : E = r + 1
                · subst hE
                  go_wp2_with fail
                  refine (Civil_ok r y m d _ D).mono ?_
                  rintro e w4 ⟨rfl, rfl⟩
                  go_wp2_with fail
                  refine (Civil_ok r _ _ _ _ D').mono ?_
                  rintro e w4 ⟨rfl, rfl⟩
                  go_wp2_with fail
                  go_ret
                  exact ⟨by first | rfl | simp, HB.out⟩
                · have e3 : E ≤ r := by omega
                  by_cases hEr : E = r
                  · have hbd : decide (Bus E ys) = true := decide_eq_true (by rw [hEr]; exact HR.out.2.2.1)
                    subst hEr
                    go_wp2_with fail
                    refine (Business_ok E _ ys _ (by omega) (by omega) HY.out).mono ?_
                    rintro e w4 ⟨rfl, rfl⟩
                    rw [hbd]
                    clear hbd
                    go_wp2_with fail
                    exact ⟨⟨E + 1, by omega, by omega, rfl⟩, by simp [intOf]; omega⟩
                  · have hbd : decide (Bus E ys) = false := decide_eq_false (rolled_none HR.out E (by omega) (by omega) hEr)
                    go_wp2_with fail
                    refine (Business_ok E _ ys _ (by omega) (by omega) HY.out).mono ?_
                    rintro e w4 ⟨rfl, rfl⟩
                    rw [hbd]
                    clear hbd
                    go_wp2_with fail
                    exact ⟨⟨E + 1, by omega, by omega, rfl⟩, by simp [intOf]; omega⟩
            · go_wp2_with fail
              go_loop [12] (fun i => ∃ E : Int, N ≤ E ∧ E ≤ r + 1 ∧ i = .int .i64 E) (fun i => (r + 1 - intOf i).toNat)
              case atStart => exact ⟨N, by omega, by omega, rfl⟩
              case round =>
                obtain ⟨E, e1, e2, rfl⟩ := hrel
                by_cases hE : E = r + 1
                · subst hE
                  go_wp2_with fail
                  refine (Civil_ok N y m d _ D).mono ?_
                  rintro e w4 ⟨rfl, rfl⟩
                  go_wp2_with fail
                  refine (Civil_ok r _ _ _ _ D').mono ?_
                  rintro e w4 ⟨rfl, rfl⟩
                  go_wp2_with fail
                  go_ret
                  exact ⟨by first | rfl | simp, HB.out⟩
                · have e3 : E ≤ r := by omega
                  by_cases hEr : E = r
                  · have hbd : decide (Bus E ys) = true := decide_eq_true (by rw [hEr]; exact HR.out.2.2.1)
                    subst hEr
                    go_wp2_with fail
                    refine (Business_ok E _ ys _ (by omega) (by omega) HY.out).mono ?_
                    rintro e w4 ⟨rfl, rfl⟩
                    rw [hbd]
                    clear hbd
                    go_wp2_with fail
                    exact ⟨⟨E + 1, by omega, by omega, rfl⟩, by simp [intOf]; omega⟩
                  · have hbd : decide (Bus E ys) = false := decide_eq_false (rolled_none HR.out E (by omega) (by omega) hEr)
                    go_wp2_with fail
                    refine (Business_ok E _ ys _ (by omega) (by omega) HY.out).mono ?_
                    rintro e w4 ⟨rfl, rfl⟩
                    rw [hbd]
                    clear hbd
                    go_wp2_with fail
                    exact ⟨⟨E + 1, by omega, by omega, rfl⟩, by simp [intOf]; omega⟩
        · go_wp2_with fail
          refine (Roll_1 N _ ys _ n1 n2 HY.out).mono ?_
          rintro e w2 ⟨rfl | ⟨r, hr, rfl⟩, rfl⟩
          · go_wp2_with fail
            go_ret
            exact ⟨rfl, HB.out⟩
          · have HR : Hid (Rolled 1 N r ys) := hr
            obtain ⟨r1, r2, r3, r4⟩ := hr
            have hbd : decide (Bus r ys) = true := decide_eq_true r3
            clear r3
            obtain ⟨y, m, d, D⟩ := date_ex N n1 n2
            obtain ⟨y', m', d', D'⟩ := date_ex r r1 r2
            have hmm : (1 : Int) = 2 → N < r → m = m' := fun h2 hlt => by
              rcases r4 with ⟨_, _, _, h⟩ | ⟨_, h, _⟩
              · exact h h2 _ _ _ _ _ _ D D'
              · omega
            have ord : (r ≤ N) := by rcases r4 with ⟨h, h', _⟩ | ⟨h, h', _⟩ <;> omega
            have HM : Hid (0 = 0) := (show 0 = 0 from rfl)
            clear r4 hmm
            go_wp2_with fail
            refine (Business_ok r _ ys _ r1 r2 HY.out).mono ?_
            rintro e w3 ⟨rfl, rfl⟩
            rw [hbd]
            clear hbd
            rcases Int.lt_trichotomy r N with c | c | c
            · go_wp2_with fail
              go_loop [12] (fun i => ∃ E : Int, r ≤ E ∧ E ≤ N + 1 ∧ i = .int .i64 E) (fun i => (N + 1 - intOf i).toNat)
              case atStart => exact ⟨r, by omega, by omega, rfl⟩
              case round =>
                obtain ⟨E, e1, e2, rfl⟩ := hrel
                by_cases hE : E = N + 1
                · subst hE
                  go_wp2_with fail
                  refine (Civil_ok N y m d _ D).mono ?_
                  rintro e w4 ⟨rfl, rfl⟩
                  go_wp2_with fail
                  refine (Civil_ok r _ _ _ _ D').mono ?_
                  rintro e w4 ⟨rfl, rfl⟩
                  go_wp2_with fail
                  go_ret
                  exact ⟨by first | rfl | simp, HB.out⟩
                · have e3 : E ≤ N := by omega
                  by_cases hEr : E = r
                  · have hbd : decide (Bus E ys) = true := decide_eq_true (by rw [hEr]; exact HR.out.2.2.1)
                    subst hEr
                    go_wp2_with fail
                    refine (Business_ok E _ ys _ (by omega) (by omega) HY.out).mono ?_
                    rintro e w4 ⟨rfl, rfl⟩
                    rw [hbd]
                    clear hbd
                    go_wp2_with fail
                    exact ⟨⟨E + 1, by omega, by omega, rfl⟩, by simp [intOf]; omega⟩
                  · have hbd : decide (Bus E ys) = false := decide_eq_false (rolled_none HR.out E (by omega) (by omega) hEr)
                    go_wp2_with fail
                    refine (Business_ok E _ ys _ (by omega) (by omega) HY.out).mono ?_
                    rintro e w4 ⟨rfl, rfl⟩
                    rw [hbd]
                    clear hbd
                    go_wp2_with fail
                    exact ⟨⟨E + 1, by omega, by omega, rfl⟩, by simp [intOf]; omega⟩
            · subst c
              go_wp2_with fail
              go_loop [12] (fun i => ∃ E : Int, r ≤ E ∧ E ≤ r + 1 ∧ i = .int .i64 E) (fun i => (r + 1 - intOf i).toNat)
              case atStart => exact ⟨r, by omega, by omega, rfl⟩
              case round =>
                obtain ⟨E, e1, e2, rfl⟩ := hrel
                by_cases hE : E = r + 1
                · subst hE
                  go_wp2_with fail
                  refine (Civil_ok r y m d _ D).mono ?_
                  rintro e w4 ⟨rfl, rfl⟩
                  go_wp2_with fail
                  refine (Civil_ok r _ _ _ _ D').mono ?_
                  rintro e w4 ⟨rfl, rfl⟩
                  go_wp2_with fail
                  go_ret
                  exact ⟨by first | rfl | simp, HB.out⟩
                · have e3 : E ≤ r := by omega
                  by_cases hEr : E = r
                  · have hbd : decide (Bus E ys) = true := decide_eq_true (by rw [hEr]; exact HR.out.2.2.1)
                    subst hEr
                    go_wp2_with fail
                    refine (Business_ok E _ ys _ (by omega) (by omega) HY.out).mono ?_
                    rintro e w4 ⟨rfl, rfl⟩
                    rw [hbd]
                    clear hbd
                    go_wp2_with fail
                    exact ⟨⟨E + 1, by omega, by omega, rfl⟩, by simp [intOf]; omega⟩
                  · have hbd : decide (Bus E ys) = false := decide_eq_false (rolled_none HR.out E (by omega) (by omega) hEr)
                    go_wp2_with fail
                    refine (Business_ok E _ ys _ (by omega) (by omega) HY.out).mono ?_
                    rintro e w4 ⟨rfl, rfl⟩
                    rw [hbd]
                    clear hbd
                    go_wp2_with fail
                    exact ⟨⟨E + 1, by omega, by omega, rfl⟩, by simp [intOf]; omega⟩
            · omega
        · go_wp2_with fail
          refine (Roll_2 N _ ys _ n1 n2 HY.out).mono ?_
          rintro e w2 ⟨rfl | ⟨r, hr, rfl⟩, rfl⟩
          · go_wp2_with fail
            go_ret
            exact ⟨rfl, HB.out⟩
          · have HR : Hid (Rolled 2 N r ys) := hr
            obtain ⟨r1, r2, r3, r4⟩ := hr
            have hbd : decide (Bus r ys) = true := decide_eq_true r3
            clear r3
            obtain ⟨y, m, d, D⟩ := date_ex N n1 n2
            obtain ⟨y', m', d', D'⟩ := date_ex r r1 r2
            have hmm : (2 : Int) = 2 → N < r → m = m' := fun h2 hlt => by
              rcases r4 with ⟨_, _, _, h⟩ | ⟨_, h, _⟩
              · exact h h2 _ _ _ _ _ _ D D'
              · omega
            have ord : (N ≤ r ∨ r ≤ N) := by rcases r4 with ⟨h, h', _⟩ | ⟨h, h', _⟩ <;> omega
            have HM : Hid (N < r → m = m') := fun h => hmm rfl h
            clear r4 hmm
            go_wp2_with fail
            refine (Business_ok r _ ys _ r1 r2 HY.out).mono ?_
            rintro e w3 ⟨rfl, rfl⟩
            rw [hbd]
            clear hbd
            rcases Int.lt_trichotomy r N with c | c | c
            · go_wp2_with fail
              go_loop [12] (fun i => ∃ E : Int, r ≤ E ∧ E ≤ N + 1 ∧ i = .int .i64 E) (fun i => (N + 1 - intOf i).toNat)
              case atStart => exact ⟨r, by omega, by omega, rfl⟩
              case round =>
                obtain ⟨E, e1, e2, rfl⟩ := hrel
                by_cases hE : E = N + 1
                · subst hE
                  go_wp2_with fail
                  refine (Civil_ok N y m d _ D).mono ?_
                  rintro e w4 ⟨rfl, rfl⟩
                  go_wp2_with fail
                  refine (Civil_ok r _ _ _ _ D').mono ?_
                  rintro e w4 ⟨rfl, rfl⟩
                  go_wp2_with fail
                  go_ret
                  exact ⟨by first | rfl | simp, HB.out⟩
                · have e3 : E ≤ N := by omega
                  by_cases hEr : E = r
                  · have hbd : decide (Bus E ys) = true := decide_eq_true (by rw [hEr]; exact HR.out.2.2.1)
                    subst hEr
                    go_wp2_with fail
                    refine (Business_ok E _ ys _ (by omega) (by omega) HY.out).mono ?_
                    rintro e w4 ⟨rfl, rfl⟩
                    rw [hbd]
                    clear hbd
                    go_wp2_with fail
                    exact ⟨⟨E + 1, by omega, by omega, rfl⟩, by simp [intOf]; omega⟩
                  · have hbd : decide (Bus E ys) = false := decide_eq_false (rolled_none HR.out E (by omega) (by omega) hEr)
                    go_wp2_with fail
                    refine (Business_ok E _ ys _ (by omega) (by omega) HY.out).mono ?_
                    rintro e w4 ⟨rfl, rfl⟩
                    rw [hbd]
                    clear hbd
                    go_wp2_with fail
                    exact ⟨⟨E + 1, by omega, by omega, rfl⟩, by simp [intOf]; omega⟩
            · subst c
              go_wp2_with fail
              go_loop [12] (fun i => ∃ E : Int, r ≤ E ∧ E ≤ r + 1 ∧ i = .int .i64 E) (fun i => (r + 1 - intOf i).toNat)
              case atStart => exact ⟨r, by omega, by omega, rfl⟩
              case round =>
                obtain ⟨E, e1, e2, rfl⟩ := hrel
                by_cases hE : E = r + 1
                · subst hE
                  go_wp2_with fail
                  refine (Civil_ok r y m d _ D).mono ?_
                  rintro e w4 ⟨rfl, rfl⟩
                  go_wp2_with fail
                  refine (Civil_ok r _ _ _ _ D').mono ?_
                  rintro e w4 ⟨rfl, rfl⟩
                  go_wp2_with fail
                  go_ret
                  exact ⟨by first | rfl | simp, HB.out⟩
                · have e3 : E ≤ r := by omega
                  by_cases hEr : E = r
                  · have hbd : decide (Bus E ys) = true := decide_eq_true (by rw [hEr]; exact HR.out.2.2.1)
                    subst hEr
                    go_wp2_with fail
                    refine (Business_ok E _ ys _ (by omega) (by omega) HY.out).mono ?_
                    rintro e w4 ⟨rfl, rfl⟩
                    rw [hbd]
                    clear hbd
                    go_wp2_with fail
                    exact ⟨⟨E + 1, by omega, by omega, rfl⟩, by simp [intOf]; omega⟩
                  · have hbd : decide (Bus E ys) = false := decide_eq_false (rolled_none HR.out E (by omega) (by omega) hEr)
                    go_wp2_with fail
                    refine (Business_ok E _ ys _ (by omega) (by omega) HY.out).mono ?_
                    rintro e w4 ⟨rfl, rfl⟩
                    rw [hbd]
                    clear hbd
                    go_wp2_with fail
                    exact ⟨⟨E + 1, by omega, by omega, rfl⟩, by simp [intOf]; omega⟩
            · have hm := HM.out c
              subst hm
              go_wp2_with fail
              go_loop [12] (fun i => ∃ E : Int, N ≤ E ∧ E ≤ r + 1 ∧ i = .int .i64 E) (fun i => (r + 1 - intOf i).toNat)
              case atStart => exact ⟨N, by omega, by omega, rfl⟩
              case round =>
                obtain ⟨E, e1, e2, rfl⟩ := hrel
                by_cases hE : E = r + 1
                · subst hE
                  go_wp2_with fail
                  refine (Civil_ok N y m d _ D).mono ?_
                  rintro e w4 ⟨rfl, rfl⟩
                  go_wp2_with fail
                  refine (Civil_ok r _ _ _ _ D').mono ?_
                  rintro e w4 ⟨rfl, rfl⟩
                  go_wp2_with fail
                  go_ret
                  exact ⟨by first | rfl | simp, HB.out⟩
                · have e3 : E ≤ r := by omega
                  by_cases hEr : E = r
                  · have hbd : decide (Bus E ys) = true := decide_eq_true (by rw [hEr]; exact HR.out.2.2.1)
                    subst hEr
                    go_wp2_with fail
                    refine (Business_ok E _ ys _ (by omega) (by omega) HY.out).mono ?_
                    rintro e w4 ⟨rfl, rfl⟩
                    rw [hbd]
                    clear hbd
                    go_wp2_with fail
                    exact ⟨⟨E + 1, by omega, by omega, rfl⟩, by simp [intOf]; omega⟩
                  · have hbd : decide (Bus E ys) = false := decide_eq_false (rolled_none HR.out E (by omega) (by omega) hEr)
                    go_wp2_with fail
                    refine (Business_ok E _ ys _ (by omega) (by omega) HY.out).mono ?_
                    rintro e w4 ⟨rfl, rfl⟩
                    rw [hbd]
                    clear hbd
                    go_wp2_with fail
                    exact ⟨⟨E + 1, by omega, by omega, rfl⟩, by simp [intOf]; omega⟩
end Go.Proofs.YthbnjdkmlendhaaDoor
