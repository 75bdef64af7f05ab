/- accrue: the walk of AccrueParts. -/
import Derived.Test.YtmaikgebdegkgaaKe
namespace Go.Proofs.Ytmaikgebdegkgaa
open Go.RowKit
set_option linter.unusedVariables false

/-- the sum of the first k parts -/
def psum (b : Int) (ts : List (Int × Int)) : Nat → Int
  | 0 => 0
  | k + 1 => psum b ts k + prt b ts k
theorem psum_eq {b : Int} {ts : List (Int × Int)} (hb : 0 ≤ b) (h : terr ts = 0) : ∀ k, k < ts.length → psum b ts k = min b (tf ts k)
  | 0, hk => by
    have g := gdb_out ((terr_zero h).2.2 0 hk)
    have := g.1 rfl
    unfold psum
    omega
  | k + 1, hk => by
    have ih := psum_eq hb h k (by omega)
    have g := gdb_out ((terr_zero h).2.2 (k + 1) hk)
    have := g.2.1 (by omega)
    rw [Nat.add_sub_cancel] at this
    unfold psum prt pend
    rw [if_pos hk]
    omega
theorem psum_all {b : Int} {ts : List (Int × Int)} (hb : 0 ≤ b) (h : terr ts = 0) : psum b ts ts.length = b := by
  have hz := terr_zero h
  obtain ⟨n, hn⟩ : ∃ n, ts.length = n + 1 := ⟨ts.length - 1, by omega⟩
  have ih := psum_eq hb h n (by omega)
  rw [hn]
  unfold psum prt pend
  rw [if_neg (by omega)]
  omega
theorem psum_bd {b : Int} {ts : List (Int × Int)} (hb : 0 ≤ b ∧ b ≤ 10000000000000) (h : terr ts = 0) (k : Nat) (hk : k ≤ ts.length) : 0 ≤ psum b ts k ∧ psum b ts k ≤ b := by
  rcases Nat.lt_or_ge k ts.length with hlt | hge
  · have := psum_eq hb.1 h k hlt
    have := tf_bd h k hlt
    omega
  · obtain rfl : k = ts.length := by omega
    rw [psum_all hb.1 h]
    omega
theorem wpc_nil (w : World) : OwnT (w.alloc (.cells #[] 25)) w.heap.size (.slice (some ⟨w.heap.size, 0, none⟩) 0 0) [] := ownT_made w
set_option maxRecDepth 100000 in
set_option maxHeartbeats 1000000 in
theorem parts_walk (b : Int) (tv : Value) (ts : List (Int × Int)) (w : World) (h : Tr w tv ts) (hno : ∀ n c, tv = .slice none n c → c = 0) (hl : ts.length ≤ 8796093022207) :
    Calls Try.prog 6 #[.int .i64 b, tv] w fun e w' => e = .returned (.bool true) ∧ Below w.heap.size w w' := by
  have H := (show Hid _ from h)
  have HNO := (show Hid _ from hno)
  have HL := (show Hid _ from hl)
  clear h hno hl
  go_enter Try.func6, Try.ntmps6
  go_wp2_with (first | (go_at_call 9; refine (awake_ok _).mono ?_; rintro e w1 ⟨rfl, b1⟩; have B1 := (show Hid _ from b1); clear b1; have T1 := (show Hid _ from (H.out.step B1.out).step ((Below.refl w1.heap.size w1).alloc (Nat.le_refl _) (.cells #[] 25)))) | (at_builtin; refine appTr rfl _ _ rfl w1.heap.size [] ts _ _ (by rfl) (by rfl) (ownT_made w1) T1.out HNO.out (by simp) (by simpa using Nat.le_succ_of_le HL.out) ?_; intro v2 w2 o2 b2 _))
  rw [List.nil_append] at o2
  have T2 := (show Hid _ from o2.tr)
  have B2 := (show Hid _ from B1.out.trans ((((Below.refl w1.heap.size w1).alloc (Nat.le_refl _) (.cells #[] 25)).trans b2).mono B1.out.size))
  clear o2 b2 T1 B1
  by_cases hb : 0 ≤ b ∧ b ≤ 10000000000000
  · by_cases ht : terr ts = 0
    · refine (Parts_ok b v2 ts _ T2.out hb ht).mono ?_
      rintro e w3 ⟨⟨v, rfl, ho⟩, b3⟩
      have B3 := (show Hid _ from B2.out.trans (b3.mono B2.out.size))
      obtain ⟨n, hn⟩ : ∃ n, n = ts.length := ⟨_, rfl⟩
      have hz := terr_zero ht
      have n8 : n ≤ 8 := by omega
      have n1 : 1 ≤ n := by omega
      rw [← hn] at ho
      obtain ⟨a, c, rfl, hc1, hc2⟩ := ho.form
      rw [prts_len] at *
      obtain ⟨g, rfl, hg, _⟩ := ho.at 0 (by rw [prts_len]; omega)
      obtain ⟨tA, tC, rfl⟩ : ∃ a c, tv = .slice a n c := by obtain ⟨_, a, c, e, _⟩ := H.out; exact ⟨a, c, by rw [hn]; exact e⟩
      have O3 := (show Hid _ from ho)
      have HB := (show Hid _ from hb)
      have HT := (show Hid _ from ht)
      have HN := (show Hid _ from hn)
      clear ho b3 B2 T2 hz hb ht hn hc1
      go_wp2_with fail
      go_loopw [7, 27] (fun s i wr => ∃ k : Nat, k ≤ n ∧ s = .int .i64 (psum b ts k) ∧ i = .int .i64 k ∧ wr = w3) (fun _ i _ => n - (intOf i).toNat)
      case atStart => exact ⟨0, by omega, rfl, rfl, rfl⟩
      case round =>
        obtain ⟨k, hk, rfl, rfl, rfl⟩ := hrel
        by_cases hkn : k = n
        · subst hkn
          have e : psum b ts k = b := by rw [HN.out]; exact psum_all HB.out.1 HT.out
          rw [e]
          clear e
          go_wp2_with fail
          go_ret
          exact ⟨rfl, B3.out⟩
        have hk' : k < n := by omega
        have hlt : decide ((k : Int) < n) = true := decide_eq_true (by omega)
        obtain ⟨g', eg, hgs, hcell⟩ := O3.out.at k (by rw [prts_len]; omega)
        cases eg
        rw [prts_get _ _ _ _ hk'] at hcell
        have p1 := prt_bd HB.out HT.out k (by have := HN.out; omega)
        have p2 := psum_bd HB.out HT.out k (by have := HN.out; omega)
        have p3 : Hid (psum b ts k + prt b ts k = psum b ts (k + 1)) := rfl
        have bb := HB.out.2
        obtain ⟨x, hx⟩ : ∃ x, x = prt b ts k := ⟨_, rfl⟩
        obtain ⟨y, hy⟩ : ∃ y, y = psum b ts k := ⟨_, rfl⟩
        rw [← hx] at hcell p1 p3
        rw [← hy] at p2 p3 ⊢
        obtain ⟨x1, x2⟩ := p1
        obtain ⟨y1, y2⟩ := p2
        have d1 : decide (x < 0) = false := decide_eq_false (by omega)
        clear hx hy
        go_wp2_with fail
        exact ⟨⟨k + 1, by omega, by rw [p3.out], by simp, trivial⟩, by simp [intOf]; omega⟩
    · refine (Parts_err b v2 ts _ T2.out hb ht).mono ?_
      rintro e w3 ⟨rfl, b3⟩
      have B3 := (show Hid _ from B2.out.trans (b3.mono B2.out.size))
      obtain ⟨r, hr⟩ : ∃ r, r = terr ts := ⟨_, rfl⟩
      rw [← hr] at ht ⊢
      have e0 : (r == 0) = false := by simpa using ht
      clear b3 B2 T2 hr
      go_wp2_with fail
      go_ret
      exact ⟨rfl, B3.out⟩
  · refine (Parts_arg b v2 _ hb).mono ?_
    rintro e w3 ⟨rfl, b3⟩
    have B3 := (show Hid _ from B2.out.trans (b3.mono B2.out.size))
    clear b3 B2 T2
    go_wp2_with fail
    go_ret
    exact ⟨rfl, B3.out⟩
end Go.Proofs.Ytmaikgebdegkgaa
