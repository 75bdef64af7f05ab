/- disk XXXII: the walk of DiskArmed. -/
import Derived.Test.YtonnkfijifdgcaaDlg
namespace Go.Proofs.Ytonnkfijifdgcaa
open Go.RowKit Go.Maps Go.Sort Go.Shelf pk
set_option linter.unusedVariables false

/-- a file a, perhaps another, b; not more than so many sectors -/
def FA (fs : FS) (N : Nat) : Prop := (lk fs [97]).isSome = true ∧ fs.length ≤ 2 ∧ (98 :: [] ∈ nms fs ∨ fs.length ≤ 1) ∧ totA fs ≤ N
theorem FA.mono {fs : FS} {N M : Nat} (h : FA fs N) (k : N ≤ M) : FA fs M := ⟨h.1, h.2.1, h.2.2.1, Nat.le_trans h.2.2.2 k⟩
theorem FA.map {fs : FS} {N : Nat} (h : FA fs N) (g : List UInt8 × List (List Nat) × Nat → List UInt8 × List (List Nat) × Nat) (h1 : ∀ t, (g t).1 = t.1) (h2 : ∀ t, (g t).2.1.length ≤ t.2.1.length) : FA (fs.map g) N := by
  refine ⟨?_, by rw [List.length_map]; exact h.2.1, ?_, Nat.le_trans (tot_map_le fs g h2) h.2.2.2⟩
  · rw [lk_map fs g h1]
    have := h.1
    cases hh : lk fs [97] with
    | none => rw [hh] at this; cases this
    | some t => rfl
  · rw [nms_map fs g h1, List.length_map]
    exact h.2.2.1
theorem FA.sync {fs : FS} {N : Nat} (h : FA fs N) : FA (doOp ⟨1, [97], [], 0⟩ fs) N := h.map _ (fun t => by split <;> rfl) (fun t => by split <;> simp)
theorem FA.trunc {fs : FS} {N : Nat} (h : FA fs N) : FA (doOp ⟨2, [97], [], 1000⟩ fs) N := h.map _ (fun t => by split <;> rfl) (fun t => by split <;> simp; omega)
theorem FA.app {fs : FS} {N : Nat} (h : FA fs N) {ps : List (List Nat)} (hp : ps.length ≤ 4) : FA (apd fs [98] ps) (N + 4) := by
  have hlen : (apd fs [98] ps).length = (nms (apd fs [98] ps)).length := by simp [nms]
  have hl2 : fs.length = (nms fs).length := by simp [nms]
  refine ⟨by rw [lk_apd_other _ _ _ _ (by decide)]; exact h.1, ?_, ?_, by rw [tot_apd]; have := h.2.2.2; omega⟩
  · rw [hlen, nms_apd]
    split
    · rw [← hl2]; exact h.2.1
    · rename_i hn
      have := h.2.2.1.resolve_left hn
      rw [List.length_append, ← hl2]
      simp
      omega
  · refine .inl ?_
    rw [nms_apd]
    split
    · assumption
    · simp
theorem beg_at {j k : Nat} (h : j ≤ k) (fs : FS) : begA ⟨1000, j, k + 1 - j, true, none, fs⟩ = ⟨1000, j + 1, k - j, decide (j ≠ k), none, fs⟩ := by
  show AD.mk _ _ _ _ _ _ = AD.mk _ _ _ _ _ _
  rw [show k + 1 - j - 1 = k - j by omega, show decide (k + 1 - j ≠ 1) = decide (j ≠ k) from decide_eq_decide.2 (by omega)]
theorem oper_stay {j k : Nat} (h : j < k) {fs : FS} {o : POp} (h1 : isNm o.a = true) (hb : o.k = 3 → isNm o.b = true) (hf : (lk fs o.a).isSome = true) : oper ⟨1000, j, k + 1 - j, true, none, fs⟩ o = (0, ⟨1000, j + 1, k - j, true, none, doOp o fs⟩) := by
  rw [oper_on h1 hb hf rfl, beg_at (by omega), decide_eq_true (by omega)]
  rfl
theorem oper_goes {j k : Nat} (h : j = k) {fs : FS} {o : POp} (h1 : isNm o.a = true) (hb : o.k = 3 → isNm o.b = true) (hf : (lk fs o.a).isSome = true) : oper ⟨1000, j, k + 1 - j, true, none, fs⟩ o = (18, ⟨1000, j + 1, k - j, false, some o, fs⟩) := by
  rw [oper_on h1 hb hf rfl, beg_at (by omega), decide_eq_false (by omega)]
  rfl
theorem apnd_stay {j k : Nat} (h : j < k) {fs : FS} {l : List UInt8} {bs : List Nat} (h1 : isNm l = true) (hf : fitA 1000 fs l (cnt bs.length) = true) : apnd ⟨1000, j, k + 1 - j, true, none, fs⟩ l bs = (0, ⟨1000, j + 1, k - j, true, none, apd fs l (parts bs)⟩) := by
  rw [apnd_ok h1 hf rfl, beg_at (by omega), decide_eq_true (by omega)]
  rfl
theorem apnd_goes {j k : Nat} (h : j = k) {fs : FS} {l : List UInt8} {bs : List Nat} (h1 : isNm l = true) (hf : fitA 1000 fs l (cnt bs.length) = true) : apnd ⟨1000, j, k + 1 - j, true, none, fs⟩ l bs = (18, ⟨1000, j + 1, k - j, false, none, apd fs l (parts bs)⟩) := by
  rw [apnd_ok h1 hf rfl, beg_at (by omega), decide_eq_false (by omega)]
  rfl
set_option maxRecDepth 100000 in
set_option maxHeartbeats 4000000 in
theorem armed_walk (r : Nat) (hr : r < 256) (v : Value) (bs : List Nat) (w : World) (hb : Bs w v bs) (hl : bs.length ≤ 140737488351232) :
    Calls Try.prog 7 #[.int .u8 (r : Int), v] w fun e w' => e = .returned (.bool true) ∧ Below w.heap.size w w' := by
  have HBS0 := (show Hid _ from hb)
  obtain ⟨hby, a, c, rfl, hc1, hc2, hno, hli⟩ := hb
  clear hno hli hby
  obtain ⟨L, hL⟩ : ∃ L, L = min bs.length 100 := ⟨_, rfl⟩
  have HCUT : Hid (∀ w1, Below w.heap.size w w1 → Bs w1 (.slice a L c) (bs.take L)) := fun w1 b1 => (HBS0.out.step b1).cut L (by omega)
  have HTL : Hid ((bs.take L).length = L) := (show (bs.take L).length = L by rw [List.length_take]; omega)
  obtain ⟨xs, hxs⟩ : ∃ xs, xs = bs.take L := ⟨_, rfl⟩
  rw [← hxs] at HTL HCUT
  generalize hn : bs.length = len at *
  have hmin : ∀ w', (Builtin.min_ #[3, 3] 3 #[.int .i64 (len : Int), .int .i64 100]).run Try.prog w' = .ok (.int .i64 (L : Int)) w' := fun w' => cut_min w' len 100 L (by omega) hL
  have d1 : (L : Int) ≤ (len : Int) := by omega
  have d2 : (L : Int) ≤ (c : Int) := by omega
  have d3 : L ≤ 100 := by omega
  obtain ⟨k, hk⟩ : ∃ k : Nat, 1 + (r : Int) % 40 = (k : Int) := ⟨1 + r % 40, by omega⟩
  have hk1 : 1 ≤ k ∧ k ≤ 40 := by omega
  clear hn hxs hL HBS0
  go_enter Try.func7, Try.ntmps7
  go_wp2_with (go_at_call 9; refine (awake_ok _).mono ?_; rintro e w1 ⟨rfl, b1⟩)
  have HB1 := (show Hid _ from b1)
  have HX1 := (show Hid _ from HCUT.out w1 b1)
  have HS1 : Hid (w.heap.size ≤ w1.heap.size) := b1.size
  clear b1 HCUT
  refine (new_any 1000 w1 (by omega) (by omega)).mono ?_
  rintro e w2 ⟨p, m, rfl, hA2, b2⟩
  have HA2 : Hid (DA w2 w1.heap.size p m ⟨1000, 0, 0, true, none, []⟩) := hA2
  have HB2 : Hid (Below w1.heap.size w1 w2) := b2
  have HXall : Hid (∀ w3, Below w1.heap.size w2 w3 → Bs w3 (.slice a L c) xs) := fun w3 b3 => HX1.out.step (HB2.out.trans b3)
  clear hA2 b2 hmin
  generalize w1.heap.size = B at *
  unfold ptr
  go_wp2_with fail
  refine (twin_ok _ xs w2 (HXall.out w2 (Below.refl _ _)) (by rw [HTL.out]; omega)).mono ?_
  rintro e w3 ⟨⟨u, rfl, O3⟩, b3⟩
  have E4 : apnd ⟨1000, 0, 0, true, none, []⟩ [97] xs = (0, ⟨1000, 1, 0, true, none, [([97], parts xs, 0)]⟩) := apnd_ok rfl (fitA_of (.inr (by decide)) (by rw [HTL.out]; unfold cnt; simp [totA]; omega)) rfl
  have HE4 := (show Hid _ from E4)
  have HA3 : Hid (DA w3 B p m ⟨1000, 0, 0, true, none, []⟩) := HA2.out.step b3
  have HO3 := (show Hid _ from O3)
  have HB3 := (show Hid _ from b3.mono HA2.out.lt)
  clear E4 O3 b3
  go_wp2_with fail
  refine (append_any w3 B p m _ HA3.out ⟨#[97]⟩ (by decide) u xs HO3.out.bs HO3.out.safe (by rw [HTL.out]; omega) (by decide) (by decide)).mono ?_
  rintro e w4 ⟨he, h4⟩
  rw [show (⟨#[97]⟩ : ByteArray).data.toList = [97] from rfl, HE4.out] at he h4
  obtain rfl : e = .returned (.int .i64 0) := he
  have HA4 : Hid (DA w4 B p m ⟨1000, 1, 0, true, none, [([97], parts xs, 0)]⟩) := h4.1
  have HB4 := (show Hid _ from HB3.out.trans h4.2.2)
  clear h4 HO3 HA3
  go_wp2_with fail
  refine (arm_any w4 B p m _ HA4.out k (by omega)).mono ?_
  rintro e w5 ⟨rfl, h5⟩
  have HA5 : Hid (DA w5 B p m ⟨1000, 1, k, true, none, [([97], parts xs, 0)]⟩) := h5.1
  have HB5 : Hid (Below B w2 w5) := HB4.out.trans h5.2.2
  clear h5 HA4 HB4 HB3 HA2
  go_wp2_with fail
  go_loopw [8] (fun i wr => ∃ (j : Nat) (und : Option POp) (fs : FS), 1 ≤ j ∧ j ≤ k + 1 ∧ i = .int .i64 (j : Int) ∧ Hid (DA wr B p m ⟨1000, j, k + 1 - j, decide (j ≤ k), und, fs⟩) ∧ Hid (FA fs (4 * j)) ∧ Hid (Below B w2 wr)) (fun i _ => (k + 1 - intOf i).toNat)
  case atStart =>
    refine ⟨1, none, [([97], parts xs, 0)], Nat.le_refl _, by omega, rfl, ?_, ?_, HB5.out⟩
    · show DA w5 B p m _
      rw [show k + 1 - 1 = k by omega, decide_eq_true hk1.1]
      exact HA5.out
    · show FA _ _
      refine ⟨by rw [show lk [([97], parts xs, 0)] [97] = some ([97], parts xs, 0) by simp [lk]]; rfl, by simp, .inr (by simp), ?_⟩
      simp only [totA]
      rw [parts_len, HTL.out]
      unfold cnt
      omega
  case round =>
    obtain ⟨j, und, fs, hj1, hj2, rfl, HA, HFA, HBE⟩ := hrel
    by_cases hjk : j ≤ k
    · have hjk' : (j : Int) ≤ (k : Int) := by omega
      have hun : und = none := by
        obtain ⟨es, u, _, _, _, h4⟩ := HA.out
        exact h4 (by simp; omega)
      subst hun
      rw [show decide (j ≤ k) = true by simp; omega] at HA
      have HXr : Hid (Bs wr (.slice a L c) xs) := HXall.out wr HBE.out
      by_cases hs : j < k
      · rcases (by omega : j % 3 = 0 ∨ j % 3 = 1 ∨ j % 3 = 2) with hm | hm | hm
        · have dm : (j : Int) % 3 = 0 := by omega
          have dj : (j : Int) < (k : Int) := by omega
          have E5 : ∃ u' fs', oper ⟨1000, j, k + 1 - j, true, none, fs⟩ ⟨1, [97], [], 0⟩ = (0, ⟨1000, j + 1, k - j, true, u', fs'⟩) ∧ FA fs' (4 * j + 4) := ⟨_, _, oper_stay (by omega) rfl (by simp) HFA.out.1, (HFA.out.sync).mono (by omega)⟩
          obtain ⟨u', fs', E5, F5⟩ := E5
          have HE5 := (show Hid _ from E5)
          have HF5 : Hid (FA fs' (4 * j + 4)) := F5
          clear E5 F5
          go_wp2_with fail
          refine (sync_any wr B p m _ HA.out ⟨#[97]⟩ (by decide) (by show j ≤ _; omega) (by show k + 1 - j ≤ _; omega)).mono ?_
          rintro e w5 ⟨he, h5⟩
          rw [show (⟨#[97]⟩ : ByteArray).data.toList = [97] from rfl, HE5.out] at he h5
          obtain rfl : e = .returned (.int .i64 0) := he
          have HA5 : Hid (DA w5 B p m ⟨1000, j + 1, k - j, true, u', fs'⟩) := h5.1
          have HBw : Hid (Below B w2 w5) := HBE.out.trans h5.2.2
          clear h5
          go_wp2_with (first | (go_at_call 26; refine (on_any _ B p m _ HA5.out).mono ?_; rintro e w6 ⟨rfl, hw6⟩; obtain rfl := hw6.symm) | (go_at_call 25; refine (ops_any _ B p m _ HA5.out).mono ?_; rintro e w6 ⟨rfl, hw6⟩; obtain rfl := hw6.symm; push_cast))
          go_roundw
          case rel => exact ⟨j + 1, u', fs', by omega, by omega, by simp, (by show DA w5 B p m _; rw [show k + 1 - (j + 1) = k - j by omega, show decide (j + 1 ≤ k) = true by simp; omega]; exact HA5.out), (show FA fs' (4 * (j + 1)) from HF5.out.mono (by omega)), HBw.out⟩
          case measure => simp [intOf]; omega
        · have dm : (j : Int) % 3 = 1 := by omega
          have dj : (j : Int) < (k : Int) := by omega
          have E5 : ∃ u' fs', apnd ⟨1000, j, k + 1 - j, true, none, fs⟩ [98] xs = (0, ⟨1000, j + 1, k - j, true, u', fs'⟩) ∧ FA fs' (4 * j + 4) := ⟨_, _, apnd_stay (by omega) rfl (fitA_of (.inr (by have := HFA.out.2.1; omega)) (by have := HFA.out.2.2.2; rw [HTL.out]; unfold cnt; omega)), HFA.out.app (by rw [parts_len, HTL.out]; unfold cnt; omega)⟩
          obtain ⟨u', fs', E5, F5⟩ := E5
          have HE5 := (show Hid _ from E5)
          have HF5 : Hid (FA fs' (4 * j + 4)) := F5
          clear E5 F5
          go_wp2_with fail
          refine (twin_ok _ xs wr (HXr.out) (by rw [HTL.out]; omega)).mono ?_
          rintro e w4 ⟨⟨u, rfl, O4⟩, b4⟩
          have HA4 : Hid (DA w4 B p m ⟨1000, j, k + 1 - j, true, none, fs⟩) := HA.out.step b4
          have HO4 := (show Hid _ from O4)
          have HB4 := (show Hid _ from b4)
          clear O4 b4
          go_wp2_with fail
          refine (append_any w4 B p m _ HA4.out ⟨#[98]⟩ (by decide) u xs HO4.out.bs HO4.out.safe (by rw [HTL.out]; omega) (by show j ≤ _; omega) (by show k + 1 - j ≤ _; omega)).mono ?_
          rintro e w5 ⟨he, h5⟩
          rw [show (⟨#[98]⟩ : ByteArray).data.toList = [98] from rfl, HE5.out] at he h5
          obtain rfl : e = .returned (.int .i64 0) := he
          have HA5 : Hid (DA w5 B p m ⟨1000, j + 1, k - j, true, u', fs'⟩) := h5.1
          have HBw : Hid (Below B w2 w5) := (HBE.out.trans (HB4.out.mono HA.out.lt)).trans h5.2.2
          clear h5
          go_wp2_with (first | (go_at_call 26; refine (on_any _ B p m _ HA5.out).mono ?_; rintro e w6 ⟨rfl, hw6⟩; obtain rfl := hw6.symm) | (go_at_call 25; refine (ops_any _ B p m _ HA5.out).mono ?_; rintro e w6 ⟨rfl, hw6⟩; obtain rfl := hw6.symm; push_cast))
          go_roundw
          case rel => exact ⟨j + 1, u', fs', by omega, by omega, by simp, (by show DA w5 B p m _; rw [show k + 1 - (j + 1) = k - j by omega, show decide (j + 1 ≤ k) = true by simp; omega]; exact HA5.out), (show FA fs' (4 * (j + 1)) from HF5.out.mono (by omega)), HBw.out⟩
          case measure => simp [intOf]; omega
        · have dm : (j : Int) % 3 = 2 := by omega
          have dj : (j : Int) < (k : Int) := by omega
          have E5 : ∃ u' fs', oper ⟨1000, j, k + 1 - j, true, none, fs⟩ ⟨2, [97], [], 1000⟩ = (0, ⟨1000, j + 1, k - j, true, u', fs'⟩) ∧ FA fs' (4 * j + 4) := ⟨_, _, oper_stay (by omega) rfl (by simp) HFA.out.1, (HFA.out.trunc).mono (by omega)⟩
          obtain ⟨u', fs', E5, F5⟩ := E5
          have HE5 := (show Hid _ from E5)
          have HF5 : Hid (FA fs' (4 * j + 4)) := F5
          clear E5 F5
          go_wp2_with fail
          refine (trunc_any wr B p m _ HA.out ⟨#[97]⟩ (by decide) 1000 (by omega) (by show j ≤ _; omega) (by show k + 1 - j ≤ _; omega)).mono ?_
          rintro e w5 ⟨he, h5⟩
          rw [show (⟨#[97]⟩ : ByteArray).data.toList = [97] from rfl, HE5.out] at he h5
          obtain rfl : e = .returned (.int .i64 0) := he
          have HA5 : Hid (DA w5 B p m ⟨1000, j + 1, k - j, true, u', fs'⟩) := h5.1
          have HBw : Hid (Below B w2 w5) := HBE.out.trans h5.2.2
          clear h5
          go_wp2_with (first | (go_at_call 26; refine (on_any _ B p m _ HA5.out).mono ?_; rintro e w6 ⟨rfl, hw6⟩; obtain rfl := hw6.symm) | (go_at_call 25; refine (ops_any _ B p m _ HA5.out).mono ?_; rintro e w6 ⟨rfl, hw6⟩; obtain rfl := hw6.symm; push_cast))
          go_roundw
          case rel => exact ⟨j + 1, u', fs', by omega, by omega, by simp, (by show DA w5 B p m _; rw [show k + 1 - (j + 1) = k - j by omega, show decide (j + 1 ≤ k) = true by simp; omega]; exact HA5.out), (show FA fs' (4 * (j + 1)) from HF5.out.mono (by omega)), HBw.out⟩
          case measure => simp [intOf]; omega
      · rcases (by omega : j % 3 = 0 ∨ j % 3 = 1 ∨ j % 3 = 2) with hm | hm | hm
        · have dm : (j : Int) % 3 = 0 := by omega
          have dj : (j : Int) = (k : Int) := by omega
          have E5 : ∃ u' fs', oper ⟨1000, j, k + 1 - j, true, none, fs⟩ ⟨1, [97], [], 0⟩ = (18, ⟨1000, j + 1, k - j, false, u', fs'⟩) ∧ FA fs' (4 * j + 4) := ⟨_, _, oper_goes (by omega) rfl (by simp) HFA.out.1, HFA.out.mono (by omega)⟩
          obtain ⟨u', fs', E5, F5⟩ := E5
          have HE5 := (show Hid _ from E5)
          have HF5 : Hid (FA fs' (4 * j + 4)) := F5
          clear E5 F5
          go_wp2_with fail
          refine (sync_any wr B p m _ HA.out ⟨#[97]⟩ (by decide) (by show j ≤ _; omega) (by show k + 1 - j ≤ _; omega)).mono ?_
          rintro e w5 ⟨he, h5⟩
          rw [show (⟨#[97]⟩ : ByteArray).data.toList = [97] from rfl, HE5.out] at he h5
          obtain rfl : e = .returned (.int .i64 18) := he
          have HA5 : Hid (DA w5 B p m ⟨1000, j + 1, k - j, false, u', fs'⟩) := h5.1
          have HBw : Hid (Below B w2 w5) := HBE.out.trans h5.2.2
          clear h5
          go_wp2_with (first | (go_at_call 26; refine (on_any _ B p m _ HA5.out).mono ?_; rintro e w6 ⟨rfl, hw6⟩; obtain rfl := hw6.symm) | (go_at_call 25; refine (ops_any _ B p m _ HA5.out).mono ?_; rintro e w6 ⟨rfl, hw6⟩; obtain rfl := hw6.symm; push_cast))
          go_roundw
          case rel => exact ⟨j + 1, u', fs', by omega, by omega, by simp; omega, (by show DA w5 B p m _; rw [show k + 1 - (j + 1) = k - j by omega, show decide (j + 1 ≤ k) = false by simp; omega]; exact HA5.out), (show FA fs' (4 * (j + 1)) from HF5.out.mono (by omega)), HBw.out⟩
          case measure => simp [intOf]; omega
        · have dm : (j : Int) % 3 = 1 := by omega
          have dj : (j : Int) = (k : Int) := by omega
          have E5 : ∃ u' fs', apnd ⟨1000, j, k + 1 - j, true, none, fs⟩ [98] xs = (18, ⟨1000, j + 1, k - j, false, u', fs'⟩) ∧ FA fs' (4 * j + 4) := ⟨_, _, apnd_goes (by omega) rfl (fitA_of (.inr (by have := HFA.out.2.1; omega)) (by have := HFA.out.2.2.2; rw [HTL.out]; unfold cnt; omega)), HFA.out.app (by rw [parts_len, HTL.out]; unfold cnt; omega)⟩
          obtain ⟨u', fs', E5, F5⟩ := E5
          have HE5 := (show Hid _ from E5)
          have HF5 : Hid (FA fs' (4 * j + 4)) := F5
          clear E5 F5
          go_wp2_with fail
          refine (twin_ok _ xs wr (HXr.out) (by rw [HTL.out]; omega)).mono ?_
          rintro e w4 ⟨⟨u, rfl, O4⟩, b4⟩
          have HA4 : Hid (DA w4 B p m ⟨1000, j, k + 1 - j, true, none, fs⟩) := HA.out.step b4
          have HO4 := (show Hid _ from O4)
          have HB4 := (show Hid _ from b4)
          clear O4 b4
          go_wp2_with fail
          refine (append_any w4 B p m _ HA4.out ⟨#[98]⟩ (by decide) u xs HO4.out.bs HO4.out.safe (by rw [HTL.out]; omega) (by show j ≤ _; omega) (by show k + 1 - j ≤ _; omega)).mono ?_
          rintro e w5 ⟨he, h5⟩
          rw [show (⟨#[98]⟩ : ByteArray).data.toList = [98] from rfl, HE5.out] at he h5
          obtain rfl : e = .returned (.int .i64 18) := he
          have HA5 : Hid (DA w5 B p m ⟨1000, j + 1, k - j, false, u', fs'⟩) := h5.1
          have HBw : Hid (Below B w2 w5) := (HBE.out.trans (HB4.out.mono HA.out.lt)).trans h5.2.2
          clear h5
          go_wp2_with (first | (go_at_call 26; refine (on_any _ B p m _ HA5.out).mono ?_; rintro e w6 ⟨rfl, hw6⟩; obtain rfl := hw6.symm) | (go_at_call 25; refine (ops_any _ B p m _ HA5.out).mono ?_; rintro e w6 ⟨rfl, hw6⟩; obtain rfl := hw6.symm; push_cast))
          go_roundw
          case rel => exact ⟨j + 1, u', fs', by omega, by omega, by simp; omega, (by show DA w5 B p m _; rw [show k + 1 - (j + 1) = k - j by omega, show decide (j + 1 ≤ k) = false by simp; omega]; exact HA5.out), (show FA fs' (4 * (j + 1)) from HF5.out.mono (by omega)), HBw.out⟩
          case measure => simp [intOf]; omega
        · have dm : (j : Int) % 3 = 2 := by omega
          have dj : (j : Int) = (k : Int) := by omega
          have E5 : ∃ u' fs', oper ⟨1000, j, k + 1 - j, true, none, fs⟩ ⟨2, [97], [], 1000⟩ = (18, ⟨1000, j + 1, k - j, false, u', fs'⟩) ∧ FA fs' (4 * j + 4) := ⟨_, _, oper_goes (by omega) rfl (by simp) HFA.out.1, HFA.out.mono (by omega)⟩
          obtain ⟨u', fs', E5, F5⟩ := E5
          have HE5 := (show Hid _ from E5)
          have HF5 : Hid (FA fs' (4 * j + 4)) := F5
          clear E5 F5
          go_wp2_with fail
          refine (trunc_any wr B p m _ HA.out ⟨#[97]⟩ (by decide) 1000 (by omega) (by show j ≤ _; omega) (by show k + 1 - j ≤ _; omega)).mono ?_
          rintro e w5 ⟨he, h5⟩
          rw [show (⟨#[97]⟩ : ByteArray).data.toList = [97] from rfl, HE5.out] at he h5
          obtain rfl : e = .returned (.int .i64 18) := he
          have HA5 : Hid (DA w5 B p m ⟨1000, j + 1, k - j, false, u', fs'⟩) := h5.1
          have HBw : Hid (Below B w2 w5) := HBE.out.trans h5.2.2
          clear h5
          go_wp2_with (first | (go_at_call 26; refine (on_any _ B p m _ HA5.out).mono ?_; rintro e w6 ⟨rfl, hw6⟩; obtain rfl := hw6.symm) | (go_at_call 25; refine (ops_any _ B p m _ HA5.out).mono ?_; rintro e w6 ⟨rfl, hw6⟩; obtain rfl := hw6.symm; push_cast))
          go_roundw
          case rel => exact ⟨j + 1, u', fs', by omega, by omega, by simp; omega, (by show DA w5 B p m _; rw [show k + 1 - (j + 1) = k - j by omega, show decide (j + 1 ≤ k) = false by simp; omega]; exact HA5.out), (show FA fs' (4 * (j + 1)) from HF5.out.mono (by omega)), HBw.out⟩
          case measure => simp [intOf]; omega
    · obtain rfl : j = k + 1 := by omega
      have dex : (k : Int) < ((k + 1 : Nat) : Int) := by omega
      have hof : decide (k + 1 ≤ k) = false := by simp
      have HAe : Hid (DA wr B p m ⟨1000, k + 1, 0, false, und, fs⟩) := by
        have := HA.out
        rw [hof, show k + 1 - (k + 1) = 0 by omega] at this
        exact this
      obtain ⟨t97, ht97⟩ : ∃ t, lk fs [97] = some t := Option.isSome_iff_exists.1 HFA.out.1
      have HS := (show Hid _ from show seen ⟨1000, k + 1, 0, false, und, fs⟩ [97] = (18, []) by unfold seen; rw [if_neg (by decide)]; show (match lk fs [97] with | none => _ | some t => _) = _; rw [ht97]; rfl)
      have HY := (show Hid _ from show oper ⟨1000, k + 1, 0, false, und, fs⟩ ⟨1, [97], [], 0⟩ = (18, ⟨1000, k + 1, 0, false, und, fs⟩) from oper_off rfl (by simp) HFA.out.1 rfl)
      clear hof HA
      push_cast at dex ⊢
      go_wp2_with fail
      refine (read_any wr B p m _ HAe.out ⟨#[97]⟩ (by decide)).mono ?_
      rintro e w6 ⟨⟨u6, he, O6⟩, b6⟩
      rw [show (⟨#[97]⟩ : ByteArray).data.toList = [97] from rfl, HS.out] at he
      obtain rfl : e = .returned (.tuple #[u6, .int .i64 18]) := he
      have HA6 : Hid (DA w6 B p m ⟨1000, k + 1, 0, false, und, fs⟩) := HAe.out.step b6
      have HB6 := (show Hid _ from HBE.out.trans (b6.mono HAe.out.lt))
      clear b6 O6
      go_wp2_with fail
      refine (sync_any w6 B p m _ HA6.out ⟨#[97]⟩ (by decide) (by show k + 1 ≤ _; omega) (by show 0 ≤ _; omega)).mono ?_
      rintro e w7 ⟨he, h7⟩
      rw [show (⟨#[97]⟩ : ByteArray).data.toList = [97] from rfl, HY.out] at he h7
      obtain rfl : e = .returned (.int .i64 18) := he
      have HA7 : Hid (DA w7 B p m ⟨1000, k + 1, 0, false, und, fs⟩) := h7.1
      have HB7 := (show Hid _ from HB6.out.trans h7.2.2)
      clear h7
      go_wp2_with fail
      refine (names_any w7 B p m _ HA7.out).mono ?_
      rintro e w8 ⟨v8, ns8, rfl, _, hoff8, _, _, hnil8, b8⟩
      obtain rfl := hoff8 rfl
      obtain rfl := hnil8.2 rfl
      have HA8 : Hid (DA w8 B p m ⟨1000, k + 1, 0, false, und, fs⟩) := HA7.out.step b8
      have HB8 := (show Hid _ from HB7.out.trans (b8.mono HA7.out.lt))
      clear b8
      go_wp2_with fail
      refine (arm_any w8 B p m _ HA8.out 1 (by omega)).mono ?_
      rintro e w9 ⟨he, h9⟩
      obtain rfl : e = .returned (.int .i64 18) := he
      have HA9 : Hid (DA w9 B p m ⟨1000, k + 1, 0, false, und, fs⟩) := h9.1
      have HB9 := (show Hid _ from HB8.out.trans h9.2.2)
      clear h9
      go_wp2_with (go_at_call 25; refine (ops_any _ B p m _ HA9.out).mono ?_; rintro e wa ⟨rfl, hwa⟩; obtain rfl := hwa.symm; push_cast)
      refine (restart_off _ B p m _ HA9.out false _ [] (bl_nil _).1 (by simp) (bl_nil _).2 rfl).mono ?_
      rintro e wb ⟨rfl, ns, hpm, hsr, hb⟩
      have HAb : Hid (DA wb B p m ⟨1000, k + 1, 0, true, none, (stl [] ns fs).1⟩) := hb.1
      have HBb := (show Hid _ from HB9.out.trans hb.2.2)
      have HE : Hid (oper ⟨1000, k + 1, 0, true, none, (stl [] ns fs).1⟩ ⟨1, [97], [], 0⟩ = (0, ⟨1000, k + 2, 0, true, none, doOp ⟨1, [97], [], 0⟩ (stl [] ns fs).1⟩)) := by
        show oper ⟨1000, k + 1, 0, true, none, (stl [] ns fs).1⟩ ⟨1, [97], [], 0⟩ = _
        exact oper_idle rfl (by simp) (by rw [lk_isSome, nms_stl]; exact (lk_isSome _ _).1 HFA.out.1)
      clear hb hpm hsr
      go_wp2_with fail
      refine (sync_any wb B p m _ HAb.out ⟨#[97]⟩ (by decide) (by show k + 1 ≤ _; omega) (by show 0 ≤ _; omega)).mono ?_
      rintro e wc ⟨he, hc⟩
      rw [show (⟨#[97]⟩ : ByteArray).data.toList = [97] from rfl, HE.out] at he hc
      obtain rfl : e = .returned (.int .i64 0) := he
      have HAc : Hid (DA wc B p m ⟨1000, k + 2, 0, true, none, doOp ⟨1, [97], [], 0⟩ (stl [] ns fs).1⟩) := hc.1
      have HBc := (show Hid _ from HBb.out.trans hc.2.2)
      clear hc
      go_wp2_with (go_at_call 26; refine (on_any _ B p m _ HAc.out).mono ?_; rintro e wd ⟨rfl, hwd⟩; obtain rfl := hwd.symm)
      go_ret
      exact ⟨rfl, HB1.out.trans ((HB2.out.trans HBc.out).mono HS1.out)⟩
end Go.Proofs.Ytonnkfijifdgcaa
