/- money: lists of weights that are made; the walk of MoneyScaled. -/
import Derived.Test.YtbgglghapjfdeaaDoorSsm
import Derived.Test.YtbgglghapjfdeaaDoorBk
import Derived.Maps.AppendAt
namespace Go.Proofs.YtbgglghapjfdeaaDoor
open Go.RowKit
set_option linter.unusedVariables false

/-- a list of numbers of sixteen bits -/
structure U16s (w : World) (v : Value) (zs : List Nat) : Prop where
  wf : ∀ z ∈ zs, z < 65536
  form : ∃ a c, v = .slice a zs.length c ∧ zs.length ≤ c ∧ c ≤ 9223372036854775807 ∧ (0 < zs.length → ∃ b off, a = some ⟨b, off, none⟩ ∧ b < w.heap.size ∧ ∀ k, k < zs.length → w.cell? ⟨b, off + k, none⟩ = some (.int .u16 ((zs.getD k 0 : Nat) : Int)))
theorem U16s.step {w w' : World} {v : Value} {zs : List Nat} (h : U16s w v zs) (k : Below w.heap.size w w') : U16s w' v zs := by
  obtain ⟨hw, a, c, e, h1, h2, h3⟩ := h
  refine ⟨hw, a, c, e, h1, h2, fun h0 => ?_⟩
  obtain ⟨b, off, ea, hb, hx⟩ := h3 h0
  exact ⟨b, off, ea, Nat.lt_of_lt_of_le hb k.size, fun j hj => (k.cell (p := ⟨b, off + j, none⟩) hb).trans (hx j hj)⟩
theorem U16s.at {w : World} {a : Option Addr} {n c : Nat} {zs : List Nat} (h : U16s w (.slice a n c) zs) (k : Nat) (hk : k < n) : ∃ b off, a = some ⟨b, off, none⟩ ∧ w.cell? ⟨b, off + k, none⟩ = some (.int .u16 ((zs.getD k 0 : Nat) : Int)) ∧ zs.getD k 0 < 65536 := by
  obtain ⟨hw, a', c', e, h1, h2, h3⟩ := h
  cases e
  obtain ⟨b, off, ea, hb, hx⟩ := h3 (by omega)
  exact ⟨b, off, ea, hx k hk, hw _ (by simp [hk])⟩
/-- two rows that are apart -/
def Apt (u v : Value) : Prop := ∀ k, u.ownBlock = some k → v.ownBlock ≠ some k
theorem Apt.symm {u v : Value} (h : Apt u v) : Apt v u := fun k h1 h2 => h k h2 h1
theorem apt_nil (v : Value) : Apt (.slice none 0 0) v := fun k h => by simp [Value.ownBlock] at h
/-- append(l, d), and where the row is then -/
theorem appI1a {w : World} {ops : Array Oper} {rest : List Oper} {o : Oper} {a : Act} {Q : Exit → Act → World → Prop} {T : TypeId} (hgd : o.guard = none) (s x : Operand)
    (ho : o.op = .call { callee := .builtin .append, args := #[s, x], argTypes := #[24, 24] })
    (B : Nat) (cs : List Int) (v : Value) (d : Int) (hs : a.eval s = v) (hx : a.eval x = .slice (some ⟨w.heap.size, 0, none⟩) 1 1)
    (hown : OwnI w B v cs) (hB : B ≤ w.heap.size) (hl : cs.length ≤ 1000)
    (h : ∀ v' w', OwnI w' B v' (cs ++ [d]) → Below B w w' → (∀ u ds, OwnI w B u ds → Apt u v → OwnI w' B u ds ∧ Apt u v') → wpList Tryd.prog ops Q rest (a.put o.dst v') w') :
    wpList Tryd.prog ops Q (o :: rest) a (w.alloc (.cells #[.int .i64 d] T)) := by
  obtain ⟨i0, hi, hz0, hz1, hz2⟩ := infoI_parts
  refine wpList_append_own_at _ hgd s x 24 ho B 2 i0 (.int .i64 0) 1 8 Tryd.underlying24 hi hz0 hz1 hz2 rfl (by decide) v cs.length (ci cs) hs (hown.own.alloc _) ⟨w.heap.size, 0, none⟩ 1 1 [.int .i64 d] hx rfl ?_ ?_ ?_ ?_ ?_ ?_
  · intro j u hj
    match j, hj with
    | 0, hj => simp at hj; subst hj; simp [Addr.add]
  · intro u hu; simp at hu; subst hu; rfl
  · unfold maxLen; omega
  · omega
  · simp; omega
  · intro v' w' hown' hgrow _ hat
    refine h v' w' ?_ ?_ ?_
    · refine ⟨?_⟩
      rw [List.length_append, List.length_singleton, show ci (cs ++ [d]) = ci cs ++ [.int .i64 d] by simp [ci]]
      exact hown'
    · exact ((Below.refl _ _).alloc hB _).grown hgrow (by simp; omega) hown.block
    · intro u ds hu hap
      refine ⟨⟨(hu.own.alloc _).kept hgrow ?_⟩, ?_⟩
      · cases e : u.ownBlock with
        | none => exact Or.inl rfl
        | some k => right; rw [← e]; intro e2; exact hap k e (by rw [← e2, e])
      · intro k hk
        rcases hat with e | e
        · rw [e]; exact hap k hk
        · rw [e]
          have := (hu.own.lt k hk).2
          simp; omega
/-- the first k as numbers, c times as great -/
def zsl (us : List Nat) (c k : Nat) : List Int := (us.take k).map fun u => ((c * u : Nat) : Int)
theorem zsl_len (us : List Nat) (c k : Nat) (h : k ≤ us.length) : (zsl us c k).length = k := by simp [zsl, h]
theorem zsl_get (us : List Nat) (c k i : Nat) (h : k ≤ us.length) (hi : i < k) : (zsl us c k).getD i 0 = ((c * us.getD i 0 : Nat) : Int) := by
  simp [zsl, List.getD, hi, show i < us.length by omega]
theorem zsl_next (us : List Nat) (c k : Nat) (h : k < us.length) : zsl us c (k + 1) = zsl us c k ++ [((c * us.getD k 0 : Nat) : Int)] := by
  simp only [zsl, List.take_add_one, List.getElem?_eq_getElem h, Option.toList_some, List.map_append, List.map_cons, List.map_nil, List.getD, Option.getD_some]
/-- the document's Split, however the weights are: three ways -/
structure Spl (c m : Int) (zs : List Int) (n : Nat) (W : Nat → Nat) (w : World) (v : Value) (x : Int) (w' : World) : Prop where
  ways : (n = 0 ∧ v = .slice none 0 0 ∧ x = 2) ∨ (0 < n ∧ sm W n = 0 ∧ v = .slice none 0 0 ∧ x = 5) ∨ (0 < n ∧ 0 < sm W n ∧ x = 0 ∧ ∃ M g, w.heap.size < M ∧ v = .slice (some ⟨M, 0, none⟩) n n ∧ Pm (fun x => x) g 0 n ∧ Srt (pr m.natAbs (sm W n) W) g 0 n ∧ VA w' M (mo (fun _ => c) (gots m (sm W n) W g n) n) 23)
theorem split_any (c m : Int) (zs : List Int) (n : Nat) (hn : zs.length = n) (v : Value) (w : World) (I : Is w v zs) (W : Nat → Nat) (hW : ∀ i, i < n → zs.getD i 0 = (W i : Int)) (hb : ∀ i, i < n → W i ≤ 1000000000) (hl : n ≤ 64) (hm : mform c m = true) :
    Calls Tryd.prog 7 #[.agg (mcl c m).toArray, v] w fun e w' => (∃ u x, e = .returned (.tuple #[u, .int .i64 x]) ∧ Spl c m zs n W w u x w') ∧ Below w.heap.size w w' := by
  subst hn
  have hg : ∀ i, i < zs.length → 0 ≤ zs.getD i 0 ∧ zs.getD i 0 ≤ 1000000000 := fun i hi => by have := hW i hi; have := hb i hi; omega
  by_cases h0 : zs.length = 0
  · refine (split_err c m v 2 w (by decide) (fun _ w' b => check_none c m zs v w' (I.step b) hg h0)).mono ?_
    rintro e w' ⟨rfl, b⟩
    exact ⟨⟨_, _, rfl, ⟨Or.inl ⟨h0, rfl, rfl⟩⟩⟩, b⟩
  · by_cases ht : sm W zs.length = 0
    · refine (split_err c m v 5 w (by decide) (fun _ w' b => check_zero c m zs v w' (I.step b) hg (by omega) hl hm W hW ht)).mono ?_
      rintro e w' ⟨rfl, b⟩
      exact ⟨⟨_, _, rfl, ⟨Or.inr (Or.inl ⟨by omega, ht, rfl, rfl⟩)⟩⟩, b⟩
    · refine (split_yes c m zs v w I hg (by omega) hl hm W hW (by omega)).mono ?_
      rintro e w' ⟨⟨M, g, hM, rfl, p, s, V⟩, b⟩
      exact ⟨⟨_, _, rfl, ⟨Or.inr (Or.inr ⟨by omega, by omega, rfl, M, g, hM, rfl, p, s, V⟩)⟩⟩, b⟩
theorem eqM3 (w : World) (a b : Int) : (Op.equalIn 10000 23 (.agg #[.int .i64 a, .int .i64 b]) (.agg #[.int .i64 a, .int .i64 b])).run Tryd.prog w = .ok true w := by
  go_simp
theorem mo_two (A B : Nat → Int) {n i : Nat} (h : i < n) (j : Nat) (u : Value) (hj : [Value.int .i64 (A i), .int .i64 (B i)][j]? = some u) : (mo A B n)[i * 2 + j]? = some u := by
  match j, hj with
  | 0, hj => simp at hj; subst hj; exact mo_a A B h
  | 1, hj => simp at hj; subst hj; exact mo_b A B h
set_option maxHeartbeats 8000000 in
set_option maxRecDepth 100000 in
theorem scaled_walk (minor : Int) (cur kk : Nat) (v : Value) (us : List Nat) (w : World) (T : Cu w) (N : Cn w) (HU : U16s w v us) (m1 : -9223372036854775808 ≤ minor) (m2 : minor ≤ 9223372036854775807) (hc : cur < 256) (hk : kk < 256) :
    Calls Tryd.prog 5 #[.int .i64 minor, .int .u8 (cur : Int), v, .int .u8 (kk : Int)] w fun e w' => e = .returned (.bool true) ∧ Below w.heap.size w w' := by
  have HT := (show Hid _ from T)
  have HNM := (show Hid _ from N)
  clear T N
  obtain ⟨c, ec⟩ : ∃ c : Int, (cur : Int) % 4 = c := ⟨_, rfl⟩
  have c1 : 0 ≤ c := by omega
  have c2 : c < 4 := by omega
  obtain ⟨m, em⟩ : ∃ m : Int, Int.tmod minor 10000000000001 = m := ⟨_, rfl⟩
  have hm0 : -10000000000000 ≤ m ∧ m ≤ 10000000000000 := by
    rw [← em]
    rcases Int.lt_or_le minor 0 with h | h
    · have h1 := Int.tmod_nonneg (b := 10000000000001) (show 0 ≤ -minor by omega)
      have h2 := Int.tmod_lt_of_pos (-minor) (show (0 : Int) < 10000000000001 by decide)
      rw [Int.neg_tmod] at h1 h2
      omega
    · have := Int.tmod_nonneg (b := 10000000000001) h
      have := Int.tmod_lt_of_pos minor (show (0 : Int) < 10000000000001 by decide)
      omega
  have hmf : mform c m = true := by
    simp only [mform, Bool.and_eq_true]
    exact ⟨wi_yes c1 (by omega), wi_yes hm0.1 hm0.2⟩
  have HMF := (show Hid _ from hmf)
  have HEC := (show Hid _ from ec)
  have HEM := (show Hid _ from em)
  obtain ⟨hm1, hm2⟩ := hm0
  clear ec em hmf
  have hc1 : (cur : Int) ≤ 255 := by omega
  have hk1 : (kk : Int) ≤ 255 := by omega
  go_enter Tryd.func5, Tryd.ntmps5
  go_wp2_with fail
  refine (awake05 _ HT.out HNM.out).mono ?_
  rintro e w0 ⟨rfl, b0⟩
  have BW := (show Hid _ from b0)
  have HU0 := (show Hid _ from HU.step b0)
  obtain ⟨va, vc, ev, hle, hvc, _⟩ := HU.form
  obtain ⟨n, hn⟩ : ∃ n, us.length = n := ⟨_, rfl⟩
  rw [hn] at ev
  subst ev
  have hn1 : (n : Int) ≤ 9223372036854775807 := by omega
  have HN := (show Hid _ from hn)
  have HWF := (show Hid _ from HU.wf)
  clear b0 HT HNM HU hn hle hvc
  go_upto_region 4 with fail
  rw [HEC.out, HEM.out]
  have VM_2 := (show Hid _ from va_new w0 (mcl c m) 23)
  have BB_2 := (show Hid _ from BW.out.alloc BW.out.size (.cells (mcl c m).toArray 23))
  have HU_2 := (show Hid _ from HU0.out.step ((Below.refl w0.heap.size w0).alloc (Nat.le_refl _) (.cells (mcl c m).toArray 23)))
  clear HU0 BW
  change Code.wp _ _ _ _ (w0.alloc (.cells (mcl c m).toArray 23))
  generalize w0.alloc (.cells (mcl c m).toArray 23) = w2 at *
  generalize w0.heap.size = pm at *
  obtain ⟨B, hB⟩ : ∃ B, w2.heap.size = B := ⟨_, rfl⟩
  have HB := (show Hid _ from hB)
  clear hB
  go_wp2_with fail
  go_loopw [10, 11, 12, 13, 29] (fun s10 s11 s12 s13 s29 wr => ∃ (i : Nat) (v1 v2 : Value), i ≤ n ∧ s29 = .int .i64 (i : Int) ∧ v1 = s10 ∧ v2 = s11 ∧ Hid (OwnI wr B v1 (zsl us 1 (min i 64))) ∧ Hid (OwnI wr B v2 (zsl us (1 + kk) (min i 64))) ∧ Hid (Apt v1 v2) ∧ Hid (Below B w2 wr)) (fun _ _ _ _ s29 _ => n - (intOf s29).toNat)
  case atStart => exact ⟨0, _, _, by omega, by go_num, rfl, rfl, ownI_nil _ _, ownI_nil _ _, apt_nil _, Below.refl _ _⟩
  case round =>
    rename_i wr
    obtain ⟨i, v1, v2, hi, rfl, rfl, rfl, HO1, HO2, HAP, BB⟩ := hrel
    by_cases hin : (n : Int) ≤ (i : Int)
    · obtain ⟨k, ek⟩ : ∃ k, min i 64 = k := ⟨_, rfl⟩
      rw [ek] at HO1 HO2
      have hk64 : k ≤ 64 := by omega
      have hkn : k ≤ us.length := by have := HN.out; omega
      have HKN := (show Hid _ from hkn)
      have HI1 := (show Hid _ from HO1.out.is)
      have HI2 := (show Hid _ from HO2.out.is)
      obtain ⟨a1, c1', rfl, _, _⟩ := HO1.out.form
      obtain ⟨a2, c2', rfl, _, _⟩ := HO2.out.form
      have BB_3 := (show Hid _ from BB_2.out.trans (BB.out.mono (by have := BB_2.out.size; have := HB.out; omega)))
      have VM_3 : Hid (VA wr pm (mcl c m) 23) := VM_2.out.step (by rw [HB.out]; exact BB.out)
      clear HO1 HO2 HAP BB BB_2 VM_2 HU_2 ek hkn
      go_wp2_with (refine ldA rfl 23 _ rfl pm (by rfl) (mcl c m) _ VM_3.out _ Tryd.underlying23 rfl infoM ?_)
      refine (split_any c m (zsl us 1 k) k (zsl_len _ _ _ HKN.out) _ _ HI1.out (fun i => us.getD i 0) (fun i hi => by rw [zsl_get us 1 k i HKN.out hi, Nat.one_mul]) (fun i hi => by have := HWF.out (us.getD i 0) (by simp [show i < us.length by have := HKN.out; omega]); omega) hk64 HMF.out).mono ?_
      rintro e w4 ⟨⟨u4, x4, rfl, s4⟩, b4⟩
      have HS4 := (show Hid _ from s4)
      have HI2_4 := (show Hid _ from HI2.out.step b4)
      have VM_4 := (show Hid _ from VM_3.out.step b4)
      have BB_4 := (show Hid _ from BB_3.out.trans (b4.mono BB_3.out.size))
      have HL4 : Hid (pm < w4.heap.size) := VM_4.out.lt
      clear s4 b4 HI1 HI2 VM_3 BB_3
      go_wp2_with (refine ldA rfl 23 _ rfl pm (by rfl) (mcl c m) _ VM_4.out _ Tryd.underlying23 rfl infoM ?_)
      refine (split_any c m (zsl us (1 + kk) k) k (zsl_len _ _ _ HKN.out) _ _ HI2_4.out (fun i => (1 + kk) * us.getD i 0) (fun i hi => zsl_get us (1 + kk) k i HKN.out hi) (fun i hi => ?_) hk64 HMF.out).mono ?_
      · have h1 := HWF.out (us.getD i 0) (by simp [show i < us.length by have := HKN.out; omega])
        have h2 : (1 + kk) * us.getD i 0 ≤ 256 * 65536 := Nat.mul_le_mul (by omega) (by omega)
        exact Nat.le_trans h2 (by decide)
      rintro e w5 ⟨⟨u5, x5, rfl, s5⟩, b5⟩
      have HB5 := (show Hid _ from b5)
      have HS5 := (show Hid _ from s5)
      have BB_5 := (show Hid _ from BB_4.out.trans (b5.mono BB_4.out.size))
      clear s5 b5 HI2_4 VM_4 BB_4
      have HSS : Hid (sm (fun i => (1 + kk) * us.getD i 0) k = (1 + kk) * sm (fun i => us.getD i 0) k) := sm_mul _ _ _
      rcases HS4.out.ways with ⟨k0, rfl, rfl⟩ | ⟨k0, t0, rfl, rfl⟩ | ⟨k0, t0, rfl, M4, g4, hM4, rfl, p4, q4, V4⟩
      · rcases HS5.out.ways with ⟨_, rfl, rfl⟩ | ⟨k1, _⟩ | ⟨k1, _⟩
        · clear k0 HS4 HS5
          go_wp2_with fail
          refine wp_loop_rounds 1 ?_
          rw [rounds_succ]
          go_wp2_with fail
          exact bodyPost_ret (v := .bool true) (by simp [results, Tryd.results5, go_sem]) rfl ⟨rfl, BB_5.out⟩
        · omega
        · omega
      · rcases HS5.out.ways with ⟨k1, _⟩ | ⟨_, _, rfl, rfl⟩ | ⟨_, t1, _⟩
        · omega
        · clear k0 t0 HS4 HS5
          go_wp2_with fail
          refine wp_loop_rounds 1 ?_
          rw [rounds_succ]
          go_wp2_with fail
          exact bodyPost_ret (v := .bool true) (by simp [results, Tryd.results5, go_sem]) rfl ⟨rfl, BB_5.out⟩
        · rw [HSS.out, t0] at t1; omega
      · rcases HS5.out.ways with ⟨k1, _⟩ | ⟨_, t1, _⟩ | ⟨_, t1, rfl, M5, g5, hM5, rfl, p5, q5, V5⟩
        · omega
        · rw [HSS.out] at t1
          have := Nat.mul_pos (show 0 < 1 + kk by omega) t0
          omega
        · have HEQ : Hid (gots m (sm (fun i => (1 + kk) * us.getD i 0) k) (fun i => (1 + kk) * us.getD i 0) g5 k = gots m (sm (fun i => us.getD i 0) k) (fun i => us.getD i 0) g4 k) := by
            funext j
            simp only [gots]
            rw [HSS.out] at q5 ⊢
            rw [got_scaled (by omega) t0 p4 q4 p5 q5 j]
          rw [HEQ.out] at V5
          obtain ⟨G, hG⟩ : ∃ G, gots m (sm (fun i => us.getD i 0) k) (fun i => us.getD i 0) g4 k = G := ⟨_, rfl⟩
          rw [hG] at V4 V5
          have VX := (show Hid _ from V4.step HB5.out)
          have VY := (show Hid _ from V5)
          have hk1' : (k : Int) ≤ 64 := by omega
          clear hG HEQ V4 V5 p4 q4 p5 q5 t0 t1 k0 HS4 HS5 hM4 hM5
          go_wp2_with fail
          go_loopw [18, 75] (fun s18 s75 wr => ∃ i : Nat, i ≤ k ∧ s75 = .int .i64 (i : Int) ∧ Hid (Below w5.heap.size w5 wr)) (fun _ s75 _ => k - (intOf s75).toNat)
          case atStart => exact ⟨0, by omega, by go_num, Below.refl _ _⟩
          case round =>
            rename_i wr7
            obtain ⟨i, hi7, rfl, BB7⟩ := hrel
            by_cases hik : (k : Int) ≤ (i : Int)
            · go_wp2_with fail
              exact bodyPost_ret (v := .bool true) (by simp [results, Tryd.results5, go_sem]) rfl ⟨rfl, BB_5.out.trans (BB7.out.mono BB_5.out.size)⟩
            · have hi1 : (i : Int) < (k : Int) := by omega
              have hi2 : i < k := by omega
              have HI2 := (show Hid _ from hi2)
              go_upto_region 19 with fail
              refine wp_region_noPanic ?_
              refine wp_region_held_drew (S := fun w' => Below w5.heap.size w5 w') (by kernel_rfl) BB7.out.drew (fun hHeld => ?_)
              refine takeD 0 78 (.slice (some ⟨M4, 0, none⟩) k k) (by exact rfl) rfl (by kernel_rfl) (by kernel_rfl) (by kernel_rfl) (fun _ _ _ h => h) (Or.inl ⟨by rfl, ?_⟩) (by assumption) ?_
              · intro wq hS
                go_simp
              try simp only [Act.put, List.setIfInBounds_toArray, List.set_cons_zero, List.set_cons_succ]
              refine takeD 1 79 (.int .i64 (i : Int)) (by exact rfl) rfl (by kernel_rfl) (by kernel_rfl) (by kernel_rfl) (fun _ _ _ h => h) (Or.inl ⟨by rfl, ?_⟩) (by assumption) ?_
              · intro wq hS
                go_simp
              try simp only [Act.put, List.setIfInBounds_toArray, List.set_cons_zero, List.set_cons_succ]
              refine takeD 2 80 (.pointer (some ⟨M4, i * 2, none⟩)) (by exact rfl) rfl (by kernel_rfl) (by kernel_rfl) (by kernel_rfl) (fun _ _ _ h => h) (Or.inl ⟨by rfl, ?_⟩) (by assumption) ?_
              · intro wq hS
                go_simp
              try simp only [Act.put, List.setIfInBounds_toArray, List.set_cons_zero, List.set_cons_succ]
              refine takeD 3 81 (.agg #[.int .i64 c, .int .i64 (G i)]) (by exact rfl) rfl (by kernel_rfl) (by kernel_rfl) (by kernel_rfl) (fun _ _ _ h => h) (yieldsIf_load_mid (by rfl) _ _ rfl _ _ rfl [.int .i64 c, .int .i64 (G i)] _ (fun wq hS => (fun j u hj => (VX.out.step hS).cell (i * 2 + j) (mo_two (fun _ => c) G HI2.out j u hj))) Tryd.underlying23 rfl infoM) (by assumption) ?_
              try simp only [Act.put, List.setIfInBounds_toArray, List.set_cons_zero, List.set_cons_succ]
              refine takeD 4 82 (.slice (some ⟨M5, 0, none⟩) k k) (by exact rfl) rfl (by kernel_rfl) (by kernel_rfl) (by kernel_rfl) (fun _ _ _ h => h) (Or.inl ⟨by rfl, ?_⟩) (by assumption) ?_
              · intro wq hS
                go_simp
              try simp only [Act.put, List.setIfInBounds_toArray, List.set_cons_zero, List.set_cons_succ]
              refine takeD 5 83 (.int .i64 (i : Int)) (by exact rfl) rfl (by kernel_rfl) (by kernel_rfl) (by kernel_rfl) (fun _ _ _ h => h) (Or.inl ⟨by rfl, ?_⟩) (by assumption) ?_
              · intro wq hS
                go_simp
              try simp only [Act.put, List.setIfInBounds_toArray, List.set_cons_zero, List.set_cons_succ]
              refine takeD 6 84 (.pointer (some ⟨M5, i * 2, none⟩)) (by exact rfl) rfl (by kernel_rfl) (by kernel_rfl) (by kernel_rfl) (fun _ _ _ h => h) (Or.inl ⟨by rfl, ?_⟩) (by assumption) ?_
              · intro wq hS
                go_simp
              try simp only [Act.put, List.setIfInBounds_toArray, List.set_cons_zero, List.set_cons_succ]
              refine takeD 7 85 (.agg #[.int .i64 c, .int .i64 (G i)]) (by exact rfl) rfl (by kernel_rfl) (by kernel_rfl) (by kernel_rfl) (fun _ _ _ h => h) (yieldsIf_load_mid (by rfl) _ _ rfl _ _ rfl [.int .i64 c, .int .i64 (G i)] _ (fun wq hS => (fun j u hj => (VY.out.step hS).cell (i * 2 + j) (mo_two (fun _ => c) G HI2.out j u hj))) Tryd.underlying23 rfl infoM) (by assumption) ?_
              try simp only [Act.put, List.setIfInBounds_toArray, List.set_cons_zero, List.set_cons_succ]
              refine takeD 8 86 (.bool false) (by exact rfl) rfl (by kernel_rfl) (by kernel_rfl) (by kernel_rfl) (fun _ _ _ h => h) (Or.inl ⟨by rfl, ?_⟩) (by assumption) ?_
              · intro wq hS
                have := eqM3 wq c (G i)
                go_simp
              try simp only [Act.put, List.setIfInBounds_toArray, List.set_cons_zero, List.set_cons_succ]
              refine wpAnyH_done (by kernel_rfl) ?_ _
              refine NoPanic.normal ?_
              have HH := (show Hid _ from hHeld)
              clear hHeld BB7
              go_wp2_with fail
              exact ⟨⟨i + 1, by omega, by go_num, HH.out⟩, by simp [intOf]; omega⟩
    · have hi1 : (i : Int) < (n : Int) := by omega
      have hi2 : i < n := by omega
      obtain ⟨b, off, rfl, cw, hx⟩ := (HU_2.out.step (by rw [HB.out]; exact BB.out)).at i hi2
      obtain ⟨x, ex⟩ : ∃ x, us.getD i 0 = x := ⟨_, rfl⟩
      rw [ex] at cw hx
      have hx1 : (x : Int) ≤ 65535 := by omega
      have HEX := (show Hid _ from ex)
      clear ex
      by_cases h64 : (64 : Int) ≤ (i : Int)
      · go_wp2_with fail
        refine ⟨⟨i + 1, v1, v2, by omega, by go_num, rfl, rfl, ?_, ?_, HAP.out, BB.out⟩, by simp [intOf]; omega⟩
        · have h := HO1.out; rw [show min i 64 = 64 by omega] at h; rw [show min (i + 1) 64 = 64 by omega]; exact h
        · have h := HO2.out; rw [show min i 64 = 64 by omega] at h; rw [show min (i + 1) 64 = 64 by omega]; exact h
      · have h64' : (i : Int) < 64 := by omega
        rw [show min i 64 = i by omega] at HO1 HO2
        have HZ1 := (show Hid _ from zsl_next us 1 i (by have := HN.out; omega))
        have HZ2 := (show Hid _ from zsl_next us (1 + kk) i (by have := HN.out; omega))
        have hw2 : IntKind.i64.wrap ((x : Int) * (1 + (kk : Int))) = (((1 + kk) * x : Nat) : Int) := by
          have h1 : (1 + kk) * x ≤ 256 * 65535 := Nat.mul_le_mul (by omega) (by omega)
          have h2 : ((x : Int) * (1 + (kk : Int))) = (((1 + kk) * x : Nat) : Int) := by rw [Int.mul_comm]; simp
          rw [h2, IntKind.wrap_i64]; omega
        go_upto_region 10 with (refine appI1a rfl _ _ rfl B (zsl us 1 i) _ _ (by rfl) (by rfl) HO1.out (by have := BB.out.size; have := HB.out; omega) (by rw [zsl_len _ _ _ (by have := HN.out; omega)]; omega) ?_; intro v6 w6 o6 b6 k6)
        have HO1' : Hid (OwnI w6 B v6 (zsl us 1 (i + 1))) := by
          rw [HZ1.out, HEX.out, Nat.one_mul]; exact o6
        have hk6 := k6 _ _ HO2.out HAP.out.symm
        have HO2' : Hid (OwnI w6 B v2 (zsl us (1 + kk) i)) := hk6.1
        have HAP' : Hid (Apt v2 v6) := hk6.2
        have BB' := (show Hid _ from BB.out.trans b6)
        clear o6 b6 k6 hk6 HO1 HO2 HAP BB cw
        go_wp2_with (refine appI1a rfl _ _ rfl B (zsl us (1 + kk) i) _ _ (by rfl) (by rfl) HO2'.out (by have := BB'.out.size; have := HB.out; omega) (by rw [zsl_len _ _ _ (by have := HN.out; omega)]; omega) ?_; intro v7 w7 o7 b7 k7)
        have HO2'' : Hid (OwnI w7 B v7 (zsl us (1 + kk) (i + 1))) := by
          rw [HZ2.out, HEX.out]; exact o7
        have hk7 := k7 _ _ HO1'.out HAP'.out.symm
        have HO1'' : Hid (OwnI w7 B v6 (zsl us 1 (i + 1))) := hk7.1
        have HAP'' : Hid (Apt v6 v7) := hk7.2
        have BB'' := (show Hid _ from BB'.out.trans b7)
        clear o7 b7 k7 hk7 HO1' HO2' HAP' BB'
        go_wp2_with fail
        refine ⟨⟨i + 1, v6, v7, by omega, by go_num, rfl, rfl, ?_, ?_, HAP''.out, BB''.out⟩, by simp [intOf]; omega⟩
        · rw [show min (i + 1) 64 = i + 1 by omega]; exact HO1''.out
        · rw [show min (i + 1) 64 = i + 1 by omega]; exact HO2''.out
end Go.Proofs.YtbgglghapjfdeaaDoor
