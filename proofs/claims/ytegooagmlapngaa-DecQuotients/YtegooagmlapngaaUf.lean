/- The document's long numbers: the contract of Times. -/
import Derived.Test.YtegooagmlapngaaUe
namespace Go.Proofs.Ytegooagmlapngaa
open Go.RowKit
set_option linter.unusedVariables false

/-- noughts from a place on -/
def Zf (cs : List Nat) (k : Nat) : Prop := ∀ j, k ≤ j → cs.getD j 0 = 0
theorem zf_replicate (n k : Nat) : Zf (List.replicate n 0) k := fun j _ => by
  by_cases h : j < n <;> simp [h]
theorem zf_set {cs : List Nat} {k i d : Nat} (h : Zf cs k) (hi : i < k) : Zf (cs.set i d) k := fun j hj => by
  have := h j hj
  simp only [List.getD_eq_getElem?_getD, List.getElem?_set] at *
  rw [if_neg (by omega)]; exact this
theorem zf_mono {cs : List Nat} {k i : Nat} (h : Zf cs k) (hi : k ≤ i) : Zf cs i := fun j hj => h j (by omega)
theorem mul_sm32 {x y : Nat} (hx : x < 4294967296) (hy : y < 4294967296) : x * y ≤ 18446744065119617025 := by
  have := Nat.mul_le_mul (show x ≤ 4294967295 by omega) (show y ≤ 4294967295 by omega)
  omega
theorem times_in (ds es cs : List Nat) (k l q T A : Nat) (hl : l < es.length) (hk : k + l < cs.length) (hd : Sm ds) (he : Sm es) (hc : Sm cs) (hq : q < 4294967296)
    (hT : T = q + (ds.getD k 0 * es.getD l 0 + cs.getD (k + l) 0)) (h : val cs + pw (k + l) * q = A + pw k * (ds.getD k 0 * val (es.take l))) :
    T / 4294967296 < 4294967296 ∧ val (cs.set (k + l) (T % 4294967296)) + pw (k + (l + 1)) * (T / 4294967296) = A + pw k * (ds.getD k 0 * val (es.take (l + 1))) := by
  have s3 := sm_getD (k + l) hc
  have hm := mul_sm32 (sm_getD k hd) (sm_getD l he)
  constructor
  · rw [hT]; omega
  · have hs := val_set cs (k + l) (T % 4294967296) hk
    have e := Nat.div_add_mod T 4294967296
    rw [val_take_succ es l hl, show k + (l + 1) = k + l + 1 by omega, pw_succ]
    have hp : pw (k + l) * T = pw (k + l) * q + pw (k + l) * (ds.getD k 0 * es.getD l 0) + pw (k + l) * cs.getD (k + l) 0 := by rw [hT, Nat.mul_add, Nat.mul_add]; omega
    have hp2 : pw (k + l) * T = pw (k + l) * (T % 4294967296) + 4294967296 * pw (k + l) * (T / 4294967296) := by
      conv => lhs; rw [← e]
      rw [Nat.mul_add, Nat.mul_comm 4294967296 (pw (k + l)), Nat.mul_assoc]; omega
    have hp3 : pw k * (ds.getD k 0 * (val (es.take l) + pw l * es.getD l 0)) = pw k * (ds.getD k 0 * val (es.take l)) + pw (k + l) * (ds.getD k 0 * es.getD l 0) := by
      rw [Nat.mul_add, Nat.mul_add, pw_add, Nat.mul_left_comm (ds.getD k 0) (pw l), Nat.mul_assoc]
    omega
theorem times_out (ds es cs : List Nat) (k q : Nat) (hk : k + es.length < cs.length) (hkd : k < ds.length) (hz : cs.getD (k + es.length) 0 = 0)
    (h : val cs + pw (k + es.length) * q = val (ds.take k) * val es + pw k * (ds.getD k 0 * val (es.take es.length))) : val (cs.set (k + es.length) q) = val (ds.take (k + 1)) * val es := by
  have hs := val_set cs (k + es.length) q hk
  rw [hz, Nat.mul_zero, Nat.add_zero, h, List.take_length] at hs
  rw [hs, val_take_succ ds k hkd, Nat.add_mul, Nat.mul_assoc]
theorem dg_zf {cs : List Nat} {k : Nat} (h : Zf cs k) : dg cs k = 0 := by unfold dg; rw [h k (Nat.le_refl _)]; rfl
theorem times_wraps (ds es cs : List Nat) (k l q : Nat) (hd : Sm ds) (he : Sm es) (hc : Sm cs) (hq : q ≤ 4294967295) : ∃ T : Nat, T = q + (ds.getD k 0 * es.getD l 0 + cs.getD (k + l) 0) ∧ T ≤ 18446744073709551615 ∧
    IntKind.u64.wrap (dg ds k * dg es l) = dg ds k * dg es l ∧ IntKind.u64.wrap (dg ds k * dg es l + dg cs (k + l)) = dg ds k * dg es l + dg cs (k + l) ∧
    IntKind.u64.wrap ((q : Int) + (dg ds k * dg es l + dg cs (k + l))) = (T : Int) := by
  have s3 := sm_getD (k + l) hc
  have hm := mul_sm32 (sm_getD k hd) (sm_getD l he)
  have e : dg ds k * dg es l = ((ds.getD k 0 * es.getD l 0 : Nat) : Int) := by unfold dg; rw [Int.natCast_mul]
  refine ⟨_, rfl, by omega, ?_, ?_, ?_⟩
  · rw [e, IntKind.wrap_u64]; omega
  · rw [e, IntKind.wrap_u64]; unfold dg; omega
  · rw [e, IntKind.wrap_u64]; unfold dg; omega
theorem wrap_idx (k l : Nat) (hk : k ≤ 1000) (hl : l ≤ 1000) : IntKind.i64.wrap ((k : Int) + (l : Int)) = (k : Int) + (l : Int) := by rw [IntKind.wrap_i64]; omega
set_option maxRecDepth 100000 in
set_option maxHeartbeats 1000000 in
theorem times_rows (v u : Value) (ds es : List Nat) (w : World) (h : Row w v ds) (h2 : Row w u es) (hd : Sm ds) (he : Sm es) (h100 : ds.length ≤ 100) (h101 : es.length ≤ 100) :
    Calls Try.prog 21 #[v, u] w fun e w' => (∃ r, e = .returned r ∧ Nm w' r (val ds * val es)) ∧ Below w.heap.size w w' := by
  obtain ⟨hm, a, c, rfl, hlc, hx⟩ := h
  obtain ⟨hm2, a2, c2, rfl, hlc2, hx2⟩ := h2
  have HX := (show Hid _ from hx)
  have HX2 := (show Hid _ from hx2)
  have HD : Hid (Sm ds) := hd
  have HE : Hid (Sm es) := he
  clear hx hx2 hd he
  obtain ⟨n, hn⟩ : ∃ n, n = ds.length := ⟨_, rfl⟩
  obtain ⟨m, hmm⟩ : ∃ m, m = es.length := ⟨_, rfl⟩
  have HN : Hid (n = ds.length) := hn
  have HM : Hid (m = es.length) := hmm
  rw [← hn] at hm hlc h100
  rw [← hmm] at hm2 hlc2 h101
  rw [← hn, ← hmm]
  clear hn hmm
  go_enter Try.func21, Try.ntmps21
  go_wp2_with (at_make; refine mk1 rfl _ _ rfl (n + m) _ _ (by rfl) (by rfl) (by omega) (by omega) (by omega) ?_; intro w1 hown hbel)
  obtain ⟨B, hB⟩ : ∃ B, B = w.heap.size := ⟨_, rfl⟩
  rw [← hB] at hown hbel
  rw [← hB]
  have HB : Hid (B = w.heap.size) := hB
  have hown' := (show Hid _ from hown)
  clear hB hown
  go_loopw [17] (fun i wr => ∃ k : Nat, k ≤ n ∧ i = .int .i64 k ∧ Below B w wr ∧ Hid (∃ cs, Owns wr B (.slice (some ⟨B, 0, none⟩) (n + m) (n + m)) cs ∧ Sm cs ∧ val cs = val (ds.take k) * val es ∧ Zf cs (k + m))) (fun i _ => n - (intOf i).toNat)
  case atStart => exact ⟨0, by omega, rfl, hbel, _, hown'.out, sm_replicate _, by simp [val, val_replicate], zf_replicate _ _⟩
  case round =>
    clear hown' hbel
    obtain ⟨k, hk, rfl, hbel, hcs⟩ := hrel
    by_cases hkn : k < n
    · obtain ⟨b, off, rfl, ⟨hb, _⟩, hc⟩ := HX.out (by have := HN.out; omega)
      have HC : Hid (w.cell? ⟨b, off + k, none⟩ = some (.int .u64 (dg ds k))) := hc k (by have := HN.out; omega)
      have b1 := dg_bd HD.out k
      clear hc HX
      go_wp2_with fail
      go_loopw [7, 22] (fun s i wi => ∃ l q : Nat, l ≤ m ∧ i = .int .i64 l ∧ s = .int .u64 q ∧ q ≤ 4294967295 ∧ Below B w wi ∧ Hid (∃ cs, Owns wi B (.slice (some ⟨B, 0, none⟩) (n + m) (n + m)) cs ∧ Sm cs ∧ val cs + pw (k + l) * q = val (ds.take k) * val es + pw k * (ds.getD k 0 * val (es.take l)) ∧ Zf cs (k + m))) (fun _ i _ => m - (intOf i).toNat)
      case atStart => exact ⟨0, 0, by omega, rfl, rfl, by omega, hbel, by obtain ⟨cs, a1, a2, a3, a4⟩ := hcs.out; exact ⟨cs, a1, a2, by simp [val, a3], a4⟩⟩
      case round =>
        clear hcs hbel
        obtain ⟨l, q, hl, rfl, rfl, hq, hbel, hcs⟩ := hrel
        obtain ⟨cs, hown, hsm, hval, hzf⟩ := hcs.out
        have H1 : Hid (cs.length = n + m) := hown.len
        have H2 : Hid (Sm cs) := hsm
        have H3 := (show Hid _ from hval)
        have H4 : Hid (Owns _ _ _ cs) := hown
        have H5 : Hid (Zf cs (k + m)) := hzf
        clear hcs hsm hval hzf
        have hcell := (hbel.cell (p := ⟨b, off + k, none⟩) (by rw [HB.out]; exact hb)).trans HC.out
        by_cases hlm : l < m
        · obtain ⟨b2, off2, rfl, ⟨hb2, _⟩, hc2⟩ := HX2.out (by have := HM.out; omega)
          have hcell2 := (hbel.cell (p := ⟨b2, off2 + l, none⟩) (by rw [HB.out]; exact hb2)).trans (hc2 l (by have := HM.out; omega))
          clear hc2 HX2
          have hc0 := hown.cell H1.out (k + l) (by omega)
          have hf0 := hown.free H1.out (k + l)
          clear hown
          have b2' := dg_bd HE.out l
          have b3 := dg_bd H2.out (k + l)
          obtain ⟨T, hT, hT2, x2, x3, x4⟩ := times_wraps ds es cs k l q HD.out HE.out H2.out hq
          have HT := (show Hid _ from hT)
          have x1 := wrap_idx k l (by omega) (by omega)
          have i1 : (0 : Int) ≤ (k : Int) + (l : Int) := by omega
          have i2 : (k : Int) + (l : Int) < (n : Int) + (m : Int) := by omega
          clear hT
          go_wp2_with fail
          go_quiet (fail)
          have hbel' := bel_drewN hbel nq
          have H4' : Hid (Owns (wr.drewN nq) B _ cs) := ⟨H4.out.own⟩
          have hf0' : (wr.drewN nq).frozen? ⟨B, k + l, none⟩ = false := hf0
          have hc0' : (wr.drewN nq).cell? ⟨B, k + l, none⟩ = some (.int .u64 (dg cs (k + l))) := hc0
          clear hbel H4 hf0 hc0 hcell hcell2 x1 x2 x3 x4 b1 b2' b3
          generalize wr.drewN nq = wq at *
          obtain ⟨hq2, hv⟩ := times_in ds es cs k l q T (val (ds.take k) * val es) (by have := HM.out; omega) (by have := H1.out; omega) HD.out HE.out H2.out (by omega) HT.out H3.out
          have e1 : (T : Int) % 4294967296 = ((T % 4294967296 : Nat) : Int) := rfl
          have e2 : (T : Int) / 4294967296 = ((T / 4294967296 : Nat) : Int) := rfl
          have O : Hid (Owns (wq.setCell ⟨B, k + l, none⟩ (.int .u64 ((T % 4294967296 : Nat) : Int))) B (.slice (some ⟨B, 0, none⟩) (n + m) (n + m)) (cs.set (k + l) (T % 4294967296))) := by
            have := H4'.out.set H1.out (k + l) ((T % 4294967296 : Nat) : Int) (Int.natCast_nonneg _)
            rw [Int.toNat_natCast] at this
            exact this
          have HF : Hid (∃ cs', Owns (wq.setCell ⟨B, k + l, none⟩ (.int .u64 ((T % 4294967296 : Nat) : Int))) B (.slice (some ⟨B, 0, none⟩) (n + m) (n + m)) cs' ∧ Sm cs' ∧ val cs' + pw (k + (l + 1)) * (T / 4294967296) = val (ds.take k) * val es + pw k * (ds.getD k 0 * val (es.take (l + 1))) ∧ Zf cs' (k + m)) :=
            ⟨_, O.out, sm_set H2.out (Nat.mod_lt _ (by decide)), hv, zf_set H5.out (by omega)⟩
          have HB1 : Hid (Below B w (wq.setCell ⟨B, k + l, none⟩ (.int .u64 ((T % 4294967296 : Nat) : Int)))) := hbel'.setCell (p := ⟨B, k + l, none⟩) (Nat.le_refl _) _
          have E1 := (show Hid _ from e1)
          have E2 := (show Hid _ from e2)
          clear e1 e2 O H3 H4' hv
          go_wp2_with fail
          rw [E1.out, E2.out]
          exact ⟨⟨l + 1, T / 4294967296, by omega, by go_num, rfl, by omega, HB1.out, HF⟩, by simp [intOf]; omega⟩
        · obtain rfl : l = m := by omega
          have hc0 := hown.cell H1.out (k + l) (by omega)
          rw [dg_zf H5.out] at hc0
          have hf0 := hown.free H1.out (k + l)
          clear hown hcell
          have hv : val (cs.set (k + l) q) = val (ds.take (k + 1)) * val es := by
            have e := HM.out
            subst e
            exact times_out ds es cs k q (by have := H1.out; omega) (by have := HN.out; omega) (H5.out _ (Nat.le_refl _)) H3.out
          have O : Hid (Owns (wr.setCell ⟨B, k + l, none⟩ (.int .u64 (q : Int))) B (.slice (some ⟨B, 0, none⟩) (n + l) (n + l)) (cs.set (k + l) q)) := by
            have := H4.out.set H1.out (k + l) (q : Int) (Int.natCast_nonneg _)
            rw [Int.toNat_natCast] at this
            exact this
          have HF : Hid (∃ cs', Owns (wr.setCell ⟨B, k + l, none⟩ (.int .u64 (q : Int))) B (.slice (some ⟨B, 0, none⟩) (n + l) (n + l)) cs' ∧ Sm cs' ∧ val cs' = val (ds.take (k + 1)) * val es ∧ Zf cs' (k + 1 + l)) :=
            ⟨_, O.out, sm_set H2.out (by omega), hv, zf_set (zf_mono H5.out (by omega)) (by omega)⟩
          have HB1 : Hid (Below B w (wr.setCell ⟨B, k + l, none⟩ (.int .u64 (q : Int)))) := hbel.setCell (p := ⟨B, k + l, none⟩) (Nat.le_refl _) _
          clear O H3 H4 hv
          go_wp2_with fail
          exact ⟨⟨k + 1, by omega, by go_num, HB1.out, HF⟩, by simp [intOf]; omega⟩
    · obtain rfl : k = n := by omega
      obtain ⟨cs, hown, hsm, hval, hzf⟩ := hcs.out
      have H0 : Hid (Row wr _ cs) := hown.row (by have := hown.len; omega)
      have H2 : Hid (Sm cs) := hsm
      have H3 : Hid (val cs = val ds * val es) := by rw [val_take_past ds k (by have := HN.out; omega)] at hval; exact hval
      have hbel : Below w.heap.size w wr := by rw [← HB.out]; exact hbel
      clear hcs hsm hval hzf hown
      go_wp2_with fail
      refine (norm_ok _ cs _ H0.out H2.out).mono ?_
      rintro e w1 ⟨⟨u, rfl, hn⟩, rfl⟩
      rw [H3.out] at hn
      have HR := (show Hid _ from hn)
      clear hn
      go_wp2_with fail
      go_ret
      exact ⟨⟨_, rfl, HR.out⟩, hbel⟩
/-- Small enough for all that is done here. -/
def Md (x : Nat) : Prop := x < pw 32
theorem lt_pw {x k : Nat} (h : x < 2 ^ k) (j : Nat) (hk : k ≤ 32 * j) : x < pw j := by
  rw [pw_two]
  exact Nat.lt_of_lt_of_le h (Nat.pow_le_pow_right (by decide) hk)
theorem md_of {x k : Nat} (h : x < 2 ^ k) (hk : k ≤ 1024) : Md x := lt_pw h 32 (by omega)
theorem md_le {x y : Nat} (h : Md y) (hk : x ≤ y) : Md x := Nat.lt_of_le_of_lt hk h
theorem len_md {ds : List Nat} (h : Nd ds) (hx : Md (val ds)) : ds.length ≤ 32 := by
  by_cases hl : 32 < ds.length
  · have h1 := h.top (by omega)
    have h2 := pw_mono (show 32 ≤ ds.length - 1 by omega)
    unfold Md at hx
    omega
  · omega
theorem times_ok (v u : Value) (x y : Nat) (w : World) (h : Nm w v x) (h2 : Nm w u y) (hx : Md x) (hy : Md y) :
    Calls Try.prog 21 #[v, u] w fun e w' => (∃ r, e = .returned r ∧ Nm w' r (x * y)) ∧ Below w.heap.size w w' := by
  obtain ⟨ds, r, n, rfl⟩ := h
  obtain ⟨es, r2, n2, rfl⟩ := h2
  exact times_rows v u ds es w r r2 n.sm n2.sm (by have := len_md n hx; omega) (by have := len_md n2 hy; omega)
theorem plus_ok (v u : Value) (x y : Nat) (w : World) (h : Nm w v x) (h2 : Nm w u y) (hx : Md x) (hy : Md y) :
    Calls Try.prog 38 #[v, u] w fun e w' => (∃ r, e = .returned r ∧ Nm w' r (x + y)) ∧ Below w.heap.size w w' := by
  obtain ⟨ds, r, n, rfl⟩ := h
  obtain ⟨es, r2, n2, rfl⟩ := h2
  exact plus_rows v u ds es w r r2 n.sm n2.sm (by have := len_md n hx; omega) (by have := len_md n2 hy; omega)
end Go.Proofs.Ytegooagmlapngaa
