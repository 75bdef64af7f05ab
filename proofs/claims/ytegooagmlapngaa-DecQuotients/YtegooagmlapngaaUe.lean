/- The document's long numbers: rows that are made whole; the contracts of Minus, Times. -/
import Derived.Test.YtegooagmlapngaaUd
namespace Go.Proofs.Ytegooagmlapngaa
open Go.RowKit
set_option linter.unusedVariables false

theorem mk1 {w : World} {ops : Array Oper} {rest : List Oper} {o : Oper} {a : Act} {Q : Exit → Act → World → Prop} (hgd : o.guard = none) (l c : Operand) (ho : o.op = Op.makeSlice 44 l c)
    (n : Nat) (L C : Int) (hl : a.eval l = .int .i64 L) (hc : a.eval c = .int .i64 C) (hL : L = n) (hC : C = n) (hn : n ≤ 300)
    (h : ∀ w', Owns w' w.heap.size (.slice (some ⟨w.heap.size, 0, none⟩) n n) (List.replicate n 0) → Below w.heap.size w w' → wpList Try.prog ops Q rest (a.put o.dst (.slice (some ⟨w.heap.size, 0, none⟩) n n)) w') :
    wpList Try.prog ops Q (o :: rest) a w := by
  obtain ⟨i0, hi, hz0, hz1, hz2⟩ := info_parts info64
  refine wpList_make_full w hgd l c 44 ho w.heap.size 22 i0 (.int .u64 0) 1 Try.underlying44 hi hz0 hz1 .i64 .i64 L C n hl hc hL hC (by rw [hz2]; omega) (by unfold maxLen; omega) (Nat.le_refl _) ?_
  intro w' hown hg
  refine h w' ?_ ((Below.refl _ _).grown hg (Nat.le_refl _) (fun k hk => by cases hk))
  have e : (madeCells (Value.int .u64 0).cells (n * 1)).toList = cl (List.replicate n 0) := by
    rw [Nat.mul_one]
    show (madeCells #[Value.int .u64 0] n).toList = _
    rw [toList_madeCells_one]
    simp [cl]
  refine ⟨?_⟩
  rw [List.length_replicate, ← e]
  exact hown
theorem Owns.set {w : World} {B g n : Nat} {cs : List Nat} (h : Owns w B (.slice (some ⟨g, 0, none⟩) n n) cs) (hl : cs.length = n) (j : Nat) (d : Int) (hd : 0 ≤ d) :
    Owns (w.setCell ⟨g, j, none⟩ (.int .u64 d)) B (.slice (some ⟨g, 0, none⟩) n n) (cs.set j d.toNat) := by
  subst hl
  have := (World.ownsRow.stored h.own j (.int .u64 d)).1
  refine ⟨?_⟩
  rw [List.length_set]
  have e : cl (cs.set j d.toNat) = (cl cs).set j (.int .u64 d) := by simp [cl, List.map_set, Int.toNat_of_nonneg hd]
  rw [e]
  exact this
theorem Owns.cell {w : World} {B g n : Nat} {cs : List Nat} (h : Owns w B (.slice (some ⟨g, 0, none⟩) n n) cs) (hl : cs.length = n) (j : Nat) (hj : j < n) : w.cell? ⟨g, j, none⟩ = some (.int .u64 (dg cs j)) := by
  subst hl
  rw [World.ownsRow.cellAt h.own j (by omega), cl_get cs j hj]
theorem Owns.free {w : World} {B g n : Nat} {cs : List Nat} (h : Owns w B (.slice (some ⟨g, 0, none⟩) n n) cs) (hl : cs.length = n) (j : Nat) : w.frozen? ⟨g, j, none⟩ = false := by
  subst hl
  exact World.ownsRow.frozenAt h.own j
theorem val_set_take (cs : List Nat) (k d : Nat) (h : k < cs.length) : val ((cs.set k d).take (k + 1)) = val (cs.take k) + pw k * d := by
  rw [val_take_succ _ k (by simpa using h)]
  have e1 : (cs.set k d).take k = cs.take k := by rw [List.take_set]; exact List.set_eq_of_length_le (by rw [List.length_take]; omega)
  have e2 : (cs.set k d).getD k 0 = d := by simp [h]
  rw [e1, e2]
theorem Owns.len {w : World} {B g n c : Nat} {cs : List Nat} (h : Owns w B (.slice (some ⟨g, 0, none⟩) n c) cs) : cs.length = n := by
  obtain ⟨_, h2⟩ := h.own
  rcases h2 with ⟨h, _⟩ | ⟨g', cap, cur, h, _⟩
  · cases h
  · injection h with _ h _; exact h.symm
theorem minus_stp (p A C b x y s X : Nat) (hX : X + b + y = x + 4294967296) (h : s + C = A + p * b) :
    s + p * (X % 4294967296) + (C + p * y) + (4294967296 * p) * (X / 4294967296) = (A + p * x) + 4294967296 * p := by
  have e := Nat.div_add_mod X 4294967296
  generalize X % 4294967296 = m at *
  generalize X / 4294967296 = q at *
  subst e
  have h1 : p * (4294967296 * q + m + b + y) = p * (x + 4294967296) := by rw [hX]
  simp only [Nat.mul_add] at h1
  rw [Nat.mul_comm 4294967296 p, Nat.mul_assoc]
  omega
theorem minus_last (S q' z P V E D : Nat) (hz : z ≤ 1) (hq : q' + z = 1) (R : S + E + P * z = D + P) : S + E = D + P * q' := by
  rcases (show z = 0 ∨ z = 1 by omega) with rfl | rfl
  · obtain rfl : q' = 1 := by omega
    omega
  · obtain rfl : q' = 0 := by omega
    omega
theorem minus_digits (x y : Int) (q X : Nat) (hX : (X : Int) + q + y = x + 4294967296) : (x + 4294967296 - (q : Int) - y) % 4294967296 = ((X % 4294967296 : Nat) : Int) ∧ (x + 4294967296 - (q : Int) - y) / 4294967296 = ((X / 4294967296 : Nat) : Int) := by
  have : x + 4294967296 - (q : Int) - y = X := by omega
  rw [this]
  exact ⟨rfl, rfl⟩
theorem minus_all (ds es cs : List Nat) (k q : Nat) (hq : q ≤ 1) (hd : Sm ds) (he : Sm es) (hk : k < cs.length) (h : val (cs.take k) + val (es.take k) = val (ds.take k) + pw k * q) :
    ∃ d q' : Nat, d < 4294967296 ∧ q' ≤ 1 ∧ (dg ds k + 4294967296 - (q : Int) - dg es k) % 4294967296 = d ∧ 1 - (dg ds k + 4294967296 - (q : Int) - dg es k) / 4294967296 = q' ∧
      val ((cs.set k d).take (k + 1)) + val (es.take (k + 1)) = val (ds.take (k + 1)) + pw (k + 1) * q' := by
  have s1 := sm_getD k hd
  have s2 := sm_getD k he
  obtain ⟨X, hX⟩ : ∃ X, X + q + es.getD k 0 = ds.getD k 0 + 4294967296 := by
    obtain ⟨X, hX⟩ := Nat.exists_eq_add_of_le (show q + es.getD k 0 ≤ ds.getD k 0 + 4294967296 by omega)
    exact ⟨X, by omega⟩
  have R := minus_stp (pw k) (val (ds.take k)) (val (es.take k)) q (ds.getD k 0) (es.getD k 0) (val (cs.take k)) X hX h
  rw [← val_take_step, ← val_take_step, ← pw_succ] at R
  have hz : X / 4294967296 ≤ 1 := by omega
  obtain ⟨q', hq'⟩ : ∃ q', q' + X / 4294967296 = 1 := by
    rcases (show X / 4294967296 = 0 ∨ X / 4294967296 = 1 by omega) with e | e
    · exact ⟨1, by omega⟩
    · exact ⟨0, by omega⟩
  obtain ⟨e1, e2⟩ := minus_digits (dg ds k) (dg es k) q X (by unfold dg; omega)
  refine ⟨X % 4294967296, q', by omega, by omega, e1, by rw [e2]; omega, ?_⟩
  rw [val_set_take cs k _ hk]
  exact minus_last _ q' (X / 4294967296) _ 0 _ _ hz hq' R
theorem minus_all0 (ds es cs : List Nat) (k q : Nat) (hq : q ≤ 1) (hd : Sm ds) (he : Sm es) (hk : k < cs.length) (hz : es.length ≤ k) (h : val (cs.take k) + val (es.take k) = val (ds.take k) + pw k * q) :
    ∃ d q' : Nat, d < 4294967296 ∧ q' ≤ 1 ∧ (dg ds k + 4294967296 - (q : Int)) % 4294967296 = d ∧ 1 - (dg ds k + 4294967296 - (q : Int)) / 4294967296 = q' ∧
      val ((cs.set k d).take (k + 1)) + val (es.take (k + 1)) = val (ds.take (k + 1)) + pw (k + 1) * q' := by
  have := minus_all ds es cs k q hq hd he hk h
  have e : dg es k = 0 := by unfold dg; rw [getD_past hz]; rfl
  rw [e, Int.sub_zero] at this
  exact this
set_option maxRecDepth 100000 in
set_option maxHeartbeats 1000000 in
theorem minus_rows (v u : Value) (ds es : List Nat) (w : World) (h : Row w v ds) (h2 : Row w u es) (hd : Sm ds) (he : Sm es) (h100 : ds.length ≤ 200) (h101 : es.length ≤ 200) (hll : es.length ≤ ds.length) (hle : val es ≤ val ds) :
    Calls Try.prog 50 #[v, u] w fun e w' => (∃ r, e = .returned r ∧ Nm w' r (val ds - val es)) ∧ Below w.heap.size w w' := by
  have HLL : Hid (es.length ≤ ds.length) := hll
  have HLE : Hid (val es ≤ val ds) := hle
  clear hll hle
  obtain ⟨hm, a, c, rfl, hlc, hx⟩ := h
  obtain ⟨hm2, a2, c2, rfl, hlc2, hx2⟩ := h2
  have HX := (show Hid _ from hx)
  have HX2 := (show Hid _ from hx2)
  have HD : Hid (Sm ds) := hd
  have HE : Hid (Sm es) := he
  clear hx hx2 hd he
  obtain ⟨n, hn⟩ : ∃ n, n = ds.length := ⟨_, rfl⟩
  obtain ⟨m, hmm⟩ : ∃ m, m = es.length := ⟨_, rfl⟩
  have HN : Hid (n = ds.length) := hn
  have HM : Hid (m = es.length) := hmm
  rw [← hn] at hm hlc h100
  rw [← hmm] at hm2 hlc2 h101
  rw [← hn, ← hmm]
  clear hn hmm
  go_enter Try.func50, Try.ntmps50
  go_wp2_with (at_make; refine mk1 rfl _ _ rfl n _ _ (by rfl) (by rfl) rfl rfl (by omega) ?_; intro w1 hown hbel)
  obtain ⟨B, hB⟩ : ∃ B, B = w.heap.size := ⟨_, rfl⟩
  rw [← hB] at hown hbel
  rw [← hB]
  have HB : Hid (B = w.heap.size) := hB
  have hown' := (show Hid _ from hown)
  clear hB hown
  go_loopw [6, 14] (fun s i wr => ∃ k q : Nat, k ≤ n ∧ i = .int .i64 k ∧ s = .int .u64 q ∧ q ≤ 1 ∧ Below B w wr ∧ Hid (∃ cs, Owns wr B (.slice (some ⟨B, 0, none⟩) n n) cs ∧ Sm cs ∧ val (cs.take k) + val (es.take k) = val (ds.take k) + pw k * q)) (fun _ i _ => n - (intOf i).toNat)
  case atStart => exact ⟨0, 0, by omega, rfl, rfl, by omega, hbel, _, hown'.out, sm_replicate _, by simp [val, pw]⟩
  case round =>
    clear hown' hbel
    obtain ⟨k, q, hk, rfl, rfl, hq, hbel, hcs⟩ := hrel
    obtain ⟨cs, hown, hsm, hval⟩ := hcs.out
    have H1 : Hid (cs.length = n) := hown.len
    have H2 := (show Hid _ from hsm)
    have H3 := (show Hid _ from hval)
    have H4 := (show Hid _ from hown)
    clear hcs hsm hval
    by_cases hkn : k < n
    · by_cases hB : k < m
      · have hkn : k < n := by omega
        obtain ⟨b, off, rfl, ⟨hb, _⟩, hc⟩ := HX.out (by have := HN.out; omega)
        have hcell := (hbel.cell (p := ⟨b, off + k, none⟩) (by rw [HB.out]; exact hb)).trans (hc k (by have := HN.out; omega))
        have hc0 := hown.cell H1.out k hkn
        have hf0 := hown.free H1.out k
        clear hc HX hown
        obtain ⟨b2, off2, rfl, ⟨hb2, _⟩, hc2⟩ := HX2.out (by have := HM.out; omega)
        have hcell2 := (hbel.cell (p := ⟨b2, off2 + k, none⟩) (by rw [HB.out]; exact hb2)).trans (hc2 k (by have := HM.out; omega))
        clear hc2 HX2
        have b1 := dg_bd HD.out k
        have b2' := dg_bd HE.out k
        obtain ⟨d, q', hd', hq', e1, e2, hv⟩ := minus_all ds es cs k q hq HD.out HE.out (by have := H1.out; omega) H3.out
        have E1 := (show Hid _ from e1)
        have E2 := (show Hid _ from e2)
        have O : Hid (Owns (wr.setCell ⟨B, k, none⟩ (.int .u64 d)) B (.slice (some ⟨B, 0, none⟩) n n) (cs.set k d)) := by
          have := H4.out.set H1.out k (d : Int) (Int.natCast_nonneg _)
          rw [Int.toNat_natCast] at this
          exact this
        have HF : Hid (∃ cs', Owns (wr.setCell ⟨B, k, none⟩ (.int .u64 d)) B (.slice (some ⟨B, 0, none⟩) n n) cs' ∧ Sm cs' ∧ val (cs'.take (k + 1)) + val (es.take (k + 1)) = val (ds.take (k + 1)) + pw (k + 1) * q') :=
          ⟨_, O.out, sm_set H2.out hd', hv⟩
        have HB1 : Hid (Below B w (wr.setCell ⟨B, k, none⟩ (.int .u64 d))) := hbel.setCell (p := ⟨B, k, none⟩) (Nat.le_refl _) (.int .u64 d)
        clear e1 e2 O H3 H4 hv
        go_wp2_with fail
        rw [E1.out, E2.out]
        exact ⟨⟨k + 1, q', by omega, by go_num, rfl, by omega, HB1.out, HF⟩, by simp [intOf]; omega⟩
      · have hkn : k < n := by omega
        obtain ⟨b, off, rfl, ⟨hb, _⟩, hc⟩ := HX.out (by have := HN.out; omega)
        have hcell := (hbel.cell (p := ⟨b, off + k, none⟩) (by rw [HB.out]; exact hb)).trans (hc k (by have := HN.out; omega))
        have hc0 := hown.cell H1.out k hkn
        have hf0 := hown.free H1.out k
        clear hc HX hown
        have hz2 : Hid (es.getD k 0 = 0) := getD_past (by have := HM.out; omega)
        have b1 := dg_bd HD.out k
        have b2' := dg_bd HE.out k
        obtain ⟨d, q', hd', hq', e1, e2, hv⟩ := minus_all0 ds es cs k q hq HD.out HE.out (by have := H1.out; omega) (by have := HM.out; omega) H3.out
        have E1 := (show Hid _ from e1)
        have E2 := (show Hid _ from e2)
        have O : Hid (Owns (wr.setCell ⟨B, k, none⟩ (.int .u64 d)) B (.slice (some ⟨B, 0, none⟩) n n) (cs.set k d)) := by
          have := H4.out.set H1.out k (d : Int) (Int.natCast_nonneg _)
          rw [Int.toNat_natCast] at this
          exact this
        have HF : Hid (∃ cs', Owns (wr.setCell ⟨B, k, none⟩ (.int .u64 d)) B (.slice (some ⟨B, 0, none⟩) n n) cs' ∧ Sm cs' ∧ val (cs'.take (k + 1)) + val (es.take (k + 1)) = val (ds.take (k + 1)) + pw (k + 1) * q') :=
          ⟨_, O.out, sm_set H2.out hd', hv⟩
        have HB1 : Hid (Below B w (wr.setCell ⟨B, k, none⟩ (.int .u64 d))) := hbel.setCell (p := ⟨B, k, none⟩) (Nat.le_refl _) (.int .u64 d)
        clear e1 e2 O H3 H4 hv
        go_wp2_with fail
        rw [E1.out, E2.out]
        exact ⟨⟨k + 1, q', by omega, by go_num, rfl, by omega, HB1.out, HF⟩, by simp [intOf]; omega⟩
    · obtain rfl : k = n := by omega
      have H0 : Hid (Row wr _ cs) := H4.out.row (by have := H1.out; omega)
      have H3 : Hid (val cs = val ds - val es) := by
        have hv := H3.out
        rw [val_take_past ds k (by have := HN.out; omega), val_take_past es k (by have := HN.out; have := HLL.out; omega), val_take_past cs k (by have := H1.out; omega)] at hv
        have hl := val_lt H2.out
        rw [H1.out] at hl
        have := HLE.out
        rcases (show q = 0 ∨ q = 1 by omega) with rfl | rfl
        · show val cs = val ds - val es
          omega
        · omega
      have hbel : Below w.heap.size w wr := by rw [← HB.out]; exact hbel
      clear hown
      go_wp2_with fail
      refine (norm_ok _ cs _ H0.out H2.out).mono ?_
      rintro e w1 ⟨⟨u, rfl, hn⟩, rfl⟩
      rw [H3.out] at hn
      have HR := (show Hid _ from hn)
      clear hn
      go_wp2_with fail
      go_ret
      exact ⟨⟨_, rfl, HR.out⟩, hbel⟩
theorem minus_ok (v u : Value) (x y : Nat) (w : World) (h : Nm w v x) (h2 : Nm w u y) (hle : y ≤ x) :
    Calls Try.prog 50 #[v, u] w fun e w' => (∃ r, e = .returned r ∧ Nm w' r (x - y)) ∧ Below w.heap.size w w' := by
  obtain ⟨ds, r, n, rfl⟩ := h
  obtain ⟨es, r2, n2, rfl⟩ := h2
  exact minus_rows v u ds es w r r2 n.sm n2.sm r.short r2.short (n2.len_le n hle) hle
end Go.Proofs.Ytegooagmlapngaa
