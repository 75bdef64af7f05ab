/- The document's long numbers: rows that a call makes itself (make, append); the contract of Plus. -/
import Derived.Test.YtegooagmlapngaaUc
namespace Go.Proofs.Ytegooagmlapngaa
open Go.RowKit
set_option linter.unusedVariables false

theorem info64 : (Try.prog.info? 22).map (fun i => (i.zero, i.size, i.bytes)) = some (some (.int .u64 0), 1, 8) := by kernel_rfl
/-- digits as cells -/
def cl (cs : List Nat) : List Value := cs.map fun (d : Nat) => Value.int .u64 (d : Int)
theorem cl_snoc (cs : List Nat) (d : Nat) : cl cs ++ [.int .u64 (d : Int)] = cl (cs ++ [d]) := by simp [cl]
theorem cl_get (cs : List Nat) (k : Nat) (h : k < cs.length) : (cl cs)[k]? = some (.int .u64 (dg cs k)) := by simp [cl, dg, h]
/-- The row v of the call's own holds the digits cs. -/
structure Owns (w : World) (B : Nat) (v : Value) (cs : List Nat) : Prop where
  own : w.ownsRow B 22 1 v cs.length (cl cs)
theorem owns_nil (w : World) (B : Nat) : Owns w B (.slice none 0 0) [] := ⟨World.ownsRow_nil _ _ _ _⟩
theorem Owns.row {w : World} {B : Nat} {v : Value} {cs : List Nat} (h : Owns w B v cs) (hm : cs.length ≤ 200) : Row w v cs := by
  obtain ⟨hl, h2⟩ := h.own
  rcases h2 with ⟨rfl, h0⟩ | ⟨g, cap, cur, rfl, hb, hg, hcap, hcm, hcs, htk⟩
  · exact ⟨hm, none, 0, by rw [h0], by omega, fun h => by omega⟩
  · refine ⟨hm, _, cap, rfl, hcap, fun h0 => ⟨g, 0, rfl, ⟨?_, cur, _, hg⟩, fun k hk => ?_⟩⟩
    · rcases Nat.lt_or_ge g w.heap.size with hlt | hge
      · exact hlt
      · rw [Array.getElem?_eq_none hge] at hg; cases hg
    · have ho : w.ownsRow B 22 1 (.slice (some ⟨g, 0, none⟩) cs.length cap) cs.length (cl cs) := ⟨hl, Or.inr ⟨g, cap, cur, rfl, hb, hg, hcap, hcm, hcs, htk⟩⟩
      rw [Nat.zero_add, ho.cellAt k (by omega), cl_get cs k hk]
theorem Owns.block {w : World} {B : Nat} {v : Value} {cs : List Nat} (h : Owns w B v cs) : ∀ k, v.ownBlock = some k → B ≤ k := by
  obtain ⟨hl, h2⟩ := h.own
  rcases h2 with ⟨rfl, h0⟩ | ⟨g, cap, cur, rfl, hb, _⟩
  · intro k hk; simp [Value.ownBlock] at hk
  · intro k hk; simp [Value.ownBlock] at hk; omega
theorem app1 {w : World} {ops : Array Oper} {rest : List Oper} {o : Oper} {a : Act} {Q : Exit → Act → World → Prop} {T : TypeId} (hgd : o.guard = none) (s x : Operand)
    (ho : o.op = .call { callee := .builtin .append, args := #[s, x], argTypes := #[44, 44] })
    (B : Nat) (cs : List Nat) (v : Value) (d : Int) (hs : a.eval s = v) (hx : a.eval x = .slice (some ⟨w.heap.size, 0, none⟩) 1 1) (hd : 0 ≤ d)
    (hown : Owns w B v cs) (hB : B ≤ w.heap.size) (hl : cs.length ≤ 300)
    (h : ∀ v' w', Owns w' B v' (cs ++ [d.toNat]) → Below B w w' → wpList Try.prog ops Q rest (a.put o.dst v') w') :
    wpList Try.prog ops Q (o :: rest) a (w.alloc (.cells #[.int .u64 d] T)) := by
  obtain ⟨i0, hi, hz0, hz1, hz2⟩ := info_parts info64
  refine wpList_append_own _ hgd s x 44 ho B 22 i0 (.int .u64 0) 1 8 Try.underlying44 hi hz0 hz1 hz2 rfl (by decide) v cs.length (cl cs) hs (hown.own.alloc _) ⟨w.heap.size, 0, none⟩ 1 1 [.int .u64 d] hx rfl ?_ ?_ ?_ ?_ ?_ ?_
  · intro j u hj
    match j, hj with
    | 0, hj => simp at hj; subst hj; simp [Addr.add]
  · intro u hu; simp at hu; subst hu; rfl
  · unfold maxLen; omega
  · omega
  · simp; omega
  · intro v' w' hown' hgrow _
    refine h v' w' ?_ ?_
    · have e : cl cs ++ [.int .u64 d] = cl (cs ++ [d.toNat]) := by rw [← cl_snoc, Int.toNat_of_nonneg hd]
      refine ⟨?_⟩
      rw [List.length_append, List.length_singleton, ← e]
      exact hown'
    · exact ((Below.refl _ _).alloc hB _).grown hgrow (by simp; omega) hown.block

theorem getD_past {ds : List Nat} {k : Nat} (h : ds.length ≤ k) : ds.getD k 0 = 0 := by simp [h]
theorem plus_carry (q x y : Nat) (hq : q ≤ 1) (hx : x < 4294967296) (hy : y < 4294967296) : (q + x + y) / 4294967296 ≤ 1 := by omega
set_option maxRecDepth 100000 in
set_option maxHeartbeats 1000000 in
theorem plus_rows (v u : Value) (ds es : List Nat) (w : World) (h : Row w v ds) (h2 : Row w u es) (hd : Sm ds) (he : Sm es) (h100 : ds.length ≤ 100) (h101 : es.length ≤ 100) :
    Calls Try.prog 38 #[v, u] w fun e w' => (∃ r, e = .returned r ∧ Nm w' r (val ds + val es)) ∧ Below w.heap.size w w' := by
  obtain ⟨hm, a, c, rfl, hlc, hx⟩ := h
  obtain ⟨hm2, a2, c2, rfl, hlc2, hx2⟩ := h2
  have HX := (show Hid _ from hx)
  have HX2 := (show Hid _ from hx2)
  have HD : Hid (Sm ds) := hd
  have HE : Hid (Sm es) := he
  clear hx hx2 hd he
  obtain ⟨n, hn⟩ : ∃ n, n = ds.length := ⟨_, rfl⟩
  obtain ⟨m, hmm⟩ : ∃ m, m = es.length := ⟨_, rfl⟩
  have HN : Hid (n = ds.length) := hn
  have HM : Hid (m = es.length) := hmm
  rw [← hn] at hm hlc h100
  rw [← hmm] at hm2 hlc2 h101
  rw [← hn, ← hmm]
  clear hn hmm
  go_enter Try.func38, Try.ntmps38
  go_wp2_with fail
  go_loopw [5, 6, 7] (fun r s i wr => ∃ k q : Nat, k ≤ 101 ∧ (n < k ∧ m < k → q = 0) ∧ i = .int .i64 k ∧ s = .int .u64 q ∧ q ≤ 1 ∧ (k ≤ n ∨ k ≤ m ∨ (k = n + 1 ∨ k = m + 1)) ∧ Below w.heap.size w wr ∧ Hid (∃ cs, Owns wr w.heap.size r cs ∧ cs.length = k ∧ Sm cs ∧ val cs + pw k * q = val (ds.take k) + val (es.take k))) (fun _ _ i _ => 200 - (intOf i).toNat)
  case atStart => exact ⟨0, 0, by omega, fun _ => rfl, rfl, rfl, by omega, by omega, Below.refl _ _, [], owns_nil _ _, rfl, sm_nil, by simp [val, pw]⟩
  case round =>
    obtain ⟨k, q, hk, hq0, rfl, rfl, hq, hkk, hbel, hcs⟩ := hrel
    have hsz := hbel.size
    by_cases hA : k < n
    · by_cases hB : k < m
      · have hkn : k < n := by omega
        obtain ⟨b, off, rfl, ⟨hb, _⟩, hc⟩ := HX.out (by have := HN.out; omega)
        have hcell := (hbel.cell (p := ⟨b, off + k, none⟩) hb).trans (hc k (by have := HN.out; omega))
        clear hc HX
        have hkm : k < m := by omega
        obtain ⟨b2, off2, rfl, ⟨hb2, _⟩, hc2⟩ := HX2.out (by have := HM.out; omega)
        have hcell2 := (hbel.cell (p := ⟨b2, off2 + k, none⟩) hb2).trans (hc2 k (by have := HM.out; omega))
        clear hc2 HX2
        have b1 := dg_bd HD.out k
        have b2' := dg_bd HE.out k
        obtain ⟨cs, hown, hlen, hsm, hval⟩ := hcs.out
        have H1 := (show Hid _ from hlen)
        have H2 := (show Hid _ from hsm)
        have H3 := (show Hid _ from hval)
        have H4 := (show Hid _ from hown)
        clear hlen hsm hval hcs hown
        go_wp2_with (at_builtin; refine app1 rfl _ _ rfl w.heap.size cs _ (((q : Int) + dg ds k + dg es k) % 4294967296) (by rfl) (by rfl) (by omega) H4.out hsz (by have := H1.out; omega) ?_; intro v' w1 hown' hbel')
        have R := plus_round (pw k) (val (ds.take k)) (val (es.take k)) q (ds.getD k 0) (es.getD k 0) (val cs) H3.out
        rw [← val_take_step, ← val_take_step, ← pw_succ] at R
        have e1 : (((q : Int) + dg ds k + dg es k) % 4294967296).toNat = (q + ds.getD k 0 + es.getD k 0) % 4294967296 := by
          unfold dg; omega
        have e2 : ((q : Int) + dg ds k + dg es k) / 4294967296 = (((q + ds.getD k 0 + es.getD k 0) / 4294967296 : Nat) : Int) := by
          unfold dg; omega
        have hq' := plus_carry q _ _ hq (sm_getD k HD.out) (sm_getD k HE.out)
        have hlast : n < k + 1 ∧ m < k + 1 → (q + ds.getD k 0 + es.getD k 0) / 4294967296 = 0 := by intro h; omega
        rw [e1] at hown'
        have HF : Hid (∃ cs, Owns w1 w.heap.size v' cs ∧ cs.length = k + 1 ∧ Sm cs ∧ val cs + pw (k + 1) * ((q + ds.getD k 0 + es.getD k 0) / 4294967296) = val (ds.take (k + 1)) + val (es.take (k + 1))) :=
          ⟨_, hown', by simp [H1.out], sm_snoc H2.out (Nat.mod_lt _ (by decide)), by rw [val_snoc, H1.out]; exact R⟩
        clear hown' R e1 H4
        generalize (q + ds.getD k 0 + es.getD k 0) / 4294967296 = q' at *
        have hbel1 : Below w.heap.size w w1 := hbel.trans hbel'
        clear hbel hbel'
        have E2 := (show Hid _ from e2)
        clear e2
        go_wp2_with fail
        go_roundw
        case rel => exact ⟨k + 1, q', by omega, by omega, by go_num, by rw [E2.out], hq', by omega, hbel1, HF⟩
        case measure => simp [intOf]; omega
      · have hkn : k < n := by omega
        obtain ⟨b, off, rfl, ⟨hb, _⟩, hc⟩ := HX.out (by have := HN.out; omega)
        have hcell := (hbel.cell (p := ⟨b, off + k, none⟩) hb).trans (hc k (by have := HN.out; omega))
        clear hc HX
        have hz2 : Hid (es.getD k 0 = 0) := getD_past (by have := HM.out; omega)
        have b1 := dg_bd HD.out k
        have b2' := dg_bd HE.out k
        obtain ⟨cs, hown, hlen, hsm, hval⟩ := hcs.out
        have H1 := (show Hid _ from hlen)
        have H2 := (show Hid _ from hsm)
        have H3 := (show Hid _ from hval)
        have H4 := (show Hid _ from hown)
        clear hlen hsm hval hcs hown
        go_wp2_with (at_builtin; refine app1 rfl _ _ rfl w.heap.size cs _ (((q : Int) + dg ds k) % 4294967296) (by rfl) (by rfl) (by omega) H4.out hsz (by have := H1.out; omega) ?_; intro v' w1 hown' hbel')
        have R := plus_round (pw k) (val (ds.take k)) (val (es.take k)) q (ds.getD k 0) (es.getD k 0) (val cs) H3.out
        rw [← val_take_step, ← val_take_step, ← pw_succ] at R
        have e1 : (((q : Int) + dg ds k) % 4294967296).toNat = (q + ds.getD k 0 + es.getD k 0) % 4294967296 := by
          have := hz2.out; unfold dg; omega
        have e2 : ((q : Int) + dg ds k) / 4294967296 = (((q + ds.getD k 0 + es.getD k 0) / 4294967296 : Nat) : Int) := by
          have := hz2.out; unfold dg; omega
        have hq' := plus_carry q _ _ hq (sm_getD k HD.out) (sm_getD k HE.out)
        have hlast : n < k + 1 ∧ m < k + 1 → (q + ds.getD k 0 + es.getD k 0) / 4294967296 = 0 := by intro h; omega
        rw [e1] at hown'
        have HF : Hid (∃ cs, Owns w1 w.heap.size v' cs ∧ cs.length = k + 1 ∧ Sm cs ∧ val cs + pw (k + 1) * ((q + ds.getD k 0 + es.getD k 0) / 4294967296) = val (ds.take (k + 1)) + val (es.take (k + 1))) :=
          ⟨_, hown', by simp [H1.out], sm_snoc H2.out (Nat.mod_lt _ (by decide)), by rw [val_snoc, H1.out]; exact R⟩
        clear hown' R e1 H4
        generalize (q + ds.getD k 0 + es.getD k 0) / 4294967296 = q' at *
        have hbel1 : Below w.heap.size w w1 := hbel.trans hbel'
        clear hbel hbel'
        have E2 := (show Hid _ from e2)
        clear e2
        go_wp2_with fail
        go_roundw
        case rel => exact ⟨k + 1, q', by omega, by omega, by go_num, by rw [E2.out], hq', by omega, hbel1, HF⟩
        case measure => simp [intOf]; omega
    · by_cases hB : k < m
      · have hz1 : Hid (ds.getD k 0 = 0) := getD_past (by have := HN.out; omega)
        have hkm : k < m := by omega
        obtain ⟨b2, off2, rfl, ⟨hb2, _⟩, hc2⟩ := HX2.out (by have := HM.out; omega)
        have hcell2 := (hbel.cell (p := ⟨b2, off2 + k, none⟩) hb2).trans (hc2 k (by have := HM.out; omega))
        clear hc2 HX2
        have b1 := dg_bd HD.out k
        have b2' := dg_bd HE.out k
        obtain ⟨cs, hown, hlen, hsm, hval⟩ := hcs.out
        have H1 := (show Hid _ from hlen)
        have H2 := (show Hid _ from hsm)
        have H3 := (show Hid _ from hval)
        have H4 := (show Hid _ from hown)
        clear hlen hsm hval hcs hown
        go_wp2_with (at_builtin; refine app1 rfl _ _ rfl w.heap.size cs _ (((q : Int) + dg es k) % 4294967296) (by rfl) (by rfl) (by omega) H4.out hsz (by have := H1.out; omega) ?_; intro v' w1 hown' hbel')
        have R := plus_round (pw k) (val (ds.take k)) (val (es.take k)) q (ds.getD k 0) (es.getD k 0) (val cs) H3.out
        rw [← val_take_step, ← val_take_step, ← pw_succ] at R
        have e1 : (((q : Int) + dg es k) % 4294967296).toNat = (q + ds.getD k 0 + es.getD k 0) % 4294967296 := by
          have := hz1.out; unfold dg; omega
        have e2 : ((q : Int) + dg es k) / 4294967296 = (((q + ds.getD k 0 + es.getD k 0) / 4294967296 : Nat) : Int) := by
          have := hz1.out; unfold dg; omega
        have hq' := plus_carry q _ _ hq (sm_getD k HD.out) (sm_getD k HE.out)
        have hlast : n < k + 1 ∧ m < k + 1 → (q + ds.getD k 0 + es.getD k 0) / 4294967296 = 0 := by intro h; omega
        rw [e1] at hown'
        have HF : Hid (∃ cs, Owns w1 w.heap.size v' cs ∧ cs.length = k + 1 ∧ Sm cs ∧ val cs + pw (k + 1) * ((q + ds.getD k 0 + es.getD k 0) / 4294967296) = val (ds.take (k + 1)) + val (es.take (k + 1))) :=
          ⟨_, hown', by simp [H1.out], sm_snoc H2.out (Nat.mod_lt _ (by decide)), by rw [val_snoc, H1.out]; exact R⟩
        clear hown' R e1 H4
        generalize (q + ds.getD k 0 + es.getD k 0) / 4294967296 = q' at *
        have hbel1 : Below w.heap.size w w1 := hbel.trans hbel'
        clear hbel hbel'
        have E2 := (show Hid _ from e2)
        clear e2
        go_wp2_with fail
        go_roundw
        case rel => exact ⟨k + 1, q', by omega, by omega, by go_num, by rw [E2.out], hq', by omega, hbel1, HF⟩
        case measure => simp [intOf]; omega
      · by_cases hq1 : 0 < q
        · have hz1 : Hid (ds.getD k 0 = 0) := getD_past (by have := HN.out; omega)
          have hz2 : Hid (es.getD k 0 = 0) := getD_past (by have := HM.out; omega)
          have b1 := dg_bd HD.out k
          have b2' := dg_bd HE.out k
          obtain ⟨cs, hown, hlen, hsm, hval⟩ := hcs.out
          have H1 := (show Hid _ from hlen)
          have H2 := (show Hid _ from hsm)
          have H3 := (show Hid _ from hval)
          have H4 := (show Hid _ from hown)
          clear hlen hsm hval hcs hown
          go_wp2_with (at_builtin; refine app1 rfl _ _ rfl w.heap.size cs _ (((q : Int)) % 4294967296) (by rfl) (by rfl) (by omega) H4.out hsz (by have := H1.out; omega) ?_; intro v' w1 hown' hbel')
          have R := plus_round (pw k) (val (ds.take k)) (val (es.take k)) q (ds.getD k 0) (es.getD k 0) (val cs) H3.out
          rw [← val_take_step, ← val_take_step, ← pw_succ] at R
          have e1 : (((q : Int)) % 4294967296).toNat = (q + ds.getD k 0 + es.getD k 0) % 4294967296 := by
            have := hz1.out; have := hz2.out; omega
          have e2 : ((q : Int)) / 4294967296 = (((q + ds.getD k 0 + es.getD k 0) / 4294967296 : Nat) : Int) := by
            have := hz1.out; have := hz2.out; omega
          have hq' := plus_carry q _ _ hq (sm_getD k HD.out) (sm_getD k HE.out)
          have hlast : n < k + 1 ∧ m < k + 1 → (q + ds.getD k 0 + es.getD k 0) / 4294967296 = 0 := by intro h; have := hz1.out; have := hz2.out; omega
          rw [e1] at hown'
          have HF : Hid (∃ cs, Owns w1 w.heap.size v' cs ∧ cs.length = k + 1 ∧ Sm cs ∧ val cs + pw (k + 1) * ((q + ds.getD k 0 + es.getD k 0) / 4294967296) = val (ds.take (k + 1)) + val (es.take (k + 1))) :=
            ⟨_, hown', by simp [H1.out], sm_snoc H2.out (Nat.mod_lt _ (by decide)), by rw [val_snoc, H1.out]; exact R⟩
          clear hown' R e1 H4
          generalize (q + ds.getD k 0 + es.getD k 0) / 4294967296 = q' at *
          have hbel1 : Below w.heap.size w w1 := hbel.trans hbel'
          clear hbel hbel'
          have E2 := (show Hid _ from e2)
          clear e2
          go_wp2_with fail
          go_roundw
          case rel => exact ⟨k + 1, q', by omega, by omega, by go_num, by rw [E2.out], hq', by omega, hbel1, HF⟩
          case measure => simp [intOf]; omega
        · obtain rfl : q = 0 := by omega
          obtain ⟨cs, hown, hlen, hsm, hval⟩ := hcs.out
          have H0 : Hid (Row wr _ cs) := hown.row (by omega)
          have H2 := (show Hid _ from hsm)
          have H3 : Hid (val cs = val ds + val es) := by
            rw [val_take_past ds k (by have := HN.out; omega), val_take_past es k (by have := HM.out; omega)] at hval
            show val cs = val ds + val es
            omega
          clear hlen hsm hval hown hcs
          go_wp2_with fail
          refine (norm_ok _ cs _ H0.out H2.out).mono ?_
          rintro e w1 ⟨⟨u, rfl, hn⟩, rfl⟩
          rw [H3.out] at hn
          have HR := (show Hid _ from hn)
          clear hn
          go_wp2_with fail
          go_ret
          exact ⟨⟨_, rfl, HR.out⟩, hbel⟩
end Go.Proofs.Ytegooagmlapngaa
