/- prod: At. -/
import Derived.Test.YtgbphbeafomabaaGk
namespace Go.Proofs.Ytgbphbeafomabaa
open Go.RowKit Go.Shelf
set_option linter.unusedVariables false

/-- the version that holds -/
def hold (vs : List PV) (id day : Int) : Option PV := vs.reverse.find? fun x => decide (fits id day (x.id, x.day))
theorem hold_none {vs : List PV} {id day : Int} (h : ∀ k ∈ keysOf vs, ¬ fits id day k) : hold vs id day = none := by
  unfold hold
  rw [List.find?_eq_none]
  intro x hx
  have := h (x.id, x.day) (List.mem_map.2 ⟨x, List.mem_reverse.1 hx, rfl⟩)
  simpa using this
theorem keys_get {vs : List PV} {j : Nat} (hj : j < vs.length) : (keysOf vs).getD j (0, 0) = (vs[j].id, vs[j].day) := by
  unfold keysOf
  simp [List.getD, hj]
theorem hold_some {vs : List PV} {id day : Int} {j : Nat} (hj : j < vs.length) (h : fits id day (vs[j].id, vs[j].day)) (ha : ∀ i (hi : i < vs.length), j < i → ¬ fits id day (vs[i].id, vs[i].day)) : hold vs id day = some vs[j] := by
  unfold hold
  have e : vs = vs.take j ++ vs[j] :: vs.drop (j + 1) := by simp
  have : vs.reverse = (vs.drop (j + 1)).reverse ++ vs[j] :: (vs.take j).reverse := by
    conv => lhs; rw [e]
    simp
  rw [this, List.find?_append]
  have hn : (vs.drop (j + 1)).reverse.find? (fun x => decide (fits id day (x.id, x.day))) = none := by
    rw [List.find?_eq_none]
    intro x hx
    obtain ⟨i, hi, rfl⟩ := List.mem_iff_getElem.1 (List.mem_reverse.1 hx)
    simp only [List.length_drop] at hi
    simp only [List.getElem_drop, decide_eq_true_eq]
    exact ha (j + 1 + i) (by omega) (by omega)
  rw [hn]
  simp [h]
theorem Cat.kw {w : World} {p B : Nat} {S : Nat → Prop} {vs : List PV} (h : Cat w p B S vs) : KW (keysOf vs) := by
  intro k hk
  obtain ⟨x, hx, rfl⟩ := List.mem_map.1 hk
  exact ⟨(h.wf x hx).id, (h.wf x hx).day⟩
/-- what the program's holding answers -/
def HoldAns (w : World) (B : Nat) (S : Nat → Prop) (vs : List PV) (id day : Int) (e : Ending) : Prop :=
  (hold vs id day = none ∧ e = .returned (.tuple #[.agg (zeroV.cells (.slice none 0 0)).toArray, .bool false])) ∨
  ∃ x tv, x ∈ vs ∧ hold vs id day = some x ∧ e = .returned (.tuple #[.agg (x.cells tv).toArray, .bool true]) ∧ OwnT w B tv x.ts ∧ ∀ k, tv.ownBlock = some k → S k
theorem holding_cat {p B : Nat} {S : Nat → Prop} {vs : List PV} (id day : Int) (w : World) (h : Cat w p B S vs) :
    Calls Try.prog 30 #[.pointer (some ⟨p, 0, none⟩), .int .i64 id, .int .i64 day] w fun e w' => HoldAns w B S vs id day e ∧ Below w.heap.size w w' := by
  have hkw := h.kw
  obtain ⟨h1, h2, h3, bm, sv, n, f, a1, a2, a3, a4, a5, a6, a7, a8⟩ := h
  obtain ⟨sa, sn, cap, rfl⟩ := a6.form
  obtain ⟨k1, k2, k3⟩ := a6.at
  have hlen : (keysOf vs).length = vs.length := by simp [keysOf]
  have hin : ∀ a b, I64 a → I64 b → ∃ cs : List Value, cs.length = 9 ∧ (∀ v ∈ cs, v.oneCell' = true) ∧ (f (kl a b)).getD (.agg #[.int .i64 0, .int .i64 0, .int .i64 0, .int .i64 0, .int .i64 0, .int .i64 0, .int .i64 0, .int .i64 0, .slice none 0 0]) = .agg cs.toArray := by
    intro a b ha hb
    by_cases hx : ∃ x ∈ vs, x.id = a ∧ x.day = b
    · obtain ⟨x, hx, rfl, rfl⟩ := hx
      obtain ⟨tv, e1, e2, _⟩ := a7 x hx
      exact ⟨x.cells tv, rfl, pv_one x e2.form, by rw [e1]; rfl⟩
    · rw [a8 a b ha hb (fun x hx' e => hx ⟨x, hx', e⟩)]
      exact ⟨[.int .i64 0, .int .i64 0, .int .i64 0, .int .i64 0, .int .i64 0, .int .i64 0, .int .i64 0, .int .i64 0, .slice none 0 0], rfl, zz_one, rfl⟩
  refine callsIn_wide.1 ((holding_in 3 (by omega) p bm sn cap n sa f id day (keysOf vs) w a1 a4 k1 (by omega) k2 k3 hkw hin).mono ?_)
  rintro e w' ⟨h, hb⟩
  refine ⟨?_, hb⟩
  rcases h with ⟨rfl, hn⟩ | ⟨j, cs, hj, hf, hl, hv, rfl⟩
  · exact Or.inl ⟨hold_none hn, rfl⟩
  · rw [hlen] at hj
    rw [keys_get hj] at hf hv
    obtain ⟨tv, e1, e2, e3⟩ := a7 vs[j] (List.getElem_mem hj)
    have : (some (Value.agg (vs[j].cells tv).toArray)).getD (.agg #[.int .i64 0, .int .i64 0, .int .i64 0, .int .i64 0, .int .i64 0, .int .i64 0, .int .i64 0, .int .i64 0, .slice none 0 0]) = .agg cs := by rw [← e1]; exact hv
    injection this with this
    exact Or.inr ⟨vs[j], tv, List.getElem_mem hj, hold_some hj hf (fun i hi hji => by have := hl i hji (by rw [hlen]; exact hi); rwa [keys_get hi] at this), by rw [← this], e2, e3⟩
theorem chk_len {x : PV} (h : chk x = 0) : x.ts.length ≤ 8 := by
  unfold chk at h
  split at h
  · unfold terr at h
    split at h
    · cases h
    · omega
  · cases h
/-- what At answers -/
def AtAns (w' : World) (B' : Nat) (vs : List PV) (id day : Int) (e : Ending) : Prop :=
  (wi day 1 3652059 = false ∧ e = .returned (.tuple #[.agg (zeroV.cells (.slice none 0 0)).toArray, .int .i64 1])) ∨
  (wi day 1 3652059 = true ∧ hold vs id day = none ∧ e = .returned (.tuple #[.agg (zeroV.cells (.slice none 0 0)).toArray, .int .i64 7])) ∨
  (wi day 1 3652059 = true ∧ ∃ x v, x ∈ vs ∧ hold vs id day = some x ∧ e = .returned (.tuple #[.agg (x.cells v).toArray, .int .i64 0]) ∧ OwnT w' B' v x.ts)
set_option maxRecDepth 100000 in
set_option maxHeartbeats 2000000 in
theorem at_nil (id day : Int) (w : World) : Calls Try.prog 20 #[.pointer none, .int .i64 id, .int .i64 day] w fun e w' => AtAns w' w.heap.size [] id day e ∧ Below w.heap.size w w' := by
  have HU := (show Hid _ from va_new w [.int .i64 0, .int .i64 0, .int .i64 0, .int .i64 0, .int .i64 0, .int .i64 0, .int .i64 0, .int .i64 0, .slice none 0 0] 25)
  have HD := (show Hid _ from (Below.refl w.heap.size w).alloc (Nat.le_refl _) (.cells #[.int .i64 0, .int .i64 0, .int .i64 0, .int .i64 0, .int .i64 0, .int .i64 0, .int .i64 0, .int .i64 0, .slice none 0 0] 25))
  cases hd : wi day 1 3652059
  · go_enter Try.func20, Try.ntmps20
    go_wp2_with (first
      | (go_at_call 29; refine (isday_ok day _).mono ?_; rintro e w1 ⟨rfl, rfl⟩; rw [hd])
      | (refine stA rfl 25 _ _ rfl w.heap.size (by rfl) _ [.int .i64 0, .int .i64 0, .int .i64 0, .int .i64 0, .int .i64 0, .int .i64 0, .int .i64 0, .int .i64 0, .slice none 0 0] (by rfl) 25 HU.out infoP rfl zz_one ?_; intro w5 V5 U5))
    refine bodyPost_ret (v := .tuple #[.agg #[.int .i64 0, .int .i64 0, .int .i64 0, .int .i64 0, .int .i64 0, .int .i64 0, .int .i64 0, .int .i64 0, .slice none 0 0], .int .i64 1]) ?_ rfl ⟨Or.inl ⟨hd, rfl⟩, U5.bel HD.out (Nat.le_refl _)⟩
    have hld := run_loadVar_row (P := Try.prog) w5 w.heap.size 25 25 _ (0, 0) _ V5.blk Try.underlying25 rfl infoP
    simp [results, Try.results20, asAddr, hld]
  · go_enter Try.func20, Try.ntmps20
    go_wp2_with (first
      | (go_at_call 29; refine (isday_ok day _).mono ?_; rintro e w1 ⟨rfl, rfl⟩; rw [hd])
      | (refine stA rfl 25 _ _ rfl w.heap.size (by rfl) _ [.int .i64 0, .int .i64 0, .int .i64 0, .int .i64 0, .int .i64 0, .int .i64 0, .int .i64 0, .int .i64 0, .slice none 0 0] (by rfl) 25 HU.out infoP rfl zz_one ?_; intro w5 V5 U5))
    refine bodyPost_ret (v := .tuple #[.agg #[.int .i64 0, .int .i64 0, .int .i64 0, .int .i64 0, .int .i64 0, .int .i64 0, .int .i64 0, .int .i64 0, .slice none 0 0], .int .i64 7]) ?_ rfl ⟨Or.inr (Or.inl ⟨hd, rfl, rfl⟩), U5.bel HD.out (Nat.le_refl _)⟩
    have hld := run_loadVar_row (P := Try.prog) w5 w.heap.size 25 25 _ (0, 0) _ V5.blk Try.underlying25 rfl infoP
    simp [results, Try.results20, asAddr, hld]
set_option maxRecDepth 100000 in
set_option maxHeartbeats 2000000 in
theorem at_ok {p B : Nat} {S : Nat → Prop} {vs : List PV} (id day : Int) (w : World) (h : Cat w p B S vs) : Calls Try.prog 20 #[.pointer (some ⟨p, 0, none⟩), .int .i64 id, .int .i64 day] w fun e w' => AtAns w' w.heap.size vs id day e ∧ Below w.heap.size w w' := by
  have HU := (show Hid _ from va_new w [.int .i64 0, .int .i64 0, .int .i64 0, .int .i64 0, .int .i64 0, .int .i64 0, .int .i64 0, .int .i64 0, .slice none 0 0] 25)
  have HD := (show Hid _ from (Below.refl w.heap.size w).alloc (Nat.le_refl _) (.cells #[.int .i64 0, .int .i64 0, .int .i64 0, .int .i64 0, .int .i64 0, .int .i64 0, .int .i64 0, .int .i64 0, .slice none 0 0] 25))
  have HC := (show Hid _ from h.step HD.out)
  have HF := (show Hid _ from h.fine)
  have lw : w.heap.size < (w.alloc (.cells #[.int .i64 0, .int .i64 0, .int .i64 0, .int .i64 0, .int .i64 0, .int .i64 0, .int .i64 0, .int .i64 0, .slice none 0 0] 25)).heap.size := by simp
  clear h
  cases hd : wi day 1 3652059
  · go_enter Try.func20, Try.ntmps20
    go_wp2_with (first
      | (go_at_call 29; refine (isday_ok day _).mono ?_; rintro e w1 ⟨rfl, rfl⟩; rw [hd])
      | (refine stA rfl 25 _ _ rfl w.heap.size (by rfl) _ [.int .i64 0, .int .i64 0, .int .i64 0, .int .i64 0, .int .i64 0, .int .i64 0, .int .i64 0, .int .i64 0, .slice none 0 0] (by rfl) 25 HU.out infoP rfl zz_one ?_; intro w5 V5 U5))
    refine bodyPost_ret (v := .tuple #[.agg #[.int .i64 0, .int .i64 0, .int .i64 0, .int .i64 0, .int .i64 0, .int .i64 0, .int .i64 0, .int .i64 0, .slice none 0 0], .int .i64 1]) ?_ rfl ⟨Or.inl ⟨hd, rfl⟩, U5.bel HD.out (Nat.le_refl _)⟩
    have hld := run_loadVar_row (P := Try.prog) w5 w.heap.size 25 25 _ (0, 0) _ V5.blk Try.underlying25 rfl infoP
    simp [results, Try.results20, asAddr, hld]
  · go_enter Try.func20, Try.ntmps20
    go_wp2_with (first
      | (go_at_call 29; refine (isday_ok day _).mono ?_; rintro e w1 ⟨rfl, rfl⟩; rw [hd])
      | (refine stA rfl 25 _ _ rfl w.heap.size (by rfl) _ [.int .i64 0, .int .i64 0, .int .i64 0, .int .i64 0, .int .i64 0, .int .i64 0, .int .i64 0, .int .i64 0, .slice none 0 0] (by rfl) 25 HU.out infoP rfl zz_one ?_; intro w5 V5 U5))
    generalize w.alloc (.cells #[.int .i64 0, .int .i64 0, .int .i64 0, .int .i64 0, .int .i64 0, .int .i64 0, .int .i64 0, .int .i64 0, .slice none 0 0] 25) = w1 at *
    refine (holding_cat id day w1 HC.out).mono ?_
    rintro e w2 ⟨ha, b2⟩
    have U2 := (show Hid _ from HU.out.step b2)
    have D2 := (show Hid _ from HD.out.trans (b2.mono HD.out.size))
    have l2 := b2.size
    rcases ha with ⟨hn, rfl⟩ | ⟨x, tv, hm, hx, rfl, o2, hS⟩
    · have U3 := (show Hid _ from U2.out.alloc (.cells #[.int .i64 0, .int .i64 0, .int .i64 0, .int .i64 0, .int .i64 0, .int .i64 0, .int .i64 0, .int .i64 0, .slice none 0 0] 25))
      have D3 := (show Hid _ from D2.out.alloc D2.out.size (.cells #[.int .i64 0, .int .i64 0, .int .i64 0, .int .i64 0, .int .i64 0, .int .i64 0, .int .i64 0, .int .i64 0, .slice none 0 0] 25))
      clear b2
      go_wp2_with (first
        | (refine stA rfl 25 _ _ rfl w2.heap.size (by rfl) _ [.int .i64 0, .int .i64 0, .int .i64 0, .int .i64 0, .int .i64 0, .int .i64 0, .int .i64 0, .int .i64 0, .slice none 0 0] (by rfl) 25 (va_new w2 [.int .i64 0, .int .i64 0, .int .i64 0, .int .i64 0, .int .i64 0, .int .i64 0, .int .i64 0, .int .i64 0, .slice none 0 0] 25) infoP rfl zz_one ?_; intro w4 V4 U4; have U5' := (show Hid _ from U3.out.upd U4 (by omega)))
        | (refine stA rfl 25 _ _ rfl w.heap.size (by rfl) _ [.int .i64 0, .int .i64 0, .int .i64 0, .int .i64 0, .int .i64 0, .int .i64 0, .int .i64 0, .int .i64 0, .slice none 0 0] (by rfl) 25 U5'.out infoP rfl zz_one ?_; intro w5 V5 U5))
      refine bodyPost_ret (v := .tuple #[.agg #[.int .i64 0, .int .i64 0, .int .i64 0, .int .i64 0, .int .i64 0, .int .i64 0, .int .i64 0, .int .i64 0, .slice none 0 0], .int .i64 7]) ?_ rfl ⟨Or.inr (Or.inl ⟨hd, hn, rfl⟩), U5.bel (U4.bel D3.out (by omega)) (Nat.le_refl _)⟩
      have hld := run_loadVar_row (P := Try.prog) w5 w.heap.size 25 25 _ (0, 0) _ V5.blk Try.underlying25 rfl infoP
      simp [results, Try.results20, asAddr, hld]
    · obtain ⟨ta, tn, tc, rfl⟩ := o2.form
      have BZ := (Below.refl w2.heap.size w2).alloc (Nat.le_refl _) (.cells #[.int .i64 0, .int .i64 0, .int .i64 0, .int .i64 0, .int .i64 0, .int .i64 0, .int .i64 0, .int .i64 0, .slice none 0 0] 25)
      have U3 := (show Hid _ from U2.out.alloc (.cells #[.int .i64 0, .int .i64 0, .int .i64 0, .int .i64 0, .int .i64 0, .int .i64 0, .int .i64 0, .int .i64 0, .slice none 0 0] 25))
      have D3 := (show Hid _ from D2.out.alloc D2.out.size (.cells #[.int .i64 0, .int .i64 0, .int .i64 0, .int .i64 0, .int .i64 0, .int .i64 0, .int .i64 0, .int .i64 0, .slice none 0 0] 25))
      have HBZ := (show Hid _ from BZ)
      have hO := (show Hid _ from o2.step b2)
      have HX := (show Hid _ from hx)
      have HM := (show Hid _ from hm)
      clear b2 o2 hS hx hm BZ
      go_wp2_with (first
        | (refine stA rfl 25 _ _ rfl w2.heap.size (by rfl) _ (x.cells (.slice ta tn tc)) (by rfl) 25 (va_new w2 [.int .i64 0, .int .i64 0, .int .i64 0, .int .i64 0, .int .i64 0, .int .i64 0, .int .i64 0, .int .i64 0, .slice none 0 0] 25) infoP rfl (pv_one x ⟨_, _, _, rfl⟩) ?_; intro w4 V4 U4; have HV4 := (show Hid _ from V4); have HU4 := (show Hid _ from U4); clear V4 U4)
        | (refine ldA rfl 25 _ rfl w2.heap.size (by rfl) (x.cells (.slice ta tn tc)) _ HV4.out _ Try.underlying25 rfl infoP ?_))
      have B4 : Below w2.heap.size w2 w4 := HU4.out.bel HBZ.out (Nat.le_refl _)
      have O4 := hO.out.step B4
      refine (copied_ok x _ w4 O4.tr O4.nilcap (by have := chk_len (HF.out x HM.out); omega)).mono ?_
      rintro e w5 ⟨⟨v5, rfl, o5⟩, b5⟩
      obtain ⟨a5, n5, c5, rfl⟩ := o5.form
      have X5 := (show Hid _ from (U2.out.step B4).step b5)
      have D5 := (show Hid _ from (D2.out.trans (B4.mono D2.out.size)).trans (b5.mono (Nat.le_trans D2.out.size B4.size)))
      have O5 := (show Hid _ from o5)
      have l4 := B4.size
      have l5 := b5.size
      clear B4 O4 b5 o5
      go_wp2_with (refine stA rfl 25 _ _ rfl w.heap.size (by rfl) _ (x.cells (.slice a5 n5 c5)) (by rfl) 25 X5.out infoP rfl (pv_one x ⟨_, _, _, rfl⟩) ?_; intro w6 V6 U6)
      refine bodyPost_ret (v := .tuple #[.agg (x.cells (.slice a5 n5 c5)).toArray, .int .i64 0]) ?_ rfl ⟨Or.inr (Or.inr ⟨hd, x, .slice a5 n5 c5, HM.out, HX.out, rfl, (O5.out.upd U6 (by omega)).lower (by omega)⟩), U6.bel D5.out (Nat.le_refl _)⟩
      have hld := run_loadVar_row (P := Try.prog) w6 w.heap.size 25 25 _ (0, 0) _ V6.blk Try.underlying25 rfl infoP
      simp [results, Try.results20, asAddr, hld]
end Go.Proofs.Ytgbphbeafomabaa
