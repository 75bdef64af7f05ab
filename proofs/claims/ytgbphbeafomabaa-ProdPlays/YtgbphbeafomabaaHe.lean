/- prod: the document's list of versions; DocAt. -/
import Derived.Test.YtgbphbeafomabaaHb
import Derived.Test.YtgbphbeafomabaaGy
namespace Go.Proofs.Ytgbphbeafomabaa
open Go.RowKit Go.Shelf
set_option linter.unusedVariables false

/-- a slice's block, if it has one, is of S -/
def SB (S : Nat → Prop) (v : Value) : Prop := ∀ b off n c, v = .slice (some ⟨b, off, none⟩) n c → 0 < n → S b
theorem SB.mono {S S' : Nat → Prop} {v : Value} (h : SB S v) (k : ∀ b, S b → S' b) : SB S' v := fun b off n c e hn => k b (h b off n c e hn)
theorem Tr.upd {w w' : World} {q : Nat} {v : Value} {ts : List (Int × Int)} (h : Tr w v ts) (k : Upd q w w') (hq : SB (fun b => b ≠ q) v) : Tr w' v ts := by
  obtain ⟨hw, a, c, e, h1, h2, h3⟩ := h
  refine ⟨hw, a, c, e, h1, h2, fun h0 => ?_⟩
  obtain ⟨b, off, ea, hb, hx⟩ := h3 h0
  have hne : b ≠ q := hq b off _ c (by rw [e, ea]) h0
  have hc : ∀ i, w'.cell? ⟨b, i, none⟩ = w.cell? ⟨b, i, none⟩ := fun i => by simp only [World.cell?, k.block b hne]
  exact ⟨b, off, ea, by rw [k.size]; exact hb, fun j hj => ⟨(hc _).trans (hx j hj).1, (hc _).trans (hx j hj).2⟩⟩
/-- the document's list of versions; its blocks are of S -/
structure Dl (w : World) (S : Nat → Prop) (v : Value) (xs : List PV) : Prop where
  form : ∃ a c, v = .slice a xs.length c ∧ xs.length ≤ c ∧ c ≤ 9223372036854775807 ∧ (a = none → c = 0) ∧ (0 < xs.length → ∃ b off, a = some ⟨b, off, none⟩ ∧ b < w.heap.size ∧ S b ∧ ∀ k (hk : k < xs.length), ∃ tv, (∀ j u, (xs[k].cells tv)[j]? = some u → w.cell? ⟨b, off + k * 9 + j, none⟩ = some u) ∧ Tr w tv xs[k].ts ∧ SB S tv)
theorem Dl.step {w w' : World} {S : Nat → Prop} {v : Value} {xs : List PV} (h : Dl w S v xs) (k : Below w.heap.size w w') : Dl w' S v xs := by
  obtain ⟨a, c, e, h1, h2, hn, h3⟩ := h
  refine ⟨a, c, e, h1, h2, hn, fun h0 => ?_⟩
  obtain ⟨b, off, ea, hb, hS, hx⟩ := h3 h0
  refine ⟨b, off, ea, Nat.lt_of_lt_of_le hb k.size, hS, fun i hi => ?_⟩
  obtain ⟨tv, hc, hp, hs⟩ := hx i hi
  exact ⟨tv, fun j u hj => (k.cell (p := ⟨b, off + i * 9 + j, none⟩) hb).trans (hc j u hj), hp.step k, hs⟩
theorem Dl.upd {w w' : World} {S : Nat → Prop} {q : Nat} {v : Value} {xs : List PV} (h : Dl w S v xs) (k : Upd q w w') (hq : ¬ S q) : Dl w' S v xs := by
  obtain ⟨a, c, e, h1, h2, hn, h3⟩ := h
  refine ⟨a, c, e, h1, h2, hn, fun h0 => ?_⟩
  obtain ⟨b, off, ea, hb, hS, hx⟩ := h3 h0
  have hne : b ≠ q := fun e => hq (e ▸ hS)
  refine ⟨b, off, ea, by rw [k.size]; exact hb, hS, fun i hi => ?_⟩
  obtain ⟨tv, hc, hp, hs⟩ := hx i hi
  refine ⟨tv, fun j u hj => ?_, hp.upd k (hs.mono (fun b hb e => hq (e ▸ hb))), hs⟩
  rw [← hc j u hj]
  simp only [World.cell?, k.block b hne]
theorem Dl.mono {w : World} {S S' : Nat → Prop} {v : Value} {xs : List PV} (h : Dl w S v xs) (k : ∀ b, b < w.heap.size → S b → S' b) : Dl w S' v xs := by
  obtain ⟨a, c, e, h1, h2, hn, h3⟩ := h
  refine ⟨a, c, e, h1, h2, hn, fun h0 => ?_⟩
  obtain ⟨b, off, ea, hb, hS, hx⟩ := h3 h0
  refine ⟨b, off, ea, hb, k b hb hS, fun i hi => ?_⟩
  obtain ⟨tv, hc, hp, hs⟩ := hx i hi
  refine ⟨tv, hc, hp, fun b off n c e hn => ?_⟩
  obtain ⟨_, a, c', e', _, _, h3⟩ := hp
  rw [e'] at e
  cases e
  obtain ⟨b', off', e2, hb', _⟩ := h3 hn
  cases e2
  exact k b hb' (hs b off _ _ e' hn)
theorem Dl.at {w : World} {S : Nat → Prop} {a : Option Addr} {n c : Nat} {xs : List PV} (h : Dl w S (.slice a n c) xs) (k : Nat) (hk : k < n) : ∃ b off x tv, a = some ⟨b, off, none⟩ ∧ b < w.heap.size ∧ xs[k]? = some x ∧ (∀ j u, (x.cells tv)[j]? = some u → w.cell? ⟨b, off + k * 9 + j, none⟩ = some u) ∧ Tr w tv x.ts ∧ SB S tv := by
  obtain ⟨a', c', e, h1, h2, _, h3⟩ := h
  cases e
  obtain ⟨b, off, ea, hb, _, hx⟩ := h3 (by omega)
  obtain ⟨tv, hc, hp, hs⟩ := hx k hk
  exact ⟨b, off, xs[k], tv, ea, hb, by simp [hk], hc, hp, hs⟩
/-- versions of one product come in the order of their days, and have one kind and currency -/
def Rise (xs : List PV) : Prop := ∀ i j (hi : i < xs.length) (hj : j < xs.length), i < j → xs[i].id = xs[j].id → xs[i].day < xs[j].day ∧ xs[i].kind = xs[j].kind ∧ xs[i].cur = xs[j].cur
theorem hold_take {xs : List PV} {id D : Int} {k : Nat} (hk : k < xs.length) : hold (xs.take (k + 1)) id D = if fits id D (xs[k].id, xs[k].day) then some xs[k] else hold (xs.take k) id D := by
  rw [List.take_succ_eq_append_getElem hk, hold_snoc]
/-- where the version that holds stands -/
def HoldAt (xs : List PV) (id D : Int) (k : Nat) (b : Int) : Prop := (hold (xs.take k) id D = none ∧ b = -1) ∨ ∃ j : Nat, ∃ hj : j < xs.length, j < k ∧ hold (xs.take k) id D = some xs[j] ∧ b = (j : Int) ∧ fits id D (xs[j].id, xs[j].day)
/-- what DocAt answers -/
def DAns (w : World) (S : Nat → Prop) (xs : List PV) (id day : Int) (e : Ending) : Prop :=
  (wi day 1 3652059 = false ∧ e = .returned (.tuple #[.agg (zeroV.cells (.slice none 0 0)).toArray, .int .i64 1])) ∨
  (wi day 1 3652059 = true ∧ hold xs id day = none ∧ e = .returned (.tuple #[.agg (zeroV.cells (.slice none 0 0)).toArray, .int .i64 7])) ∨
  (wi day 1 3652059 = true ∧ ∃ x v, hold xs id day = some x ∧ e = .returned (.tuple #[.agg (x.cells v).toArray, .int .i64 0]) ∧ Tr w v x.ts ∧ SB S v)
set_option maxRecDepth 100000 in
set_option maxHeartbeats 4000000 in
theorem docat_ok {S : Nat → Prop} (v : Value) (xs : List PV) (id day : Int) (w : World) (h : Dl w S v xs) (hr : Rise xs) :
    Calls Try.prog 21 #[v, .int .i64 id, .int .i64 day] w fun e w' => DAns w' S xs id day e ∧ Below w.heap.size w w' := by
  have HU := (show Hid _ from va_new w [.int .i64 0, .int .i64 0, .int .i64 0, .int .i64 0, .int .i64 0, .int .i64 0, .int .i64 0, .int .i64 0, .slice none 0 0] 24)
  have HD := (show Hid _ from (Below.refl w.heap.size w).alloc (Nat.le_refl _) (.cells #[.int .i64 0, .int .i64 0, .int .i64 0, .int .i64 0, .int .i64 0, .int .i64 0, .int .i64 0, .int .i64 0, .slice none 0 0] 24))
  have HL := (show Hid _ from h.step HD.out)
  have HL0 := (show Hid _ from h)
  obtain ⟨n, hn⟩ : ∃ n, n = xs.length := ⟨_, rfl⟩
  obtain ⟨sa, sc, rfl, g1, g2⟩ : ∃ a c, v = .slice a n c ∧ n ≤ c ∧ c ≤ 9223372036854775807 := by obtain ⟨a, c, e, h1, h2, _⟩ := h; exact ⟨a, c, by rw [hn]; exact e, by rw [hn]; exact h1, h2⟩
  have HN := (show Hid _ from hn)
  have HR := (show Hid _ from hr)
  clear h hn hr
  cases hd : wi day 1 3652059
  · go_enter Try.func21, Try.ntmps21
    go_wp2_with (first
      | (go_at_call 25; refine (ris_ok day _).mono ?_; rintro e w1 ⟨rfl, rfl⟩; rw [hd])
      | (refine stA rfl 24 _ _ rfl w.heap.size (by rfl) _ [.int .i64 0, .int .i64 0, .int .i64 0, .int .i64 0, .int .i64 0, .int .i64 0, .int .i64 0, .int .i64 0, .slice none 0 0] (by rfl) 24 HU.out infoR rfl zz_one ?_; intro w5 V5 U5))
    refine bodyPost_ret (v := .tuple #[.agg #[.int .i64 0, .int .i64 0, .int .i64 0, .int .i64 0, .int .i64 0, .int .i64 0, .int .i64 0, .int .i64 0, .slice none 0 0], .int .i64 1]) ?_ rfl ⟨Or.inl ⟨hd, rfl⟩, U5.bel HD.out (Nat.le_refl _)⟩
    have hld := run_loadVar_row (P := Try.prog) w5 w.heap.size 24 24 _ (0, 0) _ V5.blk Try.underlying24 rfl infoR
    simp [results, Try.results21, asAddr, hld]
  · go_enter Try.func21, Try.ntmps21
    go_wp2_with (go_at_call 25; refine (ris_ok day _).mono ?_; rintro e w1 ⟨rfl, rfl⟩; rw [hd])
    generalize w.alloc (.cells #[.int .i64 0, .int .i64 0, .int .i64 0, .int .i64 0, .int .i64 0, .int .i64 0, .int .i64 0, .int .i64 0, .slice none 0 0] 24) = w1 at *
    go_loopw [8, 17] (fun b i wr => ∃ (k : Nat) (z : Int), k ≤ n ∧ i = .int .i64 k ∧ b = .int .i64 z ∧ Hid (HoldAt xs id day k z) ∧ Hid (Below w1.heap.size w1 wr)) (fun _ i _ => n - (intOf i).toNat)
    case atStart => exact ⟨0, -1, by omega, rfl, rfl, Or.inl ⟨rfl, rfl⟩, Below.refl _ _⟩
    case round =>
      obtain ⟨k, z, hk, rfl, rfl, HH, HB⟩ := hrel
      have D2 := (show Hid _ from HD.out.trans (HB.out.mono HD.out.size))
      have U2 := (show Hid _ from HU.out.step HB.out)
      by_cases hkn : k = n
      · subst hkn
        have HT : Hid (xs.take k = xs) := by
          show xs.take k = xs
          rw [HN.out]
          exact List.take_length
        rcases HH.out with ⟨h1, h2⟩ | ⟨j, hj, hjk, h1, h2, hf⟩
        · subst h2
          go_wp2_with (refine stA rfl 24 _ _ rfl w.heap.size (by rfl) _ [.int .i64 0, .int .i64 0, .int .i64 0, .int .i64 0, .int .i64 0, .int .i64 0, .int .i64 0, .int .i64 0, .slice none 0 0] (by rfl) 24 U2.out infoR rfl zz_one ?_; intro w5 V5 U5)
          refine bodyPost_ret (v := .tuple #[.agg #[.int .i64 0, .int .i64 0, .int .i64 0, .int .i64 0, .int .i64 0, .int .i64 0, .int .i64 0, .int .i64 0, .slice none 0 0], .int .i64 7]) ?_ rfl ⟨Or.inr (Or.inl ⟨hd, by rw [← HT.out]; exact h1, rfl⟩), U5.bel D2.out (Nat.le_refl _)⟩
          have hld := run_loadVar_row (P := Try.prog) w5 w.heap.size 24 24 _ (0, 0) _ V5.blk Try.underlying24 rfl infoR
          simp [results, Try.results21, asAddr, hld]
        · subst h2
          obtain ⟨b, off, x, tv, rfl, hb, hx, hcell0, hT, hsb⟩ := HL0.out.at j hjk
          have hxj : xs[j] = x := by
            rw [List.getElem?_eq_getElem hj] at hx
            exact Option.some.inj hx
          have hcell : ∀ i u, (x.cells tv)[i]? = some u → wr.cell? ⟨b, off + j * 9 + i, none⟩ = some u := fun i u hi => (D2.out.cell (p := ⟨b, off + j * 9 + i, none⟩) hb).trans (hcell0 i u hi)
          have HCL := (show Hid _ from hcell)
          have HTT := (show Hid _ from And.intro hT hsb)
          have HHO : Hid (hold xs id day = some x) := by show hold xs id day = some x; rw [← hxj, ← h1, HT.out]
          obtain ⟨ta, tn, tc, rfl⟩ : ∃ a n c, tv = .slice a n c := by obtain ⟨_, a, c, e, _⟩ := hT; exact ⟨a, _, c, e⟩
          have d1 : (0 : Int) ≤ (j : Int) := by omega
          have d2 : (j : Int) < (k : Int) := by omega
          clear hcell hcell0 hT hsb hx hxj h1 hf
          go_wp2_with (first
            | (refine ldM rfl 24 _ rfl b (off + j * 9) (by rfl) (x.cells (.slice ta tn tc)) HCL.out _ Try.underlying24 rfl infoR ?_)
            | (refine stA rfl 24 _ _ rfl w.heap.size (by rfl) _ (x.cells (.slice ta tn tc)) (by rfl) 24 U2.out infoR rfl (pv_one _ ⟨_, _, _, rfl⟩) ?_; intro w5 V5 U5))
          have B5 : Below w.heap.size w w5 := U5.bel D2.out (Nat.le_refl _)
          refine bodyPost_ret (v := .tuple #[.agg (x.cells (.slice ta tn tc)).toArray, .int .i64 0]) ?_ rfl ⟨Or.inr (Or.inr ⟨hd, x, _, HHO.out, rfl, HTT.out.1.step B5, HTT.out.2⟩), B5⟩
          have hld := run_loadVar_row (P := Try.prog) w5 w.heap.size 24 24 _ (0, 0) _ V5.blk Try.underlying24 rfl infoR
          simp [results, Try.results21, asAddr, hld]
      · have hk' : k < n := by omega
        have d1 : (0 : Int) ≤ (k : Int) := by omega
        have d2 : (k : Int) < (n : Int) := by omega
        obtain ⟨b, off, x, tv, rfl, hb, hx, hcell0, hT, _⟩ := HL0.out.at k hk'
        have hkx : k < xs.length := by rw [← HN.out]; exact hk'
        have hxk : xs[k] = x := by
          rw [List.getElem?_eq_getElem hkx] at hx
          exact Option.some.inj hx
        have HCL : Hid (∀ i u, (x.cells tv)[i]? = some u → wr.cell? ⟨b, off + k * 9 + i, none⟩ = some u) := fun i u hi => (D2.out.cell (p := ⟨b, off + k * 9 + i, none⟩) hb).trans (hcell0 i u hi)
        have HHS : Hid (hold (xs.take (k + 1)) id day = if fits id day (x.id, x.day) then some x else hold (xs.take k) id day) := by
          show _ = _
          rw [hold_take hkx, hxk]
        have HXK : Hid (∃ h : k < xs.length, xs[k] = x) := ⟨hkx, hxk⟩
        have HOLD : Hid (∀ j (hj : j < xs.length), j < k → ∃ bj : Int, xs[j].day = bj ∧ (x.id = xs[j].id → bj < x.day) ∧ ∀ w5, Below wr.heap.size wr w5 → w5.cell? ⟨b, off + j * 9 + 3, none⟩ = some (.int .i64 bj)) := by
          intro j hj hjk
          obtain ⟨b', off', x', tv', e', hb', hx', hcell', _, _⟩ := HL0.out.at j (by have := HN.out; omega)
          cases e'
          have hxj : xs[j] = x' := by
            rw [List.getElem?_eq_getElem hj] at hx'
            exact Option.some.inj hx'
          refine ⟨xs[j].day, rfl, fun e => ?_, fun w5 b5 => ?_⟩
          · have := (HR.out j k hj hkx hjk (by rw [hxk, e])).1
            rw [hxk] at this
            exact this
          · have c := hcell' 3 (.int .i64 x'.day) rfl
            have c2 := (D2.out.cell (p := ⟨b, off + j * 9 + 3, none⟩) hb').trans c
            rw [hxj]
            exact (b5.cell (p := ⟨b, off + j * 9 + 3, none⟩) (World.block_lt_of_cell? _ _ c2)).trans c2
        obtain ⟨ta, tn, tc, rfl⟩ : ∃ a n c, tv = .slice a n c := by obtain ⟨_, a, c, e, _⟩ := hT; exact ⟨a, _, c, e⟩
        clear hcell0 hT hx hxk hkx
        go_upto_region 7 with (first
          | (refine ldM rfl 24 _ rfl b (off + k * 9) (by rfl) (x.cells (.slice ta tn tc)) HCL.out _ Try.underlying24 rfl infoR ?_)
          | (refine stA rfl 24 _ _ rfl wr.heap.size (by rfl) _ (x.cells (.slice ta tn tc)) (by rfl) 24 (va_new wr [.int .i64 0, .int .i64 0, .int .i64 0, .int .i64 0, .int .i64 0, .int .i64 0, .int .i64 0, .int .i64 0, .slice none 0 0] 24) infoR rfl (pv_one _ ⟨_, _, _, rfl⟩) ?_; intro w5 V5 U5))
        have B5 : Below wr.heap.size wr w5 := U5.bel ((Below.refl _ _).alloc (Nat.le_refl _) _) (Nat.le_refl _)
        have y0 := V5.cell 0 (v := .int .i64 x.id) rfl
        have y3 := V5.cell 3 (v := .int .i64 x.day) rfl
        have D5 := (show Hid _ from HB.out.trans (B5.mono HB.out.size))
        have HB5 := (show Hid _ from B5)
        clear V5 U5 B5 HCL
        by_cases t1 : x.id = id
        · have e1 : (x.id == id) = true := by simpa using t1
          have T1 := (show Hid _ from t1)
          clear t1
          by_cases t2 : x.day ≤ day
          · have NEW : Hid (HoldAt xs id day (k + 1) (k : Int)) := by
              have h1 := HHS.out
              rw [if_pos ⟨T1.out, t2⟩] at h1
              obtain ⟨hkx, hxk⟩ := HXK.out
              exact Or.inr ⟨k, hkx, by omega, by rw [h1, hxk], rfl, by rw [hxk]; exact ⟨T1.out, t2⟩⟩
            rcases HH.out with ⟨h1, h2⟩ | ⟨j, hj, hjk, h1, h2, hf⟩
            · subst h2
              refine wp_region_noPanic ?_
              refine wp_region_held_drew (S := fun w' => Below w5.heap.size w5 w') (by kernel_rfl) ((Below.refl _ _).drew) (fun hHeld => ?_)
              refine takeD 0 22 (.pointer (some ⟨wr.heap.size, 0, none⟩)) (by exact rfl) rfl (by kernel_rfl) (by kernel_rfl) (by kernel_rfl) (fun _ _ _ h => h) (Or.inl ⟨by rfl, ?_⟩) (by assumption) ?_
              · intro wq hS
                go_simp
              simp only [Act.put, List.setIfInBounds_toArray, List.set_cons_zero, List.set_cons_succ]
              refine takeD 1 23 (.int .i64 x.id) (by exact rfl) rfl (by kernel_rfl) (by kernel_rfl) (by kernel_rfl) (fun _ _ _ h => h) (Or.inl ⟨by rfl, ?_⟩) (by assumption) ?_
              · intro wq hS
                have c := (hS.cell (p := ⟨wr.heap.size, 0, none⟩) (World.block_lt_of_cell? _ _ y0)).trans y0
                go_simp
              simp only [Act.put, List.setIfInBounds_toArray, List.set_cons_zero, List.set_cons_succ]
              refine takeD 2 24 (.int .i64 id) (by exact rfl) rfl (by kernel_rfl) (by kernel_rfl) (by kernel_rfl) (fun _ _ _ h => h) (Or.inl ⟨by rfl, ?_⟩) (by assumption) ?_
              · intro wq hS
                go_simp
              simp only [Act.put, List.setIfInBounds_toArray, List.set_cons_zero, List.set_cons_succ]
              refine takeD 3 25 (.bool true) (by exact rfl) rfl (by kernel_rfl) (by kernel_rfl) (by kernel_rfl) (fun _ _ _ h => h) (Or.inl ⟨by rfl, ?_⟩) (by assumption) ?_
              · intro wq hS
                go_simp
              simp only [Act.put, List.setIfInBounds_toArray, List.set_cons_zero, List.set_cons_succ]
              refine takeD 4 26 (.bool true) (by exact rfl) rfl (by kernel_rfl) (by kernel_rfl) (by kernel_rfl) (fun _ _ _ h => h) (Or.inl ⟨by rfl, ?_⟩) (by assumption) ?_
              · intro wq hS
                go_simp
              simp only [Act.put, List.setIfInBounds_toArray, List.set_cons_zero, List.set_cons_succ]
              refine takeD 5 27 (.pointer (some ⟨wr.heap.size, 3, none⟩)) (by exact rfl) rfl (by kernel_rfl) (by kernel_rfl) (by kernel_rfl) (fun _ _ _ h => h) (Or.inl ⟨by rfl, ?_⟩) (by assumption) ?_
              · intro wq hS
                go_simp
              simp only [Act.put, List.setIfInBounds_toArray, List.set_cons_zero, List.set_cons_succ]
              refine takeD 6 28 (.int .i64 x.day) (by exact rfl) rfl (by kernel_rfl) (by kernel_rfl) (by kernel_rfl) (fun _ _ _ h => h) (Or.inl ⟨by rfl, ?_⟩) (by assumption) ?_
              · intro wq hS
                have c := (hS.cell (p := ⟨wr.heap.size, 3, none⟩) (World.block_lt_of_cell? _ _ y3)).trans y3
                go_simp
              simp only [Act.put, List.setIfInBounds_toArray, List.set_cons_zero, List.set_cons_succ]
              refine takeD 7 29 (.int .i64 day) (by exact rfl) rfl (by kernel_rfl) (by kernel_rfl) (by kernel_rfl) (fun _ _ _ h => h) (Or.inl ⟨by rfl, ?_⟩) (by assumption) ?_
              · intro wq hS
                go_simp
              simp only [Act.put, List.setIfInBounds_toArray, List.set_cons_zero, List.set_cons_succ]
              refine takeD 8 30 (.bool true) (by exact rfl) rfl (by kernel_rfl) (by kernel_rfl) (by kernel_rfl) (fun _ _ _ h => h) (Or.inl ⟨by rfl, ?_⟩) (by assumption) ?_
              · intro wq hS
                go_simp
              simp only [Act.put, List.setIfInBounds_toArray, List.set_cons_zero, List.set_cons_succ]
              refine takeD 9 31 (.bool true) (by exact rfl) rfl (by kernel_rfl) (by kernel_rfl) (by kernel_rfl) (fun _ _ _ h => h) (Or.inl ⟨by rfl, ?_⟩) (by assumption) ?_
              · intro wq hS
                go_simp
              simp only [Act.put, List.setIfInBounds_toArray, List.set_cons_zero, List.set_cons_succ]
              refine takeD 10 32 (.bool true) (by exact rfl) rfl (by kernel_rfl) (by kernel_rfl) (by kernel_rfl) (fun _ _ _ h => h) (Or.inl ⟨by rfl, ?_⟩) (by assumption) ?_
              · intro wq hS
                go_simp
              simp only [Act.put, List.setIfInBounds_toArray, List.set_cons_zero, List.set_cons_succ]
              refine takeD 11 33 (.int .i64 (-1)) (by exact rfl) rfl (by kernel_rfl) (by kernel_rfl) (by kernel_rfl) (fun _ _ _ h => h) (Or.inl ⟨by rfl, ?_⟩) (by assumption) ?_
              · intro wq hS
                go_simp
              simp only [Act.put, List.setIfInBounds_toArray, List.set_cons_zero, List.set_cons_succ]
              refine takeD 12 34 (.bool true) (by exact rfl) rfl (by kernel_rfl) (by kernel_rfl) (by kernel_rfl) (fun _ _ _ h => h) (Or.inl ⟨by rfl, ?_⟩) (by assumption) ?_
              · intro wq hS
                go_simp
              simp only [Act.put, List.setIfInBounds_toArray, List.set_cons_zero, List.set_cons_succ]
              refine takeD 13 35 (.bool true) (by exact rfl) rfl (by kernel_rfl) (by kernel_rfl) (by kernel_rfl) (fun _ _ _ h => h) (Or.inl ⟨by rfl, ?_⟩) (by assumption) ?_
              · intro wq hS
                go_simp
              simp only [Act.put, List.setIfInBounds_toArray, List.set_cons_zero, List.set_cons_succ]
              refine takeD 14 36 undef (by exact rfl) rfl (by kernel_rfl) (by kernel_rfl) (by kernel_rfl) (fun _ _ _ h => h) (Or.inr ⟨by rfl, rfl⟩) (by assumption) ?_
              simp only [Act.put, List.setIfInBounds_toArray, List.set_cons_zero, List.set_cons_succ]
              refine takeD 15 37 undef (by exact rfl) rfl (by kernel_rfl) (by kernel_rfl) (by kernel_rfl) (fun _ _ _ h => h) (Or.inr ⟨by rfl, rfl⟩) (by assumption) ?_
              simp only [Act.put, List.setIfInBounds_toArray, List.set_cons_zero, List.set_cons_succ]
              refine takeD 16 38 undef (by exact rfl) rfl (by kernel_rfl) (by kernel_rfl) (by kernel_rfl) (fun _ _ _ h => h) (Or.inr ⟨by rfl, rfl⟩) (by assumption) ?_
              simp only [Act.put, List.setIfInBounds_toArray, List.set_cons_zero, List.set_cons_succ]
              refine takeD 17 39 undef (by exact rfl) rfl (by kernel_rfl) (by kernel_rfl) (by kernel_rfl) (fun _ _ _ h => h) (Or.inr ⟨by rfl, rfl⟩) (by assumption) ?_
              simp only [Act.put, List.setIfInBounds_toArray, List.set_cons_zero, List.set_cons_succ]
              refine takeD 18 40 undef (by exact rfl) rfl (by kernel_rfl) (by kernel_rfl) (by kernel_rfl) (fun _ _ _ h => h) (Or.inr ⟨by rfl, rfl⟩) (by assumption) ?_
              simp only [Act.put, List.setIfInBounds_toArray, List.set_cons_zero, List.set_cons_succ]
              refine takeD 19 41 undef (by exact rfl) rfl (by kernel_rfl) (by kernel_rfl) (by kernel_rfl) (fun _ _ _ h => h) (Or.inr ⟨by rfl, rfl⟩) (by assumption) ?_
              simp only [Act.put, List.setIfInBounds_toArray, List.set_cons_zero, List.set_cons_succ]
              refine takeD 20 42 undef (by exact rfl) rfl (by kernel_rfl) (by kernel_rfl) (by kernel_rfl) (fun _ _ _ h => h) (Or.inr ⟨by rfl, rfl⟩) (by assumption) ?_
              simp only [Act.put, List.setIfInBounds_toArray, List.set_cons_zero, List.set_cons_succ]
              refine takeD 21 43 undef (by exact rfl) rfl (by kernel_rfl) (by kernel_rfl) (by kernel_rfl) (fun _ _ _ h => h) (Or.inr ⟨by rfl, rfl⟩) (by assumption) ?_
              simp only [Act.put, List.setIfInBounds_toArray, List.set_cons_zero, List.set_cons_succ]
              refine takeD 22 44 (.bool true) (by exact rfl) rfl (by kernel_rfl) (by kernel_rfl) (by kernel_rfl) (fun _ _ _ h => h) (Or.inl ⟨by rfl, ?_⟩) (by assumption) ?_
              · intro wq hS
                go_simp
              simp only [Act.put, List.setIfInBounds_toArray, List.set_cons_zero, List.set_cons_succ]
              refine takeD 23 45 (.bool true) (by exact rfl) rfl (by kernel_rfl) (by kernel_rfl) (by kernel_rfl) (fun _ _ _ h => h) (Or.inl ⟨by rfl, ?_⟩) (by assumption) ?_
              · intro wq hS
                go_simp
              simp only [Act.put, List.setIfInBounds_toArray, List.set_cons_zero, List.set_cons_succ]
              refine wpAnyH_done (by kernel_rfl) ?_ _
              refine NoPanic.normal ?_
              go_wp2_with fail
              exact ⟨⟨k + 1, k, by omega, by go_num, rfl, NEW.out, D5.out.drew⟩, by simp [intOf]; omega⟩
            · subst h2
              obtain ⟨bj, e9, hlt, hcj⟩ := HOLD.out j hj hjk
              have c3 := hcj w5 HB5.out
              have t4 : bj < x.day := hlt (by rw [T1.out]; exact hf.1.symm)
              have d3 : (0 : Int) ≤ (j : Int) := by omega
              have d4 : (j : Int) < (n : Int) := by omega
              clear hcj hlt e9 h1 hf
              refine wp_region_noPanic ?_
              refine wp_region_held_drew (S := fun w' => Below w5.heap.size w5 w') (by kernel_rfl) ((Below.refl _ _).drew) (fun hHeld => ?_)
              refine takeD 0 22 (.pointer (some ⟨wr.heap.size, 0, none⟩)) (by exact rfl) rfl (by kernel_rfl) (by kernel_rfl) (by kernel_rfl) (fun _ _ _ h => h) (Or.inl ⟨by rfl, ?_⟩) (by assumption) ?_
              · intro wq hS
                go_simp
              simp only [Act.put, List.setIfInBounds_toArray, List.set_cons_zero, List.set_cons_succ]
              refine takeD 1 23 (.int .i64 x.id) (by exact rfl) rfl (by kernel_rfl) (by kernel_rfl) (by kernel_rfl) (fun _ _ _ h => h) (Or.inl ⟨by rfl, ?_⟩) (by assumption) ?_
              · intro wq hS
                have c := (hS.cell (p := ⟨wr.heap.size, 0, none⟩) (World.block_lt_of_cell? _ _ y0)).trans y0
                go_simp
              simp only [Act.put, List.setIfInBounds_toArray, List.set_cons_zero, List.set_cons_succ]
              refine takeD 2 24 (.int .i64 id) (by exact rfl) rfl (by kernel_rfl) (by kernel_rfl) (by kernel_rfl) (fun _ _ _ h => h) (Or.inl ⟨by rfl, ?_⟩) (by assumption) ?_
              · intro wq hS
                go_simp
              simp only [Act.put, List.setIfInBounds_toArray, List.set_cons_zero, List.set_cons_succ]
              refine takeD 3 25 (.bool true) (by exact rfl) rfl (by kernel_rfl) (by kernel_rfl) (by kernel_rfl) (fun _ _ _ h => h) (Or.inl ⟨by rfl, ?_⟩) (by assumption) ?_
              · intro wq hS
                go_simp
              simp only [Act.put, List.setIfInBounds_toArray, List.set_cons_zero, List.set_cons_succ]
              refine takeD 4 26 (.bool true) (by exact rfl) rfl (by kernel_rfl) (by kernel_rfl) (by kernel_rfl) (fun _ _ _ h => h) (Or.inl ⟨by rfl, ?_⟩) (by assumption) ?_
              · intro wq hS
                go_simp
              simp only [Act.put, List.setIfInBounds_toArray, List.set_cons_zero, List.set_cons_succ]
              refine takeD 5 27 (.pointer (some ⟨wr.heap.size, 3, none⟩)) (by exact rfl) rfl (by kernel_rfl) (by kernel_rfl) (by kernel_rfl) (fun _ _ _ h => h) (Or.inl ⟨by rfl, ?_⟩) (by assumption) ?_
              · intro wq hS
                go_simp
              simp only [Act.put, List.setIfInBounds_toArray, List.set_cons_zero, List.set_cons_succ]
              refine takeD 6 28 (.int .i64 x.day) (by exact rfl) rfl (by kernel_rfl) (by kernel_rfl) (by kernel_rfl) (fun _ _ _ h => h) (Or.inl ⟨by rfl, ?_⟩) (by assumption) ?_
              · intro wq hS
                have c := (hS.cell (p := ⟨wr.heap.size, 3, none⟩) (World.block_lt_of_cell? _ _ y3)).trans y3
                go_simp
              simp only [Act.put, List.setIfInBounds_toArray, List.set_cons_zero, List.set_cons_succ]
              refine takeD 7 29 (.int .i64 day) (by exact rfl) rfl (by kernel_rfl) (by kernel_rfl) (by kernel_rfl) (fun _ _ _ h => h) (Or.inl ⟨by rfl, ?_⟩) (by assumption) ?_
              · intro wq hS
                go_simp
              simp only [Act.put, List.setIfInBounds_toArray, List.set_cons_zero, List.set_cons_succ]
              refine takeD 8 30 (.bool true) (by exact rfl) rfl (by kernel_rfl) (by kernel_rfl) (by kernel_rfl) (fun _ _ _ h => h) (Or.inl ⟨by rfl, ?_⟩) (by assumption) ?_
              · intro wq hS
                go_simp
              simp only [Act.put, List.setIfInBounds_toArray, List.set_cons_zero, List.set_cons_succ]
              refine takeD 9 31 (.bool true) (by exact rfl) rfl (by kernel_rfl) (by kernel_rfl) (by kernel_rfl) (fun _ _ _ h => h) (Or.inl ⟨by rfl, ?_⟩) (by assumption) ?_
              · intro wq hS
                go_simp
              simp only [Act.put, List.setIfInBounds_toArray, List.set_cons_zero, List.set_cons_succ]
              refine takeD 10 32 (.bool true) (by exact rfl) rfl (by kernel_rfl) (by kernel_rfl) (by kernel_rfl) (fun _ _ _ h => h) (Or.inl ⟨by rfl, ?_⟩) (by assumption) ?_
              · intro wq hS
                go_simp
              simp only [Act.put, List.setIfInBounds_toArray, List.set_cons_zero, List.set_cons_succ]
              refine takeD 11 33 (.int .i64 (j : Int)) (by exact rfl) rfl (by kernel_rfl) (by kernel_rfl) (by kernel_rfl) (fun _ _ _ h => h) (Or.inl ⟨by rfl, ?_⟩) (by assumption) ?_
              · intro wq hS
                go_simp
              simp only [Act.put, List.setIfInBounds_toArray, List.set_cons_zero, List.set_cons_succ]
              refine takeD 12 34 (.bool false) (by exact rfl) rfl (by kernel_rfl) (by kernel_rfl) (by kernel_rfl) (fun _ _ _ h => h) (Or.inl ⟨by rfl, ?_⟩) (by assumption) ?_
              · intro wq hS
                go_simp
              simp only [Act.put, List.setIfInBounds_toArray, List.set_cons_zero, List.set_cons_succ]
              refine takeD 13 35 (.bool false) (by exact rfl) rfl (by kernel_rfl) (by kernel_rfl) (by kernel_rfl) (fun _ _ _ h => h) (Or.inl ⟨by rfl, ?_⟩) (by assumption) ?_
              · intro wq hS
                go_simp
              simp only [Act.put, List.setIfInBounds_toArray, List.set_cons_zero, List.set_cons_succ]
              refine takeD 14 36 (.pointer (some ⟨wr.heap.size, 3, none⟩)) (by exact rfl) rfl (by kernel_rfl) (by kernel_rfl) (by kernel_rfl) (fun _ _ _ h => h) (Or.inl ⟨by rfl, ?_⟩) (by assumption) ?_
              · intro wq hS
                go_simp
              simp only [Act.put, List.setIfInBounds_toArray, List.set_cons_zero, List.set_cons_succ]
              refine takeD 15 37 (.int .i64 x.day) (by exact rfl) rfl (by kernel_rfl) (by kernel_rfl) (by kernel_rfl) (fun _ _ _ h => h) (Or.inl ⟨by rfl, ?_⟩) (by assumption) ?_
              · intro wq hS
                have c := (hS.cell (p := ⟨wr.heap.size, 3, none⟩) (World.block_lt_of_cell? _ _ y3)).trans y3
                go_simp
              simp only [Act.put, List.setIfInBounds_toArray, List.set_cons_zero, List.set_cons_succ]
              refine takeD 16 38 (.slice (some ⟨b, off, none⟩) n sc) (by exact rfl) rfl (by kernel_rfl) (by kernel_rfl) (by kernel_rfl) (fun _ _ _ h => h) (Or.inl ⟨by rfl, ?_⟩) (by assumption) ?_
              · intro wq hS
                go_simp
              simp only [Act.put, List.setIfInBounds_toArray, List.set_cons_zero, List.set_cons_succ]
              refine takeD 17 39 (.int .i64 (j : Int)) (by exact rfl) rfl (by kernel_rfl) (by kernel_rfl) (by kernel_rfl) (fun _ _ _ h => h) (Or.inl ⟨by rfl, ?_⟩) (by assumption) ?_
              · intro wq hS
                go_simp
              simp only [Act.put, List.setIfInBounds_toArray, List.set_cons_zero, List.set_cons_succ]
              refine takeD 18 40 (.pointer (some ⟨b, off + j * 9, none⟩)) (by exact rfl) rfl (by kernel_rfl) (by kernel_rfl) (by kernel_rfl) (fun _ _ _ h => h) (Or.inl ⟨by rfl, ?_⟩) (by assumption) ?_
              · intro wq hS
                go_simp
              simp only [Act.put, List.setIfInBounds_toArray, List.set_cons_zero, List.set_cons_succ]
              refine takeD 19 41 (.pointer (some ⟨b, off + j * 9 + 3, none⟩)) (by exact rfl) rfl (by kernel_rfl) (by kernel_rfl) (by kernel_rfl) (fun _ _ _ h => h) (Or.inl ⟨by rfl, ?_⟩) (by assumption) ?_
              · intro wq hS
                go_simp
              simp only [Act.put, List.setIfInBounds_toArray, List.set_cons_zero, List.set_cons_succ]
              refine takeD 20 42 (.int .i64 bj) (by exact rfl) rfl (by kernel_rfl) (by kernel_rfl) (by kernel_rfl) (fun _ _ _ h => h) (Or.inl ⟨by rfl, ?_⟩) (by assumption) ?_
              · intro wq hS
                have c := (hS.cell (p := ⟨b, off + j * 9 + 3, none⟩) (World.block_lt_of_cell? _ _ c3)).trans c3
                go_simp
              simp only [Act.put, List.setIfInBounds_toArray, List.set_cons_zero, List.set_cons_succ]
              refine takeD 21 43 (.bool true) (by exact rfl) rfl (by kernel_rfl) (by kernel_rfl) (by kernel_rfl) (fun _ _ _ h => h) (Or.inl ⟨by rfl, ?_⟩) (by assumption) ?_
              · intro wq hS
                go_simp
              simp only [Act.put, List.setIfInBounds_toArray, List.set_cons_zero, List.set_cons_succ]
              refine takeD 22 44 (.bool true) (by exact rfl) rfl (by kernel_rfl) (by kernel_rfl) (by kernel_rfl) (fun _ _ _ h => h) (Or.inl ⟨by rfl, ?_⟩) (by assumption) ?_
              · intro wq hS
                go_simp
              simp only [Act.put, List.setIfInBounds_toArray, List.set_cons_zero, List.set_cons_succ]
              refine takeD 23 45 (.bool true) (by exact rfl) rfl (by kernel_rfl) (by kernel_rfl) (by kernel_rfl) (fun _ _ _ h => h) (Or.inl ⟨by rfl, ?_⟩) (by assumption) ?_
              · intro wq hS
                go_simp
              simp only [Act.put, List.setIfInBounds_toArray, List.set_cons_zero, List.set_cons_succ]
              refine wpAnyH_done (by kernel_rfl) ?_ _
              refine NoPanic.normal ?_
              go_wp2_with fail
              exact ⟨⟨k + 1, k, by omega, by go_num, rfl, NEW.out, D5.out.drew⟩, by simp [intOf]; omega⟩
          · have OLD : Hid (HoldAt xs id day (k + 1) z) := by
              have h1 := HHS.out
              rw [if_neg (fun e => t2 e.2)] at h1
              rcases HH.out with ⟨h2, h3⟩ | ⟨j, hj, hjk, h2, h3, hf⟩
              · exact Or.inl ⟨by rw [h1, h2], h3⟩
              · exact Or.inr ⟨j, hj, by omega, by rw [h1, h2], h3, hf⟩
            refine wp_region_noPanic ?_
            refine wp_region_held_drew (S := fun w' => Below w5.heap.size w5 w') (by kernel_rfl) ((Below.refl _ _).drew) (fun hHeld => ?_)
            refine takeD 0 22 (.pointer (some ⟨wr.heap.size, 0, none⟩)) (by exact rfl) rfl (by kernel_rfl) (by kernel_rfl) (by kernel_rfl) (fun _ _ _ h => h) (Or.inl ⟨by rfl, ?_⟩) (by assumption) ?_
            · intro wq hS
              go_simp
            simp only [Act.put, List.setIfInBounds_toArray, List.set_cons_zero, List.set_cons_succ]
            refine takeD 1 23 (.int .i64 x.id) (by exact rfl) rfl (by kernel_rfl) (by kernel_rfl) (by kernel_rfl) (fun _ _ _ h => h) (Or.inl ⟨by rfl, ?_⟩) (by assumption) ?_
            · intro wq hS
              have c := (hS.cell (p := ⟨wr.heap.size, 0, none⟩) (World.block_lt_of_cell? _ _ y0)).trans y0
              go_simp
            simp only [Act.put, List.setIfInBounds_toArray, List.set_cons_zero, List.set_cons_succ]
            refine takeD 2 24 (.int .i64 id) (by exact rfl) rfl (by kernel_rfl) (by kernel_rfl) (by kernel_rfl) (fun _ _ _ h => h) (Or.inl ⟨by rfl, ?_⟩) (by assumption) ?_
            · intro wq hS
              go_simp
            simp only [Act.put, List.setIfInBounds_toArray, List.set_cons_zero, List.set_cons_succ]
            refine takeD 3 25 (.bool true) (by exact rfl) rfl (by kernel_rfl) (by kernel_rfl) (by kernel_rfl) (fun _ _ _ h => h) (Or.inl ⟨by rfl, ?_⟩) (by assumption) ?_
            · intro wq hS
              go_simp
            simp only [Act.put, List.setIfInBounds_toArray, List.set_cons_zero, List.set_cons_succ]
            refine takeD 4 26 (.bool true) (by exact rfl) rfl (by kernel_rfl) (by kernel_rfl) (by kernel_rfl) (fun _ _ _ h => h) (Or.inl ⟨by rfl, ?_⟩) (by assumption) ?_
            · intro wq hS
              go_simp
            simp only [Act.put, List.setIfInBounds_toArray, List.set_cons_zero, List.set_cons_succ]
            refine takeD 5 27 (.pointer (some ⟨wr.heap.size, 3, none⟩)) (by exact rfl) rfl (by kernel_rfl) (by kernel_rfl) (by kernel_rfl) (fun _ _ _ h => h) (Or.inl ⟨by rfl, ?_⟩) (by assumption) ?_
            · intro wq hS
              go_simp
            simp only [Act.put, List.setIfInBounds_toArray, List.set_cons_zero, List.set_cons_succ]
            refine takeD 6 28 (.int .i64 x.day) (by exact rfl) rfl (by kernel_rfl) (by kernel_rfl) (by kernel_rfl) (fun _ _ _ h => h) (Or.inl ⟨by rfl, ?_⟩) (by assumption) ?_
            · intro wq hS
              have c := (hS.cell (p := ⟨wr.heap.size, 3, none⟩) (World.block_lt_of_cell? _ _ y3)).trans y3
              go_simp
            simp only [Act.put, List.setIfInBounds_toArray, List.set_cons_zero, List.set_cons_succ]
            refine takeD 7 29 (.int .i64 day) (by exact rfl) rfl (by kernel_rfl) (by kernel_rfl) (by kernel_rfl) (fun _ _ _ h => h) (Or.inl ⟨by rfl, ?_⟩) (by assumption) ?_
            · intro wq hS
              go_simp
            simp only [Act.put, List.setIfInBounds_toArray, List.set_cons_zero, List.set_cons_succ]
            refine takeD 8 30 (.bool false) (by exact rfl) rfl (by kernel_rfl) (by kernel_rfl) (by kernel_rfl) (fun _ _ _ h => h) (Or.inl ⟨by rfl, ?_⟩) (by assumption) ?_
            · intro wq hS
              go_simp
            simp only [Act.put, List.setIfInBounds_toArray, List.set_cons_zero, List.set_cons_succ]
            refine takeD 9 31 (.bool false) (by exact rfl) rfl (by kernel_rfl) (by kernel_rfl) (by kernel_rfl) (fun _ _ _ h => h) (Or.inl ⟨by rfl, ?_⟩) (by assumption) ?_
            · intro wq hS
              go_simp
            simp only [Act.put, List.setIfInBounds_toArray, List.set_cons_zero, List.set_cons_succ]
            refine takeD 10 32 (.bool false) (by exact rfl) rfl (by kernel_rfl) (by kernel_rfl) (by kernel_rfl) (fun _ _ _ h => h) (Or.inl ⟨by rfl, ?_⟩) (by assumption) ?_
            · intro wq hS
              go_simp
            simp only [Act.put, List.setIfInBounds_toArray, List.set_cons_zero, List.set_cons_succ]
            refine takeD 11 33 undef (by exact rfl) rfl (by kernel_rfl) (by kernel_rfl) (by kernel_rfl) (fun _ _ _ h => h) (Or.inr ⟨by rfl, rfl⟩) (by assumption) ?_
            simp only [Act.put, List.setIfInBounds_toArray, List.set_cons_zero, List.set_cons_succ]
            refine takeD 12 34 undef (by exact rfl) rfl (by kernel_rfl) (by kernel_rfl) (by kernel_rfl) (fun _ _ _ h => h) (Or.inr ⟨by rfl, rfl⟩) (by assumption) ?_
            simp only [Act.put, List.setIfInBounds_toArray, List.set_cons_zero, List.set_cons_succ]
            refine takeD 13 35 undef (by exact rfl) rfl (by kernel_rfl) (by kernel_rfl) (by kernel_rfl) (fun _ _ _ h => h) (Or.inr ⟨by rfl, rfl⟩) (by assumption) ?_
            simp only [Act.put, List.setIfInBounds_toArray, List.set_cons_zero, List.set_cons_succ]
            refine takeD 14 36 undef (by exact rfl) rfl (by kernel_rfl) (by kernel_rfl) (by kernel_rfl) (fun _ _ _ h => h) (Or.inr ⟨by rfl, rfl⟩) (by assumption) ?_
            simp only [Act.put, List.setIfInBounds_toArray, List.set_cons_zero, List.set_cons_succ]
            refine takeD 15 37 undef (by exact rfl) rfl (by kernel_rfl) (by kernel_rfl) (by kernel_rfl) (fun _ _ _ h => h) (Or.inr ⟨by rfl, rfl⟩) (by assumption) ?_
            simp only [Act.put, List.setIfInBounds_toArray, List.set_cons_zero, List.set_cons_succ]
            refine takeD 16 38 undef (by exact rfl) rfl (by kernel_rfl) (by kernel_rfl) (by kernel_rfl) (fun _ _ _ h => h) (Or.inr ⟨by rfl, rfl⟩) (by assumption) ?_
            simp only [Act.put, List.setIfInBounds_toArray, List.set_cons_zero, List.set_cons_succ]
            refine takeD 17 39 undef (by exact rfl) rfl (by kernel_rfl) (by kernel_rfl) (by kernel_rfl) (fun _ _ _ h => h) (Or.inr ⟨by rfl, rfl⟩) (by assumption) ?_
            simp only [Act.put, List.setIfInBounds_toArray, List.set_cons_zero, List.set_cons_succ]
            refine takeD 18 40 undef (by exact rfl) rfl (by kernel_rfl) (by kernel_rfl) (by kernel_rfl) (fun _ _ _ h => h) (Or.inr ⟨by rfl, rfl⟩) (by assumption) ?_
            simp only [Act.put, List.setIfInBounds_toArray, List.set_cons_zero, List.set_cons_succ]
            refine takeD 19 41 undef (by exact rfl) rfl (by kernel_rfl) (by kernel_rfl) (by kernel_rfl) (fun _ _ _ h => h) (Or.inr ⟨by rfl, rfl⟩) (by assumption) ?_
            simp only [Act.put, List.setIfInBounds_toArray, List.set_cons_zero, List.set_cons_succ]
            refine takeD 20 42 undef (by exact rfl) rfl (by kernel_rfl) (by kernel_rfl) (by kernel_rfl) (fun _ _ _ h => h) (Or.inr ⟨by rfl, rfl⟩) (by assumption) ?_
            simp only [Act.put, List.setIfInBounds_toArray, List.set_cons_zero, List.set_cons_succ]
            refine takeD 21 43 undef (by exact rfl) rfl (by kernel_rfl) (by kernel_rfl) (by kernel_rfl) (fun _ _ _ h => h) (Or.inr ⟨by rfl, rfl⟩) (by assumption) ?_
            simp only [Act.put, List.setIfInBounds_toArray, List.set_cons_zero, List.set_cons_succ]
            refine takeD 22 44 undef (by exact rfl) rfl (by kernel_rfl) (by kernel_rfl) (by kernel_rfl) (fun _ _ _ h => h) (Or.inr ⟨by rfl, rfl⟩) (by assumption) ?_
            simp only [Act.put, List.setIfInBounds_toArray, List.set_cons_zero, List.set_cons_succ]
            refine takeD 23 45 (.bool false) (by exact rfl) rfl (by kernel_rfl) (by kernel_rfl) (by kernel_rfl) (fun _ _ _ h => h) (Or.inl ⟨by rfl, ?_⟩) (by assumption) ?_
            · intro wq hS
              go_simp
            simp only [Act.put, List.setIfInBounds_toArray, List.set_cons_zero, List.set_cons_succ]
            refine wpAnyH_done (by kernel_rfl) ?_ _
            refine NoPanic.normal ?_
            go_wp2_with fail
            exact ⟨⟨k + 1, z, by omega, by go_num, rfl, OLD.out, D5.out.drew⟩, by simp [intOf]; omega⟩
        · have e1 : (x.id == id) = false := by simpa using t1
          have OLD : Hid (HoldAt xs id day (k + 1) z) := by
            have h1 := HHS.out
            rw [if_neg (fun e => t1 e.1)] at h1
            rcases HH.out with ⟨h2, h3⟩ | ⟨j, hj, hjk, h2, h3, hf⟩
            · exact Or.inl ⟨by rw [h1, h2], h3⟩
            · exact Or.inr ⟨j, hj, by omega, by rw [h1, h2], h3, hf⟩
          refine wp_region_noPanic ?_
          refine wp_region_held_drew (S := fun w' => Below w5.heap.size w5 w') (by kernel_rfl) ((Below.refl _ _).drew) (fun hHeld => ?_)
          refine takeD 0 22 (.pointer (some ⟨wr.heap.size, 0, none⟩)) (by exact rfl) rfl (by kernel_rfl) (by kernel_rfl) (by kernel_rfl) (fun _ _ _ h => h) (Or.inl ⟨by rfl, ?_⟩) (by assumption) ?_
          · intro wq hS
            go_simp
          simp only [Act.put, List.setIfInBounds_toArray, List.set_cons_zero, List.set_cons_succ]
          refine takeD 1 23 (.int .i64 x.id) (by exact rfl) rfl (by kernel_rfl) (by kernel_rfl) (by kernel_rfl) (fun _ _ _ h => h) (Or.inl ⟨by rfl, ?_⟩) (by assumption) ?_
          · intro wq hS
            have c := (hS.cell (p := ⟨wr.heap.size, 0, none⟩) (World.block_lt_of_cell? _ _ y0)).trans y0
            go_simp
          simp only [Act.put, List.setIfInBounds_toArray, List.set_cons_zero, List.set_cons_succ]
          refine takeD 2 24 (.int .i64 id) (by exact rfl) rfl (by kernel_rfl) (by kernel_rfl) (by kernel_rfl) (fun _ _ _ h => h) (Or.inl ⟨by rfl, ?_⟩) (by assumption) ?_
          · intro wq hS
            go_simp
          simp only [Act.put, List.setIfInBounds_toArray, List.set_cons_zero, List.set_cons_succ]
          refine takeD 3 25 (.bool false) (by exact rfl) rfl (by kernel_rfl) (by kernel_rfl) (by kernel_rfl) (fun _ _ _ h => h) (Or.inl ⟨by rfl, ?_⟩) (by assumption) ?_
          · intro wq hS
            go_simp
          simp only [Act.put, List.setIfInBounds_toArray, List.set_cons_zero, List.set_cons_succ]
          refine takeD 4 26 (.bool false) (by exact rfl) rfl (by kernel_rfl) (by kernel_rfl) (by kernel_rfl) (fun _ _ _ h => h) (Or.inl ⟨by rfl, ?_⟩) (by assumption) ?_
          · intro wq hS
            go_simp
          simp only [Act.put, List.setIfInBounds_toArray, List.set_cons_zero, List.set_cons_succ]
          refine takeD 5 27 undef (by exact rfl) rfl (by kernel_rfl) (by kernel_rfl) (by kernel_rfl) (fun _ _ _ h => h) (Or.inr ⟨by rfl, rfl⟩) (by assumption) ?_
          simp only [Act.put, List.setIfInBounds_toArray, List.set_cons_zero, List.set_cons_succ]
          refine takeD 6 28 undef (by exact rfl) rfl (by kernel_rfl) (by kernel_rfl) (by kernel_rfl) (fun _ _ _ h => h) (Or.inr ⟨by rfl, rfl⟩) (by assumption) ?_
          simp only [Act.put, List.setIfInBounds_toArray, List.set_cons_zero, List.set_cons_succ]
          refine takeD 7 29 undef (by exact rfl) rfl (by kernel_rfl) (by kernel_rfl) (by kernel_rfl) (fun _ _ _ h => h) (Or.inr ⟨by rfl, rfl⟩) (by assumption) ?_
          simp only [Act.put, List.setIfInBounds_toArray, List.set_cons_zero, List.set_cons_succ]
          refine takeD 8 30 undef (by exact rfl) rfl (by kernel_rfl) (by kernel_rfl) (by kernel_rfl) (fun _ _ _ h => h) (Or.inr ⟨by rfl, rfl⟩) (by assumption) ?_
          simp only [Act.put, List.setIfInBounds_toArray, List.set_cons_zero, List.set_cons_succ]
          refine takeD 9 31 (.bool false) (by exact rfl) rfl (by kernel_rfl) (by kernel_rfl) (by kernel_rfl) (fun _ _ _ h => h) (Or.inl ⟨by rfl, ?_⟩) (by assumption) ?_
          · intro wq hS
            go_simp
          simp only [Act.put, List.setIfInBounds_toArray, List.set_cons_zero, List.set_cons_succ]
          refine takeD 10 32 (.bool false) (by exact rfl) rfl (by kernel_rfl) (by kernel_rfl) (by kernel_rfl) (fun _ _ _ h => h) (Or.inl ⟨by rfl, ?_⟩) (by assumption) ?_
          · intro wq hS
            go_simp
          simp only [Act.put, List.setIfInBounds_toArray, List.set_cons_zero, List.set_cons_succ]
          refine takeD 11 33 undef (by exact rfl) rfl (by kernel_rfl) (by kernel_rfl) (by kernel_rfl) (fun _ _ _ h => h) (Or.inr ⟨by rfl, rfl⟩) (by assumption) ?_
          simp only [Act.put, List.setIfInBounds_toArray, List.set_cons_zero, List.set_cons_succ]
          refine takeD 12 34 undef (by exact rfl) rfl (by kernel_rfl) (by kernel_rfl) (by kernel_rfl) (fun _ _ _ h => h) (Or.inr ⟨by rfl, rfl⟩) (by assumption) ?_
          simp only [Act.put, List.setIfInBounds_toArray, List.set_cons_zero, List.set_cons_succ]
          refine takeD 13 35 undef (by exact rfl) rfl (by kernel_rfl) (by kernel_rfl) (by kernel_rfl) (fun _ _ _ h => h) (Or.inr ⟨by rfl, rfl⟩) (by assumption) ?_
          simp only [Act.put, List.setIfInBounds_toArray, List.set_cons_zero, List.set_cons_succ]
          refine takeD 14 36 undef (by exact rfl) rfl (by kernel_rfl) (by kernel_rfl) (by kernel_rfl) (fun _ _ _ h => h) (Or.inr ⟨by rfl, rfl⟩) (by assumption) ?_
          simp only [Act.put, List.setIfInBounds_toArray, List.set_cons_zero, List.set_cons_succ]
          refine takeD 15 37 undef (by exact rfl) rfl (by kernel_rfl) (by kernel_rfl) (by kernel_rfl) (fun _ _ _ h => h) (Or.inr ⟨by rfl, rfl⟩) (by assumption) ?_
          simp only [Act.put, List.setIfInBounds_toArray, List.set_cons_zero, List.set_cons_succ]
          refine takeD 16 38 undef (by exact rfl) rfl (by kernel_rfl) (by kernel_rfl) (by kernel_rfl) (fun _ _ _ h => h) (Or.inr ⟨by rfl, rfl⟩) (by assumption) ?_
          simp only [Act.put, List.setIfInBounds_toArray, List.set_cons_zero, List.set_cons_succ]
          refine takeD 17 39 undef (by exact rfl) rfl (by kernel_rfl) (by kernel_rfl) (by kernel_rfl) (fun _ _ _ h => h) (Or.inr ⟨by rfl, rfl⟩) (by assumption) ?_
          simp only [Act.put, List.setIfInBounds_toArray, List.set_cons_zero, List.set_cons_succ]
          refine takeD 18 40 undef (by exact rfl) rfl (by kernel_rfl) (by kernel_rfl) (by kernel_rfl) (fun _ _ _ h => h) (Or.inr ⟨by rfl, rfl⟩) (by assumption) ?_
          simp only [Act.put, List.setIfInBounds_toArray, List.set_cons_zero, List.set_cons_succ]
          refine takeD 19 41 undef (by exact rfl) rfl (by kernel_rfl) (by kernel_rfl) (by kernel_rfl) (fun _ _ _ h => h) (Or.inr ⟨by rfl, rfl⟩) (by assumption) ?_
          simp only [Act.put, List.setIfInBounds_toArray, List.set_cons_zero, List.set_cons_succ]
          refine takeD 20 42 undef (by exact rfl) rfl (by kernel_rfl) (by kernel_rfl) (by kernel_rfl) (fun _ _ _ h => h) (Or.inr ⟨by rfl, rfl⟩) (by assumption) ?_
          simp only [Act.put, List.setIfInBounds_toArray, List.set_cons_zero, List.set_cons_succ]
          refine takeD 21 43 undef (by exact rfl) rfl (by kernel_rfl) (by kernel_rfl) (by kernel_rfl) (fun _ _ _ h => h) (Or.inr ⟨by rfl, rfl⟩) (by assumption) ?_
          simp only [Act.put, List.setIfInBounds_toArray, List.set_cons_zero, List.set_cons_succ]
          refine takeD 22 44 undef (by exact rfl) rfl (by kernel_rfl) (by kernel_rfl) (by kernel_rfl) (fun _ _ _ h => h) (Or.inr ⟨by rfl, rfl⟩) (by assumption) ?_
          simp only [Act.put, List.setIfInBounds_toArray, List.set_cons_zero, List.set_cons_succ]
          refine takeD 23 45 (.bool false) (by exact rfl) rfl (by kernel_rfl) (by kernel_rfl) (by kernel_rfl) (fun _ _ _ h => h) (Or.inl ⟨by rfl, ?_⟩) (by assumption) ?_
          · intro wq hS
            go_simp
          simp only [Act.put, List.setIfInBounds_toArray, List.set_cons_zero, List.set_cons_succ]
          refine wpAnyH_done (by kernel_rfl) ?_ _
          refine NoPanic.normal ?_
          go_wp2_with fail
          exact ⟨⟨k + 1, z, by omega, by go_num, rfl, OLD.out, D5.out.drew⟩, by simp [intOf]; omega⟩
end Go.Proofs.Ytgbphbeafomabaa
