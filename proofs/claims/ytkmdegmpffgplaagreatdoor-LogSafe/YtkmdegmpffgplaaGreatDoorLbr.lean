/- log XLIV: LogSafe: the disk's states, and what an Append leaves of them. -/
import Derived.Test.YtkmdegmpffgplaaGreatDoorLbq
import Derived.Test.YtkmdegmpffgplaaGreatDoorLbm
namespace Go.Proofs.YtkmdegmpffgplaaGreatDoor
open Go.RowKit Go.Maps Go.Sort Go.Shelf pk
set_option linter.unusedVariables false
set_option linter.unusedSimpArgs false
/-- a disk that is off: what stands on it when it is on again -/
def Rdy (x : AD) (K : Nat) (rs : List Rc) (ur : Option Rc) : Prop := ∃ M, ∀ (dn : Bool) (ks : List Bool) (ns : List (List UInt8)), ns.Perm (nms (doUnd x dn)) → ∃ T', SF (stl ks ns (doUnd x dn)).1 K rs M T' ∧ Syn (stl ks ns (doUnd x dn)).1 M ∧ totA (stl ks ns (doUnd x dn)).1 ≤ totA x.fs ∧ (Bad (1 + rs.length) T' ∨ ∃ r, ur = some r ∧ T' = secL (1 + rs.length) r.1 r.2)
/-- bounds behind t calls -/
structure Few (x : AD) (t : Nat) : Prop where
  room : x.room = 20000
  ops : x.ops ≤ 10 * t
  left : x.left ≤ 6
  tot : totA x.fs ≤ 14 * t
theorem Few.up {x : AD} {t : Nat} (h : Few x t) : Few x (t + 1) := ⟨h.room, by have := h.ops; omega, h.left, by have := h.tot; omega⟩
theorem nms_doOp (o : POp) (ho : o.k = 1 ∨ o.k = 2) (fs : FS) : nms (doOp o fs) = nms fs ∧ totA (doOp o fs) ≤ totA fs := by
  obtain ⟨k, a, b, n⟩ := o
  rcases ho with rfl | rfl
  · rw [sync_fs]
    exact ⟨nms_map _ _ (fun t => by split <;> rfl), tot_map_le _ _ (fun t => by split <;> exact Nat.le_refl _)⟩
  · rw [trunc_fs]
    refine ⟨nms_map _ _ (fun t => by split <;> rfl), tot_map_le _ _ (fun t => ?_)⟩
    split
    · show (t.2.1.take n).length ≤ _
      rw [List.length_take]
      exact Nat.min_le_right _ _
    · exact Nat.le_refl _
theorem doUnd_none {x : AD} (h : x.und = none) (dn : Bool) : doUnd x dn = x.fs := by unfold doUnd; rw [h]; cases dn <;> rfl
theorem doUnd_some {x : AD} {o : POp} (h : x.und = some o) (dn : Bool) : doUnd x dn = if dn then doOp o x.fs else x.fs := by unfold doUnd; rw [h]
theorem rdy_torn {K : Nat} {rs : List Rc} {x : AD} (r : Rc) (hr : r.1.length ≤ 4096 ∧ r.2.length = 32) (hS : SF x.fs K rs (rs.length / K + 1) (secL (1 + rs.length) r.1 r.2)) (hnd : (nms x.fs).Nodup) (hu : x.und = none ∨ x.und = some ⟨1, nmS (rs.length / K), [], 0⟩) : Rdy x K rs (some r) := by
  refine ⟨rs.length / K + 1, fun dn ks ns hp => ?_⟩
  have hD : SF (doUnd x dn) K rs (rs.length / K + 1) (secL (1 + rs.length) r.1 r.2) ∧ (nms (doUnd x dn)).Nodup ∧ totA (doUnd x dn) ≤ totA x.fs := by
    rcases hu with hu | hu
    · rw [doUnd_none hu]
      exact ⟨hS, hnd, Nat.le_refl _⟩
    · rw [doUnd_some hu]
      have e := nms_doOp ⟨1, nmS (rs.length / K), [], 0⟩ (Or.inl rfl) x.fs
      cases dn with
      | false => exact ⟨hS, hnd, Nat.le_refl _⟩
      | true => exact ⟨(sf_sync hS).1, by rw [if_pos rfl, e.1]; exact hnd, e.2⟩
  generalize doUnd x dn = fs at *
  obtain ⟨ss, ss', h1, h2, h3, h4, h5, _⟩ := restart_sf (ks := ks) hD.1 hp hD.2.1
  refine ⟨_, h4, h5, Nat.le_trans (tot_stl ks ns fs hD.2.1) hD.2.2, ?_⟩
  rcases torn_or hr.2 hr.1 h1 h2 h3 with h6 | h6
  · exact Or.inr ⟨r, rfl, h6⟩
  · exact Or.inl h6.1
theorem rdy_cut {K : Nat} {rs : List Rc} {x : AD} {M : Nat} {T : List Nat} (hS : SF x.fs K rs M T) (hs : Syn x.fs M) (hb : Bad (1 + rs.length) T) (hnd : (nms x.fs).Nodup) (hu : x.und = some ⟨2, nmS (M - 1), [], (segB ((M - 1) * K + 1) (sgt K rs (M - 1))).length / 32⟩) : Rdy x K rs none := by
  refine ⟨M, fun dn ks ns hp => ?_⟩
  rw [doUnd_some hu] at hp ⊢
  have e := nms_doOp ⟨2, nmS (M - 1), [], (segB ((M - 1) * K + 1) (sgt K rs (M - 1))).length / 32⟩ (Or.inr rfl) x.fs
  cases dn with
  | false =>
    obtain ⟨ss, ss', h1, h2, h3, h4, h5, h6⟩ := restart_sf (ks := ks) hS hp hnd
    refine ⟨_, h4, h5, tot_stl ks ns x.fs hnd, Or.inl ?_⟩
    rw [h6 hs, ← h1]
    exact hb
  | true =>
    have hC := sf_cut hS hs
    rw [if_pos rfl] at hp ⊢
    obtain ⟨ss, ss', h1, h2, h3, h4, h5, h6⟩ := restart_sf (ks := ks) hC hp (by rw [e.1]; exact hnd)
    refine ⟨_, h4, h5, Nat.le_trans (tot_stl ks ns _ (by rw [e.1]; exact hnd)) e.2, Or.inl (Or.inl ?_)⟩
    have h7 := congrArg List.length h1
    rw [flat_len] at h7
    have h8 : 0 = 32 * ss.length := h7
    refine List.eq_nil_of_length_eq_zero ?_
    rw [flat_len, h2]
    exact h8.symm
/-- a record is written on a disk that is armed -/
theorem safe_wr {x : AD} {K : Nat} {rs : List Rc} {M t : Nat} (hK : 1 ≤ K) (hon : x.on = true) (hu : x.und = none) (hS : SF x.fs K rs M []) (hF : Few x t) (ht : t ≤ 80) (hnd : (nms x.fs).Nodup) (hq : rs.length / K + 1 ≤ 60) (r : Rc) (h2 : r.2.length = 32) (hl : r.1.length ≤ 300) (g : LG) (hg1 : sgm g = rs.length / K) (hg2 : g.next = 1 + rs.length)
    (hnd2 : (nms (wrL x g r.1 r.2).2.1.fs).Nodup) :
    Few (wrL x g r.1 r.2).2.1 (t + 1) ∧ (((wrL x g r.1 r.2).1 = 0 ∧ (wrL x g r.1 r.2).2.1.on = true ∧ (wrL x g r.1 r.2).2.1.und = none ∧ SF (wrL x g r.1 r.2).2.1.fs K (rs ++ [r]) (rs.length / K + 1) []) ∨
      ((wrL x g r.1 r.2).1 = 18 ∧ (wrL x g r.1 r.2).2.1.on = false ∧ Rdy (wrL x g r.1 r.2).2.1 K rs (some r))) := by
  obtain ⟨R, o, lft, on, und, fs⟩ := x
  dsimp only at hon hu hS hnd
  subst hon hu
  have hR : R = 20000 := hF.room
  have ho : o ≤ 10 * t := hF.ops
  have hlf : lft ≤ 6 := hF.left
  have htt : totA fs ≤ 14 * t := hF.tot
  have hc : cnt (secL (1 + rs.length) r.1 r.2).length = cn4 (r.1.length + 36) := cnt_sec _ _ _ h2
  have hc14 : cn4 (r.1.length + 36) ≤ 14 := by unfold cn4; omega
  have hfl : fs.length < 64 := by have h3 := sf_len hS hnd; have h4 := hS.top; omega
  have hfit : fitA R fs (nmS (rs.length / K)) (cnt (secL (1 + rs.length) r.1 r.2).length) = true := by
    have h3 := room_iff (R := R) (fs := fs) (per := K) (lo := 0) (rs := rs) (pl := r.1) hfl
    unfold room at h3
    rw [Nat.zero_add] at h3
    rw [hc, h3]
    exact decide_eq_true (by omega)
  have hT := sf_torn r hK hS (by omega)
  have hY := sf_sync hT
  have hW := sf_whole hK hY.1 hY.2
  have htot : totA (apd fs (nmS (rs.length / K)) (parts (secL (1 + rs.length) r.1 r.2))) ≤ 14 * (t + 1) := by
    rw [tot_apd, parts_len, hc]
    omega
  have hlk : (lk (apd fs (nmS (rs.length / K)) (parts (secL (1 + rs.length) r.1 r.2))) (nmS (rs.length / K))).isSome = true := by rw [lk_apd_same]; rfl
  have e1 : wl1 ⟨R, o, lft, true, none, fs⟩ g r.1 r.2 = (if decide (lft ≠ 1) = true then 0 else 18, ⟨R, o + 1, lft - 1, decide (lft ≠ 1), none, apd fs (nmS (rs.length / K)) (parts (secL (1 + rs.length) r.1 r.2))⟩) := by
    unfold wl1
    rw [hg1, hg2]
    unfold apnd
    rw [if_neg (by rw [nmS_is]; simp), if_neg (by dsimp only; rw [hfit]; simp), if_neg (by simp)]
    rfl
  have hsy := nms_doOp ⟨1, nmS (rs.length / K), [], 0⟩ (Or.inl rfl) (apd fs (nmS (rs.length / K)) (parts (secL (1 + rs.length) r.1 r.2)))
  generalize apd fs (nmS (rs.length / K)) (parts (secL (1 + rs.length) r.1 r.2)) = fa at *
  have e2 : wl2 ⟨R, o + 1, lft - 1, true, none, fa⟩ g = (if decide (lft - 1 ≠ 1) = true then 0 else 18, if decide (lft - 1 ≠ 1) = true then ⟨R, o + 1 + 1, lft - 1 - 1, true, none, doOp ⟨1, nmS (rs.length / K), [], 0⟩ fa⟩ else ⟨R, o + 1 + 1, lft - 1 - 1, false, some ⟨1, nmS (rs.length / K), [], 0⟩, fa⟩) := by
    unfold wl2
    rw [hg1]
    unfold oper
    rw [if_neg (by dsimp only; rw [nmS_is]; simp), if_neg (by dsimp only; cases h : lk fa (nmS (rs.length / K)) with | none => rw [h] at hlk; cases hlk | some _ => simp), if_neg (by simp)]
    unfold begA
    dsimp only
    by_cases h3 : lft - 1 = 1
    · rw [if_neg (by simp [h3]), if_neg (by simp [h3]), if_neg (by simp [h3])]
      simp [h3]
    · rw [if_pos (by simp [h3]), if_pos (by simp [h3]), if_pos (by simp [h3])]
      simp [h3]
  by_cases h1 : lft = 1
  · rw [if_neg (by simp [h1])] at e1
    have hw : wrL ⟨R, o, lft, true, none, fs⟩ g r.1 r.2 = (18, ⟨R, o + 1, lft - 1, decide (lft ≠ 1), none, fa⟩, g) := by
      unfold wrL
      rw [if_pos (by rw [e1]; show (18 : Nat) ≠ 0; omega), e1]
    rw [hw] at hnd2 ⊢
    exact ⟨⟨hR, by dsimp only; omega, by dsimp only; omega, htot⟩, Or.inr ⟨rfl, decide_eq_false (by omega), rdy_torn r ⟨by omega, h2⟩ hT hnd2 (Or.inl rfl)⟩⟩
  · rw [if_pos (by simp [h1]), decide_eq_true h1] at e1
    by_cases h3 : lft - 1 = 1
    · rw [if_neg (by simp [h3]), if_neg (by simp [h3])] at e2
      have hw : wrL ⟨R, o, lft, true, none, fs⟩ g r.1 r.2 = (18, ⟨R, o + 1 + 1, lft - 1 - 1, false, some ⟨1, nmS (rs.length / K), [], 0⟩, fa⟩, g) := by
        unfold wrL
        rw [if_neg (by rw [e1]; simp), e1]
        dsimp only
        rw [if_pos (by rw [e2]; show (18 : Nat) ≠ 0; omega), e2]
      rw [hw] at hnd2 ⊢
      exact ⟨⟨hR, by dsimp only; omega, by dsimp only; omega, htot⟩, Or.inr ⟨rfl, rfl, rdy_torn r ⟨by omega, h2⟩ hT hnd2 (Or.inr rfl)⟩⟩
    · rw [if_pos (by simp [h3]), if_pos (by simp [h3])] at e2
      have hw : wrL ⟨R, o, lft, true, none, fs⟩ g r.1 r.2 = (0, ⟨R, o + 1 + 1, lft - 1 - 1, true, none, doOp ⟨1, nmS (rs.length / K), [], 0⟩ fa⟩, { g with high := sgm g }) := by
        unfold wrL
        rw [if_neg (by rw [e1]; simp), e1]
        dsimp only
        rw [if_neg (by rw [e2]; simp), e2]
      rw [hw]
      exact ⟨⟨hR, by dsimp only; omega, by dsimp only; omega, Nat.le_trans hsy.2 htot⟩, Or.inl ⟨rfl, rfl, rfl, hW⟩⟩
end Go.Proofs.YtkmdegmpffgplaaGreatDoor
/- log XLV: LogSafe: Append and Open on a disk that is armed. -/
namespace Go.Proofs.YtkmdegmpffgplaaGreatDoor
open Go.RowKit Go.Maps Go.Sort Go.Shelf pk
set_option linter.unusedVariables false
set_option linter.unusedSimpArgs false
theorem hi_self (g : LG) : g.hi g.high = g := rfl
theorem hi_sgm (g : LG) (h : Nat) : sgm (g.hi h) = sgm g := rfl
theorem hi_next (g : LG) (h : Nat) : (g.hi h).next = g.next := rfl
theorem hi_rec (g : LG) (h : Nat) (xs : List Nat) : ({ g.hi h with high := sgm (g.hi h), last := xs, next := (g.hi h).next + 1 } : LG) = { g with high := sgm g, last := xs, next := g.next + 1 } := rfl
theorem gst_high (per lo : Nat) (rs : List Rc) (l0 : List Nat) : (gst per lo rs l0).high = lo + (rs.length - 1) / per := rfl
/-- a log on a disk that is armed: records rs, t calls are behind -/
structure Sfe (x : AD) (K : Nat) (rs : List Rc) (t : Nat) : Prop where
  few : Few x t
  lks : Lks K 0 rs
  rok : ∀ r ∈ rs, Rok r
  per : 1 ≤ K ∧ K ≤ 7
  cnt : rs.length / K + 1 ≤ 60
  len : rs.length ≤ t
  t : t ≤ 80
set_option maxHeartbeats 1000000 in
theorem safe_append (w : World) (B p m lp : Nat) (x : AD) (K M t h : Nat) (rs : List Rc) (l0 : List Nat) (hl0 : l0.length = 32 ∧ By l0) (hd : DA w B p m x) (hon : x.on = true) (hu : x.und = none) (hX : Sfe x K rs t) (hS : SF x.fs K rs M []) (hg : Lg w lp p ((gst K 0 rs l0).hi h)) (hh : h ≤ 1000) (hB : B ≤ lp) (hpt : PtB B w) (htb : TbB B w) (v : Value) (pl : List Nat) (hp : Bs w v pl) (hs : SafeL w v) (h0 : 0 < pl.length) (hl : pl.length ≤ 300) :
    Calls Tryz.prog 9 #[.pointer (some ⟨lp, 0, none⟩), v] w fun e w' => ∃ x', DA w' B p m x' ∧ Few x' (t + 1) ∧ Kel w w' ∧ Below B w w' ∧
      ((e = .returned (.tuple #[.int .i64 ((rs.length + 1 : Nat) : Int), .int .i64 0]) ∧ x'.on = true ∧ x'.und = none ∧ SF x'.fs K (rs ++ [mkR K 0 rs l0 pl]) (rs.length / K + 1) [] ∧ Lg w' lp p ((gst K 0 (rs ++ [mkR K 0 rs l0 pl]) l0).hi (rs.length / K))) ∨
       (e = .returned (.tuple #[.int .i64 0, .int .i64 18]) ∧ x'.on = false ∧ Rdy x' K rs (some (mkR K 0 rs l0 pl)))) := by
  have hK := hX.per
  have ht := hX.t
  have hlen := hX.len
  have hc := hX.cnt
  have hsg := gst_sgm K 0 rs l0 hK.1
  rw [Nat.zero_add] at hsg
  have hnx := gst_next K 0 rs l0
  rw [Nat.zero_mul, Nat.zero_add] at hnx
  have hge := gst_ended K 0 rs l0
  have hgp := gst_per K 0 rs l0
  have hgw := gst_low K 0 rs l0
  have hgl : (gst K 0 rs l0).last.length = 32 ∧ By (gst K 0 rs l0).last := adv_last ⟨K, 0, 0, 0 * K + 1, l0, false⟩ rs hl0 hX.rok
  have hr2 := mkR_2 K 0 rs l0 pl
  have hr1 : (mkR K 0 rs l0 pl).1 = pl := by simp only [mkR]
  have hro := mkR_ok (per := K) (lo := 0) (rs := rs) (l0 := l0) hp.byte h0 (show pl.length ≤ 4096 by omega)
  have hap := gst_app K 0 rs l0 (mkR K 0 rs l0 pl) hK.1
  have hhi := gst_high K 0 (rs ++ [mkR K 0 rs l0 pl]) l0
  generalize mkR K 0 rs l0 pl = r at *
  generalize gst K 0 rs l0 = g at *
  have hA := lappend_ok w B p m lp x (g.hi h) hd hg hB ⟨by show 1 ≤ g.per ∧ g.per ≤ 1000; rw [hgp]; omega, by show g.low ≤ _; rw [hgw]; omega, by show h ≤ _; omega, by show g.next ≤ _; rw [hnx]; omega⟩ hgl hge (by show 1 ≤ g.next; rw [hnx]; omega) (by rw [hi_sgm, hsg]; omega) (by rw [hi_next, hnx]; omega) hpt htb v pl hp hs h0 (by omega) (by have := hX.few.ops; omega) (by have := hX.few.left; omega)
  rw [ahd_hi, ← hr2, ← hr1] at hA
  refine hA.mono ?_
  rintro e w' ⟨hk, hb, hd', hcs⟩
  have hN : (nms (wrL x (g.hi h) r.1 r.2).2.1.fs).Nodup := hd'.nodup
  obtain ⟨hF, hW⟩ := safe_wr hK.1 hon hu hS hX.few ht hd.nodup hc r (by rw [hr2]; exact chn_len _ _) (by rw [hr1]; exact hl) (g.hi h) (by rw [hi_sgm]; exact hsg) (by rw [hi_next]; exact hnx) hN
  refine ⟨_, hd', hF, hk, hb, ?_⟩
  rcases hW with ⟨q1, q2, q3, q4⟩ | ⟨q1, q2, q3⟩
  · rcases hcs with ⟨_, rfl, hg'⟩ | ⟨hn, _⟩
    · refine Or.inl ⟨by rw [hi_next, hnx, Nat.add_comm], q2, q3, q4, ?_⟩
      rw [hi_rec, ← hap] at hg'
      have e1 : (gst K 0 (rs ++ [r]) l0).hi (rs.length / K) = gst K 0 (rs ++ [r]) l0 := by
        have e2 := hi_self (gst K 0 (rs ++ [r]) l0)
        rw [hhi, List.length_append, List.length_singleton, Nat.add_sub_cancel, Nat.zero_add] at e2
        exact e2
      rw [e1]
      exact hg'
    · exact absurd q1 hn
  · rcases hcs with ⟨hn, _⟩ | ⟨_, rfl, _⟩
    · rw [q1] at hn
      cases hn
    · exact Or.inr ⟨by rw [q1]; rfl, q2, q3⟩
/-- what Open does on a disk that is armed -/
theorem ocut_any {x : AD} {K M t : Nat} {rs : List Rc} {T : List Nat} (hon : x.on = true) (hu : x.und = none) (hF : Few x t) (hS : SF x.fs K rs M T) (hs : Syn x.fs M) (hb : Bad (1 + rs.length) T) (hnd : (nms x.fs).Nodup) :
    Few (ocut x K rs M T).2 (t + 1) ∧ (((ocut x K rs M T).1 = 0 ∧ (ocut x K rs M T).2.on = true ∧ (ocut x K rs M T).2.und = none ∧ SF (ocut x K rs M T).2.fs K rs M []) ∨ ((ocut x K rs M T).1 = 18 ∧ T ≠ [] ∧ (ocut x K rs M T).2.on = false ∧ Rdy (ocut x K rs M T).2 K rs none)) := by
  unfold ocut
  by_cases hT : T = []
  · rw [dcut_nil hT]
    subst hT
    exact ⟨hF.up, Or.inl ⟨rfl, hon, hu, hS⟩⟩
  · rw [dcut_some hT]
    have hM := hS.tail hT
    have hM0 : M - 1 < M := by rw [hM]; exact Nat.lt_succ_self _
    obtain ⟨t1, g1, _⟩ := hS.file (M - 1) hM0
    have hcut := sf_cut hS hs
    have e := nms_doOp ⟨2, nmS (M - 1), [], (segB ((M - 1) * K + 1) (sgt K rs (M - 1))).length / 32⟩ (Or.inr rfl) x.fs
    have hrd : ∀ y : AD, y.fs = x.fs → y.und = some ⟨2, nmS (M - 1), [], (segB ((M - 1) * K + 1) (sgt K rs (M - 1))).length / 32⟩ → Rdy y K rs none := fun y h1 h2 => rdy_cut (by rw [h1]; exact hS) (by rw [h1]; exact hs) hb (by rw [h1]; exact hnd) h2
    obtain ⟨R, o, lft, on, und, fs⟩ := x
    dsimp only at hon hu
    subst hon hu
    have hR : R = 20000 := hF.room
    have ho : o ≤ 10 * t := hF.ops
    have hlf : lft ≤ 6 := hF.left
    have htt : totA fs ≤ 14 * t := hF.tot
    dsimp only at g1 hcut e hrd
    generalize (segB ((M - 1) * K + 1) (sgt K rs (M - 1))).length / 32 = kp at *
    unfold oper
    rw [if_neg (by dsimp only; rw [nmS_is]; simp), if_neg (by dsimp only; rw [g1]; simp), if_neg (by simp)]
    by_cases h1 : lft = 1
    · rw [if_neg (by unfold begA; simp [h1])]
      refine ⟨⟨hR, by show o + 1 ≤ _; omega, by show lft - 1 ≤ 6; omega, by show totA fs ≤ _; omega⟩, Or.inr ⟨rfl, hT, ?_, hrd _ rfl rfl⟩⟩
      show decide (lft ≠ 1) = false
      exact decide_eq_false (by omega)
    · rw [if_pos (by unfold begA; simp [h1])]
      refine ⟨⟨hR, by show o + 1 ≤ _; omega, by show lft - 1 ≤ 6; omega, Nat.le_trans e.2 (by show totA fs ≤ _; omega)⟩, Or.inl ⟨rfl, ?_, rfl, hcut⟩⟩
      show decide (lft ≠ 1) = true
      exact decide_eq_true h1
theorem safe_open (w : World) (B p m : Nat) (x : AD) (K M t : Nat) (rs : List Rc) (T : List Nat) (hd : DA w B p m x) (hon : x.on = true) (hu : x.und = none) (hFw : Few x t) (hlk : Lks K 0 rs) (hrk : ∀ r ∈ rs, Rok r) (hK : 1 ≤ K ∧ K ≤ 7) (ht : t ≤ 80) (hS : SF x.fs K rs M T) (hs : Syn x.fs M) (hb : Bad (1 + rs.length) T) (hpt : PtB B w) (htb : TbB B w) :
    Calls Tryz.prog 12 #[.pointer (some ⟨p, 0, none⟩), .int .i64 (K : Int)] w fun e w' => ∃ x', DA w' B p m x' ∧ Few x' (t + 1) ∧ Kel w w' ∧ Below B w w' ∧
      ((∃ lp u, w.heap.size ≤ lp ∧ e = .returned (.tuple #[.pointer (some ⟨lp, 0, none⟩), u, .int .i64 0]) ∧ Lg w' lp p ((gst K 0 rs (List.replicate 32 0)).hi (M - 1)) ∧ Pay w' w.heap.size u (rs.map (·.1)) ∧ x'.on = true ∧ x'.und = none ∧ SF x'.fs K rs M []) ∨
       (e = .returned (.tuple #[.pointer none, .slice none 0 0, .int .i64 18]) ∧ T ≠ [] ∧ x'.on = false ∧ Rdy x' K rs none)) := by
  obtain ⟨hF, hW⟩ := ocut_any hon hu hFw hS hs hb hd.nodup
  refine (open_rest w B p m x K rs M T hd hon hpt htb (hS.x hK.1) hlk hrk ⟨hK.1, by omega⟩ (by have h1 := sf_len hS hd.nodup; have h2 := hS.few; omega) (fun h0 => Decidable.byContradiction (fun hT => by have h1 := hS.tail hT; rw [h0] at h1; exact Nat.succ_ne_zero _ h1.symm)) (fun _ => hb) (by have := hFw.ops; omega) (by have := hFw.left; omega)).mono ?_
  rintro e w' ⟨hd', hk, hB, hcs⟩
  refine ⟨_, hd', hF, hk, hB, ?_⟩
  rcases hW with ⟨q1, q2, q3, q4⟩ | ⟨q1, q2, q3, q4⟩
  · rcases hcs with ⟨_, lp, u, h1, h2, h3, h4⟩ | ⟨hn, _⟩
    · exact Or.inl ⟨lp, u, h1, h2, h3, h4, q2, q3, q4⟩
    · exact absurd q1 hn
  · rcases hcs with ⟨hn, _⟩ | ⟨_, h2⟩
    · rw [q1] at hn
      exact absurd hn (by omega)
    · refine Or.inr ⟨?_, q2, q3, q4⟩
      rw [h2, q1]
      rfl
end Go.Proofs.YtkmdegmpffgplaaGreatDoor
