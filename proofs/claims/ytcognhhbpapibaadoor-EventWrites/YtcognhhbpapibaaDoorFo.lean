/- event: both writers; the walk of EventWrites. -/
import Derived.Test.YtcognhhbpapibaaDoorFm
namespace Go.Proofs.YtcognhhbpapibaaDoor
open Go.RowKit
set_option linter.unusedVariables false

theorem cells_n {x : E8} {n0 n1 n2 n3 n4 n5 n6 n7 : Int} (hn : x.ns = [n0, n1, n2, n3, n4, n5, n6, n7]) (tv : Value) : x.cells tv = [.int .u8 (x.op : Int), .int .u64 (x.key : Int), .int .i64 n0, .int .i64 n1, .int .i64 n2, .int .i64 n3, .int .i64 n4, .int .i64 n5, .int .i64 n6, .int .i64 n7, tv] := by
  unfold E8.cells
  rw [hn]
  rfl
theorem cells11 {w' : World} {p : Nat} {x : E8} {tv : Value} {T : TypeId} {n0 n1 n2 n3 n4 n5 n6 n7 : Int} (h : VA w' p (x.cells tv) T) (hn : Hid (x.ns = [n0, n1, n2, n3, n4, n5, n6, n7])) : (w'.cell? ⟨p, 0, none⟩ = some (.int .u8 (x.op : Int)) ∧ w'.cell? ⟨p, 1, none⟩ = some (.int .u64 (x.key : Int)) ∧ w'.cell? ⟨p, 2, none⟩ = some (.int .i64 n0) ∧ w'.cell? ⟨p, 3, none⟩ = some (.int .i64 n1) ∧ w'.cell? ⟨p, 4, none⟩ = some (.int .i64 n2) ∧ w'.cell? ⟨p, 5, none⟩ = some (.int .i64 n3) ∧ w'.cell? ⟨p, 6, none⟩ = some (.int .i64 n4) ∧ w'.cell? ⟨p, 7, none⟩ = some (.int .i64 n5) ∧ w'.cell? ⟨p, 8, none⟩ = some (.int .i64 n6) ∧ w'.cell? ⟨p, 9, none⟩ = some (.int .i64 n7) ∧ w'.cell? ⟨p, 10, none⟩ = some (tv)) := by
  rw [cells_n hn.out] at h
  exact ⟨h.cell 0 rfl, h.cell 1 rfl, h.cell 2 rfl, h.cell 3 rfl, h.cell 4 rfl, h.cell 5 rfl, h.cell 6 rfl, h.cell 7 rfl, h.cell 8 rfl, h.cell 9 rfl, h.cell 10 rfl⟩
set_option maxHeartbeats 1000000 in
set_option maxRecDepth 100000 in
theorem docwrite_yes (x : E8) (tv : Value) (w : World) (hx : x.ok) (R : Tr w tv x.ts) (hf : x.form) :
    Calls Tryd.prog 10 #[.agg (x.cells tv).toArray] w fun e w' => (∃ u, e = .returned (.tuple #[u, .int .i64 0]) ∧ Bs w' u x.bytes) ∧ Below w.heap.size w w' := by
  have V := va_new w (x.cells tv) 26
  have D := (Below.refl w.heap.size w).alloc (Nat.le_refl _) (.cells (x.cells tv).toArray 26)
  have HV := (show Hid _ from V)
  have HD := (show Hid _ from D)
  have HR := (show Hid _ from R)
  have HX := (show Hid _ from hx)
  have HF := (show Hid _ from hf)
  have l11 := E8.len11 hx
  clear V D R hx hf
  go_enter Tryd.func10, Tryd.ntmps10
  go_wp2_with (refine ldA rfl 26 _ rfl w.heap.size (by rfl) _ _ HV.out _ Tryd.underlying26 rfl (info26.trans (by rw [l11])) ?_)
  generalize w.alloc (.cells (x.cells tv).toArray 26) = w1 at *
  refine (rform_ok x tv _ HX.out (HR.out.step HD.out) true (by simp [HF.out])).mono ?_
  rintro e w2 ⟨rfl, b2⟩
  have D2 := (show Hid _ from HD.out.trans (b2.mono HD.out.size))
  have V2 := (show Hid _ from HV.out.step b2)
  clear b2 HD HV
  go_wp2_with (refine ldA rfl 26 _ rfl w.heap.size (by rfl) _ _ V2.out _ Tryd.underlying26 rfl (info26.trans (by rw [l11])) ?_)
  refine (rwrite_ok x tv _ HX.out (HR.out.step D2.out) HF.out).mono ?_
  rintro e w3 ⟨⟨u, rfl, o3⟩, b3⟩
  have D3 := (show Hid _ from D2.out.trans (b3.mono D2.out.size))
  have O3 := (show Hid _ from o3.bs)
  clear b3 o3
  go_wp2_with fail
  go_ret2
  exact ⟨⟨_, rfl, O3.out⟩, D3.out⟩
set_option maxHeartbeats 1000000 in
set_option maxRecDepth 100000 in
theorem docwrite_no (x : E8) (tv : Value) (w : World) (hx : x.ok) (R : Tr w tv x.ts) (hf : ¬ x.form) :
    Calls Tryd.prog 10 #[.agg (x.cells tv).toArray] w fun e w' => e = .returned (.tuple #[.slice none 0 0, .int .i64 3]) ∧ Below w.heap.size w w' := by
  have V := va_new w (x.cells tv) 26
  have D := (Below.refl w.heap.size w).alloc (Nat.le_refl _) (.cells (x.cells tv).toArray 26)
  have HV := (show Hid _ from V)
  have HD := (show Hid _ from D)
  have HR := (show Hid _ from R)
  have HX := (show Hid _ from hx)
  have HF := (show Hid _ from hf)
  have l11 := E8.len11 hx
  clear V D R hx hf
  go_enter Tryd.func10, Tryd.ntmps10
  go_wp2_with (refine ldA rfl 26 _ rfl w.heap.size (by rfl) _ _ HV.out _ Tryd.underlying26 rfl (info26.trans (by rw [l11])) ?_)
  generalize w.alloc (.cells (x.cells tv).toArray 26) = w1 at *
  refine (rform_ok x tv _ HX.out (HR.out.step HD.out) false ⟨(fun e => by cases e), fun h => absurd h HF.out⟩).mono ?_
  rintro e w2 ⟨rfl, b2⟩
  have D2 := (show Hid _ from HD.out.trans (b2.mono HD.out.size))
  clear b2 HD HV
  go_wp2_with fail
  go_ret2
  exact ⟨rfl, D2.out⟩
/-- both writers, Check and Form: an event in form has its bytes and 0, another none and 3 -/
theorem wboth (x : E8) (hx : x.ok) : ∃ (bs : List Nat) (e : Int) (b : Bool), ((e = 0 ∧ b = true ∧ x.form ∧ bs = x.bytes) ∨ (e = 3 ∧ b = false)) ∧
    (∀ tv w, Tc w → Tr w tv x.ts → Calls Tryd.prog 9 #[.agg (x.cells tv).toArray] w fun r w' => (∃ u, r = .returned (.tuple #[u, .int .i64 e]) ∧ Bs w' u bs) ∧ Below w.heap.size w w') ∧
    (∀ tv w, Tr w tv x.ts → Calls Tryd.prog 10 #[.agg (x.cells tv).toArray] w fun r w' => (∃ u, r = .returned (.tuple #[u, .int .i64 e]) ∧ Bs w' u bs) ∧ Below w.heap.size w w') ∧
    (∀ tv w, Tc w → Tr w tv x.ts → Calls Tryd.prog 14 #[.agg (x.cells tv).toArray] w fun r w' => r = .returned (.int .i64 e) ∧ Below w.heap.size w w') ∧
    (∀ tv w, Tr w tv x.ts → Calls Tryd.prog 15 #[.agg (x.cells tv).toArray] w fun r w' => r = .returned (.bool b) ∧ Below w.heap.size w w') := by
  by_cases hf : x.form
  · refine ⟨x.bytes, 0, true, Or.inl ⟨rfl, rfl, hf, rfl⟩, fun tv w T R => ?_, fun tv w R => ?_, fun tv w T R => ?_, fun tv w R => ?_⟩
    · refine (write_yes x tv w hx T R hf).mono ?_
      rintro r w' ⟨⟨u, rfl, o⟩, hb⟩
      exact ⟨⟨u, rfl, o.bs⟩, hb⟩
    · exact docwrite_yes x tv w hx R hf
    · exact check_in x tv w hx T R hf.lo hf.hi hf.tiers 0 (Or.inl ⟨hf.zero, rfl⟩)
    · exact rform_ok x tv w hx R true (by simp [hf])
  · refine ⟨[], 3, false, Or.inr ⟨rfl, rfl⟩, fun tv w T R => ?_, fun tv w R => ?_, fun tv w T R => ?_, fun tv w R => ?_⟩
    · refine (write_no x tv w hx T R hf).mono ?_
      rintro r w' ⟨rfl, hb⟩
      exact ⟨⟨_, rfl, bs_nil _⟩, hb⟩
    · refine (docwrite_no x tv w hx R hf).mono ?_
      rintro r w' ⟨rfl, hb⟩
      exact ⟨⟨_, rfl, bs_nil _⟩, hb⟩
    · exact check_no x tv w hx T R hf
    · exact rform_ok x tv w hx R false (by simp [hf])
theorem OwnT.mark {w : World} {B g n cap : Nat} {ts : List (Int × Int)} (h : OwnT w B (.slice (some ⟨g, 0, none⟩) (n + 2) cap) (ts ++ mk2)) (hn : n = ts.length) : g < w.heap.size ∧ w.cell? ⟨g, n * 2, none⟩ = some (.int .i64 77) ∧ Tr w (.slice (some ⟨g, 0, none⟩) n cap) ts := by
  have ht := h.tr
  have hf := ht.front
  rw [← hn] at hf
  obtain ⟨_, a', c', e', _, _, h3⟩ := ht
  obtain ⟨b', off', ea, hb, hc⟩ := h3 (by simp [mk2])
  simp only [Value.slice.injEq] at e'
  rw [← e'.1] at ea
  simp only [Option.some.injEq, Addr.mk.injEq] at ea
  obtain ⟨e1, e2, _⟩ := ea
  subst e1
  subst e2
  have h4 := (hc ts.length (by simp [mk2])).1
  have e5 : (ts ++ mk2).getD ts.length (0, 0) = (77, 0) := by simp [List.getD, mk2]
  rw [e5, Nat.zero_add, ← hn, Nat.mul_comm] at h4
  exact ⟨hb, h4, hf⟩
/-- both counts -/
theorem cboth (o : Nat) (ho : o ≤ 255) : ∃ (n e : Int), (∀ w, Tc w → Calls Tryd.prog 11 #[.int .u8 o] w fun r w' => r = .returned (.tuple #[.int .i64 n, .int .i64 e]) ∧ w' = w) ∧
    (∀ w, Calls Tryd.prog 12 #[.int .u8 o] w fun r w' => r = .returned (.tuple #[.int .i64 n, .int .i64 e]) ∧ w' = w) := by
  by_cases h : o < 1 ∨ 15 < o
  · exact ⟨0, 1, fun w _ => count_no o w h ho, fun w => rdcount_no o w h ho⟩
  · exact ⟨_, 0, fun w T => count_yes o w T (by omega) (by omega), fun w => rdcount_yes o w (by omega) (by omega)⟩
set_option maxHeartbeats 4000000 in
set_option maxRecDepth 100000 in
theorem writes_walk (x : E8) (tv : Value) (w : World) (hx : x.ok) (T : Tc w) (R : Tr w tv x.ts) (hno : ∀ n c, tv = .slice none n c → c = 0) (hl : x.ts.length + 2 ≤ 8796093022208) :
    Calls Tryd.prog 3 #[.agg (x.cells tv).toArray] w fun e w' => e = .returned (.bool true) ∧ Below w.heap.size w w' := by
  obtain ⟨bs, er, b, hcase, HW1, HW2, HW3, HW4⟩ := wboth x hx
  obtain ⟨cn, ce, HC1, HC2⟩ := cboth x.op hx.op
  have V := va_new w (x.cells tv) 26
  have D := (Below.refl w.heap.size w).alloc (Nat.le_refl _) (.cells (x.cells tv).toArray 26)
  have hw0 := T.lt
  have l11 := E8.len11 hx
  obtain ⟨tn, htn⟩ : ∃ tn, tn = x.ts.length := ⟨_, rfl⟩
  obtain ⟨ta, tc, rfl, ht1, ht2⟩ : ∃ a c, tv = .slice a tn c ∧ tn ≤ c ∧ c ≤ 9223372036854775807 := by obtain ⟨_, a, c, e, h1, h2, _⟩ := R; exact ⟨a, c, by rw [htn]; exact e, by rw [htn]; exact h1, h2⟩
  have HV := (show Hid _ from V)
  have HD := (show Hid _ from D)
  have HT := (show Hid _ from T)
  have HR := (show Hid _ from R)
  have HX := (show Hid _ from hx)
  have HNO := (show Hid _ from hno)
  have HCA := (show Hid _ from hcase)
  have HTN := (show Hid _ from htn)
  have K1 := (show Hid _ from HW1)
  have K2 := (show Hid _ from HW2)
  have K3 := (show Hid _ from HW3)
  have K4 := (show Hid _ from HW4)
  have K5 := (show Hid _ from HC1)
  have K6 := (show Hid _ from HC2)
  have HLL := (show Hid _ from hl)
  have y10 := V.cell 10 (E8.ctv hx _)
  clear V D T R hx hno hcase htn HW1 HW2 HW3 HW4 HC1 HC2 hl
  go_enter Tryd.func3, Tryd.ntmps3
  go_wp2_with fail
  generalize w.alloc (.cells (x.cells (.slice ta tn tc)).toArray 26) = w1 at *
  refine (awake_ok _ (HT.out.step HD.out (by omega))).mono ?_
  rintro e w2 ⟨rfl, b2⟩
  have D2 := (show Hid _ from HD.out.trans (b2.mono HD.out.size))
  have V2 := HV.out.step b2
  have y10 := V2.cell 10 (E8.ctv HX.out _)
  have HV2 := (show Hid _ from V2)
  clear b2 V2 HD HV
  go_wp2_with fail
  refine (ltiers_ok _ x.ts _ (HR.out.step D2.out) HNO.out HLL.out).mono ?_
  rintro e w3 ⟨⟨g, cap, rfl, hc1, hc2, o3⟩, b3⟩
  rw [← HTN.out] at hc1 o3 ⊢
  have D3 := (show Hid _ from D2.out.trans (b3.mono D2.out.size))
  have V3 := HV2.out.step b3
  have O3 := (show Hid _ from o3)
  have hg0 : w2.heap.size ≤ g := o3.block g rfl
  obtain ⟨lg, mk3, tr3⟩ := o3.mark HTN.out
  have HV3 := (show Hid _ from V3)
  have lP := HV2.out.lt
  clear b3 o3 V3 D2 HV2 y10
  go_wp2_with (first
    | (refine ldA rfl 26 _ rfl w.heap.size (by rfl) _ _ HV3.out _ Tryd.underlying26 rfl (info26.trans (by rw [l11])) ?_)
    | (refine stA rfl 26 _ _ rfl w3.heap.size (by rfl) (E8.cells ⟨0, 0, List.replicate 8 0, []⟩ (.slice none 0 0)) (x.cells (.slice ta tn tc)) (by rfl) 26 (va_new w3 (E8.cells ⟨0, 0, List.replicate 8 0, []⟩ (.slice none 0 0)) 26) (info26.trans (by rw [l11])) (by rw [l11]; rfl) (fun u hu => ev_one hu) ?_; intro w4 V4 U4; have b4 := U4.bel ((Below.refl w3.heap.size w3).alloc (Nat.le_refl _) (.cells (E8.cells ⟨0, 0, List.replicate 8 0, []⟩ (.slice none 0 0)).toArray 26)) (Nat.le_refl _); have HV4 := HV3.out.step b4; have y10 := HV4.cell 10 (E8.ctv HX.out _); have q10 := V4.cell 10 (E8.ctv HX.out _); have r10 := V4.free 10; have V5 := V4.set 10 (.slice (some ⟨g, 0, none⟩) tn cap); rw [cells_tv _ HX.out] at V5)
    | (refine ldA rfl 26 _ rfl w3.heap.size (by rfl) _ _ V5 _ Tryd.underlying26 rfl (info26.trans (by rw [l11])) ?_))
  have U5 := U4.trans (upd_set w4 w3.heap.size 10 (.slice (some ⟨g, 0, none⟩) tn cap))
  have b5 := U5.bel ((Below.refl w3.heap.size w3).alloc (Nat.le_refl _) (.cells (E8.cells ⟨0, 0, List.replicate 8 0, []⟩ (.slice none 0 0)).toArray 26)) (Nat.le_refl _)
  have D5 := (show Hid _ from D3.out.trans (b5.mono D3.out.size))
  have VP5 := (show Hid _ from HV3.out.step b5)
  have VQ5 := (show Hid _ from V5)
  have TW5 := (show Hid _ from tr3.step b5)
  have mk5 := (b5.cell (p := ⟨g, tn * 2, none⟩) lg).trans mk3
  have MK5 := (show Hid _ from mk5)
  have lg5 : g < (w4.setCell ⟨w3.heap.size, 10, none⟩ (.slice (some ⟨g, 0, none⟩) tn cap)).heap.size := Nat.lt_of_lt_of_le lg b5.size
  have lQ : w.heap.size < w3.heap.size := HV3.out.lt
  clear U4 U5 b4 b5 HV4 y10 q10 r10 V4 V5 D3 O3 HV3 mk3 tr3 mk5 lg
  generalize w4.setCell ⟨w3.heap.size, 10, none⟩ (.slice (some ⟨g, 0, none⟩) tn cap) = w5 at *
  generalize w3.heap.size = Q at *
  refine (K1.out _ _ (HT.out.step D5.out (by omega)) TW5.out).mono ?_
  rintro e w6 ⟨⟨p, rfl, p6⟩, b6⟩
  have D6 := (show Hid _ from D5.out.trans (b6.mono D5.out.size))
  have VP6 := (show Hid _ from VP5.out.step b6)
  have VQ6 := (show Hid _ from VQ5.out.step b6)
  have TW6 := (show Hid _ from TW5.out.step b6)
  have MK6 := (show Hid _ from (b6.cell (p := ⟨g, tn * 2, none⟩) lg5).trans MK5.out)
  have lg6 := Nat.lt_of_lt_of_le lg5 b6.size
  have P6 := (show Hid _ from p6)
  clear b6 p6 D5 VP5 VQ5 TW5 MK5 lg5
  go_wp2_with (refine ldA rfl 26 _ rfl w.heap.size (by rfl) _ _ VP6.out _ Tryd.underlying26 rfl (info26.trans (by rw [l11])) ?_)
  refine (K2.out _ _ (HR.out.step D6.out)).mono ?_
  rintro e w7 ⟨⟨q, rfl, q7⟩, b7⟩
  have D7 := (show Hid _ from D6.out.trans (b7.mono D6.out.size))
  have VP7 := VP6.out.step b7
  have y0 := VP7.cell 0 (E8.c0 _ _)
  have HVP7 := (show Hid _ from VP7)
  have VQ7 := (show Hid _ from VQ6.out.step b7)
  have TW7 := (show Hid _ from TW6.out.step b7)
  have MK7 := (show Hid _ from (b7.cell (p := ⟨g, tn * 2, none⟩) lg6).trans MK6.out)
  have lg7 := Nat.lt_of_lt_of_le lg6 b7.size
  have P7 := (show Hid _ from P6.out.step b7)
  have Q7 := (show Hid _ from q7)
  clear b7 q7 D6 VP6 VQ6 TW6 MK6 lg6 P6 VP7
  go_wp2_with fail
  refine (K5.out _ (HT.out.step D7.out (by omega))).mono ?_
  rintro e w8 ⟨rfl, rfl⟩
  go_wp2_with fail
  refine (K6.out _).mono ?_
  rintro e w9 ⟨rfl, rfl⟩
  clear y0
  go_upto_region 10 with fail
  obtain ⟨n0, n1, n2, n3, n4, n5, n6, n7, hns⟩ : ∃ n0 n1 n2 n3 n4 n5 n6 n7 : Int, x.ns = [n0, n1, n2, n3, n4, n5, n6, n7] := ⟨_, _, _, _, _, _, _, _, ns_eq HX.out⟩
  have HNS := (show Hid _ from hns)
  have hx1 : Hid ((x.cells (.slice (some ⟨g, 0, none⟩) tn cap)).toArray = #[.int .u8 (x.op : Int), .int .u64 (x.key : Int), .int .i64 n0, .int .i64 n1, .int .i64 n2, .int .i64 n3, .int .i64 n4, .int .i64 n5, .int .i64 n6, .int .i64 n7, .slice (some ⟨g, 0, none⟩) tn cap]) := by show _ = _; rw [cells_n hns]
  have hx2 : Hid ((x.cells (.slice ta tn tc)).toArray = #[.int .u8 (x.op : Int), .int .u64 (x.key : Int), .int .i64 n0, .int .i64 n1, .int .i64 n2, .int .i64 n3, .int .i64 n4, .int .i64 n5, .int .i64 n6, .int .i64 n7, .slice ta tn tc]) := by show _ = _; rw [cells_n hns]
  clear hns
  have heb : (er == 0) = b := by
    rcases HCA.out with ⟨rfl, rfl, _⟩ | ⟨rfl, rfl⟩ <;> rfl
  have hbb : (b != b) = false := by simp
  have hee : (er != er) = false := by simp
  have hnn : (cn != cn) = false := by simp
  have hcc : (ce != ce) = false := by simp
  have t1 : (0 : Int) ≤ (tn : Int) := by omega
  have t2' : (tn : Int) < ((tn + 2 : Nat) : Int) := by omega
  have t3 : (tn : Int) < (tn : Int) + 2 := by omega
  go_region_held3 (fun w' => (w'.cell? ⟨w.heap.size, 0, none⟩ = some (.int .u8 (x.op : Int)) ∧ w'.cell? ⟨w.heap.size, 1, none⟩ = some (.int .u64 (x.key : Int)) ∧ w'.cell? ⟨w.heap.size, 2, none⟩ = some (.int .i64 n0) ∧ w'.cell? ⟨w.heap.size, 3, none⟩ = some (.int .i64 n1) ∧ w'.cell? ⟨w.heap.size, 4, none⟩ = some (.int .i64 n2) ∧ w'.cell? ⟨w.heap.size, 5, none⟩ = some (.int .i64 n3) ∧ w'.cell? ⟨w.heap.size, 6, none⟩ = some (.int .i64 n4) ∧ w'.cell? ⟨w.heap.size, 7, none⟩ = some (.int .i64 n5) ∧ w'.cell? ⟨w.heap.size, 8, none⟩ = some (.int .i64 n6) ∧ w'.cell? ⟨w.heap.size, 9, none⟩ = some (.int .i64 n7) ∧ w'.cell? ⟨w.heap.size, 10, none⟩ = some (.slice ta tn tc)) ∧ (w'.cell? ⟨Q, 0, none⟩ = some (.int .u8 (x.op : Int)) ∧ w'.cell? ⟨Q, 1, none⟩ = some (.int .u64 (x.key : Int)) ∧ w'.cell? ⟨Q, 2, none⟩ = some (.int .i64 n0) ∧ w'.cell? ⟨Q, 3, none⟩ = some (.int .i64 n1) ∧ w'.cell? ⟨Q, 4, none⟩ = some (.int .i64 n2) ∧ w'.cell? ⟨Q, 5, none⟩ = some (.int .i64 n3) ∧ w'.cell? ⟨Q, 6, none⟩ = some (.int .i64 n4) ∧ w'.cell? ⟨Q, 7, none⟩ = some (.int .i64 n5) ∧ w'.cell? ⟨Q, 8, none⟩ = some (.int .i64 n6) ∧ w'.cell? ⟨Q, 9, none⟩ = some (.int .i64 n7) ∧ w'.cell? ⟨Q, 10, none⟩ = some (.slice (some ⟨g, 0, none⟩) tn cap)) ∧ w'.cell? ⟨g, tn * 2, none⟩ = some (.int .i64 77))
    (first | exact ⟨cells11 HVP7.out.drew HNS, cells11 VQ7.out.drew HNS, MK7.out⟩ | exact ⟨cells11 VPd HNS, cells11 VQd HNS, MKd⟩ | exact ⟨cells11 VPc HNS, cells11 VQc HNS, MKc⟩ | exact ⟨cells11 VPb HNS, cells11 VQb HNS, MKb⟩ | exact ⟨cells11 VPa HNS, cells11 VQa HNS, MKa⟩)
    (first
      | (go_at_call 13; refine (same_ok _ _ bs bs _ P7.out.drew Q7.out.drew).mono ?_; rintro e wa ⟨rfl, ba⟩; rw [show decide (bs = bs) = true by simp]; have VPa := HVP7.out.drew.step ba; have VQa := VQ7.out.drew.step ba; have MKa := ((bel_of_drew ba).cell (p := ⟨g, tn * 2, none⟩) lg7).trans MK7.out; have lga := Nat.lt_of_lt_of_le lg7 (bel_of_drew ba).size; have Da := D7.out.trans ((bel_of_drew ba).mono D7.out.size); have Ta := TW7.out.step (bel_of_drew ba); have Pa := P7.out.step (bel_of_drew ba))
      | (go_at_call 14; rw [← hx1.out]; refine (K3.out _ _ (HT.out.step Da (by omega)) Ta).mono ?_; rintro e wb ⟨rfl, bb⟩; have VPb := VPa.step bb; have VQb := VQa.step bb; have MKb := (bb.cell (p := ⟨g, tn * 2, none⟩) lga).trans MKa; have lgb := Nat.lt_of_lt_of_le lga bb.size; have Db := Da.trans (bb.mono Da.size); have Tb := Ta.step bb; have Pb := Pa.step bb)
      | (go_at_call 15; rw [← hx2.out]; refine (K4.out _ _ (HR.out.step Db)).mono ?_; rintro e wc ⟨rfl, bc⟩; have VPc := VPb.step bc; have VQc := VQb.step bc; have MKc := (bc.cell (p := ⟨g, tn * 2, none⟩) lgb).trans MKb; have lgc := Nat.lt_of_lt_of_le lgb bc.size; have Dc := Db.trans (bc.mono Db.size); have Tc' := Tb.step bc; have Pc := Pb.step bc)
      | (go_at_call 16; rw [← hx1.out, ← hx2.out]; refine (rsame_true x _ _ _ HX.out Tc' (HR.out.step Dc)).mono ?_; rintro e wd ⟨rfl, bd⟩; have VPd := VPc.step bd; have VQd := VQc.step bd; have MKd := (bd.cell (p := ⟨g, tn * 2, none⟩) lgc).trans MKc; have Dd := Dc.trans (bd.mono Dc.size); have Td := Tc'.step bd; have Pd := Pc.step bd))
  have HVPd := (show Hid _ from VPd)
  have HVQd := (show Hid _ from VQd)
  have HDd := (show Hid _ from Dd)
  have HTd := (show Hid _ from Td)
  have HPd := (show Hid _ from Pd)
  clear VPa VPb VPc VPd VQa VQb VQc VQd MKa MKb MKc MKd lga lgb lgc Da Db Dc Dd Ta Tb Tc' Td Pa Pb Pc Pd ba bb bc bd hbb hee hnn hcc t1 t2' t3
  rcases HCA.out with ⟨rfl, rfl, hf, hbs⟩ | ⟨rfl, rfl⟩
  · have HF := (show Hid _ from hf)
    have HBS := (show Hid _ from hbs)
    clear heb hf hbs
    go_wp2_with fail
    refine (read_yes _ x _ HX.out HF.out HR.out.wf (HT.out.step HDd.out (by omega)) (by rw [← HBS.out]; exact HPd.out)).mono ?_
    rintro e w10 ⟨⟨tu, rfl, t10⟩, b10⟩
    obtain ⟨ua, un, uc, rfl⟩ : ∃ a n c, tu = .slice a n c := by obtain ⟨_, a, c, e, _⟩ := t10; exact ⟨a, _, c, e⟩
    have D10 := (show Hid _ from HDd.out.trans (b10.mono HDd.out.size))
    have VP10 := (show Hid _ from HVPd.out.step b10)
    have T10 := (show Hid _ from t10)
    clear b10 t10
    go_wp2_with (first
      | (refine stA rfl 26 _ _ rfl w10.heap.size (by rfl) (E8.cells ⟨0, 0, List.replicate 8 0, []⟩ (.slice none 0 0)) (x.cells (.slice ua un uc)) (by rfl) 26 (va_new w10 (E8.cells ⟨0, 0, List.replicate 8 0, []⟩ (.slice none 0 0)) 26) (info26.trans (by rw [l11])) (by rw [l11]; rfl) (fun u hu => ev_one hu) ?_; intro w11 V11 U11; have b11 := U11.bel ((Below.refl w10.heap.size w10).alloc (Nat.le_refl _) (.cells (E8.cells ⟨0, 0, List.replicate 8 0, []⟩ (.slice none 0 0)).toArray 26)) (Nat.le_refl _); have VP11 := VP10.out.step b11)
      | (refine ldAw (by rfl) 26 _ rfl w10.heap.size (by rfl) _ _ V11 _ Tryd.underlying26 rfl (info26.trans (by rw [l11])) ?_)
      | (refine ldAw (by rfl) 26 _ rfl w.heap.size (by rfl) _ _ VP11 _ Tryd.underlying26 rfl (info26.trans (by rw [l11])) ?_))
    have D11 := (show Hid _ from D10.out.trans (b11.mono D10.out.size))
    have T11 := (show Hid _ from T10.out.step b11)
    clear V11 U11 VP11 b11 D10 VP10 T10
    refine (rsame_true x _ _ _ HX.out T11.out (HR.out.step D11.out)).mono ?_
    rintro e w12 ⟨rfl, b12⟩
    have D12 := (show Hid _ from D11.out.trans (b12.mono D11.out.size))
    clear b12
    go_wp2_with fail
    go_ret
    exact ⟨rfl, D12.out⟩
  · clear heb
    go_wp2_with (refine ldA rfl 26 _ rfl Q (by rfl) _ _ HVQd.out _ Tryd.underlying26 rfl (info26.trans (by rw [l11])) ?_)
    refine (K3.out _ _ (HT.out.step HDd.out (by omega)) HTd.out).mono ?_
    rintro e w10 ⟨rfl, b10⟩
    have D10 := (show Hid _ from HDd.out.trans (b10.mono HDd.out.size))
    clear b10
    go_wp2_with fail
    go_ret
    exact ⟨rfl, D10.out⟩
end Go.Proofs.YtcognhhbpapibaaDoor
