/- The contract of awake (package passbooklaw01). -/
import Derived.Test.YtegooagmlapngaaPf
import Derived.Test.YtegooagmlapngaaEz
import Derived.Test.YtegooagmlapngaaYc
import Derived.Test.YtegooagmlapngaaRows
import Derived.WalkKit
import Derived.ProofKit
import Derived.OpenShut
import Derived.Lib.SmallJoins
namespace Go.Proofs.Ytegooagmlapngaa
open Go.RowKit
set_option linter.unusedVariables false
attribute [local go_sem] ext_cell ext_frozen ext_drew ext_of_drew ext_of_drewN ext_setCell ext_lt ext_lt1 ext_lt2 ext_lt3 lt_n2 lt_n3 lt_n4 lt_n5 lt_n6

theorem awake_add (w : World) : Calls Try.prog 22 #[.agg #[.int .i64 0, .int .u64 15, .int .i64 1], .agg #[.int .i64 0, .int .u64 25, .int .i64 2]] w
    fun e w' => e = .returned (.tuple #[.agg #[.int .i64 0, .int .u64 175, .int .i64 2], .int .i64 0]) ∧ Below w.heap.size w w' := by
  have e : tot 15 1 25 2 = (false, 175) := by decide +kernel
  have h := add_ok 15 0 15 25 0 25 1 2 w ⟨rfl, rfl⟩ ⟨rfl, rfl⟩ ⟨by decide, by decide⟩ ⟨by decide, by decide⟩ (by decide) (by decide) (by rw [e]; decide)
  rw [e] at h
  exact h
theorem awake_quo (w : World) : Calls Try.prog 4 #[.agg #[.int .i64 0, .int .u64 1, .int .i64 0], .agg #[.int .i64 0, .int .u64 3, .int .i64 0], .int .i64 4, .int .i64 1] w
    fun e w' => e = .returned (.tuple #[.agg #[.int .i64 0, .int .u64 3334, .int .i64 4], .int .i64 0]) ∧ Below w.heap.size w w' := by
  have e : rquo ((decide ((1 : Int) < 0)) != (decide ((3 : Int) < 0))) (1 : Int).natAbs (3 : Int).natAbs (((4 : Nat) : Int) + ((0 : Nat) : Int) - ((0 : Nat) : Int)) 1 = 3334 := by decide +kernel
  have h := quo_ok 1 0 1 3 0 3 0 0 4 1 w ⟨rfl, rfl⟩ ⟨rfl, rfl⟩ ⟨by decide, by decide⟩ ⟨by decide, by decide⟩ (by decide) (by decide) (by decide) (by decide) (by decide) (by rw [e]; decide)
  rw [e] at h
  exact h
theorem awake_rescale (w : World) : Calls Try.prog 23 #[.agg #[.int .i64 (-1), .int .u64 18446744073709551591, .int .i64 1], .int .i64 0, .int .i64 2] w
    fun e w' => e = .returned (.tuple #[.agg #[.int .i64 (-1), .int .u64 18446744073709551613, .int .i64 0], .int .i64 0]) ∧ Below w.heap.size w w' := by
  have e : rquo (decide ((-25 : Int) < 0)) (-25 : Int).natAbs 1 (((0 : Nat) : Int) - ((1 : Nat) : Int)) 2 = 3 := by decide +kernel
  have h := rescale_ok (-25) (-1) 18446744073709551591 1 0 2 w ⟨rfl, rfl⟩ ⟨by decide, by decide⟩ (by decide) (by decide) (by decide) (by rw [e]; decide)
  rw [e] at h
  exact h

/-- Three cells hold these. -/
structure At3 (w : World) (b : Nat) (x y z : Value) : Prop where
  c0 : w.cell? ⟨b, 0, none⟩ = some x
  c1 : w.cell? ⟨b, 1, none⟩ = some y
  c2 : w.cell? ⟨b, 2, none⟩ = some z
  lt : b < w.heap.size
theorem At3.step {w w' : World} {b : Nat} {x y z : Value} (h : At3 w b x y z) (k : Below w.heap.size w w') : At3 w' b x y z :=
  ⟨by rw [k.cell h.lt]; exact h.c0, by rw [k.cell h.lt]; exact h.c1, by rw [k.cell h.lt]; exact h.c2, Nat.lt_of_lt_of_le h.lt k.size⟩
theorem At3.alloc {w : World} {b : Nat} {x y z : Value} (h : At3 w b x y z) (O : Obj) : At3 (w.alloc O) b x y z := h.step ((Below.refl _ _).alloc (Nat.le_refl _) O)
theorem at3_new (w : World) (x y z : Value) (t : TypeId) : At3 (w.alloc (.cells #[x, y, z] t)) w.heap.size x y z := by
  constructor <;> simp [go_sem]
theorem below_over {w w' : World} {O : Obj} (k : Below (w.alloc O).heap.size (w.alloc O) w') : Below w.heap.size w w' :=
  ((Below.refl _ _).alloc (Nat.le_refl _) O).trans (k.mono (by simp))

set_option maxHeartbeats 1000000 in
set_option maxRecDepth 100000 in
theorem awake_any (w : World) : Calls Try.prog 6 #[] w fun e w' => e = .returned (.bool true) ∧ Below w.heap.size w w' := by
  go_enter Try.func6, Try.ntmps6
  go_wp2_with (go_at_call 22; refine (awake_add _).mono ?_; rintro e w1 ⟨rfl, b1⟩)
  refine (awake_quo _).mono ?_
  rintro e w2 ⟨rfl, b2⟩
  have A1 := (at3_new w1 _ _ _ _).step b2
  have B2 : Below w.heap.size w w2 := b1.trans ((below_over b2).mono b1.size)
  clear b1 b2
  generalize w1.heap.size = p1 at *
  go_wp2_with fail
  refine (awake_rescale _).mono ?_
  rintro e w3 ⟨rfl, b3⟩
  have A2 := (at3_new w2 _ _ _ _).step b3
  have A1' := (A1.alloc _).step b3
  have B3 : Below w.heap.size w w3 := B2.trans ((below_over b3).mono B2.size)
  have hne : p1 < w2.heap.size := A1.lt
  clear B2 b3 A1
  generalize w2.heap.size = p2 at *
  obtain ⟨e0, e1, e2, e3⟩ := A1'
  obtain ⟨f0, f1, f2, f3⟩ := A2
  go_wp2_with fail
  refine bodyPost_ret (v := .bool true) (by simp [results, Try.results6, go_sem]) rfl ⟨rfl, ?_⟩
  exact bel_alloc B3 _
end Go.Proofs.Ytegooagmlapngaa
/- The law DecQuotients, of all arguments. -/
namespace Go.Proofs.Ytegooagmlapngaa
open Go.RowKit
set_option linter.unusedVariables false
section
attribute [local go_sem] ext_cell ext_frozen ext_drew ext_of_drew ext_of_drewN ext_setCell ext_lt ext_lt1 ext_lt2 ext_lt3 lt_n2 lt_n3 lt_n4 lt_n5 lt_n6
set_option maxHeartbeats 4000000 in
set_option maxRecDepth 100000 in
theorem quotients_law (ha la sa hb lb sb t mode x0' x1' x2' e1 : Int) (w : World) (S1 : Hid (∀ w, Calls Try.prog 4 #[.agg #[.int .i64 ha, .int .u64 la, .int .i64 sa], .agg #[.int .i64 hb, .int .u64 lb, .int .i64 sb], .int .i64 t, .int .i64 mode] w fun e w' => e = .returned (.tuple #[.agg #[.int .i64 x0', .int .u64 x1', .int .i64 x2'], .int .i64 e1]) ∧ Below w.heap.size w w')) (S2 : Hid (∀ w, Calls Try.prog 5 #[.agg #[.int .i64 ha, .int .u64 la, .int .i64 sa], .agg #[.int .i64 hb, .int .u64 lb, .int .i64 sb], .int .i64 t, .int .i64 mode] w fun e w' => e = .returned (.tuple #[.agg #[.int .i64 x0', .int .u64 x1', .int .i64 x2'], .int .i64 e1]) ∧ Below w.heap.size w w')) :
    Calls Try.prog 3 #[.agg #[.int .i64 ha, .int .u64 la, .int .i64 sa], .agg #[.int .i64 hb, .int .u64 lb, .int .i64 sb], .int .i64 t, .int .i64 mode] w fun e w' => e = .returned (.bool true) ∧ Below w.heap.size w w' := by
  go_enter Try.func3, Try.ntmps3
  go_wp2_with fail
  refine (S1.out _).mono ?_
  rintro e w1 ⟨rfl, bb⟩
  have Aa := ((at3_new w (.int .i64 ha) (.int .u64 la) (.int .i64 sa) 24).alloc (.cells #[.int .i64 hb, .int .u64 lb, .int .i64 sb] 24)).step bb
  have Ab := (at3_new (w.alloc (.cells #[.int .i64 ha, .int .u64 la, .int .i64 sa] 24)) (.int .i64 hb) (.int .u64 lb) (.int .i64 sb) 24).step bb
  have G : Below w.heap.size w w1 := (bel_alloc (bel_alloc (Below.refl _ _) _) _).trans (bb.mono (by simp <;> omega))
  clear bb
  rw [show (w.alloc (.cells #[.int .i64 ha, .int .u64 la, .int .i64 sa] 24)).heap.size = w.heap.size + 1 by simp] at Ab
  obtain ⟨a0, a1, a2, a3⟩ := Aa
  obtain ⟨b0, b1, b2, b3⟩ := Ab
  go_wp2_with fail
  refine (S2.out _).mono ?_
  rintro e w2 ⟨rfl, bb⟩
  clear a0 a1 a2 a3 b0 b1 b2 b3
  have Ap := (at3_new w1 _ _ _ _).step bb
  have G := G.trans ((below_over bb).mono G.size)
  clear bb
  generalize w1.heap.size = pp at *
  obtain ⟨p0, p1, p2, p3⟩ := Ap
  go_wp2_with fail
  refine (awake_any _).mono ?_
  rintro e w3 ⟨rfl, bb⟩
  have Ap := ((At3.mk p0 p1 p2 p3).alloc _).step bb
  clear p0 p1 p2 p3
  have Aq := (at3_new w2 _ _ _ _).step bb
  have G := G.trans ((below_over bb).mono G.size)
  clear bb
  generalize w2.heap.size = pq at *
  obtain ⟨p0, p1, p2, p3⟩ := Ap
  obtain ⟨q0, q1, q2, q3⟩ := Aq
  go_wp2_with fail
  go_ret
  exact ⟨rfl, G⟩

end
section
attribute [local go_sem ↓] Go.wp_at_zero Go.wp_at_succ
set_option maxHeartbeats 1000000 in
set_option maxRecDepth 100000 in
theorem xquo_form1 (ha la sa hb lb sb : Int) (t : Int) (mode : Nat) (ht0 : 0 ≤ t) (ht : t ≤ 18) (hm : (mode : Int) ≤ 6) (w : World) (hbad : Bad ha la sa) :
    Calls Try.prog 5 #[.agg #[.int .i64 ha, .int .u64 la, .int .i64 sa], .agg #[.int .i64 hb, .int .u64 lb, .int .i64 sb], .int .i64 t, .int .i64 mode] w fun e w' => e = .returned (.tuple #[.agg #[.int .i64 0, .int .u64 0, .int .i64 0], .int .i64 3]) ∧ Below w.heap.size w w' := by
  have HB : Hid (Bad _ _ _) := hbad
  clear hbad
  have hW := bel_al (bel_al (bel_al (Below.refl _ w) (.cells #[.int .i64 ha, .int .u64 la, .int .i64 sa] 24)) (.cells #[.int .i64 hb, .int .u64 lb, .int .i64 sb] 24)) (.cells #[.int .i64 0, .int .u64 0, .int .i64 0] 24)
  have B := (v3_new (w.alloc (.cells #[.int .i64 ha, .int .u64 la, .int .i64 sa] 24)) (.int .i64 hb) (.int .u64 lb) (.int .i64 sb) 24).alloc (.cells #[.int .i64 0, .int .u64 0, .int .i64 0] 24)
  rw [size_al] at B
  have R := v3_new ((w.alloc (.cells #[.int .i64 ha, .int .u64 la, .int .i64 sa] 24)).alloc (.cells #[.int .i64 hb, .int .u64 lb, .int .i64 sb] 24)) (.int .i64 0) (.int .u64 0) (.int .i64 0) 24
  rw [size_al, size_al] at R
  have HBB := (show Hid _ from B)
  have HW := (show Hid _ from hW)
  clear B hW
  have HR := (show Hid _ from R)
  clear R
  go_enter Try.func5, Try.ntmps5
  go_wp2_with fail
  refine (way_yes t mode _ ht0 ht hm).mono ?_
  rintro e w0 ⟨rfl, rfl⟩
  go_wp2_with fail
  refine (form_no ha la sa _ HB.out).mono ?_
  rintro e w1 ⟨rfl, hb1⟩
  have hW := HW.out.trans (hb1.mono HW.out.size)
  have B := HBB.out.step hb1
  have R := HR.out.step hb1
  clear hb1 HW HBB HR
  have b0 := B.c0
  have b1 := B.c1
  have b2 := B.c2
  have r0 := R.c0
  have r1 := R.c1
  have r2 := R.c2
  have f0 := R.free 0
  have f1 := R.free 1
  have f2 := R.free 2
  have V := ((R.set0 (.int .i64 0)).set1 (.int .u64 0)).set2 (.int .i64 0)
  have hB := ((hW.setCell (p := ⟨w.heap.size + 1 + 1, 0, none⟩) (by show _ ≤ w.heap.size + 1 + 1; omega) (.int .i64 0)).setCell (p := ⟨w.heap.size + 1 + 1, 1, none⟩) (by show _ ≤ w.heap.size + 1 + 1; omega) (.int .u64 0)).setCell (p := ⟨w.heap.size + 1 + 1, 2, none⟩) (by show _ ≤ w.heap.size + 1 + 1; omega) (.int .i64 0)
  have HB := (show Hid _ from hB)
  have HV := (show Hid _ from V)
  clear V hB R
  go_wp2_with fail
  have c0 := HV.out.c0
  have c1 := HV.out.c1
  have c2 := HV.out.c2
  refine bodyPost_ret (v := .tuple #[.agg #[.int .i64 0, .int .u64 0, .int .i64 0], .int .i64 3]) (by simp [results, Try.results5, go_sem, *]) rfl ⟨rfl, HB.out⟩
set_option maxHeartbeats 1000000 in
set_option maxRecDepth 100000 in
theorem xquo_form2 (ha la sa hb lb sb : Int) (t : Int) (mode : Nat) (ht0 : 0 ≤ t) (ht : t ≤ 18) (hm : (mode : Int) ≤ 6) (w : World) (ca : Int) (na : Nat) (ia : InR ca) (hna : (na : Int) ≤ 18) (e0 : ha = dhi ca) (e1 : la = dlo ca) (e2 : sa = na) (hbad : Bad hb lb sb) :
    Calls Try.prog 5 #[.agg #[.int .i64 ha, .int .u64 la, .int .i64 sa], .agg #[.int .i64 hb, .int .u64 lb, .int .i64 sb], .int .i64 t, .int .i64 mode] w fun e w' => e = .returned (.tuple #[.agg #[.int .i64 0, .int .u64 0, .int .i64 0], .int .i64 3]) ∧ Below w.heap.size w w' := by
  have HB : Hid (Bad _ _ _) := hbad
  clear hbad
  subst e0 e1 e2
  have hW := bel_al (bel_al (bel_al (Below.refl _ w) (.cells #[.int .i64 (dhi ca), .int .u64 (dlo ca), .int .i64 (na : Int)] 24)) (.cells #[.int .i64 hb, .int .u64 lb, .int .i64 sb] 24)) (.cells #[.int .i64 0, .int .u64 0, .int .i64 0] 24)
  have B := (v3_new (w.alloc (.cells #[.int .i64 (dhi ca), .int .u64 (dlo ca), .int .i64 (na : Int)] 24)) (.int .i64 hb) (.int .u64 lb) (.int .i64 sb) 24).alloc (.cells #[.int .i64 0, .int .u64 0, .int .i64 0] 24)
  rw [size_al] at B
  have R := v3_new ((w.alloc (.cells #[.int .i64 (dhi ca), .int .u64 (dlo ca), .int .i64 (na : Int)] 24)).alloc (.cells #[.int .i64 hb, .int .u64 lb, .int .i64 sb] 24)) (.int .i64 0) (.int .u64 0) (.int .i64 0) 24
  rw [size_al, size_al] at R
  have HBB := (show Hid _ from B)
  have HW := (show Hid _ from hW)
  clear B hW
  have HR := (show Hid _ from R)
  clear R
  go_enter Try.func5, Try.ntmps5
  go_wp2_with fail
  refine (way_yes t mode _ ht0 ht hm).mono ?_
  rintro e w0 ⟨rfl, rfl⟩
  go_wp2_with fail
  refine (form_yes ca na _ ia hna).mono ?_
  rintro e w1 ⟨rfl, hb1⟩
  have hW := HW.out.trans (hb1.mono HW.out.size)
  have B := HBB.out.step hb1
  have R := HR.out.step hb1
  clear hb1 HW HBB HR
  have b0 := B.c0
  have b1 := B.c1
  have b2 := B.c2
  go_wp2_with fail
  refine (form_no hb lb sb _ HB.out).mono ?_
  rintro e w2 ⟨rfl, hb1⟩
  replace hW := hW.trans (hb1.mono hW.size)
  replace R := R.step hb1
  clear hb1 b0 b1 b2 B
  have r0 := R.c0
  have r1 := R.c1
  have r2 := R.c2
  have f0 := R.free 0
  have f1 := R.free 1
  have f2 := R.free 2
  have V := ((R.set0 (.int .i64 0)).set1 (.int .u64 0)).set2 (.int .i64 0)
  have hB := ((hW.setCell (p := ⟨w.heap.size + 1 + 1, 0, none⟩) (by show _ ≤ w.heap.size + 1 + 1; omega) (.int .i64 0)).setCell (p := ⟨w.heap.size + 1 + 1, 1, none⟩) (by show _ ≤ w.heap.size + 1 + 1; omega) (.int .u64 0)).setCell (p := ⟨w.heap.size + 1 + 1, 2, none⟩) (by show _ ≤ w.heap.size + 1 + 1; omega) (.int .i64 0)
  have HB := (show Hid _ from hB)
  have HV := (show Hid _ from V)
  clear V hB R
  go_wp2_with fail
  have c0 := HV.out.c0
  have c1 := HV.out.c1
  have c2 := HV.out.c2
  refine bodyPost_ret (v := .tuple #[.agg #[.int .i64 0, .int .u64 0, .int .i64 0], .int .i64 3]) (by simp [results, Try.results5, go_sem, *]) rfl ⟨rfl, HB.out⟩
set_option maxHeartbeats 1000000 in
set_option maxRecDepth 100000 in
theorem xquo_arg (ha la sa hb lb sb t mode : Int) (w : World) (hbad : (t < 0 ∨ 18 < t) ∨ mode < 0 ∨ 6 < mode) :
    Calls Try.prog 5 #[.agg #[.int .i64 ha, .int .u64 la, .int .i64 sa], .agg #[.int .i64 hb, .int .u64 lb, .int .i64 sb], .int .i64 t, .int .i64 mode] w fun e w' => e = .returned (.tuple #[.agg #[.int .i64 0, .int .u64 0, .int .i64 0], .int .i64 1]) ∧ Below w.heap.size w w' := by
  have HB := (show Hid _ from hbad)
  clear hbad
  go_enter Try.func5, Try.ntmps5
  go_wp2_with fail
  refine (way_no t mode _ HB.out).mono ?_
  rintro e w1 ⟨rfl, rfl⟩
  go_wp2_with fail
  refine bodyPost_ret (v := .tuple #[.agg #[.int .i64 0, .int .u64 0, .int .i64 0], .int .i64 1]) (by simp [results, Try.results5, go_sem]) rfl ⟨rfl, bel_al (bel_al (bel_al (Below.refl _ _) _) _) _⟩

end

theorem quotients_walk (ha la sa hb lb sb t mode : Int) (wha : (Lit.int .i64 ha).wf = true) (wla : (Lit.int .u64 la).wf = true) (whb : (Lit.int .i64 hb).wf = true) (wlb : (Lit.int .u64 lb).wf = true) (w : World) :
    Calls Try.prog 3 #[.agg #[.int .i64 ha, .int .u64 la, .int .i64 sa], .agg #[.int .i64 hb, .int .u64 lb, .int .i64 sb], .int .i64 t, .int .i64 mode] w fun e w' => e = .returned (.bool true) ∧ Below w.heap.size w w' := by
  by_cases hbd : (t < 0 ∨ 18 < t) ∨ mode < 0 ∨ 6 < mode
  · exact quotients_law ha la sa hb lb sb t mode _ _ _ _ w (fun w => quo_arg ha la sa hb lb sb t mode w hbd) (fun w => xquo_arg ha la sa hb lb sb t mode w hbd)
  · obtain ⟨k, rfl⟩ := Int.eq_ofNat_of_zero_le (show 0 ≤ t by omega)
    obtain ⟨m, rfl⟩ := Int.eq_ofNat_of_zero_le (show 0 ≤ mode by omega)
    rcases form_cases ha la sa wha wla with hbad | ⟨ca, na, rfl, rfl, rfl, ia, hna⟩
    · exact quotients_law ha la sa hb lb sb k m _ _ _ _ w (fun w => quo_form ha la sa hb lb sb k m w (by omega) (by omega) (by omega) fun w => both_bad1 ha la sa hb lb sb w hbad) (fun w => xquo_form1 ha la sa hb lb sb k m (by omega) (by omega) (by omega) w hbad)
    · rcases form_cases hb lb sb whb wlb with hbad | ⟨cb, nb, rfl, rfl, rfl, ib, hnb⟩
      · exact quotients_law _ _ _ hb lb sb k m _ _ _ _ w (fun w => quo_form _ _ _ hb lb sb k m w (by omega) (by omega) (by omega) fun w => both_bad2 ca _ _ hb lb sb na w (IsD.self _) ia hna hbad) (fun w => xquo_form2 _ _ _ hb lb sb k m (by omega) (by omega) (by omega) w ca na ia hna rfl rfl rfl hbad)
      · by_cases h0 : cb = 0
        · exact quotients_law _ _ _ _ _ _ k m _ _ _ _ w (fun w => quo_zero ca _ _ cb _ _ na nb k m w (IsD.self _) (IsD.self _) ia ib hna hnb (by omega) (by omega) h0) (fun w => (xquo_any ca cb na nb k m w ia ib hna hnb (by omega) (by omega)).mono (by
            rintro e w' ⟨⟨_, h⟩ | ⟨h, _⟩ | ⟨h, _⟩, hb⟩
            · exact ⟨h, hb⟩
            · exact absurd h0 h
            · exact absurd h0 h))
        · by_cases hr : InR (qv ca na cb nb k m)
          · exact quotients_law _ _ _ _ _ _ k m _ _ _ _ w (fun w => dquo_yes ca cb na nb k m w ia ib hna hnb (by omega) (by omega) h0 hr) (fun w => (xquo_any ca cb na nb k m w ia ib hna hnb (by omega) (by omega)).mono (by
              rintro e w' ⟨⟨h, _⟩ | ⟨_, _, h⟩ | ⟨_, h, _⟩, hb⟩
              · exact absurd h h0
              · exact ⟨h, hb⟩
              · exact absurd hr h))
          · exact quotients_law _ _ _ _ _ _ k m _ _ _ _ w (fun w => dquo_no ca cb na nb k m w ia ib hna hnb (by omega) (by omega) h0 hr) (fun w => (xquo_any ca cb na nb k m w ia ib hna hnb (by omega) (by omega)).mono (by
              rintro e w' ⟨⟨h, _⟩ | ⟨_, h, _⟩ | ⟨_, _, h⟩, hb⟩
              · exact absurd h h0
              · exact absurd h hr
              · exact ⟨h, hb⟩))
end Go.Proofs.Ytegooagmlapngaa
/- DecQuotients: every quotient is the true one, rounded once: the law answers true for all inputs. No condition beyond the row. -/
namespace Go.Proofs.Ytegooagmlapngaa.decQuotients
open Go.ChangeShapes Go.WideShapes Go.ChangeAt Go.RowKit Go.Joins
set_option linter.unusedVariables false

theorem own : ownKnob Try.prog.godebug = none := by kernel_rfl
theorem cellsDec : Try.prog.cellsOf 24 = 3 := by kernel_rfl
theorem decReads {H : Type} {enc : TypeId × Value → H} (W' : World) (b : Nat) (sp : Nat → Bool) (hd : Bool) (h l s : Int) (wh : (Lit.int .i64 h).wf = true) (wl : (Lit.int .u64 l).wf = true) (ws : (Lit.int .i64 s).wf = true) :
    DataW.Trod enc Try.prog W' b sp hd 24 (.agg #[.int .i64 h, .int .u64 l, .int .i64 s]) (.agg [.lit (.int .i64 h), .lit (.int .u64 l), .lit (.int .i64 s)]) [] := by
  simpa using shut_agg3 (enc := enc) (w := W') (base := b) (spare := sp) (held := hd) (y0 := (.lit (.int .i64 h), [])) (y1 := (.lit (.int .u64 l), [])) (y2 := (.lit (.int .i64 s), [])) Try.underlying24 (by kernel_rfl) cellsDec ⟨1, by simp [DataW.trod, Try.underlying2, wh]⟩ ⟨1, by simp [DataW.trod, Try.underlying22, wl]⟩ ⟨1, by simp [DataW.trod, Try.underlying3, ws]⟩

set_option maxRecDepth 100000 in
theorem lifted (os : Os) (started : os.Started) (H : Type) (enc : TypeId × Value → H) :
    ReturnsInHanded {} Try.checked os 3 .any (Rows.decQuotientsSpec.pre6 enc Try.prog Try.f3 Rows.decQuotientsRow.domain false) (Rows.decQuotientsSpec.post enc Try.prog Try.f3 false true false false) := by
  refine returnsInHanded_of_change (C := Try.checked) own started (by kernel_rfl) Try.func3
    (ChangeSpec.witness6 (enc := enc) (C := Try.checked) false ⟨#[], #[.agg #[.int .i64 0, .int .u64 0, .int .i64 0], .agg #[.int .i64 0, .int .u64 0, .int .i64 0], .int .i64 0, .int .i64 0], []⟩ 8 (by kernel_rfl) (by kernel_rfl) (by kernel_rfl) (by kernel_rfl)) ?_
  intro W base args ds gs before hval0 hW hcnd _
  have hval : ∀ (j : Nat) t v, Try.f3.params[j]? = some t → args[j]? = some v → Value.okWide Try.prog W .any base t v := hval0
  have hW' := hW
  obtain ⟨p, q, hA0, hV, rfl, hfz, hnd⟩ := hW
  have hA : DataW.TrodAll enc Try.prog W 0 (fun _ => true) true Try.f3.params.toList args.toList ds p := hA0
  rw [Try.params3] at hA hval
  obtain ⟨v0, vs0, d0, ds0, p0, q0, hargs, rfl, rfl, hr0, r0⟩ := trodAll_cons hA
  obtain ⟨v1, vs1, d1, ds1, p1, q1, rfl, rfl, rfl, hr1, r1⟩ := trodAll_cons r0
  obtain ⟨v2, vs2, d2, ds2, p2, q2, rfl, rfl, rfl, hr2, r2⟩ := trodAll_cons r1
  obtain ⟨v3, vs3, d3, ds3, p3, q3, rfl, rfl, rfl, hr3, r3⟩ := trodAll_cons r2
  obtain ⟨rfl, rfl, rfl⟩ := trodAll_nil r3
  obtain rfl : args = #[v0, v1, v2, v3] := by cases args; simp_all
  obtain ⟨rfl, rfl⟩ := trodVars_none hV
  obtain ⟨c00, c01, c02, y00, y01, y02, m0, rfl, rfl, rfl, hy00, hy01, hy02⟩ := open_agg3 Try.underlying24 (by kernel_rfl) cellsDec (hval 0 24 v0 rfl rfl) hr0
  obtain ⟨h0, e00, rfl, wh0⟩ := DataW.trod_int Try.underlying2 hy00
  obtain ⟨l0, e01, rfl, wl0⟩ := DataW.trod_int Try.underlying22 hy01
  obtain ⟨s0, e02, rfl, ws0⟩ := DataW.trod_int Try.underlying3 hy02
  simp at e00 e01 e02
  subst e00 e01 e02
  obtain ⟨c10, c11, c12, y10, y11, y12, m1, rfl, rfl, rfl, hy10, hy11, hy12⟩ := open_agg3 Try.underlying24 (by kernel_rfl) cellsDec (hval 1 24 v1 rfl rfl) hr1
  obtain ⟨h1, e10, rfl, wh1⟩ := DataW.trod_int Try.underlying2 hy10
  obtain ⟨l1, e11, rfl, wl1⟩ := DataW.trod_int Try.underlying22 hy11
  obtain ⟨s1, e12, rfl, ws1⟩ := DataW.trod_int Try.underlying3 hy12
  simp at e10 e11 e12
  subst e10 e11 e12
  obtain ⟨a2, rfl, rfl, rfl, w2⟩ := open_int Try.underlying3 (hval 2 3 v2 rfl rfl) hr2
  obtain ⟨a3, rfl, rfl, rfl, w3⟩ := open_int Try.underlying3 (hval 3 3 v3 rfl rfl) hr3
  clear hA0 hval0
  simp only [List.append_nil] at hW'
  have walk : Calls Try.prog 3 #[.agg #[.int .i64 h0, .int .u64 l0, .int .i64 s0], .agg #[.int .i64 h1, .int .u64 l1, .int .i64 s1], .int .i64 a2, .int .i64 a3] W fun e w' => e = .returned (.bool true) ∧ Below W.heap.size W w' := quotients_walk h0 l0 s0 h1 l1 s1 a2 a3 wh0 wl0 wh1 wl1 W
  refine walk.mono fun e W' ⟨he, hg⟩ => ?_
  subst he
  exact ⟨_, rfl, _, _, _, [], [], [], hW', trodAll_cons_mk (shut_bool Try.underlying4 _) trodAll_mk0, (trodAll_cons_mk (decReads _ _ _ _ h0 l0 s0 wh0 wl0 ws0) (trodAll_cons_mk (decReads _ _ _ _ h1 l1 s1 wh1 wl1 ws1) (trodAll_cons_mk (shut_int Try.underlying3 w2) (trodAll_cons_mk (shut_int Try.underlying3 w3) trodAll_mk0)))), rfl, hg.frame _, fun h => by cases h⟩
theorem over : Rows.decQuotientsRow.holds Try.pinned (OpenSpec.ofChange Rows.decQuotientsSpec) :=
  OpenClaim.holds_of_wide 3 Try.f3 rfl rfl rfl rfl rfl rfl rfl ⟨rfl, rfl, rfl, rfl, rfl⟩ rfl rfl rfl rfl rfl (by kernel_rfl) Try.func3 (by kernel_rfl)
    (of_decide_eq_true (by kernel_rfl)) (by unfold Func.isWrapper; first | (rw [if_pos (by decide +kernel)]; kernel_rfl) | (rw [if_neg (by decide +kernel)]; exact ⟨rfl, rfl⟩))
    (fun os started H enc _ => lifted os started H enc)
end Go.Proofs.Ytegooagmlapngaa.decQuotients
namespace Go.Proofs.Ytegooagmlapngaa
theorem decQuotients_holds : Rows.DecQuotientsSaid := decQuotients.over
#print axioms decQuotients_holds
end Go.Proofs.Ytegooagmlapngaa
