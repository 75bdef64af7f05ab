/- event: the reader: tiers, where what is read is of the form. -/
import Derived.Test.YtcognhhbpapibaaDoorEf
namespace Go.Proofs.YtcognhhbpapibaaDoor
open Go.RowKit
set_option linter.unusedVariables false

theorem take_set (ts : List (Int × Int)) (n j : Nat) (hn : ts.length = n) (hj : j < n) : (ts.take j ++ List.replicate (n - j) (0, 0)).set j (ts.getD j (0, 0)) = ts.take (j + 1) ++ List.replicate (n - (j + 1)) (0, 0) := by
  have hl : (ts.take j).length = j := by rw [List.length_take]; omega
  rw [List.set_append_right _ _ (by omega), hl, Nat.sub_self, show n - j = n - (j + 1) + 1 by omega, List.replicate_succ, List.set_cons_zero, List.take_add_one, List.getElem?_eq_getElem (by omega)]
  rw [show ts.getD j (0, 0) = ts[j] by simp [List.getD, List.getElem?_eq_getElem (show j < ts.length by omega)], List.append_assoc]
  rfl
set_option maxHeartbeats 1000000 in
set_option maxRecDepth 100000 in
theorem tiers_yes (p : Nat) (b : Bool) (v : Value) (ts : List (Int × Int)) (ys : List Nat) (w0 w : World) (h : Rd w p v b) (hB : Below w0.heap.size w0 w) (hp : w0.heap.size ≤ p) (hv : Bs w0 v (enc ts.length ++ (ts.flatMap t2 ++ ys))) (h8 : ts.length ≤ 8) (wf : ∀ t ∈ ts, I64 t.1 ∧ I64 t.2) :
    Calls Tryd.prog 37 #[.pointer (some ⟨p, 0, none⟩)] w fun r w' => (∃ g v', r = .returned (.slice (some ⟨g, 0, none⟩) ts.length ts.length) ∧ w.heap.size ≤ g ∧ Tr w' (.slice (some ⟨g, 0, none⟩) ts.length ts.length) ts ∧ Rd w' p v' b ∧ Bs w0 v' ys) ∧ Ex p w w' := by
  have HH := (show Hid _ from h)
  have HB := (show Hid _ from hB)
  have HV := (show Hid _ from hv)
  have HW := (show Hid _ from wf)
  have hps := h.lt
  obtain ⟨n, hn⟩ : ∃ n, n = ts.length := ⟨_, rfl⟩
  have HN := (show Hid _ from hn)
  rw [← hn] at h8
  clear h hB hv wf hn
  go_enter Tryd.func37, Tryd.ntmps37
  go_wp2_with fail
  refine (unsigned_yes p n b v _ _ HH.out (HV.out.step HB.out) (by omega) ⟨_, by rw [HN.out]⟩).mono ?_
  rintro e w1 ⟨rfl, r1, u1⟩
  have X1 : Hid (Bs w0 (cutV v (enc n).length) (ts.flatMap t2 ++ ys)) := bs_cutV HV.out (by rw [HN.out])
  have R1 := (show Hid _ from r1)
  have E1 := (show Hid _ from u1.ex)
  have z1 := (show Hid _ from u1.size)
  obtain ⟨v1, hv1⟩ : ∃ v1, v1 = cutV v (enc n).length := ⟨_, rfl⟩
  rw [← hv1] at X1 R1
  clear r1 u1 HH hv1
  go_wp2_with (at_make; refine mkT rfl _ _ rfl n _ _ (by rfl) (by rfl) rfl h8 ?_; intro w2 V2 b2)
  have R2 := R1.out.step b2
  have E2 := (show Hid _ from E1.out.trans (Ex.of_below b2))
  have K2 : Hid (VA w2 w1.heap.size (tcs (ts.take 0 ++ List.replicate (n - 0) (0, 0))) 44) := by show VA _ _ _ _; simpa using V2
  have HR2 := (show Hid _ from R2)
  have lt2 := b2.size
  clear V2 b2 R2 R1 E1
  obtain ⟨g, hg⟩ : ∃ g, g = w1.heap.size := ⟨_, rfl⟩
  rw [← hg] at K2
  rw [← hg]
  have hgp : p < g := by have := z1.out; omega
  have hgw : w.heap.size ≤ g := by have := z1.out; omega
  clear hg lt2 z1
  go_loopw [17] (fun i wr => ∃ j : Nat, j ≤ n ∧ i = .int .i64 j ∧ Ex p w wr ∧ Hid (VA wr g (tcs (ts.take j ++ List.replicate (n - j) (0, 0))) 44 ∧ ∃ v', Rd wr p v' b ∧ Bs w0 v' ((ts.drop j).flatMap t2 ++ ys))) (fun i _ => n - (intOf i).toNat)
  case atStart => exact ⟨0, by omega, rfl, E2.out, K2.out, v1, HR2.out, by simpa using X1.out⟩
  case round =>
    clear E2 K2 HR2 X1
    obtain ⟨j, hj, rfl, hex, K⟩ := hrel
    obtain ⟨K1, v2, K2, K3⟩ := K.out
    have HE := (show Hid _ from hex)
    have HK1 := (show Hid _ from K1)
    have HK2 := (show Hid _ from K2)
    have HK3 := (show Hid _ from K3)
    clear hex K1 K2 K3 K
    by_cases hjn : j = n
    · subst hjn
      go_wp2_with fail
      go_ret
      refine ⟨⟨g, v2, by rw [← HN.out]; rfl, hgw, ?_, HK2.out, ?_⟩, HE.out⟩
      · have := HK1.out
        rw [Nat.sub_self, List.replicate_zero, List.append_nil, HN.out, List.take_length] at this
        exact va_tr this rfl (by have := HN.out; omega) HW.out
      · have := HK3.out
        rw [HN.out, List.drop_length] at this
        simpa using this
    have hj' : j < n := by omega
    have hjt : j < ts.length := by have := HN.out; omega
    have hw := HW.out (ts.getD j (0, 0)) (by simp [List.getD, hjt])
    have HD := (show Hid _ from drop_t2 ts j hjt)
    have HS := (show Hid _ from take_set ts n j HN.out.symm hj')
    have HL : Hid ((ts.take j ++ List.replicate (n - j) ((0, 0) : Int × Int)).length = n) := by
      show _ = _
      rw [List.length_append, List.length_take, List.length_replicate]
      have := HN.out
      omega
    generalize ts.getD j (0, 0) = t at *
    have HB1 := (show Hid _ from HE.out.below HB.out hp (Nat.le_of_lt (by have := HB.out.size; omega)))
    have ne : g ≠ p := by omega
    have Y1 := (show Hid _ from HK3.out.step HB1.out)
    rw [HD.out] at Y1
    unfold t2 at Y1
    go_wp2_with fail
    refine (signed_yes p t.1 b v2 _ _ HK2.out Y1.out hw.1 ⟨_, by rw [List.append_assoc, List.append_assoc]⟩).mono ?_
    rintro e w3 ⟨rfl, r3, u3⟩
    have G3 := HK1.out.upd u3 ne
    have E3 := (show Hid _ from HE.out.trans u3.ex)
    have B3 := (show Hid _ from E3.out.below HB.out hp (Nat.le_of_lt (by have := HB.out.size; omega)))
    have X3 : Hid (Bs w0 (cutV v2 (enc (zz t.1)).length) (enc (zz t.2) ++ ((ts.drop (j + 1)).flatMap t2 ++ ys))) := by
      refine bs_cutV (xs := enc (zz t.1)) ?_ rfl
      have := HK3.out
      rw [HD.out] at this
      simpa [t2, List.append_assoc] using this
    have R3 := (show Hid _ from r3)
    have c3 := G3.cell (2 * j) (tcs_get _ j (by rw [HL.out]; exact hj')).1
    have f3 := G3.free (2 * j)
    have c4 := c3
    have f4 := f3
    rw [Nat.mul_comm 2 j] at c4 f4
    have HG3 := (show Hid _ from G3)
    clear r3 u3 G3 Y1 HK1 HK2 HK3 HE HB1
    have V4 := (HG3.out.set (2 * j) (.int .i64 t.1))
    have U4 := upd_set w3 g (2 * j) (.int .i64 t.1)
    rw [Nat.mul_comm 2 j] at V4 U4
    have R4 := (show Hid _ from VA.set_other R3.out (show p ≠ g by omega) (j * 2) (.int .i64 t.1))
    have E4 := (show Hid _ from E3.out.set_new (k := j * 2) hgw (.int .i64 t.1))
    have HV4 := (show Hid _ from V4)
    clear V4 U4 R3 E3 HG3 B3
    go_wp2_with fail
    generalize w3.setCell ⟨g, j * 2, none⟩ (.int .i64 t.1) = w4 at *
    have B4 := (show Hid _ from E4.out.below HB.out hp (Nat.le_of_lt (by have := HB.out.size; omega)))
    refine (signed_yes p t.2 b (cutV v2 (enc (zz t.1)).length) _ _ R4.out (X3.out.step B4.out) hw.2 ⟨_, rfl⟩).mono ?_
    rintro e w5 ⟨rfl, r5, u5'⟩
    have G5 := HV4.out.upd u5' ne
    have E5 := (show Hid _ from E4.out.trans u5'.ex)
    have X5 : Hid (Bs w0 (cutV (cutV v2 (enc (zz t.1)).length) (enc (zz t.2)).length) ((ts.drop (j + 1)).flatMap t2 ++ ys)) := bs_cutV (xs := enc (zz t.2)) X3.out rfl
    have R5 := (show Hid _ from r5)
    have lt5 : j * 2 + 1 < ((tcs (ts.take j ++ List.replicate (n - j) (0, 0))).set (j * 2) (.int .i64 t.1)).length := by rw [List.length_set, tcs_len, HL.out]; omega
    have c5 := G5.cell (j * 2 + 1) (List.getElem?_eq_getElem lt5)
    have f5 := G5.free (j * 2 + 1)
    have HG5 := (show Hid _ from G5)
    have HT5 := (show Hid _ from tcs_set (ts.take j ++ List.replicate (n - j) (0, 0)) j t (by rw [HL.out]; exact hj'))
    clear r5 u5' G5 E4 HV4 R4 B4 c3 f3 c4 f4
    generalize ((tcs (ts.take j ++ List.replicate (n - j) (0, 0))).set (j * 2) (.int .i64 t.1))[j * 2 + 1] = old at *
    go_wp2_with fail
    refine ⟨⟨j + 1, by omega, by go_num, E5.out.set_new (k := j * 2 + 1) hgw _, ?_, _, VA.set_other R5.out (show p ≠ g by omega) _ _, X5.out⟩, by simp [intOf]; omega⟩
    have := HG5.out.set (j * 2 + 1) (.int .i64 t.2)
    rw [Nat.mul_comm j 2, ← HT5.out, HS.out] at this
    rw [Nat.mul_comm j 2]
    exact this
end Go.Proofs.YtcognhhbpapibaaDoor
