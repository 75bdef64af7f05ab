/- event: the reader over any bytes: tiers. -/
import Derived.Test.YtcognhhbpapibaaDoorEt
namespace Go.Proofs.YtcognhhbpapibaaDoor
open Go.RowKit
set_option linter.unusedVariables false

theorem put_next (ts : List (Int × Int)) (n j : Nat) (t : Int × Int) (hl : ts.length = j) (hj : j < n) : (ts ++ List.replicate (n - j) (0, 0)).set j t = (ts ++ [t]) ++ List.replicate (n - (j + 1)) (0, 0) := by
  rw [List.set_append_right _ _ (by omega), hl, Nat.sub_self, show n - j = n - (j + 1) + 1 by omega, List.replicate_succ, List.set_cons_zero, List.append_assoc]
  rfl
theorem St.wrong {w0 w : World} {p : Nat} {c bs : List Nat} (h : St w0 w p c bs) (d : List Nat) : St w0 (w.setCell ⟨p, 1, none⟩ (.bool true)) p d bs := by
  obtain ⟨v, b, rs, h1, h2, h3⟩ := h
  exact ⟨v, true, rs, VA.set h1 1 (.bool true), h2, fun e => by cases e⟩
theorem St.cell1 {w0 w : World} {p : Nat} {c bs : List Nat} (h : St w0 w p c bs) : ∃ b, w.cell? ⟨p, 1, none⟩ = some (.bool b) ∧ w.frozen? ⟨p, 1, none⟩ = false := by
  obtain ⟨v, b, rs, h1, h2, h3⟩ := h
  exact ⟨b, VA.cell h1 1 rfl, VA.free h1 1⟩
set_option maxHeartbeats 1000000 in
set_option maxRecDepth 100000 in
theorem tiers_any (p : Nat) (c bs : List Nat) (w0 w : World) (h : St w0 w p c bs) (hB : Below w0.heap.size w0 w) (hp : w0.heap.size ≤ p) :
    Calls Tryd.prog 37 #[.pointer (some ⟨p, 0, none⟩)] w fun r w' => (∃ (ts : List (Int × Int)) (a : Option Addr) (n k : Nat), r = .returned (.slice a n k) ∧ ts.length ≤ 8 ∧ (∀ b off, a = some ⟨b, off, none⟩ → w.heap.size ≤ b) ∧ Tr w' (.slice a n k) ts ∧ St w0 w' p (c ++ (enc ts.length ++ ts.flatMap t2)) bs) ∧ Ex p w w' := by
  have HH := (show Hid _ from h)
  have HB := (show Hid _ from hB)
  have hps := h.lt
  clear h hB
  go_enter Tryd.func37, Tryd.ntmps37
  go_wp2_with fail
  refine (unsigned_any p c bs w0 _ HH.out HB.out).mono ?_
  rintro e w1 ⟨⟨n, hn, rfl, s1⟩, u1⟩
  have S1 := (show Hid _ from s1)
  have E1 := (show Hid _ from u1.ex)
  have z1 := (show Hid _ from u1.size)
  clear s1 u1 HH
  by_cases h8 : 8 < n
  · obtain ⟨b, c1, f1⟩ := S1.out.cell1
    have d1 : (8 : Int) < (n : Int) := by omega
    go_wp2_with fail
    go_ret
    exact ⟨⟨[], none, 0, 0, rfl, by simp, (fun b off e => by cases e), tr_nil _, S1.out.wrong _⟩, E1.out.trans (upd_set _ _ _ _).ex⟩
  have h8' : n ≤ 8 := by omega
  have d1 : ((8 : Int) < (n : Int)) = False := by simp; omega
  go_wp2_with (at_make; refine mkT rfl _ _ rfl n _ _ (by rfl) (by rfl) rfl h8' ?_; intro w2 V2 b2)
  have S2 := (show Hid _ from S1.out.step b2)
  have E2 := (show Hid _ from E1.out.trans (Ex.of_below b2))
  have K2 : Hid (VA w2 w1.heap.size (tcs ([] ++ List.replicate (n - 0) (0, 0))) 44) := by show VA _ _ _ _; simpa using V2
  have lt2 := b2.size
  clear V2 b2 S1 E1
  obtain ⟨g, hg⟩ : ∃ g, g = w1.heap.size := ⟨_, rfl⟩
  rw [← hg] at K2
  rw [← hg]
  have hgp : p < g := by have := z1.out; omega
  have hgw : w.heap.size ≤ g := by have := z1.out; omega
  clear hg lt2 z1
  go_loopw [17] (fun i wr => ∃ j : Nat, j ≤ n ∧ i = .int .i64 j ∧ Ex p w wr ∧ Hid (∃ ts : List (Int × Int), ts.length = j ∧ (∀ t ∈ ts, I64 t.1 ∧ I64 t.2) ∧ VA wr g (tcs (ts ++ List.replicate (n - j) (0, 0))) 44 ∧ St w0 wr p (c ++ (enc n ++ ts.flatMap t2)) bs)) (fun i _ => n - (intOf i).toNat)
  case atStart => exact ⟨0, by omega, rfl, E2.out, [], rfl, (fun t h => by cases h), K2.out, by simpa using S2.out⟩
  case round =>
    clear E2 K2 S2
    obtain ⟨j, hj, rfl, hex, K⟩ := hrel
    obtain ⟨ts, hl, hwf, K1, K2⟩ := K.out
    have HE := (show Hid _ from hex)
    have HK1 := (show Hid _ from K1)
    have HK2 := (show Hid _ from K2)
    have HW := (show Hid _ from hwf)
    have HLT := (show Hid _ from hl)
    clear hex K1 K2 K hwf hl
    by_cases hjn : j = n
    · subst hjn
      go_wp2_with fail
      go_ret
      refine ⟨⟨ts, some ⟨g, 0, none⟩, j, j, rfl, by have := HLT.out; omega, (fun b off e => by cases e; exact hgw), ?_, ?_⟩, HE.out⟩
      · have := HK1.out
        rw [Nat.sub_self, List.replicate_zero, List.append_nil] at this
        exact va_tr this HLT.out (by omega) HW.out
      · have := HK2.out
        rwa [HLT.out]
    have hj' : j < n := by omega
    have HL : Hid ((ts ++ List.replicate (n - j) ((0, 0) : Int × Int)).length = n) := by
      show _ = _
      rw [List.length_append, List.length_replicate, HLT.out]
      omega
    have HB1 := (show Hid _ from HE.out.below HB.out hp (Nat.le_of_lt (by have := HB.out.size; omega)))
    have ne : g ≠ p := by omega
    go_wp2_with fail
    refine (signed_any p _ bs w0 _ HK2.out HB1.out).mono ?_
    rintro e w3 ⟨⟨m1, hm1, rfl, s3⟩, u3⟩
    have G3 := HK1.out.upd u3 ne
    have E3 := (show Hid _ from HE.out.trans u3.ex)
    have S3 := (show Hid _ from s3)
    have c3 := G3.cell (2 * j) (tcs_get _ j (by rw [HL.out]; exact hj')).1
    have f3 := G3.free (2 * j)
    rw [Nat.mul_comm 2 j] at c3 f3
    have V4 := (G3.set (2 * j) (.int .i64 m1))
    have U4 := upd_set w3 g (2 * j) (.int .i64 m1)
    rw [Nat.mul_comm 2 j] at V4 U4
    have S4 := (show Hid _ from S3.out.upd U4 (by omega))
    have E4 := (show Hid _ from E3.out.set_new (k := j * 2) hgw (.int .i64 m1))
    have HV4 := (show Hid _ from V4)
    clear s3 u3 G3 HK1 HK2 HE HB1 V4 U4 S3 E3
    go_wp2_with fail
    generalize w3.setCell ⟨g, j * 2, none⟩ (.int .i64 m1) = w4 at *
    have B4 := (show Hid _ from E4.out.below HB.out hp (Nat.le_of_lt (by have := HB.out.size; omega)))
    refine (signed_any p _ bs w0 _ S4.out B4.out).mono ?_
    rintro e w5 ⟨⟨m2, hm2, rfl, s5⟩, u5'⟩
    have G5 := HV4.out.upd u5' ne
    have E5 := (show Hid _ from E4.out.trans u5'.ex)
    have S5 := (show Hid _ from s5)
    have lt5 : j * 2 + 1 < ((tcs (ts ++ List.replicate (n - j) (0, 0))).set (j * 2) (.int .i64 m1)).length := by rw [List.length_set, tcs_len, HL.out]; omega
    have c5 := G5.cell (j * 2 + 1) (List.getElem?_eq_getElem lt5)
    have f5 := G5.free (j * 2 + 1)
    have HG5 := (show Hid _ from G5)
    have HT5 := (show Hid _ from tcs_set (ts ++ List.replicate (n - j) (0, 0)) j (m1, m2) (by rw [HL.out]; exact hj'))
    have HS := (show Hid _ from put_next ts n j (m1, m2) HLT.out hj')
    clear s5 u5' G5 E4 HV4 S4 B4 c3 f3
    generalize ((tcs (ts ++ List.replicate (n - j) (0, 0))).set (j * 2) (.int .i64 m1))[j * 2 + 1] = old at *
    go_wp2_with fail
    refine ⟨⟨j + 1, by omega, by go_num, E5.out.set_new (k := j * 2 + 1) hgw _, ts ++ [(m1, m2)], by simp [HLT.out], ?_, ?_, ?_⟩, by simp [intOf]; omega⟩
    · intro t ht
      rcases List.mem_append.1 ht with ht | ht
      · exact HW.out t ht
      · obtain rfl : t = (m1, m2) := by simpa using ht
        exact ⟨hm1, hm2⟩
    · have := HG5.out.set (j * 2 + 1) (.int .i64 m2)
      rw [Nat.mul_comm j 2, ← HT5.out, HS.out] at this
      rw [Nat.mul_comm j 2]
      exact this
    · have := S5.out.upd (upd_set w5 g (j * 2 + 1) (.int .i64 m2)) (show p ≠ g by omega)
      simpa [t2, List.append_assoc] using this
end Go.Proofs.YtcognhhbpapibaaDoor
