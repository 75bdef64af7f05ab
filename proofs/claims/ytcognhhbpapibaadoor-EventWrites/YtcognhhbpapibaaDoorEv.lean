/- event: the reader over any bytes: event. -/
import Derived.Test.YtcognhhbpapibaaDoorEu
namespace Go.Proofs.YtcognhhbpapibaaDoor
open Go.RowKit
set_option linter.unusedVariables false

/-- an event of which the numbers ns were read -/
def E8.got (o key : Nat) (ns : List Int) (ts : List (Int × Int)) : E8 := ⟨o, key, ns ++ List.replicate (8 - ns.length) 0, ts⟩
theorem got_ok {o key : Nat} {ns : List Int} {ts : List (Int × Int)} (ho : o ≤ 255) (hk : key < 18446744073709551616) (hl : ns.length ≤ 8) (hb : ∀ n ∈ ns, I64 n) : (E8.got o key ns ts).ok := by
  refine ⟨ho, by show key ≤ _; omega, ?_, fun n hn => ?_⟩
  · simp [E8.got]; omega
  · simp only [E8.got] at hn
    rcases List.mem_append.1 hn with hn | hn
    · exact hb n hn
    · have := List.eq_of_mem_replicate hn; omega
theorem got_set (o key : Nat) (ns : List Int) (n : Int) (tv : Value) (k : Nat) (hl : ns.length = k) (hk : k < 8) : ((E8.got o key ns []).cells tv).set (2 + k) (.int .i64 n) = (E8.got o key (ns ++ [n]) []).cells tv := by
  have e2 : (ns ++ List.replicate (8 - ns.length) 0).set k n = (ns ++ [n]) ++ List.replicate (8 - (ns ++ [n]).length) 0 := by
    rw [List.set_append_right _ _ (by omega), hl, Nat.sub_self, show 8 - k = 8 - (k + 1) + 1 by omega, List.replicate_succ, List.set_cons_zero, List.append_assoc, List.length_append, hl]
    rfl
  unfold E8.cells E8.got
  simp only
  rw [← e2, List.map_set]
  have l2 : ([Value.int .u8 (o : Int), Value.int .u64 (key : Int)] ++ (ns ++ List.replicate (8 - ns.length) 0).map (fun n => Value.int .i64 n)).length = 10 := by simp; omega
  rw [List.set_append_left _ _ (by rw [l2]; omega), List.set_append_right _ _ (by simp)]
  simp
theorem got_form {o key : Nat} {ns : List Int} {ts : List (Int × Int)} (h1 : 1 ≤ o) (h2 : o ≤ 15) (hl : ns.length = ct.getD o 0) (ht : ts.length ≤ most o) : (E8.got o key ns ts).form := by
  refine ⟨h1, h2, ht, fun i hi h8 => ?_⟩
  show (ns ++ List.replicate (8 - ns.length) 0).getD i 0 = 0
  have hi' : ns.length ≤ i := by rw [hl]; exact hi
  rw [List.getD_eq_getElem?_getD, List.getElem?_append_right hi']
  by_cases hx : i - ns.length < 8 - ns.length
  · rw [List.getElem?_replicate_of_lt hx]; rfl
  · rw [List.getElem?_eq_none (by simp; omega)]; rfl
theorem got_bytes {o key : Nat} {ns : List Int} {ts : List (Int × Int)} (hok : (E8.got o key ns ts).ok) (hl : ns.length = ct.getD o 0) : (E8.got o key ns ts).bytes = [o] ++ (enc key ++ (ns.flatMap n1 ++ (if o = 1 then enc ts.length ++ (ts.flatMap t2 ++ []) else []))) := by
  rw [E8.bytes_eq hok]
  have : (ns ++ List.replicate (8 - ns.length) 0).take (ct.getD o 0) = ns := by rw [← hl, List.take_left]
  show [o] ++ (enc key ++ (((ns ++ List.replicate (8 - ns.length) 0).take (ct.getD o 0)).flatMap n1 ++ _)) = _
  rw [this]
  rfl
set_option maxHeartbeats 1000000 in
set_option maxRecDepth 100000 in
theorem event_any (p : Nat) (bs : List Nat) (w0 w : World) (T : Tc w) (h : St w0 w p [] bs) (hB : Below w0.heap.size w0 w) (hp : w0.heap.size ≤ p) (h0 : 0 < w0.heap.size) :
    Calls Tryd.prog 28 #[.pointer (some ⟨p, 0, none⟩)] w fun r w' => (∃ (x : E8) (a : Option Addr) (n k : Nat), r = .returned (.agg (x.cells (.slice a n k)).toArray) ∧ x.ok ∧ (∀ b off, a = some ⟨b, off, none⟩ → w.heap.size ≤ b) ∧ Tr w' (.slice a n k) x.ts ∧ ∃ v b rs, Rd w' p v b ∧ Bs w0 v rs ∧ (b = false → x.form ∧ x.bytes ++ rs = bs)) ∧ Ex p w w' := by
  have hps := h.lt
  have D1 := (Below.refl w.heap.size w).alloc (Nat.le_refl _) (.cells (E8.cells ⟨0, 0, List.replicate 8 0, []⟩ (.slice none 0 0)).toArray 26)
  have D2 := D1.alloc (by simp) (.cells (E8.cells ⟨0, 0, List.replicate 8 0, []⟩ (.slice none 0 0)).toArray 26)
  have A1 := (va_new w (E8.cells ⟨0, 0, List.replicate 8 0, []⟩ (.slice none 0 0)) 26).alloc (.cells (E8.cells ⟨0, 0, List.replicate 8 0, []⟩ (.slice none 0 0)).toArray 26)
  have A2 := va_new (w.alloc (.cells (E8.cells ⟨0, 0, List.replicate 8 0, []⟩ (.slice none 0 0)).toArray 26)) (E8.cells ⟨0, 0, List.replicate 8 0, []⟩ (.slice none 0 0)) 26
  rw [World.size_alloc] at A2
  have R0 := h.step D2
  have HA : Hid (VA _ w.heap.size _ _ ∧ VA _ (w.heap.size + 1) _ _) := ⟨A1, A2⟩
  have HR := (show Hid _ from R0)
  have HD := (show Hid _ from D2)
  have HB0 := (show Hid _ from hB)
  have HB := (show Hid _ from hB.trans (D2.mono hB.size))
  have HT := (show Hid _ from T.step D2 (by omega))
  clear A1 A2 R0 D1 D2 h hB T
  go_enter Tryd.func28, Tryd.ntmps28
  go_wp2_with fail
  change Calls _ _ _ ((w.alloc (.cells (E8.cells ⟨0, 0, List.replicate 8 0, []⟩ (.slice none 0 0)).toArray 26)).alloc (.cells (E8.cells ⟨0, 0, List.replicate 8 0, []⟩ (.slice none 0 0)).toArray 26)) _
  generalize (w.alloc (.cells (E8.cells ⟨0, 0, List.replicate 8 0, []⟩ (.slice none 0 0)).toArray 26)).alloc (.cells (E8.cells ⟨0, 0, List.replicate 8 0, []⟩ (.slice none 0 0)).toArray 26) = w1 at *
  refine (op_any p bs w0 _ HR.out HB.out).mono ?_
  rintro e w2 ⟨⟨o, ho, rfl, s2⟩, u2⟩
  have E2 := (show Hid _ from (Ex.of_below (p := p) HD.out).trans u2.ex)
  have V2 := HA.out.2.upd u2 (by omega)
  have Z2 := (show Hid _ from HA.out.1.upd u2 (by omega))
  have T2 := (show Hid _ from HT.out.step (u2.bel (Below.refl 1 w1) (by omega)) (by omega))
  have B2 := (show Hid _ from u2.bel HB.out hp)
  have c0 := V2.cell 0 (E8.c0 _ _)
  have f0 := V2.free 0
  have V3 := V2.set 0 (.int .u8 (o : Int))
  rw [set0] at V3
  have U3 := upd_set w2 (w.heap.size + 1) 0 (.int .u8 (o : Int))
  have y0 := V3.cell 0 (v := .int .u8 (o : Int)) rfl
  have Z3 := (show Hid _ from Z2.out.upd U3 (by omega))
  have S3 := (show Hid _ from s2.upd U3 (by omega))
  have E3 := (show Hid _ from E2.out.upd_new U3 (by omega))
  have B3 := (show Hid _ from U3.bel B2.out (by omega))
  have T3 := (show Hid _ from T2.out.step (U3.bel (Below.refl 1 w2) (by omega)) (by omega))
  have HV3 := (show Hid _ from V3)
  clear s2 u2 HA HR HT V2 V3 Z2 E2 B2 T2 U3
  go_wp2_with fail
  generalize w2.setCell ⟨w.heap.size + 1, 0, none⟩ (.int .u8 (o : Int)) = w3 at *
  by_cases hop : o < 1 ∨ 15 < o
  · refine (count_no o _ hop ho).mono ?_
    rintro e w4 ⟨rfl, rfl⟩
    obtain ⟨b, c1, f1⟩ := S3.out.cell1
    have S4 := (show Hid _ from S3.out.wrong [])
    have U4 := upd_set w4 p 1 (.bool true)
    have V4 := (show Hid _ from HV3.out.upd U4 (by omega))
    have Z4 := (show Hid _ from Z3.out.upd U4 (by omega))
    have E4 := (show Hid _ from E3.out.trans U4.ex)
    have l11 := E8.len11 (x := ⟨o, 0, List.replicate 8 0, []⟩) (got_ok (key := 0) (ns := []) (ts := []) ho (by omega) (by simp) (fun n h => by cases h))
    clear U4 c0 f0
    go_wp2_with (first
      | (refine ldA rfl 26 _ rfl (w.heap.size + 1) (by rfl) _ _ V4.out _ Tryd.underlying26 rfl (info26.trans (by rw [l11])) ?_)
      | (refine stA rfl 26 _ _ rfl w.heap.size (by rfl) _ (E8.cells ⟨o, 0, List.replicate 8 0, []⟩ (.slice none 0 0)) (by rfl) _ Z4.out (info26.trans (by rw [l11])) (by rw [l11]; rfl) (fun u hu => ev_one hu) ?_; intro w9 R9 U9))
    obtain ⟨v5, b5, rs5, g1, g2, g3⟩ := S4.out
    obtain rfl : b5 = true := by
      have h1 := VA.cell g1 1 rfl
      obtain ⟨v6, b6, rs6, k1, k2, k3⟩ := S3.out
      have h2 := VA.cell (VA.set k1 1 (.bool true)) 1 rfl
      rw [h2] at h1
      simpa using h1.symm
    refine bodyPost_ret (v := .agg (E8.cells ⟨o, 0, List.replicate 8 0, []⟩ (.slice none 0 0)).toArray) ?_ rfl ⟨⟨⟨o, 0, List.replicate 8 0, []⟩, none, 0, 0, rfl, (got_ok (key := 0) (ns := []) (ts := []) ho (by omega) (by simp) (fun n h => by cases h)), (fun _ _ e => by cases e), tr_nil _, v5, true, rs5, VA.upd g1 U9 (by omega), g2, fun e => by cases e⟩, E4.out.upd_new U9 (Nat.le_refl _)⟩
    have hld := run_loadVar_row (P := Tryd.prog) w9 w.heap.size 26 26 _ (0, 0) _ R9.blk Tryd.underlying26 rfl (info26.trans (by rw [List.size_toArray, l11]))
    simp [results, Tryd.results28, asAddr, hld, Act.put]
  have o1 : 1 ≤ o := by omega
  have o2 : o ≤ 15 := by omega
  refine (count_yes o _ T3.out o1 o2).mono ?_
  rintro e w4 ⟨rfl, rfl⟩
  obtain ⟨N, hN⟩ : ∃ N, N = ct.getD o 0 := ⟨_, rfl⟩
  have HN := (show Hid _ from hN)
  rw [← hN]
  have hN8 : N ≤ 8 := by rw [hN]; exact ct_le _
  clear hN y0 c0 f0
  go_wp2_with fail
  refine (unsigned_any p _ bs w0 _ S3.out B3.out).mono ?_
  rintro e w5 ⟨⟨key, hkey, rfl, s5⟩, u5⟩
  have E5 := (show Hid _ from E3.out.trans u5.ex)
  have V5 := HV3.out.upd u5 (by omega)
  have Z5 := (show Hid _ from Z3.out.upd u5 (by omega))
  have c1 := V5.cell 1 (E8.c1 _ _)
  have f1 := V5.free 1
  have V6 := V5.set 1 (.int .u64 (key : Int))
  rw [set1] at V6
  have U6 := upd_set w5 (w.heap.size + 1) 1 (.int .u64 (key : Int))
  have Z6 := (show Hid _ from Z5.out.upd U6 (by omega))
  have S6 := (show Hid _ from s5.upd U6 (by omega))
  have E6 := (show Hid _ from E5.out.upd_new U6 (by omega))
  have HV6 := (show Hid _ from V6)
  clear s5 u5 V5 V6 Z3 S3 E3 B3 HV3 Z5 E5 T3 U6
  go_wp2_with fail
  generalize w5.setCell ⟨w.heap.size + 1, 1, none⟩ (.int .u64 (key : Int)) = w6 at *
  have K6 : Hid (∃ ns : List Int, ns.length = 0 ∧ (∀ n ∈ ns, I64 n) ∧ VA w6 w.heap.size (E8.cells ⟨0, 0, List.replicate 8 0, []⟩ (.slice none 0 0)) 26 ∧ VA w6 (w.heap.size + 1) ((E8.got o key ns []).cells (.slice none 0 0)) 26 ∧ St w0 w6 p ([o] ++ (enc key ++ ns.flatMap n1)) bs) := ⟨[], rfl, (fun n h => by cases h), Z6.out, HV6.out, by simpa using S6.out⟩
  clear Z6 HV6 S6 c1 f1
  go_loopw [26] (fun i wr => ∃ k : Nat, k ≤ N ∧ i = .int .i64 k ∧ Ex p w wr ∧ Hid (∃ ns : List Int, ns.length = k ∧ (∀ n ∈ ns, I64 n) ∧ VA wr w.heap.size (E8.cells ⟨0, 0, List.replicate 8 0, []⟩ (.slice none 0 0)) 26 ∧ VA wr (w.heap.size + 1) ((E8.got o key ns []).cells (.slice none 0 0)) 26 ∧ St w0 wr p ([o] ++ (enc key ++ ns.flatMap n1)) bs)) (fun i _ => N - (intOf i).toNat)
  case atStart => exact ⟨0, by omega, rfl, E6.out, K6⟩
  case round =>
    clear E6 K6
    obtain ⟨k, hk, rfl, hex, K⟩ := hrel
    obtain ⟨ns, K0, Kb, K1, K2, K3⟩ := K.out
    have HE := (show Hid _ from hex)
    have HL := (show Hid _ from K0)
    have HNB := (show Hid _ from Kb)
    have HK1 := (show Hid _ from K1)
    have HK2 := (show Hid _ from K2)
    have HK3 := (show Hid _ from K3)
    have HB1 := (show Hid _ from HE.out.below HB0.out hp (by omega))
    clear hex K K0 Kb K1 K2 K3
    by_cases hkN : k = N
    · subst hkN
      have y0 := HK2.out.cell 0 (v := .int .u8 (o : Int)) rfl
      have HLN : Hid (ns.length = ct.getD o 0) := by rw [HL.out]; exact HN.out
      by_cases hop1 : o = 1
      · subst hop1
        rw [show (((1 : Nat)) : Int) = 1 from rfl] at y0
        go_wp2_with fail
        refine (tiers_any p _ bs w0 _ HK3.out HB1.out hp).mono ?_
        rintro e w8 ⟨⟨ts, ta, tn, tc, rfl, ht8, hfar, t8, s8⟩, e8⟩
        have OK1 := (show Hid _ from got_ok (o := 1) (ts := []) (by omega) hkey (show ns.length ≤ 8 by rw [HL.out]; exact hN8) HNB.out)
        have OK2 := (show Hid _ from got_ok (o := 1) (ts := ts) (by omega) hkey (show ns.length ≤ 8 by rw [HL.out]; exact hN8) HNB.out)
        have l11 := E8.len11 OK2.out
        have l2 := HK2.out.lt
        have V8 := HK2.out.ex e8 (by omega)
        have Z8 := HK1.out.ex e8 (by omega)
        have E8' := (show Hid _ from HE.out.trans e8)
        have c10 := V8.cell 10 (E8.ctv OK1.out _)
        have f10 := V8.free 10
        have V9 := V8.set 10 (.slice ta tn tc)
        rw [cells_tv _ OK1.out] at V9
        replace V9 : VA _ _ ((E8.got 1 key ns ts).cells (.slice ta tn tc)) _ := V9
        have U9 := upd_set w8 (w.heap.size + 1) 10 (.slice ta tn tc)
        have Z9 := (show Hid _ from Z8.upd U9 (by omega))
        have S9 := (show Hid _ from s8.upd U9 (by omega))
        have hg2 : Hid (∀ b off, ta = some ⟨b, off, none⟩ → w.heap.size + 1 < b) := fun b off e => by have := hfar b off e; omega
        have T9 := (show Hid _ from t8.upd U9 (fun b off n c e => by cases e; have := hg2.out b off rfl; omega))
        have E9 := (show Hid _ from E8'.out.upd_new U9 (by omega))
        have HV9 := (show Hid _ from V9)
        clear V8 Z8 V9 U9 E8' t8 s8 e8 HK1 HK2 HK3 HE hfar
        go_wp2_with (first
          | (refine ldA rfl 26 _ rfl (w.heap.size + 1) (by rfl) _ _ HV9.out _ Tryd.underlying26 rfl (info26.trans (by rw [l11])) ?_)
          | (refine stA rfl 26 _ _ rfl w.heap.size (by rfl) _ ((E8.got 1 key ns ts).cells (.slice ta tn tc)) (by rfl) _ Z9.out (info26.trans (by rw [l11])) (by rw [l11]; rfl) (fun u hu => ev_one hu) ?_; intro wa Ra Ua))
        obtain ⟨v5, b5, rs5, g1, g2, g3⟩ := S9.out
        refine bodyPost_ret (v := .agg ((E8.got 1 key ns ts).cells (.slice ta tn tc)).toArray) ?_ rfl ⟨⟨E8.got 1 key ns ts, ta, tn, tc, rfl, OK2.out, (fun b off e => by have := hg2.out b off e; omega), T9.out.upd Ua (fun b off n c e => by cases e; have := hg2.out b off rfl; omega), v5, b5, rs5, VA.upd g1 Ua (by omega), g2, fun e => ⟨got_form o1 o2 HLN.out ht8, ?_⟩⟩, E9.out.upd_new Ua (Nat.le_refl _)⟩
        · have hld := run_loadVar_row (P := Tryd.prog) wa w.heap.size 26 26 _ (0, 0) _ Ra.blk Tryd.underlying26 rfl (info26.trans (by rw [List.size_toArray, l11]))
          simp [results, Tryd.results28, asAddr, hld, Act.put]
        · have := g3 e
          rw [got_bytes OK2.out HLN.out, if_pos rfl]
          rw [← this]
          simp only [List.append_nil, List.append_assoc]
      · have h3 : ((o : Int) == 1) = false := by
          have : ¬ ((o : Int) = 1) := by omega
          simpa using this
        have OK1 := (show Hid _ from got_ok (o := o) (ts := []) ho hkey (show ns.length ≤ 8 by rw [HL.out]; exact hN8) HNB.out)
        have l11 := E8.len11 OK1.out
        go_wp2_with (first
          | (refine ldA rfl 26 _ rfl (w.heap.size + 1) (by rfl) _ _ HK2.out _ Tryd.underlying26 rfl (info26.trans (by rw [l11])) ?_)
          | (refine stA rfl 26 _ _ rfl w.heap.size (by rfl) _ ((E8.got o key ns []).cells (.slice none 0 0)) (by rfl) _ HK1.out (info26.trans (by rw [l11])) (by rw [l11]; rfl) (fun u hu => ev_one hu) ?_; intro w9 R9 U9))
        obtain ⟨v5, b5, rs5, g1, g2, g3⟩ := HK3.out
        refine bodyPost_ret (v := .agg ((E8.got o key ns []).cells (.slice none 0 0)).toArray) ?_ rfl ⟨⟨E8.got o key ns [], none, 0, 0, rfl, OK1.out, (fun _ _ e => by cases e), tr_nil _, v5, b5, rs5, VA.upd g1 U9 (by omega), g2, fun e => ⟨got_form o1 o2 HLN.out (by simp), ?_⟩⟩, HE.out.upd_new U9 (Nat.le_refl _)⟩
        · have hld := run_loadVar_row (P := Tryd.prog) w9 w.heap.size 26 26 _ (0, 0) _ R9.blk Tryd.underlying26 rfl (info26.trans (by rw [List.size_toArray, l11]))
          simp [results, Tryd.results28, asAddr, hld, Act.put]
        · have := g3 e
          rw [got_bytes OK1.out HLN.out, if_neg hop1, ← this]
          simp only [List.append_nil, List.append_assoc]
    have hk' : k < N := by omega
    have OKk := (show Hid _ from got_ok (o := o) (ts := []) ho hkey (show ns.length ≤ 8 by rw [HL.out]; omega) HNB.out)
    go_wp2_with fail
    refine (signed_any p _ bs w0 _ HK3.out HB1.out).mono ?_
    rintro e w8 ⟨⟨n, hn, rfl, s8⟩, u8'⟩
    have E8' := (show Hid _ from HE.out.trans u8'.ex)
    have V8 := HK2.out.upd u8' (by omega)
    have Z8 := (show Hid _ from HK1.out.upd u8' (by omega))
    have S8 := (show Hid _ from s8)
    have c8 := V8.cell (2 + k) (E8.cn OKk.out _ k (by omega))
    have f8 := V8.free (2 + k)
    have HV8 := (show Hid _ from V8)
    clear s8 u8' V8 HK1 HK2 HK3 HE
    generalize (E8.got o key ns []).ns.getD k 0 = old at *
    go_wp2_with fail
    refine ⟨⟨k + 1, by omega, by go_num, E8'.out.set_new (k := 2 + k) (show w.heap.size ≤ w.heap.size + 1 by omega) _, ns ++ [n], by simp [HL.out], ?_, Z8.out.set_other (show w.heap.size ≠ w.heap.size + 1 by omega) _ _, ?_, ?_⟩, by simp [intOf]; omega⟩
    · intro m hm
      rcases List.mem_append.1 hm with hm | hm
      · exact HNB.out m hm
      · obtain rfl : m = n := by simpa using hm
        exact hn
    · rw [← got_set o key ns n _ k HL.out (by omega)]
      exact HV8.out.set (2 + k) _
    · have := S8.out.upd (upd_set w8 (w.heap.size + 1) (2 + k) (.int .i64 n)) (show p ≠ w.heap.size + 1 by omega)
      simpa [n1, List.append_assoc] using this
end Go.Proofs.YtcognhhbpapibaaDoor
