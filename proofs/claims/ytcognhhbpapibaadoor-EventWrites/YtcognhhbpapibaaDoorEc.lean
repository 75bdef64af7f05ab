/- event: the contract of Write. -/
import Derived.Test.YtcognhhbpapibaaDoorEb
namespace Go.Proofs.YtcognhhbpapibaaDoor
open Go.RowKit
set_option linter.unusedVariables false

/-- the first k numbers as bytes -/
def nbs (ns : List Int) : Nat → List Nat
  | 0 => []
  | k + 1 => nbs ns k ++ enc (zz (ns.getD k 0))
/-- the first k tiers as bytes -/
def tbs (ts : List (Int × Int)) : Nat → List Nat
  | 0 => []
  | k + 1 => tbs ts k ++ enc (zz (ts.getD k (0, 0)).1) ++ enc (zz (ts.getD k (0, 0)).2)
def I64 (n : Int) : Prop := -9223372036854775808 ≤ n ∧ n ≤ 9223372036854775807
theorem zl {n : Int} (h : I64 n) : (enc (zz n)).length ≤ 10 := enc_len (zz_lt h.1 h.2)
theorem nb_len (ns : List Int) (h : ∀ i, I64 (ns.getD i 0)) : ∀ k, (nbs ns k).length ≤ 10 * k
  | 0 => by simp [nbs]
  | k + 1 => by
    have := nb_len ns h k
    have := zl (h k)
    simp only [nbs, List.length_append]
    omega
theorem tb_len (ts : List (Int × Int)) (h : ∀ i, I64 (ts.getD i (0, 0)).1 ∧ I64 (ts.getD i (0, 0)).2) : ∀ k, (tbs ts k).length ≤ 20 * k
  | 0 => by simp [tbs]
  | k + 1 => by
    have := tb_len ts h k
    have := zl (h k).1
    have := zl (h k).2
    simp only [tbs, List.length_append]
    omega
/-- an event's bytes -/
def E8.head (x : E8) : List Nat := [x.op] ++ enc x.key
def E8.bytes (x : E8) : List Nat := x.head ++ nbs x.ns (ct.getD x.op 0) ++ (if x.op = 1 then enc x.ts.length ++ tbs x.ts x.ts.length else [])
theorem tr_wf {w : World} {v : Value} {ts : List (Int × Int)} (h : Tr w v ts) (i : Nat) : I64 (ts.getD i (0, 0)).1 ∧ I64 (ts.getD i (0, 0)).2 := by
  by_cases hi : i < ts.length
  · exact h.wf _ (by simp [hi])
  · simp [List.getD, List.getElem?_eq_none (Nat.le_of_not_lt hi), I64]
theorem info26 : (Tryd.prog.info? 26).map (·.size) = some 11 := by kernel_rfl
theorem Tr.at {w : World} {a : Option Addr} {n c : Nat} {ts : List (Int × Int)} (h : Tr w (.slice a n c) ts) (k : Nat) (hk : k < n) : ∃ b off, a = some ⟨b, off, none⟩ ∧ b < w.heap.size ∧ w.cell? ⟨b, off + 2 * k, none⟩ = some (.int .i64 (ts.getD k (0, 0)).1) ∧ w.cell? ⟨b, off + 2 * k + 1, none⟩ = some (.int .i64 (ts.getD k (0, 0)).2) := by
  obtain ⟨_, a', c', e, h1, h2, h3⟩ := h
  cases e
  obtain ⟨b, off, ea, hb, hx⟩ := h3 (by omega)
  exact ⟨b, off, ea, hb, hx k hk⟩
set_option maxHeartbeats 1000000 in
set_option maxRecDepth 100000 in
theorem write_yes (x : E8) (tv : Value) (w : World) (hx : x.ok) (T : Tc w) (R : Tr w tv x.ts) (hf : x.form) :
    Calls Tryd.prog 9 #[.agg (x.cells tv).toArray] w fun e w' => (∃ u, e = .returned (.tuple #[u, .int .i64 0]) ∧ OwnB w' w.heap.size u x.bytes) ∧ Below w.heap.size w w' := by
  have V := va_new w (x.cells tv) 26
  have HB := (show Hid _ from (Below.refl w.heap.size w).alloc (Nat.le_refl _) (.cells (x.cells tv).toArray 26))
  have HT := (show Hid _ from T.step HB.out (by have := T.lt; omega))
  have HR := (show Hid _ from R.step HB.out)
  have HV := (show Hid _ from V)
  have HX := (show Hid _ from hx)
  have HF := (show Hid _ from hf)
  have hw0 := T.lt
  have hl11 := E8.len11 hx tv
  have HWB : Hid (∀ i, I64 (x.ns.getD i 0)) := fun i => E8.nbd hx i
  have HWT : Hid (∀ i, I64 (x.ts.getD i (0, 0)).1 ∧ I64 (x.ts.getD i (0, 0)).2) := fun i => tr_wf R i
  have o1 := hf.lo
  have o2 := hf.hi
  have ck := hx.key
  obtain ⟨op, hop⟩ : ∃ op, op = x.op := ⟨_, rfl⟩
  have HOP := (show Hid _ from hop)
  rw [← hop] at o1 o2
  obtain ⟨key, hkey⟩ : ∃ key, key = x.key := ⟨_, rfl⟩
  have HKEY := (show Hid _ from hkey)
  rw [← hkey] at ck
  have HH : Hid (x.head = [op] ++ enc key) := by rw [hop, hkey]; rfl
  obtain ⟨N, hN⟩ : ∃ N, N = ct.getD op 0 := ⟨_, rfl⟩
  have HN := (show Hid _ from hN)
  have hN8 : N ≤ 8 := by rw [hN]; exact ct_le op
  clear V T R hx hf hop hkey hN
  go_enter Tryd.func9, Tryd.ntmps9
  go_wp2_with (refine ldA rfl 26 _ rfl w.heap.size (by rfl) _ _ HV.out _ Tryd.underlying26 rfl (info26.trans (by rw [hl11])) ?_)
  generalize w.alloc (.cells (x.cells tv).toArray 26) = w1 at *
  refine (check_in x tv _ HX.out HT.out HR.out HF.out.lo HF.out.hi HF.out.tiers 0 (Or.inl ⟨HF.out.zero, rfl⟩)).mono ?_
  rintro e w2 ⟨rfl, b2⟩
  have V2 := HV.out.step b2
  have y0 := V2.cell 0 (v := .int .u8 (op : Int)) (by rw [HOP.out]; exact x.c0 tv)
  have y1 := V2.cell 1 (v := .int .u64 (key : Int)) (by rw [HKEY.out]; exact x.c1 tv)
  have HV2 := (show Hid _ from V2)
  have HT2 := (show Hid _ from HT.out.step b2 (by have := HB.out.size; omega))
  have HR2 := (show Hid _ from HR.out.step b2)
  have HB2 := (show Hid _ from HB.out.trans (b2.mono HB.out.size))
  have V3 := V2.alloc (.cells #[.int .u8 (op : Int)] 5)
  have y1 := V3.cell 1 (v := .int .u64 (key : Int)) (by rw [HKEY.out]; exact x.c1 tv)
  have X3 : Hid (Bs (w2.alloc (.cells #[.int .u8 (op : Int)] 5)) (.slice (some ⟨w2.heap.size, 0, none⟩) 1 1) [op]) := bs_new w2 [op] (By.one (by omega)) 1 rfl (by omega) 5
  have B3 := (show Hid _ from HB2.out.alloc HB2.out.size (.cells #[.int .u8 (op : Int)] 5))
  have D3 := (show Hid _ from (Below.refl w2.heap.size w2).alloc (Nat.le_refl _) (.cells #[.int .u8 (op : Int)] 5))
  have T3 := (show Hid _ from HT2.out.step D3.out (by have := HB2.out.size; omega))
  have R3 := (show Hid _ from HR2.out.step D3.out)
  have HV3 := (show Hid _ from V3)
  clear V2 b2 HV HT HR HB V3 HV2 HT2 HR2 HB2 D3
  go_wp2_with fail
  generalize w2.alloc (.cells #[.int .u8 (op : Int)] 5) = w3 at *
  refine (uint_ok _ [op] _ _ X3.out (by omega) (by simp)).mono ?_
  rintro e w4 ⟨⟨u4, rfl, o4⟩, b4⟩
  rw [Int.toNat_natCast, ← HH.out] at o4
  have O4 := (show Hid _ from o4.lower B3.out.size)
  have V4 := HV3.out.step b4
  have T4 := T3.out.step b4 (by have := B3.out.size; omega)
  have R4 := (show Hid _ from R3.out.step b4)
  have B4 := (show Hid _ from B3.out.trans (b4.mono B3.out.size))
  have y0 := V4.cell 0 (v := .int .u8 (op : Int)) (by rw [HOP.out]; exact x.c0 tv)
  have yc := T4.row op (by omega)
  rw [← HN.out] at yc
  have HV4 := (show Hid _ from V4)
  clear o4 b4 V4 T4 X3 y1 HV3 T3 R3 B3
  have n1 : (N : Int) ≤ 8 := by omega
  go_wp2_with fail
  have HL1 : Hid (x.head.length ≤ 11) := by
    rw [HH.out, List.length_append]
    have := enc_len (n := key) (by omega)
    show _ ≤ _
    simp; omega
  clear y0 yc
  go_loopw [4, 25] (fun s i wr => ∃ k : Nat, k ≤ N ∧ i = .int .i64 k ∧ OwnB wr w.heap.size s (x.head ++ nbs x.ns k) ∧ Below w.heap.size w wr ∧ Hid (VA wr w.heap.size (x.cells tv) 26 ∧ Tr wr tv x.ts)) (fun _ i _ => N - (intOf i).toNat)
  case atStart => exact ⟨0, by omega, rfl, by simpa [nbs] using O4.out, B4.out, HV4.out, R4.out⟩
  case round =>
    clear O4 B4 HV4 R4
    obtain ⟨k, hk, rfl, hown, hbel, K⟩ := hrel
    have HO := (show Hid _ from hown)
    have HB := (show Hid _ from hbel)
    clear hown hbel
    by_cases hkN : k = N
    · subst hkN
      have y0 := K.out.1.cell 0 (v := .int .u8 (op : Int)) (by rw [HOP.out]; exact x.c0 tv)
      by_cases hop1 : op = 1
      · subst hop1
        rw [show ((1 : Nat) : Int) = 1 from rfl] at y0
        obtain ⟨ta, tc, htv, ht1, ht2⟩ : ∃ a c, tv = .slice a x.ts.length c ∧ x.ts.length ≤ c ∧ c ≤ 9223372036854775807 := by obtain ⟨_, a, c, e, h1, h2, _⟩ := K.out.2; exact ⟨a, c, e, h1, h2⟩
        obtain ⟨tn, htn⟩ : ∃ tn, tn = x.ts.length := ⟨_, rfl⟩
        have HTN := (show Hid _ from htn)
        have HTV := (show Hid _ from htv)
        rw [← htn] at ht1 htv
        have ht8 : tn ≤ 8 := by
          have := HF.out.tiers
          rw [← HOP.out, ← HTN.out] at this
          exact this
        have y10 := K.out.1.cell 10 (v := .slice ta tn tc) (by rw [← htv]; exact E8.ctv HX.out tv)
        have HTV2 := (show Hid _ from htv)
        clear htn htv
        go_wp2_with fail
        refine (uint_ok _ _ _ _ HO.out.bs (by omega) (by have := nb_len x.ns HWB.out k; have := HL1.out; rw [List.length_append]; omega)).mono ?_
        rintro e w5 ⟨⟨u5, rfl, o5⟩, b5⟩
        rw [Int.toNat_natCast] at o5
        have O5 := (show Hid _ from o5.lower HB.out.size)
        have V5 := K.out.1.step b5
        have R5 := K.out.2.step b5
        have B5 := (show Hid _ from HB.out.trans (b5.mono HB.out.size))
        have y10 := V5.cell 10 (v := .slice ta tn tc) (by rw [← HTV2.out]; exact E8.ctv HX.out tv)
        have K5 := (show Hid _ from And.intro V5 R5)
        clear o5 b5 V5 R5 K HO HB y0
        go_wp2_with fail
        go_loopw [4, 46] (fun s i wr => ∃ j : Nat, j ≤ tn ∧ i = .int .i64 j ∧ OwnB wr w.heap.size s (x.head ++ nbs x.ns k ++ enc tn ++ tbs x.ts j) ∧ Below w.heap.size w wr ∧ Hid (Tr wr (.slice ta tn tc) x.ts)) (fun _ i _ => tn - (intOf i).toNat)
        case atStart => exact ⟨0, by omega, rfl, by simpa [tbs] using O5.out, B5.out, by rw [← HTV2.out]; exact K5.out.2⟩
        case round =>
          clear O5 B5 K5 y10
          obtain ⟨j, hj, rfl, hown, hbel, K⟩ := hrel
          have HO := (show Hid _ from hown)
          have HB := (show Hid _ from hbel)
          clear hown hbel
          by_cases hjt : j = tn
          · subst hjt
            go_wp2_with fail
            go_ret2
            refine ⟨⟨_, rfl, ?_⟩, HB.out⟩
            have := HO.out
            unfold E8.bytes
            rw [← HOP.out, ← HN.out, if_pos rfl, ← HTN.out]
            simpa [List.append_assoc] using this
          have hj' : j < tn := by omega
          obtain ⟨b, off, rfl, hb, z1, z2⟩ := K.out.at j hj'
          have w1 := (HWT.out j).1
          have w2 := (HWT.out j).2
          unfold I64 at w1 w2
          have HE : Hid (tbs x.ts (j + 1) = tbs x.ts j ++ enc (zz (x.ts.getD j (0, 0)).1) ++ enc (zz (x.ts.getD j (0, 0)).2)) := rfl
          generalize (x.ts.getD j (0, 0)).1 = f at *
          generalize (x.ts.getD j (0, 0)).2 = g at *
          have zl1 := zl w1
          have z3 : wr.cell? ⟨b, off + j * 2, none⟩ = some (.int .i64 f) := by rw [Nat.mul_comm]; exact z1
          have z4 : wr.cell? ⟨b, off + j * 2 + 1, none⟩ = some (.int .i64 g) := by rw [Nat.mul_comm]; exact z2
          have lens : Hid ((x.head ++ nbs x.ns k ++ enc tn ++ tbs x.ts j).length ≤ 1000) := by
            have := nb_len x.ns HWB.out k
            have := tb_len x.ts HWT.out j
            have := HL1.out
            have := enc_len (n := tn) (by omega)
            show _ ≤ _
            rw [List.length_append, List.length_append, List.length_append]
            omega
          go_wp2_with fail
          have VA0 : VA (wr.alloc (.cells #[.int .i64 f, .int .i64 g] 44)) wr.heap.size [.int .i64 f, .int .i64 g] 44 := va_new wr [.int .i64 f, .int .i64 g] 44
          have DA := (show Hid _ from (Below.refl wr.heap.size wr).alloc (Nat.le_refl _) (.cells #[.int .i64 f, .int .i64 g] 44))
          have q0 := VA0.cell 0 (v := .int .i64 f) rfl
          have q1 := VA0.cell 1 (v := .int .i64 g) rfl
          have HVA := (show Hid _ from VA0)
          have KA := (show Hid _ from K.out.step DA.out)
          have PA := (show Hid _ from HO.out.bs.step DA.out)
          have BA := (show Hid _ from HB.out.trans (DA.out.mono HB.out.size))
          have lw : w.heap.size ≤ wr.heap.size := HB.out.size
          clear VA0 z1 z2 z3 z4 hb DA K HO HB
          generalize wr.alloc (.cells #[.int .i64 f, .int .i64 g] 44) = wa at *
          go_region_held3 (fun w' => w'.cell? ⟨wr.heap.size, 0, none⟩ = some (.int .i64 f) ∧ w'.cell? ⟨wr.heap.size, 1, none⟩ = some (.int .i64 g))
            (first | exact ⟨q0, q1⟩ | exact ⟨V6.cell 0 rfl, V6.cell 1 rfl⟩ | exact ⟨V7.cell 0 rfl, V7.cell 1 rfl⟩)
            (first
              | (go_at_call 24; with_reducible (show Calls _ _ #[_, Value.int .i64 g] _ _); refine (int_ok _ (x.head ++ nbs x.ns k ++ enc tn ++ tbs x.ts j ++ enc (zz f)) g _ o6.bs w2 (by have := lens.out; rw [List.length_append]; omega)).mono ?_; rintro e w7 ⟨⟨u7, rfl, o7⟩, b7⟩; have V7 := V6.step b7)
              | (go_at_call 24; refine (int_ok _ (x.head ++ nbs x.ns k ++ enc tn ++ tbs x.ts j) f _ PA.out.drew w1 (by have := lens.out; omega)).mono ?_; rintro e w6 ⟨⟨u6, rfl, o6⟩, b6⟩; have V6 := HVA.out.drew.step b6; have K6 := KA.out.step (bel_of_drew b6)))
          have B6 := BA.out.trans ((bel_of_drew b6).mono BA.out.size)
          have O7 := (show Hid _ from o7.lower B6.size)
          have B7 := (show Hid _ from B6.trans (b7.mono B6.size))
          have K7 := (show Hid _ from K6.step b7)
          clear o6 o7 b6 b7 V6 V7 q0 q1 HVA PA BA KA K6 B6
          go_wp2_with fail
          refine ⟨⟨j + 1, by omega, by go_num, ?_, B7.out, K7⟩, by simp [intOf]; omega⟩
          rw [HE.out]
          simpa [List.append_assoc] using O7.out
      · have h3 : ((op : Int) == 1) = false := by
          have : ¬ ((op : Int) = 1) := by omega
          simpa using this
        have h4 : ((op : Int) != 1) = true := by simp [bne, h3]
        go_wp2_with fail
        go_ret2
        refine ⟨⟨_, rfl, ?_⟩, HB.out⟩
        have := HO.out
        unfold E8.bytes
        rw [← HOP.out, ← HN.out, if_neg hop1, List.append_nil]
        exact this
    have hk' : k < N := by omega
    have c1 := K.out.1.cell (2 + k) (E8.cn HX.out tv k (by omega))
    have wb := HWB.out k
    unfold I64 at wb
    have HE : Hid (nbs x.ns (k + 1) = nbs x.ns k ++ enc (zz (x.ns.getD k 0))) := rfl
    generalize x.ns.getD k 0 = n at *
    go_wp2_with fail
    refine (int_ok _ _ _ _ HO.out.bs wb (by have := nb_len x.ns HWB.out k; have := HL1.out; rw [List.length_append]; omega)).mono ?_
    rintro e w5 ⟨⟨u5, rfl, o5⟩, b5⟩
    have O5 := (show Hid _ from o5.lower HB.out.size)
    have K5 := (show Hid _ from And.intro (K.out.1.step b5) (K.out.2.step b5))
    have B5 := (show Hid _ from HB.out.trans (b5.mono HB.out.size))
    clear o5 b5 K HO HB c1
    go_wp2_with fail
    refine ⟨⟨k + 1, by omega, by go_num, ?_, B5.out, K5⟩, by simp [intOf]; omega⟩
    rw [HE.out, ← List.append_assoc]
    exact O5.out
end Go.Proofs.YtcognhhbpapibaaDoor
