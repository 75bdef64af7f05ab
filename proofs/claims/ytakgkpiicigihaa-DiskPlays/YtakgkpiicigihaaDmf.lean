/- disk XLIV: the document's carry. -/
import Derived.Test.YtakgkpiicigihaaM1
namespace Go.Proofs.Ytakgkpiicigihaa
open Go.RowKit Go.Maps Go.Sort Go.Shelf pk
set_option linter.unusedVariables false
set_option linter.unusedSimpArgs false

theorem wrap_sm (x : Int) (h1 : 0 ≤ x) (h2 : x ≤ 9223372036854775807) : IntKind.i64.wrap x = x := by
  unfold IntKind.wrap
  simp [IntKind.signed, IntKind.bits]
  omega
set_option maxRecDepth 100000 in
set_option maxHeartbeats 2000000 in
theorem car_sync (w : World) (B q : Nat) (fv : Value) (y : RK) (h : RD w B q fv y) (s u : ByteArray) (n : Int) (i : Nat) (hi : rix y.fs s.data.toList = some i) (x : RF) (hx : y.fs[i]? = some x) :
    Calls Try.prog 62 #[ptr q, .int .i64 1, .string s, .string u, .int .i64 n] w fun r w' => (∃ v, r = .returned v) ∧ ∃ f' : RF, f'.nm = s.data.toList ∧ f'.bs = x.bs ∧ f'.ks = List.replicate x.ks.length true ∧ RLp w w' B q { y with fs := putL f' false y.fs } := by
  obtain ⟨fa, fc, hfv, hc1, hc2⟩ := h.row.form
  subst hfv
  have HH := (show Hid _ from h)
  obtain ⟨hil, hnm⟩ := rix_at hi
  have HIX : Hid (rixI y.fs s.data.toList = (i : Int)) := (show rixI y.fs s.data.toList = (i : Int) by unfold rixI; rw [hi])
  have hmem : x ∈ y.fs := List.mem_of_getElem? hx
  have hxe : y.fs[i] = x := by rw [List.getElem?_eq_getElem hil] at hx; exact Option.some.inj hx
  rw [hxe] at hnm
  clear hxe
  have hRf := h.fil x hmem
  obtain ⟨b, off, ha, hbl, hcell⟩ := h.row.sl.at i x hx
  subst ha
  have HCL0 : Hid (∀ j v, [Value.string ⟨x.nm.toArray⟩, .slice x.ba x.bs.length x.bc, .slice x.ka x.ks.length x.kc][j]? = some v → w.cell? ⟨b, off + i * 3 + j, none⟩ = some v) := hcell
  have HRF : Hid (Rf w x) := hRf
  have HMEM : Hid (x ∈ y.fs) := hmem
  have HNM : Hid (x.nm = s.data.toList) := hnm
  have hcnt := h.cnt
  have HCNT : Hid (y.fs.length ≤ 64) := h.cnt
  have hkl : x.ks.length ≤ 65536 := by have := rtot_out hmem; have := h.room; omega
  have HROOM : Hid (rtot y.fs ≤ y.room) := h.room.1
  have hlq := h.va.lt
  have y0 := h.va.cell 0 (v := .slice (some ⟨b, off, none⟩) y.fs.length fc) rfl
  have d1 : (i : Int) < (y.fs.length : Int) := by omega
  clear hil hx
  generalize hN : y.fs.length = N at *
  have hp : (ptr q) = .pointer (some ⟨q, 0, none⟩) := rfl
  rw [hp]
  clear h hRf hmem hcell hN hi hnm
  go_enter Try.func62, Try.ntmps62
  go_wp2_with fail
  refine (rfind_ok _ B q _ y HH.out s).mono ?_
  rintro e w1 ⟨rfl, b1⟩
  rw [HIX.out]
  have HB1 : Hid (Below w.heap.size w w1) := b1
  have y1 := (HB1.out.cell (p := ⟨q, 0, none⟩) hlq).trans y0
  have HCL : Hid (∀ j v, [Value.string ⟨x.nm.toArray⟩, .slice x.ba x.bs.length x.bc, .slice x.ka x.ks.length x.kc][j]? = some v → w1.cell? ⟨b, off + i * 3 + j, none⟩ = some v) := fun j v hj => (HB1.out.cell (p := ⟨b, off + i * 3 + j, none⟩) hbl).trans (HCL0.out j v hj)
  clear b1
  go_upto_region 3 with (refine wpList_load_mid rfl 94 _ rfl b (off + i * 3) (by rfl) _ _ HCL.out Try.underlying94 rfl infoF3 ?_)
  have HVB : Hid (VA (w1.alloc (.cells #[.string ⟨x.nm.toArray⟩, .slice x.ba x.bs.length x.bc, .slice x.ka x.ks.length x.kc] 94)) w1.heap.size x.cells 94) := va_new w1 x.cells _
  have HB2 : Hid (Below w.heap.size w (w1.alloc (.cells #[.string ⟨x.nm.toArray⟩, .slice x.ba x.bs.length x.bc, .slice x.ka x.ks.length x.kc] 94))) := HB1.out.trans (((Below.refl w1.heap.size w1).alloc (Nat.le_refl _) _).mono HB1.out.size)
  have HSZ : Hid (w.heap.size ≤ w1.heap.size) := HB1.out.size
  generalize hgb : w1.alloc (.cells #[.string ⟨x.nm.toArray⟩, .slice x.ba x.bs.length x.bc, .slice x.ka x.ks.length x.kc] 94) = w2 at *
  clear hgb
  have p0 := HVB.out.cell 0 (v := .string ⟨x.nm.toArray⟩) rfl
  have p1 := HVB.out.cell 1 (v := .slice x.ba x.bs.length x.bc) rfl
  have p2 := HVB.out.cell 2 (v := .slice x.ka x.ks.length x.kc) rfl
  go_wp2_with fail
  refine wp_region_noPanic ?_
  refine wp_region_held_drew (S := fun V => VA V w1.heap.size x.cells 94) (by kernel_rfl) HVB.out.drew ?_
  intro hHeld
  have HBd : Hid (Below w.heap.size w w2.drew) := HB2.out.drew
  generalize w2.drew = w3 at *
  refine takeD 0 28 (.pointer (some ⟨q, 0, none⟩)) (by exact rfl) rfl (by kernel_rfl) (by kernel_rfl) (by kernel_rfl) (fun _ _ _ h => h) (Or.inl ⟨by rfl, ?_⟩) (by assumption) ?_
  · intro wq hS
    go_simp
  try simp only [Act.put, List.setIfInBounds_toArray, List.set_cons_zero, List.set_cons_succ]
  refine takeD 1 29 (.string s) (by exact rfl) rfl (by kernel_rfl) (by kernel_rfl) (by kernel_rfl) (fun _ _ _ h => h) (Or.inl ⟨by rfl, ?_⟩) (by assumption) ?_
  · intro wq hS
    go_simp
  try simp only [Act.put, List.setIfInBounds_toArray, List.set_cons_zero, List.set_cons_succ]
  refine takeD 2 30 (.pointer (some ⟨w1.heap.size, 1, none⟩)) (by exact rfl) rfl (by kernel_rfl) (by kernel_rfl) (by kernel_rfl) (fun _ _ _ h => h) (Or.inl ⟨by rfl, ?_⟩) (by assumption) ?_
  · intro wq hS
    go_simp
  try simp only [Act.put, List.setIfInBounds_toArray, List.set_cons_zero, List.set_cons_succ]
  refine takeD 3 31 (.slice x.ba x.bs.length x.bc) (by exact rfl) rfl (by kernel_rfl) (by kernel_rfl) (by kernel_rfl) (fun _ _ _ h => h) (Or.inl ⟨by rfl, ?_⟩) (by assumption) ?_
  · intro wq hS
    have c := hS.cell 1 (v := .slice x.ba x.bs.length x.bc) rfl
    go_simp
  try simp only [Act.put, List.setIfInBounds_toArray, List.set_cons_zero, List.set_cons_succ]
  refine takeD 4 32 (.pointer (some ⟨w1.heap.size, 2, none⟩)) (by exact rfl) rfl (by kernel_rfl) (by kernel_rfl) (by kernel_rfl) (fun _ _ _ h => h) (Or.inl ⟨by rfl, ?_⟩) (by assumption) ?_
  · intro wq hS
    go_simp
  try simp only [Act.put, List.setIfInBounds_toArray, List.set_cons_zero, List.set_cons_succ]
  refine takeD 5 33 (.slice x.ka x.ks.length x.kc) (by exact rfl) rfl (by kernel_rfl) (by kernel_rfl) (by kernel_rfl) (fun _ _ _ h => h) (Or.inl ⟨by rfl, ?_⟩) (by assumption) ?_
  · intro wq hS
    have c := hS.cell 2 (v := .slice x.ka x.ks.length x.kc) rfl
    go_simp
  try simp only [Act.put, List.setIfInBounds_toArray, List.set_cons_zero, List.set_cons_succ]
  refine takeD 6 34 (.int .i64 (x.ks.length : Int)) (by exact rfl) rfl (by kernel_rfl) (by kernel_rfl) (by kernel_rfl) (fun _ _ _ h => h) (Or.inl ⟨by rfl, ?_⟩) (by assumption) ?_
  · intro wq hS
    go_simp
  try simp only [Act.put, List.setIfInBounds_toArray, List.set_cons_zero, List.set_cons_succ]
  refine wpAnyH_ready (rs := [7]) (by kernel_rfl) (by simp) ?_
  refine AllReadyH.cons (by exact rfl) (fun K hK => ?_) AllReadyH.nil
  go_simp
  refine (flags_ok x.ks.length (by omega) true w3).mono ?_
  rintro e w4 ⟨⟨kv, rfl, hN4⟩, b4⟩
  obtain ⟨g, hkv, hg, hBl, hSf⟩ := hN4.in (by rw [List.length_replicate]; omega)
  rw [List.length_replicate] at hkv
  subst hkv
  go_wp2_with fail
  refine hK.out _ _ (hHeld.step b4) (fun hHeld4 => ?_)
  clear hK K
  try simp only [Act.put, List.setIfInBounds_toArray, List.set_cons_zero, List.set_cons_succ]
  refine takeD 8 36 (.agg #[.string s, .slice x.ba x.bs.length x.bc, .slice (some ⟨g, 0, none⟩) x.ks.length x.ks.length]) (by exact rfl) rfl (by kernel_rfl) (by kernel_rfl) (by kernel_rfl) (fun _ _ _ h => h) (Or.inl ⟨by rfl, ?_⟩) (by assumption) ?_
  · intro wq hS
    go_simp
  try simp only [Act.put, List.setIfInBounds_toArray, List.set_cons_zero, List.set_cons_succ]
  have b34 : Below w.heap.size w w4 := HBd.out.trans (b4.mono HBd.out.size)
  have HD4 := HH.out.step b34
  obtain ⟨f', hf'⟩ : ∃ f' : RF, f' = ⟨s.data.toList, x.ba, x.bc, x.bs, some ⟨g, 0, none⟩, x.ks.length, List.replicate x.ks.length true⟩ := ⟨_, rfl⟩
  have HF' := (show Hid _ from hf')
  have HCE : Hid ((.agg #[.string s, .slice x.ba x.bs.length x.bc, .slice (some ⟨g, 0, none⟩) x.ks.length x.ks.length]   : Value) = .agg f'.cells.toArray) := by
    show _ = _
    rw [hf']
    show _ = Value.agg #[.string ⟨s.data.toList.toArray⟩, .slice x.ba (x.bs).length x.bc, .slice (some ⟨g, 0, none⟩) (List.replicate x.ks.length true).length x.ks.length]
    rw [bytes_back, List.length_replicate, show (x.bs).length = x.bs.length from rfl]
  have hRf4 := HRF.out.step b34
  have hR' : Rf w4 f' := by
    rw [hf']
    refine ⟨?_, ?_, ?_, ?_, ?_, fun e => (by cases e), by rw [← HNM.out]; exact hRf4.nm⟩
    · exact hRf4.b
    · exact hRf4.bs
    · show Bl w4 (.slice (some ⟨g, 0, none⟩) (List.replicate x.ks.length true).length x.ks.length) _
      rw [List.length_replicate]
      exact hBl
    · show SafeX w4 (.slice (some ⟨g, 0, none⟩) (List.replicate x.ks.length true).length x.ks.length)
      rw [List.length_replicate]
      exact hSf
    · show x.bs.length = 32 * (List.replicate x.ks.length true).length
      rw [List.length_replicate]
      exact hRf4.len
  have hff := put_fits (y := y) (f := f') HMEM.out (by rw [hf', HNM.out]) (by rw [hf']; show (List.replicate x.ks.length true).length ≤ _; rw [List.length_replicate]; exact Nat.le_refl _) HH.out.cnt HROOM.out
  clear hf'
  refine wpAnyH_ready (rs := [9]) (by kernel_rfl) (by simp) ?_
  refine AllReadyH.cons (by exact rfl) (fun K hK => ?_) AllReadyH.nil
  go_simp
  rw [HCE.out]
  refine (put_ok w4 B q _ y HD4 f' hR' hff.1 hff.2 (fun g hg => putL_mem hg)).mono ?_
  rintro e w5 ⟨⟨vv, rfl⟩, h5⟩
  go_wp2_with fail
  have hqb : w1.heap.size ≠ q := by have := HSZ.out; omega
  refine hK.out _ _ (hHeld4.but h5.2 hqb) (fun hHeld5 => ?_)
  clear hK K
  refine wpAnyH_done (by kernel_rfl) ?_ _
  refine NoPanic.normal ?_
  have HFIN : Hid (∃ f' : RF, f'.nm = s.data.toList ∧ f'.bs = x.bs ∧ f'.ks = List.replicate x.ks.length true ∧ RLp w w5 B q { y with fs := putL f' false y.fs }) := ⟨f', by rw [HF'.out], by rw [HF'.out], by rw [HF'.out], h5.back b34⟩
  clear hHeld hHeld4 hHeld5 h5 hff hR' hRf4 HD4 b34 b4 hBl hSf
  go_wp2_with fail
  go_end0
  exact ⟨⟨_, rfl⟩, HFIN.out⟩
set_option maxRecDepth 100000 in
set_option maxHeartbeats 2000000 in
theorem car_trunc (w : World) (B q : Nat) (fv : Value) (y : RK) (h : RD w B q fv y) (s u : ByteArray) (n : Nat) (hn : n ≤ 9223372036854775807) (i : Nat) (hi : rix y.fs s.data.toList = some i) (x : RF) (hx : y.fs[i]? = some x) :
    Calls Try.prog 62 #[ptr q, .int .i64 2, .string s, .string u, .int .i64 (n : Int)] w fun r w' => (∃ v, r = .returned v) ∧ ∃ f' : RF, f'.nm = s.data.toList ∧ f'.bs = x.bs.take (32 * min n x.ks.length) ∧ f'.ks = List.replicate (min n x.ks.length) true ∧ RLp w w' B q { y with fs := putL f' false y.fs } := by
  obtain ⟨fa, fc, hfv, hc1, hc2⟩ := h.row.form
  subst hfv
  have HH := (show Hid _ from h)
  obtain ⟨hil, hnm⟩ := rix_at hi
  have HIX : Hid (rixI y.fs s.data.toList = (i : Int)) := (show rixI y.fs s.data.toList = (i : Int) by unfold rixI; rw [hi])
  have hmem : x ∈ y.fs := List.mem_of_getElem? hx
  have hxe : y.fs[i] = x := by rw [List.getElem?_eq_getElem hil] at hx; exact Option.some.inj hx
  rw [hxe] at hnm
  clear hxe
  have hRf := h.fil x hmem
  obtain ⟨b, off, ha, hbl, hcell⟩ := h.row.sl.at i x hx
  subst ha
  have HCL0 : Hid (∀ j v, [Value.string ⟨x.nm.toArray⟩, .slice x.ba x.bs.length x.bc, .slice x.ka x.ks.length x.kc][j]? = some v → w.cell? ⟨b, off + i * 3 + j, none⟩ = some v) := hcell
  have HRF : Hid (Rf w x) := hRf
  have HMEM : Hid (x ∈ y.fs) := hmem
  have HNM : Hid (x.nm = s.data.toList) := hnm
  have hcnt := h.cnt
  have HCNT : Hid (y.fs.length ≤ 64) := h.cnt
  have hkl : x.ks.length ≤ 65536 := by have := rtot_out hmem; have := h.room; omega
  have HROOM : Hid (rtot y.fs ≤ y.room) := h.room.1
  have hlq := h.va.lt
  have y0 := h.va.cell 0 (v := .slice (some ⟨b, off, none⟩) y.fs.length fc) rfl
  have d1 : (i : Int) < (y.fs.length : Int) := by omega
  clear hil hx
  generalize hN : y.fs.length = N at *
  have hp : (ptr q) = .pointer (some ⟨q, 0, none⟩) := rfl
  rw [hp]
  obtain ⟨KM, hKM⟩ : ∃ KM, KM = min n x.ks.length := ⟨_, rfl⟩
  rw [← hKM]
  have hmin : ∀ w', (Builtin.min_ #[3, 3] 3 #[.int .i64 (n : Int), .int .i64 (x.ks.length : Int)]).run Try.prog w' = .ok (.int .i64 (KM : Int)) w' := fun w' => by
    rw [run_min_int2]
    congr 2
    split <;> omega
  have hKl : KM ≤ x.ks.length := by omega
  have HKL : Hid (KM ≤ x.ks.length) := hKl
  obtain ⟨KK, hKK⟩ : ∃ KK, KK = 32 * KM := ⟨_, rfl⟩
  rw [← hKK]
  have HKK : Hid (KK = 32 * KM) := hKK
  have hKb : KK ≤ x.bs.length := by rw [hRf.len]; omega
  obtain ⟨_, _, _, ebv, hbc1, hbc2, _⟩ := hRf.b
  unfold RF.bv at ebv
  cases ebv
  have e1 : (KK : Int) ≤ (x.bs.length : Int) := by omega
  have e2 : (KK : Int) ≤ (x.bc : Int) := by omega
  have e3 : KK ≤ x.bc := by omega
  have e4 : KM ≤ 65536 := by omega
  have hKd : decide (KK ≤ x.bc) = true := by simp; omega
  clear hKM hKK hKl
  clear h hRf hmem hcell hN hi hnm
  go_enter Try.func62, Try.ntmps62
  go_wp2_with fail
  refine (rfind_ok _ B q _ y HH.out s).mono ?_
  rintro e w1 ⟨rfl, b1⟩
  rw [HIX.out]
  have HB1 : Hid (Below w.heap.size w w1) := b1
  have y1 := (HB1.out.cell (p := ⟨q, 0, none⟩) hlq).trans y0
  have HCL : Hid (∀ j v, [Value.string ⟨x.nm.toArray⟩, .slice x.ba x.bs.length x.bc, .slice x.ka x.ks.length x.kc][j]? = some v → w1.cell? ⟨b, off + i * 3 + j, none⟩ = some v) := fun j v hj => (HB1.out.cell (p := ⟨b, off + i * 3 + j, none⟩) hbl).trans (HCL0.out j v hj)
  clear b1
  go_upto_region 3 with (refine wpList_load_mid rfl 94 _ rfl b (off + i * 3) (by rfl) _ _ HCL.out Try.underlying94 rfl infoF3 ?_)
  have HVB : Hid (VA (w1.alloc (.cells #[.string ⟨x.nm.toArray⟩, .slice x.ba x.bs.length x.bc, .slice x.ka x.ks.length x.kc] 94)) w1.heap.size x.cells 94) := va_new w1 x.cells _
  have HB2 : Hid (Below w.heap.size w (w1.alloc (.cells #[.string ⟨x.nm.toArray⟩, .slice x.ba x.bs.length x.bc, .slice x.ka x.ks.length x.kc] 94))) := HB1.out.trans (((Below.refl w1.heap.size w1).alloc (Nat.le_refl _) _).mono HB1.out.size)
  have HSZ : Hid (w.heap.size ≤ w1.heap.size) := HB1.out.size
  generalize hgb : w1.alloc (.cells #[.string ⟨x.nm.toArray⟩, .slice x.ba x.bs.length x.bc, .slice x.ka x.ks.length x.kc] 94) = w2 at *
  clear hgb
  have p0 := HVB.out.cell 0 (v := .string ⟨x.nm.toArray⟩) rfl
  have p1 := HVB.out.cell 1 (v := .slice x.ba x.bs.length x.bc) rfl
  have p2 := HVB.out.cell 2 (v := .slice x.ka x.ks.length x.kc) rfl
  go_wp2_with fail
  refine wp_region_noPanic ?_
  refine wp_region_held_drew (S := fun V => VA V w1.heap.size x.cells 94) (by kernel_rfl) HVB.out.drew ?_
  intro hHeld
  have HBd : Hid (Below w.heap.size w w2.drew) := HB2.out.drew
  generalize w2.drew = w3 at *
  refine takeD 0 45 (.pointer (some ⟨q, 0, none⟩)) (by exact rfl) rfl (by kernel_rfl) (by kernel_rfl) (by kernel_rfl) (fun _ _ _ h => h) (Or.inl ⟨by rfl, ?_⟩) (by assumption) ?_
  · intro wq hS
    go_simp
  try simp only [Act.put, List.setIfInBounds_toArray, List.set_cons_zero, List.set_cons_succ]
  refine takeD 1 46 (.string s) (by exact rfl) rfl (by kernel_rfl) (by kernel_rfl) (by kernel_rfl) (fun _ _ _ h => h) (Or.inl ⟨by rfl, ?_⟩) (by assumption) ?_
  · intro wq hS
    go_simp
  try simp only [Act.put, List.setIfInBounds_toArray, List.set_cons_zero, List.set_cons_succ]
  refine takeD 2 47 (.pointer (some ⟨w1.heap.size, 1, none⟩)) (by exact rfl) rfl (by kernel_rfl) (by kernel_rfl) (by kernel_rfl) (fun _ _ _ h => h) (Or.inl ⟨by rfl, ?_⟩) (by assumption) ?_
  · intro wq hS
    go_simp
  try simp only [Act.put, List.setIfInBounds_toArray, List.set_cons_zero, List.set_cons_succ]
  refine takeD 3 48 (.slice x.ba x.bs.length x.bc) (by exact rfl) rfl (by kernel_rfl) (by kernel_rfl) (by kernel_rfl) (fun _ _ _ h => h) (Or.inl ⟨by rfl, ?_⟩) (by assumption) ?_
  · intro wq hS
    have c := hS.cell 1 (v := .slice x.ba x.bs.length x.bc) rfl
    go_simp
  try simp only [Act.put, List.setIfInBounds_toArray, List.set_cons_zero, List.set_cons_succ]
  refine takeD 4 49 (.int .i64 (KM : Int)) (by exact rfl) rfl (by kernel_rfl) (by kernel_rfl) (by kernel_rfl) (fun _ _ _ h => h) (Or.inl ⟨by rfl, ?_⟩) (by assumption) ?_
  · intro wq hS
    go_simp
  try simp only [Act.put, List.setIfInBounds_toArray, List.set_cons_zero, List.set_cons_succ]
  refine takeD 5 50 (.int .i64 (KK : Int)) (by exact rfl) rfl (by kernel_rfl) (by kernel_rfl) (by kernel_rfl) (fun _ _ _ h => h) (Or.inl ⟨by rfl, ?_⟩) (by assumption) ?_
  · intro wq hS
    go_simp
    rw [wrap_sm _ (by omega) (by omega)]; have := HKK.out; omega
  try simp only [Act.put, List.setIfInBounds_toArray, List.set_cons_zero, List.set_cons_succ]
  refine takeD 6 51 (.slice x.ba KK x.bc) (by exact rfl) rfl (by kernel_rfl) (by kernel_rfl) (by kernel_rfl) (fun _ _ _ h => h) (Or.inl ⟨by rfl, ?_⟩) (by assumption) ?_
  · intro wq hS
    go_simp
  try simp only [Act.put, List.setIfInBounds_toArray, List.set_cons_zero, List.set_cons_succ]
  refine takeD 7 52 (.int .i64 (KM : Int)) (by exact rfl) rfl (by kernel_rfl) (by kernel_rfl) (by kernel_rfl) (fun _ _ _ h => h) (Or.inl ⟨by rfl, ?_⟩) (by assumption) ?_
  · intro wq hS
    go_simp
  try simp only [Act.put, List.setIfInBounds_toArray, List.set_cons_zero, List.set_cons_succ]
  refine wpAnyH_ready (rs := [8]) (by kernel_rfl) (by simp) ?_
  refine AllReadyH.cons (by exact rfl) (fun K hK => ?_) AllReadyH.nil
  go_simp
  refine (flags_ok KM (by omega) true w3).mono ?_
  rintro e w4 ⟨⟨kv, rfl, hN4⟩, b4⟩
  obtain ⟨g, hkv, hg, hBl, hSf⟩ := hN4.in (by rw [List.length_replicate]; omega)
  rw [List.length_replicate] at hkv
  subst hkv
  go_wp2_with fail
  refine hK.out _ _ (hHeld.step b4) (fun hHeld4 => ?_)
  clear hK K
  try simp only [Act.put, List.setIfInBounds_toArray, List.set_cons_zero, List.set_cons_succ]
  refine takeD 9 54 (.agg #[.string s, .slice x.ba KK x.bc, .slice (some ⟨g, 0, none⟩) KM KM]) (by exact rfl) rfl (by kernel_rfl) (by kernel_rfl) (by kernel_rfl) (fun _ _ _ h => h) (Or.inl ⟨by rfl, ?_⟩) (by assumption) ?_
  · intro wq hS
    go_simp
  try simp only [Act.put, List.setIfInBounds_toArray, List.set_cons_zero, List.set_cons_succ]
  have b34 : Below w.heap.size w w4 := HBd.out.trans (b4.mono HBd.out.size)
  have HD4 := HH.out.step b34
  obtain ⟨f', hf'⟩ : ∃ f' : RF, f' = ⟨s.data.toList, x.ba, x.bc, x.bs.take KK, some ⟨g, 0, none⟩, KM, List.replicate KM true⟩ := ⟨_, rfl⟩
  have HF' := (show Hid _ from hf')
  have HCE : Hid ((.agg #[.string s, .slice x.ba KK x.bc, .slice (some ⟨g, 0, none⟩) KM KM]   : Value) = .agg f'.cells.toArray) := by
    show _ = _
    rw [hf']
    show _ = Value.agg #[.string ⟨s.data.toList.toArray⟩, .slice x.ba (x.bs.take KK).length x.bc, .slice (some ⟨g, 0, none⟩) (List.replicate KM true).length KM]
    rw [bytes_back, List.length_replicate, show (x.bs.take KK).length = KK by rw [List.length_take]; omega]
  have hRf4 := HRF.out.step b34
  have hR' : Rf w4 f' := by
    rw [hf']
    refine ⟨?_, ?_, ?_, ?_, ?_, fun e => (by cases e), by rw [← HNM.out]; exact hRf4.nm⟩
    · show Bs w4 (.slice x.ba (x.bs.take KK).length x.bc) _
      rw [show (x.bs.take KK).length = KK by rw [List.length_take]; omega]
      exact hRf4.b.cut KK hKb
    · intro b' off' n' c' e
      have e' : x.ba = some ⟨b', off', none⟩ := by injection e
      exact hRf4.bs b' off' x.bs.length x.bc (by unfold RF.bv; rw [e'])
    · show Bl w4 (.slice (some ⟨g, 0, none⟩) (List.replicate KM true).length KM) _
      rw [List.length_replicate]
      exact hBl
    · show SafeX w4 (.slice (some ⟨g, 0, none⟩) (List.replicate KM true).length KM)
      rw [List.length_replicate]
      exact hSf
    · show (x.bs.take KK).length = 32 * (List.replicate KM true).length
      rw [List.length_replicate, List.length_take]
      have := HKK.out
      omega
  have hff := put_fits (y := y) (f := f') HMEM.out (by rw [hf', HNM.out]) (by rw [hf']; show (List.replicate KM true).length ≤ _; rw [List.length_replicate]; exact HKL.out) HH.out.cnt HROOM.out
  clear hf'
  refine wpAnyH_ready (rs := [10]) (by kernel_rfl) (by simp) ?_
  refine AllReadyH.cons (by exact rfl) (fun K hK => ?_) AllReadyH.nil
  go_simp
  rw [HCE.out]
  refine (put_ok w4 B q _ y HD4 f' hR' hff.1 hff.2 (fun g hg => putL_mem hg)).mono ?_
  rintro e w5 ⟨⟨vv, rfl⟩, h5⟩
  go_wp2_with fail
  have hqb : w1.heap.size ≠ q := by have := HSZ.out; omega
  refine hK.out _ _ (hHeld4.but h5.2 hqb) (fun hHeld5 => ?_)
  clear hK K
  refine wpAnyH_done (by kernel_rfl) ?_ _
  refine NoPanic.normal ?_
  have HFIN : Hid (∃ f' : RF, f'.nm = s.data.toList ∧ f'.bs = x.bs.take KK ∧ f'.ks = List.replicate KM true ∧ RLp w w5 B q { y with fs := putL f' false y.fs }) := ⟨f', by rw [HF'.out], by rw [HF'.out], by rw [HF'.out], h5.back b34⟩
  clear hHeld hHeld4 hHeld5 h5 hff hR' hRf4 HD4 b34 b4 hBl hSf
  go_wp2_with fail
  go_end0
  exact ⟨⟨_, rfl⟩, HFIN.out⟩
set_option maxRecDepth 100000 in
set_option maxHeartbeats 2000000 in
theorem car_rem (w : World) (B q : Nat) (fv : Value) (y : RK) (h : RD w B q fv y) (s u : ByteArray) (n : Int) (i : Nat) (hi : rix y.fs s.data.toList = some i) (x : RF) (hx : y.fs[i]? = some x) :
    Calls Try.prog 62 #[ptr q, .int .i64 4, .string s, .string u, .int .i64 n] w fun r w' => (∃ v, r = .returned v) ∧ RLp w w' B q { y with fs := y.fs.filter (fun g => decide (g.nm ≠ s.data.toList)) } := by
  obtain ⟨FL, hFL⟩ : ∃ FL, FL = y.fs.filter (fun g => decide (g.nm ≠ s.data.toList)) := ⟨_, rfl⟩
  have HFL := (show Hid _ from hFL)
  rw [← hFL]
  clear hFL
  obtain ⟨fa, fc, hfv, hc1, hc2⟩ := h.row.form
  subst hfv
  have HH := (show Hid _ from h)
  obtain ⟨hil, hnm⟩ := rix_at hi
  have HIX : Hid (rixI y.fs s.data.toList = (i : Int)) := (show rixI y.fs s.data.toList = (i : Int) by unfold rixI; rw [hi])
  have hmem : x ∈ y.fs := List.mem_of_getElem? hx
  have hxe : y.fs[i] = x := by rw [List.getElem?_eq_getElem hil] at hx; exact Option.some.inj hx
  rw [hxe] at hnm
  clear hxe
  have hRf := h.fil x hmem
  obtain ⟨b, off, ha, hbl, hcell⟩ := h.row.sl.at i x hx
  subst ha
  have HCL0 : Hid (∀ j v, [Value.string ⟨x.nm.toArray⟩, .slice x.ba x.bs.length x.bc, .slice x.ka x.ks.length x.kc][j]? = some v → w.cell? ⟨b, off + i * 3 + j, none⟩ = some v) := hcell
  have HRF : Hid (Rf w x) := hRf
  have HMEM : Hid (x ∈ y.fs) := hmem
  have HNM : Hid (x.nm = s.data.toList) := hnm
  have hcnt := h.cnt
  have HCNT : Hid (y.fs.length ≤ 64) := h.cnt
  have hkl : x.ks.length ≤ 65536 := by have := rtot_out hmem; have := h.room; omega
  have HROOM : Hid (rtot y.fs ≤ y.room) := h.room.1
  have hlq := h.va.lt
  have y0 := h.va.cell 0 (v := .slice (some ⟨b, off, none⟩) y.fs.length fc) rfl
  have d1 : (i : Int) < (y.fs.length : Int) := by omega
  clear hil hx
  generalize hN : y.fs.length = N at *
  have hp : (ptr q) = .pointer (some ⟨q, 0, none⟩) := rfl
  rw [hp]
  clear h hRf hmem hcell hN hi hnm
  go_enter Try.func62, Try.ntmps62
  go_wp2_with fail
  refine (rfind_ok _ B q _ y HH.out s).mono ?_
  rintro e w1 ⟨rfl, b1⟩
  rw [HIX.out]
  have HB1 : Hid (Below w.heap.size w w1) := b1
  have y1 := (HB1.out.cell (p := ⟨q, 0, none⟩) hlq).trans y0
  have HCL : Hid (∀ j v, [Value.string ⟨x.nm.toArray⟩, .slice x.ba x.bs.length x.bc, .slice x.ka x.ks.length x.kc][j]? = some v → w1.cell? ⟨b, off + i * 3 + j, none⟩ = some v) := fun j v hj => (HB1.out.cell (p := ⟨b, off + i * 3 + j, none⟩) hbl).trans (HCL0.out j v hj)
  clear b1
  go_upto_region 3 with (refine wpList_load_mid rfl 94 _ rfl b (off + i * 3) (by rfl) _ _ HCL.out Try.underlying94 rfl infoF3 ?_)
  have HVB : Hid (VA (w1.alloc (.cells #[.string ⟨x.nm.toArray⟩, .slice x.ba x.bs.length x.bc, .slice x.ka x.ks.length x.kc] 94)) w1.heap.size x.cells 94) := va_new w1 x.cells _
  have HB2 : Hid (Below w.heap.size w (w1.alloc (.cells #[.string ⟨x.nm.toArray⟩, .slice x.ba x.bs.length x.bc, .slice x.ka x.ks.length x.kc] 94))) := HB1.out.trans (((Below.refl w1.heap.size w1).alloc (Nat.le_refl _) _).mono HB1.out.size)
  have HSZ : Hid (w.heap.size ≤ w1.heap.size) := HB1.out.size
  generalize hgb : w1.alloc (.cells #[.string ⟨x.nm.toArray⟩, .slice x.ba x.bs.length x.bc, .slice x.ka x.ks.length x.kc] 94) = w2 at *
  clear hgb
  have p0 := HVB.out.cell 0 (v := .string ⟨x.nm.toArray⟩) rfl
  have p1 := HVB.out.cell 1 (v := .slice x.ba x.bs.length x.bc) rfl
  have p2 := HVB.out.cell 2 (v := .slice x.ka x.ks.length x.kc) rfl
  go_wp2_with fail
  refine (drop_ok w2 B q _ y (HH.out.step HB2.out) s).mono ?_
  rintro e w3 ⟨⟨vv, rfl⟩, h3⟩
  rw [← HFL.out] at h3
  have HFIN : Hid (RLp w w3 B q { y with fs := FL }) := h3.back HB2.out
  clear h3
  go_wp2_with fail
  go_end0
  exact ⟨⟨_, rfl⟩, HFIN.out⟩
set_option maxRecDepth 100000 in
set_option maxHeartbeats 2000000 in
theorem car_ren (w : World) (B q : Nat) (fv : Value) (y : RK) (h : RD w B q fv y) (s u : ByteArray) (hu : u.size ≤ 16) (n : Int) (i : Nat) (hi : rix y.fs s.data.toList = some i) (x : RF) (hx : y.fs[i]? = some x) :
    Calls Try.prog 62 #[ptr q, .int .i64 3, .string s, .string u, .int .i64 n] w fun r w' => (∃ v, r = .returned v) ∧ RLp w w' B q { y with fs := putL { x with nm := u.data.toList } false (y.fs.filter (fun g => decide (g.nm ≠ s.data.toList))) } := by
  obtain ⟨FL, hFL⟩ : ∃ FL, FL = putL { x with nm := u.data.toList } false (y.fs.filter (fun g => decide (g.nm ≠ s.data.toList))) := ⟨_, rfl⟩
  have HFL := (show Hid _ from hFL)
  rw [← hFL]
  clear hFL
  have hul : u.data.toList.length ≤ 16 := by
    have : u.data.toList.length = u.size := by cases u; rfl
    omega
  obtain ⟨fa, fc, hfv, hc1, hc2⟩ := h.row.form
  subst hfv
  have HH := (show Hid _ from h)
  obtain ⟨hil, hnm⟩ := rix_at hi
  have HIX : Hid (rixI y.fs s.data.toList = (i : Int)) := (show rixI y.fs s.data.toList = (i : Int) by unfold rixI; rw [hi])
  have hmem : x ∈ y.fs := List.mem_of_getElem? hx
  have hxe : y.fs[i] = x := by rw [List.getElem?_eq_getElem hil] at hx; exact Option.some.inj hx
  rw [hxe] at hnm
  clear hxe
  have hRf := h.fil x hmem
  obtain ⟨b, off, ha, hbl, hcell⟩ := h.row.sl.at i x hx
  subst ha
  have HCL0 : Hid (∀ j v, [Value.string ⟨x.nm.toArray⟩, .slice x.ba x.bs.length x.bc, .slice x.ka x.ks.length x.kc][j]? = some v → w.cell? ⟨b, off + i * 3 + j, none⟩ = some v) := hcell
  have HRF : Hid (Rf w x) := hRf
  have HMEM : Hid (x ∈ y.fs) := hmem
  have HNM : Hid (x.nm = s.data.toList) := hnm
  have hcnt := h.cnt
  have HCNT : Hid (y.fs.length ≤ 64) := h.cnt
  have hkl : x.ks.length ≤ 65536 := by have := rtot_out hmem; have := h.room; omega
  have HROOM : Hid (rtot y.fs ≤ y.room) := h.room.1
  have hlq := h.va.lt
  have y0 := h.va.cell 0 (v := .slice (some ⟨b, off, none⟩) y.fs.length fc) rfl
  have d1 : (i : Int) < (y.fs.length : Int) := by omega
  clear hil hx
  generalize hN : y.fs.length = N at *
  have hp : (ptr q) = .pointer (some ⟨q, 0, none⟩) := rfl
  rw [hp]
  clear h hRf hmem hcell hN hi hnm
  go_enter Try.func62, Try.ntmps62
  go_wp2_with fail
  refine (rfind_ok _ B q _ y HH.out s).mono ?_
  rintro e w1 ⟨rfl, b1⟩
  rw [HIX.out]
  have HB1 : Hid (Below w.heap.size w w1) := b1
  have y1 := (HB1.out.cell (p := ⟨q, 0, none⟩) hlq).trans y0
  have HCL : Hid (∀ j v, [Value.string ⟨x.nm.toArray⟩, .slice x.ba x.bs.length x.bc, .slice x.ka x.ks.length x.kc][j]? = some v → w1.cell? ⟨b, off + i * 3 + j, none⟩ = some v) := fun j v hj => (HB1.out.cell (p := ⟨b, off + i * 3 + j, none⟩) hbl).trans (HCL0.out j v hj)
  clear b1
  go_upto_region 3 with (refine wpList_load_mid rfl 94 _ rfl b (off + i * 3) (by rfl) _ _ HCL.out Try.underlying94 rfl infoF3 ?_)
  have HVB : Hid (VA (w1.alloc (.cells #[.string ⟨x.nm.toArray⟩, .slice x.ba x.bs.length x.bc, .slice x.ka x.ks.length x.kc] 94)) w1.heap.size x.cells 94) := va_new w1 x.cells _
  have HB2 : Hid (Below w.heap.size w (w1.alloc (.cells #[.string ⟨x.nm.toArray⟩, .slice x.ba x.bs.length x.bc, .slice x.ka x.ks.length x.kc] 94))) := HB1.out.trans (((Below.refl w1.heap.size w1).alloc (Nat.le_refl _) _).mono HB1.out.size)
  have HSZ : Hid (w.heap.size ≤ w1.heap.size) := HB1.out.size
  generalize hgb : w1.alloc (.cells #[.string ⟨x.nm.toArray⟩, .slice x.ba x.bs.length x.bc, .slice x.ka x.ks.length x.kc] 94) = w2 at *
  clear hgb
  have p0 := HVB.out.cell 0 (v := .string ⟨x.nm.toArray⟩) rfl
  have p1 := HVB.out.cell 1 (v := .slice x.ba x.bs.length x.bc) rfl
  have p2 := HVB.out.cell 2 (v := .slice x.ka x.ks.length x.kc) rfl
  go_wp2_with fail
  refine (drop_ok w2 B q _ y (HH.out.step HB2.out) s).mono ?_
  rintro e w3 ⟨⟨vv, rfl⟩, h3⟩
  obtain ⟨⟨fv3, hD3, hnew3⟩, hbt3⟩ := h3
  have hqb : w1.heap.size ≠ q := by have := HSZ.out; omega
  have V3 := HVB.out.but hbt3 hqb
  have r0 := V3.cell 0 (v := .string ⟨x.nm.toArray⟩) rfl
  have rf0 := V3.free 0
  have u3 := upd_set w3 w1.heap.size 0 (.string u)
  have V4 := V3.set 0 (.string u)
  have s0 := V4.cell 0 (v := .string u) rfl
  have s1 := V4.cell 1 (v := .slice x.ba x.bs.length x.bc) rfl
  have s2 := V4.cell 2 (v := .slice x.ka x.ks.length x.kc) rfl
  have hw12 : w1.heap.size < w2.heap.size := HVB.out.lt
  have bt4 : But (fun i => i = q) w (w3.setCell ⟨w1.heap.size, 0, none⟩ (.string u)) := ((below_but HB2.out (fun i => i = q)).trans hbt3 (fun _ _ h => h)).trans u3.but (fun i hi e => by have := HSZ.out; omega)
  have kr4 := KeR.upd u3 V3 (.inr rfl)
  have hD4 : RD (w3.setCell ⟨w1.heap.size, 0, none⟩ (.string u)) B q fv3 { y with fs := y.fs.filter (fun g => decide (g.nm ≠ s.data.toList)) } :=
    ⟨⟨(u3.block q (Ne.symm hqb)).trans hD3.va.blk⟩, hD3.row.blk (fun g hg => u3.block g (fun e => by have := hnew3 g hg; omega)), fun f hf => (hD3.fil f hf).ker kr4, hD3.lo, hD3.cnt, hD3.room⟩
  have hRf4 : Rf (w3.setCell ⟨w1.heap.size, 0, none⟩ (.string u)) { x with nm := u.data.toList } := by
    have hbk : KeR w (w3.setCell ⟨w1.heap.size, 0, none⟩ (.string u)) := ⟨bt4.os, bt4.tape, bt4.output, bt4.size, fun i o e hn => (bt4.block i (hlt_of e) (fun er => by subst er; rw [HH.out.va.blk] at e; cases e; exact hn _ _ _ rfl (.inl rfl))).trans e⟩
    have h0 := HRF.out.ker hbk
    exact ⟨h0.b, h0.bs, h0.k, h0.kss, h0.len, h0.no, hul⟩
  have hout := rtot_out HMEM.out
  rw [HNM.out] at hout
  have hfit : (putL { x with nm := u.data.toList } false (y.fs.filter (fun g => decide (g.nm ≠ s.data.toList)))).length ≤ 64 ∧ rtot (putL { x with nm := u.data.toList } false (y.fs.filter (fun g => decide (g.nm ≠ s.data.toList)))) ≤ y.room := by
    have h1 := List.length_filter_le (fun g : RF => decide (g.nm ≠ u.data.toList)) (y.fs.filter (fun g => decide (g.nm ≠ s.data.toList)))
    have h2 := rtot_filter (fun g : RF => decide (g.nm ≠ u.data.toList)) (y.fs.filter (fun g => decide (g.nm ≠ s.data.toList)))
    have h3 := HH.out.cnt
    have h4 := HROOM.out
    rw [(putL_perm _ _).length_eq, rtot_perm (putL_perm _ _)]
    simp only [List.length_cons, rtot]
    omega
  have HP : Hid (∀ (K : Unit), Calls Try.prog 57 #[.pointer (some ⟨q, 0, none⟩), .agg #[.string u, .slice x.ba x.bs.length x.bc, .slice x.ka x.ks.length x.kc]] (w3.setCell ⟨w1.heap.size, 0, none⟩ (.string u)) fun r w' => (∃ v, r = .returned v) ∧ RLp (w3.setCell ⟨w1.heap.size, 0, none⟩ (.string u)) w' B q { y with fs := FL }) := fun _ => by
    have := put_ok _ B q _ _ hD4 _ hRf4 hfit.1 hfit.2 (fun g hg => putL_mem hg)
    rw [HFL.out]
    have e : (.agg (RF.cells { x with nm := u.data.toList }).toArray : Value) = .agg #[.string u, .slice x.ba x.bs.length x.bc, .slice x.ka x.ks.length x.kc] := by
      show Value.agg #[.string ⟨u.data.toList.toArray⟩, _, _] = _
      rw [bytes_back]
      rfl
    rw [e] at this
    exact this
  have HBT4 := (show Hid _ from bt4)
  have hs4 : w.heap.size ≤ (w3.setCell ⟨w1.heap.size, 0, none⟩ (.string u)).heap.size := bt4.size
  clear V3 V4 u3 kr4 hD4 hRf4 hout hfit hD3 hnew3 hbt3 bt4
  go_wp2_with fail
  refine (HP.out ()).mono ?_
  rintro e w5 ⟨⟨vv, rfl⟩, ⟨fv5, hD5, hn5⟩, hb5⟩
  have HFIN : Hid (RLp w w5 B q { y with fs := FL }) := ⟨⟨fv5, hD5, fun g hg => Nat.le_trans hs4 (hn5 g hg)⟩, HBT4.out.trans hb5 (fun _ _ h => h)⟩
  clear hD5 hn5 hb5
  go_wp2_with fail
  go_end0
  exact ⟨⟨_, rfl⟩, HFIN.out⟩
end Go.Proofs.Ytakgkpiicigihaa
