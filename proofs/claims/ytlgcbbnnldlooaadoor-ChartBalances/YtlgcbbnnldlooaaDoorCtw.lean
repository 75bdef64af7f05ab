/- the document's ledger: DocPost to a nil ledger. -/
import Derived.Test.YtlgcbbnnldlooaaDoorCtu
namespace Go.Proofs.YtlgcbbnnldlooaaDoor
open Go.RowKit Go.Maps
set_option linter.unusedVariables false

theorem all_no {ls : List Ln} (h : ls.all (fun x => x.ok) = false) : ls.any (fun x => !x.ok) = true := by
  rw [List.all_eq_false] at h
  obtain ⟨x, hx, hn⟩ := h
  exact List.any_eq_true.2 ⟨x, hx, by simpa using hn⟩
theorem cherr_long {ls : List Ln} (h : ∀ x ∈ ls, x.pl = true) (hl : 16 < ls.length) : cherr ls = 2 := by
  unfold cherr
  rw [if_neg, if_pos hl]
  simp only [Bool.not_eq_true, List.any_eq_false]
  intro x hx; rw [h x hx]; simp
theorem cherr_form {ls : List Ln} (h : ∀ x ∈ ls, x.pl = true) (hl : ls.length ≤ 16) (ho : ls.all (fun x => x.ok) = false) : cherr ls = 3 := by
  unfold cherr
  rw [if_neg, if_neg (by omega), if_pos (all_no ho)]
  simp only [Bool.not_eq_true, List.any_eq_false]
  intro x hx; rw [h x hx]; simp
theorem cherr_fine {ls : List Ln} (h : ∀ x ∈ ls, x.pl = true) (hl : ls.length ≤ 16) (ho : ls.all (fun x => x.ok) = true) : cherr ls = 0 :=
  cherr_of (fun x hx => ⟨h x hx, (List.all_eq_true.1 ho) x hx⟩) hl
/-- what a nil ledger answers -/
def nerr (ls : List Ln) : Int := if cherr ls ≠ 0 then cherr ls else 7
set_option maxHeartbeats 8000000 in
set_option maxRecDepth 100000 in
theorem dpost_nil (v : Value) (ls : List Ln) (w : World) (h : LIn w v ls) :
    Calls Tryd.prog 12 #[.pointer none, v] w fun e w' => e = .returned (.int .i64 (nerr ls)) ∧ Below w.heap.size w w' := by
  obtain ⟨N, hN⟩ : ∃ N, N = ls.length := ⟨_, rfl⟩
  obtain ⟨ta, tc, rfl, g1, g2⟩ : ∃ a c, v = .slice a N c ∧ N ≤ c ∧ c ≤ 9223372036854775807 := by obtain ⟨a, c, e, h1, h2, _⟩ := h.sl; exact ⟨a, c, by rw [hN]; exact e, by rw [hN]; exact h1, h2⟩
  have HK := (show Hid _ from h)
  have HNN := (show Hid _ from hN)
  clear h hN
  have V6 : VA ((w.alloc (.cells #[.bool false, .slice none 0 0, .bool false, .slice none 0 0, .bool false, .slice none 0 0, .bool false, .slice none 0 0] 30)).alloc (.cells Tryd.zeroCells33 33)) w.heap.size (zint 4 ++ []) 30 := (va_new w (zint 4 ++ []) 30).alloc (.cells Tryd.zeroCells33 33)
  have V7 : VA ((w.alloc (.cells #[.bool false, .slice none 0 0, .bool false, .slice none 0 0, .bool false, .slice none 0 0, .bool false, .slice none 0 0] 30)).alloc (.cells Tryd.zeroCells33 33)) (w.heap.size + 1) (zint 36 ++ [.int .i64 0]) 33 := by
    have := va_new (w.alloc (.cells #[.bool false, .slice none 0 0, .bool false, .slice none 0 0, .bool false, .slice none 0 0, .bool false, .slice none 0 0] 30)) (zint 36 ++ [.int .i64 0]) 33
    rw [World.size_alloc, show (zint 36 ++ [Value.int .i64 0]).toArray = Tryd.zeroCells33 by kernel_rfl] at this
    exact this
  have B0 := ((Below.refl w.heap.size w).alloc (Nat.le_refl _) (.cells #[.bool false, .slice none 0 0, .bool false, .slice none 0 0, .bool false, .slice none 0 0, .bool false, .slice none 0 0] 30)).alloc (by simp) (.cells Tryd.zeroCells33 33)
  have HS2 := (show Hid _ from ib_zero V6 (by simp))
  obtain ⟨b, en, HX2, HRG⟩ : ∃ (b : Int → Int → Int) (en : Int), Hid (IB ((w.alloc (.cells #[.bool false, .slice none 0 0, .bool false, .slice none 0 0, .bool false, .slice none 0 0, .bool false, .slice none 0 0] 30)).alloc (.cells Tryd.zeroCells33 33)) (w.heap.size + 1) 36 (lf b) [.int .i64 en] 33) ∧ Hid (∀ c u, Va c u → -M36 ≤ b c u ∧ b c u ≤ M36) :=
    ⟨fun _ _ => 0, 0, (ib_zero V7 (by intro v hv; simp at hv; subst hv; rfl)).congr (fun i _ => by unfold lf; split <;> rfl), fun c u _ => (show -M36 ≤ 0 ∧ (0 : Int) ≤ M36 by decide)⟩
  have HB2 := (show Hid _ from B0)
  clear V6 V7 B0
  go_enter Tryd.func12, Tryd.ntmps12
  go_wp2_with fail
  generalize (w.alloc (.cells #[.bool false, .slice none 0 0, .bool false, .slice none 0 0, .bool false, .slice none 0 0, .bool false, .slice none 0 0] 30)).alloc (.cells Tryd.zeroCells33 33) = w2 at *
  generalize hq : w.heap.size = q at *
  have HQ := (show Hid _ from hq)
  clear hq
  go_loopw [5, 23] (fun fo i wr => ∃ k : Nat, k ≤ N ∧ i = .int .i64 (k : Int) ∧ fo = .bool ((ls.take k).all (fun x => x.ok)) ∧ Hid (∀ x ∈ ls.take k, x.pl = true) ∧ Hid (IB wr q 4 (fun u => sau (okl (ls.take k)) (u : Int)) [] 30) ∧ Hid (IB wr (q + 1) 36 (nf b (okl (ls.take k))) [.int .i64 en] 33) ∧ Hid (Below q w wr)) (fun _ i _ => N - (intOf i).toNat)
  case atStart => exact ⟨0, by omega, rfl, rfl, (by intro x hx; simp at hx), HS2.out.congr (g := fun u => sau (okl (ls.take 0)) (u : Int)) (fun u _ => rfl), HX2.out.congr (g := nf b (okl (ls.take 0))) (fun i _ => by unfold nf; simp [okl, sat]), HB2.out⟩
  case round =>
    obtain ⟨k, hk, rfl, rfl, HPL, HS, HX, HB⟩ := hrel
    by_cases hkn : k = N
    · have hall : ls.take k = ls := by rw [hkn, HNN.out, List.take_length]
      rw [hall] at HPL HS HX ⊢
      clear hall
      subst hkn
      by_cases h16 : (16 : Int) < (k : Int)
      · go_wp2_with fail
        go_ret
        exact ⟨by unfold nerr; rw [cherr_long HPL.out (by have := HNN.out; omega)]; rfl, by rw [HQ.out]; exact HB.out⟩
      cases ho : ls.all (fun x => x.ok)
      · go_wp2_with fail
        go_ret
        exact ⟨by unfold nerr; rw [cherr_form HPL.out (by have := HNN.out; omega) ho]; rfl, by rw [HQ.out]; exact HB.out⟩
      · go_wp2_with fail
        go_ret
        exact ⟨by unfold nerr; rw [cherr_fine HPL.out (by have := HNN.out; omega) ho]; rfl, by rw [HQ.out]; exact HB.out⟩
    have hk' : k < N := by omega
    obtain ⟨x, hx⟩ : ∃ x, ls[k]? = some x := ⟨ls[k]'(by have := HNN.out; omega), by simp⟩
    have hgx := HK.out.wf x (List.mem_of_getElem? hx)
    obtain ⟨bb, off, e, hb, hc⟩ := (HK.out.sl.step (w' := wr) (by rw [HQ.out]; exact HB.out)).at k x hx
    cases e
    have c0 : wr.cell? ⟨bb, off + k * 5, none⟩ = some (.int .i64 x.code) := hc 0 _ rfl
    have c1 : wr.cell? ⟨bb, off + k * 5 + 1, none⟩ = some (.int .i64 x.cur) := hc 1 _ rfl
    have c2 : wr.cell? ⟨bb, off + k * 5 + 2, none⟩ = some (.int .i64 x.h) := hc 2 _ rfl
    have c3 : wr.cell? ⟨bb, off + k * 5 + 3, none⟩ = some (.int .u64 x.l) := hc 3 _ rfl
    have c4 : wr.cell? ⟨bb, off + k * 5 + 4, none⟩ = some (.int .i64 x.s) := hc 4 _ rfl
    have d1 : (0 : Int) ≤ (k : Int) := by omega
    have d2 : (k : Int) < (N : Int) := by omega
    have hts := take_snoc hx
    have HAL : Hid ((ls.take (k + 1)).all (fun x => x.ok) = ((ls.take k).all (fun x => x.ok) && x.ok)) := (show _ = _ by rw [hts]; simp)
    have HOK : Hid (okl (ls.take (k + 1)) = if x.ok then okl (ls.take k) ++ [x] else okl (ls.take k)) := (show _ = _ by rw [hts, okl_snoc])
    have HPN : Hid (x.pl = true → ∀ y ∈ ls.take (k + 1), y.pl = true) := fun hp => take_next HPL.out hx hp
    have HPB : Hid (x.pl = false → cherr ls = 1) := fun hp => cherr_1 hx hp
    have HUN := (show Hid _ from fun w => units_any x hgx w)
    have HUMI : Hid (x.ok = true → Mi x.un) := fun ho => un_mi hgx ho
    have HVX : Hid (x.pl = true → Va x.code x.cur) := fun hp => Ln.va hp
    have hplx : x.pl = (wi x.code 1 8 && wi x.cur 0 3) := rfl
    clear hc hb hx hgx hts
    go_wp2_with fail
    refine (is_ok _ _ _).mono ?_
    rintro e w1 ⟨rfl, hq1⟩
    obtain rfl := hq1.symm
    rw [← hplx]
    clear hplx
    cases hp : x.pl
    · have HP := (show Hid _ from HPB.out hp)
      clear hp
      go_wp2_with fail
      go_ret
      exact ⟨by unfold nerr; rw [HP.out]; rfl, by rw [HQ.out]; exact HB.out.alloc (by have := HB.out.size; have := HQ.out; omega) _⟩
    have hv := HVX.out hp
    have HPK := (show Hid _ from HPN.out hp)
    clear hp HPN HPB HVX
    generalize ho : x.ok = ok at *
    obtain ⟨un, hun⟩ : ∃ un, un = x.un := ⟨_, rfl⟩
    rw [← hun] at HUN HUMI
    have HE1 : Hid (∀ (l : List Ln) (u' : Int), sau (l ++ [x]) u' = sau l u' + if x.cur = u' then un else 0) := fun l u' => by rw [sau_snoc, hun]
    have HE2 : Hid (∀ (l : List Ln) (c' u' : Int), sat (l ++ [x]) c' u' = sat l c' u' + if x.code = c' ∧ x.cur = u' then un else 0) := fun l c' u' => by rw [sat_snoc, hun]
    obtain ⟨x0, x1, x2, x3, x4⟩ := x
    clear hun ho
    simp only at hv HE1 HE2 HUN c0 c1 c2 c3 c4
    obtain ⟨c, rfl⟩ : ∃ c : Nat, x0 = (c : Int) := ⟨x0.toNat, by have := hv.1; omega⟩
    obtain ⟨u, rfl⟩ : ∃ u : Nat, x1 = (u : Int) := ⟨x1.toNat, by have := hv.2.2.1; omega⟩
    have hcu : 1 ≤ c ∧ c ≤ 8 ∧ u ≤ 3 := by have h1 := hv.1; have h2 := hv.2.1; have h3 := hv.2.2.2; omega
    have j1 : (0 : Int) ≤ (c : Int) := by omega
    have j2 : (c : Int) < 9 := by omega
    have j3 : (0 : Int) ≤ (u : Int) := by omega
    have j4 : (u : Int) < 4 := by omega
    have HCU := (show Hid _ from hcu)
    clear hv
    go_wp2_with fail
    refine (HUN.out _).mono ?_
    rintro e w3 ⟨⟨m, a, nn, kk, rfl, hin⟩, b3⟩
    have b3' := below_over b3
    have V9w3 := (show Hid _ from (va_new wr [.int .i64 (c : Int), .int .i64 (u : Int), .int .i64 x2, .int .u64 x3, .int .i64 x4] 39).step b3)
    have HI3 := (show Hid _ from hin)
    have HSw3 := (show Hid _ from HS.out.step b3')
    have HXw3 := (show Hid _ from HX.out.step b3')
    have HBw3 := (show Hid _ from HB.out.trans (b3'.mono (by have := HB.out.size; have := HQ.out; omega)))
    have BA := (Below.refl w3.heap.size w3).alloc (Nat.le_refl _) (.cells #[.bool m, .slice a nn kk] 29)
    have V9w4 := (show Hid _ from V9w3.out.step BA)
    have V10w4 : Hid (VA (w3.alloc (.cells #[.bool m, .slice a nn kk] 29)) w3.heap.size [.bool m, .slice a nn kk] 29) := va_new w3 [.bool m, .slice a nn kk] 29
    have HSw4 := (show Hid _ from HSw3.out.step BA)
    have HXw4 := (show Hid _ from HXw3.out.step BA)
    have HI4 : Hid (ok = true → In (w3.alloc (.cells #[.bool m, .slice a nn kk] 29)) (.agg #[.bool m, .slice a nn kk]) un) := fun h => (HI3.out h).step BA
    have HBw4 := (show Hid _ from HBw3.out.trans (BA.mono (by have := HBw3.out.size; have := HQ.out; omega)))
    have HQ9 : Hid (q + 1 < wr.heap.size ∧ q + 1 < w3.heap.size) := ⟨HX.out.lt, HXw3.out.lt⟩
    clear b3 b3' hin BA V9w3 HI3 HSw3 HXw3 HBw3 HS HX HB c0 c1 c2 c3 c4 HUN
    generalize hfl : (ls.take k).all (fun x => x.ok) = fl at *
    clear hfl
    cases ok
    · cases fl
      · go_wp2_with fail
        refine ⟨⟨k + 1, by omega, by go_num, ?_, HPK.out, ?_, ?_, HBw4.out⟩, by simp [intOf]; omega⟩
        · rw [HAL.out]; simp
        · have e := HOK.out
          rw [show okl (ls.take (k + 1)) = okl (ls.take k) by simpa using e]; exact HSw4.out
        · have e := HOK.out
          rw [show okl (ls.take (k + 1)) = okl (ls.take k) by simpa using e]; exact HXw4.out
      · go_wp2_with fail
        refine ⟨⟨k + 1, by omega, by go_num, ?_, HPK.out, ?_, ?_, HBw4.out⟩, by simp [intOf]; omega⟩
        · rw [HAL.out]; simp
        · have e := HOK.out
          rw [show okl (ls.take (k + 1)) = okl (ls.take k) by simpa using e]; exact HSw4.out
        · have e := HOK.out
          rw [show okl (ls.take (k + 1)) = okl (ls.take k) by simpa using e]; exact HXw4.out
    · cases fl
      · have HIw4 := (show Hid _ from HI4.out rfl)
        have HUM := (show Hid _ from HUMI.out rfl)
        clear HI4 HUMI
        go_upto_region 14 with fail
        generalize wr.heap.size = q9 at *
        generalize w3.heap.size = q10 at *
        generalize w3.alloc (.cells #[.bool m, .slice a nn kk] 29) = w4 at *
        refine wp_region_noPanic ?_
        refine wp_region_held_drew (S := fun w' => VA w' q9 [.int .i64 (c : Int), .int .i64 (u : Int), .int .i64 x2, .int .u64 x3, .int .i64 x4] 39 ∧ VA w' q10 [.bool m, .slice a nn kk] 29) (by kernel_rfl) ⟨V9w4.out.drew, V10w4.out.drew⟩ (fun hHeld => ?_)
        refine takeD 0 44 (.pointer (some ⟨q9, 1, none⟩)) (by exact rfl) rfl (by kernel_rfl) (by kernel_rfl) (by kernel_rfl) (fun _ _ _ h => h) (Or.inl ⟨by rfl, ?_⟩) (by assumption) ?_
        · intro wq hS
          go_simp
        try simp only [Act.put, List.setIfInBounds_toArray, List.set_cons_zero, List.set_cons_succ]
        refine takeD 1 45 (.int .i64 (u : Int)) (by exact rfl) rfl (by kernel_rfl) (by kernel_rfl) (by kernel_rfl) (fun _ _ _ h => h) (Or.inl ⟨by rfl, ?_⟩) (by assumption) ?_
        · intro wq hS
          have e0 := hS.1.cell 1 (v := .int .i64 (u : Int)) rfl
          go_simp
        try simp only [Act.put, List.setIfInBounds_toArray, List.set_cons_zero, List.set_cons_succ]
        refine takeD 2 46 (.pointer (some ⟨q9, 1, none⟩)) (by exact rfl) rfl (by kernel_rfl) (by kernel_rfl) (by kernel_rfl) (fun _ _ _ h => h) (Or.inl ⟨by rfl, ?_⟩) (by assumption) ?_
        · intro wq hS
          go_simp
        try simp only [Act.put, List.setIfInBounds_toArray, List.set_cons_zero, List.set_cons_succ]
        refine takeD 3 47 (.int .i64 (u : Int)) (by exact rfl) rfl (by kernel_rfl) (by kernel_rfl) (by kernel_rfl) (fun _ _ _ h => h) (Or.inl ⟨by rfl, ?_⟩) (by assumption) ?_
        · intro wq hS
          have e0 := hS.1.cell 1 (v := .int .i64 (u : Int)) rfl
          go_simp
        try simp only [Act.put, List.setIfInBounds_toArray, List.set_cons_zero, List.set_cons_succ]
        refine takeD 4 48 (.pointer (some ⟨q, u * 2, none⟩)) (by exact rfl) rfl (by kernel_rfl) (by kernel_rfl) (by kernel_rfl) (fun _ _ _ h => h) (Or.inl ⟨by rfl, ?_⟩) (by assumption) ?_
        · intro wq hS
          go_simp
        try simp only [Act.put, List.setIfInBounds_toArray, List.set_cons_zero, List.set_cons_succ]
        refine takeD 6 50 (.agg #[.bool m, .slice a nn kk]) (by exact rfl) rfl (by kernel_rfl) (by kernel_rfl) (by kernel_rfl) (fun _ _ _ h => h) (Or.inl ⟨by rfl, ?_⟩) (by assumption) ?_
        · intro wq hS
          have e0 := hS.2.cell 0 (v := .bool m) rfl
          have e1 := hS.2.cell 1 (v := .slice a nn kk) rfl
          go_simp
        try simp only [Act.put, List.setIfInBounds_toArray, List.set_cons_zero, List.set_cons_succ]
        clear hHeld
        obtain ⟨mm, am, km, cm, z0, z1, zi⟩ := (HSw4.out.step (Below.refl w4.heap.size w4).drew).at (u) (by omega)
        have HZI := (show Hid _ from zi)
        clear zi
        refine wpAnyH_ready (rs := [5]) (by kernel_rfl) (by simp) ?_
        refine AllReadyH.cons (by exact rfl) (fun K hK => ?_) AllReadyH.nil
        go_simp
        clear z0 z1
        refine hK.out _ _ ⟨V9w4.out.drew, V10w4.out.drew⟩ (fun hHeld => ?_)
        clear hK K hHeld
        try simp only [Act.put, List.setIfInBounds_toArray, List.set_cons_zero, List.set_cons_succ]
        refine wpAnyH_ready (rs := [7]) (by kernel_rfl) (by simp) ?_
        refine AllReadyH.cons (by exact rfl) (fun K hK => ?_) AllReadyH.nil
        go_simp
        refine (sum_in _ _ _ _ _ HZI.out (HIw4.out.drew) (sau_mi (fun y hy => HK.out.wf y (List.mem_of_mem_take hy)) (by rw [List.length_take]; have := HK.out.sz; omega) _) HUM.out).mono ?_
        rintro e w5 ⟨⟨r5, rfl, i5⟩, b5⟩
        have b5 : Below w4.heap.size w4 w5 := ((Below.refl w4.heap.size w4).drew).trans b5
        obtain ⟨mr, ar, nr, cr, rfl, _⟩ := i5.form
        have HR5 := (show Hid _ from i5)
        have V9w5 := (show Hid _ from V9w4.out.step b5)
        have V10w5 := (show Hid _ from V10w4.out.step b5)
        have F5 := (show Hid _ from HSw4.out.step b5)
        have G5 := (show Hid _ from HXw4.out.step b5)
        have HIw5 := (show Hid _ from HIw4.out.step b5)
        have HBw5 := (show Hid _ from HBw4.out.trans (b5.mono (by have := HBw4.out.size; have := HQ.out; omega)))
        clear b5 i5 HZI V9w4 V10w4 HIw4 HBw4 HSw4 HXw4
        go_wp2_with fail
        refine hK.out _ _ ⟨V9w5.out, V10w5.out⟩ (fun hHeld => ?_)
        clear hK K
        try simp only [Act.put, List.setIfInBounds_toArray, List.set_cons_zero, List.set_cons_succ]
        refine takeD 8 52 (.pointer (some ⟨q, u * 2, none⟩)) (by exact rfl) rfl (by kernel_rfl) (by kernel_rfl) (by kernel_rfl) (fun _ _ _ h => h) (Or.inl ⟨by rfl, ?_⟩) (by assumption) ?_
        · intro wq hS
          go_simp
        try simp only [Act.put, List.setIfInBounds_toArray, List.set_cons_zero, List.set_cons_succ]
        clear hHeld
        refine wpAnyH_ready (rs := [9]) (by kernel_rfl) (by simp) ?_
        refine AllReadyH.cons (by exact rfl) (fun K hK => ?_) AllReadyH.nil
        refine stMid (by rfl) (by rfl) 29 _ _ (by rfl) q (u * 2) [.bool mr, .slice ar nr cr] (by rfl) (by rfl) (F5.out.there (u) (by omega)) infoIn (int_one _ _ _ _) ?_
        have S5 := F5.out.set (by decide) (u) (by omega) HR5.out
        have U5 := setCells_but w5 q (u * 2) [.bool mr, .slice ar nr cr]
        have KU5 : KeepU w5 (w5.setCells q (u * 2) [.bool mr, .slice ar nr cr]) := by
          obtain ⟨cs, h1, _⟩ := F5.out.ex
          exact U5.keepU h1 (by decide)
        have V9w5s := (show Hid _ from V9w5.out.but U5 (fun (e : q9 = q) => by have := HQ9.out; omega))
        have V10w5s := (show Hid _ from V10w5.out.but U5 (fun (e : q10 = q) => by have := HQ9.out; omega))
        have F5s := (show Hid _ from S5)
        have G5s := (show Hid _ from G5.out.mv (U5.block _ G5.out.lt (by omega)) KU5)
        have HIw5s := (show Hid _ from HIw5.out.keepU KU5)
        have HBw5s := (show Hid _ from HBw5.out.trans (U5.below (by have := HBw5.out.size; have := HQ.out; omega) (fun i (hi : i = q) => by omega)))
        refine hK.out _ _ ⟨V9w5s.out, V10w5s.out⟩ (fun hHeld => ?_)
        clear hK K hHeld S5 U5 KU5 V9w5 V10w5 F5 G5 HIw5 HBw5 HR5
        refine wpAnyH_done (by kernel_rfl) ?_ _
        refine NoPanic.normal ?_
        go_upto_region 15 with fail
        generalize w5.setCells q (u * 2) [.bool mr, .slice ar nr cr] = w5s at *
        refine wp_region_noPanic ?_
        refine wp_region_held_drew (S := fun w' => VA w' q9 [.int .i64 (c : Int), .int .i64 (u : Int), .int .i64 x2, .int .u64 x3, .int .i64 x4] 39 ∧ VA w' q10 [.bool m, .slice a nn kk] 29) (by kernel_rfl) ⟨V9w5s.out.drew, V10w5s.out.drew⟩ (fun hHeld => ?_)
        refine takeD 0 53 (.pointer (some ⟨q9, 0, none⟩)) (by exact rfl) rfl (by kernel_rfl) (by kernel_rfl) (by kernel_rfl) (fun _ _ _ h => h) (Or.inl ⟨by rfl, ?_⟩) (by assumption) ?_
        · intro wq hS
          go_simp
        try simp only [Act.put, List.setIfInBounds_toArray, List.set_cons_zero, List.set_cons_succ]
        refine takeD 1 54 (.int .i64 (c : Int)) (by exact rfl) rfl (by kernel_rfl) (by kernel_rfl) (by kernel_rfl) (fun _ _ _ h => h) (Or.inl ⟨by rfl, ?_⟩) (by assumption) ?_
        · intro wq hS
          have e0 := hS.1.cell 0 (v := .int .i64 (c : Int)) rfl
          go_simp
        try simp only [Act.put, List.setIfInBounds_toArray, List.set_cons_zero, List.set_cons_succ]
        refine takeD 2 55 (.pointer (some ⟨q9, 1, none⟩)) (by exact rfl) rfl (by kernel_rfl) (by kernel_rfl) (by kernel_rfl) (fun _ _ _ h => h) (Or.inl ⟨by rfl, ?_⟩) (by assumption) ?_
        · intro wq hS
          go_simp
        try simp only [Act.put, List.setIfInBounds_toArray, List.set_cons_zero, List.set_cons_succ]
        refine takeD 3 56 (.int .i64 (u : Int)) (by exact rfl) rfl (by kernel_rfl) (by kernel_rfl) (by kernel_rfl) (fun _ _ _ h => h) (Or.inl ⟨by rfl, ?_⟩) (by assumption) ?_
        · intro wq hS
          have e0 := hS.1.cell 1 (v := .int .i64 (u : Int)) rfl
          go_simp
        try simp only [Act.put, List.setIfInBounds_toArray, List.set_cons_zero, List.set_cons_succ]
        refine takeD 4 57 (.pointer (some ⟨q9, 0, none⟩)) (by exact rfl) rfl (by kernel_rfl) (by kernel_rfl) (by kernel_rfl) (fun _ _ _ h => h) (Or.inl ⟨by rfl, ?_⟩) (by assumption) ?_
        · intro wq hS
          go_simp
        try simp only [Act.put, List.setIfInBounds_toArray, List.set_cons_zero, List.set_cons_succ]
        refine takeD 5 58 (.int .i64 (c : Int)) (by exact rfl) rfl (by kernel_rfl) (by kernel_rfl) (by kernel_rfl) (fun _ _ _ h => h) (Or.inl ⟨by rfl, ?_⟩) (by assumption) ?_
        · intro wq hS
          have e0 := hS.1.cell 0 (v := .int .i64 (c : Int)) rfl
          go_simp
        try simp only [Act.put, List.setIfInBounds_toArray, List.set_cons_zero, List.set_cons_succ]
        refine takeD 6 59 (.pointer (some ⟨q9, 1, none⟩)) (by exact rfl) rfl (by kernel_rfl) (by kernel_rfl) (by kernel_rfl) (fun _ _ _ h => h) (Or.inl ⟨by rfl, ?_⟩) (by assumption) ?_
        · intro wq hS
          go_simp
        try simp only [Act.put, List.setIfInBounds_toArray, List.set_cons_zero, List.set_cons_succ]
        refine takeD 7 60 (.int .i64 (u : Int)) (by exact rfl) rfl (by kernel_rfl) (by kernel_rfl) (by kernel_rfl) (fun _ _ _ h => h) (Or.inl ⟨by rfl, ?_⟩) (by assumption) ?_
        · intro wq hS
          have e0 := hS.1.cell 1 (v := .int .i64 (u : Int)) rfl
          go_simp
        try simp only [Act.put, List.setIfInBounds_toArray, List.set_cons_zero, List.set_cons_succ]
        refine takeD 8 61 (.pointer (some ⟨q + 1, 0, none⟩)) (by exact rfl) rfl (by kernel_rfl) (by kernel_rfl) (by kernel_rfl) (fun _ _ _ h => h) (Or.inl ⟨by rfl, ?_⟩) (by assumption) ?_
        · intro wq hS
          go_simp
        try simp only [Act.put, List.setIfInBounds_toArray, List.set_cons_zero, List.set_cons_succ]
        refine takeD 9 62 (.pointer (some ⟨q + 1, c * 8, none⟩)) (by exact rfl) rfl (by kernel_rfl) (by kernel_rfl) (by kernel_rfl) (fun _ _ _ h => h) (Or.inl ⟨by rfl, ?_⟩) (by assumption) ?_
        · intro wq hS
          go_simp
        try simp only [Act.put, List.setIfInBounds_toArray, List.set_cons_zero, List.set_cons_succ]
        refine takeD 10 63 (.pointer (some ⟨q + 1, c * 8 + u * 2, none⟩)) (by exact rfl) rfl (by kernel_rfl) (by kernel_rfl) (by kernel_rfl) (fun _ _ _ h => h) (Or.inl ⟨by rfl, ?_⟩) (by assumption) ?_
        · intro wq hS
          go_simp
        try simp only [Act.put, List.setIfInBounds_toArray, List.set_cons_zero, List.set_cons_succ]
        refine takeD 12 65 (.agg #[.bool m, .slice a nn kk]) (by exact rfl) rfl (by kernel_rfl) (by kernel_rfl) (by kernel_rfl) (fun _ _ _ h => h) (Or.inl ⟨by rfl, ?_⟩) (by assumption) ?_
        · intro wq hS
          have e0 := hS.2.cell 0 (v := .bool m) rfl
          have e1 := hS.2.cell 1 (v := .slice a nn kk) rfl
          go_simp
        try simp only [Act.put, List.setIfInBounds_toArray, List.set_cons_zero, List.set_cons_succ]
        refine takeD 14 67 (.pointer (some ⟨q + 1, 0, none⟩)) (by exact rfl) rfl (by kernel_rfl) (by kernel_rfl) (by kernel_rfl) (fun _ _ _ h => h) (Or.inl ⟨by rfl, ?_⟩) (by assumption) ?_
        · intro wq hS
          go_simp
        try simp only [Act.put, List.setIfInBounds_toArray, List.set_cons_zero, List.set_cons_succ]
        refine takeD 15 68 (.pointer (some ⟨q + 1, c * 8, none⟩)) (by exact rfl) rfl (by kernel_rfl) (by kernel_rfl) (by kernel_rfl) (fun _ _ _ h => h) (Or.inl ⟨by rfl, ?_⟩) (by assumption) ?_
        · intro wq hS
          go_simp
        try simp only [Act.put, List.setIfInBounds_toArray, List.set_cons_zero, List.set_cons_succ]
        clear hHeld
        obtain ⟨mm, am, km, cm, z0, z1, zi⟩ := (G5s.out.step (Below.refl w5s.heap.size w5s).drew).at (4 * c + u) (by omega)
        rw [show (4 * c + u) * 2 = c * 8 + u * 2 by omega] at z0 z1
        have HZI := (show Hid _ from zi)
        clear zi
        refine wpAnyH_ready (rs := [11]) (by kernel_rfl) (by simp) ?_
        refine AllReadyH.cons (by exact rfl) (fun K hK => ?_) AllReadyH.nil
        go_simp
        clear z0 z1
        refine hK.out _ _ ⟨V9w5s.out.drew, V10w5s.out.drew⟩ (fun hHeld => ?_)
        clear hK K hHeld
        try simp only [Act.put, List.setIfInBounds_toArray, List.set_cons_zero, List.set_cons_succ]
        refine wpAnyH_ready (rs := [13]) (by kernel_rfl) (by simp) ?_
        refine AllReadyH.cons (by exact rfl) (fun K hK => ?_) AllReadyH.nil
        go_simp
        refine (sum_in _ _ _ _ _ HZI.out (HIw5s.out.drew) (nf_mi HRG.out (fun y hy => HK.out.wf y (List.mem_of_mem_take hy)) (by rw [List.length_take]; have := HK.out.sz; omega) _ (by omega)) HUM.out).mono ?_
        rintro e w6 ⟨⟨r6, rfl, i6⟩, b6⟩
        have b6 : Below w5s.heap.size w5s w6 := ((Below.refl w5s.heap.size w5s).drew).trans b6
        obtain ⟨mr, ar, nr, cr, rfl, _⟩ := i6.form
        have HR6 := (show Hid _ from i6)
        have V9w6 := (show Hid _ from V9w5s.out.step b6)
        have V10w6 := (show Hid _ from V10w5s.out.step b6)
        have F6 := (show Hid _ from G5s.out.step b6)
        have G6 := (show Hid _ from F5s.out.step b6)
        have HIw6 := (show Hid _ from HIw5s.out.step b6)
        have HBw6 := (show Hid _ from HBw5s.out.trans (b6.mono (by have := HBw5s.out.size; have := HQ.out; omega)))
        clear b6 i6 HZI V9w5s V10w5s HIw5s HBw5s G5s F5s
        go_wp2_with fail
        refine hK.out _ _ ⟨V9w6.out, V10w6.out⟩ (fun hHeld => ?_)
        clear hK K
        try simp only [Act.put, List.setIfInBounds_toArray, List.set_cons_zero, List.set_cons_succ]
        refine takeD 16 69 (.pointer (some ⟨q + 1, c * 8 + u * 2, none⟩)) (by exact rfl) rfl (by kernel_rfl) (by kernel_rfl) (by kernel_rfl) (fun _ _ _ h => h) (Or.inl ⟨by rfl, ?_⟩) (by assumption) ?_
        · intro wq hS
          go_simp
        try simp only [Act.put, List.setIfInBounds_toArray, List.set_cons_zero, List.set_cons_succ]
        clear hHeld
        refine wpAnyH_ready (rs := [17]) (by kernel_rfl) (by simp) ?_
        refine AllReadyH.cons (by exact rfl) (fun K hK => ?_) AllReadyH.nil
        refine stMid (by rfl) (by rfl) 29 _ _ (by rfl) (q + 1) (c * 8 + u * 2) [.bool mr, .slice ar nr cr] (by rfl) (by rfl) ((by have := F6.out.there (4 * c + u) (by omega); rwa [show (4 * c + u) * 2 = c * 8 + u * 2 by omega] at this)) infoIn (int_one _ _ _ _) ?_
        have S6 := F6.out.set (by decide) (4 * c + u) (by omega) HR6.out
        rw [show (4 * c + u) * 2 = c * 8 + u * 2 by omega] at S6
        have U6 := setCells_but w6 (q + 1) (c * 8 + u * 2) [.bool mr, .slice ar nr cr]
        have KU6 : KeepU w6 (w6.setCells (q + 1) (c * 8 + u * 2) [.bool mr, .slice ar nr cr]) := by
          obtain ⟨cs, h1, _⟩ := F6.out.ex
          exact U6.keepU h1 (by decide)
        have V9w6s := (show Hid _ from V9w6.out.but U6 (fun (e : q9 = (q + 1)) => by have := HQ9.out; omega))
        have V10w6s := (show Hid _ from V10w6.out.but U6 (fun (e : q10 = (q + 1)) => by have := HQ9.out; omega))
        have F6s := (show Hid _ from S6)
        have G6s := (show Hid _ from G6.out.mv (U6.block _ G6.out.lt (by omega)) KU6)
        have HIw6s := (show Hid _ from HIw6.out.keepU KU6)
        have HBw6s := (show Hid _ from HBw6.out.trans (U6.below (by have := HBw6.out.size; have := HQ.out; omega) (fun i (hi : i = (q + 1)) => by omega)))
        refine hK.out _ _ ⟨V9w6s.out, V10w6s.out⟩ (fun hHeld => ?_)
        clear hK K hHeld S6 U6 KU6 V9w6 V10w6 F6 G6 HIw6 HBw6 HR6
        refine wpAnyH_done (by kernel_rfl) ?_ _
        refine NoPanic.normal ?_
        go_wp2_with fail
        refine ⟨⟨k + 1, by omega, by go_num, ?_, HPK.out, ?_, ?_, HBw6s.out⟩, by simp [intOf]; omega⟩
        · rw [HAL.out]; simp
        · have e := HOK.out
          rw [show okl (ls.take (k + 1)) = okl (ls.take k) ++ [⟨(c : Int), (u : Int), x2, x3, x4⟩] by simpa using e]
          refine G6s.out.congr (g := fun i => sau (okl (ls.take k) ++ [⟨(c : Int), (u : Int), x2, x3, x4⟩]) (i : Int)) (fun i hi => ?_)
          show _ = sau (okl (ls.take k) ++ [⟨(c : Int), (u : Int), x2, x3, x4⟩]) (i : Int)
          rw [HE1.out]
          by_cases e : i = u
          · subst e; rw [if_pos rfl, if_pos rfl]
          · rw [if_neg e, if_neg (fun e' => e (by omega)), Int.add_zero]
        · have e := HOK.out
          rw [show okl (ls.take (k + 1)) = okl (ls.take k) ++ [⟨(c : Int), (u : Int), x2, x3, x4⟩] by simpa using e]
          refine F6s.out.congr (g := nf b (okl (ls.take k) ++ [⟨(c : Int), (u : Int), x2, x3, x4⟩])) (fun i hi => ?_)
          unfold nf
          rw [HE2.out]
          by_cases e : i = 4 * c + u
          · subst e
            rw [if_pos rfl, show (4 * c + u) / 4 = c by have := HCU.out; omega, show (4 * c + u) % 4 = u by have := HCU.out; omega, if_pos ⟨rfl, rfl⟩, Int.add_assoc]
          · rw [if_neg e, if_neg (fun e' => e (by have := HCU.out; omega)), Int.add_zero]
      · have HIw4 := (show Hid _ from HI4.out rfl)
        have HUM := (show Hid _ from HUMI.out rfl)
        clear HI4 HUMI
        go_upto_region 14 with fail
        generalize wr.heap.size = q9 at *
        generalize w3.heap.size = q10 at *
        generalize w3.alloc (.cells #[.bool m, .slice a nn kk] 29) = w4 at *
        refine wp_region_noPanic ?_
        refine wp_region_held_drew (S := fun w' => VA w' q9 [.int .i64 (c : Int), .int .i64 (u : Int), .int .i64 x2, .int .u64 x3, .int .i64 x4] 39 ∧ VA w' q10 [.bool m, .slice a nn kk] 29) (by kernel_rfl) ⟨V9w4.out.drew, V10w4.out.drew⟩ (fun hHeld => ?_)
        refine takeD 0 44 (.pointer (some ⟨q9, 1, none⟩)) (by exact rfl) rfl (by kernel_rfl) (by kernel_rfl) (by kernel_rfl) (fun _ _ _ h => h) (Or.inl ⟨by rfl, ?_⟩) (by assumption) ?_
        · intro wq hS
          go_simp
        try simp only [Act.put, List.setIfInBounds_toArray, List.set_cons_zero, List.set_cons_succ]
        refine takeD 1 45 (.int .i64 (u : Int)) (by exact rfl) rfl (by kernel_rfl) (by kernel_rfl) (by kernel_rfl) (fun _ _ _ h => h) (Or.inl ⟨by rfl, ?_⟩) (by assumption) ?_
        · intro wq hS
          have e0 := hS.1.cell 1 (v := .int .i64 (u : Int)) rfl
          go_simp
        try simp only [Act.put, List.setIfInBounds_toArray, List.set_cons_zero, List.set_cons_succ]
        refine takeD 2 46 (.pointer (some ⟨q9, 1, none⟩)) (by exact rfl) rfl (by kernel_rfl) (by kernel_rfl) (by kernel_rfl) (fun _ _ _ h => h) (Or.inl ⟨by rfl, ?_⟩) (by assumption) ?_
        · intro wq hS
          go_simp
        try simp only [Act.put, List.setIfInBounds_toArray, List.set_cons_zero, List.set_cons_succ]
        refine takeD 3 47 (.int .i64 (u : Int)) (by exact rfl) rfl (by kernel_rfl) (by kernel_rfl) (by kernel_rfl) (fun _ _ _ h => h) (Or.inl ⟨by rfl, ?_⟩) (by assumption) ?_
        · intro wq hS
          have e0 := hS.1.cell 1 (v := .int .i64 (u : Int)) rfl
          go_simp
        try simp only [Act.put, List.setIfInBounds_toArray, List.set_cons_zero, List.set_cons_succ]
        refine takeD 4 48 (.pointer (some ⟨q, u * 2, none⟩)) (by exact rfl) rfl (by kernel_rfl) (by kernel_rfl) (by kernel_rfl) (fun _ _ _ h => h) (Or.inl ⟨by rfl, ?_⟩) (by assumption) ?_
        · intro wq hS
          go_simp
        try simp only [Act.put, List.setIfInBounds_toArray, List.set_cons_zero, List.set_cons_succ]
        refine takeD 6 50 (.agg #[.bool m, .slice a nn kk]) (by exact rfl) rfl (by kernel_rfl) (by kernel_rfl) (by kernel_rfl) (fun _ _ _ h => h) (Or.inl ⟨by rfl, ?_⟩) (by assumption) ?_
        · intro wq hS
          have e0 := hS.2.cell 0 (v := .bool m) rfl
          have e1 := hS.2.cell 1 (v := .slice a nn kk) rfl
          go_simp
        try simp only [Act.put, List.setIfInBounds_toArray, List.set_cons_zero, List.set_cons_succ]
        clear hHeld
        obtain ⟨mm, am, km, cm, z0, z1, zi⟩ := (HSw4.out.step (Below.refl w4.heap.size w4).drew).at (u) (by omega)
        have HZI := (show Hid _ from zi)
        clear zi
        refine wpAnyH_ready (rs := [5]) (by kernel_rfl) (by simp) ?_
        refine AllReadyH.cons (by exact rfl) (fun K hK => ?_) AllReadyH.nil
        go_simp
        clear z0 z1
        refine hK.out _ _ ⟨V9w4.out.drew, V10w4.out.drew⟩ (fun hHeld => ?_)
        clear hK K hHeld
        try simp only [Act.put, List.setIfInBounds_toArray, List.set_cons_zero, List.set_cons_succ]
        refine wpAnyH_ready (rs := [7]) (by kernel_rfl) (by simp) ?_
        refine AllReadyH.cons (by exact rfl) (fun K hK => ?_) AllReadyH.nil
        go_simp
        refine (sum_in _ _ _ _ _ HZI.out (HIw4.out.drew) (sau_mi (fun y hy => HK.out.wf y (List.mem_of_mem_take hy)) (by rw [List.length_take]; have := HK.out.sz; omega) _) HUM.out).mono ?_
        rintro e w5 ⟨⟨r5, rfl, i5⟩, b5⟩
        have b5 : Below w4.heap.size w4 w5 := ((Below.refl w4.heap.size w4).drew).trans b5
        obtain ⟨mr, ar, nr, cr, rfl, _⟩ := i5.form
        have HR5 := (show Hid _ from i5)
        have V9w5 := (show Hid _ from V9w4.out.step b5)
        have V10w5 := (show Hid _ from V10w4.out.step b5)
        have F5 := (show Hid _ from HSw4.out.step b5)
        have G5 := (show Hid _ from HXw4.out.step b5)
        have HIw5 := (show Hid _ from HIw4.out.step b5)
        have HBw5 := (show Hid _ from HBw4.out.trans (b5.mono (by have := HBw4.out.size; have := HQ.out; omega)))
        clear b5 i5 HZI V9w4 V10w4 HIw4 HBw4 HSw4 HXw4
        go_wp2_with fail
        refine hK.out _ _ ⟨V9w5.out, V10w5.out⟩ (fun hHeld => ?_)
        clear hK K
        try simp only [Act.put, List.setIfInBounds_toArray, List.set_cons_zero, List.set_cons_succ]
        refine takeD 8 52 (.pointer (some ⟨q, u * 2, none⟩)) (by exact rfl) rfl (by kernel_rfl) (by kernel_rfl) (by kernel_rfl) (fun _ _ _ h => h) (Or.inl ⟨by rfl, ?_⟩) (by assumption) ?_
        · intro wq hS
          go_simp
        try simp only [Act.put, List.setIfInBounds_toArray, List.set_cons_zero, List.set_cons_succ]
        clear hHeld
        refine wpAnyH_ready (rs := [9]) (by kernel_rfl) (by simp) ?_
        refine AllReadyH.cons (by exact rfl) (fun K hK => ?_) AllReadyH.nil
        refine stMid (by rfl) (by rfl) 29 _ _ (by rfl) q (u * 2) [.bool mr, .slice ar nr cr] (by rfl) (by rfl) (F5.out.there (u) (by omega)) infoIn (int_one _ _ _ _) ?_
        have S5 := F5.out.set (by decide) (u) (by omega) HR5.out
        have U5 := setCells_but w5 q (u * 2) [.bool mr, .slice ar nr cr]
        have KU5 : KeepU w5 (w5.setCells q (u * 2) [.bool mr, .slice ar nr cr]) := by
          obtain ⟨cs, h1, _⟩ := F5.out.ex
          exact U5.keepU h1 (by decide)
        have V9w5s := (show Hid _ from V9w5.out.but U5 (fun (e : q9 = q) => by have := HQ9.out; omega))
        have V10w5s := (show Hid _ from V10w5.out.but U5 (fun (e : q10 = q) => by have := HQ9.out; omega))
        have F5s := (show Hid _ from S5)
        have G5s := (show Hid _ from G5.out.mv (U5.block _ G5.out.lt (by omega)) KU5)
        have HIw5s := (show Hid _ from HIw5.out.keepU KU5)
        have HBw5s := (show Hid _ from HBw5.out.trans (U5.below (by have := HBw5.out.size; have := HQ.out; omega) (fun i (hi : i = q) => by omega)))
        refine hK.out _ _ ⟨V9w5s.out, V10w5s.out⟩ (fun hHeld => ?_)
        clear hK K hHeld S5 U5 KU5 V9w5 V10w5 F5 G5 HIw5 HBw5 HR5
        refine wpAnyH_done (by kernel_rfl) ?_ _
        refine NoPanic.normal ?_
        go_upto_region 15 with fail
        generalize w5.setCells q (u * 2) [.bool mr, .slice ar nr cr] = w5s at *
        refine wp_region_noPanic ?_
        refine wp_region_held_drew (S := fun w' => VA w' q9 [.int .i64 (c : Int), .int .i64 (u : Int), .int .i64 x2, .int .u64 x3, .int .i64 x4] 39 ∧ VA w' q10 [.bool m, .slice a nn kk] 29) (by kernel_rfl) ⟨V9w5s.out.drew, V10w5s.out.drew⟩ (fun hHeld => ?_)
        refine takeD 0 53 (.pointer (some ⟨q9, 0, none⟩)) (by exact rfl) rfl (by kernel_rfl) (by kernel_rfl) (by kernel_rfl) (fun _ _ _ h => h) (Or.inl ⟨by rfl, ?_⟩) (by assumption) ?_
        · intro wq hS
          go_simp
        try simp only [Act.put, List.setIfInBounds_toArray, List.set_cons_zero, List.set_cons_succ]
        refine takeD 1 54 (.int .i64 (c : Int)) (by exact rfl) rfl (by kernel_rfl) (by kernel_rfl) (by kernel_rfl) (fun _ _ _ h => h) (Or.inl ⟨by rfl, ?_⟩) (by assumption) ?_
        · intro wq hS
          have e0 := hS.1.cell 0 (v := .int .i64 (c : Int)) rfl
          go_simp
        try simp only [Act.put, List.setIfInBounds_toArray, List.set_cons_zero, List.set_cons_succ]
        refine takeD 2 55 (.pointer (some ⟨q9, 1, none⟩)) (by exact rfl) rfl (by kernel_rfl) (by kernel_rfl) (by kernel_rfl) (fun _ _ _ h => h) (Or.inl ⟨by rfl, ?_⟩) (by assumption) ?_
        · intro wq hS
          go_simp
        try simp only [Act.put, List.setIfInBounds_toArray, List.set_cons_zero, List.set_cons_succ]
        refine takeD 3 56 (.int .i64 (u : Int)) (by exact rfl) rfl (by kernel_rfl) (by kernel_rfl) (by kernel_rfl) (fun _ _ _ h => h) (Or.inl ⟨by rfl, ?_⟩) (by assumption) ?_
        · intro wq hS
          have e0 := hS.1.cell 1 (v := .int .i64 (u : Int)) rfl
          go_simp
        try simp only [Act.put, List.setIfInBounds_toArray, List.set_cons_zero, List.set_cons_succ]
        refine takeD 4 57 (.pointer (some ⟨q9, 0, none⟩)) (by exact rfl) rfl (by kernel_rfl) (by kernel_rfl) (by kernel_rfl) (fun _ _ _ h => h) (Or.inl ⟨by rfl, ?_⟩) (by assumption) ?_
        · intro wq hS
          go_simp
        try simp only [Act.put, List.setIfInBounds_toArray, List.set_cons_zero, List.set_cons_succ]
        refine takeD 5 58 (.int .i64 (c : Int)) (by exact rfl) rfl (by kernel_rfl) (by kernel_rfl) (by kernel_rfl) (fun _ _ _ h => h) (Or.inl ⟨by rfl, ?_⟩) (by assumption) ?_
        · intro wq hS
          have e0 := hS.1.cell 0 (v := .int .i64 (c : Int)) rfl
          go_simp
        try simp only [Act.put, List.setIfInBounds_toArray, List.set_cons_zero, List.set_cons_succ]
        refine takeD 6 59 (.pointer (some ⟨q9, 1, none⟩)) (by exact rfl) rfl (by kernel_rfl) (by kernel_rfl) (by kernel_rfl) (fun _ _ _ h => h) (Or.inl ⟨by rfl, ?_⟩) (by assumption) ?_
        · intro wq hS
          go_simp
        try simp only [Act.put, List.setIfInBounds_toArray, List.set_cons_zero, List.set_cons_succ]
        refine takeD 7 60 (.int .i64 (u : Int)) (by exact rfl) rfl (by kernel_rfl) (by kernel_rfl) (by kernel_rfl) (fun _ _ _ h => h) (Or.inl ⟨by rfl, ?_⟩) (by assumption) ?_
        · intro wq hS
          have e0 := hS.1.cell 1 (v := .int .i64 (u : Int)) rfl
          go_simp
        try simp only [Act.put, List.setIfInBounds_toArray, List.set_cons_zero, List.set_cons_succ]
        refine takeD 8 61 (.pointer (some ⟨q + 1, 0, none⟩)) (by exact rfl) rfl (by kernel_rfl) (by kernel_rfl) (by kernel_rfl) (fun _ _ _ h => h) (Or.inl ⟨by rfl, ?_⟩) (by assumption) ?_
        · intro wq hS
          go_simp
        try simp only [Act.put, List.setIfInBounds_toArray, List.set_cons_zero, List.set_cons_succ]
        refine takeD 9 62 (.pointer (some ⟨q + 1, c * 8, none⟩)) (by exact rfl) rfl (by kernel_rfl) (by kernel_rfl) (by kernel_rfl) (fun _ _ _ h => h) (Or.inl ⟨by rfl, ?_⟩) (by assumption) ?_
        · intro wq hS
          go_simp
        try simp only [Act.put, List.setIfInBounds_toArray, List.set_cons_zero, List.set_cons_succ]
        refine takeD 10 63 (.pointer (some ⟨q + 1, c * 8 + u * 2, none⟩)) (by exact rfl) rfl (by kernel_rfl) (by kernel_rfl) (by kernel_rfl) (fun _ _ _ h => h) (Or.inl ⟨by rfl, ?_⟩) (by assumption) ?_
        · intro wq hS
          go_simp
        try simp only [Act.put, List.setIfInBounds_toArray, List.set_cons_zero, List.set_cons_succ]
        refine takeD 12 65 (.agg #[.bool m, .slice a nn kk]) (by exact rfl) rfl (by kernel_rfl) (by kernel_rfl) (by kernel_rfl) (fun _ _ _ h => h) (Or.inl ⟨by rfl, ?_⟩) (by assumption) ?_
        · intro wq hS
          have e0 := hS.2.cell 0 (v := .bool m) rfl
          have e1 := hS.2.cell 1 (v := .slice a nn kk) rfl
          go_simp
        try simp only [Act.put, List.setIfInBounds_toArray, List.set_cons_zero, List.set_cons_succ]
        refine takeD 14 67 (.pointer (some ⟨q + 1, 0, none⟩)) (by exact rfl) rfl (by kernel_rfl) (by kernel_rfl) (by kernel_rfl) (fun _ _ _ h => h) (Or.inl ⟨by rfl, ?_⟩) (by assumption) ?_
        · intro wq hS
          go_simp
        try simp only [Act.put, List.setIfInBounds_toArray, List.set_cons_zero, List.set_cons_succ]
        refine takeD 15 68 (.pointer (some ⟨q + 1, c * 8, none⟩)) (by exact rfl) rfl (by kernel_rfl) (by kernel_rfl) (by kernel_rfl) (fun _ _ _ h => h) (Or.inl ⟨by rfl, ?_⟩) (by assumption) ?_
        · intro wq hS
          go_simp
        try simp only [Act.put, List.setIfInBounds_toArray, List.set_cons_zero, List.set_cons_succ]
        clear hHeld
        obtain ⟨mm, am, km, cm, z0, z1, zi⟩ := (G5s.out.step (Below.refl w5s.heap.size w5s).drew).at (4 * c + u) (by omega)
        rw [show (4 * c + u) * 2 = c * 8 + u * 2 by omega] at z0 z1
        have HZI := (show Hid _ from zi)
        clear zi
        refine wpAnyH_ready (rs := [11]) (by kernel_rfl) (by simp) ?_
        refine AllReadyH.cons (by exact rfl) (fun K hK => ?_) AllReadyH.nil
        go_simp
        clear z0 z1
        refine hK.out _ _ ⟨V9w5s.out.drew, V10w5s.out.drew⟩ (fun hHeld => ?_)
        clear hK K hHeld
        try simp only [Act.put, List.setIfInBounds_toArray, List.set_cons_zero, List.set_cons_succ]
        refine wpAnyH_ready (rs := [13]) (by kernel_rfl) (by simp) ?_
        refine AllReadyH.cons (by exact rfl) (fun K hK => ?_) AllReadyH.nil
        go_simp
        refine (sum_in _ _ _ _ _ HZI.out (HIw5s.out.drew) (nf_mi HRG.out (fun y hy => HK.out.wf y (List.mem_of_mem_take hy)) (by rw [List.length_take]; have := HK.out.sz; omega) _ (by omega)) HUM.out).mono ?_
        rintro e w6 ⟨⟨r6, rfl, i6⟩, b6⟩
        have b6 : Below w5s.heap.size w5s w6 := ((Below.refl w5s.heap.size w5s).drew).trans b6
        obtain ⟨mr, ar, nr, cr, rfl, _⟩ := i6.form
        have HR6 := (show Hid _ from i6)
        have V9w6 := (show Hid _ from V9w5s.out.step b6)
        have V10w6 := (show Hid _ from V10w5s.out.step b6)
        have F6 := (show Hid _ from G5s.out.step b6)
        have G6 := (show Hid _ from F5s.out.step b6)
        have HIw6 := (show Hid _ from HIw5s.out.step b6)
        have HBw6 := (show Hid _ from HBw5s.out.trans (b6.mono (by have := HBw5s.out.size; have := HQ.out; omega)))
        clear b6 i6 HZI V9w5s V10w5s HIw5s HBw5s G5s F5s
        go_wp2_with fail
        refine hK.out _ _ ⟨V9w6.out, V10w6.out⟩ (fun hHeld => ?_)
        clear hK K
        try simp only [Act.put, List.setIfInBounds_toArray, List.set_cons_zero, List.set_cons_succ]
        refine takeD 16 69 (.pointer (some ⟨q + 1, c * 8 + u * 2, none⟩)) (by exact rfl) rfl (by kernel_rfl) (by kernel_rfl) (by kernel_rfl) (fun _ _ _ h => h) (Or.inl ⟨by rfl, ?_⟩) (by assumption) ?_
        · intro wq hS
          go_simp
        try simp only [Act.put, List.setIfInBounds_toArray, List.set_cons_zero, List.set_cons_succ]
        clear hHeld
        refine wpAnyH_ready (rs := [17]) (by kernel_rfl) (by simp) ?_
        refine AllReadyH.cons (by exact rfl) (fun K hK => ?_) AllReadyH.nil
        refine stMid (by rfl) (by rfl) 29 _ _ (by rfl) (q + 1) (c * 8 + u * 2) [.bool mr, .slice ar nr cr] (by rfl) (by rfl) ((by have := F6.out.there (4 * c + u) (by omega); rwa [show (4 * c + u) * 2 = c * 8 + u * 2 by omega] at this)) infoIn (int_one _ _ _ _) ?_
        have S6 := F6.out.set (by decide) (4 * c + u) (by omega) HR6.out
        rw [show (4 * c + u) * 2 = c * 8 + u * 2 by omega] at S6
        have U6 := setCells_but w6 (q + 1) (c * 8 + u * 2) [.bool mr, .slice ar nr cr]
        have KU6 : KeepU w6 (w6.setCells (q + 1) (c * 8 + u * 2) [.bool mr, .slice ar nr cr]) := by
          obtain ⟨cs, h1, _⟩ := F6.out.ex
          exact U6.keepU h1 (by decide)
        have V9w6s := (show Hid _ from V9w6.out.but U6 (fun (e : q9 = (q + 1)) => by have := HQ9.out; omega))
        have V10w6s := (show Hid _ from V10w6.out.but U6 (fun (e : q10 = (q + 1)) => by have := HQ9.out; omega))
        have F6s := (show Hid _ from S6)
        have G6s := (show Hid _ from G6.out.mv (U6.block _ G6.out.lt (by omega)) KU6)
        have HIw6s := (show Hid _ from HIw6.out.keepU KU6)
        have HBw6s := (show Hid _ from HBw6.out.trans (U6.below (by have := HBw6.out.size; have := HQ.out; omega) (fun i (hi : i = (q + 1)) => by omega)))
        refine hK.out _ _ ⟨V9w6s.out, V10w6s.out⟩ (fun hHeld => ?_)
        clear hK K hHeld S6 U6 KU6 V9w6 V10w6 F6 G6 HIw6 HBw6 HR6
        refine wpAnyH_done (by kernel_rfl) ?_ _
        refine NoPanic.normal ?_
        go_wp2_with fail
        refine ⟨⟨k + 1, by omega, by go_num, ?_, HPK.out, ?_, ?_, HBw6s.out⟩, by simp [intOf]; omega⟩
        · rw [HAL.out]; simp
        · have e := HOK.out
          rw [show okl (ls.take (k + 1)) = okl (ls.take k) ++ [⟨(c : Int), (u : Int), x2, x3, x4⟩] by simpa using e]
          refine G6s.out.congr (g := fun i => sau (okl (ls.take k) ++ [⟨(c : Int), (u : Int), x2, x3, x4⟩]) (i : Int)) (fun i hi => ?_)
          show _ = sau (okl (ls.take k) ++ [⟨(c : Int), (u : Int), x2, x3, x4⟩]) (i : Int)
          rw [HE1.out]
          by_cases e : i = u
          · subst e; rw [if_pos rfl, if_pos rfl]
          · rw [if_neg e, if_neg (fun e' => e (by omega)), Int.add_zero]
        · have e := HOK.out
          rw [show okl (ls.take (k + 1)) = okl (ls.take k) ++ [⟨(c : Int), (u : Int), x2, x3, x4⟩] by simpa using e]
          refine F6s.out.congr (g := nf b (okl (ls.take k) ++ [⟨(c : Int), (u : Int), x2, x3, x4⟩])) (fun i hi => ?_)
          unfold nf
          rw [HE2.out]
          by_cases e : i = 4 * c + u
          · subst e
            rw [if_pos rfl, show (4 * c + u) / 4 = c by have := HCU.out; omega, show (4 * c + u) % 4 = u by have := HCU.out; omega, if_pos ⟨rfl, rfl⟩, Int.add_assoc]
          · rw [if_neg e, if_neg (fun e' => e (by have := HCU.out; omega)), Int.add_zero]
end Go.Proofs.YtlgcbbnnldlooaaDoor
