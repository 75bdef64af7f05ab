/- log VII: readFirst of a record that is there. -/
import Derived.Test.YtkmdegmpffgplaaGreatDoorLbj
namespace Go.Proofs.YtkmdegmpffgplaaGreatDoor
open Go.RowKit Go.Maps Go.Sort Go.Shelf pk
set_option linter.unusedVariables false
set_option linter.unusedSimpArgs false
/-- the bytes lie in a block of bytes -/
def SafeU (w : World) (v : Value) : Prop := ∀ b off n c, v = .slice (some ⟨b, off, none⟩) n c → ∃ cs z, w.heap[b]? = some (Obj.cells cs 5 z)
theorem SafeU.l {w : World} {v : Value} (h : SafeU w v) : SafeL w v := fun b off n c e => by
  obtain ⟨cs, z, h1⟩ := h b off n c e
  exact ⟨cs, _, z, h1, by unfold Dt; decide, by decide⟩
theorem SafeU.kel {w w' : World} {v : Value} (h : SafeU w v) (k : Kel w w') : SafeU w' v := fun b off n c e => by
  obtain ⟨cs, z, h1⟩ := h b off n c e
  exact ⟨cs, z, k.blk _ _ _ _ h1 (by unfold Dt; decide) (by decide)⟩
theorem pk.OwnB.safeU {w : World} {B : Nat} {v : Value} {bs : List Nat} (h : OwnB w B v bs) : SafeU w v := fun b off n c e => by
  rcases h.own.2 with ⟨e2, _⟩ | ⟨q, cap, cur, e2, _, hq, _⟩
  · rw [e2] at e; cases e
  · rw [e2] at e
    cases e
    exact ⟨_, _, hq⟩
theorem bs_tail {w : World} {b off n c : Nat} {bs : List Nat} (h : Bs w (.slice (some ⟨b, off, none⟩) n c) bs) (k : Nat) (hk : k ≤ bs.length) : Bs w (.slice (some ⟨b, off + k, none⟩) (n - k) (c - k)) (bs.drop k) := by
  obtain ⟨hby, a, c', e, h1, h2, h3, h4⟩ := h
  cases e
  refine ⟨hby.drop k, some ⟨b, off + k, none⟩, c - k, by rw [List.length_drop], by rw [List.length_drop]; omega, by omega, fun e => (by cases e), fun h0 => ?_⟩
  rw [List.length_drop] at h0
  obtain ⟨b', off', e', hb, hx⟩ := h4 (by omega)
  cases e'
  refine ⟨b, off + k, rfl, hb, fun j hj => ?_⟩
  rw [List.length_drop] at hj
  rw [Nat.add_assoc, hx (k + j) (by omega), bt_drop]
set_option maxRecDepth 100000 in
theorem bldR1_run (a : Option Addr) (L k : Nat) (w : World) : (Instr.build 77 #[(0, .slice a L k)]).run Tryz.prog w = .ok (.agg (rcd a L k (List.replicate 32 0)).toArray) w := by
  kernel_rfl
theorem bldR1 {w : World} {ops : Array Oper} {rest : List Oper} {o : Oper} {ac : Act} {Q : Exit → Act → World → Prop} (hgd : o.guard = none) (x : Operand) (ho : o.op = .build 77 #[(0, x)])
    (a : Option Addr) (L k : Nat) (hx : ac.eval x = .slice a L k)
    (h : wpList Tryz.prog ops Q rest (ac.put o.dst (.agg (rcd a L k (List.replicate 32 0)).toArray)) w) : wpList Tryz.prog ops Q (o :: rest) ac w := by
  refine wpList_plain hgd fun K hK' => ?_
  have hrun := bldR1_run a L k w
  unfold Oper.wp execOp
  simp only [ho, List.map_toArray, List.map_cons, List.map_nil, hx, Sem.run_bind, hrun, Result.andThen_ok, Sem.run_pure]
  exact hK' _ _ h
theorem eq4 (x0 x1 x2 x3 : Int) (w : World) : (Op.equalIn 10000 149 (.agg #[.int .u8 x0, .int .u8 x1, .int .u8 x2, .int .u8 x3]) (.agg #[.int .u8 x0, .int .u8 x1, .int .u8 x2, .int .u8 x3])).run Tryz.prog w = .ok true w := by
  obtain ⟨i, hi⟩ : ∃ i, Tryz.prog.info? 5 = some i := Option.isSome_iff_exists.1 (by kernel_rfl)
  rw [show (10000 : Nat) = 9999 + 1 from rfl, run_equalIn_array (P := Tryz.prog) w 9999 _ _ Tryz.underlying149 hi]
  have hc : Tryz.prog.cellsOf 5 = 1 := by kernel_rfl
  rw [hc]
  simp [List.range, List.range.loop, Op.eqItems, go_sem]
theorem lnk_get (xs : List Nat) (i : Nat) (h : i < 32) : (lnk xs)[i]? = some (.int .u8 (bt xs i)) := by simp [lnk, h]
theorem eq_itemsL (xs : List Nat) (w : World) : ∀ is : List Nat, (∀ i ∈ is, i < 32) → (Op.eqItems 9999 5 1 (lnk xs).toArray (lnk xs).toArray is).run Tryz.prog w = .ok true w
  | [], _ => by simp [Op.eqItems, go_sem]
  | i :: is, h => by
    have hi := h i (by simp)
    have ih := eq_itemsL xs w is (fun j hj => h j (by simp [hj]))
    have hg := lnk_get xs i hi
    simp [Op.eqItems, go_sem, hg, ih]
theorem eqLnk (xs : List Nat) (w : World) : (Op.equalIn 10000 71 (.agg (lnk xs).toArray) (.agg (lnk xs).toArray)).run Tryz.prog w = .ok true w := by
  obtain ⟨i, hi⟩ : ∃ i, Tryz.prog.info? 5 = some i := Option.isSome_iff_exists.1 (by kernel_rfl)
  rw [show (10000 : Nat) = 9999 + 1 from rfl, run_equalIn_array (P := Tryz.prog) w 9999 _ _ Tryz.underlying71 hi]
  have hc : Tryz.prog.cellsOf 5 = 1 := by kernel_rfl
  rw [hc]
  exact eq_itemsL xs w _ (fun j hj => by have := List.mem_range.1 hj; omega)
/-- copy of the front of bytes into a row known whole -/
theorem cpRunT {w : World} {rT : TypeId} {g o dL dC : Nat} {b off n c : Nat} {bs : List Nat} (hu : Bs w (.slice (some ⟨b, off, none⟩) n c) bs) (hL : dL ≤ bs.length) (h0 : 0 < bs.length) {cs : List Value} {T : TypeId} (V : VA w g cs T) (hf : o + dL ≤ cs.length) :
    ∃ w', (Builtin.copy_ #[22, 22] rT #[.slice (some ⟨g, o, none⟩) dL dC, .slice (some ⟨b, off, none⟩) n c]).run Tryz.prog w = .ok (.int .i64 (dL : Int)) w' ∧ VA w' g (cs.take o ++ cl (bs.take dL) ++ cs.drop (o + dL)) T ∧ Upd g w w' := by
  obtain ⟨i0, hi, hz0, hz1, hz2⟩ := info8_parts
  obtain ⟨hby, ad, c', e, h1, h2, h3, h4⟩ := hu
  cases e
  obtain ⟨b', off', e', hb, hx⟩ := h4 h0
  cases e'
  have htl : (bs.take dL).length = dL := by rw [List.length_take]; omega
  have hr := run_copy_row (P := Tryz.prog) w 22 22 rT 5 g o dL dC ⟨b, off, none⟩ bs.length c cs.toArray T (cl (bs.take dL)) Tryz.underlying22 (by rw [hi]; simp [hz1]) V.blk (by rw [cl_len, htl]; exact (Nat.min_eq_right hL).symm) (fun j v hv => by
    have hj : j < dL := by have := (List.getElem?_eq_some_iff.1 hv).1; rwa [cl_len, htl] at this
    rw [Go.WideShapes.add_plain, hx j (by omega)]
    rw [cl_get _ j (by rw [htl]; exact hj), bt_take _ _ _ hj] at hv
    exact hv) (by rw [cl_len, htl]; simpa using hf) (fun v hv => cl_one hv)
  rw [cl_len, htl] at hr
  refine ⟨_, hr, ⟨?_⟩, upd_setRow w g _⟩
  rw [setRow_heap w g _ _ _ _ V.blk]
theorem bs_upd {w w' : World} {q b off n c : Nat} {bs : List Nat} (h : Bs w (.slice (some ⟨b, off, none⟩) n c) bs) (k : Upd q w w') (hb : b ≠ q) : Bs w' (.slice (some ⟨b, off, none⟩) n c) bs := by
  obtain ⟨hby, a', c', e, h1, h2, h3, h4⟩ := h
  cases e
  refine ⟨hby, _, _, rfl, h1, h2, h3, fun h0 => ?_⟩
  obtain ⟨b', off', e', hlt, hx⟩ := h4 h0
  cases e'
  refine ⟨b, off, rfl, by rw [k.size]; exact hlt, fun j hj => ?_⟩
  rw [← hx j hj]
  unfold World.cell?
  rw [k.block b hb]
theorem safeU_upd {w w' : World} {q b off n c : Nat} (h : SafeU w (.slice (some ⟨b, off, none⟩) n c)) (k : Upd q w w') (hb : b ≠ q) : SafeU w' (.slice (some ⟨b, off, none⟩) n c) := fun b' o' n' c' e => by
  cases e
  obtain ⟨cs, z, h1⟩ := h b off n c rfl
  exact ⟨cs, z, by rw [k.block b hb]; exact h1⟩
/-- the byte that tells how many parts there are -/
theorem cutK_first (mk : Nat) (hd : Nat → List Nat) (bs : List Nat) (j : Nat) (hj : j < 32) : ∀ k, (cutK mk hd bs (k + 1))[j]? = (secB mk (hd 0) (prt4 bs 0))[j]?
  | 0 => by rw [cutK_succ]; rfl
  | k + 1 => by rw [cutK_succ, List.getElem?_append_left (by rw [cutK_len]; omega), cutK_first mk hd bs j hj k]
theorem secL_count (num : Nat) (p xs : List Nat) (hx : xs.length = 32) (hl : p.length ≤ 4096) : (secL num p xs)[7]? = some (cn4 (p.length + 36)) := by
  have hb : (p ++ crc4 (crc p) ++ xs).length = p.length + 36 := by simp [crc4, hx]
  unfold secL cutB
  rw [hb]
  obtain ⟨k, hk⟩ : ∃ k, cn4 (p.length + 36) = k + 1 := ⟨cn4 (p.length + 36) - 1, by unfold cn4; omega⟩
  rw [hk, cutK_first _ _ _ 7 (by omega)]
  unfold secB
  rw [pad32_get _ 7 (by omega)]
  have : (k + 1) % 256 = k + 1 := by unfold cn4 at hk; omega
  simp [hd6, this]
set_option maxRecDepth 100000 in
set_option maxHeartbeats 4000000 in
theorem readFirst_ok (num : Nat) (p xs rest : List Nat) (a : Option Addr) (n c : Nat) (w : World) (h : Bs w (.slice a n c) (secL num p xs ++ rest)) (hsf : SafeU w (.slice a n c)) (hpb : By p) (hxb : By xs) (h0 : 0 < p.length) (hl : p.length ≤ 4096) (hx : xs.length = 32) (hnum : num < 4294967296) :
    Calls Tryz.prog 95 #[.int .i64 (num : Int), .slice a n c] w fun e w' => (∃ pa r, e = .returned (.tuple #[.agg (rcd pa p.length p.length xs).toArray, r, .bool true]) ∧ Bs w' (.slice pa p.length p.length) p ∧ SafeU w' (.slice pa p.length p.length) ∧ Bs w' r rest ∧ SafeU w' r ∧ ∃ ra rc, r = .slice ra rest.length rc) ∧ Below w.heap.size w w' := by
  obtain ⟨C, hC⟩ : ∃ C, C = cn4 (p.length + 36) := ⟨_, rfl⟩
  have hbl : (p ++ crc4 (crc p) ++ xs).length = p.length + 36 := by simp [crc4, hx]
  have hsl : (secL num p xs).length = 32 * C := by rw [secL_len, hx, hC]
  have hC1 : 1 ≤ C ∧ C ≤ 173 := by rw [hC]; unfold cn4; omega
  have hnl := h.len
  have hnn : n = 32 * C + rest.length := by rw [hnl.1, List.length_append, hsl]
  obtain ⟨b, off, rfl⟩ : ∃ b off, a = some ⟨b, off, none⟩ := by
    obtain ⟨_, a', c', e, _, _, _, h4⟩ := h
    cases e
    obtain ⟨b, off, e2, _⟩ := h4 (by rw [List.length_append, hsl]; omega)
    exact ⟨b, off, e2⟩
  have hy7 : w.cell? ⟨b, off + 7, none⟩ = some (.int .u8 (C : Int)) ∧ b < w.heap.size := by
    obtain ⟨_, a', c', e, _, _, _, h4⟩ := h
    cases e
    obtain ⟨b', off', e2, hb, hxx⟩ := h4 (by rw [List.length_append, hsl]; omega)
    cases e2
    refine ⟨?_, hb⟩
    rw [hxx 7 (by rw [List.length_append, hsl]; omega)]
    have : (secL num p xs ++ rest)[7]? = some C := by rw [List.getElem?_append_left (by rw [hsl]; omega), secL_count num p xs hx hl, hC]
    unfold bt
    rw [List.getD_eq_getElem?_getD, this]
    rfl
  obtain ⟨SZ, hSZ⟩ : ∃ SZ, SZ = 32 * C := ⟨_, rfl⟩
  have HFRONT : Hid (∀ w', Below w.heap.size w w' → Bs w' (.slice (some ⟨b, off, none⟩) SZ c) (cutB 177 (hd6 num) (p ++ crc4 (crc p) ++ xs))) := fun w' k => by
    have := (h.step k).cut SZ (by rw [List.length_append, hsl]; omega)
    rw [List.take_append_of_le_length (by rw [hsl]; omega), List.take_of_length_le (by rw [hsl]; omega)] at this
    exact this
  have HREST : Hid (∀ w', Below w.heap.size w w' → Bs w' (.slice (some ⟨b, off + SZ, none⟩) (n - SZ) (c - SZ)) rest) := fun w' k => by
    have := bs_tail (h.step k) SZ (by rw [List.length_append, hsl]; omega)
    rw [List.drop_append, List.drop_of_length_le (by rw [hsl]; omega), hsl, hSZ, Nat.sub_self, List.drop_zero, List.nil_append] at this
    rw [hSZ]
    exact this
  obtain ⟨BL, hBL⟩ : ∃ BL, BL = p.length + 36 := ⟨_, rfl⟩
  obtain ⟨PL, hPL⟩ : ∃ PL, PL = p.length := ⟨_, rfl⟩
  obtain ⟨cc, hcc⟩ : ∃ cc, cc = crc p := ⟨_, rfl⟩
  have HP : Hid (By p ∧ By xs ∧ xs.length = 32 ∧ PL = p.length ∧ (p ++ crc4 (crc p) ++ xs).length = BL ∧ crc p = cc ∧ cc < 4294967296) := ⟨hpb, hxb, hx, hPL, by rw [hbl, hBL], hcc.symm, by rw [hcc]; exact crc_lt p hpb⟩
  have D := (Below.refl w.heap.size w).alloc (Nat.le_refl _) (.cells #[.slice none 0 0, .int .u8 0, .int .u8 0, .int .u8 0, .int .u8 0, .int .u8 0, .int .u8 0, .int .u8 0, .int .u8 0, .int .u8 0, .int .u8 0, .int .u8 0, .int .u8 0, .int .u8 0, .int .u8 0, .int .u8 0, .int .u8 0, .int .u8 0, .int .u8 0, .int .u8 0, .int .u8 0, .int .u8 0, .int .u8 0, .int .u8 0, .int .u8 0, .int .u8 0, .int .u8 0, .int .u8 0, .int .u8 0, .int .u8 0, .int .u8 0, .int .u8 0, .int .u8 0] 77)
  have HD := (show Hid _ from D)
  have HV4 := (show Hid _ from va_new w [.slice none 0 0, .int .u8 0, .int .u8 0, .int .u8 0, .int .u8 0, .int .u8 0, .int .u8 0, .int .u8 0, .int .u8 0, .int .u8 0, .int .u8 0, .int .u8 0, .int .u8 0, .int .u8 0, .int .u8 0, .int .u8 0, .int .u8 0, .int .u8 0, .int .u8 0, .int .u8 0, .int .u8 0, .int .u8 0, .int .u8 0, .int .u8 0, .int .u8 0, .int .u8 0, .int .u8 0, .int .u8 0, .int .u8 0, .int .u8 0, .int .u8 0, .int .u8 0, .int .u8 0] 77)
  have HBB : Hid (b < w.heap.size) := hy7.2
  have HSF : Hid (SafeU w (.slice (some ⟨b, off, none⟩) n c)) := hsf
  clear hsf
  have y7 := (D.cell (p := ⟨b, off + 7, none⟩) hy7.2).trans hy7.1
  have dS : (C : Int) * 32 = (SZ : Int) := by omega
  have s1 : (SZ : Int) ≤ (n : Int) := by omega
  have s2 : (SZ : Int) ≤ (c : Int) := by omega
  have s3 : ¬ (n : Int) < (SZ : Int) := by omega
  have s4 : (7 : Int) < (n : Int) := by omega
  have s5 : ((n : Int) == 0) = false := by simp; omega
  have s6 : ¬ (n : Int) = 0 := by omega
  have t1 : ¬ (BL : Int) ≤ 36 := by omega
  have t2 : ¬ (4132 : Int) < (BL : Int) := by omega
  have t3 : (BL : Int) - 36 = (PL : Int) := by omega
  have t4 : (PL : Int) ≤ (BL : Int) := by omega
  have t5 : PL + 36 = BL := by omega
  have t6 : 0 < PL ∧ PL ≤ 4096 := by omega
  have HN : Hid (n = SZ + rest.length ∧ n ≤ c ∧ c ≤ 9223372036854775807 ∧ PL + 36 = BL ∧ 0 < PL ∧ PL ≤ 4096) := ⟨by omega, hnl.2.1, hnl.2.2, t5, t6⟩
  clear hnn hnl hy7 h hC hbl hsl hSZ hBL hPL hcc hpb hxb h0 hl hx D t5 t6
  have hC1a := hC1.2
  clear hC1
  go_enter Tryz.func95, Tryz.ntmps95
  go_upto_region 6 with fail
  generalize w.alloc (.cells #[.slice none 0 0, .int .u8 0, .int .u8 0, .int .u8 0, .int .u8 0, .int .u8 0, .int .u8 0, .int .u8 0, .int .u8 0, .int .u8 0, .int .u8 0, .int .u8 0, .int .u8 0, .int .u8 0, .int .u8 0, .int .u8 0, .int .u8 0, .int .u8 0, .int .u8 0, .int .u8 0, .int .u8 0, .int .u8 0, .int .u8 0, .int .u8 0, .int .u8 0, .int .u8 0, .int .u8 0, .int .u8 0, .int .u8 0, .int .u8 0, .int .u8 0, .int .u8 0, .int .u8 0] 77) = w0 at *
  refine wp_region_noPanic ?_
  refine wp_region_held_drew (S := fun V => True) (by kernel_rfl) trivial ?_
  intro hHeld
  have HD1 : Hid (Below w.heap.size w w0.drew) := HD.out.drew
  have HV1 : Hid (VA w0.drew w.heap.size [.slice none 0 0, .int .u8 0, .int .u8 0, .int .u8 0, .int .u8 0, .int .u8 0, .int .u8 0, .int .u8 0, .int .u8 0, .int .u8 0, .int .u8 0, .int .u8 0, .int .u8 0, .int .u8 0, .int .u8 0, .int .u8 0, .int .u8 0, .int .u8 0, .int .u8 0, .int .u8 0, .int .u8 0, .int .u8 0, .int .u8 0, .int .u8 0, .int .u8 0, .int .u8 0, .int .u8 0, .int .u8 0, .int .u8 0, .int .u8 0, .int .u8 0, .int .u8 0, .int .u8 0] 77) := VA.drew HV4.out
  clear HD HV4 y7
  generalize w0.drew = w1 at *
  refine takeD 0 28 (.slice (some ⟨b, off, none⟩) n c) (by exact rfl) rfl (by kernel_rfl) (by kernel_rfl) (by kernel_rfl) (fun _ _ _ h => h) (Or.inl ⟨by rfl, ?_⟩) (by assumption) ?_
  · intro wq hS
    go_simp
  try simp only [Act.put, List.setIfInBounds_toArray, List.set_cons_zero, List.set_cons_succ]
  refine takeD 1 29 (.int .i64 (SZ : Int)) (by exact rfl) rfl (by kernel_rfl) (by kernel_rfl) (by kernel_rfl) (fun _ _ _ h => h) (Or.inl ⟨by rfl, ?_⟩) (by assumption) ?_
  · intro wq hS
    go_simp
  try simp only [Act.put, List.setIfInBounds_toArray, List.set_cons_zero, List.set_cons_succ]
  refine takeD 2 30 (.slice (some ⟨b, off, none⟩) SZ c) (by exact rfl) rfl (by kernel_rfl) (by kernel_rfl) (by kernel_rfl) (fun _ _ _ h => h) (Or.inl ⟨by rfl, ?_⟩) (by assumption) ?_
  · intro wq hS
    go_simp
  try simp only [Act.put, List.setIfInBounds_toArray, List.set_cons_zero, List.set_cons_succ]
  refine takeD 3 31 (.int .i64 (num : Int)) (by exact rfl) rfl (by kernel_rfl) (by kernel_rfl) (by kernel_rfl) (fun _ _ _ h => h) (Or.inl ⟨by rfl, ?_⟩) (by assumption) ?_
  · intro wq hS
    go_simp
  try simp only [Act.put, List.setIfInBounds_toArray, List.set_cons_zero, List.set_cons_succ]
  refine wpAnyH_ready (rs := [4]) (by kernel_rfl) (by simp) ?_
  refine AllReadyH.cons (by exact rfl) (fun K hK => ?_) AllReadyH.nil
  go_simp
  refine (headmk_ok num hnum w1).mono ?_
  rintro e w2 ⟨rfl, vn, b2⟩
  have HD2 : Hid (Below w.heap.size w w2) := HD1.out.trans (b2.mono HD1.out.size)
  have HV2 := (show Hid _ from HV1.out.step b2)
  have HN2 := (show Hid _ from vn)
  go_wp2_with fail
  refine hK.out _ _ trivial (fun hHeld => ?_)
  clear hK K vn b2 HD1 HV1
  try simp only [Act.put, List.setIfInBounds_toArray, List.set_cons_zero, List.set_cons_succ]
  generalize w1.heap.size = Bn at *
  refine wpAnyH_ready (rs := [5]) (by kernel_rfl) (by simp) ?_
  refine AllReadyH.cons (by exact rfl) (fun K hK => ?_) AllReadyH.nil
  go_simp
  refine (join_ok w2 num Bn hnum HN2.out 177 (by omega) _ SZ c (p ++ crc4 (crc p) ++ xs) ((HP.out.1.app (crc4_by _)).app HP.out.2.1) (by rw [HP.out.2.2.2.2.1]; omega) (by rw [HP.out.2.2.2.2.1]; omega) (HFRONT.out w2 HD2.out)).mono ?_
  rintro e w3 ⟨⟨u3, rfl, o3⟩, b3⟩
  have HD3 : Hid (Below w.heap.size w w3) := HD2.out.trans (b3.mono HD2.out.size)
  have HV3 : Hid (VA w3 w.heap.size [.slice none 0 0, .int .u8 0, .int .u8 0, .int .u8 0, .int .u8 0, .int .u8 0, .int .u8 0, .int .u8 0, .int .u8 0, .int .u8 0, .int .u8 0, .int .u8 0, .int .u8 0, .int .u8 0, .int .u8 0, .int .u8 0, .int .u8 0, .int .u8 0, .int .u8 0, .int .u8 0, .int .u8 0, .int .u8 0, .int .u8 0, .int .u8 0, .int .u8 0, .int .u8 0, .int .u8 0, .int .u8 0, .int .u8 0, .int .u8 0, .int .u8 0, .int .u8 0, .int .u8 0] 77) := HV2.out.step b3
  have HO3 := (show Hid _ from o3)
  have HLT2 := (show Hid _ from HV2.out.lt)
  go_wp2_with fail
  refine hK.out _ _ trivial (fun hHeld => ?_)
  clear hK K b3 o3 HD2 HV2 HN2
  try simp only [Act.put, List.setIfInBounds_toArray, List.set_cons_zero, List.set_cons_succ]
  obtain ⟨ub, uo, uc, rfl, hub⟩ : ∃ ub uo uc, u3 = .slice (some ⟨ub, uo, none⟩) BL uc ∧ BL ≤ uc ∧ uc ≤ 9223372036854775807 := by
    obtain ⟨_, a', c', e, e1, e2, _, h4⟩ := HO3.out.bs
    obtain ⟨b', off', e3, _⟩ := h4 (by rw [HP.out.2.2.2.2.1]; omega)
    rw [HP.out.2.2.2.2.1] at e e1
    exact ⟨b', off', c', by rw [e, e3], e1, e2⟩
  have t7 : (BL : Int) ≤ (uc : Int) := by omega
  have t8 : (PL : Int) ≤ (uc : Int) := by omega
  refine takeD 6 27 (.tuple #[.slice (some ⟨ub, uo, none⟩) BL uc, .bool true]) (by exact rfl) rfl (by kernel_rfl) (by kernel_rfl) (by kernel_rfl) (fun _ _ _ h => h) (Or.inl ⟨by rfl, ?_⟩) (by assumption) ?_
  · intro wq hS
    go_simp
  try simp only [Act.put, List.setIfInBounds_toArray, List.set_cons_zero, List.set_cons_succ]
  refine takeD 7 34 (.slice (some ⟨ub, uo, none⟩) BL uc) (by exact rfl) rfl (by kernel_rfl) (by kernel_rfl) (by kernel_rfl) (fun _ _ _ h => h) (Or.inl ⟨by rfl, ?_⟩) (by assumption) ?_
  · intro wq hS
    go_simp
  try simp only [Act.put, List.setIfInBounds_toArray, List.set_cons_zero, List.set_cons_succ]
  refine takeD 8 35 (.bool true) (by exact rfl) rfl (by kernel_rfl) (by kernel_rfl) (by kernel_rfl) (fun _ _ _ h => h) (Or.inl ⟨by rfl, ?_⟩) (by assumption) ?_
  · intro wq hS
    go_simp
  try simp only [Act.put, List.setIfInBounds_toArray, List.set_cons_zero, List.set_cons_succ]
  refine takeD 9 8 (.slice (some ⟨ub, uo, none⟩) BL uc) (by exact rfl) rfl (by kernel_rfl) (by kernel_rfl) (by kernel_rfl) (fun _ _ _ h => h) (Or.inl ⟨by rfl, ?_⟩) (by assumption) ?_
  · intro wq hS
    go_simp
  try simp only [Act.put, List.setIfInBounds_toArray, List.set_cons_zero, List.set_cons_succ]
  refine takeD 10 9 (.bool true) (by exact rfl) rfl (by kernel_rfl) (by kernel_rfl) (by kernel_rfl) (fun _ _ _ h => h) (Or.inl ⟨by rfl, ?_⟩) (by assumption) ?_
  · intro wq hS
    go_simp
  try simp only [Act.put, List.setIfInBounds_toArray, List.set_cons_zero, List.set_cons_succ]
  refine wpAnyH_done (by kernel_rfl) ?_ _
  refine NoPanic.normal ?_
  have HU3 : Hid (Bs w3 (.slice (some ⟨ub, uo, none⟩) BL uc) (p ++ crc4 (crc p) ++ xs)) := HO3.out.bs
  have HSL3 : Hid (SafeU w3 (.slice (some ⟨ub, uo, none⟩) PL PL)) := (fun b' o' n' c' e => by cases e; exact HO3.out.safeU ub uo BL uc rfl)
  have HUB : Hid (w.heap.size < ub) := Nat.lt_of_lt_of_le HLT2.out (HO3.out.block ub rfl)
  clear hHeld HO3
  have VZ3 := (show Hid _ from va_new w3 [.slice none 0 0, .int .u8 0, .int .u8 0, .int .u8 0, .int .u8 0, .int .u8 0, .int .u8 0, .int .u8 0, .int .u8 0, .int .u8 0, .int .u8 0, .int .u8 0, .int .u8 0, .int .u8 0, .int .u8 0, .int .u8 0, .int .u8 0, .int .u8 0, .int .u8 0, .int .u8 0, .int .u8 0, .int .u8 0, .int .u8 0, .int .u8 0, .int .u8 0, .int .u8 0, .int .u8 0, .int .u8 0, .int .u8 0, .int .u8 0, .int .u8 0, .int .u8 0, .int .u8 0] 77)
  go_upto_region 11 with (first | (refine bldR1 rfl _ rfl (some ⟨ub, uo, none⟩) PL PL (by rfl) ?_) | (refine stA rfl 77 _ _ rfl w3.heap.size (by rfl) _ (rcd (some ⟨ub, uo, none⟩) PL PL (List.replicate 32 0)) (by rfl) _ VZ3.out (info33.trans (by rw [rcd_len])) (by rw [rcd_len]; rfl) (fun u hu => rcd_one hu) ?_; intro w4 R4 U4))
  have HR4 : Hid (VA w4 w3.heap.size (rcd (some ⟨ub, uo, none⟩) PL PL (List.replicate 32 0)) 77) := R4
  have HD4 : Hid (Below w3.heap.size w3 w4) := U4.bel ((Below.refl _ _).alloc (Nat.le_refl _) _) (Nat.le_refl _)
  clear R4 U4 VZ3
  go_upto_region 12 with fail
  have HR5 : Hid (VA (w4.alloc (.cells #[.int .u8 0, .int .u8 0, .int .u8 0, .int .u8 0] 149)).drew w3.heap.size (rcd (some ⟨ub, uo, none⟩) PL PL (List.replicate 32 0)) 77) := VA.drew (HR4.out.alloc _)
  have HD5 : Hid (Below w3.heap.size w3 (w4.alloc (.cells #[.int .u8 0, .int .u8 0, .int .u8 0, .int .u8 0] 149)).drew) := (HD4.out.alloc HD4.out.size _).drew
  have HC5 : Hid (VA (w4.alloc (.cells #[.int .u8 0, .int .u8 0, .int .u8 0, .int .u8 0] 149)).drew w4.heap.size [.int .u8 0, .int .u8 0, .int .u8 0, .int .u8 0] 149) := VA.drew (va_new w4 _ _)
  have HNE : Hid (w3.heap.size < w4.heap.size) := HR4.out.lt
  refine wp_region_noPanic ?_
  refine wp_region_held_drew (S := fun V => True) (by kernel_rfl) trivial ?_
  intro hHeld
  clear HR4 HD4
  generalize (w4.alloc (.cells #[.int .u8 0, .int .u8 0, .int .u8 0, .int .u8 0] 149)).drew = w6 at *
  generalize w4.heap.size = B12 at *
  refine takeD 0 57 (.slice (some ⟨B12, 0, none⟩) 4 4) (by exact rfl) rfl (by kernel_rfl) (by kernel_rfl) (by kernel_rfl) (fun _ _ _ h => h) (Or.inl ⟨by rfl, ?_⟩) (by assumption) ?_
  · intro wq hS
    go_simp
  try simp only [Act.put, List.setIfInBounds_toArray, List.set_cons_zero, List.set_cons_succ]
  refine takeD 1 58 (.slice (some ⟨ub, uo, none⟩) BL uc) (by exact rfl) rfl (by kernel_rfl) (by kernel_rfl) (by kernel_rfl) (fun _ _ _ h => h) (Or.inl ⟨by rfl, ?_⟩) (by assumption) ?_
  · intro wq hS
    go_simp
  try simp only [Act.put, List.setIfInBounds_toArray, List.set_cons_zero, List.set_cons_succ]
  refine takeD 2 59 (.int .i64 (PL : Int)) (by exact rfl) rfl (by kernel_rfl) (by kernel_rfl) (by kernel_rfl) (fun _ _ _ h => h) (Or.inl ⟨by rfl, ?_⟩) (by assumption) ?_
  · intro wq hS
    go_simp
  try simp only [Act.put, List.setIfInBounds_toArray, List.set_cons_zero, List.set_cons_succ]
  refine takeD 3 60 (.slice (some ⟨ub, uo + PL, none⟩) (BL - PL) (uc - PL)) (by exact rfl) rfl (by kernel_rfl) (by kernel_rfl) (by kernel_rfl) (fun _ _ _ h => h) (Or.inl ⟨by rfl, ?_⟩) (by assumption) ?_
  · intro wq hS
    have hne : ¬ uc = PL := by have := HN.out; omega
    go_simp
  try simp only [Act.put, List.setIfInBounds_toArray, List.set_cons_zero, List.set_cons_succ]
  obtain ⟨w7, hcp, VC7, U7⟩ := cpRunT (rT := 3) (o := 0) (dL := 4) (dC := 4) (bs_tail (HU3.out.step HD5.out) PL (by rw [HP.out.2.2.2.2.1]; have := HN.out; omega)) (by rw [List.length_drop, HP.out.2.2.2.2.1]; have := HN.out; omega) (by rw [List.length_drop, HP.out.2.2.2.2.1]; have := HN.out; omega) HC5.out (by simp)
  have HC7 : Hid (VA w7 B12 [.int .u8 ((cc : Int) / 16777216), .int .u8 ((cc : Int) / 65536 % 256), .int .u8 ((cc : Int) / 256 % 256), .int .u8 ((cc : Int) % 256)] 149) := by
    have e : ((p ++ crc4 (crc p) ++ xs).drop PL).take 4 = crc4 cc := by
      rw [List.append_assoc, List.drop_append, List.drop_of_length_le (by have := HP.out.2.2.2.1; omega), HP.out.2.2.2.1, Nat.sub_self, List.drop_zero, List.nil_append, HP.out.2.2.2.2.2.1]
      rfl
    rw [e, crc4_cl cc HP.out.2.2.2.2.2.2] at VC7
    exact VC7
  have HR7 : Hid (VA w7 w3.heap.size (rcd (some ⟨ub, uo, none⟩) PL PL (List.replicate 32 0)) 77) := HR5.out.upd U7 (by have := HNE.out; omega)
  have HD7 : Hid (Below w3.heap.size w3 w7) := U7.bel HD5.out (Nat.le_of_lt HNE.out)
  refine wpAnyH_ready (rs := [4]) (by kernel_rfl) (by simp) ?_
  refine AllReadyH.cons (by exact rfl) (fun K hK => ?_) AllReadyH.nil
  go_simp
  refine hK.out _ _ trivial (fun _ => ?_)
  clear hK K hHeld hcp VC7 U7 HR5 HD5 HC5
  try simp only [Act.put, List.setIfInBounds_toArray, List.set_cons_zero, List.set_cons_succ]
  refine wpAnyH_done (by kernel_rfl) ?_ _
  refine NoPanic.normal ?_
  go_upto_region 13 with fail
  refine wp_region_noPanic ?_
  refine wp_region_held_drew (S := fun V => True) (by kernel_rfl) trivial ?_
  intro hHeld
  have HR8 : Hid (VA w7.drew w3.heap.size (rcd (some ⟨ub, uo, none⟩) PL PL (List.replicate 32 0)) 77) := VA.drew HR7.out
  have HC8 : Hid (VA w7.drew B12 [.int .u8 ((cc : Int) / 16777216), .int .u8 ((cc : Int) / 65536 % 256), .int .u8 ((cc : Int) / 256 % 256), .int .u8 ((cc : Int) % 256)] 149) := VA.drew HC7.out
  have HD8 : Hid (Below w3.heap.size w3 w7.drew) := HD7.out.drew
  clear HR7 HC7 HD7
  generalize w7.drew = w8 at *
  have ta : (PL : Int) + 4 ≤ (BL : Int) := by have := HN.out; omega
  have tb : (PL : Int) ≤ 4096 := by have := HN.out; omega
  have tc : (PL : Int) + 4 ≤ (uc : Int) := by have := HN.out; omega
  refine takeD 0 62 (.pointer (some ⟨w3.heap.size, 1, none⟩)) (by exact rfl) rfl (by kernel_rfl) (by kernel_rfl) (by kernel_rfl) (fun _ _ _ h => h) (Or.inl ⟨by rfl, ?_⟩) (by assumption) ?_
  · intro wq hS
    go_simp
  try simp only [Act.put, List.setIfInBounds_toArray, List.set_cons_zero, List.set_cons_succ]
  refine takeD 1 63 (.slice (some ⟨w3.heap.size, 1, none⟩) 32 32) (by exact rfl) rfl (by kernel_rfl) (by kernel_rfl) (by kernel_rfl) (fun _ _ _ h => h) (Or.inl ⟨by rfl, ?_⟩) (by assumption) ?_
  · intro wq hS
    go_simp
  try simp only [Act.put, List.setIfInBounds_toArray, List.set_cons_zero, List.set_cons_succ]
  refine takeD 2 64 (.slice (some ⟨ub, uo, none⟩) BL uc) (by exact rfl) rfl (by kernel_rfl) (by kernel_rfl) (by kernel_rfl) (fun _ _ _ h => h) (Or.inl ⟨by rfl, ?_⟩) (by assumption) ?_
  · intro wq hS
    go_simp
  try simp only [Act.put, List.setIfInBounds_toArray, List.set_cons_zero, List.set_cons_succ]
  refine takeD 3 65 (.int .i64 (PL : Int)) (by exact rfl) rfl (by kernel_rfl) (by kernel_rfl) (by kernel_rfl) (fun _ _ _ h => h) (Or.inl ⟨by rfl, ?_⟩) (by assumption) ?_
  · intro wq hS
    go_simp
  try simp only [Act.put, List.setIfInBounds_toArray, List.set_cons_zero, List.set_cons_succ]
  refine takeD 4 66 (.int .i64 ((PL : Int) + 4)) (by exact rfl) rfl (by kernel_rfl) (by kernel_rfl) (by kernel_rfl) (fun _ _ _ h => h) (Or.inl ⟨by rfl, ?_⟩) (by assumption) ?_
  · intro wq hS
    have hw : IntKind.i64.wrap ((PL : Int) + 4) = (PL : Int) + 4 := by unfold IntKind.wrap; simp [IntKind.signed, IntKind.bits]; omega
    go_simp
  try simp only [Act.put, List.setIfInBounds_toArray, List.set_cons_zero, List.set_cons_succ]
  refine takeD 5 67 (.slice (some ⟨ub, uo + (PL + 4), none⟩) (BL - (PL + 4)) (uc - (PL + 4))) (by exact rfl) rfl (by kernel_rfl) (by kernel_rfl) (by kernel_rfl) (fun _ _ _ h => h) (Or.inl ⟨by rfl, ?_⟩) (by assumption) ?_
  · intro wq hS
    have hne : ¬ uc = PL + 4 := by have := HN.out; omega
    have e4 : ((PL : Int) + 4).toNat = PL + 4 := by omega
    have h5 : ¬ (PL : Int) + 4 < 0 := by omega
    have h6 : (0 : Int) ≤ (PL : Int) + 4 := by omega
    go_simp
  try simp only [Act.put, List.setIfInBounds_toArray, List.set_cons_zero, List.set_cons_succ]
  obtain ⟨w9, hcp, VR9, U9⟩ := cpRunT (rT := 3) (o := 1) (dL := 32) (dC := 32) (bs_tail (HU3.out.step HD8.out) (PL + 4) (by rw [HP.out.2.2.2.2.1]; have := HN.out; omega)) (by rw [List.length_drop, HP.out.2.2.2.2.1]; have := HN.out; omega) (by rw [List.length_drop, HP.out.2.2.2.2.1]; have := HN.out; omega) HR8.out (by rw [rcd_len]; omega)
  have HR9 : Hid (VA w9 w3.heap.size (rcd (some ⟨ub, uo, none⟩) PL PL xs) 77) := by
    have e : ((p ++ crc4 (crc p) ++ xs).drop (PL + 4)).take 32 = xs := by
      rw [List.drop_append, List.drop_of_length_le (by have := HP.out.2.2.2.1; simp [crc4]; omega), List.nil_append]
      rw [show PL + 4 - (p ++ crc4 (crc p)).length = 0 by have := HP.out.2.2.2.1; simp [crc4]; omega, List.drop_zero, List.take_of_length_le (by rw [HP.out.2.2.1]; omega)]
    rw [e, lnk_cl HP.out.2.2.1] at VR9
    exact VR9
  have HC9 : Hid (VA w9 B12 [.int .u8 ((cc : Int) / 16777216), .int .u8 ((cc : Int) / 65536 % 256), .int .u8 ((cc : Int) / 256 % 256), .int .u8 ((cc : Int) % 256)] 149) := HC8.out.upd U9 (by have := HNE.out; omega)
  have HD9 : Hid (Below w3.heap.size w3 w9) := U9.bel HD8.out (Nat.le_refl _)
  refine wpAnyH_ready (rs := [6]) (by kernel_rfl) (by simp) ?_
  refine AllReadyH.cons (by exact rfl) (fun K hK => ?_) AllReadyH.nil
  go_simp
  refine hK.out _ _ trivial (fun _ => ?_)
  clear hK K hHeld hcp VR9 U9 HR8 HD8 HC8 ta tb tc
  try simp only [Act.put, List.setIfInBounds_toArray, List.set_cons_zero, List.set_cons_succ]
  refine wpAnyH_done (by kernel_rfl) ?_ _
  refine NoPanic.normal ?_
  go_upto_region 14 with fail
  refine wp_region_noPanic ?_
  refine wp_region_held_drew (S := fun V => VA V w3.heap.size (rcd (some ⟨ub, uo, none⟩) PL PL xs) 77 ∧ VA V B12 [.int .u8 ((cc : Int) / 16777216), .int .u8 ((cc : Int) / 65536 % 256), .int .u8 ((cc : Int) / 256 % 256), .int .u8 ((cc : Int) % 256)] 149) (by kernel_rfl) ⟨VA.drew HR9.out, VA.drew HC9.out⟩ ?_
  intro hHeld
  have HD10 : Hid (Below w3.heap.size w3 w9.drew) := HD9.out.drew
  clear HR9 HC9 HD9
  generalize w9.drew = w10 at *
  refine takeD 0 69 (.agg #[.int .u8 ((cc : Int) / 16777216), .int .u8 ((cc : Int) / 65536 % 256), .int .u8 ((cc : Int) / 256 % 256), .int .u8 ((cc : Int) % 256)]) (by exact rfl) rfl (by kernel_rfl) (by kernel_rfl) (by kernel_rfl) (fun _ _ _ h => h) (yieldsIf_load_mid (by rfl) 149 _ rfl B12 0 (by rfl) ([.int .u8 ((cc : Int) / 16777216), .int .u8 ((cc : Int) / 65536 % 256), .int .u8 ((cc : Int) / 256 % 256), .int .u8 ((cc : Int) % 256)]) _ (fun wq hS => fun j v hv => by rw [Nat.zero_add]; exact hS.2.cell j hv) Tryz.underlying149 rfl (by kernel_rfl)) (by assumption) ?_
  try simp only [Act.put, List.setIfInBounds_toArray, List.set_cons_zero, List.set_cons_succ]
  refine takeD 1 70 (.pointer (some ⟨w3.heap.size, 0, none⟩)) (by exact rfl) rfl (by kernel_rfl) (by kernel_rfl) (by kernel_rfl) (fun _ _ _ h => h) (Or.inl ⟨by rfl, ?_⟩) (by assumption) ?_
  · intro wq hS
    go_simp
  try simp only [Act.put, List.setIfInBounds_toArray, List.set_cons_zero, List.set_cons_succ]
  refine takeD 2 71 (.slice (some ⟨ub, uo, none⟩) PL PL) (by exact rfl) rfl (by kernel_rfl) (by kernel_rfl) (by kernel_rfl) (fun _ _ _ h => h) (Or.inl ⟨by rfl, ?_⟩) (by assumption) ?_
  · intro wq hS
    have c0 := hS.1.cell 0 (v := .slice (some ⟨ub, uo, none⟩) PL PL) rfl
    go_simp
  try simp only [Act.put, List.setIfInBounds_toArray, List.set_cons_zero, List.set_cons_succ]
  have HPB : Hid (∀ w', Below w3.heap.size w3 w' → Bs w' (.slice (some ⟨ub, uo, none⟩) PL PL) p) := fun w' kk => by
    have hh := (HU3.out.step kk).cut PL (by rw [HP.out.2.2.2.2.1]; have := HN.out; omega)
    rw [List.append_assoc, List.take_append_of_le_length (by have := HP.out.2.2.2.1; omega), List.take_of_length_le (by have := HP.out.2.2.2.1; omega)] at hh
    obtain ⟨hby, a', c', e, e1, e2, e3, e4⟩ := hh
    cases e
    exact ⟨hby, _, _, by rw [← HP.out.2.2.2.1], by have := HP.out.2.2.2.1; omega, by have := HN.out; omega, fun e => (by cases e), e4⟩
  refine wpAnyH_ready (rs := [3]) (by kernel_rfl) (by simp) ?_
  refine AllReadyH.cons (by exact rfl) (fun K hK => ?_) AllReadyH.nil
  go_simp
  refine (pcrc_exp _ p w10 (HPB.out w10 HD10.out) cc HP.out.2.2.2.2.2.1).mono ?_
  rintro e w11 ⟨rfl, b11⟩
  have HD11 : Hid (Below w3.heap.size w3 w11) := HD10.out.trans (b11.mono HD10.out.size)
  go_wp2_with fail
  refine hK.out _ _ ⟨hHeld.1.step b11, hHeld.2.step b11⟩ (fun hHeld => ?_)
  clear hK K b11 HD10
  try simp only [Act.put, List.setIfInBounds_toArray, List.set_cons_zero, List.set_cons_succ]
  refine takeD 4 73 (.bool false) (by exact rfl) rfl (by kernel_rfl) (by kernel_rfl) (by kernel_rfl) (fun _ _ _ h => h) (Or.inl ⟨by rfl, ?_⟩) (by assumption) ?_
  · intro wq hS
    have e4 := eq4 ((cc : Int) / 16777216) ((cc : Int) / 65536 % 256) ((cc : Int) / 256 % 256) ((cc : Int) % 256) wq
    go_simp
  try simp only [Act.put, List.setIfInBounds_toArray, List.set_cons_zero, List.set_cons_succ]
  refine wpAnyH_done (by kernel_rfl) ?_ _
  refine NoPanic.normal ?_
  have HR11 : Hid (VA w11 w3.heap.size (rcd (some ⟨ub, uo, none⟩) PL PL xs) 77) := hHeld.1
  clear hHeld
  go_upto_region 16 with fail
  refine wp_region_noPanic ?_
  refine wp_region_held_drew (S := fun V => VA V w3.heap.size (rcd (some ⟨ub, uo, none⟩) PL PL xs) 77) (by kernel_rfl) (VA.drew HR11.out) ?_
  intro hHeld
  have HD12 : Hid (Below w3.heap.size w3 w11.drew) := HD11.out.drew
  clear HR11 HD11
  generalize w11.drew = w12 at *
  by_cases hcs : c = SZ
  · have HCS : Hid (c = SZ) := hcs
    clear hcs
    refine takeD 0 75 (.agg (rcd (some ⟨ub, uo, none⟩) PL PL xs).toArray) (by exact rfl) rfl (by kernel_rfl) (by kernel_rfl) (by kernel_rfl) (fun _ _ _ h => h) (yieldsIf_load_mid (by rfl) 77 _ rfl w3.heap.size 0 (by rfl) (rcd (some ⟨ub, uo, none⟩) PL PL xs) _ (fun wq hS => fun j v hv => by rw [Nat.zero_add]; exact hS.cell j hv) Tryz.underlying77 rfl (info33.trans (by rw [rcd_len]))) (by assumption) ?_
    try simp only [Act.put, List.setIfInBounds_toArray, List.set_cons_zero, List.set_cons_succ]
    refine takeD 1 76 (.slice (some ⟨b, off, none⟩) n c) (by exact rfl) rfl (by kernel_rfl) (by kernel_rfl) (by kernel_rfl) (fun _ _ _ h => h) (Or.inl ⟨by rfl, ?_⟩) (by assumption) ?_
    · intro wq hS
      go_simp
    try simp only [Act.put, List.setIfInBounds_toArray, List.set_cons_zero, List.set_cons_succ]
    refine takeD 2 77 (.int .i64 (SZ : Int)) (by exact rfl) rfl (by kernel_rfl) (by kernel_rfl) (by kernel_rfl) (fun _ _ _ h => h) (Or.inl ⟨by rfl, ?_⟩) (by assumption) ?_
    · intro wq hS
      go_simp
    try simp only [Act.put, List.setIfInBounds_toArray, List.set_cons_zero, List.set_cons_succ]
    refine takeD 3 78 (.slice (some ⟨b, off, none⟩) (n - SZ) (c - SZ)) (by exact rfl) rfl (by kernel_rfl) (by kernel_rfl) (by kernel_rfl) (fun _ _ _ h => h) (Or.inl ⟨by rfl, ?_⟩) (by assumption) ?_
    · intro wq hS
      have hcs := HCS.out
      go_simp
    try simp only [Act.put, List.setIfInBounds_toArray, List.set_cons_zero, List.set_cons_succ]
    refine wpAnyH_ready (rs := [4]) (by kernel_rfl) (by simp) ?_
    refine AllReadyH.cons (by exact rfl) (fun K hK => ?_) AllReadyH.nil
    refine stAn (by rfl) rfl 77 _ _ rfl w.heap.size (by rfl) _ (rcd (some ⟨ub, uo, none⟩) PL PL xs) (by rfl) _ (HV3.out.step HD12.out) (info33.trans (by rw [rcd_len])) (by rw [rcd_len]; rfl) (fun u hu => rcd_one hu) ?_
    intro w13 R13 U13
    refine hK.out _ _ (hHeld.upd U13 (by have := HV3.out.lt; omega)) (fun hHeld2 => ?_)
    clear hK K
    try simp only [Act.put, List.setIfInBounds_toArray, List.set_cons_zero, List.set_cons_succ]
    refine takeD 5 5 (.slice (some ⟨b, off, none⟩) (n - SZ) (c - SZ)) (by exact rfl) rfl (by kernel_rfl) (by kernel_rfl) (by kernel_rfl) (fun _ _ _ h => h) (Or.inl ⟨by rfl, ?_⟩) (by assumption) ?_
    · intro wq hS
      go_simp
    try simp only [Act.put, List.setIfInBounds_toArray, List.set_cons_zero, List.set_cons_succ]
    refine takeD 6 6 (.bool true) (by exact rfl) rfl (by kernel_rfl) (by kernel_rfl) (by kernel_rfl) (fun _ _ _ h => h) (Or.inl ⟨by rfl, ?_⟩) (by assumption) ?_
    · intro wq hS
      go_simp
    try simp only [Act.put, List.setIfInBounds_toArray, List.set_cons_zero, List.set_cons_succ]
    refine wpAnyH_done (by kernel_rfl) ?_ _
    refine NoPanic.normal ?_
    have HFIN : Hid (Below w.heap.size w w13) := U13.bel (HD3.out.trans (HD12.out.mono HD3.out.size)) (Nat.le_refl _)
    have HPF : Hid (Bs w13 (.slice (some ⟨ub, uo, none⟩) PL PL) p ∧ SafeU w13 (.slice (some ⟨ub, uo, none⟩) PL PL)) := ⟨bs_upd (HPB.out w12 HD12.out) U13 (by have := HUB.out; omega), safeU_upd (HSL3.out.kel (Kee.kel (Kee.bel HD12.out))) U13 (by have := HUB.out; omega)⟩
    have HRF : Hid (Bs w13 (.slice (some ⟨b, off, none⟩) (n - SZ) (c - SZ)) rest) := bs_upd (by have hn := HN.out; have hc := HCS.out; rw [show n - SZ = 0 by omega, show c - SZ = 0 by omega, List.eq_nil_of_length_eq_zero (show rest.length = 0 by omega)]; exact bs_empty _ _ _ (by omega)) U13 (by have := HBB.out; omega)
    have HSR : Hid (SafeU w13 (.slice (some ⟨b, off, none⟩) (n - SZ) (c - SZ))) := fun b' o' n' c' e => by
      cases e
      obtain ⟨cs, z, h1⟩ := (HSF.out.kel (Kee.kel (Kee.bel (HD3.out.trans (HD12.out.mono HD3.out.size))))) b off n c rfl
      exact ⟨cs, z, by rw [U13.block b (by have := HBB.out; omega)]; exact h1⟩
    have hld := run_loadVar_row (P := Tryz.prog) w13 w.heap.size 77 77 _ (0, 0) _ R13.blk Tryz.underlying77 rfl (info33.trans (by rw [List.size_toArray, rcd_len]))
    have HLD := (show Hid _ from hld)
    clear hHeld hHeld2 R13 U13 hld
    go_wp2_with fail
    refine bodyPost_ret (v := .tuple #[.agg (rcd (some ⟨ub, uo, none⟩) PL PL xs).toArray, .slice (some ⟨b, off, none⟩) (n - SZ) (c - SZ), .bool true]) (by have hld := HLD.out; simp [results, Tryz.results95, asAddr, hld]) rfl ?_
    rw [← HP.out.2.2.2.1]
    refine ⟨⟨_, _, rfl, HPF.out.1, HPF.out.2, HRF.out, HSR.out, ?_⟩, HFIN.out⟩
    have hrl : rest.length = n - SZ := by have := HN.out; omega
    rw [hrl]
    exact ⟨_, _, rfl⟩
  · have HCS : Hid (¬ c = SZ) := hcs
    clear hcs
    refine takeD 0 75 (.agg (rcd (some ⟨ub, uo, none⟩) PL PL xs).toArray) (by exact rfl) rfl (by kernel_rfl) (by kernel_rfl) (by kernel_rfl) (fun _ _ _ h => h) (yieldsIf_load_mid (by rfl) 77 _ rfl w3.heap.size 0 (by rfl) (rcd (some ⟨ub, uo, none⟩) PL PL xs) _ (fun wq hS => fun j v hv => by rw [Nat.zero_add]; exact hS.cell j hv) Tryz.underlying77 rfl (info33.trans (by rw [rcd_len]))) (by assumption) ?_
    try simp only [Act.put, List.setIfInBounds_toArray, List.set_cons_zero, List.set_cons_succ]
    refine takeD 1 76 (.slice (some ⟨b, off, none⟩) n c) (by exact rfl) rfl (by kernel_rfl) (by kernel_rfl) (by kernel_rfl) (fun _ _ _ h => h) (Or.inl ⟨by rfl, ?_⟩) (by assumption) ?_
    · intro wq hS
      go_simp
    try simp only [Act.put, List.setIfInBounds_toArray, List.set_cons_zero, List.set_cons_succ]
    refine takeD 2 77 (.int .i64 (SZ : Int)) (by exact rfl) rfl (by kernel_rfl) (by kernel_rfl) (by kernel_rfl) (fun _ _ _ h => h) (Or.inl ⟨by rfl, ?_⟩) (by assumption) ?_
    · intro wq hS
      go_simp
    try simp only [Act.put, List.setIfInBounds_toArray, List.set_cons_zero, List.set_cons_succ]
    refine takeD 3 78 (.slice (some ⟨b, off + SZ, none⟩) (n - SZ) (c - SZ)) (by exact rfl) rfl (by kernel_rfl) (by kernel_rfl) (by kernel_rfl) (fun _ _ _ h => h) (Or.inl ⟨by rfl, ?_⟩) (by assumption) ?_
    · intro wq hS
      have hcs := HCS.out
      go_simp
    try simp only [Act.put, List.setIfInBounds_toArray, List.set_cons_zero, List.set_cons_succ]
    refine wpAnyH_ready (rs := [4]) (by kernel_rfl) (by simp) ?_
    refine AllReadyH.cons (by exact rfl) (fun K hK => ?_) AllReadyH.nil
    refine stAn (by rfl) rfl 77 _ _ rfl w.heap.size (by rfl) _ (rcd (some ⟨ub, uo, none⟩) PL PL xs) (by rfl) _ (HV3.out.step HD12.out) (info33.trans (by rw [rcd_len])) (by rw [rcd_len]; rfl) (fun u hu => rcd_one hu) ?_
    intro w13 R13 U13
    refine hK.out _ _ (hHeld.upd U13 (by have := HV3.out.lt; omega)) (fun hHeld2 => ?_)
    clear hK K
    try simp only [Act.put, List.setIfInBounds_toArray, List.set_cons_zero, List.set_cons_succ]
    refine takeD 5 5 (.slice (some ⟨b, off + SZ, none⟩) (n - SZ) (c - SZ)) (by exact rfl) rfl (by kernel_rfl) (by kernel_rfl) (by kernel_rfl) (fun _ _ _ h => h) (Or.inl ⟨by rfl, ?_⟩) (by assumption) ?_
    · intro wq hS
      go_simp
    try simp only [Act.put, List.setIfInBounds_toArray, List.set_cons_zero, List.set_cons_succ]
    refine takeD 6 6 (.bool true) (by exact rfl) rfl (by kernel_rfl) (by kernel_rfl) (by kernel_rfl) (fun _ _ _ h => h) (Or.inl ⟨by rfl, ?_⟩) (by assumption) ?_
    · intro wq hS
      go_simp
    try simp only [Act.put, List.setIfInBounds_toArray, List.set_cons_zero, List.set_cons_succ]
    refine wpAnyH_done (by kernel_rfl) ?_ _
    refine NoPanic.normal ?_
    have HFIN : Hid (Below w.heap.size w w13) := U13.bel (HD3.out.trans (HD12.out.mono HD3.out.size)) (Nat.le_refl _)
    have HPF : Hid (Bs w13 (.slice (some ⟨ub, uo, none⟩) PL PL) p ∧ SafeU w13 (.slice (some ⟨ub, uo, none⟩) PL PL)) := ⟨bs_upd (HPB.out w12 HD12.out) U13 (by have := HUB.out; omega), safeU_upd (HSL3.out.kel (Kee.kel (Kee.bel HD12.out))) U13 (by have := HUB.out; omega)⟩
    have HRF : Hid (Bs w13 (.slice (some ⟨b, off + SZ, none⟩) (n - SZ) (c - SZ)) rest) := bs_upd (HREST.out w12 (HD3.out.trans (HD12.out.mono HD3.out.size))) U13 (by have := HBB.out; omega)
    have HSR : Hid (SafeU w13 (.slice (some ⟨b, off + SZ, none⟩) (n - SZ) (c - SZ))) := fun b' o' n' c' e => by
      cases e
      obtain ⟨cs, z, h1⟩ := (HSF.out.kel (Kee.kel (Kee.bel (HD3.out.trans (HD12.out.mono HD3.out.size))))) b off n c rfl
      exact ⟨cs, z, by rw [U13.block b (by have := HBB.out; omega)]; exact h1⟩
    have hld := run_loadVar_row (P := Tryz.prog) w13 w.heap.size 77 77 _ (0, 0) _ R13.blk Tryz.underlying77 rfl (info33.trans (by rw [List.size_toArray, rcd_len]))
    have HLD := (show Hid _ from hld)
    clear hHeld hHeld2 R13 U13 hld
    go_wp2_with fail
    refine bodyPost_ret (v := .tuple #[.agg (rcd (some ⟨ub, uo, none⟩) PL PL xs).toArray, .slice (some ⟨b, off + SZ, none⟩) (n - SZ) (c - SZ), .bool true]) (by have hld := HLD.out; simp [results, Tryz.results95, asAddr, hld]) rfl ?_
    rw [← HP.out.2.2.2.1]
    refine ⟨⟨_, _, rfl, HPF.out.1, HPF.out.2, HRF.out, HSR.out, ?_⟩, HFIN.out⟩
    have hrl : rest.length = n - SZ := by have := HN.out; omega
    rw [hrl]
    exact ⟨_, _, rfl⟩
end Go.Proofs.YtkmdegmpffgplaaGreatDoor
/- log VIII: readFirst of nothing; isLinked. -/
namespace Go.Proofs.YtkmdegmpffgplaaGreatDoor
open Go.RowKit Go.Maps Go.Sort Go.Shelf pk
set_option linter.unusedVariables false
set_option linter.unusedSimpArgs false
theorem rcd_zero : rcd none 0 0 (List.replicate 32 0) = [.slice none 0 0, .int .u8 0, .int .u8 0, .int .u8 0, .int .u8 0, .int .u8 0, .int .u8 0, .int .u8 0, .int .u8 0, .int .u8 0, .int .u8 0, .int .u8 0, .int .u8 0, .int .u8 0, .int .u8 0, .int .u8 0, .int .u8 0, .int .u8 0, .int .u8 0, .int .u8 0, .int .u8 0, .int .u8 0, .int .u8 0, .int .u8 0, .int .u8 0, .int .u8 0, .int .u8 0, .int .u8 0, .int .u8 0, .int .u8 0, .int .u8 0, .int .u8 0, .int .u8 0] := rfl
set_option maxRecDepth 100000 in
set_option maxHeartbeats 1000000 in
theorem readFirst_none (num : Nat) (a : Option Addr) (c : Nat) (w : World) :
    Calls Tryz.prog 95 #[.int .i64 (num : Int), .slice a 0 c] w fun e w' => e = .returned (.tuple #[.agg (rcd none 0 0 (List.replicate 32 0)).toArray, .slice none 0 0, .bool false]) ∧ Below w.heap.size w w' := by
  have HD := (show Hid _ from (Below.refl w.heap.size w).alloc (Nat.le_refl _) (.cells #[.slice none 0 0, .int .u8 0, .int .u8 0, .int .u8 0, .int .u8 0, .int .u8 0, .int .u8 0, .int .u8 0, .int .u8 0, .int .u8 0, .int .u8 0, .int .u8 0, .int .u8 0, .int .u8 0, .int .u8 0, .int .u8 0, .int .u8 0, .int .u8 0, .int .u8 0, .int .u8 0, .int .u8 0, .int .u8 0, .int .u8 0, .int .u8 0, .int .u8 0, .int .u8 0, .int .u8 0, .int .u8 0, .int .u8 0, .int .u8 0, .int .u8 0, .int .u8 0, .int .u8 0] 77))
  have HV := (show Hid _ from va_new w [.slice none 0 0, .int .u8 0, .int .u8 0, .int .u8 0, .int .u8 0, .int .u8 0, .int .u8 0, .int .u8 0, .int .u8 0, .int .u8 0, .int .u8 0, .int .u8 0, .int .u8 0, .int .u8 0, .int .u8 0, .int .u8 0, .int .u8 0, .int .u8 0, .int .u8 0, .int .u8 0, .int .u8 0, .int .u8 0, .int .u8 0, .int .u8 0, .int .u8 0, .int .u8 0, .int .u8 0, .int .u8 0, .int .u8 0, .int .u8 0, .int .u8 0, .int .u8 0, .int .u8 0] 77)
  go_enter Tryz.func95, Tryz.ntmps95
  go_wp2_with (refine stA rfl 77 _ _ rfl w.heap.size (by rfl) _ [.slice none 0 0, .int .u8 0, .int .u8 0, .int .u8 0, .int .u8 0, .int .u8 0, .int .u8 0, .int .u8 0, .int .u8 0, .int .u8 0, .int .u8 0, .int .u8 0, .int .u8 0, .int .u8 0, .int .u8 0, .int .u8 0, .int .u8 0, .int .u8 0, .int .u8 0, .int .u8 0, .int .u8 0, .int .u8 0, .int .u8 0, .int .u8 0, .int .u8 0, .int .u8 0, .int .u8 0, .int .u8 0, .int .u8 0, .int .u8 0, .int .u8 0, .int .u8 0, .int .u8 0] (by rfl) _ HV.out info33 (by rfl) (fun u hu => by simp at hu; rcases hu with rfl | rfl <;> rfl) ?_; intro w2 R2 U2)
  have hld := run_loadVar_row (P := Tryz.prog) w2 w.heap.size 77 77 _ (0, 0) _ R2.blk Tryz.underlying77 rfl info33
  refine bodyPost_ret (v := .tuple #[.agg #[.slice none 0 0, .int .u8 0, .int .u8 0, .int .u8 0, .int .u8 0, .int .u8 0, .int .u8 0, .int .u8 0, .int .u8 0, .int .u8 0, .int .u8 0, .int .u8 0, .int .u8 0, .int .u8 0, .int .u8 0, .int .u8 0, .int .u8 0, .int .u8 0, .int .u8 0, .int .u8 0, .int .u8 0, .int .u8 0, .int .u8 0, .int .u8 0, .int .u8 0, .int .u8 0, .int .u8 0, .int .u8 0, .int .u8 0, .int .u8 0, .int .u8 0, .int .u8 0, .int .u8 0], .slice none 0 0, .bool false]) (by simp [results, Tryz.results95, asAddr, hld]) rfl ?_
  exact ⟨rfl, U2.bel HD.out (Nat.le_refl _)⟩
set_option maxRecDepth 100000 in
set_option maxHeartbeats 1000000 in
theorem isLinked_ok (w : World) (lp p B : Nat) (g : LG) (h : Lg w lp p g) (ho : g.ok) (hgl : g.last.length = 32 ∧ By g.last) (hTb : TbB B w) (hB : B ≤ w.heap.size) (a : Option Addr) (L k : Nat) (pl xs : List Nat) (hp : Bs w (.slice a L k) pl) (hl : pl.length ≤ 4096) (hlk : (g.empty = true ∧ g.next ≠ 1) ∨ xs = chn g.ahd pl) :
    Calls Tryz.prog 96 #[.pointer (some ⟨lp, 0, none⟩), .agg (rcd a L k xs).toArray] w fun e w' => e = .returned (.bool true) ∧ Below w.heap.size w w' := by
  have D := (Below.refl w.heap.size w).alloc (Nat.le_refl _) (.cells (rcd a L k xs).toArray 77)
  have HD := (show Hid _ from D)
  have HV := (show Hid _ from va_new w (rcd a L k xs) 77)
  have HG : Hid (∀ w', Below w.heap.size w w' → Lg w' lp p g) := fun w' kk => h.step kk
  have HOK : Hid (g.ok ∧ g.ahd.length = 32 ∧ By g.ahd) := ⟨ho, ahd_ok hgl⟩
  have HTB : Hid (TbB B w) := hTb
  have HP : Hid (Bs w (.slice a L k) pl) := hp
  have HLL : Hid (pl.length ≤ 4096) := hl
  have hn := ho.next
  clear D h ho hgl hTb hp hl
  go_enter Tryz.func96, Tryz.ntmps96
  go_upto_region 1 with fail
  generalize w.alloc (.cells (rcd a L k xs).toArray 77) = w0 at *
  go_wp2_with fail
  refine (isEmpty_ok w0 lp p g (HG.out _ HD.out) HOK.out.1).mono ?_
  rintro e w1 ⟨rfl, b1⟩
  have HD1 : Hid (Below w.heap.size w w1) := HD.out.trans (b1.mono HD.out.size)
  have HV1 : Hid (VA w1 w.heap.size (rcd a L k xs) 77) := HV.out.step b1
  have y4 := (HG.out _ HD1.out).cell 4 (v := .int .i64 (g.next : Int)) rfl
  clear b1 HD HV
  by_cases hb : g.empty = true ∧ g.next ≠ 1
  · obtain ⟨hb1, hb2⟩ := hb
    rw [hb1]
    have hb3 : ((g.next : Int) == 1) = false := by simp; omega
    have hb4 : ((g.next : Int) != 1) = true := by simp; omega
    have hb5 : ¬ (g.next : Int) = 1 := by omega
    clear hlk hb1 hb2
    generalize g.next = nx at *
    go_wp2_with fail
    go_ret
    exact ⟨rfl, HD1.out⟩
  · have hxe : xs = chn g.ahd pl := hlk.resolve_left hb
    have HXE := (show Hid _ from hxe)
    have hcase : g.empty = false ∨ (g.empty = true ∧ g.next = 1) := by
      cases he : g.empty with
      | false => exact Or.inl rfl
      | true => exact Or.inr ⟨rfl, Decidable.byContradiction (fun hne => hb ⟨he, hne⟩)⟩
    clear hxe hlk hb
    have HREST : Hid (∀ (aw : World), Below w.heap.size w aw → VA aw w.heap.size (rcd a L k xs) 77 → True) := fun _ _ _ => trivial
    clear HREST
    rcases hcase with he | ⟨he, hn1⟩
    · rw [he]
      clear he y4
      go_upto_region 3 with fail
      refine wp_region_noPanic ?_
      refine wp_region_held_drew (S := fun V => VA V w.heap.size (rcd a L k xs) 77) (by kernel_rfl) (VA.drew HV1.out) ?_
      intro hHeld
      have HD2 : Hid (Below w.heap.size w w1.drew) := HD1.out.drew
      clear HD1 HV1
      generalize w1.drew = w2 at *
      refine takeD 0 14 (.pointer (some ⟨w.heap.size, 1, none⟩)) (by exact rfl) rfl (by kernel_rfl) (by kernel_rfl) (by kernel_rfl) (fun _ _ _ h => h) (Or.inl ⟨by rfl, ?_⟩) (by assumption) ?_
      · intro wq hS
        go_simp
      try simp only [Act.put, List.setIfInBounds_toArray, List.set_cons_zero, List.set_cons_succ]
      refine takeD 1 15 (.agg (lnk xs).toArray) (by exact rfl) rfl (by kernel_rfl) (by kernel_rfl) (by kernel_rfl) (fun _ _ _ h => h) (yieldsIf_load_mid (by rfl) 71 _ rfl w.heap.size 1 (by rfl) (lnk xs) _ (fun wq hS => fun j v hv => hS.cell (1 + j) (by rw [Nat.add_comm]; exact hv)) Tryz.underlying71 rfl (infol.trans (by rw [lnk_len]))) (by assumption) ?_
      try simp only [Act.put, List.setIfInBounds_toArray, List.set_cons_zero, List.set_cons_succ]
      refine takeD 2 16 (.pointer (some ⟨lp, 0, none⟩)) (by exact rfl) rfl (by kernel_rfl) (by kernel_rfl) (by kernel_rfl) (fun _ _ _ h => h) (Or.inl ⟨by rfl, ?_⟩) (by assumption) ?_
      · intro wq hS
        go_simp
      try simp only [Act.put, List.setIfInBounds_toArray, List.set_cons_zero, List.set_cons_succ]
      refine takeD 4 18 (.pointer (some ⟨w.heap.size, 0, none⟩)) (by exact rfl) rfl (by kernel_rfl) (by kernel_rfl) (by kernel_rfl) (fun _ _ _ h => h) (Or.inl ⟨by rfl, ?_⟩) (by assumption) ?_
      · intro wq hS
        go_simp
      try simp only [Act.put, List.setIfInBounds_toArray, List.set_cons_zero, List.set_cons_succ]
      refine takeD 5 19 (.slice a L k) (by exact rfl) rfl (by kernel_rfl) (by kernel_rfl) (by kernel_rfl) (fun _ _ _ h => h) (Or.inl ⟨by rfl, ?_⟩) (by assumption) ?_
      · intro wq hS
        have c0 := hS.cell 0 (v := .slice a L k) rfl
        go_simp
      try simp only [Act.put, List.setIfInBounds_toArray, List.set_cons_zero, List.set_cons_succ]
      refine wpAnyH_ready (rs := [3]) (by kernel_rfl) (by simp) ?_
      refine AllReadyH.cons (by exact rfl) (fun K hK => ?_) AllReadyH.nil
      go_simp
      refine (ahead_ok w2 lp p g (HG.out _ HD2.out) HOK.out.1).mono ?_
      rintro e w3 ⟨rfl, b3⟩
      have HD3 : Hid (Below w.heap.size w w3) := HD2.out.trans (b3.mono HD2.out.size)
      go_wp2_with fail
      refine hK.out _ _ (hHeld.step b3) (fun hHeld => ?_)
      clear hK K b3 HD2
      try simp only [Act.put, List.setIfInBounds_toArray, List.set_cons_zero, List.set_cons_succ]
      refine wpAnyH_ready (rs := [6]) (by kernel_rfl) (by simp) ?_
      refine AllReadyH.cons (by exact rfl) (fun K hK => ?_) AllReadyH.nil
      go_simp
      refine (chainL_ok g.ahd _ pl w3 HOK.out.2.1 HOK.out.2.2 (HP.out.step HD3.out) (by have := HLL.out; omega) (HTB.out w3 (HD3.out.mono hB))).mono ?_
      rintro e w4 ⟨rfl, b4⟩
      have HD4 : Hid (Below w.heap.size w w4) := HD3.out.trans (b4.mono HD3.out.size)
      rw [← HXE.out]
      go_wp2_with fail
      refine hK.out _ _ (hHeld.step b4) (fun hHeld => ?_)
      clear hK K b4 HD3
      try simp only [Act.put, List.setIfInBounds_toArray, List.set_cons_zero, List.set_cons_succ]
      refine takeD 7 21 (.bool true) (by exact rfl) rfl (by kernel_rfl) (by kernel_rfl) (by kernel_rfl) (fun _ _ _ h => h) (Or.inl ⟨by rfl, ?_⟩) (by assumption) ?_
      · intro wq hS
        have e4 := eqLnk xs wq
        go_simp
      try simp only [Act.put, List.setIfInBounds_toArray, List.set_cons_zero, List.set_cons_succ]
      refine takeD 8 4 (.bool true) (by exact rfl) rfl (by kernel_rfl) (by kernel_rfl) (by kernel_rfl) (fun _ _ _ h => h) (Or.inl ⟨by rfl, ?_⟩) (by assumption) ?_
      · intro wq hS
        go_simp
      try simp only [Act.put, List.setIfInBounds_toArray, List.set_cons_zero, List.set_cons_succ]
      refine wpAnyH_done (by kernel_rfl) ?_ _
      refine NoPanic.normal ?_
      clear hHeld
      go_wp2_with fail
      go_ret
      exact ⟨rfl, HD4.out⟩
    · rw [he]
      rw [hn1] at y4
      clear he hn1
      go_upto_region 3 with fail
      refine wp_region_noPanic ?_
      refine wp_region_held_drew (S := fun V => VA V w.heap.size (rcd a L k xs) 77) (by kernel_rfl) (VA.drew HV1.out) ?_
      intro hHeld
      have HD2 : Hid (Below w.heap.size w w1.drew) := HD1.out.drew
      clear HD1 HV1
      generalize w1.drew = w2 at *
      refine takeD 0 14 (.pointer (some ⟨w.heap.size, 1, none⟩)) (by exact rfl) rfl (by kernel_rfl) (by kernel_rfl) (by kernel_rfl) (fun _ _ _ h => h) (Or.inl ⟨by rfl, ?_⟩) (by assumption) ?_
      · intro wq hS
        go_simp
      try simp only [Act.put, List.setIfInBounds_toArray, List.set_cons_zero, List.set_cons_succ]
      refine takeD 1 15 (.agg (lnk xs).toArray) (by exact rfl) rfl (by kernel_rfl) (by kernel_rfl) (by kernel_rfl) (fun _ _ _ h => h) (yieldsIf_load_mid (by rfl) 71 _ rfl w.heap.size 1 (by rfl) (lnk xs) _ (fun wq hS => fun j v hv => hS.cell (1 + j) (by rw [Nat.add_comm]; exact hv)) Tryz.underlying71 rfl (infol.trans (by rw [lnk_len]))) (by assumption) ?_
      try simp only [Act.put, List.setIfInBounds_toArray, List.set_cons_zero, List.set_cons_succ]
      refine takeD 2 16 (.pointer (some ⟨lp, 0, none⟩)) (by exact rfl) rfl (by kernel_rfl) (by kernel_rfl) (by kernel_rfl) (fun _ _ _ h => h) (Or.inl ⟨by rfl, ?_⟩) (by assumption) ?_
      · intro wq hS
        go_simp
      try simp only [Act.put, List.setIfInBounds_toArray, List.set_cons_zero, List.set_cons_succ]
      refine takeD 4 18 (.pointer (some ⟨w.heap.size, 0, none⟩)) (by exact rfl) rfl (by kernel_rfl) (by kernel_rfl) (by kernel_rfl) (fun _ _ _ h => h) (Or.inl ⟨by rfl, ?_⟩) (by assumption) ?_
      · intro wq hS
        go_simp
      try simp only [Act.put, List.setIfInBounds_toArray, List.set_cons_zero, List.set_cons_succ]
      refine takeD 5 19 (.slice a L k) (by exact rfl) rfl (by kernel_rfl) (by kernel_rfl) (by kernel_rfl) (fun _ _ _ h => h) (Or.inl ⟨by rfl, ?_⟩) (by assumption) ?_
      · intro wq hS
        have c0 := hS.cell 0 (v := .slice a L k) rfl
        go_simp
      try simp only [Act.put, List.setIfInBounds_toArray, List.set_cons_zero, List.set_cons_succ]
      refine wpAnyH_ready (rs := [3]) (by kernel_rfl) (by simp) ?_
      refine AllReadyH.cons (by exact rfl) (fun K hK => ?_) AllReadyH.nil
      go_simp
      refine (ahead_ok w2 lp p g (HG.out _ HD2.out) HOK.out.1).mono ?_
      rintro e w3 ⟨rfl, b3⟩
      have HD3 : Hid (Below w.heap.size w w3) := HD2.out.trans (b3.mono HD2.out.size)
      go_wp2_with fail
      refine hK.out _ _ (hHeld.step b3) (fun hHeld => ?_)
      clear hK K b3 HD2
      try simp only [Act.put, List.setIfInBounds_toArray, List.set_cons_zero, List.set_cons_succ]
      refine wpAnyH_ready (rs := [6]) (by kernel_rfl) (by simp) ?_
      refine AllReadyH.cons (by exact rfl) (fun K hK => ?_) AllReadyH.nil
      go_simp
      refine (chainL_ok g.ahd _ pl w3 HOK.out.2.1 HOK.out.2.2 (HP.out.step HD3.out) (by have := HLL.out; omega) (HTB.out w3 (HD3.out.mono hB))).mono ?_
      rintro e w4 ⟨rfl, b4⟩
      have HD4 : Hid (Below w.heap.size w w4) := HD3.out.trans (b4.mono HD3.out.size)
      rw [← HXE.out]
      go_wp2_with fail
      refine hK.out _ _ (hHeld.step b4) (fun hHeld => ?_)
      clear hK K b4 HD3
      try simp only [Act.put, List.setIfInBounds_toArray, List.set_cons_zero, List.set_cons_succ]
      refine takeD 7 21 (.bool true) (by exact rfl) rfl (by kernel_rfl) (by kernel_rfl) (by kernel_rfl) (fun _ _ _ h => h) (Or.inl ⟨by rfl, ?_⟩) (by assumption) ?_
      · intro wq hS
        have e4 := eqLnk xs wq
        go_simp
      try simp only [Act.put, List.setIfInBounds_toArray, List.set_cons_zero, List.set_cons_succ]
      refine takeD 8 4 (.bool true) (by exact rfl) rfl (by kernel_rfl) (by kernel_rfl) (by kernel_rfl) (fun _ _ _ h => h) (Or.inl ⟨by rfl, ?_⟩) (by assumption) ?_
      · intro wq hS
        go_simp
      try simp only [Act.put, List.setIfInBounds_toArray, List.set_cons_zero, List.set_cons_succ]
      refine wpAnyH_done (by kernel_rfl) ?_ _
      refine NoPanic.normal ?_
      clear hHeld
      go_wp2_with fail
      go_ret
      exact ⟨rfl, HD4.out⟩
end Go.Proofs.YtkmdegmpffgplaaGreatDoor
