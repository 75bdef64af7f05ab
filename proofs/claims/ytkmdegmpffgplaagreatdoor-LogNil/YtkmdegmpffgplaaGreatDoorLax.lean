/- parts VI: Join, of what Cut made. -/
import Derived.Test.YtkmdegmpffgplaaGreatDoorLaw
import Derived.Test.YtkmdegmpffgplaaGreatDoorLae
import Derived.Laws.BitsAllLaws
namespace Go.Proofs.YtkmdegmpffgplaaGreatDoor
open Go.RowKit Go.Shelf pk
set_option linter.unusedVariables false
attribute [local go_sem] Oper.semAt_some ext_cell ext_frozen ext_drew ext_of_drew ext_of_drewN ext_setCell ext_lt ext_lt1 ext_lt2 ext_lt3 lt_n2 lt_n3 lt_n4 lt_n5 lt_n6

theorem bs_cell {w : World} {b off n c : Nat} {bs : List Nat} (h : Bs w (.slice (some ⟨b, off, none⟩) n c) bs) (k : Nat) (hk : k < bs.length) : w.cell? ⟨b, off + k, none⟩ = some (.int .u8 ((bs.getD k 0 : Nat) : Int)) := by
  obtain ⟨hby, a, c', e, h1, h2, h3, h4⟩ := h
  cases e
  obtain ⟨b', off', e', hb, hx⟩ := h4 (by omega)
  cases e'
  exact hx k hk
/-- the part that a sector holds -/
def pce (ss : List Nat) (y : Nat) : List Nat := (ss.drop (32 * y + 8)).take (min (ss.getD (32 * y + 1) 0) 24)
/-- what Join has made of the parts numbered pre -/
def joinP (ss : List Nat) (N : Nat) (pre : List Nat) : List Nat := pre.flatMap fun x => pce ss (cx N x)
theorem joinP_snoc (ss : List Nat) (N : Nat) (pre : List Nat) (x : Nat) : joinP ss N (pre ++ [x]) = joinP ss N pre ++ pce ss (cx N x) := by
  unfold joinP
  rw [List.flatMap_append]
  simp
theorem joinP_range (ss : List Nat) (N : Nat) : ∀ k, k ≤ N → joinP ss N (List.range k) = joinK ss k
  | 0, _ => rfl
  | k + 1, h => by rw [List.range_succ, joinP_snoc, joinP_range ss N k (by omega), joinK_succ, cx_lt (by omega)]; rfl
theorem pce_len (ss : List Nat) (y : Nat) : (pce ss y).length ≤ 24 := by unfold pce; rw [List.length_take]; omega
theorem joinP_len (ss : List Nat) (N : Nat) (pre : List Nat) : (joinP ss N pre).length ≤ 24 * pre.length := by
  unfold joinP
  induction pre with
  | nil => simp
  | cons x l ih => rw [List.flatMap_cons, List.length_append, List.length_cons]; have := pce_len ss (cx N x); omega
theorem joinP_by {ss : List Nat} (h : By ss) (N : Nat) (pre : List Nat) : By (joinP ss N pre) := by
  intro z hz
  obtain ⟨i, _, hz⟩ := List.mem_flatMap.1 hz
  exact h z (List.mem_of_mem_drop (List.mem_of_mem_take hz))
/-- what Join's loop keeps -/
structure JI (w : World) (ss : List Nat) (N : Nat) (B6 B7 BR B8 X1 X2 : Nat) (sl : Value) (pre : List Nat) (W : World) : Prop where
  v6 : VA W B6 [.slice none 0 0] 22
  v7 : VA W B7 [.bool false] 4
  ex : ∃ v, VA W B8 [v] 22 ∧ Own KY W BR v (joinP ss N pre)
  x1 : VA W X1 [sl] 22
  x2 : VA W X2 [.int .i64 32] 3
  bel : Below w.heap.size w W
theorem JI.own {w : World} {ss : List Nat} {N B6 B7 BR B8 X1 X2 Bz : Nat} {sl : Value} (hB : w.heap.size ≤ Bz) : OwnFrom Bz (JI w ss N B6 B7 BR B8 X1 X2 sl) := fun s A A' row h hg hr => by
  have hr2 : ∀ r, row = some r → ∃ o, A.heap[r]? = some o ∧ o.isCells = false := fun r e => (hr r e).2
  obtain ⟨v, h1, h2⟩ := h.ex
  exact ⟨h.v6.keptN hg hr2, h.v7.keptN hg hr2, ⟨v, h1.keptN hg hr2, ownK_kept h2 hg hr2⟩, h.x1.keptN hg hr2, h.x2.keptN hg hr2, h.bel.grown hg h.bel.size (fun k e => Nat.le_trans hB (hr k e).1)⟩
set_option maxRecDepth 100000 in
set_option maxHeartbeats 4000000 in
theorem join_ok (w : World) (num Bn : Nat) (hnum : num < 4294967296) (hN : VA w Bn [.int .u32 (num : Int)] 127) (mk : Nat) (hmk : mk < 256) (sa : Option Addr) (len cap : Nat) (bs : List Nat) (hby0 : By bs) (hb0 : 0 < bs.length) (hbl : bs.length ≤ 4132) (hb : Bs w (.slice sa len cap) (cutB mk (hd6 num) bs)) :
    Calls Tryz.prog 112 #[.int .u8 (mk : Int), .slice sa len cap, .func (.func 110) #[] #[.pointer (some ⟨Bn, 0, none⟩)]] w fun e w' => (∃ u, e = .returned (.tuple #[u, .bool true]) ∧ OwnB w' w.heap.size u bs) ∧ Below w.heap.size w w' := by
  have HN : Hid (VA w Bn [.int .u32 (num : Int)] 127) := hN
  clear hN
  obtain ⟨C, hC⟩ : ∃ C, C = cn4 bs.length := ⟨_, rfl⟩
  have hC6 : C ≤ 20000 := by rw [hC]; unfold cn4; omega
  have hC0 : 0 < C := by rw [hC]; unfold cn4; omega
  have hss : (cutB mk (hd6 num) bs).length = 32 * C := by unfold cutB; rw [cutK_len, hC]
  have HJ : Hid (joinK (cutB mk (hd6 num) bs) C = bs) := by show _ = _; rw [hC]; exact join_cutB mk (hd6 num) (fun _ _ => rfl) bs
  have HBS0 : Hid (Bs w (.slice sa len cap) (cutB mk (hd6 num) bs)) := hb
  obtain ⟨hby, a, c, e, hc1, hc2, _, h4⟩ := hb
  have hlen : len = 32 * C := by injection e with _ e2 _; rw [e2, hss]
  have hcap : len ≤ cap ∧ cap ≤ 9223372036854775807 ∧ len ≤ 140737488355328 := by injection e with _ e2 e3; subst e3; exact ⟨by omega, by omega, by omega⟩
  obtain ⟨b, off, e2, _⟩ := h4 (by omega)
  have hsa0 : sa = some ⟨b, off, none⟩ := by injection e with e1 _ _; exact e1.trans e2
  have hsa : 0 < len → sa = some ⟨b, off, none⟩ := fun _ => hsa0
  have HLN : Hid (len = 32 * C ∧ (cutB mk (hd6 num) bs).length = 32 * C ∧ cnt len = C) := ⟨hlen, hss, by rw [hlen]; unfold cnt; omega⟩
  have HBY : Hid (By (cutB mk (hd6 num) bs)) := hby
  have HB0 : Hid (By bs ∧ 0 < bs.length ∧ bs.length ≤ 4132) := ⟨hby0, hb0, hbl⟩
  have dC : (len : Int) / 32 = (C : Int) := by omega
  clear h4 e hby hC e2 hc1 hc2 hss hsa0
  generalize hsse : cutB mk (hd6 num) bs = ss at *
  have HSS : Hid (cutB mk (hd6 num) bs = ss) := hsse
  clear hsse
  obtain ⟨M, hM⟩ : ∃ M, M = 24 * C := ⟨_, rfl⟩
  have HM : Hid (M = 24 * C) := hM
  obtain ⟨ZR, hZR⟩ : ∃ ZR, ZR = (cl (List.replicate M 0)).toArray := ⟨_, rfl⟩
  have HZR : Hid (ZR = (cl (List.replicate M 0)).toArray) := hZR
  have hmkr : ∀ w', (Instr.makeSlice 22 (.int .i64 0) (.int .i64 ((C : Int) * 24))).run Tryz.prog w' = .ok (.slice (some ⟨w'.heap.size, 0, none⟩) 0 M) (w'.alloc (.cells ZR 5)) := fun w' => by
    have := mkY M (by omega) w'
    rw [show ((M : Nat) : Int) = (C : Int) * 24 by omega, ← hZR] at this
    exact this
  clear hM hZR hlen
  refine (callsIn_wide (n := 8)).1 ?_
  have hF : ∀ f, Fence.wide.fn f := fun _ => trivial
  have hF1 := hF 106
  have hF2 := hF 89
  have hF3 := hF 130
  refine callsIn_of_wp_marks Tryz.func112 rfl trivial ?_ rfl
  simp only [Tryz.ntmps112, List.size_toArray, List.length_cons, List.length_nil, Nat.reduceAdd, Nat.reduceSub, Array.replicate_succ, Array.replicate_zero, List.push_toArray, List.append_toArray, List.nil_append, List.cons_append]
  gi_wp2_with (gi_at_call 106; refine (chunk_in (8 - 1) _ _ _ _).mono ?_; rintro e w' ⟨rfl, rfl⟩)
  have b1 := (Below.refl w.heap.size w).alloc (Nat.le_refl _) (.cells #[.slice none 0 0] 22)
  have b2 := b1.alloc b1.size (.cells #[.bool false] 4)
  have b3 := b2.alloc b2.size (.cells ZR 5)
  have b4 := b3.alloc b3.size (.cells #[.slice (some ⟨w.heap.size + 1 + 1, 0, none⟩) 0 M] 22)
  have b5 := b4.alloc b4.size (.cells #[.slice sa len cap] 22)
  have b6 := b5.alloc b5.size (.cells #[.int .i64 32] 3)
  have v0 := (((((va_new (w) [.slice none 0 0] 22).alloc (.cells #[.bool false] 4)).alloc (.cells ZR 5)).alloc (.cells #[.slice (some ⟨w.heap.size + 1 + 1, 0, none⟩) 0 M] 22)).alloc (.cells #[.slice sa len cap] 22)).alloc (.cells #[.int .i64 32] 3)
  have v1 := ((((va_new ((w).alloc (.cells #[.slice none 0 0] 22)) [.bool false] 4).alloc (.cells ZR 5)).alloc (.cells #[.slice (some ⟨w.heap.size + 1 + 1, 0, none⟩) 0 M] 22)).alloc (.cells #[.slice sa len cap] 22)).alloc (.cells #[.int .i64 32] 3)
  have v3 := ((va_new ((((w).alloc (.cells #[.slice none 0 0] 22)).alloc (.cells #[.bool false] 4)).alloc (.cells ZR 5)) [.slice (some ⟨w.heap.size + 1 + 1, 0, none⟩) 0 M] 22).alloc (.cells #[.slice sa len cap] 22)).alloc (.cells #[.int .i64 32] 3)
  have v4 := (va_new (((((w).alloc (.cells #[.slice none 0 0] 22)).alloc (.cells #[.bool false] 4)).alloc (.cells ZR 5)).alloc (.cells #[.slice (some ⟨w.heap.size + 1 + 1, 0, none⟩) 0 M] 22)) [.slice sa len cap] 22).alloc (.cells #[.int .i64 32] 3)
  have v5 := va_new ((((((w).alloc (.cells #[.slice none 0 0] 22)).alloc (.cells #[.bool false] 4)).alloc (.cells ZR 5)).alloc (.cells #[.slice (some ⟨w.heap.size + 1 + 1, 0, none⟩) 0 M] 22)).alloc (.cells #[.slice sa len cap] 22)) [.int .i64 32] 3
  have o3 : Own KY ((((w).alloc (.cells #[.slice none 0 0] 22)).alloc (.cells #[.bool false] 4)).alloc (.cells ZR 5)) (w.heap.size + 1 + 1) (.slice (some ⟨w.heap.size + 1 + 1, 0, none⟩) 0 M) [] := ⟨by have := World.ownsRow_made (base := w.heap.size + 1 + 1) (e := 5) (size := 1) (((w).alloc (.cells #[.slice none 0 0] 22)).alloc (.cells #[.bool false] 4)) ZR M (by simp) (by unfold maxLen; have := HM.out; omega) (by rw [HZR.out]; simp [cl]); simp only [World.size_alloc] at this; exact this⟩
  have o8 := ((o3.alloc (.cells #[.slice (some ⟨w.heap.size + 1 + 1, 0, none⟩) 0 M] 22)).alloc (.cells #[.slice sa len cap] 22)).alloc (.cells #[.int .i64 32] 3)
  simp only [World.size_alloc] at v0 v1 v3 v4 v5
  obtain ⟨Wl, hWl⟩ : ∃ Wl, Wl = ((((((w).alloc (.cells #[.slice none 0 0] 22)).alloc (.cells #[.bool false] 4)).alloc (.cells ZR 5)).alloc (.cells #[.slice (some ⟨w.heap.size + 1 + 1, 0, none⟩) 0 M] 22)).alloc (.cells #[.slice sa len cap] 22)).alloc (.cells #[.int .i64 32] 3) := ⟨_, rfl⟩
  have hsz : Wl.heap.size = w.heap.size + 1 + 1 + 1 + 1 + 1 + 1 := by rw [hWl]; simp
  rw [← hWl] at v0 v1 v3 v4 v5 o8 b6 ⊢
  clear hWl o3 b1 b2 b3 b4 b5 hmkr
  generalize hX2 : w.heap.size + 1 + 1 + 1 + 1 + 1 = X2 at *
  generalize hX1 : w.heap.size + 1 + 1 + 1 + 1 = X1 at *
  generalize hB8 : w.heap.size + 1 + 1 + 1 = B8 at *
  generalize hBR : w.heap.size + 1 + 1 = BR at *
  generalize hB7 : w.heap.size + 1 = B7 at *
  obtain ⟨B6, hB6⟩ : ∃ B6, B6 = w.heap.size := ⟨_, rfl⟩
  rw [← hB6] at v0 ⊢
  have HNB : Hid (B6 = w.heap.size ∧ B7 = B6 + 1 ∧ BR = B6 + 2 ∧ B8 = B6 + 3 ∧ X1 = B6 + 4 ∧ X2 = B6 + 5 ∧ Wl.heap.size = B6 + 6) := ⟨hB6, by omega, by omega, by omega, by omega, by omega, by omega⟩
  clear hX2 hX1 hB8 hBR hB7 hB6
  have HBW : Hid (Below w.heap.size w Wl) := b6
  clear b6 hsz
  refine wpIn_rangeFunc_ownH rfl (by omega) (gf := 127) (lb := #[.pointer (some ⟨X1, 0, none⟩), .pointer (some ⟨X2, 0, none⟩)]) rfl trivial (enters_of Tryz.func127 (by kernel_rfl) rfl)
    (stopsC (8 - 1) (by omega) X1 X2 b off len cap sa hsa hcap Wl (v4.cell 0 rfl) (v5.cell 0 rfl)) KpC.trans
    (fun V k o o' hk _ _ _ => ⟨World.cell?_of_block (World.putObj_heap_other (by have := HNB.out; dsimp only; omega)), World.cell?_of_block (World.putObj_heap_other (by have := HNB.out; dsimp only; omega))⟩) (Below.refl _ _) (fun _ => rfl)
    (JI w ss (cnt len) B6 B7 BR B8 X1 X2 (.slice sa len cap)) (fun _ _ _ => False) (JI.own (by have := HNB.out; omega)) (fun _ _ _ _ _ h _ _ => h)
    ⟨v0, v1, ⟨_, v3, o8⟩, v4, v5, HBW.out⟩
    (fun x a' _ => a' = { tmps := #[.int .u8 (mk : Int), .slice sa len cap, .func (.func 110) #[] #[.pointer (some ⟨Bn, 0, none⟩)], undef, undef, undef, .pointer (some ⟨B6, 0, none⟩), .pointer (some ⟨B7, 0, none⟩), .pointer (some ⟨B8, 0, none⟩), .slice (some ⟨b, off + 32 * cx (cnt len) x, none⟩) (min 32 (len - 32 * cx (cnt len) x)) (min 32 (len - 32 * cx (cnt len) x)), undef, .slice sa len cap, .int .i64 (len : Int), .int .i64 (C : Int), .int .i64 ((C : Int) * 24), .slice (some ⟨BR, 0, none⟩) 0 M, .slice sa len cap, .func (.func 127) #[] #[.pointer (some ⟨X1, 0, none⟩), .pointer (some ⟨X2, 0, none⟩)], .slice (some ⟨b, off + 32 * cx (cnt len) x, none⟩) (min 32 (len - 32 * cx (cnt len) x)) (min 32 (len - 32 * cx (cnt len) x)), undef, undef, undef, undef, undef, undef, undef, undef, undef, undef, undef, undef, undef, undef, undef, undef, undef, undef, undef, undef, undef, undef, undef, undef, undef, undef, undef], defers := [] }) (fun _ _ _ _ _ _ h _ _ => h)
    ?assign ?body ?done ?stop
  case assign =>
    rintro l' pre x V K hi hK
    unfold encC at hK ⊢
    gi_wp2
    exact hK _ _ (KeepsFrom.refl _ _) ⟨rfl, rfl⟩ hi rfl
  case body =>
    rintro l' pre x a' V hl' ⟨r, hr⟩ hI rfl hlt
    obtain ⟨v, h8, hO⟩ := hI.ex
    obtain ⟨va, vc, hv, hv1, hv2⟩ := hO.form
    obtain ⟨vn, hvn⟩ : ∃ vn, vn = (joinP ss (cnt len) pre).length := ⟨_, rfl⟩
    rw [← hvn] at hv hv1
    have hln := HLN.out
    have hpl : pre.length ≤ 20000 := by rw [hln.2.2] at hlt; omega
    have hyy : cx (cnt len) x < C := by have := cx_in (N := cnt len) (by omega) x; omega
    have HI : Hid (JI w ss (cnt len) B6 B7 BR B8 X1 X2 (.slice sa len cap) pre V) := hI
    have HP0 := bs_part (HBS0.out.step hI.bel) hsa (cx (cnt len) x)
    have HJS : Hid (joinP ss (cnt len) (pre ++ [x]) = joinP ss (cnt len) pre ++ pce ss (cx (cnt len) x)) := joinP_snoc ss (cnt len) pre x
    generalize cx (cnt len) x = y at *
    have hmin : min 32 (len - 32 * y) = 32 := by omega
    rw [hmin] at HP0 ⊢
    have hpl32 : (part ss y).length = 32 := by unfold part; rw [List.length_take, List.length_drop]; omega
    have HP : Hid (Bs V (.slice (some ⟨b, off + 32 * y, none⟩) 32 32) (part ss y)) := HP0
    obtain ⟨k1, hk1⟩ : ∃ k1, k1 = (part ss y).getD 1 0 := ⟨_, rfl⟩
    have hk1s : k1 = ss.getD (32 * y + 1) 0 := by rw [hk1]; unfold part; rw [List.getD_eq_getElem?_getD, List.getD_eq_getElem?_getD, List.getElem?_take_of_lt (by omega), List.getElem?_drop]
    have c1 := bs_cell HP.out 1 (by omega)
    rw [← hk1] at c1
    clear HP0
    have hk256 : k1 < 256 := by rw [hk1]; have := HP.out.byte; unfold By at this; rw [List.getD_eq_getElem?_getD, List.getElem?_eq_getElem (by omega)]; exact this _ (List.getElem_mem _)
    obtain ⟨z, hz⟩ : ∃ z, z = min k1 24 := ⟨_, rfl⟩
    have hmn := cut_min V k1 24 z (by omega) hz
    have hz24 : z ≤ 24 := by omega
    have dZ : min (k1 : Int) 24 = (z : Int) := by omega
    have dW : IntKind.i64.wrap (8 + (z : Int)) = 8 + (z : Int) := by unfold IntKind.wrap; simp [IntKind.signed, IntKind.bits]; omega
    have dA1 : (0 : Int) ≤ 8 + (z : Int) := by omega
    have dA2 : 8 + (z : Int) ≤ 32 := by omega
    have dB : (8 : Int) ≤ max (8 + (z : Int)) 0 := by omega
    have dT : ((8 : Int) + (z : Int)).toNat - 8 = z := by omega
    have HPC : Hid (((part ss y).drop 8).take z = pce ss y) := by
      show ((part ss y).drop 8).take z = pce ss y
      unfold pce part
      rw [← hk1s, ← hz, List.drop_take, List.take_take, List.drop_drop, show 32 * y + 8 = 32 * y + 8 from rfl]
      congr 1
      omega
    have HSUB : Hid (Bs V (.slice (some ⟨b, off + 32 * y + 8, none⟩) z (32 - 8)) (pce ss y)) := by
      have := bs_sub HP.out 8 z (by omega)
      rw [HPC.out] at this
      exact this
    subst hv
    have HO : Hid (Own KY V BR (.slice va vn vc) (joinP ss (cnt len) pre)) := hO
    have HV8 : Hid (VA V B8 [.slice va vn vc] 22) := h8
    have HVN : Hid (vn = (joinP ss (cnt len) pre).length) := hvn
    clear hI hO h8 hk1 hk1s hln hlt hvn hpl32 hmin hz
    gi_wp2
    have HB5 : Hid (Below V.heap.size V V.drew) := (Below.refl _ _).drew
    refine region_round_held (fun _ => True) (by kernel_rfl) (by kernel_rfl) (fun h => by obtain ⟨_, _, h⟩ := h; exact h) trivial ?_
    intro hHeld
    have hH8 := HV8.out.step HB5.out
    generalize V.drew = W5 at *
    refine takeD 1 28 (.slice (some ⟨b, off + 32 * y, none⟩) 32 32) (by exact rfl) rfl (by kernel_rfl) (by kernel_rfl) (by kernel_rfl) (fun _ _ _ h => h) (Or.inl ⟨by rfl, ?_⟩) (by assumption) ?_
    · intro wq hS
      go_simp
    try simp only [Act.put, List.setIfInBounds_toArray, List.set_cons_zero, List.set_cons_succ]
    refine takeD 2 29 (.int .i64 (z : Int)) (by exact rfl) rfl (by kernel_rfl) (by kernel_rfl) (by kernel_rfl) (fun _ _ _ h => h) (Or.inl ⟨by rfl, ?_⟩) (by assumption) ?_
    · intro wq hS
      go_simp
    try simp only [Act.put, List.setIfInBounds_toArray, List.set_cons_zero, List.set_cons_succ]
    refine takeD 3 30 (.int .i64 (8 + (z : Int))) (by exact rfl) rfl (by kernel_rfl) (by kernel_rfl) (by kernel_rfl) (fun _ _ _ h => h) (Or.inl ⟨by rfl, ?_⟩) (by assumption) ?_
    · intro wq hS
      go_simp
    try simp only [Act.put, List.setIfInBounds_toArray, List.set_cons_zero, List.set_cons_succ]
    refine takeD 4 31 (.slice (some ⟨b, off + 32 * y + 8, none⟩) z 24) (by exact rfl) rfl (by kernel_rfl) (by kernel_rfl) (by kernel_rfl) (fun _ _ _ h => h) (Or.inl ⟨by rfl, ?_⟩) (by assumption) ?_
    · intro wq hS
      go_simp
    try simp only [Act.put, List.setIfInBounds_toArray, List.set_cons_zero, List.set_cons_succ]
    have z8 := hH8.cell 0 (v := .slice va vn vc) rfl
    refine wpAnyH_ready (rs := [0]) (by kernel_rfl) (by simp) ?_
    refine AllReadyH.cons (by exact rfl) (fun K hK => ?_) AllReadyH.nil
    go_simp
    refine hK.out _ _ trivial (fun _ => ?_)
    clear hK K z8
    try simp only [Act.put, List.setIfInBounds_toArray, List.set_cons_zero, List.set_cons_succ]
    have ow5 := HO.out.step HB5.out
    have slS := bs_sl (HSUB.out.step HB5.out)
    have a6 := HI.out.v6.step HB5.out
    have a7 := HI.out.v7.step HB5.out
    have c1' := HI.out.x1.step HB5.out
    have c2' := HI.out.x2.step HB5.out
    refine wpAnyH_ready (rs := [5]) (by kernel_rfl) (by simp) ?_
    refine AllReadyH.cons (by exact rfl) (fun K hK => ?_) AllReadyH.nil
    refine appSd (K := KY) (by rfl) (some 32) rfl _ _ rfl BR (joinP ss (cnt len) pre) (pce ss y) _ _ (by rfl) (by rfl) ow5 slS (fun n c e => by cases e) (by have := c2'.lt; have := HNB.out; omega) (by have := joinP_len ss (cnt len) pre; have := pce_len ss y; show (_ + _) * 1 ≤ _; omega) (by have := joinP_len ss (cnt len) pre; have := pce_len ss y; omega) ?_
    intro v6 w6 o6 b6 g6
    have e6 := a6.grownO g6 ow5 (.inl (by decide))
    have e7 := a7.grownO g6 ow5 (.inl (by decide))
    have e8 := hH8.grownO g6 ow5 (.inl (by decide))
    have f1 := c1'.grownO g6 ow5 (.inl (by decide))
    have f2 := c2'.grownO g6 ow5 (.inl (by decide))
    obtain ⟨v6a, v6c, hv6, hv61, hv62⟩ := o6.form
    have BT : But (fun i => i = B8 ∨ (Value.slice va vn vc).ownBlock = some i) V w6 := (below_but HB5.out _).trans (⟨g6.os, g6.tape, g6.output, g6.size, fun i hi hx => g6.block i hi (fun er => hx (.inr er.symm))⟩ : But (fun i => i = B8 ∨ (Value.slice va vn vc).ownBlock = some i) W5 w6) (fun _ _ h => h)
    have HTY : Hid (∀ g, v6.ownBlock = some g → g ≠ B8) := (show ∀ g, v6.ownBlock = some g → g ≠ B8 from fun g hg => by
      rcases o6.own.2 with ⟨rfl, _⟩ | ⟨q', cap', cur, rfl, _, hq, _⟩
      · cases hg
      · cases hg
        intro er
        have er' : q' = B8 := er
        rw [er', e8.blk] at hq
        cases hq)
    have HO6 : Hid (Own KY w6 BR v6 (joinP ss (cnt len) pre ++ pce ss y)) := o6
    generalize (joinP ss (cnt len) pre ++ pce ss y).length = n6 at hv6 hv61
    subst hv6
    refine hK.out _ _ trivial (fun _ => ?_)
    clear hK K
    try simp only [Act.put, List.setIfInBounds_toArray, List.set_cons_zero, List.set_cons_succ]
    have z8 := e8.cell 0 (v := .slice va vn vc) rfl
    have fz8 := e8.free 0
    refine wpAnyH_ready (rs := [6]) (by kernel_rfl) (by simp) ?_
    refine AllReadyH.cons (by exact rfl) (fun K hK => ?_) AllReadyH.nil
    go_simp
    refine hK.out _ _ trivial (fun _ => ?_)
    clear hK K
    refine wpAnyH_done (by kernel_rfl) ?_ _
    refine NoPanic.normal ?_
    have n68 : B6 ≠ B8 := by have := HNB.out; omega
    have n78 : B7 ≠ B8 := by have := HNB.out; omega
    have n18 : X1 ≠ B8 := by have := HNB.out; omega
    have n28 : X2 ≠ B8 := by have := HNB.out; omega
    have HPRE : Hid (JI w ss (cnt len) B6 B7 BR B8 X1 X2 (.slice sa len cap) (pre ++ [x]) (w6.setCell ⟨B8, 0, none⟩ (.slice v6a n6 v6c)) ∧ But (fun i => i = B8 ∨ (Value.slice va vn vc).ownBlock = some i) V (w6.setCell ⟨B8, 0, none⟩ (.slice v6a n6 v6c))) := by
      have BB := BT.trans ((upd_set w6 B8 0 (.slice v6a n6 v6c)).but.mono (fun i h => (.inl h : i = B8 ∨ (Value.slice va vn vc).ownBlock = some i))) (fun _ _ h => h)
      refine ⟨⟨e6.set_other n68 0 _, e7.set_other n78 0 _, ⟨_, e8.set 0 _, ?_⟩, f1.set_other n18 0 _, f2.set_other n28 0 _, ?_⟩, BB⟩
      · rw [HJS.out]
        exact HO6.out.blk (fun g hg => (upd_set w6 B8 0 _).block g (HTY.out g hg))
      · refine HI.out.bel.trans (BB.below HI.out.bel.size (fun i hi => ?_))
        have hNB := HNB.out
        rcases hi with hi | hi
        · omega
        · have := HO.out.block i hi
          omega
    clear e6 e7 e8 f1 f2 o6 b6 g6 slS ow5 BT hH8 a6 a7 c1' c2'
    gi_wp2
    have HCE : Hid (∀ i, (i = B8 ∨ (Value.slice va vn vc).ownBlock = some i) → ∀ o, V.heap[i]? = some o → o.isCells = true) := fun i hi o ho => by
      rcases hi with rfl | hi
      · rw [HV8.out.blk] at ho; cases ho; rfl
      · rcases HO.out.own.2 with ⟨e, _⟩ | ⟨q', cap', cur, e, _, hq, _⟩
        · rw [e] at hi; cases hi
        · rw [e] at hi
          cases hi
          have ho' : V.heap[q']? = some o := ho
          rw [hq] at ho'
          cases ho'
          rfl
    exact ⟨keeps_but HPRE.out.2 HCE.out, ⟨(HPRE.out.1.x1.cell 0 rfl).trans (HI.out.x1.cell 0 rfl).symm, (HPRE.out.1.x2.cell 0 rfl).trans (HI.out.x2.cell 0 rfl).symm⟩, HPRE.out.1⟩
  case done =>
    rintro D ys V hD rfl hI hK
    obtain ⟨v, h8, hO⟩ := hI.ex
    rw [joinP_range _ _ _ (Nat.le_refl _), HLN.out.2.2, HJ.out] at hO
    have HOB : Hid (OwnB V BR v bs) := ownY hO HB0.out.1
    obtain ⟨va, vc, hv, hv1, hv2⟩ := hO.form
    obtain ⟨L, hL⟩ : ∃ L, L = bs.length := ⟨_, rfl⟩
    rw [← hL] at hv hv1
    have HL : Hid (L = bs.length) := hL
    subst hv
    have z8 := h8.cell 0 (v := .slice va L vc) rfl
    have HI : Hid (JI w ss (cnt len) B6 B7 BR B8 X1 X2 (.slice sa len cap) (List.range (cnt len)) V) := hI
    have HV8 : Hid (VA V B8 [.slice va L vc] 22) := h8
    have d0 : 0 < L := by rw [hL]; exact HB0.out.2.1
    have d1 : ((L : Int) == 0) = false := by simp; omega
    have d2 : ((L : Int) = 0) = False := by simp; omega
    have HKD : Hid (V.heap[D]? = some (.deferred (some []))) := hK
    have hLl : L ≤ 4132 := by rw [hL]; exact HB0.out.2.2
    have HBV : Hid (Bs V (.slice sa len cap) ss) := HBS0.out.step hI.bel
    clear hO h8 hI hL hK
    gi_wp2
    refine ((callsIn_wide (n := 7)).2 (cut_ok V num Bn hnum (HN.out.step HI.out.bel) mk hmk va L vc bs HOB.out.bs hLl)).mono ?_
    rintro e W1 ⟨⟨u, rfl, oU⟩, bU⟩
    rw [HSS.out] at oU
    obtain ⟨_, ua, uc, hu, hu1, hu2, _⟩ := oU.bs
    obtain ⟨un, hun⟩ : ∃ un, un = ss.length := ⟨_, rfl⟩
    rw [← hun] at hu hu1
    have HUB : Hid (Bs W1 u ss) := oU.bs
    have HBU : Hid (Below V.heap.size V W1) := bU
    have HSB : Hid (Bs W1 (.slice sa len cap) ss) := HBV.out.step bU
    subst hu
    clear oU bU hun
    gi_wp2
    refine ((callsIn_wide (n := 7)).2 (equal_same _ _ ss W1 HUB.out HSB.out (by have := HLN.out; omega))).mono ?_
    rintro e W2 ⟨rfl, hw2⟩
    obtain rfl := hw2.symm
    have y8 := (HV8.out.step HBU.out).cell 0 (v := .slice va L vc) rfl
    have V6 := HI.out.v6.step HBU.out
    have V7 := HI.out.v7.step HBU.out
    have y6 := V6.cell 0 (v := .slice none 0 0) rfl
    have g6 := V6.free 0
    have n76 : B7 ≠ B6 := by have := HNB.out; omega
    have V7' := V7.set_other n76 0 (.slice va L vc)
    have y7 := V7'.cell 0 (v := .bool false) rfl
    have g7 := V7'.free 0
    have V6s := (V6.set 0 (.slice va L vc)).set_other n76.symm 0 (.bool true)
    have V7s := V7'.set 0 (.bool true)
    have U2 : But (fun i => i = B6 ∨ i = B7) W1 ((W1.setCell ⟨B6, 0, none⟩ (.slice va L vc)).setCell ⟨B7, 0, none⟩ (.bool true)) := ((upd_set W1 B6 0 (.slice va L vc)).but.mono (fun i h => .inl h)).trans ((upd_set _ B7 0 (.bool true)).but.mono (fun i h => (.inr h : i = B6 ∨ i = B7))) (fun _ _ h => h)
    have HKD2 : Hid (((W1.setCell ⟨B6, 0, none⟩ (.slice va L vc)).setCell ⟨B7, 0, none⟩ (.bool true)).heap[D]? = some (.deferred (some []))) := by
      have hDV : V.heap[D]? = some (.deferred (some [])) := HKD.out
      have h1 := (HBU.out.block D (hlt_of hDV)).trans hDV
      refine (U2.block D (hlt_of h1) (fun h => ?_)).trans h1
      rcases h with h | h
      · rw [h, V6.blk] at h1; cases h1
      · rw [h, V7.blk] at h1; cases h1
    have HOW : Hid (Own KY ((W1.setCell ⟨B6, 0, none⟩ (.slice va L vc)).setCell ⟨B7, 0, none⟩ (.bool true)) BR (.slice va L vc) bs) := ((yOwn HOB.out).step HBU.out).but U2 (fun g hg h => by
      have := (yOwn HOB.out).block g hg
      have hNB := HNB.out
      rcases h with h | h <;> omega)
    have HBEL : Hid (Below w.heap.size w ((W1.setCell ⟨B6, 0, none⟩ (.slice va L vc)).setCell ⟨B7, 0, none⟩ (.bool true))) := (HI.out.bel.trans (HBU.out.mono HI.out.bel.size)).trans (U2.below (Nat.le_trans HI.out.bel.size HBU.out.size) (fun i h => by have hNB := HNB.out; rcases h with h | h <;> omega))
    clear U2 V7' V7 V6
    gi_wp2
    generalize (W1.setCell ⟨B6, 0, none⟩ (.slice va L vc)).setCell ⟨B7, 0, none⟩ (.bool true) = W9 at *
    refine ⟨by simp, .inl ⟨_, _, rfl, run_takeDeferred HKD2.out, ?_⟩⟩
    have hr2 : ∀ r, some D = some r → ∃ o, W9.heap[r]? = some o ∧ o.isCells = false := fun r e => by cases e; exact ⟨_, HKD2.out, rfl⟩
    have V6q := V6s.keptN (grownBy_putObj' W9 D (.deferred none)) hr2
    have V7q := V7s.keptN (grownBy_putObj' W9 D (.deferred none)) hr2
    have q6 := V6q.cell 0 (v := .slice va L vc) rfl
    have q7 := V7q.cell 0 (v := .bool true) rfl
    have oq := ownK_kept HOW.out (grownBy_putObj' W9 D (.deferred none)) hr2
    have bq : Below w.heap.size w (W9.putObj D (.deferred none)) := HBEL.out.grown (grownBy_putObj' W9 D (.deferred none)) HBEL.out.size (fun k e => by cases e; have hNB := HNB.out; omega)
    refine ⟨.tuple #[.slice va L vc, .bool true], ?_, ⟨_, rfl, (ownY oq HB0.out.1).lower (by have hNB := HNB.out; omega)⟩, bq⟩
    simp [results, Tryz.results112, go_sem, asAddr, q6, q7]
  case stop =>
    rintro D c pre V _ _ h _
    exact h.elim
end Go.Proofs.YtkmdegmpffgplaaGreatDoor
/- Crc: plain arithmetic of the sum. -/
namespace Go.Proofs.YtkmdegmpffgplaaGreatDoor.pk
set_option linter.unusedVariables false
set_option linter.unusedSimpArgs false

/-- a step of the sum: one bit -/
def st (c : Nat) : Nat := if c % 2 = 1 then (c / 2) ^^^ 3988292384 else c / 2
def sts : Nat → Nat → Nat
  | 0, c => c
  | k + 1, c => st (sts k c)
/-- one byte -/
def crcB (c b : Nat) : Nat := sts 8 (c ^^^ b)
def crcF (c : Nat) (bs : List Nat) : Nat := bs.foldl crcB c
def crc (bs : List Nat) : Nat := crcF 4294967295 bs ^^^ 4294967295
theorem xor_cancel (a b : Nat) : a ^^^ b ^^^ b = a := by rw [Nat.xor_assoc, Nat.xor_self, Nat.xor_zero]
theorem xor_lc (a b c : Nat) : a ^^^ (b ^^^ c) = b ^^^ (a ^^^ c) := by rw [← Nat.xor_assoc, Nat.xor_comm a b, Nat.xor_assoc]
theorem st_xor (a b : Nat) : st (a ^^^ b) = st a ^^^ st b := by
  unfold st
  rw [Nat.xor_div_two]
  by_cases ha : a % 2 = 1 <;> by_cases hb : b % 2 = 1 <;> simp only [Nat.xor_mod_two_eq_one, ha, hb, iff_true, iff_false, not_true, not_false_iff, if_true, if_false, false_iff, true_iff]
  · rw [Nat.xor_assoc (a / 2), Nat.xor_comm 3988292384, xor_cancel]
  · rw [Nat.xor_assoc, Nat.xor_assoc, Nat.xor_comm (b / 2)]
  · rw [Nat.xor_assoc]
theorem st_lt {c : Nat} (h : c < 4294967296) : st c < 4294967296 := by
  unfold st
  split
  · exact Nat.xor_lt_two_pow (n := 32) (by omega) (by omega)
  · omega
theorem st_zero {c : Nat} (h : c < 4294967296) (e : st c = 0) : c = 0 := by
  unfold st at e
  split at e
  · exfalso
    have h1 : c / 2 = 3988292384 := by
      have := congrArg (· ^^^ 3988292384) e
      simp only [xor_cancel, Nat.zero_xor] at this
      exact this
    omega
  · omega
theorem st_nul : st 0 = 0 := by decide
theorem xor_zero_of {a b : Nat} (h : a ^^^ b = 0) : a = b := by
  have := congrArg (· ^^^ b) h
  simpa only [xor_cancel, Nat.zero_xor] using this
theorem sts_xor : ∀ (k a b : Nat), sts k (a ^^^ b) = sts k a ^^^ sts k b
  | 0, _, _ => rfl
  | k + 1, a, b => by simp only [sts, sts_xor k, st_xor]
theorem sts_lt : ∀ (k : Nat) {c : Nat}, c < 4294967296 → sts k c < 4294967296
  | 0, _, h => h
  | k + 1, _, h => st_lt (sts_lt k h)
theorem sts_zero : ∀ (k : Nat) {c : Nat}, c < 4294967296 → sts k c = 0 → c = 0
  | 0, _, _, e => e
  | k + 1, _, h, e => sts_zero k h (st_zero (sts_lt k h) e)
theorem x32 {a b : Nat} (ha : a < 4294967296) (hb : b < 4294967296) : a ^^^ b < 4294967296 := Nat.xor_lt_two_pow (n := 32) ha hb
theorem crcB_lt {c b : Nat} (h : c < 4294967296) (hb : b < 256) : crcB c b < 4294967296 := sts_lt 8 (x32 h (by omega))
theorem crcF_lt : ∀ (bs : List Nat) {c : Nat}, c < 4294967296 → (∀ x ∈ bs, x < 256) → crcF c bs < 4294967296
  | [], _, h, _ => h
  | b :: t, c, h, hb => crcF_lt t (c := crcB c b) (crcB_lt h (hb b (by simp))) fun x hx => hb x (by simp [hx])
theorem crcF_snoc (c : Nat) (bs : List Nat) (b : Nat) : crcF c (bs ++ [b]) = crcB (crcF c bs) b := by simp [crcF]
theorem crcF_take (c : Nat) (bs : List Nat) (k : Nat) (h : k < bs.length) : crcF c (bs.take (k + 1)) = crcB (crcF c (bs.take k)) (bs.getD k 0) := by
  rw [List.take_add_one, List.getElem?_eq_getElem h]
  simp only [Option.toList]
  rw [crcF_snoc]
  simp [List.getD, h]
theorem crcB_xor3 (a b c x y z : Nat) : crcB (a ^^^ b ^^^ c) (x ^^^ y ^^^ z) = crcB a x ^^^ crcB b y ^^^ crcB c z := by
  unfold crcB
  rw [← sts_xor, ← sts_xor]
  congr 1
  simp only [Nat.xor_assoc, xor_lc, Nat.xor_comm]
theorem crcF_xor3 : ∀ (xs ys zs : List Nat) (n a b c : Nat), xs.length = n → ys.length = n → zs.length = n → ∀ us : List Nat, us.length = n → (∀ i, i < n → us.getD i 0 = xs.getD i 0 ^^^ ys.getD i 0 ^^^ zs.getD i 0) →
    crcF (a ^^^ b ^^^ c) us = crcF a xs ^^^ crcF b ys ^^^ crcF c zs
  | [], ys, zs, n, a, b, c, hx, hy, hz, us, hu, h => by
    simp at hx
    subst hx
    obtain rfl := List.eq_nil_of_length_eq_zero hy
    obtain rfl := List.eq_nil_of_length_eq_zero hz
    obtain rfl := List.eq_nil_of_length_eq_zero hu
    rfl
  | x :: xs, ys, zs, n, a, b, c, hx, hy, hz, us, hu, h => by
    obtain ⟨m, rfl⟩ : ∃ m, n = m + 1 := ⟨xs.length, by simp at hx; omega⟩
    match ys, zs, us, hy, hz, hu, h with
    | y :: ys, z :: zs, u :: us, hy, hz, hu, h =>
      have e : u = x ^^^ y ^^^ z := by simpa using h 0 (by omega)
      subst e
      show crcF (crcB _ _) us = _
      rw [crcB_xor3]
      exact crcF_xor3 xs ys zs m _ _ _ (by simpa using hx) (by simpa using hy) (by simpa using hz) us (by simpa using hu) fun i hi => by simpa using h (i + 1) (by omega)
theorem crc_xor3 (xs ys zs us : List Nat) (n : Nat) (hx : xs.length = n) (hy : ys.length = n) (hz : zs.length = n) (hu : us.length = n) (h : ∀ i, i < n → us.getD i 0 = xs.getD i 0 ^^^ ys.getD i 0 ^^^ zs.getD i 0) :
    crc us = crc xs ^^^ crc ys ^^^ crc zs := by
  have h1 := crcF_xor3 xs ys zs n 4294967295 4294967295 4294967295 hx hy hz us hu h
  rw [Nat.xor_self, Nat.zero_xor] at h1
  unfold crc
  rw [h1]
  generalize crcF 4294967295 xs = p
  generalize crcF 4294967295 ys = q
  generalize crcF 4294967295 zs = r
  generalize (4294967295 : Nat) = o
  rw [Nat.xor_comm q o, ← Nat.xor_assoc (p ^^^ o), xor_cancel, ← Nat.xor_assoc]
theorem crcB_inj {c d b : Nat} (hc : c < 4294967296) (hd : d < 4294967296) (hb : b < 256) (e : crcB c b = crcB d b) : c = d := by
  have h1 : sts 8 ((c ^^^ b) ^^^ (d ^^^ b)) = 0 := by rw [sts_xor]; unfold crcB at e; rw [e, Nat.xor_self]
  have h2 := sts_zero 8 (x32 (x32 hc (by omega)) (x32 hd (by omega))) h1
  have h3 := xor_zero_of h2
  have := congrArg (· ^^^ b) h3
  simpa only [xor_cancel] using this
theorem crcB_inj2 {c b b' : Nat} (hc : c < 4294967296) (hb : b < 256) (hb' : b' < 256) (e : crcB c b = crcB c b') : b = b' := by
  have h1 : sts 8 ((c ^^^ b) ^^^ (c ^^^ b')) = 0 := by rw [sts_xor]; unfold crcB at e; rw [e, Nat.xor_self]
  have h2 := sts_zero 8 (x32 (x32 hc (by omega)) (x32 hc (by omega))) h1
  have h3 := xor_zero_of h2
  rw [Nat.xor_comm c b, Nat.xor_comm c b'] at h3
  have := congrArg (· ^^^ c) h3
  simpa only [xor_cancel] using this
theorem crcF_inj : ∀ (bs : List Nat) {c d : Nat}, c < 4294967296 → d < 4294967296 → (∀ x ∈ bs, x < 256) → crcF c bs = crcF d bs → c = d
  | [], _, _, _, _, _, e => e
  | b :: t, c, d, hc, hd, hb, e => crcB_inj hc hd (hb b (by simp)) (crcF_inj t (crcB_lt hc (hb b (by simp))) (crcB_lt hd (hb b (by simp))) (fun x hx => hb x (by simp [hx])) e)
theorem crcF_set : ∀ (bs : List Nat) (i d c : Nat), c < 4294967296 → (∀ x ∈ bs, x < 256) → d < 256 → i < bs.length → d ≠ bs.getD i 0 → crcF c (bs.set i d) ≠ crcF c bs
  | b :: t, 0, d, c, hc, hb, hd, hi, hne => fun e => hne (by
      have hb0 := hb b (by simp)
      have := crcF_inj t (crcB_lt hc hd) (crcB_lt hc hb0) (fun x hx => hb x (by simp [hx])) (show crcF (crcB c d) t = crcF (crcB c b) t from e)
      simpa using crcB_inj2 hc hd hb0 this)
  | b :: t, i + 1, d, c, hc, hb, hd, hi, hne => fun e => crcF_set t i d (crcB c b) (crcB_lt hc (hb b (by simp))) (fun x hx => hb x (by simp [hx])) hd (by simpa using hi) (by simpa using hne) e
theorem crc_set (bs : List Nat) (i d : Nat) (hb : ∀ x ∈ bs, x < 256) (hd : d < 256) (hi : i < bs.length) (hne : d ≠ bs.getD i 0) : crc (bs.set i d) ≠ crc bs := fun e => by
  have := congrArg (· ^^^ 4294967295) e
  simp only [crc, xor_cancel] at this
  exact crcF_set bs i d 4294967295 (by omega) hb hd hi hne this
theorem crc_lt (bs : List Nat) (hb : ∀ x ∈ bs, x < 256) : crc bs < 4294967296 := x32 (crcF_lt bs (by omega) hb) (by omega)
theorem turn_ne (x b : Nat) (hx : x < 256) (hb : b < 8) : x ^^^ 2 ^ b ≠ x ∧ x ^^^ 2 ^ b < 256 := by
  have hp : 0 < 2 ^ b := Nat.pow_pos (by omega)
  have hl : 2 ^ b < 2 ^ 8 := Nat.pow_lt_pow_right (by omega) hb
  refine ⟨fun e => ?_, Nat.xor_lt_two_pow (n := 8) hx hl⟩
  have h1 : 2 ^ b ^^^ x ^^^ x = 2 ^ b := xor_cancel _ _
  rw [Nat.xor_comm (2 ^ b) x, e, Nat.xor_self] at h1
  omega
theorem crc_nine : crc [49, 50, 51, 52, 53, 54, 55, 56, 57] = 3421780262 := by decide +kernel
theorem crc_nil : crc [] = 0 := by decide
end Go.Proofs.YtkmdegmpffgplaaGreatDoor.pk
