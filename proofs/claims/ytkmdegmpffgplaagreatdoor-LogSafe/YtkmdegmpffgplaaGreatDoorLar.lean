/- parts V: slices.Chunk by 32, each part a whole one; parts of bytes; bytes.Equal of the same bytes. -/
import Derived.Test.YtkmdegmpffgplaaGreatDoorLaq
import Derived.Laws.BytesArg
namespace Go.Proofs.YtkmdegmpffgplaaGreatDoor
open Go.RowKit Go.Shelf pk
set_option linter.unusedVariables false
attribute [local go_sem] Oper.semAt_some

set_option maxRecDepth 100000 in
set_option maxHeartbeats 2000000 in
theorem chunk1_lt (n : Nat) (hn : 1 ≤ n) (l B1 B2 b off len cap : Nat) (sa : Option Addr) (hsa : 0 < len → sa = some ⟨b, off, none⟩) (hcap : len ≤ cap ∧ cap ≤ 9223372036854775807 ∧ len ≤ 140737488355328) (J Jx : List Nat → World → Prop)
    (hY : ∀ pre x W, J pre W → pre.length < cnt len → x < cnt len → YieldAt Fence.wide (n - 1) Tryz.prog l (encC b off len x) W fun e W' =>
      (e = .returned (.bool true) ∧ J (pre ++ [x]) W' ∧ KpC B1 B2 W W') ∨ (e = .returned (.bool false) ∧ Jx (pre ++ [x]) W'))
    (W : World) (hb1 : W.cell? ⟨B1, 0, none⟩ = some (.slice sa len cap)) (hb2 : W.cell? ⟨B2, 0, none⟩ = some (.int .i64 32)) (h0 : J [] W) (hJ : AbidesFrom W.heap.size J) :
    CallsIn Fence.wide n Tryz.prog 127 #[.func (.yield l) #[] #[], .pointer (some ⟨B1, 0, none⟩), .pointer (some ⟨B2, 0, none⟩)] W fun e W' => (∃ v, e = .returned v) ∧
      ((∃ ys, ys = List.range (cnt len) ∧ J ys W') ∨ (∃ pre, True ∧ Jx pre W')) := by
  refine callsIn_of_wp Tryz.func127 rfl trivial ?_ rfl
  simp only [Tryz.ntmps127, List.size_toArray, List.length_cons, List.length_nil, Nat.reduceAdd, Nat.reduceSub, Array.replicate_succ, Array.replicate_zero, List.push_toArray, List.append_toArray, List.nil_append, List.cons_append]
  gi_wp2
  gi_loopw [4] (fun i wr => ∃ k : Nat, k ≤ cnt len ∧ i = .int .i64 ((32 * k : Nat) : Int) ∧ Hid (J (List.range k) wr) ∧ wr.cell? ⟨B1, 0, none⟩ = some (.slice sa len cap) ∧ wr.cell? ⟨B2, 0, none⟩ = some (.int .i64 32))
    (fun i _ => (len + 32 - intOf i).toNat)
  case atStart => exact ⟨0, Nat.zero_le _, by simp, h0, hb1, hb2⟩
  case round =>
    obtain ⟨k, hk, rfl, hJs, y1, y2⟩ := hrel
    by_cases hlt : 32 * k < len
    · have hkc : k < cnt len := by unfold cnt; omega
      obtain rfl := hsa (by omega)
      obtain ⟨i, hi⟩ : ∃ i, i = 32 * k := ⟨_, rfl⟩
      have HI : Hid (i = 32 * k) := hi
      rw [← hi] at hlt ⊢
      clear hi
      have d1 : (i : Int) < (len : Int) := by omega
      have d2 : (0 : Int) ≤ (i : Int) := by omega
      gi_wp2
      refine wpIn_wide.2 ?_
      go_region
      obtain ⟨m, hm⟩ : ∃ m, m = min 32 (len - i) := ⟨_, rfl⟩
      first
        | rw [show (if ((len - i : Nat) : Int) < 32 then ((len - i : Nat) : Int) else 32) = (m : Int) by split <;> omega]
        | rw [show min 32 ((len - i : Nat) : Int) = (m : Int) by omega]
      have hJd : J (List.range k) wr.drew := hJ _ _ _ none hJs.out ⟨rfl, rfl, rfl, Nat.le_refl _, fun _ _ _ => rfl⟩ (fun r e => by cases e)
      obtain ⟨fn, tmps, assign, body, hy, hR⟩ := hY _ k wr.drew hJd (by rw [List.length_range]; exact hkc) hkc
      have HR := (show Hid _ from hR)
      unfold encC at hy
      rw [← HI.out, ← hm] at hy
      have z1 : wr.drew.cell? ⟨B1, 0, none⟩ = some (.slice (some ⟨b, off, none⟩) len cap) := y1
      have z2 : wr.drew.cell? ⟨B2, 0, none⟩ = some (.int .i64 32) := y2
      have d3 : (i : Int) + (m : Int) ≤ (len : Int) := by omega
      have d4 : (i : Int) + (m : Int) ≤ (cap : Int) := by omega
      have d5 : (0 : Int) < (m : Int) := by omega
      have d6 : 0 < m := by omega
      have HM : Hid (m = min 32 (len - i)) := hm
      clear hR hm hJd
      gi_wp2
      refine RoundIn.mono HR.out ?_
      rintro e W3 (⟨rfl, hJ3, hk3⟩ | ⟨rfl, hJx3⟩)
      · have HJ3 := (show Hid _ from hJ3)
        have x1 := hk3.1.trans z1
        have x2 := hk3.2.trans z2
        clear hJ3 hk3
        have d7 : (i : Int) + 32 ≤ 140737488355328 + 64 := by omega
        gi_wp2
        go_roundw
        case rel => exact ⟨k + 1, by omega, by have := HI.out; rw [this]; congr 1, by show J _ _; rw [List.range_succ]; exact HJ3.out, x1, x2⟩
        case measure => simp [intOf]; omega
      · have HJ3 := (show Hid _ from hJx3)
        clear hJx3
        gi_wp2
        refine bodyPost_ret (results_none rfl _ _ _) rfl ?_
        exact ⟨⟨_, rfl⟩, .inr ⟨_, trivial, HJ3.out⟩⟩
    · have hke : k = cnt len := by unfold cnt at hk ⊢; omega
      subst hke
      gi_wp2
      go_end0
      exact ⟨⟨_, rfl⟩, .inl ⟨_, rfl, hJs.out⟩⟩
/-- a number that is one of a part -/
def cx (N x : Nat) : Nat := if x < N then x else 0
theorem cx_lt {N x : Nat} (h : x < N) : cx N x = x := by unfold cx; rw [if_pos h]
theorem cx_in {N : Nat} (h : 0 < N) (x : Nat) : cx N x < N := by unfold cx; split <;> assumption
theorem stopsC (n : Nat) (hn : 1 ≤ n) (B1 B2 b off len cap : Nat) (sa : Option Addr) (hsa : 0 < len → sa = some ⟨b, off, none⟩) (hcap : len ≤ cap ∧ cap ≤ 9223372036854775807 ∧ len ≤ 140737488355328) (w : World) (hb1 : w.cell? ⟨B1, 0, none⟩ = some (.slice sa len cap)) (hb2 : w.cell? ⟨B2, 0, none⟩ = some (.int .i64 32)) :
    SeqStopsK Fence.wide n Tryz.prog 127 #[.pointer (some ⟨B1, 0, none⟩), .pointer (some ⟨B2, 0, none⟩)] (fun x => encC b off len (cx (cnt len) x)) (KpC B1 B2) (fun ys => ys = List.range (cnt len)) (fun _ => True) (cnt len) w := fun l J Jx W hW hJ _ hY h0 =>
  chunk1_lt n hn l B1 B2 b off len cap sa hsa hcap J Jx (fun pre x W1 hj hl hx => by have := hY pre x W1 hj hl; simp only [cx_lt hx] at this; exact this) W ((hW.cell (p := ⟨B1, 0, none⟩) (World.block_lt_of_cell? w _ hb1)).trans hb1) ((hW.cell (p := ⟨B2, 0, none⟩) (World.block_lt_of_cell? w _ hb2)).trans hb2) h0 hJ
theorem bs_sub {w : World} {b off n c : Nat} {bs : List Nat} (h : Bs w (.slice (some ⟨b, off, none⟩) n c) bs) (i k : Nat) (hi : i + k ≤ bs.length) : Bs w (.slice (some ⟨b, off + i, none⟩) k (c - i)) ((bs.drop i).take k) := by
  obtain ⟨hby, a, c', e, h1, h2, h3, h4⟩ := h
  cases e
  have hl : ((bs.drop i).take k).length = k := by rw [List.length_take, List.length_drop]; omega
  refine ⟨(hby.drop _).take _, some ⟨b, off + i, none⟩, c - i, by rw [hl], by rw [hl]; omega, by omega, fun e => (by cases e), fun h0 => ?_⟩
  obtain ⟨b', off', e', hb, hx⟩ := h4 (by omega)
  cases e'
  refine ⟨b, off + i, rfl, hb, fun j hj => ?_⟩
  rw [hl] at hj
  rw [Nat.add_assoc, hx (i + j) (by omega), bt_take _ _ _ hj, bt_drop]
theorem bs_sl {w : World} {v : Value} {bs : List Nat} (h : Bs w v bs) : Sl KY w v bs := by
  obtain ⟨hby, a, c, e, h1, h2, h3, h4⟩ := h
  refine ⟨a, c, e, h1, h2, fun h0 => ?_⟩
  obtain ⟨b, off, ea, hb, hx⟩ := h4 h0
  refine ⟨b, off, ea, hb, fun i x hi j u hj => ?_⟩
  have hil : i < bs.length := (List.getElem?_eq_some_iff.1 hi).1
  have hj0 : j = 0 := by
    have := (List.getElem?_eq_some_iff.1 hj).1
    simp [KY] at this
    exact this
  subst hj0
  have hu : u = .int .u8 (x : Int) := by simpa [KY] using hj.symm
  rw [hu, Nat.add_zero, show i * KY.k = i from Nat.mul_one i, hx i hil]
  unfold bt
  simp [List.getD_eq_getElem?_getD, hi]
set_option maxRecDepth 100000 in
theorem equal_same (v u : Value) (bs : List Nat) (w : World) (h : Bs w v bs) (h2 : Bs w u bs) (h0 : 0 < bs.length) :
    Calls Tryz.prog 130 #[v, u] w fun e w' => e = .returned (.bool true) ∧ w' = w := by
  obtain ⟨_, a, c, rfl, h1, _, _, h4⟩ := h
  obtain ⟨_, a', c', rfl, h1', _, _, h4'⟩ := h2
  obtain ⟨b, off, rfl, _, hx⟩ := h4 h0
  obtain ⟨b', off', rfl, _, hx'⟩ := h4' h0
  have e1 := run_convert_bytes_arg (P := Tryz.prog) w 22 5 Tryz.underlying22 Tryz.underlying5 b off bs.length c (bs.map (fun n : Nat => (n : Int))) (by simp) (fun i hi => by rw [hx i hi]; unfold bt; simp [List.getD_eq_getElem?_getD, hi]) 9 Tryz.underlying9
  have e2 := run_convert_bytes_arg (P := Tryz.prog) w 22 5 Tryz.underlying22 Tryz.underlying5 b' off' bs.length c' (bs.map (fun n : Nat => (n : Int))) (by simp) (fun i hi => by rw [hx' i hi]; unfold bt; simp [List.getD_eq_getElem?_getD, hi]) 9 Tryz.underlying9
  generalize strOfNums (bs.map (fun n : Nat => (n : Int))) = st at *
  generalize bs.length = n at *
  clear hx hx' h4 h4'
  go_enter Tryz.func130, Tryz.ntmps130
  go_wp2_with fail
  go_ret
  exact ⟨rfl, rfl⟩
end Go.Proofs.YtkmdegmpffgplaaGreatDoor
/- parts VI: Join, of what Cut made. -/
namespace Go.Proofs.YtkmdegmpffgplaaGreatDoor
open Go.RowKit Go.Shelf pk
set_option linter.unusedVariables false
attribute [local go_sem] Oper.semAt_some ext_cell ext_frozen ext_drew ext_of_drew ext_of_drewN ext_setCell ext_lt ext_lt1 ext_lt2 ext_lt3 lt_n2 lt_n3 lt_n4 lt_n5 lt_n6

theorem bs_cell {w : World} {b off n c : Nat} {bs : List Nat} (h : Bs w (.slice (some ⟨b, off, none⟩) n c) bs) (k : Nat) (hk : k < bs.length) : w.cell? ⟨b, off + k, none⟩ = some (.int .u8 ((bs.getD k 0 : Nat) : Int)) := by
  obtain ⟨hby, a, c', e, h1, h2, h3, h4⟩ := h
  cases e
  obtain ⟨b', off', e', hb, hx⟩ := h4 (by omega)
  cases e'
  exact hx k hk
/-- the part that a sector holds -/
def pce (ss : List Nat) (y : Nat) : List Nat := (ss.drop (32 * y + 8)).take (min (ss.getD (32 * y + 1) 0) 24)
/-- what Join has made of the parts numbered pre -/
def joinP (ss : List Nat) (N : Nat) (pre : List Nat) : List Nat := pre.flatMap fun x => pce ss (cx N x)
theorem joinP_snoc (ss : List Nat) (N : Nat) (pre : List Nat) (x : Nat) : joinP ss N (pre ++ [x]) = joinP ss N pre ++ pce ss (cx N x) := by
  unfold joinP
  rw [List.flatMap_append]
  simp
theorem joinP_range (ss : List Nat) (N : Nat) : ∀ k, k ≤ N → joinP ss N (List.range k) = joinK ss k
  | 0, _ => rfl
  | k + 1, h => by rw [List.range_succ, joinP_snoc, joinP_range ss N k (by omega), joinK_succ, cx_lt (by omega)]; rfl
theorem pce_len (ss : List Nat) (y : Nat) : (pce ss y).length ≤ 24 := by unfold pce; rw [List.length_take]; omega
theorem joinP_len (ss : List Nat) (N : Nat) (pre : List Nat) : (joinP ss N pre).length ≤ 24 * pre.length := by
  unfold joinP
  induction pre with
  | nil => simp
  | cons x l ih => rw [List.flatMap_cons, List.length_append, List.length_cons]; have := pce_len ss (cx N x); omega
theorem joinP_by {ss : List Nat} (h : By ss) (N : Nat) (pre : List Nat) : By (joinP ss N pre) := by
  intro z hz
  obtain ⟨i, _, hz⟩ := List.mem_flatMap.1 hz
  exact h z (List.mem_of_mem_drop (List.mem_of_mem_take hz))
/-- what Join's loop keeps -/
structure JI (w : World) (ss : List Nat) (N : Nat) (B6 B7 BR B8 X1 X2 : Nat) (sl : Value) (pre : List Nat) (W : World) : Prop where
  v6 : VA W B6 [.slice none 0 0] 22
  v7 : VA W B7 [.bool false] 4
  ex : ∃ v, VA W B8 [v] 22 ∧ Own KY W BR v (joinP ss N pre)
  x1 : VA W X1 [sl] 22
  x2 : VA W X2 [.int .i64 32] 3
  bel : Below w.heap.size w W
theorem JI.own {w : World} {ss : List Nat} {N B6 B7 BR B8 X1 X2 Bz : Nat} {sl : Value} (hB : w.heap.size ≤ Bz) : OwnFrom Bz (JI w ss N B6 B7 BR B8 X1 X2 sl) := fun s A A' row h hg hr => by
  have hr2 : ∀ r, row = some r → ∃ o, A.heap[r]? = some o ∧ o.isCells = false := fun r e => (hr r e).2
  obtain ⟨v, h1, h2⟩ := h.ex
  exact ⟨h.v6.keptN hg hr2, h.v7.keptN hg hr2, ⟨v, h1.keptN hg hr2, ownK_kept h2 hg hr2⟩, h.x1.keptN hg hr2, h.x2.keptN hg hr2, h.bel.grown hg h.bel.size (fun k e => Nat.le_trans hB (hr k e).1)⟩
set_option maxRecDepth 100000 in
set_option maxHeartbeats 4000000 in
theorem join_ok (w : World) (num Bn : Nat) (hnum : num < 4294967296) (hN : VA w Bn [.int .u32 (num : Int)] 127) (mk : Nat) (hmk : mk < 256) (sa : Option Addr) (len cap : Nat) (bs : List Nat) (hby0 : By bs) (hb0 : 0 < bs.length) (hbl : bs.length ≤ 4132) (hb : Bs w (.slice sa len cap) (cutB mk (hd6 num) bs)) :
    Calls Tryz.prog 112 #[.int .u8 (mk : Int), .slice sa len cap, .func (.func 110) #[] #[.pointer (some ⟨Bn, 0, none⟩)]] w fun e w' => (∃ u, e = .returned (.tuple #[u, .bool true]) ∧ OwnB w' w.heap.size u bs) ∧ Below w.heap.size w w' := by
  have HN : Hid (VA w Bn [.int .u32 (num : Int)] 127) := hN
  clear hN
  obtain ⟨C, hC⟩ : ∃ C, C = cn4 bs.length := ⟨_, rfl⟩
  have hC6 : C ≤ 20000 := by rw [hC]; unfold cn4; omega
  have hC0 : 0 < C := by rw [hC]; unfold cn4; omega
  have hss : (cutB mk (hd6 num) bs).length = 32 * C := by unfold cutB; rw [cutK_len, hC]
  have HJ : Hid (joinK (cutB mk (hd6 num) bs) C = bs) := by show _ = _; rw [hC]; exact join_cutB mk (hd6 num) (fun _ _ => rfl) bs
  have HBS0 : Hid (Bs w (.slice sa len cap) (cutB mk (hd6 num) bs)) := hb
  obtain ⟨hby, a, c, e, hc1, hc2, _, h4⟩ := hb
  have hlen : len = 32 * C := by injection e with _ e2 _; rw [e2, hss]
  have hcap : len ≤ cap ∧ cap ≤ 9223372036854775807 ∧ len ≤ 140737488355328 := by injection e with _ e2 e3; subst e3; exact ⟨by omega, by omega, by omega⟩
  obtain ⟨b, off, e2, _⟩ := h4 (by omega)
  have hsa0 : sa = some ⟨b, off, none⟩ := by injection e with e1 _ _; exact e1.trans e2
  have hsa : 0 < len → sa = some ⟨b, off, none⟩ := fun _ => hsa0
  have HLN : Hid (len = 32 * C ∧ (cutB mk (hd6 num) bs).length = 32 * C ∧ cnt len = C) := ⟨hlen, hss, by rw [hlen]; unfold cnt; omega⟩
  have HBY : Hid (By (cutB mk (hd6 num) bs)) := hby
  have HB0 : Hid (By bs ∧ 0 < bs.length ∧ bs.length ≤ 4132) := ⟨hby0, hb0, hbl⟩
  have dC : (len : Int) / 32 = (C : Int) := by omega
  clear h4 e hby hC e2 hc1 hc2 hss hsa0
  generalize hsse : cutB mk (hd6 num) bs = ss at *
  have HSS : Hid (cutB mk (hd6 num) bs = ss) := hsse
  clear hsse
  obtain ⟨M, hM⟩ : ∃ M, M = 24 * C := ⟨_, rfl⟩
  have HM : Hid (M = 24 * C) := hM
  obtain ⟨ZR, hZR⟩ : ∃ ZR, ZR = (cl (List.replicate M 0)).toArray := ⟨_, rfl⟩
  have HZR : Hid (ZR = (cl (List.replicate M 0)).toArray) := hZR
  have hmkr : ∀ w', (Instr.makeSlice 22 (.int .i64 0) (.int .i64 ((C : Int) * 24))).run Tryz.prog w' = .ok (.slice (some ⟨w'.heap.size, 0, none⟩) 0 M) (w'.alloc (.cells ZR 5)) := fun w' => by
    have := mkY M (by omega) w'
    rw [show ((M : Nat) : Int) = (C : Int) * 24 by omega, ← hZR] at this
    exact this
  clear hM hZR hlen
  refine (callsIn_wide (n := 8)).1 ?_
  have hF : ∀ f, Fence.wide.fn f := fun _ => trivial
  have hF1 := hF 106
  have hF2 := hF 89
  have hF3 := hF 130
  refine callsIn_of_wp_marks Tryz.func112 rfl trivial ?_ rfl
  simp only [Tryz.ntmps112, List.size_toArray, List.length_cons, List.length_nil, Nat.reduceAdd, Nat.reduceSub, Array.replicate_succ, Array.replicate_zero, List.push_toArray, List.append_toArray, List.nil_append, List.cons_append]
  gi_wp2_with (gi_at_call 106; refine (chunk_in (8 - 1) _ _ _ _).mono ?_; rintro e w' ⟨rfl, rfl⟩)
  have b1 := (Below.refl w.heap.size w).alloc (Nat.le_refl _) (.cells #[.slice none 0 0] 22)
  have b2 := b1.alloc b1.size (.cells #[.bool false] 4)
  have b3 := b2.alloc b2.size (.cells ZR 5)
  have b4 := b3.alloc b3.size (.cells #[.slice (some ⟨w.heap.size + 1 + 1, 0, none⟩) 0 M] 22)
  have b5 := b4.alloc b4.size (.cells #[.slice sa len cap] 22)
  have b6 := b5.alloc b5.size (.cells #[.int .i64 32] 3)
  have v0 := (((((va_new (w) [.slice none 0 0] 22).alloc (.cells #[.bool false] 4)).alloc (.cells ZR 5)).alloc (.cells #[.slice (some ⟨w.heap.size + 1 + 1, 0, none⟩) 0 M] 22)).alloc (.cells #[.slice sa len cap] 22)).alloc (.cells #[.int .i64 32] 3)
  have v1 := ((((va_new ((w).alloc (.cells #[.slice none 0 0] 22)) [.bool false] 4).alloc (.cells ZR 5)).alloc (.cells #[.slice (some ⟨w.heap.size + 1 + 1, 0, none⟩) 0 M] 22)).alloc (.cells #[.slice sa len cap] 22)).alloc (.cells #[.int .i64 32] 3)
  have v3 := ((va_new ((((w).alloc (.cells #[.slice none 0 0] 22)).alloc (.cells #[.bool false] 4)).alloc (.cells ZR 5)) [.slice (some ⟨w.heap.size + 1 + 1, 0, none⟩) 0 M] 22).alloc (.cells #[.slice sa len cap] 22)).alloc (.cells #[.int .i64 32] 3)
  have v4 := (va_new (((((w).alloc (.cells #[.slice none 0 0] 22)).alloc (.cells #[.bool false] 4)).alloc (.cells ZR 5)).alloc (.cells #[.slice (some ⟨w.heap.size + 1 + 1, 0, none⟩) 0 M] 22)) [.slice sa len cap] 22).alloc (.cells #[.int .i64 32] 3)
  have v5 := va_new ((((((w).alloc (.cells #[.slice none 0 0] 22)).alloc (.cells #[.bool false] 4)).alloc (.cells ZR 5)).alloc (.cells #[.slice (some ⟨w.heap.size + 1 + 1, 0, none⟩) 0 M] 22)).alloc (.cells #[.slice sa len cap] 22)) [.int .i64 32] 3
  have o3 : Own KY ((((w).alloc (.cells #[.slice none 0 0] 22)).alloc (.cells #[.bool false] 4)).alloc (.cells ZR 5)) (w.heap.size + 1 + 1) (.slice (some ⟨w.heap.size + 1 + 1, 0, none⟩) 0 M) [] := ⟨by have := World.ownsRow_made (base := w.heap.size + 1 + 1) (e := 5) (size := 1) (((w).alloc (.cells #[.slice none 0 0] 22)).alloc (.cells #[.bool false] 4)) ZR M (by simp) (by unfold maxLen; have := HM.out; omega) (by rw [HZR.out]; simp [cl]); simp only [World.size_alloc] at this; exact this⟩
  have o8 := ((o3.alloc (.cells #[.slice (some ⟨w.heap.size + 1 + 1, 0, none⟩) 0 M] 22)).alloc (.cells #[.slice sa len cap] 22)).alloc (.cells #[.int .i64 32] 3)
  simp only [World.size_alloc] at v0 v1 v3 v4 v5
  obtain ⟨Wl, hWl⟩ : ∃ Wl, Wl = ((((((w).alloc (.cells #[.slice none 0 0] 22)).alloc (.cells #[.bool false] 4)).alloc (.cells ZR 5)).alloc (.cells #[.slice (some ⟨w.heap.size + 1 + 1, 0, none⟩) 0 M] 22)).alloc (.cells #[.slice sa len cap] 22)).alloc (.cells #[.int .i64 32] 3) := ⟨_, rfl⟩
  have hsz : Wl.heap.size = w.heap.size + 1 + 1 + 1 + 1 + 1 + 1 := by rw [hWl]; simp
  rw [← hWl] at v0 v1 v3 v4 v5 o8 b6 ⊢
  clear hWl o3 b1 b2 b3 b4 b5 hmkr
  generalize hX2 : w.heap.size + 1 + 1 + 1 + 1 + 1 = X2 at *
  generalize hX1 : w.heap.size + 1 + 1 + 1 + 1 = X1 at *
  generalize hB8 : w.heap.size + 1 + 1 + 1 = B8 at *
  generalize hBR : w.heap.size + 1 + 1 = BR at *
  generalize hB7 : w.heap.size + 1 = B7 at *
  obtain ⟨B6, hB6⟩ : ∃ B6, B6 = w.heap.size := ⟨_, rfl⟩
  rw [← hB6] at v0 ⊢
  have HNB : Hid (B6 = w.heap.size ∧ B7 = B6 + 1 ∧ BR = B6 + 2 ∧ B8 = B6 + 3 ∧ X1 = B6 + 4 ∧ X2 = B6 + 5 ∧ Wl.heap.size = B6 + 6) := ⟨hB6, by omega, by omega, by omega, by omega, by omega, by omega⟩
  clear hX2 hX1 hB8 hBR hB7 hB6
  have HBW : Hid (Below w.heap.size w Wl) := b6
  clear b6 hsz
  refine wpIn_rangeFunc_ownH rfl (by omega) (gf := 127) (lb := #[.pointer (some ⟨X1, 0, none⟩), .pointer (some ⟨X2, 0, none⟩)]) rfl trivial (enters_of Tryz.func127 (by kernel_rfl) rfl)
    (stopsC (8 - 1) (by omega) X1 X2 b off len cap sa hsa hcap Wl (v4.cell 0 rfl) (v5.cell 0 rfl)) KpC.trans
    (fun V k o o' hk _ _ _ => ⟨World.cell?_of_block (World.putObj_heap_other (by have := HNB.out; dsimp only; omega)), World.cell?_of_block (World.putObj_heap_other (by have := HNB.out; dsimp only; omega))⟩) (Below.refl _ _) (fun _ => rfl)
    (JI w ss (cnt len) B6 B7 BR B8 X1 X2 (.slice sa len cap)) (fun _ _ _ => False) (JI.own (by have := HNB.out; omega)) (fun _ _ _ _ _ h _ _ => h)
    ⟨v0, v1, ⟨_, v3, o8⟩, v4, v5, HBW.out⟩
    (fun x a' _ => a' = { tmps := #[.int .u8 (mk : Int), .slice sa len cap, .func (.func 110) #[] #[.pointer (some ⟨Bn, 0, none⟩)], undef, undef, undef, .pointer (some ⟨B6, 0, none⟩), .pointer (some ⟨B7, 0, none⟩), .pointer (some ⟨B8, 0, none⟩), .slice (some ⟨b, off + 32 * cx (cnt len) x, none⟩) (min 32 (len - 32 * cx (cnt len) x)) (min 32 (len - 32 * cx (cnt len) x)), undef, .slice sa len cap, .int .i64 (len : Int), .int .i64 (C : Int), .int .i64 ((C : Int) * 24), .slice (some ⟨BR, 0, none⟩) 0 M, .slice sa len cap, .func (.func 127) #[] #[.pointer (some ⟨X1, 0, none⟩), .pointer (some ⟨X2, 0, none⟩)], .slice (some ⟨b, off + 32 * cx (cnt len) x, none⟩) (min 32 (len - 32 * cx (cnt len) x)) (min 32 (len - 32 * cx (cnt len) x)), undef, undef, undef, undef, undef, undef, undef, undef, undef, undef, undef, undef, undef, undef, undef, undef, undef, undef, undef, undef, undef, undef, undef, undef, undef, undef, undef], defers := [] }) (fun _ _ _ _ _ _ h _ _ => h)
    ?assign ?body ?done ?stop
  case assign =>
    rintro l' pre x V K hi hK
    unfold encC at hK ⊢
    gi_wp2
    exact hK _ _ (KeepsFrom.refl _ _) ⟨rfl, rfl⟩ hi rfl
  case body =>
    rintro l' pre x a' V hl' ⟨r, hr⟩ hI rfl hlt
    obtain ⟨v, h8, hO⟩ := hI.ex
    obtain ⟨va, vc, hv, hv1, hv2⟩ := hO.form
    obtain ⟨vn, hvn⟩ : ∃ vn, vn = (joinP ss (cnt len) pre).length := ⟨_, rfl⟩
    rw [← hvn] at hv hv1
    have hln := HLN.out
    have hpl : pre.length ≤ 20000 := by rw [hln.2.2] at hlt; omega
    have hyy : cx (cnt len) x < C := by have := cx_in (N := cnt len) (by omega) x; omega
    have HI : Hid (JI w ss (cnt len) B6 B7 BR B8 X1 X2 (.slice sa len cap) pre V) := hI
    have HP0 := bs_part (HBS0.out.step hI.bel) hsa (cx (cnt len) x)
    have HJS : Hid (joinP ss (cnt len) (pre ++ [x]) = joinP ss (cnt len) pre ++ pce ss (cx (cnt len) x)) := joinP_snoc ss (cnt len) pre x
    generalize cx (cnt len) x = y at *
    have hmin : min 32 (len - 32 * y) = 32 := by omega
    rw [hmin] at HP0 ⊢
    have hpl32 : (part ss y).length = 32 := by unfold part; rw [List.length_take, List.length_drop]; omega
    have HP : Hid (Bs V (.slice (some ⟨b, off + 32 * y, none⟩) 32 32) (part ss y)) := HP0
    obtain ⟨k1, hk1⟩ : ∃ k1, k1 = (part ss y).getD 1 0 := ⟨_, rfl⟩
    have hk1s : k1 = ss.getD (32 * y + 1) 0 := by rw [hk1]; unfold part; rw [List.getD_eq_getElem?_getD, List.getD_eq_getElem?_getD, List.getElem?_take_of_lt (by omega), List.getElem?_drop]
    have c1 := bs_cell HP.out 1 (by omega)
    rw [← hk1] at c1
    clear HP0
    have hk256 : k1 < 256 := by rw [hk1]; have := HP.out.byte; unfold By at this; rw [List.getD_eq_getElem?_getD, List.getElem?_eq_getElem (by omega)]; exact this _ (List.getElem_mem _)
    obtain ⟨z, hz⟩ : ∃ z, z = min k1 24 := ⟨_, rfl⟩
    have hmn := cut_min V k1 24 z (by omega) hz
    have hz24 : z ≤ 24 := by omega
    have dZ : min (k1 : Int) 24 = (z : Int) := by omega
    have dW : IntKind.i64.wrap (8 + (z : Int)) = 8 + (z : Int) := by unfold IntKind.wrap; simp [IntKind.signed, IntKind.bits]; omega
    have dA1 : (0 : Int) ≤ 8 + (z : Int) := by omega
    have dA2 : 8 + (z : Int) ≤ 32 := by omega
    have dB : (8 : Int) ≤ max (8 + (z : Int)) 0 := by omega
    have dT : ((8 : Int) + (z : Int)).toNat - 8 = z := by omega
    have HPC : Hid (((part ss y).drop 8).take z = pce ss y) := by
      show ((part ss y).drop 8).take z = pce ss y
      unfold pce part
      rw [← hk1s, ← hz, List.drop_take, List.take_take, List.drop_drop, show 32 * y + 8 = 32 * y + 8 from rfl]
      congr 1
      omega
    have HSUB : Hid (Bs V (.slice (some ⟨b, off + 32 * y + 8, none⟩) z (32 - 8)) (pce ss y)) := by
      have := bs_sub HP.out 8 z (by omega)
      rw [HPC.out] at this
      exact this
    subst hv
    have HO : Hid (Own KY V BR (.slice va vn vc) (joinP ss (cnt len) pre)) := hO
    have HV8 : Hid (VA V B8 [.slice va vn vc] 22) := h8
    have HVN : Hid (vn = (joinP ss (cnt len) pre).length) := hvn
    clear hI hO h8 hk1 hk1s hln hlt hvn hpl32 hmin hz
    gi_wp2
    have HB5 : Hid (Below V.heap.size V V.drew) := (Below.refl _ _).drew
    refine region_round_held (fun _ => True) (by kernel_rfl) (by kernel_rfl) (fun h => by obtain ⟨_, _, h⟩ := h; exact h) trivial ?_
    intro hHeld
    have hH8 := HV8.out.step HB5.out
    generalize V.drew = W5 at *
    refine takeD 1 28 (.slice (some ⟨b, off + 32 * y, none⟩) 32 32) (by exact rfl) rfl (by kernel_rfl) (by kernel_rfl) (by kernel_rfl) (fun _ _ _ h => h) (Or.inl ⟨by rfl, ?_⟩) (by assumption) ?_
    · intro wq hS
      go_simp
    try simp only [Act.put, List.setIfInBounds_toArray, List.set_cons_zero, List.set_cons_succ]
    refine takeD 2 29 (.int .i64 (z : Int)) (by exact rfl) rfl (by kernel_rfl) (by kernel_rfl) (by kernel_rfl) (fun _ _ _ h => h) (Or.inl ⟨by rfl, ?_⟩) (by assumption) ?_
    · intro wq hS
      go_simp
    try simp only [Act.put, List.setIfInBounds_toArray, List.set_cons_zero, List.set_cons_succ]
    refine takeD 3 30 (.int .i64 (8 + (z : Int))) (by exact rfl) rfl (by kernel_rfl) (by kernel_rfl) (by kernel_rfl) (fun _ _ _ h => h) (Or.inl ⟨by rfl, ?_⟩) (by assumption) ?_
    · intro wq hS
      go_simp
    try simp only [Act.put, List.setIfInBounds_toArray, List.set_cons_zero, List.set_cons_succ]
    refine takeD 4 31 (.slice (some ⟨b, off + 32 * y + 8, none⟩) z 24) (by exact rfl) rfl (by kernel_rfl) (by kernel_rfl) (by kernel_rfl) (fun _ _ _ h => h) (Or.inl ⟨by rfl, ?_⟩) (by assumption) ?_
    · intro wq hS
      go_simp
    try simp only [Act.put, List.setIfInBounds_toArray, List.set_cons_zero, List.set_cons_succ]
    have z8 := hH8.cell 0 (v := .slice va vn vc) rfl
    refine wpAnyH_ready (rs := [0]) (by kernel_rfl) (by simp) ?_
    refine AllReadyH.cons (by exact rfl) (fun K hK => ?_) AllReadyH.nil
    go_simp
    refine hK.out _ _ trivial (fun _ => ?_)
    clear hK K z8
    try simp only [Act.put, List.setIfInBounds_toArray, List.set_cons_zero, List.set_cons_succ]
    have ow5 := HO.out.step HB5.out
    have slS := bs_sl (HSUB.out.step HB5.out)
    have a6 := HI.out.v6.step HB5.out
    have a7 := HI.out.v7.step HB5.out
    have c1' := HI.out.x1.step HB5.out
    have c2' := HI.out.x2.step HB5.out
    refine wpAnyH_ready (rs := [5]) (by kernel_rfl) (by simp) ?_
    refine AllReadyH.cons (by exact rfl) (fun K hK => ?_) AllReadyH.nil
    refine appSd (K := KY) (by rfl) (some 32) rfl _ _ rfl BR (joinP ss (cnt len) pre) (pce ss y) _ _ (by rfl) (by rfl) ow5 slS (fun n c e => by cases e) (by have := c2'.lt; have := HNB.out; omega) (by have := joinP_len ss (cnt len) pre; have := pce_len ss y; show (_ + _) * 1 ≤ _; omega) (by have := joinP_len ss (cnt len) pre; have := pce_len ss y; omega) ?_
    intro v6 w6 o6 b6 g6
    have e6 := a6.grownO g6 ow5 (.inl (by decide))
    have e7 := a7.grownO g6 ow5 (.inl (by decide))
    have e8 := hH8.grownO g6 ow5 (.inl (by decide))
    have f1 := c1'.grownO g6 ow5 (.inl (by decide))
    have f2 := c2'.grownO g6 ow5 (.inl (by decide))
    obtain ⟨v6a, v6c, hv6, hv61, hv62⟩ := o6.form
    have BT : But (fun i => i = B8 ∨ (Value.slice va vn vc).ownBlock = some i) V w6 := (below_but HB5.out _).trans (⟨g6.os, g6.tape, g6.output, g6.size, fun i hi hx => g6.block i hi (fun er => hx (.inr er.symm))⟩ : But (fun i => i = B8 ∨ (Value.slice va vn vc).ownBlock = some i) W5 w6) (fun _ _ h => h)
    have HTY : Hid (∀ g, v6.ownBlock = some g → g ≠ B8) := (show ∀ g, v6.ownBlock = some g → g ≠ B8 from fun g hg => by
      rcases o6.own.2 with ⟨rfl, _⟩ | ⟨q', cap', cur, rfl, _, hq, _⟩
      · cases hg
      · cases hg
        intro er
        have er' : q' = B8 := er
        rw [er', e8.blk] at hq
        cases hq)
    have HO6 : Hid (Own KY w6 BR v6 (joinP ss (cnt len) pre ++ pce ss y)) := o6
    generalize (joinP ss (cnt len) pre ++ pce ss y).length = n6 at hv6 hv61
    subst hv6
    refine hK.out _ _ trivial (fun _ => ?_)
    clear hK K
    try simp only [Act.put, List.setIfInBounds_toArray, List.set_cons_zero, List.set_cons_succ]
    have z8 := e8.cell 0 (v := .slice va vn vc) rfl
    have fz8 := e8.free 0
    refine wpAnyH_ready (rs := [6]) (by kernel_rfl) (by simp) ?_
    refine AllReadyH.cons (by exact rfl) (fun K hK => ?_) AllReadyH.nil
    go_simp
    refine hK.out _ _ trivial (fun _ => ?_)
    clear hK K
    refine wpAnyH_done (by kernel_rfl) ?_ _
    refine NoPanic.normal ?_
    have n68 : B6 ≠ B8 := by have := HNB.out; omega
    have n78 : B7 ≠ B8 := by have := HNB.out; omega
    have n18 : X1 ≠ B8 := by have := HNB.out; omega
    have n28 : X2 ≠ B8 := by have := HNB.out; omega
    have HPRE : Hid (JI w ss (cnt len) B6 B7 BR B8 X1 X2 (.slice sa len cap) (pre ++ [x]) (w6.setCell ⟨B8, 0, none⟩ (.slice v6a n6 v6c)) ∧ But (fun i => i = B8 ∨ (Value.slice va vn vc).ownBlock = some i) V (w6.setCell ⟨B8, 0, none⟩ (.slice v6a n6 v6c))) := by
      have BB := BT.trans ((upd_set w6 B8 0 (.slice v6a n6 v6c)).but.mono (fun i h => (.inl h : i = B8 ∨ (Value.slice va vn vc).ownBlock = some i))) (fun _ _ h => h)
      refine ⟨⟨e6.set_other n68 0 _, e7.set_other n78 0 _, ⟨_, e8.set 0 _, ?_⟩, f1.set_other n18 0 _, f2.set_other n28 0 _, ?_⟩, BB⟩
      · rw [HJS.out]
        exact HO6.out.blk (fun g hg => (upd_set w6 B8 0 _).block g (HTY.out g hg))
      · refine HI.out.bel.trans (BB.below HI.out.bel.size (fun i hi => ?_))
        have hNB := HNB.out
        rcases hi with hi | hi
        · omega
        · have := HO.out.block i hi
          omega
    clear e6 e7 e8 f1 f2 o6 b6 g6 slS ow5 BT hH8 a6 a7 c1' c2'
    gi_wp2
    have HCE : Hid (∀ i, (i = B8 ∨ (Value.slice va vn vc).ownBlock = some i) → ∀ o, V.heap[i]? = some o → o.isCells = true) := fun i hi o ho => by
      rcases hi with rfl | hi
      · rw [HV8.out.blk] at ho; cases ho; rfl
      · rcases HO.out.own.2 with ⟨e, _⟩ | ⟨q', cap', cur, e, _, hq, _⟩
        · rw [e] at hi; cases hi
        · rw [e] at hi
          cases hi
          have ho' : V.heap[q']? = some o := ho
          rw [hq] at ho'
          cases ho'
          rfl
    exact ⟨keeps_but HPRE.out.2 HCE.out, ⟨(HPRE.out.1.x1.cell 0 rfl).trans (HI.out.x1.cell 0 rfl).symm, (HPRE.out.1.x2.cell 0 rfl).trans (HI.out.x2.cell 0 rfl).symm⟩, HPRE.out.1⟩
  case done =>
    rintro D ys V hD rfl hI hK
    obtain ⟨v, h8, hO⟩ := hI.ex
    rw [joinP_range _ _ _ (Nat.le_refl _), HLN.out.2.2, HJ.out] at hO
    have HOB : Hid (OwnB V BR v bs) := ownY hO HB0.out.1
    obtain ⟨va, vc, hv, hv1, hv2⟩ := hO.form
    obtain ⟨L, hL⟩ : ∃ L, L = bs.length := ⟨_, rfl⟩
    rw [← hL] at hv hv1
    have HL : Hid (L = bs.length) := hL
    subst hv
    have z8 := h8.cell 0 (v := .slice va L vc) rfl
    have HI : Hid (JI w ss (cnt len) B6 B7 BR B8 X1 X2 (.slice sa len cap) (List.range (cnt len)) V) := hI
    have HV8 : Hid (VA V B8 [.slice va L vc] 22) := h8
    have d0 : 0 < L := by rw [hL]; exact HB0.out.2.1
    have d1 : ((L : Int) == 0) = false := by simp; omega
    have d2 : ((L : Int) = 0) = False := by simp; omega
    have HKD : Hid (V.heap[D]? = some (.deferred (some []))) := hK
    have hLl : L ≤ 4132 := by rw [hL]; exact HB0.out.2.2
    have HBV : Hid (Bs V (.slice sa len cap) ss) := HBS0.out.step hI.bel
    clear hO h8 hI hL hK
    gi_wp2
    refine ((callsIn_wide (n := 7)).2 (cut_ok V num Bn hnum (HN.out.step HI.out.bel) mk hmk va L vc bs HOB.out.bs hLl)).mono ?_
    rintro e W1 ⟨⟨u, rfl, oU⟩, bU⟩
    rw [HSS.out] at oU
    obtain ⟨_, ua, uc, hu, hu1, hu2, _⟩ := oU.bs
    obtain ⟨un, hun⟩ : ∃ un, un = ss.length := ⟨_, rfl⟩
    rw [← hun] at hu hu1
    have HUB : Hid (Bs W1 u ss) := oU.bs
    have HBU : Hid (Below V.heap.size V W1) := bU
    have HSB : Hid (Bs W1 (.slice sa len cap) ss) := HBV.out.step bU
    subst hu
    clear oU bU hun
    gi_wp2
    refine ((callsIn_wide (n := 7)).2 (equal_same _ _ ss W1 HUB.out HSB.out (by have := HLN.out; omega))).mono ?_
    rintro e W2 ⟨rfl, hw2⟩
    obtain rfl := hw2.symm
    have y8 := (HV8.out.step HBU.out).cell 0 (v := .slice va L vc) rfl
    have V6 := HI.out.v6.step HBU.out
    have V7 := HI.out.v7.step HBU.out
    have y6 := V6.cell 0 (v := .slice none 0 0) rfl
    have g6 := V6.free 0
    have n76 : B7 ≠ B6 := by have := HNB.out; omega
    have V7' := V7.set_other n76 0 (.slice va L vc)
    have y7 := V7'.cell 0 (v := .bool false) rfl
    have g7 := V7'.free 0
    have V6s := (V6.set 0 (.slice va L vc)).set_other n76.symm 0 (.bool true)
    have V7s := V7'.set 0 (.bool true)
    have U2 : But (fun i => i = B6 ∨ i = B7) W1 ((W1.setCell ⟨B6, 0, none⟩ (.slice va L vc)).setCell ⟨B7, 0, none⟩ (.bool true)) := ((upd_set W1 B6 0 (.slice va L vc)).but.mono (fun i h => .inl h)).trans ((upd_set _ B7 0 (.bool true)).but.mono (fun i h => (.inr h : i = B6 ∨ i = B7))) (fun _ _ h => h)
    have HKD2 : Hid (((W1.setCell ⟨B6, 0, none⟩ (.slice va L vc)).setCell ⟨B7, 0, none⟩ (.bool true)).heap[D]? = some (.deferred (some []))) := by
      have hDV : V.heap[D]? = some (.deferred (some [])) := HKD.out
      have h1 := (HBU.out.block D (hlt_of hDV)).trans hDV
      refine (U2.block D (hlt_of h1) (fun h => ?_)).trans h1
      rcases h with h | h
      · rw [h, V6.blk] at h1; cases h1
      · rw [h, V7.blk] at h1; cases h1
    have HOW : Hid (Own KY ((W1.setCell ⟨B6, 0, none⟩ (.slice va L vc)).setCell ⟨B7, 0, none⟩ (.bool true)) BR (.slice va L vc) bs) := ((yOwn HOB.out).step HBU.out).but U2 (fun g hg h => by
      have := (yOwn HOB.out).block g hg
      have hNB := HNB.out
      rcases h with h | h <;> omega)
    have HBEL : Hid (Below w.heap.size w ((W1.setCell ⟨B6, 0, none⟩ (.slice va L vc)).setCell ⟨B7, 0, none⟩ (.bool true))) := (HI.out.bel.trans (HBU.out.mono HI.out.bel.size)).trans (U2.below (Nat.le_trans HI.out.bel.size HBU.out.size) (fun i h => by have hNB := HNB.out; rcases h with h | h <;> omega))
    clear U2 V7' V7 V6
    gi_wp2
    generalize (W1.setCell ⟨B6, 0, none⟩ (.slice va L vc)).setCell ⟨B7, 0, none⟩ (.bool true) = W9 at *
    refine ⟨by simp, .inl ⟨_, _, rfl, run_takeDeferred HKD2.out, ?_⟩⟩
    have hr2 : ∀ r, some D = some r → ∃ o, W9.heap[r]? = some o ∧ o.isCells = false := fun r e => by cases e; exact ⟨_, HKD2.out, rfl⟩
    have V6q := V6s.keptN (grownBy_putObj' W9 D (.deferred none)) hr2
    have V7q := V7s.keptN (grownBy_putObj' W9 D (.deferred none)) hr2
    have q6 := V6q.cell 0 (v := .slice va L vc) rfl
    have q7 := V7q.cell 0 (v := .bool true) rfl
    have oq := ownK_kept HOW.out (grownBy_putObj' W9 D (.deferred none)) hr2
    have bq : Below w.heap.size w (W9.putObj D (.deferred none)) := HBEL.out.grown (grownBy_putObj' W9 D (.deferred none)) HBEL.out.size (fun k e => by cases e; have hNB := HNB.out; omega)
    refine ⟨.tuple #[.slice va L vc, .bool true], ?_, ⟨_, rfl, (ownY oq HB0.out.1).lower (by have hNB := HNB.out; omega)⟩, bq⟩
    simp [results, Tryz.results112, go_sem, asAddr, q6, q7]
  case stop =>
    rintro D c pre V _ _ h _
    exact h.elim
end Go.Proofs.YtkmdegmpffgplaaGreatDoor
