/- parts III: the log's head; bytes as rows; what Cut has made so far. -/
import Derived.Test.YtkmdegmpffgplaaGreatDoorLaj
import Derived.Test.YtkmdegmpffgplaaGreatDoorLap
namespace Go.Proofs.YtkmdegmpffgplaaGreatDoor
open Go.RowKit Go.Maps Go.Sort Go.Shelf pk
set_option linter.unusedVariables false
set_option linter.unusedSimpArgs false

/-- what the log's head tells -/
def hd6 (num i c : Nat) : List Nat := [num / 16777216 % 256, num / 65536 % 256, num / 256 % 256, num % 256, i % 256, c % 256]
theorem info6 : (Tryz.prog.info? 184).map (·.size) = some 6 := by kernel_rfl
theorem u8w (n : Nat) : IntKind.u8.wrap (n : Int) = ((n % 256 : Nat) : Int) := by
  unfold IntKind.wrap
  simp [IntKind.signed, IntKind.bits]
theorem hd6_cl (num i c : Nat) (hn : num < 4294967296) (hi : i < 256) (hc : c < 256) : cl (hd6 num i c) = [.int .u8 ((num : Int) / 16777216), .int .u8 ((num : Int) / 65536 % 256), .int .u8 ((num : Int) / 256 % 256), .int .u8 ((num : Int) % 256), .int .u8 (i : Int), .int .u8 (c : Int)] := by
  unfold cl hd6
  have e1 : num / 16777216 % 256 = num / 16777216 := by omega
  have e2 : i % 256 = i := by omega
  have e3 : c % 256 = c := by omega
  simp [e1, e2, e3]
theorem hd6_by (num i c : Nat) : By (hd6 num i c) := fun x hx => by
  unfold hd6 at hx
  simp at hx
  omega
set_option maxRecDepth 100000 in
theorem head_ok (num i c Bn : Nat) (hi : i < 256) (hc : c < 256) (hnum : num < 4294967296) (w : World) (hN : VA w Bn [.int .u32 (num : Int)] 127) :
    Calls Tryz.prog 110 #[.int .i64 (i : Int), .int .i64 (c : Int), .pointer (some ⟨Bn, 0, none⟩)] w fun e w' => e = .returned (.agg (cl (hd6 num i c)).toArray) ∧ Below w.heap.size w w' := by
  have HE := (show Hid _ from hd6_cl num i c hnum hi hc)
  have D := (Below.refl w.heap.size w).alloc (Nat.le_refl _) (.cells #[.int .u8 0, .int .u8 0, .int .u8 0, .int .u8 0, .int .u8 0, .int .u8 0] 184)
  have V := va_new w [.int .u8 ((num : Int) / 16777216), .int .u8 ((num : Int) / 65536 % 256), .int .u8 ((num : Int) / 256 % 256), .int .u8 ((num : Int) % 256), .int .u8 (i : Int), .int .u8 (c : Int)] 184
  have hld := run_loadVar_row (P := Tryz.prog) _ w.heap.size 184 184 _ (0, 0) _ V.blk Tryz.underlying184 rfl info6
  have y := (hN.step D).cell 0 (v := .int .u32 (num : Int)) rfl
  have hn := hN.lt
  clear V hN D
  go_enter Tryz.func110, Tryz.ntmps110
  go_wp2_with fail
  refine bodyPost_ret (v := .agg #[.int .u8 ((num : Int) / 16777216), .int .u8 ((num : Int) / 65536 % 256), .int .u8 ((num : Int) / 256 % 256), .int .u8 ((num : Int) % 256), .int .u8 (i : Int), .int .u8 (c : Int)]) (by simp [results, Tryz.results110, go_sem, asAddr, hld]) rfl ?_
  exact ⟨by rw [HE.out], (Below.refl _ _).alloc (Nat.le_refl _) _⟩
theorem head_exp (num i c Bn : Nat) (hi : i < 256) (hc : c < 256) (hnum : num < 4294967296) (w : World) (hN : VA w Bn [.int .u32 (num : Int)] 127) :
    Calls Tryz.prog 110 #[.int .i64 (i : Int), .int .i64 (c : Int), .pointer (some ⟨Bn, 0, none⟩)] w fun e w' => e = .returned (.agg #[.int .u8 ((num : Int) / 16777216), .int .u8 ((num : Int) / 65536 % 256), .int .u8 ((num : Int) / 256 % 256), .int .u8 ((num : Int) % 256), .int .u8 (i : Int), .int .u8 (c : Int)]) ∧ Below w.heap.size w w' := by
  have := head_ok num i c Bn hi hc hnum w hN
  rw [hd6_cl num i c hnum hi hc] at this
  exact this
theorem infoY8 : (Tryz.prog.info? 5).map (fun i => (i.zero.map (fun z => z.cells.size), i.size, i.bytes)) = some (some 1, 1, 1) := by kernel_rfl
/-- rows of bytes -/
def KY : Kd Nat where
  T := 5
  S := 22
  k := 1
  bt := 1
  enc := fun n => [.int .u8 (n : Int)]
  info := by
    obtain ⟨i, hi, hz⟩ := Option.map_eq_some_iff.1 infoY8
    simp only [Prod.mk.injEq] at hz
    obtain ⟨z, hz0, hz1⟩ := Option.map_eq_some_iff.1 hz.1
    exact ⟨i, z, hi, hz0, hz.2.1, hz.2.2, hz1⟩
  und := Tryz.underlying22
  pos := by decide
  len := fun _ => rfl
  one := fun x v h => by simp at h; rw [h]; rfl
theorem KY.cl (bs : List Nat) : KY.cells bs = cl bs := by
  unfold Kd.cells pk.cl
  induction bs with
  | nil => rfl
  | cons b bs ih => rw [List.flatMap_cons, ih]; rfl
theorem ownY {w : World} {B : Nat} {v : Value} {bs : List Nat} (h : Own KY w B v bs) (hb : By bs) : OwnB w B v bs := ⟨hb, by have := h.own; rw [KY.cl] at this; exact this⟩
theorem yOwn {w : World} {B : Nat} {v : Value} {bs : List Nat} (h : OwnB w B v bs) : Own KY w B v bs := ⟨by rw [KY.cl]; exact h.own⟩
/-- what Cut has made of the parts numbered pre -/
def cutP (mk : Nat) (hd : Nat → List Nat) (bs : List Nat) (pre : List Nat) : List Nat := (pre.zipIdx).flatMap fun x => secB mk (hd x.2) (prt4 bs x.1)
theorem cutP_snoc (mk : Nat) (hd : Nat → List Nat) (bs pre : List Nat) (x : Nat) : cutP mk hd bs (pre ++ [x]) = cutP mk hd bs pre ++ secB mk (hd pre.length) (prt4 bs x) := by
  unfold cutP
  rw [List.zipIdx_append, List.flatMap_append]
  simp
theorem cutP_len (mk : Nat) (hd : Nat → List Nat) (bs pre : List Nat) : (cutP mk hd bs pre).length = 32 * pre.length := by
  have h : ∀ l : List (Nat × Nat), (l.flatMap fun x => secB mk (hd x.2) (prt4 bs x.1)).length = 32 * l.length := by
    intro l
    induction l with
    | nil => rfl
    | cons x l ih => rw [List.flatMap_cons, List.length_append, ih, secB_len, List.length_cons]; omega
  unfold cutP
  rw [h, List.length_zipIdx]
theorem cutP_range (mk : Nat) (hd : Nat → List Nat) (bs : List Nat) : ∀ k, cutP mk hd bs (List.range k) = cutK mk hd bs k
  | 0 => rfl
  | k + 1 => by rw [List.range_succ, cutP_snoc, cutP_range mk hd bs k, List.length_range, cutK_succ]
end Go.Proofs.YtkmdegmpffgplaaGreatDoor
/- parts IV: Cut. -/
namespace Go.Proofs.YtkmdegmpffgplaaGreatDoor
open Go.RowKit Go.Shelf pk
set_option linter.unusedVariables false
attribute [local go_sem] Oper.semAt_some ext_cell ext_frozen ext_drew ext_of_drew ext_of_drewN ext_setCell ext_lt ext_lt1 ext_lt2 ext_lt3 lt_n2 lt_n3 lt_n4 lt_n5 lt_n6

theorem mkY (n : Nat) (hn : n ≤ 1000000) (w : World) : (Instr.makeSlice 22 (.int .i64 0) (.int .i64 (n : Int))).run Tryz.prog w = .ok (.slice (some ⟨w.heap.size, 0, none⟩) 0 n) (w.alloc (.cells (cl (List.replicate n 0)).toArray 5)) := by
  obtain ⟨i0, hi, hz0, hz1, hz2⟩ := info8_parts
  have h := run_make (P := Tryz.prog) w 22 5 i0 _ Tryz.underlying22 hi hz0 .i64 .i64 0 n (by omega) (by omega) (by rw [hz2]; omega) (by omega)
  rw [hz1] at h
  simp only [Int.toNat_natCast, Int.toNat_zero] at h
  rw [made_by] at h
  exact h
/-- copy of bytes into a row known whole -/
theorem cpRunO {w : World} {rT : TypeId} {g o dL dC : Nat} {u : Value} {bs : List Nat} (hu : Bs w u bs) (hL : bs.length ≤ dL) {cs : List Value} {T : TypeId} (V : VA w g cs T) (hf : o + bs.length ≤ cs.length) :
    ∃ w', (Builtin.copy_ #[22, 22] rT #[.slice (some ⟨g, o, none⟩) dL dC, u]).run Tryz.prog w = .ok (.int .i64 (bs.length : Int)) w' ∧ VA w' g (cs.take o ++ cl bs ++ cs.drop (o + bs.length)) T ∧ Upd g w w' := by
  obtain ⟨i0, hi, hz0, hz1, hz2⟩ := info8_parts
  obtain ⟨hby, ad, c, rfl, h1, h2, h3, h4⟩ := hu
  by_cases h0 : bs.length = 0
  · obtain rfl : bs = [] := List.eq_nil_of_length_eq_zero h0
    exact ⟨w, run_copy_none (P := Tryz.prog) w 22 22 rT 5 (some ⟨g, o, none⟩) ad dL dC 0 c Tryz.underlying22 (by rw [hi]; simp [hz1]) (Nat.zero_min _), ⟨by simpa [cl] using V.blk⟩, ⟨rfl, rfl, rfl, rfl, fun _ _ => rfl⟩⟩
  · obtain ⟨b, off, rfl, hb, hx⟩ := h4 (by omega)
    have hr := run_copy_row (P := Tryz.prog) w 22 22 rT 5 g o dL dC ⟨b, off, none⟩ bs.length c cs.toArray T (cl bs) Tryz.underlying22 (by rw [hi]; simp [hz1]) V.blk (by rw [cl_len]; exact (Nat.min_eq_left hL).symm) (fun j v hv => by
      have hj : j < bs.length := by have := (List.getElem?_eq_some_iff.1 hv).1; rwa [cl_len] at this
      rw [Go.WideShapes.add_plain, hx j hj, ← cl_get bs j hj, hv]) (by simpa [cl_len] using hf) (fun v hv => cl_one hv)
    rw [cl_len] at hr
    refine ⟨_, hr, ⟨?_⟩, upd_setRow w g _⟩
    rw [setRow_heap w g _ _ _ _ V.blk]
theorem bs_va {w : World} {g c : Nat} {bs : List Nat} {T : TypeId} (h : VA w g (cl bs) T) (hb : By bs) (hc : bs.length ≤ c) (hm : c ≤ 9223372036854775807) : Bs w (.slice (some ⟨g, 0, none⟩) bs.length c) bs :=
  ⟨hb, _, _, rfl, hc, hm, fun e => (by cases e), fun _ => ⟨g, 0, rfl, h.lt, fun k hk => by rw [Nat.zero_add]; exact h.cell k (cl_get bs k hk)⟩⟩
theorem pad32_eq (l : List Nat) (h : l.length ≤ 32) : pad32 l = l ++ List.replicate (32 - l.length) 0 := by
  refine List.ext_getElem? (fun i => ?_)
  by_cases hi : i < 32
  · rw [pad32_get l i hi]
    by_cases hl : i < l.length
    · rw [List.getElem?_append_left hl, List.getD_eq_getElem?_getD, List.getElem?_eq_getElem hl]
      rfl
    · rw [List.getElem?_append_right (by omega), List.getElem?_replicate, if_pos (by omega), List.getD_eq_getElem?_getD, List.getElem?_eq_none (by omega)]
      rfl
  · rw [List.getElem?_eq_none (by rw [pad32_len]; omega), List.getElem?_eq_none (by simp; omega)]
theorem sec_cells (mk : Nat) (hd s : List Nat) (hh : hd.length = 6) (hs : s.length ≤ 24) (A : List Value) (hA : A = [.int .u8 (mk : Int), .int .u8 (s.length : Int)] ++ cl hd ++ List.replicate 24 (.int .u8 0)) : A.take 8 ++ cl s ++ A.drop (8 + s.length) = cl (secB mk hd s) := by
  have h8 : ([.int .u8 (mk : Int), .int .u8 (s.length : Int)] ++ cl hd : List Value).length = 8 := by simp [cl, hh]
  rw [hA, List.take_append_of_le_length (by rw [h8]; exact Nat.le_refl _), List.take_of_length_le (by rw [h8]; exact Nat.le_refl _), List.drop_append, List.drop_of_length_le (by rw [h8]; omega), h8, show 8 + s.length - 8 = s.length by omega, List.drop_replicate, List.nil_append]
  unfold secB
  have hl : ([mk, s.length] ++ hd ++ s).length = 8 + s.length := by simp [hh]; omega
  rw [pad32_eq _ (by rw [hl]; omega), hl, show 32 - (8 + s.length) = 24 - s.length by omega]
  simp [cl]
theorem secB_by (mk : Nat) (hmk : mk < 256) (hd s : List Nat) (h1 : By hd) (h2 : By s) (hs : s.length ≤ 24) : By (secB mk hd s) := by
  unfold secB
  refine by_pad (fun x hx => ?_)
  simp only [List.mem_append, List.mem_cons, List.not_mem_nil, or_false] at hx
  rcases hx with ((rfl | rfl) | hx) | hx
  · exact hmk
  · omega
  · exact h1 x hx
  · exact h2 x hx
theorem slY {w : World} {g n : Nat} {bs : List Nat} {T : TypeId} (h : VA w g (cl bs) T) (hn : bs.length = n) (hm : n ≤ 1000000 := by decide) : Sl KY w (.slice (some ⟨g, 0, none⟩) n n) bs := by
  subst hn
  refine ⟨_, _, rfl, Nat.le_refl _, ?_, fun h0 => ⟨g, 0, rfl, h.lt, fun i x hx j u hj => ?_⟩⟩
  · omega
  · have hj0 : j = 0 := by
      have := (List.getElem?_eq_some_iff.1 hj).1
      simp [KY] at this
      exact this
    subst hj0
    have hu : u = .int .u8 (x : Int) := by simpa [KY] using hj.symm
    rw [hu, Nat.zero_add, Nat.add_zero, show i * KY.k = i from Nat.mul_one i]
    refine h.cell i ?_
    unfold cl
    rw [List.getElem?_map, hx]
    rfl
theorem ownK_kept {α : Type} {K : Kd α} {A W : World} {B : Nat} {v : Value} {xs : List α} {row : Option Nat} (h : Own K A B v xs) (hg : A.grownBy W row) (hr : ∀ r, row = some r → ∃ o, A.heap[r]? = some o ∧ o.isCells = false) : Own K W B v xs := by
  refine h.blk fun g hv => hg.block g (h.lt g hv) (fun e => ?_)
  obtain ⟨o, ho, hc⟩ := hr g e.symm
  rcases h.own.2 with ⟨rfl, _⟩ | ⟨q, cap, cur, rfl, _, hq, _⟩
  · cases hv
  · cases hv
    rw [hq] at ho
    cases ho
    simp [Obj.isCells] at hc
/-- what Cut's loop keeps -/
structure CI (w : World) (num Bn mk C : Nat) (bs : List Nat) (B3 B5 B7 BR B8 B9 X1 X2 : Nat) (sl : Value) (pre : List Nat) (W : World) : Prop where
  v3 : VA W B3 [.int .u8 (mk : Int)] 5
  v5 : VA W B5 [.func (.func 110) #[] #[.pointer (some ⟨Bn, 0, none⟩)]] 153
  v7 : VA W B7 [.int .i64 (C : Int)] 3
  ex : ∃ v, VA W B8 [v] 22 ∧ Own KY W BR v (cutP mk (fun i => (hd6 num) i C) bs pre)
  v9 : VA W B9 [.int .i64 (pre.length : Int)] 3
  x1 : VA W X1 [sl] 22
  x2 : VA W X2 [.int .i64 24] 3
  bel : Below w.heap.size w W
theorem CI.own {w : World} {num Bn mk C : Nat} {bs : List Nat} {B3 B5 B7 BR B8 B9 X1 X2 Bz : Nat} {sl : Value} (hB : w.heap.size ≤ Bz) : OwnFrom Bz (CI w num Bn mk C bs B3 B5 B7 BR B8 B9 X1 X2 sl) := fun s A A' row h hg hr => by
  have hr2 : ∀ r, row = some r → ∃ o, A.heap[r]? = some o ∧ o.isCells = false := fun r e => (hr r e).2
  obtain ⟨v, h1, h2⟩ := h.ex
  exact ⟨h.v3.keptN hg hr2, h.v5.keptN hg hr2, h.v7.keptN hg hr2, ⟨v, h1.keptN hg hr2, ownK_kept h2 hg hr2⟩, h.v9.keptN hg hr2, h.x1.keptN hg hr2, h.x2.keptN hg hr2, h.bel.grown hg h.bel.size (fun k e => Nat.le_trans hB (hr k e).1)⟩
set_option maxRecDepth 100000 in
set_option maxHeartbeats 4000000 in
theorem cut_ok (w : World) (num Bn : Nat) (hnum : num < 4294967296) (hN : VA w Bn [.int .u32 (num : Int)] 127) (mk : Nat) (hmk : mk < 256) (sa : Option Addr) (len cap : Nat) (bs : List Nat) (hb : Bs w (.slice sa len cap) bs) (hl : len ≤ 4132) :
    Calls Tryz.prog 89 #[.int .u8 (mk : Int), .slice sa len cap, .func (.func 110) #[] #[.pointer (some ⟨Bn, 0, none⟩)]] w fun e w' => (∃ u, e = .returned u ∧ OwnB w' w.heap.size u (cutB mk (hd6 num) bs)) ∧ Below w.heap.size w w' := by
  have HN : Hid (VA w Bn [.int .u32 (num : Int)] 127) := hN
  clear hN
  have HBS0 : Hid (Bs w (.slice sa len cap) bs) := hb
  obtain ⟨hby, a, c, e, hc1, hc2, _, h4⟩ := hb
  have hlen : len = bs.length := by injection e
  have hcap : len ≤ cap ∧ cap ≤ 9223372036854775807 ∧ len ≤ 140737488355328 := by injection e with _ e2 e3; subst e3; exact ⟨by omega, by omega, by omega⟩
  obtain ⟨b, off, hsa⟩ : ∃ b off, 0 < len → sa = some ⟨b, off, none⟩ := by
    by_cases h0 : 0 < len
    · obtain ⟨b, off, e2, _⟩ := h4 (by omega)
      injection e with e1 _ _
      exact ⟨b, off, fun _ => e1.trans e2⟩
    · exact ⟨0, 0, fun h => absurd h h0⟩
  have HLN : Hid (len = bs.length) := hlen
  have HBY : Hid (By bs) := hby
  obtain ⟨C, hC⟩ : ∃ C, C = cn4 len := ⟨_, rfl⟩
  have HC : Hid (C = cn4 len) := hC
  have dC : ((len : Int) + 24 - 1) / 24 = (C : Int) := by rw [hC]; unfold cn4; omega
  have hC6 : C ≤ 173 := by rw [hC]; unfold cn4; omega
  clear h4 e hby hlen hC
  obtain ⟨M, hM⟩ : ∃ M, M = 32 * C := ⟨_, rfl⟩
  have HM : Hid (M = 32 * C) := hM
  obtain ⟨ZR, hZR⟩ : ∃ ZR, ZR = (cl (List.replicate M 0)).toArray := ⟨_, rfl⟩
  have HZR : Hid (ZR = (cl (List.replicate M 0)).toArray) := hZR
  have hmkr : ∀ w', (Instr.makeSlice 22 (.int .i64 0) (.int .i64 ((C : Int) * 32))).run Tryz.prog w' = .ok (.slice (some ⟨w'.heap.size, 0, none⟩) 0 M) (w'.alloc (.cells ZR 5)) := fun w' => by
    have := mkY M (by omega) w'
    rw [show ((M : Nat) : Int) = (C : Int) * 32 by omega, ← hZR] at this
    exact this
  clear hM hZR
  refine (callsIn_wide (n := 8)).1 ?_
  have hF : ∀ f, Fence.wide.fn f := fun _ => trivial
  have hF1 := hF 106
  refine callsIn_of_wp_marks Tryz.func89 rfl trivial ?_ rfl
  simp only [Tryz.ntmps89, List.size_toArray, List.length_cons, List.length_nil, Nat.reduceAdd, Nat.reduceSub, Array.replicate_succ, Array.replicate_zero, List.push_toArray, List.append_toArray, List.nil_append, List.cons_append]
  gi_wp2_with (gi_at_call 106; refine (chunk_4 (8 - 1) _ _ _ _).mono ?_; rintro e w' ⟨rfl, rfl⟩)
  have b1 := (Below.refl w.heap.size w).alloc (Nat.le_refl _) (.cells #[.int .u8 (mk : Int)] 5)
  have b2 := b1.alloc b1.size (.cells #[.func (.func 110) #[] #[.pointer (some ⟨Bn, 0, none⟩)]] 153)
  have b3 := b2.alloc b2.size (.cells #[.int .i64 (C : Int)] 3)
  have b4 := b3.alloc b3.size (.cells ZR 5)
  have b5 := b4.alloc b4.size (.cells #[.slice (some ⟨w.heap.size + 1 + 1 + 1, 0, none⟩) 0 M] 22)
  have b6 := b5.alloc b5.size (.cells #[.int .i64 0] 3)
  have b7 := b6.alloc b6.size (.cells #[.slice sa len cap] 22)
  have b8 := b7.alloc b7.size (.cells #[.int .i64 24] 3)
  have v0 := (((((((va_new (w) [.int .u8 (mk : Int)] 5).alloc (.cells #[.func (.func 110) #[] #[.pointer (some ⟨Bn, 0, none⟩)]] 153)).alloc (.cells #[.int .i64 (C : Int)] 3)).alloc (.cells ZR 5)).alloc (.cells #[.slice (some ⟨w.heap.size + 1 + 1 + 1, 0, none⟩) 0 M] 22)).alloc (.cells #[.int .i64 0] 3)).alloc (.cells #[.slice sa len cap] 22)).alloc (.cells #[.int .i64 24] 3)
  have v1 := ((((((va_new ((w).alloc (.cells #[.int .u8 (mk : Int)] 5)) [.func (.func 110) #[] #[.pointer (some ⟨Bn, 0, none⟩)]] 153).alloc (.cells #[.int .i64 (C : Int)] 3)).alloc (.cells ZR 5)).alloc (.cells #[.slice (some ⟨w.heap.size + 1 + 1 + 1, 0, none⟩) 0 M] 22)).alloc (.cells #[.int .i64 0] 3)).alloc (.cells #[.slice sa len cap] 22)).alloc (.cells #[.int .i64 24] 3)
  have v2 := (((((va_new (((w).alloc (.cells #[.int .u8 (mk : Int)] 5)).alloc (.cells #[.func (.func 110) #[] #[.pointer (some ⟨Bn, 0, none⟩)]] 153)) [.int .i64 (C : Int)] 3).alloc (.cells ZR 5)).alloc (.cells #[.slice (some ⟨w.heap.size + 1 + 1 + 1, 0, none⟩) 0 M] 22)).alloc (.cells #[.int .i64 0] 3)).alloc (.cells #[.slice sa len cap] 22)).alloc (.cells #[.int .i64 24] 3)
  have v4 := (((va_new (((((w).alloc (.cells #[.int .u8 (mk : Int)] 5)).alloc (.cells #[.func (.func 110) #[] #[.pointer (some ⟨Bn, 0, none⟩)]] 153)).alloc (.cells #[.int .i64 (C : Int)] 3)).alloc (.cells ZR 5)) [.slice (some ⟨w.heap.size + 1 + 1 + 1, 0, none⟩) 0 M] 22).alloc (.cells #[.int .i64 0] 3)).alloc (.cells #[.slice sa len cap] 22)).alloc (.cells #[.int .i64 24] 3)
  have v5 := ((va_new ((((((w).alloc (.cells #[.int .u8 (mk : Int)] 5)).alloc (.cells #[.func (.func 110) #[] #[.pointer (some ⟨Bn, 0, none⟩)]] 153)).alloc (.cells #[.int .i64 (C : Int)] 3)).alloc (.cells ZR 5)).alloc (.cells #[.slice (some ⟨w.heap.size + 1 + 1 + 1, 0, none⟩) 0 M] 22)) [.int .i64 0] 3).alloc (.cells #[.slice sa len cap] 22)).alloc (.cells #[.int .i64 24] 3)
  have v6 := (va_new (((((((w).alloc (.cells #[.int .u8 (mk : Int)] 5)).alloc (.cells #[.func (.func 110) #[] #[.pointer (some ⟨Bn, 0, none⟩)]] 153)).alloc (.cells #[.int .i64 (C : Int)] 3)).alloc (.cells ZR 5)).alloc (.cells #[.slice (some ⟨w.heap.size + 1 + 1 + 1, 0, none⟩) 0 M] 22)).alloc (.cells #[.int .i64 0] 3)) [.slice sa len cap] 22).alloc (.cells #[.int .i64 24] 3)
  have v7 := va_new ((((((((w).alloc (.cells #[.int .u8 (mk : Int)] 5)).alloc (.cells #[.func (.func 110) #[] #[.pointer (some ⟨Bn, 0, none⟩)]] 153)).alloc (.cells #[.int .i64 (C : Int)] 3)).alloc (.cells ZR 5)).alloc (.cells #[.slice (some ⟨w.heap.size + 1 + 1 + 1, 0, none⟩) 0 M] 22)).alloc (.cells #[.int .i64 0] 3)).alloc (.cells #[.slice sa len cap] 22)) [.int .i64 24] 3
  have o3 : Own KY (((((w).alloc (.cells #[.int .u8 (mk : Int)] 5)).alloc (.cells #[.func (.func 110) #[] #[.pointer (some ⟨Bn, 0, none⟩)]] 153)).alloc (.cells #[.int .i64 (C : Int)] 3)).alloc (.cells ZR 5)) (w.heap.size + 1 + 1 + 1) (.slice (some ⟨w.heap.size + 1 + 1 + 1, 0, none⟩) 0 M) [] := ⟨by have := World.ownsRow_made (base := w.heap.size + 1 + 1 + 1) (e := 5) (size := 1) ((((w).alloc (.cells #[.int .u8 (mk : Int)] 5)).alloc (.cells #[.func (.func 110) #[] #[.pointer (some ⟨Bn, 0, none⟩)]] 153)).alloc (.cells #[.int .i64 (C : Int)] 3)) ZR M (by simp) (by unfold maxLen; have := HM.out; omega) (by rw [HZR.out]; simp [cl]); simp only [World.size_alloc] at this; exact this⟩
  have o8 := (((o3.alloc (.cells #[.slice (some ⟨w.heap.size + 1 + 1 + 1, 0, none⟩) 0 M] 22)).alloc (.cells #[.int .i64 0] 3)).alloc (.cells #[.slice sa len cap] 22)).alloc (.cells #[.int .i64 24] 3)
  simp only [World.size_alloc] at v0 v1 v2 v4 v5 v6 v7
  obtain ⟨Wl, hWl⟩ : ∃ Wl, Wl = ((((((((w).alloc (.cells #[.int .u8 (mk : Int)] 5)).alloc (.cells #[.func (.func 110) #[] #[.pointer (some ⟨Bn, 0, none⟩)]] 153)).alloc (.cells #[.int .i64 (C : Int)] 3)).alloc (.cells ZR 5)).alloc (.cells #[.slice (some ⟨w.heap.size + 1 + 1 + 1, 0, none⟩) 0 M] 22)).alloc (.cells #[.int .i64 0] 3)).alloc (.cells #[.slice sa len cap] 22)).alloc (.cells #[.int .i64 24] 3) := ⟨_, rfl⟩
  have hsz : Wl.heap.size = w.heap.size + 1 + 1 + 1 + 1 + 1 + 1 + 1 + 1 := by rw [hWl]; simp
  rw [← hWl] at v0 v1 v2 v4 v5 v6 v7 o8 b8 ⊢
  clear hWl o3 b1 b2 b3 b4 b5 b6 b7 hmkr
  generalize hX2 : w.heap.size + 1 + 1 + 1 + 1 + 1 + 1 + 1 = X2 at *
  generalize hX1 : w.heap.size + 1 + 1 + 1 + 1 + 1 + 1 = X1 at *
  generalize hB9 : w.heap.size + 1 + 1 + 1 + 1 + 1 = B9 at *
  generalize hB8 : w.heap.size + 1 + 1 + 1 + 1 = B8 at *
  generalize hBR : w.heap.size + 1 + 1 + 1 = BR at *
  generalize hB7 : w.heap.size + 1 + 1 = B7 at *
  generalize hB5 : w.heap.size + 1 = B5 at *
  obtain ⟨B3, hB3⟩ : ∃ B3, B3 = w.heap.size := ⟨_, rfl⟩
  rw [← hB3] at v0 ⊢
  have HNB : Hid (B3 = w.heap.size ∧ B5 = B3 + 1 ∧ B7 = B3 + 2 ∧ BR = B3 + 3 ∧ B8 = B3 + 4 ∧ B9 = B3 + 5 ∧ X1 = B3 + 6 ∧ X2 = B3 + 7 ∧ Wl.heap.size = B3 + 8) := ⟨hB3, by omega, by omega, by omega, by omega, by omega, by omega, by omega, by omega⟩
  clear hX2 hX1 hB9 hB8 hBR hB7 hB5 hB3
  have HBW : Hid (Below w.heap.size w Wl) := b8
  clear b8 hsz
  refine wpIn_rangeFunc_ownH rfl (by omega) (gf := 127) (lb := #[.pointer (some ⟨X1, 0, none⟩), .pointer (some ⟨X2, 0, none⟩)]) rfl trivial (enters_of Tryz.func127 (by kernel_rfl) rfl)
    (stops_4 (8 - 1) (by omega) X1 X2 b off len cap sa hsa hcap Wl (v6.cell 0 rfl) (v7.cell 0 rfl)) KpC.trans
    (fun V k o o' hk _ _ _ => ⟨World.cell?_of_block (World.putObj_heap_other (by have := HNB.out; dsimp only; omega)), World.cell?_of_block (World.putObj_heap_other (by have := HNB.out; dsimp only; omega))⟩) (Below.refl _ _) (fun _ => rfl)
    (CI w num Bn mk C bs B3 B5 B7 BR B8 B9 X1 X2 (.slice sa len cap)) (fun _ _ _ => False) (CI.own (by have := HNB.out; omega)) (fun _ _ _ _ _ h _ _ => h)
    ⟨v0, v1, v2, ⟨_, v4, o8⟩, v5, v6, v7, HBW.out⟩
    (fun x a' _ => a' = { tmps := #[.int .u8 (mk : Int), .slice sa len cap, .func (.func 110) #[] #[.pointer (some ⟨Bn, 0, none⟩)], .pointer (some ⟨B3, 0, none⟩), undef, .pointer (some ⟨B5, 0, none⟩), .slice none 0 0, .pointer (some ⟨B7, 0, none⟩), .pointer (some ⟨B8, 0, none⟩), .pointer (some ⟨B9, 0, none⟩), .slice (some ⟨b, off + 24 * x, none⟩) (min 24 (len - 24 * x)) (min 24 (len - 24 * x)), undef, undef, .slice sa len cap, .int .i64 (len : Int), .int .i64 ((len : Int) + 24), .int .i64 ((len : Int) + 24 - 1), .int .i64 (C : Int), .int .i64 (C : Int), .int .i64 ((C : Int) * 32), .slice (some ⟨BR, 0, none⟩) 0 M, .slice sa len cap, .func (.func 127) #[] #[.pointer (some ⟨X1, 0, none⟩), .pointer (some ⟨X2, 0, none⟩)], .slice (some ⟨b, off + 24 * x, none⟩) (min 24 (len - 24 * x)) (min 24 (len - 24 * x)), undef, undef, undef, undef, undef, undef, undef, undef, undef, undef, undef, undef, undef, undef, undef, undef, undef, undef, undef, undef, undef, undef], defers := [] }) (fun _ _ _ _ _ _ h _ _ => h)
    ?assign ?body ?done ?stop
  case assign =>
    rintro l' pre x V K hi hK
    unfold enc4 at hK ⊢
    gi_wp2
    exact hK _ _ (KeepsFrom.refl _ _) ⟨rfl, rfl⟩ hi rfl
  case body =>
    rintro l' pre x a' V hl' ⟨r, hr⟩ hI rfl hlt
    obtain ⟨v, h8, hO⟩ := hI.ex
    obtain ⟨va, vc, hv, hv1, hv2⟩ := hO.form
    rw [cutP_len] at hv hv1
    have HPL : Hid (pre.length < cn4 len) := hlt
    have hpl : pre.length ≤ 173 := by have := HC.out; omega
    have HI : Hid (CI w num Bn mk C bs B3 B5 B7 BR B8 B9 X1 X2 (.slice sa len cap) pre V) := hI
    have HP : Hid (Bs V (.slice (some ⟨b, off + 24 * x, none⟩) (min 24 (len - 24 * x)) (min 24 (len - 24 * x))) (prt4 bs x)) := bs_prt4 (HBS0.out.step hI.bel) hsa x
    generalize hm : min 24 (len - 24 * x) = m at *
    have HMM : Hid (min 24 (len - 24 * x) = m) := hm
    have hm24 : m ≤ 24 := by omega
    subst hv
    have HO : Hid (Own KY V BR (.slice va (32 * pre.length) vc) (cutP mk (fun i => (hd6 num) i C) bs pre)) := hO
    have HV8 : Hid (VA V B8 [.slice va (32 * pre.length) vc] 22) := h8
    have y3 := hI.v3.cell 0 (v := .int .u8 (mk : Int)) rfl
    have y5 := hI.v5.cell 0 (v := .func (.func 110) #[] #[.pointer (some ⟨Bn, 0, none⟩)]) rfl
    have y7 := hI.v7.cell 0 (v := .int .i64 (C : Int)) rfl
    have y9 := hI.v9.cell 0 (v := .int .i64 (pre.length : Int)) rfl
    have l3 := hI.v3.lt
    have l5 := hI.v5.lt
    have l7 := hI.v7.lt
    have l9 := hI.v9.lt
    clear hI hO h8 hm hlt
    generalize hpn : pre.length = pn at *
    have HPN : Hid (pre.length = pn) := hpn
    clear hpn
    gi_wp2
    have HV1 : Hid (VA (V.alloc (.cells #[.int .u8 (mk : Int), .int .u8 (m : Int), .int .u8 0, .int .u8 0, .int .u8 0, .int .u8 0, .int .u8 0, .int .u8 0, .int .u8 0, .int .u8 0, .int .u8 0, .int .u8 0, .int .u8 0, .int .u8 0, .int .u8 0, .int .u8 0, .int .u8 0, .int .u8 0, .int .u8 0, .int .u8 0, .int .u8 0, .int .u8 0, .int .u8 0, .int .u8 0, .int .u8 0, .int .u8 0, .int .u8 0, .int .u8 0, .int .u8 0, .int .u8 0, .int .u8 0, .int .u8 0] 70)) V.heap.size [.int .u8 (mk : Int), .int .u8 (m : Int), .int .u8 0, .int .u8 0, .int .u8 0, .int .u8 0, .int .u8 0, .int .u8 0, .int .u8 0, .int .u8 0, .int .u8 0, .int .u8 0, .int .u8 0, .int .u8 0, .int .u8 0, .int .u8 0, .int .u8 0, .int .u8 0, .int .u8 0, .int .u8 0, .int .u8 0, .int .u8 0, .int .u8 0, .int .u8 0, .int .u8 0, .int .u8 0, .int .u8 0, .int .u8 0, .int .u8 0, .int .u8 0, .int .u8 0, .int .u8 0] 70) := va_new V _ _
    have HB1 : Hid (Below V.heap.size V (V.alloc (.cells #[.int .u8 (mk : Int), .int .u8 (m : Int), .int .u8 0, .int .u8 0, .int .u8 0, .int .u8 0, .int .u8 0, .int .u8 0, .int .u8 0, .int .u8 0, .int .u8 0, .int .u8 0, .int .u8 0, .int .u8 0, .int .u8 0, .int .u8 0, .int .u8 0, .int .u8 0, .int .u8 0, .int .u8 0, .int .u8 0, .int .u8 0, .int .u8 0, .int .u8 0, .int .u8 0, .int .u8 0, .int .u8 0, .int .u8 0, .int .u8 0, .int .u8 0, .int .u8 0, .int .u8 0] 70))) := (Below.refl _ _).alloc (Nat.le_refl _) _
    generalize hV1 : V.alloc (.cells #[.int .u8 (mk : Int), .int .u8 (m : Int), .int .u8 0, .int .u8 0, .int .u8 0, .int .u8 0, .int .u8 0, .int .u8 0, .int .u8 0, .int .u8 0, .int .u8 0, .int .u8 0, .int .u8 0, .int .u8 0, .int .u8 0, .int .u8 0, .int .u8 0, .int .u8 0, .int .u8 0, .int .u8 0, .int .u8 0, .int .u8 0, .int .u8 0, .int .u8 0, .int .u8 0, .int .u8 0, .int .u8 0, .int .u8 0, .int .u8 0, .int .u8 0, .int .u8 0, .int .u8 0] 70) = V1 at *
    clear hV1
    have hhd : CallsIn (Fence.wide.inRound l') 5 Tryz.prog 110 #[.int .i64 (pn : Int), .int .i64 (C : Int), .pointer (some ⟨Bn, 0, none⟩)] V1 fun e w' => e = .returned (.agg #[.int .u8 ((num : Int) / 16777216), .int .u8 ((num : Int) / 65536 % 256), .int .u8 ((num : Int) / 256 % 256), .int .u8 ((num : Int) % 256), .int .u8 (pn : Int), .int .u8 (C : Int)]) ∧ Below V1.heap.size V1 w' := (callsIn_wide (n := 5)).2 (head_exp num pn C Bn (by omega) (by omega) hnum V1 ((HN.out.step HI.out.bel).step HB1.out))
    refine hhd.mono ?_
    rintro e V2 ⟨rfl, b2⟩
    have HB2 : Hid (Below V.heap.size V V2) := HB1.out.trans (b2.mono HB1.out.size)
    have HV2 : Hid (VA V2 V.heap.size [.int .u8 (mk : Int), .int .u8 (m : Int), .int .u8 0, .int .u8 0, .int .u8 0, .int .u8 0, .int .u8 0, .int .u8 0, .int .u8 0, .int .u8 0, .int .u8 0, .int .u8 0, .int .u8 0, .int .u8 0, .int .u8 0, .int .u8 0, .int .u8 0, .int .u8 0, .int .u8 0, .int .u8 0, .int .u8 0, .int .u8 0, .int .u8 0, .int .u8 0, .int .u8 0, .int .u8 0, .int .u8 0, .int .u8 0, .int .u8 0, .int .u8 0, .int .u8 0, .int .u8 0] 70) := HV1.out.step b2
    clear b2 hhd HV1 HB1
    gi_wp2
    have HTC : Hid (cl ((hd6 num) pn C) = [.int .u8 ((num : Int) / 16777216), .int .u8 ((num : Int) / 65536 % 256), .int .u8 ((num : Int) / 256 % 256), .int .u8 ((num : Int) % 256), .int .u8 (pn : Int), .int .u8 (C : Int)]) := hd6_cl num pn C hnum (by omega) (by omega)
    have VT0 : VA (V2.alloc (.cells #[.int .u8 ((num : Int) / 16777216), .int .u8 ((num : Int) / 65536 % 256), .int .u8 ((num : Int) / 256 % 256), .int .u8 ((num : Int) % 256), .int .u8 (pn : Int), .int .u8 (C : Int)] 184)) V2.heap.size (cl ((hd6 num) pn C)) 184 := by rw [HTC.out]; exact va_new V2 _ _
    have VS0 := HV2.out.alloc (.cells #[.int .u8 ((num : Int) / 16777216), .int .u8 ((num : Int) / 65536 % 256), .int .u8 ((num : Int) / 256 % 256), .int .u8 ((num : Int) % 256), .int .u8 (pn : Int), .int .u8 (C : Int)] 184)
    have B30 := HB2.out.alloc HB2.out.size (.cells #[.int .u8 ((num : Int) / 16777216), .int .u8 ((num : Int) / 65536 % 256), .int .u8 ((num : Int) / 256 % 256), .int .u8 ((num : Int) % 256), .int .u8 (pn : Int), .int .u8 (C : Int)] 184)
    have hg12 : V.heap.size < V2.heap.size := HV2.out.lt
    generalize V2.alloc (.cells #[.int .u8 ((num : Int) / 16777216), .int .u8 ((num : Int) / 65536 % 256), .int .u8 ((num : Int) / 256 % 256), .int .u8 ((num : Int) % 256), .int .u8 (pn : Int), .int .u8 (C : Int)] 184) = V3 at *
    generalize hg2 : V2.heap.size = g2 at *
    clear HV2 HB2 hg2
    have HB3 : Hid (Below V.heap.size V V3.drew) := B30.drew
    have VT3 : VA V3.drew g2 (cl ((hd6 num) pn C)) 184 := VA.drew VT0
    have VS3 : VA V3.drew V.heap.size [.int .u8 (mk : Int), .int .u8 (m : Int), .int .u8 0, .int .u8 0, .int .u8 0, .int .u8 0, .int .u8 0, .int .u8 0, .int .u8 0, .int .u8 0, .int .u8 0, .int .u8 0, .int .u8 0, .int .u8 0, .int .u8 0, .int .u8 0, .int .u8 0, .int .u8 0, .int .u8 0, .int .u8 0, .int .u8 0, .int .u8 0, .int .u8 0, .int .u8 0, .int .u8 0, .int .u8 0, .int .u8 0, .int .u8 0, .int .u8 0, .int .u8 0, .int .u8 0, .int .u8 0] 70 := VA.drew VS0
    clear VT0 VS0 B30
    obtain ⟨V4, hcp1, VS4, U4⟩ := cpRunO (rT := 3) (o := 2) (dL := 6) (dC := 30) (bs_va VT3 (hd6_by num pn C) (c := 6) (by simp [hd6]) (by omega)) (by simp [hd6]) VS3 (by simp [hd6])
    rw [show ((hd6 num) pn C).length = 6 from rfl] at hcp1 VS4
    refine region_round_held (fun _ => True) (by kernel_rfl) (by kernel_rfl) (fun h => by obtain ⟨_, _, h⟩ := h; exact h) trivial ?_
    intro hHeld
    generalize V3.drew = W3 at *
    refine takeD 0 34 (.slice (some ⟨V.heap.size, 2, none⟩) 6 30) (by exact rfl) rfl (by kernel_rfl) (by kernel_rfl) (by kernel_rfl) (fun _ _ _ h => h) (Or.inl ⟨by rfl, ?_⟩) (by assumption) ?_
    · intro wq hS
      go_simp
    try simp only [Act.put, List.setIfInBounds_toArray, List.set_cons_zero, List.set_cons_succ]
    refine takeD 1 35 (.slice (some ⟨g2, 0, none⟩) 6 6) (by exact rfl) rfl (by kernel_rfl) (by kernel_rfl) (by kernel_rfl) (fun _ _ _ h => h) (Or.inl ⟨by rfl, ?_⟩) (by assumption) ?_
    · intro wq hS
      go_simp
    try simp only [Act.put, List.setIfInBounds_toArray, List.set_cons_zero, List.set_cons_succ]
    refine wpAnyH_ready (rs := [2]) (by kernel_rfl) (by simp) ?_
    refine AllReadyH.cons (by exact rfl) (fun K hK => ?_) AllReadyH.nil
    go_simp
    refine hK.out _ _ trivial (fun _ => ?_)
    clear hK K
    try simp only [Act.put, List.setIfInBounds_toArray, List.set_cons_zero, List.set_cons_succ]
    refine wpAnyH_done (by kernel_rfl) ?_ _
    refine NoPanic.normal ?_
    have HB4 : Hid (Below V.heap.size V V4) := U4.bel HB3.out (Nat.le_refl _)
    have HPML : Hid ((prt4 bs x).length = m) := (show (prt4 bs x).length = m by rw [prt4_len, ← HLN.out]; exact HMM.out)
    obtain ⟨V5, hcp2, VS5, U5⟩ := cpRunO (rT := 3) (o := 8) (dL := 24) (dC := 24) (HP.out.step HB4.out) (by rw [HPML.out]; exact hm24) VS4 (by rw [HPML.out]; simp [hd6, cl]; omega)
    rw [sec_cells mk ((hd6 num) pn C) (prt4 bs x) rfl (by rw [HPML.out]; exact hm24) _ (by rw [HPML.out]; rfl)] at VS5
    rw [HPML.out] at hcp2
    have HB5 : Hid (Below V.heap.size V V5.drew) := (U5.bel HB4.out (Nat.le_refl _)).drew
    have HVS : Hid (VA V5.drew V.heap.size (cl (secB mk ((hd6 num) pn C) (prt4 bs x))) 70) := VA.drew VS5
    clear VS4 VS5 U4 U5 hcp1 VT3 VS3
    gi_wp2
    refine region_round_held (fun _ => True) (by kernel_rfl) (by kernel_rfl) (fun h => by obtain ⟨_, _, h⟩ := h; exact h) trivial ?_
    intro hHeld
    clear hcp2
    have hH8 := HV8.out.step HB5.out
    generalize V5.drew = W5 at *
    refine takeD 1 41 (.slice (some ⟨V.heap.size, 0, none⟩) 32 32) (by exact rfl) rfl (by kernel_rfl) (by kernel_rfl) (by kernel_rfl) (fun _ _ _ h => h) (Or.inl ⟨by rfl, ?_⟩) (by assumption) ?_
    · intro wq hS
      go_simp
    try simp only [Act.put, List.setIfInBounds_toArray, List.set_cons_zero, List.set_cons_succ]
    have z8 := hH8.cell 0 (v := .slice va (32 * pn) vc) rfl
    refine wpAnyH_ready (rs := [0]) (by kernel_rfl) (by simp) ?_
    refine AllReadyH.cons (by exact rfl) (fun K hK => ?_) AllReadyH.nil
    go_simp
    refine hK.out _ _ trivial (fun _ => ?_)
    clear hK K z8
    try simp only [Act.put, List.setIfInBounds_toArray, List.set_cons_zero, List.set_cons_succ]
    have ow5 := HO.out.step HB5.out
    have slS : Sl KY W5 (.slice (some ⟨V.heap.size, 0, none⟩) 32 32) (secB mk ((hd6 num) pn C) (prt4 bs x)) := slY HVS.out (secB_len _ _ _)
    have a3 := HI.out.v3.step HB5.out
    have a5 := HI.out.v5.step HB5.out
    have a7 := HI.out.v7.step HB5.out
    have a9 := HI.out.v9.step HB5.out
    have c1 := HI.out.x1.step HB5.out
    have c2 := HI.out.x2.step HB5.out
    refine wpAnyH_ready (rs := [2]) (by kernel_rfl) (by simp) ?_
    refine AllReadyH.cons (by exact rfl) (fun K hK => ?_) AllReadyH.nil
    refine appSd (K := KY) (by rfl) (some 42) rfl _ _ rfl BR (cutP mk (fun i => (hd6 num) i C) bs pre) (secB mk ((hd6 num) pn C) (prt4 bs x)) _ _ (by rfl) (by rfl) ow5 slS (fun n c e => by cases e) (by have := a9.lt; have := HNB.out; omega) (by rw [cutP_len, secB_len]; show (32 * pre.length + 32) * 1 ≤ _; have := HPN.out; omega) (by rw [cutP_len, secB_len]; have := HPN.out; omega) ?_
    intro v6 w6 o6 b6 g6
    have e3 := a3.grownO g6 ow5 (.inr (by have := HNB.out; omega))
    have e5 := a5.grownO g6 ow5 (.inr (by have := HNB.out; omega))
    have e7 := a7.grownO g6 ow5 (.inr (by have := HNB.out; omega))
    have e8 := hH8.grownO g6 ow5 (.inl (by decide))
    have e9 := a9.grownO g6 ow5 (.inl (by decide))
    have f1 := c1.grownO g6 ow5 (.inl (by decide))
    have f2 := c2.grownO g6 ow5 (.inl (by decide))
    obtain ⟨v6a, v6c, hv6, hv61, hv62⟩ := o6.form
    have HBB : Hid (Below V.heap.size V W5) := HB5.out
    have BT : But (fun i => i = B8 ∨ i = B9 ∨ (Value.slice va (32 * pn) vc).ownBlock = some i) V w6 := (below_but HBB.out _).trans (⟨g6.os, g6.tape, g6.output, g6.size, fun i hi hx => g6.block i hi (fun er => hx (.inr (.inr er.symm)))⟩ : But (fun i => i = B8 ∨ i = B9 ∨ (Value.slice va (32 * pn) vc).ownBlock = some i) W5 w6) (fun _ _ h => h)
    have HTY : Hid (∀ g, v6.ownBlock = some g → g ≠ B8 ∧ g ≠ B9) := (show ∀ g, v6.ownBlock = some g → g ≠ B8 ∧ g ≠ B9 from fun g hg => by
      rcases o6.own.2 with ⟨rfl, _⟩ | ⟨q', cap', cur, rfl, _, hq, _⟩
      · cases hg
      · cases hg
        refine ⟨fun er => ?_, fun er => ?_⟩
        · have er' : q' = B8 := er
          rw [er', e8.blk] at hq
          cases hq
        · have er' : q' = B9 := er
          rw [er', e9.blk] at hq
          cases hq)
    have HO6 : Hid (Own KY w6 BR v6 (cutP mk (fun i => (hd6 num) i C) bs pre ++ secB mk ((hd6 num) pn C) (prt4 bs x))) := o6
    generalize (cutP mk (fun i => (hd6 num) i C) bs pre ++ secB mk ((hd6 num) pn C) (prt4 bs x)).length = n6 at hv6 hv61
    subst hv6
    refine hK.out _ _ trivial (fun _ => ?_)
    clear hK K
    try simp only [Act.put, List.setIfInBounds_toArray, List.set_cons_zero, List.set_cons_succ]
    have z8 := e8.cell 0 (v := .slice va (32 * pn) vc) rfl
    have fz8 := e8.free 0
    refine wpAnyH_ready (rs := [3]) (by kernel_rfl) (by simp) ?_
    refine AllReadyH.cons (by exact rfl) (fun K hK => ?_) AllReadyH.nil
    go_simp
    refine hK.out _ _ trivial (fun _ => ?_)
    clear hK K
    refine wpAnyH_done (by kernel_rfl) ?_ _
    refine NoPanic.normal ?_
    have n38 : B3 ≠ B8 := by have := HNB.out; omega
    have n58 : B5 ≠ B8 := by have := HNB.out; omega
    have n78 : B7 ≠ B8 := by have := HNB.out; omega
    have n98 : B9 ≠ B8 := by have := HNB.out; omega
    have n18 : X1 ≠ B8 := by have := HNB.out; omega
    have n28 : X2 ≠ B8 := by have := HNB.out; omega
    have n39 : B3 ≠ B9 := by have := HNB.out; omega
    have n59 : B5 ≠ B9 := by have := HNB.out; omega
    have n79 : B7 ≠ B9 := by have := HNB.out; omega
    have n89 : B8 ≠ B9 := by have := HNB.out; omega
    have n19 : X1 ≠ B9 := by have := HNB.out; omega
    have n29 : X2 ≠ B9 := by have := HNB.out; omega
    have h3 := e3.set_other n38 0 (.slice v6a n6 v6c)
    have h5 := e5.set_other n58 0 (.slice v6a n6 v6c)
    have h7 := e7.set_other n78 0 (.slice v6a n6 v6c)
    have h8 := e8.set 0 (.slice v6a n6 v6c)
    have h9 := e9.set_other n98 0 (.slice v6a n6 v6c)
    have k1 := f1.set_other n18 0 (.slice v6a n6 v6c)
    have k2 := f2.set_other n28 0 (.slice v6a n6 v6c)
    have o7 := HO6.out.blk (w' := w6.setCell ⟨B8, 0, none⟩ (.slice v6a n6 v6c)) (fun g hg => (upd_set w6 B8 0 _).block g (HTY.out g hg).1)
    have B7' := BT.trans ((upd_set w6 B8 0 (.slice v6a n6 v6c)).but.mono (fun i h => (.inl h : i = B8 ∨ i = B9 ∨ (Value.slice va (32 * pn) vc).ownBlock = some i))) (fun _ _ h => h)
    generalize w6.setCell ⟨B8, 0, none⟩ (.slice v6a n6 v6c) = w7 at *
    have h9p := h9
    rw [HPN.out] at h9p
    have y9' := h9p.cell 0 (v := .int .i64 (pn : Int)) rfl
    have fz9 := h9.free 0
    have HPRE : Hid (CI w num Bn mk C bs B3 B5 B7 BR B8 B9 X1 X2 (.slice sa len cap) (pre ++ [x]) (w7.setCell ⟨B9, 0, none⟩ (.int .i64 ((pn : Int) + 1))) ∧ But (fun i => i = B8 ∨ i = B9 ∨ (Value.slice va (32 * pn) vc).ownBlock = some i) V (w7.setCell ⟨B9, 0, none⟩ (.int .i64 ((pn : Int) + 1)))) := by
      have BB := B7'.trans ((upd_set w7 B9 0 (.int .i64 ((pn : Int) + 1))).but.mono (fun i h => (.inr (.inl h) : i = B8 ∨ i = B9 ∨ (Value.slice va (32 * pn) vc).ownBlock = some i))) (fun _ _ h => h)
      refine ⟨⟨h3.set_other n39 0 _, h5.set_other n59 0 _, h7.set_other n79 0 _, ⟨_, h8.set_other n89 0 _, ?_⟩, ?_, k1.set_other n19 0 _, k2.set_other n29 0 _, ?_⟩, BB⟩
      · rw [cutP_snoc, HPN.out]
        exact o7.blk (fun g hg => (upd_set w7 B9 0 _).block g (HTY.out g hg).2)
      · have := h9.set 0 (.int .i64 ((pn : Int) + 1))
        rw [List.length_append, List.length_singleton, HPN.out]
        simpa using this
      · refine HI.out.bel.trans (BB.below HI.out.bel.size (fun i hi => ?_))
        have hNB := HNB.out
        rcases hi with hi | hi | hi
        · omega
        · omega
        · have := HO.out.block i hi
          omega
    clear h9p h3 h5 h7 h8 h9 k1 k2 o7 B7' a3 a5 a7 a9 c1 c2 e3 e5 e7 e8 e9 f1 f2 o6 b6 g6 slS ow5 BT hH8
    gi_wp2
    have HCE : Hid (∀ i, (i = B8 ∨ i = B9 ∨ (Value.slice va (32 * pn) vc).ownBlock = some i) → ∀ o, V.heap[i]? = some o → o.isCells = true) := fun i hi o ho => by
      rcases hi with rfl | rfl | hi
      · rw [HV8.out.blk] at ho; cases ho; rfl
      · rw [HI.out.v9.blk] at ho; cases ho; rfl
      · rcases HO.out.own.2 with ⟨e, _⟩ | ⟨q', cap', cur, e, _, hq, _⟩
        · rw [e] at hi; cases hi
        · rw [e] at hi
          cases hi
          have ho' : V.heap[q']? = some o := ho
          rw [hq] at ho'
          cases ho'
          rfl
    exact ⟨keeps_but HPRE.out.2 HCE.out, ⟨(HPRE.out.1.x1.cell 0 rfl).trans (HI.out.x1.cell 0 rfl).symm, (HPRE.out.1.x2.cell 0 rfl).trans (HI.out.x2.cell 0 rfl).symm⟩, HPRE.out.1⟩
  case done =>
    rintro D ys V hD rfl hI hK
    have hI2 := CI.own (w := w) (num := num) (Bn := Bn) (mk := mk) (C := C) (bs := bs) (B3 := B3) (B5 := B5) (B7 := B7) (BR := BR) (B8 := B8) (B9 := B9) (X1 := X1) (X2 := X2) (sl := .slice sa len cap) (Bz := Wl.heap.size) (by have := HNB.out; omega) _ V _ (some D) hI (grownBy_putObj' V D (.deferred none)) (fun r e => by cases e; exact ⟨hD, _, hK, rfl⟩)
    obtain ⟨v, h8, hO⟩ := hI.ex
    have z8 := h8.cell 0 (v := v) rfl
    gi_wp2
    refine ⟨by simp, .inl ⟨_, _, rfl, run_takeDeferred hK, ?_⟩⟩
    have hO2 := ownK_kept hO (grownBy_putObj' V D (.deferred none)) (fun r e => by cases e; exact ⟨_, hK, rfl⟩)
    rw [cutP_range] at hO2
    refine ⟨_, by simp [results, Tryz.results89, go_sem], ⟨v, rfl, ?_⟩, hI2.bel⟩
    have hcb : cutB mk (hd6 num) bs = cutK mk (fun i => (hd6 num) i C) bs (cn4 len) := by unfold cutB; rw [← HLN.out, ← HC.out]
    rw [hcb]
    refine (ownY hO2 ?_).lower (by have := HNB.out; omega)
    intro z hz
    obtain ⟨i, _, hz⟩ := List.mem_flatMap.1 hz
    exact secB_by mk hmk _ _ (hd6_by num _ _) ((HBY.out.drop _).take _) (by simp; omega) z hz
  case stop =>
    rintro D c pre V _ _ h _
    exact h.elim
end Go.Proofs.YtkmdegmpffgplaaGreatDoor
