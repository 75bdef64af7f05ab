/- disk XXXIII: rows of truth values; fate. -/
import Derived.Test.YtkmdegmpffgplaaGreatDoorLau
import Derived.Test.YtkmdegmpffgplaaGreatDoorLam
namespace Go.Proofs.YtkmdegmpffgplaaGreatDoor
open Go.RowKit Go.Maps Go.Sort Go.Shelf pk
set_option linter.unusedVariables false
set_option linter.unusedSimpArgs false

theorem infoB : (Tryz.prog.info? 4).map (fun i => (i.zero.map (fun z => z.cells.size), i.size, i.bytes)) = some (some 1, 1, 1) := by kernel_rfl
def KB : Kd Bool where
  T := 4
  S := 59
  k := 1
  bt := 1
  enc := fun b => [.bool b]
  info := by
    obtain ⟨i, hi, hz⟩ := Option.map_eq_some_iff.1 infoB
    simp only [Prod.mk.injEq] at hz
    obtain ⟨z, hz0, hz1⟩ := Option.map_eq_some_iff.1 hz.1
    exact ⟨i, z, hi, hz0, hz.2.1, hz.2.2, hz1⟩
  und := Tryz.underlying59
  pos := by decide
  len := fun _ => rfl
  one := fun x v h => by simp at h; rw [h]; rfl
theorem Bl.sl {w : World} {v : Value} {ks : List Bool} (h : Bl w v ks) : Sl KB w v ks := by
  obtain ⟨a, c, rfl, h1, h2, h3⟩ := h
  refine ⟨a, c, rfl, h1, h2, fun h0 => ?_⟩
  obtain ⟨b, off, rfl, hx⟩ := h3 h0
  refine ⟨b, off, rfl, World.block_lt_of_cell? w _ (hx 0 h0), fun i y hy j u hu => ?_⟩
  have hi : i < ks.length := (List.getElem?_eq_some_iff.1 hy).1
  have hj : j = 0 := by
    have := (List.getElem?_eq_some_iff.1 hu).1
    have e : (KB.enc y).length = 1 := rfl
    omega
  subst hj
  have hu' : u = .bool y := by
    have : (KB.enc y)[0]? = some (.bool y) := rfl
    rw [this] at hu
    cases hu
    rfl
  rw [hu', show i * KB.k = i from Nat.mul_one i, Nat.add_zero, hx i hi]
  simp [List.getD, hy]
theorem Own.bl {w : World} {B : Nat} {v : Value} {ks : List Bool} (h : Own KB w B v ks) : Bl w v ks ∧ Safe w v := by
  obtain ⟨a, c, rfl, h1, h2⟩ := h.form
  refine ⟨⟨a, c, rfl, h1, h2, fun h0 => ?_⟩, fun b off n cc e => ?_⟩
  · have hs := h.sl
    obtain ⟨x0, hx0⟩ : ∃ x0, ks[0]? = some x0 := ⟨_, List.getElem?_eq_getElem h0⟩
    obtain ⟨b, off, rfl, hb, _⟩ := hs.at 0 x0 hx0
    refine ⟨b, off, rfl, fun i hi => ?_⟩
    obtain ⟨b', off', e, _, hc⟩ := hs.at i ks[i] (List.getElem?_eq_getElem hi)
    cases e
    have := hc 0 (.bool ks[i]) rfl
    rw [show i * KB.k = i from Nat.mul_one i, Nat.add_zero] at this
    rw [this]
    simp [List.getD, hi]
  · rcases h.own.2 with ⟨e2, _⟩ | ⟨q, cap, cur, e2, _, hq, _⟩
    · rw [e2] at e; cases e
    · rw [e2] at e
      cases e
      exact ⟨_, _, _, hq, by unfold Dt; decide⟩
theorem Sl.bl {w : World} {v : Value} {ks : List Bool} (h : Sl KB w v ks) : Bl w v ks := by
  obtain ⟨a, c, rfl, h1, h2, h3⟩ := h
  refine ⟨a, c, rfl, h1, h2, fun h0 => ?_⟩
  obtain ⟨b, off, rfl, hb, hc⟩ := h3 h0
  refine ⟨b, off, rfl, fun i hi => ?_⟩
  have := hc i ks[i] (List.getElem?_eq_getElem hi) 0 (.bool ks[i]) rfl
  rw [show i * KB.k = i from Nat.mul_one i, Nat.add_zero] at this
  rw [this]
  simp [List.getD, hi]
/-- append(l, m...) in a drawn region -/
theorem appSd {α : Type} {K : Kd α} {w : World} {y : Nat → Option Bool} {o : Oper} {a : Act} {Q : Exit → Act → World → Prop} {KK : Act → World → Prop} {k0 : Prop} (hgd : Region.wanted o y = true) (d0 : Option Tmp) (hd0 : o.dst = d0) (s x : Operand)
    (ho : o.op = .call { callee := .builtin .append, args := #[s, x], argTypes := #[K.S, K.S] })
    (B : Nat) (xs ys : List α) (v u : Value) (hs : a.eval s = v) (hx : a.eval x = u)
    (hown : Own K w B v xs) (hu : Sl K w u ys) (hno : ∀ n c, u = .slice none n c → c = 0) (hB : B ≤ w.heap.size) (hl : (xs.length + ys.length) * K.bt ≤ 140737488355328) (hl2 : xs.length + ys.length ≤ 140737488355328)
    (h : ∀ v' w', Own K w' B v' (xs ++ ys) → Below B w w' → w.grownBy w' v.ownBlock → KK (a.put d0 v') w') :
    if Region.wanted o y then o.wp Tryz.prog a w KK Q else k0 := by
  subst hd0
  obtain ⟨ad, c, rfl, h1, h2, h4⟩ := hu
  by_cases h0 : ys = []
  · subst h0
    cases ad with
    | none =>
      obtain rfl : c = 0 := hno _ _ rfl
      obtain ⟨i0, z, hi, hz0, hz1, hz2, hz3⟩ := K.info
      rw [if_pos hgd]
      have hrun := run_append_owned_none (P := Tryz.prog) (w := w) B K.S o.type K.T i0 K.k K.und hi v xs.length (K.cells xs) hown.own
      have hx' : a.eval x = .slice none 0 0 := hx
      unfold Oper.wp
      simp [execOp, ho, resolve, invoke, builtin, hs, hx', hrun, Result.andThen]
      exact h v w (by simpa using hown) (Below.refl _ _) (World.grownBy.refl _ _)
    | some ad =>
      exact appK hgd s x ho B xs [] v ad c hs hx hown (fun j u hj => by simp [Kd.cells] at hj) hB hl hl2 (fun v' w' p q r => h v' w' p q r)
  · have hp : 0 < ys.length := List.length_pos_iff.2 h0
    obtain ⟨b, off, rfl, hb, hcell⟩ := h4 hp
    refine appK hgd s x ho B xs ys v ⟨b, off, none⟩ c hs hx hown (fun p u hp => ?_) hB hl hl2 (fun v' w' p q r => h v' w' p q r)
    obtain ⟨i, j, y, rfl, hj, hy, hu⟩ := K.cells_inv ys p u hp
    rw [Go.WideShapes.add_plain, ← Nat.add_assoc]
    exact hcell i y hy j u hu
/-- all of a struct is stored, in a drawn region -/
theorem stAw {w : World} {y : Nat → Option Bool} {o : Oper} {a : Act} {Q : Exit → Act → World → Prop} {K : Act → World → Prop} {k0 : Prop} (hgd : Region.wanted o y = true) (t : TypeId) (x z : Operand) (ho : o.op = .store t x z)
    (p : Nat) (hx : a.eval x = .pointer (some ⟨p, 0, none⟩)) (cs ds : List Value) (hy : a.eval z = .agg ds.toArray) (T : TypeId) (h : VA w p cs T) (hi : (Tryz.prog.info? t).map (·.size) = some ds.length) (hl : cs.length = ds.length) (h1 : ∀ v ∈ ds, v.oneCell' = true)
    (k : ∀ w', VA w' p ds T → Upd p w w' → K (a.put o.dst undef) w') : if Region.wanted o y = true then o.wp Tryz.prog a w K Q else k0 := by
  rw [if_pos hgd]
  have hrun := run_storeVar_row (P := Tryz.prog) w p T t cs.toArray ds.toArray h.blk (by simpa using hi) (by simpa using hl) (Array.all_eq_true_iff_forall_mem.2 (fun v hv => h1 v (by simpa using hv)))
  unfold Oper.wp execOp
  simp only [ho, hx, hy, Instr.storeAt, Instr.sureAddr, Sem.run_bind, Sem.run_pure, Result.andThen_ok, hrun]
  exact k _ ⟨setRow_heap w p _ _ _ _ h.blk⟩ (upd_setRow w p _)
theorem stAn {w : World} {y : Nat → Option Bool} {o : Oper} {a : Act} {Q : Exit → Act → World → Prop} {K : Act → World → Prop} {k0 : Prop} (hgd : Region.wanted o y = true) (hd : o.dst = none) (t : TypeId) (x z : Operand) (ho : o.op = .store t x z)
    (p : Nat) (hx : a.eval x = .pointer (some ⟨p, 0, none⟩)) (cs ds : List Value) (hy : a.eval z = .agg ds.toArray) (T : TypeId) (h : VA w p cs T) (hi : (Tryz.prog.info? t).map (·.size) = some ds.length) (hl : cs.length = ds.length) (h1 : ∀ v ∈ ds, v.oneCell' = true)
    (k : ∀ w', VA w' p ds T → Upd p w w' → K a w') : if Region.wanted o y = true then o.wp Tryz.prog a w K Q else k0 := by
  refine stAw hgd t x z ho p hx cs ds hy T h hi hl h1 (fun w' v u => ?_)
  rw [hd]
  exact k w' v u
end Go.Proofs.YtkmdegmpffgplaaGreatDoor
/- parts III: the log's head; bytes as rows; what Cut has made so far. -/
namespace Go.Proofs.YtkmdegmpffgplaaGreatDoor
open Go.RowKit Go.Maps Go.Sort Go.Shelf pk
set_option linter.unusedVariables false
set_option linter.unusedSimpArgs false

/-- what the log's head tells -/
def hd6 (num i c : Nat) : List Nat := [num / 16777216 % 256, num / 65536 % 256, num / 256 % 256, num % 256, i % 256, c % 256]
theorem info6 : (Tryz.prog.info? 184).map (·.size) = some 6 := by kernel_rfl
theorem u8w (n : Nat) : IntKind.u8.wrap (n : Int) = ((n % 256 : Nat) : Int) := by
  unfold IntKind.wrap
  simp [IntKind.signed, IntKind.bits]
theorem hd6_cl (num i c : Nat) (hn : num < 4294967296) (hi : i < 256) (hc : c < 256) : cl (hd6 num i c) = [.int .u8 ((num : Int) / 16777216), .int .u8 ((num : Int) / 65536 % 256), .int .u8 ((num : Int) / 256 % 256), .int .u8 ((num : Int) % 256), .int .u8 (i : Int), .int .u8 (c : Int)] := by
  unfold cl hd6
  have e1 : num / 16777216 % 256 = num / 16777216 := by omega
  have e2 : i % 256 = i := by omega
  have e3 : c % 256 = c := by omega
  simp [e1, e2, e3]
theorem hd6_by (num i c : Nat) : By (hd6 num i c) := fun x hx => by
  unfold hd6 at hx
  simp at hx
  omega
set_option maxRecDepth 100000 in
theorem head_ok (num i c Bn : Nat) (hi : i < 256) (hc : c < 256) (hnum : num < 4294967296) (w : World) (hN : VA w Bn [.int .u32 (num : Int)] 127) :
    Calls Tryz.prog 110 #[.int .i64 (i : Int), .int .i64 (c : Int), .pointer (some ⟨Bn, 0, none⟩)] w fun e w' => e = .returned (.agg (cl (hd6 num i c)).toArray) ∧ Below w.heap.size w w' := by
  have HE := (show Hid _ from hd6_cl num i c hnum hi hc)
  have D := (Below.refl w.heap.size w).alloc (Nat.le_refl _) (.cells #[.int .u8 0, .int .u8 0, .int .u8 0, .int .u8 0, .int .u8 0, .int .u8 0] 184)
  have V := va_new w [.int .u8 ((num : Int) / 16777216), .int .u8 ((num : Int) / 65536 % 256), .int .u8 ((num : Int) / 256 % 256), .int .u8 ((num : Int) % 256), .int .u8 (i : Int), .int .u8 (c : Int)] 184
  have hld := run_loadVar_row (P := Tryz.prog) _ w.heap.size 184 184 _ (0, 0) _ V.blk Tryz.underlying184 rfl info6
  have y := (hN.step D).cell 0 (v := .int .u32 (num : Int)) rfl
  have hn := hN.lt
  clear V hN D
  go_enter Tryz.func110, Tryz.ntmps110
  go_wp2_with fail
  refine bodyPost_ret (v := .agg #[.int .u8 ((num : Int) / 16777216), .int .u8 ((num : Int) / 65536 % 256), .int .u8 ((num : Int) / 256 % 256), .int .u8 ((num : Int) % 256), .int .u8 (i : Int), .int .u8 (c : Int)]) (by simp [results, Tryz.results110, go_sem, asAddr, hld]) rfl ?_
  exact ⟨by rw [HE.out], (Below.refl _ _).alloc (Nat.le_refl _) _⟩
theorem head_exp (num i c Bn : Nat) (hi : i < 256) (hc : c < 256) (hnum : num < 4294967296) (w : World) (hN : VA w Bn [.int .u32 (num : Int)] 127) :
    Calls Tryz.prog 110 #[.int .i64 (i : Int), .int .i64 (c : Int), .pointer (some ⟨Bn, 0, none⟩)] w fun e w' => e = .returned (.agg #[.int .u8 ((num : Int) / 16777216), .int .u8 ((num : Int) / 65536 % 256), .int .u8 ((num : Int) / 256 % 256), .int .u8 ((num : Int) % 256), .int .u8 (i : Int), .int .u8 (c : Int)]) ∧ Below w.heap.size w w' := by
  have := head_ok num i c Bn hi hc hnum w hN
  rw [hd6_cl num i c hnum hi hc] at this
  exact this
theorem infoY8 : (Tryz.prog.info? 5).map (fun i => (i.zero.map (fun z => z.cells.size), i.size, i.bytes)) = some (some 1, 1, 1) := by kernel_rfl
/-- rows of bytes -/
def KY : Kd Nat where
  T := 5
  S := 22
  k := 1
  bt := 1
  enc := fun n => [.int .u8 (n : Int)]
  info := by
    obtain ⟨i, hi, hz⟩ := Option.map_eq_some_iff.1 infoY8
    simp only [Prod.mk.injEq] at hz
    obtain ⟨z, hz0, hz1⟩ := Option.map_eq_some_iff.1 hz.1
    exact ⟨i, z, hi, hz0, hz.2.1, hz.2.2, hz1⟩
  und := Tryz.underlying22
  pos := by decide
  len := fun _ => rfl
  one := fun x v h => by simp at h; rw [h]; rfl
theorem KY.cl (bs : List Nat) : KY.cells bs = cl bs := by
  unfold Kd.cells pk.cl
  induction bs with
  | nil => rfl
  | cons b bs ih => rw [List.flatMap_cons, ih]; rfl
theorem ownY {w : World} {B : Nat} {v : Value} {bs : List Nat} (h : Own KY w B v bs) (hb : By bs) : OwnB w B v bs := ⟨hb, by have := h.own; rw [KY.cl] at this; exact this⟩
theorem yOwn {w : World} {B : Nat} {v : Value} {bs : List Nat} (h : OwnB w B v bs) : Own KY w B v bs := ⟨by rw [KY.cl]; exact h.own⟩
/-- what Cut has made of the parts numbered pre -/
def cutP (mk : Nat) (hd : Nat → List Nat) (bs : List Nat) (pre : List Nat) : List Nat := (pre.zipIdx).flatMap fun x => secB mk (hd x.2) (prt4 bs x.1)
theorem cutP_snoc (mk : Nat) (hd : Nat → List Nat) (bs pre : List Nat) (x : Nat) : cutP mk hd bs (pre ++ [x]) = cutP mk hd bs pre ++ secB mk (hd pre.length) (prt4 bs x) := by
  unfold cutP
  rw [List.zipIdx_append, List.flatMap_append]
  simp
theorem cutP_len (mk : Nat) (hd : Nat → List Nat) (bs pre : List Nat) : (cutP mk hd bs pre).length = 32 * pre.length := by
  have h : ∀ l : List (Nat × Nat), (l.flatMap fun x => secB mk (hd x.2) (prt4 bs x.1)).length = 32 * l.length := by
    intro l
    induction l with
    | nil => rfl
    | cons x l ih => rw [List.flatMap_cons, List.length_append, ih, secB_len, List.length_cons]; omega
  unfold cutP
  rw [h, List.length_zipIdx]
theorem cutP_range (mk : Nat) (hd : Nat → List Nat) (bs : List Nat) : ∀ k, cutP mk hd bs (List.range k) = cutK mk hd bs k
  | 0 => rfl
  | k + 1 => by rw [List.range_succ, cutP_snoc, cutP_range mk hd bs k, List.length_range, cutK_succ]
end Go.Proofs.YtkmdegmpffgplaaGreatDoor
