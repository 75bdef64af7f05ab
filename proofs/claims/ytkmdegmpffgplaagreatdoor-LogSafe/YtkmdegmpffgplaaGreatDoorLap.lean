/- disk XXXIII: rows of truth values; fate. -/
import Derived.Test.YtkmdegmpffgplaaGreatDoorLao
import Derived.Test.YtkmdegmpffgplaaGreatDoorLac
import Derived.Test.YtkmdegmpffgplaaGreatDoorLaa
import Derived.Test.YtkmdegmpffgplaaGreatDoorLae
import Derived.OpenShut
import Derived.WideShapes
import Derived.SizedLaws
namespace Go.Proofs.YtkmdegmpffgplaaGreatDoor
open Go.RowKit Go.Maps Go.Sort Go.Shelf pk
set_option linter.unusedVariables false
set_option linter.unusedSimpArgs false

theorem infoB : (Tryz.prog.info? 4).map (fun i => (i.zero.map (fun z => z.cells.size), i.size, i.bytes)) = some (some 1, 1, 1) := by kernel_rfl
def KB : Kd Bool where
  T := 4
  S := 59
  k := 1
  bt := 1
  enc := fun b => [.bool b]
  info := by
    obtain ⟨i, hi, hz⟩ := Option.map_eq_some_iff.1 infoB
    simp only [Prod.mk.injEq] at hz
    obtain ⟨z, hz0, hz1⟩ := Option.map_eq_some_iff.1 hz.1
    exact ⟨i, z, hi, hz0, hz.2.1, hz.2.2, hz1⟩
  und := Tryz.underlying59
  pos := by decide
  len := fun _ => rfl
  one := fun x v h => by simp at h; rw [h]; rfl
theorem Bl.sl {w : World} {v : Value} {ks : List Bool} (h : Bl w v ks) : Sl KB w v ks := by
  obtain ⟨a, c, rfl, h1, h2, h3⟩ := h
  refine ⟨a, c, rfl, h1, h2, fun h0 => ?_⟩
  obtain ⟨b, off, rfl, hx⟩ := h3 h0
  refine ⟨b, off, rfl, World.block_lt_of_cell? w _ (hx 0 h0), fun i y hy j u hu => ?_⟩
  have hi : i < ks.length := (List.getElem?_eq_some_iff.1 hy).1
  have hj : j = 0 := by
    have := (List.getElem?_eq_some_iff.1 hu).1
    have e : (KB.enc y).length = 1 := rfl
    omega
  subst hj
  have hu' : u = .bool y := by
    have : (KB.enc y)[0]? = some (.bool y) := rfl
    rw [this] at hu
    cases hu
    rfl
  rw [hu', show i * KB.k = i from Nat.mul_one i, Nat.add_zero, hx i hi]
  simp [List.getD, hy]
theorem Own.bl {w : World} {B : Nat} {v : Value} {ks : List Bool} (h : Own KB w B v ks) : Bl w v ks ∧ Safe w v := by
  obtain ⟨a, c, rfl, h1, h2⟩ := h.form
  refine ⟨⟨a, c, rfl, h1, h2, fun h0 => ?_⟩, fun b off n cc e => ?_⟩
  · have hs := h.sl
    obtain ⟨x0, hx0⟩ : ∃ x0, ks[0]? = some x0 := ⟨_, List.getElem?_eq_getElem h0⟩
    obtain ⟨b, off, rfl, hb, _⟩ := hs.at 0 x0 hx0
    refine ⟨b, off, rfl, fun i hi => ?_⟩
    obtain ⟨b', off', e, _, hc⟩ := hs.at i ks[i] (List.getElem?_eq_getElem hi)
    cases e
    have := hc 0 (.bool ks[i]) rfl
    rw [show i * KB.k = i from Nat.mul_one i, Nat.add_zero] at this
    rw [this]
    simp [List.getD, hi]
  · rcases h.own.2 with ⟨e2, _⟩ | ⟨q, cap, cur, e2, _, hq, _⟩
    · rw [e2] at e; cases e
    · rw [e2] at e
      cases e
      exact ⟨_, _, _, hq, by unfold Dt; decide⟩
theorem Sl.bl {w : World} {v : Value} {ks : List Bool} (h : Sl KB w v ks) : Bl w v ks := by
  obtain ⟨a, c, rfl, h1, h2, h3⟩ := h
  refine ⟨a, c, rfl, h1, h2, fun h0 => ?_⟩
  obtain ⟨b, off, rfl, hb, hc⟩ := h3 h0
  refine ⟨b, off, rfl, fun i hi => ?_⟩
  have := hc i ks[i] (List.getElem?_eq_getElem hi) 0 (.bool ks[i]) rfl
  rw [show i * KB.k = i from Nat.mul_one i, Nat.add_zero] at this
  rw [this]
  simp [List.getD, hi]
/-- append(l, m...) in a drawn region -/
theorem appSd {α : Type} {K : Kd α} {w : World} {y : Nat → Option Bool} {o : Oper} {a : Act} {Q : Exit → Act → World → Prop} {KK : Act → World → Prop} {k0 : Prop} (hgd : Region.wanted o y = true) (d0 : Option Tmp) (hd0 : o.dst = d0) (s x : Operand)
    (ho : o.op = .call { callee := .builtin .append, args := #[s, x], argTypes := #[K.S, K.S] })
    (B : Nat) (xs ys : List α) (v u : Value) (hs : a.eval s = v) (hx : a.eval x = u)
    (hown : Own K w B v xs) (hu : Sl K w u ys) (hno : ∀ n c, u = .slice none n c → c = 0) (hB : B ≤ w.heap.size) (hl : (xs.length + ys.length) * K.bt ≤ 140737488355328) (hl2 : xs.length + ys.length ≤ 140737488355328)
    (h : ∀ v' w', Own K w' B v' (xs ++ ys) → Below B w w' → w.grownBy w' v.ownBlock → KK (a.put d0 v') w') :
    if Region.wanted o y then o.wp Tryz.prog a w KK Q else k0 := by
  subst hd0
  obtain ⟨ad, c, rfl, h1, h2, h4⟩ := hu
  by_cases h0 : ys = []
  · subst h0
    cases ad with
    | none =>
      obtain rfl : c = 0 := hno _ _ rfl
      obtain ⟨i0, z, hi, hz0, hz1, hz2, hz3⟩ := K.info
      rw [if_pos hgd]
      have hrun := run_append_owned_none (P := Tryz.prog) (w := w) B K.S o.type K.T i0 K.k K.und hi v xs.length (K.cells xs) hown.own
      have hx' : a.eval x = .slice none 0 0 := hx
      unfold Oper.wp
      simp [execOp, ho, resolve, invoke, builtin, hs, hx', hrun, Result.andThen]
      exact h v w (by simpa using hown) (Below.refl _ _) (World.grownBy.refl _ _)
    | some ad =>
      exact appK hgd s x ho B xs [] v ad c hs hx hown (fun j u hj => by simp [Kd.cells] at hj) hB hl hl2 (fun v' w' p q r => h v' w' p q r)
  · have hp : 0 < ys.length := List.length_pos_iff.2 h0
    obtain ⟨b, off, rfl, hb, hcell⟩ := h4 hp
    refine appK hgd s x ho B xs ys v ⟨b, off, none⟩ c hs hx hown (fun p u hp => ?_) hB hl hl2 (fun v' w' p q r => h v' w' p q r)
    obtain ⟨i, j, y, rfl, hj, hy, hu⟩ := K.cells_inv ys p u hp
    rw [Go.WideShapes.add_plain, ← Nat.add_assoc]
    exact hcell i y hy j u hu
/-- all of a struct is stored, in a drawn region -/
theorem stAw {w : World} {y : Nat → Option Bool} {o : Oper} {a : Act} {Q : Exit → Act → World → Prop} {K : Act → World → Prop} {k0 : Prop} (hgd : Region.wanted o y = true) (t : TypeId) (x z : Operand) (ho : o.op = .store t x z)
    (p : Nat) (hx : a.eval x = .pointer (some ⟨p, 0, none⟩)) (cs ds : List Value) (hy : a.eval z = .agg ds.toArray) (T : TypeId) (h : VA w p cs T) (hi : (Tryz.prog.info? t).map (·.size) = some ds.length) (hl : cs.length = ds.length) (h1 : ∀ v ∈ ds, v.oneCell' = true)
    (k : ∀ w', VA w' p ds T → Upd p w w' → K (a.put o.dst undef) w') : if Region.wanted o y = true then o.wp Tryz.prog a w K Q else k0 := by
  rw [if_pos hgd]
  have hrun := run_storeVar_row (P := Tryz.prog) w p T t cs.toArray ds.toArray h.blk (by simpa using hi) (by simpa using hl) (Array.all_eq_true_iff_forall_mem.2 (fun v hv => h1 v (by simpa using hv)))
  unfold Oper.wp execOp
  simp only [ho, hx, hy, Instr.storeAt, Instr.sureAddr, Sem.run_bind, Sem.run_pure, Result.andThen_ok, hrun]
  exact k _ ⟨setRow_heap w p _ _ _ _ h.blk⟩ (upd_setRow w p _)
theorem stAn {w : World} {y : Nat → Option Bool} {o : Oper} {a : Act} {Q : Exit → Act → World → Prop} {K : Act → World → Prop} {k0 : Prop} (hgd : Region.wanted o y = true) (hd : o.dst = none) (t : TypeId) (x z : Operand) (ho : o.op = .store t x z)
    (p : Nat) (hx : a.eval x = .pointer (some ⟨p, 0, none⟩)) (cs ds : List Value) (hy : a.eval z = .agg ds.toArray) (T : TypeId) (h : VA w p cs T) (hi : (Tryz.prog.info? t).map (·.size) = some ds.length) (hl : cs.length = ds.length) (h1 : ∀ v ∈ ds, v.oneCell' = true)
    (k : ∀ w', VA w' p ds T → Upd p w w' → K a w') : if Region.wanted o y = true then o.wp Tryz.prog a w K Q else k0 := by
  refine stAw hgd t x z ho p hx cs ds hy T h hi hl h1 (fun w' v u => ?_)
  rw [hd]
  exact k w' v u
end Go.Proofs.YtkmdegmpffgplaaGreatDoor
/- Slices that come in, whatever their elements: opened once for all; bytes, truth values. -/
namespace Go.Proofs.YtkmdegmpffgplaaGreatDoor
open Go.ChangeShapes Go.WideShapes Go.ChangeAt Go.RowKit pk
set_option linter.unusedVariables false

theorem wAll_mem {H : Type} (e : TypeId) : ∀ (l : List (DataW H)) (d : DataW H), d ∈ l → ∀ n ∈ d.weights Tryz.prog e, n ∈ DataW.weightsAll Tryz.prog e l
  | [], d, h, _, _ => by cases h
  | x :: r, d, h, n, hn => by
    unfold DataW.weightsAll
    rcases List.mem_cons.1 h with rfl | h
    · exact List.mem_append_left _ hn
    · exact List.mem_append_right _ (wAll_mem e r d h n hn)
theorem w_slice {H : Type} {S T : TypeId} (hu : Tryz.prog.underlying S = some (.slice T)) {el sp : List (DataW H)} {R : Nat} (h : ∀ n ∈ DataW.weights Tryz.prog S (.slice el sp), n ≤ R) :
    (el.length + sp.length) * Tryz.prog.bytesOf T ≤ R ∧ ∀ (i : Nat) d, el[i]? = some d → ∀ n ∈ DataW.weights Tryz.prog T d, n ≤ R := by
  unfold DataW.weights at h
  rw [hu] at h
  exact ⟨h _ (List.mem_cons_self ..), fun i d hi n hn => h n (List.mem_cons_of_mem _ (List.mem_append_left _ (wAll_mem _ _ _ (List.mem_of_getElem? hi) n hn)))⟩
/-- a slice of elements, each of which can be opened -/
theorem came_rows {α H : Type} [Inhabited α] {enc : TypeId × Value → H} {W : World} (K : Kd α) (hk : Tryz.prog.cellsOf K.T = K.k) (Pr : α → DataW H → Prop)
    (ho : ∀ fuel cs x, DataW.trod enc Tryz.prog W 0 (fun _ => true) true fuel K.T cs = some x → ∃ y, cs = K.enc y ∧ Pr y x.1)
    {fuel : Nat} {cs : List Value} {x : DataW H × List MemPlace} (h : DataW.trod enc Tryz.prog W 0 (fun _ => true) true fuel K.S cs = some x) :
    ∃ v ys, cs = [v] ∧ Sl K W v ys ∧ (∀ n c, v = .slice none n c → c = 0) ∧ ((x.1 = .nil ∧ ys = []) ∨ ∃ el sp, x.1 = .slice el sp ∧ el.length = ys.length ∧ ∀ (i : Nat) y, ys[i]? = some y → ∃ d, el[i]? = some d ∧ Pr y d) := by
  rcases DataW.trod_slice K.und h with ⟨hcs, hx⟩ | ⟨a', len, cap, elems, rest, n, _, hcs, hxx, _, hl, hm, hlen, hel, _, _⟩
  · exact ⟨_, [], hcs, ⟨none, 0, rfl, by simp, by omega, fun h => by simp at h⟩, (fun n c e => by cases e; rfl), Or.inl ⟨by rw [hx], rfl⟩⟩
  · have each : ∀ i, ∃ y : α, i < len → (∀ j u, (K.enc y)[j]? = some u → W.cell? ((a'.add (i * K.k)).add j) = some u) ∧ ∃ d, (elems.map (·.1))[i]? = some d ∧ Pr y d := by
      intro i
      by_cases hi : i < len
      · have h1 := hel i hi
        rw [List.getElem?_eq_getElem (by omega), hk, Option.bind_eq_some_iff] at h1
        obtain ⟨cs', hcs', ht⟩ := h1
        obtain ⟨y, e, hp⟩ := ho _ _ _ ht
        obtain ⟨hcl, _, hc⟩ := World.cells?_some hcs'
        refine ⟨y, fun _ => ⟨fun j u hj => ?_, _, by rw [List.getElem?_map, List.getElem?_eq_getElem (by omega)]; rfl, hp⟩⟩
        have hj' : j < K.k := by
          have := (List.getElem?_eq_some_iff.1 hj).1
          rw [K.len] at this
          exact this
        rw [hc j (by omega), e]
        exact hj
      · exact ⟨default, fun h => absurd h hi⟩
    obtain ⟨f, hf⟩ := Classical.skolem.1 each
    have hl2 : ((List.range len).map f).length = len := by simp
    refine ⟨_, (List.range len).map f, hcs, ⟨some a', cap, by rw [hl2], by omega, by unfold maxLen at hm; omega, fun h0 => ?_⟩, (fun n c e => by cases e), Or.inr ⟨_, _, by rw [hxx], by rw [hl2, List.length_map]; exact hlen, fun i y hy => ?_⟩⟩
    · rw [hl2] at h0
      obtain ⟨b, off, spot⟩ := a'
      obtain ⟨u0, hu0⟩ : ∃ u0, (K.enc (f 0))[0]? = some u0 := ⟨_, List.getElem?_eq_getElem (by rw [K.len]; exact K.pos)⟩
      have hc0 := (hf 0 h0).1 0 u0 hu0
      have hspot : spot = none := by simpa [Addr.add] using World.cell?_spot hc0
      subst hspot
      refine ⟨b, off, rfl, ?_, fun i y hy j u hu => ?_⟩
      · rw [add_plain, add_plain] at hc0
        exact World.block_lt_of_cell? W _ hc0
      · have hi : i < len := by
          have := (List.getElem?_eq_some_iff.1 hy).1
          rwa [hl2] at this
        have e : y = f i := by
          rw [List.getElem?_map, List.getElem?_range hi] at hy
          simpa using hy.symm
        subst e
        have h1 := (hf i hi).1 j u hu
        rw [add_plain, add_plain] at h1
        exact h1
    · have hi : i < len := by
        have := (List.getElem?_eq_some_iff.1 hy).1
        rwa [hl2] at this
      have e : y = f i := by
        rw [List.getElem?_map, List.getElem?_range hi] at hy
        simpa using hy.symm
      subst e
      exact (hf i hi).2
theorem infoU8 : (Tryz.prog.info? 5).map (fun i => (i.zero.map (fun z => z.cells.size), i.size, i.bytes)) = some (some 1, 1, 1) := by kernel_rfl
/-- bytes as elements -/
def KU : Kd Nat where
  T := 5
  S := 22
  k := 1
  bt := 1
  enc := fun b => [.int .u8 (b : Int)]
  info := by
    obtain ⟨i, hi, hz⟩ := Option.map_eq_some_iff.1 infoU8
    simp only [Prod.mk.injEq] at hz
    obtain ⟨z, hz0, hz1⟩ := Option.map_eq_some_iff.1 hz.1
    exact ⟨i, z, hi, hz0, hz.2.1, hz.2.2, hz1⟩
  und := Tryz.underlying22
  pos := by decide
  len := fun _ => rfl
  one := fun x v h => by simp at h; rw [h]; rfl
theorem Sl.bs {w : World} {v : Value} {bs : List Nat} (h : Sl KU w v bs) (hb : By bs) (hno : ∀ n c, v = .slice none n c → c = 0) : Bs w v bs := by
  obtain ⟨a, c, rfl, h1, h2, h3⟩ := h
  refine ⟨hb, a, c, rfl, h1, h2, fun e => ?_, fun h0 => ?_⟩
  · subst e
    exact hno _ _ rfl
  · obtain ⟨b, off, rfl, hlt, hc⟩ := h3 h0
    refine ⟨b, off, rfl, hlt, fun k hk => ?_⟩
    have := hc k bs[k] (List.getElem?_eq_getElem hk) 0 (.int .u8 ((bs[k] : Nat) : Int)) rfl
    rw [show k * KU.k = k from Nat.mul_one k, Nat.add_zero] at this
    rw [this]
    simp [bt, List.getD, hk]
theorem came_bytes {H : Type} {enc : TypeId × Value → H} {W : World} {fuel : Nat} {cs : List Value} {x : DataW H × List MemPlace} (h : DataW.trod enc Tryz.prog W 0 (fun _ => true) true fuel 22 cs = some x) :
    ∃ v bs, cs = [v] ∧ Bs W v bs ∧ ∀ R : Nat, (∀ n ∈ DataW.weights Tryz.prog 22 x.1, n ≤ R) → bs.length ≤ R := by
  obtain ⟨v, bs, hcs, hs, hno, hw⟩ := came_rows KU (by kernel_rfl) (fun b _ => b < 256) (fun fuel cs x h => by
    obtain ⟨n, e, _, hwf⟩ := DataW.trod_int Tryz.underlying5 h
    have hb : 0 ≤ n ∧ n ≤ 255 := by simpa [Lit.wf, IntKind.min, IntKind.max, IntKind.signed, IntKind.bits] using hwf
    refine ⟨n.toNat, ?_, by omega⟩
    rw [e]
    show [Value.int .u8 n] = [Value.int .u8 ((n.toNat : Nat) : Int)]
    rw [show ((n.toNat : Nat) : Int) = n by omega]) h
  refine ⟨v, bs, hcs, hs.bs (fun b hb => ?_) hno, fun R hR => ?_⟩
  · rcases hw with ⟨_, rfl⟩ | ⟨el, sp, _, _, h3⟩
    · cases hb
    · obtain ⟨i, hi⟩ := List.getElem?_of_mem hb
      obtain ⟨d, _, hd⟩ := h3 i b hi
      exact hd
  · rcases hw with ⟨_, rfl⟩ | ⟨el, sp, h1, h2, _⟩
    · simp
    · rw [h1] at hR
      have h4 := (w_slice Tryz.underlying22 hR).1
      rw [show Tryz.prog.bytesOf 5 = 1 by kernel_rfl] at h4
      omega
end Go.Proofs.YtkmdegmpffgplaaGreatDoor
/- disk XXXV: what comes in: fates, scripts of calls, opened. -/
namespace Go.Proofs.YtkmdegmpffgplaaGreatDoor
open Go.ChangeShapes Go.WideShapes Go.ChangeAt Go.RowKit pk
set_option linter.unusedVariables false

theorem came_bools {H : Type} {enc : TypeId × Value → H} {W : World} {fuel : Nat} {cs : List Value} {x : DataW H × List MemPlace} (h : DataW.trod enc Tryz.prog W 0 (fun _ => true) true fuel 59 cs = some x) :
    ∃ a ks c, cs = [.slice a ks.length c] ∧ Bl W (.slice a ks.length c) ks ∧ (a = none → c = 0) ∧ ∀ R : Nat, (∀ n ∈ DataW.weights Tryz.prog 59 x.1, n ≤ R) → ks.length ≤ R := by
  obtain ⟨v, ks, hcs, hs, hno, hw⟩ := came_rows KB (by kernel_rfl) (fun _ _ => True) (fun fuel cs x h => by
    obtain ⟨b, e, _⟩ := DataW.trod_bool Tryz.underlying4 h
    exact ⟨b, e, trivial⟩) h
  have hbl := hs.bl
  obtain ⟨a, c, rfl, _⟩ := hs
  refine ⟨a, ks, c, hcs, hbl, fun e => hno _ _ (by rw [e]), fun R hR => ?_⟩
  rcases hw with ⟨_, rfl⟩ | ⟨el, sp, h1, h2, _⟩
  · simp
  · rw [h1] at hR
    have h4 := (w_slice Tryz.underlying59 hR).1
    rw [show Tryz.prog.bytesOf 4 = 1 by kernel_rfl] at h4
    omega

set_option maxRecDepth 100000 in
theorem came_fate {H : Type} {enc : TypeId × Value → H} {W : World} {fuel : Nat} {cs : List Value} {x : DataW H × List MemPlace} (h : DataW.trod enc Tryz.prog W 0 (fun _ => true) true fuel 61 cs = some x) :
    ∃ dn a ks c, cs = [.bool dn, .slice a ks.length c] ∧ Bl W (.slice a ks.length c) ks ∧ (a = none → c = 0) ∧ ∀ R : Nat, (∀ n ∈ DataW.weights Tryz.prog 61 x.1, n ≤ R) → ks.length ≤ R := by
  obtain ⟨xs, n, _, hx, hl, hlen, hf⟩ := DataW.trod_struct Tryz.underlying61 h
  rw [show Tryz.prog.cellsOf 61 = 2 by kernel_rfl] at hl
  match cs, hl with
  | [c0, c1], _ =>
    match xs, hlen with
    | [y0, y1], _ =>
      have h0 : DataW.trod enc Tryz.prog W 0 (fun _ => true) true n 4 (([c0, c1].drop 0).take (Tryz.prog.cellsOf 4)) = some y0 := hf 0 _ rfl
      have h1 : DataW.trod enc Tryz.prog W 0 (fun _ => true) true n 59 (([c0, c1].drop 1).take (Tryz.prog.cellsOf 59)) = some y1 := hf 1 _ rfl
      rw [show Tryz.prog.cellsOf 4 = 1 by kernel_rfl] at h0
      rw [show Tryz.prog.cellsOf 59 = 1 by kernel_rfl] at h1
      obtain ⟨b, e0, _⟩ := DataW.trod_bool Tryz.underlying4 h0
      obtain ⟨a, ks, c, e1, hb, hno, hw⟩ := came_bools h1
      simp at e0 e1
      refine ⟨b, a, ks, c, by rw [e0, e1], hb, hno, fun R hR => hw R (fun m hm => hR m ?_)⟩
      rw [hx]
      simp [DataW.weights, Tryz.underlying61, DataW.weightsEach, hm]
/-- a call of a script -/
structure OpD where
  k : Nat
  a : ByteArray
  b : ByteArray
  pa : Option Addr
  pc : Nat
  bs : List Nat
  n : Int
  dn : Bool
  ka : Option Addr
  kc : Nat
  ks : List Bool
def OpD.cells (o : OpD) : List Value := [.int .u8 (o.k : Int), .string o.a, .string o.b, .slice o.pa o.bs.length o.pc, .int .i64 o.n, .bool o.dn, .slice o.ka o.ks.length o.kc]
structure OpIn (W : World) (o : OpD) : Prop where
  k : o.k < 256
  p : Bs W (.slice o.pa o.bs.length o.pc) o.bs
  f : Bl W (.slice o.ka o.ks.length o.kc) o.ks
  no : o.ka = none → o.kc = 0
  n : -9223372036854775808 ≤ o.n ∧ o.n ≤ 9223372036854775807
def OpSz (R : Nat) (o : OpD) : Prop := o.bs.length ≤ R ∧ o.ks.length ≤ R ∧ o.a.size ≤ R ∧ o.b.size ≤ R
end Go.Proofs.YtkmdegmpffgplaaGreatDoor
