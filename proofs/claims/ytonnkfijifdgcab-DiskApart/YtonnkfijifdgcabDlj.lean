/- disk XXXV: what comes in: fates, scripts of calls, opened. -/
import Derived.Test.YtonnkfijifdgcabDlh
import Derived.Test.YtonnkfijifdgcabCam
namespace Go.Proofs.Ytonnkfijifdgcab
open Go.ChangeShapes Go.WideShapes Go.ChangeAt Go.RowKit pk
set_option linter.unusedVariables false

theorem came_bools {H : Type} {enc : TypeId × Value → H} {W : World} {fuel : Nat} {cs : List Value} {x : DataW H × List MemPlace} (h : DataW.trod enc Try.prog W 0 (fun _ => true) true fuel 33 cs = some x) :
    ∃ a ks c, cs = [.slice a ks.length c] ∧ Bl W (.slice a ks.length c) ks ∧ (a = none → c = 0) ∧ ∀ R : Nat, (∀ n ∈ DataW.weights Try.prog 33 x.1, n ≤ R) → ks.length ≤ R := by
  obtain ⟨v, ks, hcs, hs, hno, hw⟩ := came_rows KB (by kernel_rfl) (fun _ _ => True) (fun fuel cs x h => by
    obtain ⟨b, e, _⟩ := DataW.trod_bool Try.underlying4 h
    exact ⟨b, e, trivial⟩) h
  have hbl := hs.bl
  obtain ⟨a, c, rfl, _⟩ := hs
  refine ⟨a, ks, c, hcs, hbl, fun e => hno _ _ (by rw [e]), fun R hR => ?_⟩
  rcases hw with ⟨_, rfl⟩ | ⟨el, sp, h1, h2, _⟩
  · simp
  · rw [h1] at hR
    have h4 := (w_slice Try.underlying33 hR).1
    rw [show Try.prog.bytesOf 4 = 1 by kernel_rfl] at h4
    omega

set_option maxRecDepth 100000 in
theorem came_fate {H : Type} {enc : TypeId × Value → H} {W : World} {fuel : Nat} {cs : List Value} {x : DataW H × List MemPlace} (h : DataW.trod enc Try.prog W 0 (fun _ => true) true fuel 35 cs = some x) :
    ∃ dn a ks c, cs = [.bool dn, .slice a ks.length c] ∧ Bl W (.slice a ks.length c) ks ∧ (a = none → c = 0) ∧ ∀ R : Nat, (∀ n ∈ DataW.weights Try.prog 35 x.1, n ≤ R) → ks.length ≤ R := by
  obtain ⟨xs, n, _, hx, hl, hlen, hf⟩ := DataW.trod_struct Try.underlying35 h
  rw [show Try.prog.cellsOf 35 = 2 by kernel_rfl] at hl
  match cs, hl with
  | [c0, c1], _ =>
    match xs, hlen with
    | [y0, y1], _ =>
      have h0 : DataW.trod enc Try.prog W 0 (fun _ => true) true n 4 (([c0, c1].drop 0).take (Try.prog.cellsOf 4)) = some y0 := hf 0 _ rfl
      have h1 : DataW.trod enc Try.prog W 0 (fun _ => true) true n 33 (([c0, c1].drop 1).take (Try.prog.cellsOf 33)) = some y1 := hf 1 _ rfl
      rw [show Try.prog.cellsOf 4 = 1 by kernel_rfl] at h0
      rw [show Try.prog.cellsOf 33 = 1 by kernel_rfl] at h1
      obtain ⟨b, e0, _⟩ := DataW.trod_bool Try.underlying4 h0
      obtain ⟨a, ks, c, e1, hb, hno, hw⟩ := came_bools h1
      simp at e0 e1
      refine ⟨b, a, ks, c, by rw [e0, e1], hb, hno, fun R hR => hw R (fun m hm => hR m ?_)⟩
      rw [hx]
      simp [DataW.weights, Try.underlying35, DataW.weightsEach, hm]
/-- a call of a script -/
structure OpD where
  k : Nat
  a : ByteArray
  b : ByteArray
  pa : Option Addr
  pc : Nat
  bs : List Nat
  n : Int
  dn : Bool
  ka : Option Addr
  kc : Nat
  ks : List Bool
def OpD.cells (o : OpD) : List Value := [.int .u8 (o.k : Int), .string o.a, .string o.b, .slice o.pa o.bs.length o.pc, .int .i64 o.n, .bool o.dn, .slice o.ka o.ks.length o.kc]
theorem infoO : (Try.prog.info? 37).map (fun i => (i.zero.map (fun z => z.cells.size), i.size, i.bytes)) = some (some 7, 7, 104) := by kernel_rfl
def KO : Kd OpD where
  T := 37
  S := 22
  k := 7
  bt := 104
  enc := OpD.cells
  info := by
    obtain ⟨i, hi, hz⟩ := Option.map_eq_some_iff.1 infoO
    simp only [Prod.mk.injEq] at hz
    obtain ⟨z, hz0, hz1⟩ := Option.map_eq_some_iff.1 hz.1
    exact ⟨i, z, hi, hz0, hz.2.1, hz.2.2, hz1⟩
  und := Try.underlying22
  pos := by decide
  len := fun _ => rfl
  one := fun x v h => by simp [OpD.cells] at h; rcases h with rfl | rfl | rfl | rfl | rfl | rfl | rfl <;> rfl
structure OpIn (W : World) (o : OpD) : Prop where
  k : o.k < 256
  p : Bs W (.slice o.pa o.bs.length o.pc) o.bs
  f : Bl W (.slice o.ka o.ks.length o.kc) o.ks
  no : o.ka = none → o.kc = 0
  n : -9223372036854775808 ≤ o.n ∧ o.n ≤ 9223372036854775807
def OpSz (R : Nat) (o : OpD) : Prop := o.bs.length ≤ R ∧ o.ks.length ≤ R ∧ o.a.size ≤ R ∧ o.b.size ≤ R
set_option maxRecDepth 100000 in
theorem came_op {H : Type} {enc : TypeId × Value → H} {W : World} {fuel : Nat} {cs : List Value} {x : DataW H × List MemPlace} (h : DataW.trod enc Try.prog W 0 (fun _ => true) true fuel 37 cs = some x) :
    ∃ o : OpD, cs = o.cells ∧ OpIn W o ∧ ∀ R : Nat, (∀ n ∈ DataW.weights Try.prog 37 x.1, n ≤ R) → OpSz R o := by
  obtain ⟨xs, n, _, hx, hl, hlen, hf⟩ := DataW.trod_struct Try.underlying37 h
  rw [show Try.prog.cellsOf 37 = 7 by kernel_rfl] at hl
  match cs, hl with
  | [c0, c1, c2, c3, c4, c5, c6], _ =>
    match xs, hlen with
    | [y0, y1, y2, y3, y4, y5], _ =>
      have h0 : DataW.trod enc Try.prog W 0 (fun _ => true) true n 5 (([c0, c1, c2, c3, c4, c5, c6].drop 0).take (Try.prog.cellsOf 5)) = some y0 := hf 0 _ rfl
      have h1 : DataW.trod enc Try.prog W 0 (fun _ => true) true n 9 (([c0, c1, c2, c3, c4, c5, c6].drop 1).take (Try.prog.cellsOf 9)) = some y1 := hf 1 _ rfl
      have h2 : DataW.trod enc Try.prog W 0 (fun _ => true) true n 9 (([c0, c1, c2, c3, c4, c5, c6].drop 2).take (Try.prog.cellsOf 9)) = some y2 := hf 2 _ rfl
      have h3 : DataW.trod enc Try.prog W 0 (fun _ => true) true n 23 (([c0, c1, c2, c3, c4, c5, c6].drop 3).take (Try.prog.cellsOf 23)) = some y3 := hf 3 _ rfl
      have h4 : DataW.trod enc Try.prog W 0 (fun _ => true) true n 3 (([c0, c1, c2, c3, c4, c5, c6].drop 4).take (Try.prog.cellsOf 3)) = some y4 := hf 4 _ rfl
      have h5 : DataW.trod enc Try.prog W 0 (fun _ => true) true n 35 (([c0, c1, c2, c3, c4, c5, c6].drop 5).take (Try.prog.cellsOf 35)) = some y5 := hf 5 _ rfl
      rw [show Try.prog.cellsOf 5 = 1 by kernel_rfl] at h0
      rw [show Try.prog.cellsOf 9 = 1 by kernel_rfl] at h1 h2
      rw [show Try.prog.cellsOf 23 = 1 by kernel_rfl] at h3
      rw [show Try.prog.cellsOf 3 = 1 by kernel_rfl] at h4
      rw [show Try.prog.cellsOf 35 = 2 by kernel_rfl] at h5
      obtain ⟨k, e0, _, w0⟩ := DataW.trod_int Try.underlying5 h0
      obtain ⟨sa, e1, x1, _⟩ := DataW.trod_string Try.underlying9 h1
      obtain ⟨sb, e2, x2, _⟩ := DataW.trod_string Try.underlying9 h2
      obtain ⟨v3, bs, e3, hb3, hw3⟩ := came_bytes h3
      obtain ⟨m, e4, _, w4⟩ := DataW.trod_int Try.underlying3 h4
      obtain ⟨dn, ka, ks, kc, e5, hb5, hn5, hw5⟩ := came_fate h5
      simp at e0 e1 e2 e3 e4 e5
      have hb0 : 0 ≤ k ∧ k ≤ 255 := by simpa [Lit.wf, IntKind.min, IntKind.max, IntKind.signed, IntKind.bits] using w0
      have hb4 : -9223372036854775808 ≤ m ∧ m ≤ 9223372036854775807 := by simpa [Lit.wf, IntKind.min, IntKind.max, IntKind.signed, IntKind.bits] using w4
      have hBs := hb3
      obtain ⟨_, pa, pc, hv3, _⟩ := hb3
      refine ⟨⟨k.toNat, sa, sb, pa, pc, bs, m, dn, ka, kc, ks⟩, ?_, ⟨by show k.toNat < 256; omega, by rw [hv3] at hBs; exact hBs, hb5, hn5, hb4⟩, fun R hR => ?_⟩
      · rw [e0, e1, e2, e3, hv3, e4, e5.1, e5.2]
        show _ = [Value.int .u8 ((k.toNat : Nat) : Int), _, _, _, _, _, _]
        rw [show ((k.toNat : Nat) : Int) = k by omega]
      · rw [hx] at hR
        have hW : DataW.weights Try.prog 37 (DataW.agg ([y0, y1, y2, y3, y4, y5].map (·.1))) = DataW.weights Try.prog 5 y0.1 ++ (DataW.weights Try.prog 9 y1.1 ++ (DataW.weights Try.prog 9 y2.1 ++ (DataW.weights Try.prog 23 y3.1 ++ (DataW.weights Try.prog 3 y4.1 ++ (DataW.weights Try.prog 35 y5.1 ++ []))))) := by
          conv => lhs; unfold DataW.weights
          rw [Try.underlying37]
          rfl
        rw [hW] at hR
        refine ⟨hw3 R (fun q hq => hR q (by simp [hq])), hw5 R (fun q hq => hR q (by simp [hq])), ?_, ?_⟩
        · have := hR sa.data.toList.length (by rw [x1]; simp [DataW.weights])
          show sa.size ≤ R
          have e : sa.data.toList.length = sa.size := by cases sa; rfl
          omega
        · have := hR sb.data.toList.length (by rw [x2]; simp [DataW.weights])
          show sb.size ≤ R
          have e : sb.data.toList.length = sb.size := by cases sb; rfl
          omega
theorem came_ops {H : Type} {enc : TypeId × Value → H} {W : World} {fuel : Nat} {a : Option Addr} {len cap R : Nat} {d : DataW H} {p : List MemPlace} (h : DataW.trod enc Try.prog W 0 (fun _ => true) true fuel 22 (Value.slice a len cap).cells.toList = some (d, p))
    (hR : ∀ n ∈ DataW.weights Try.prog 22 d, n ≤ R) : ∃ os, Sl KO W (.slice a len cap) os ∧ (∀ o ∈ os, OpIn W o ∧ OpSz R o) ∧ os.length ≤ R := by
  haveI : Inhabited OpD := ⟨⟨0, ByteArray.empty, ByteArray.empty, none, 0, [], 0, false, none, 0, []⟩⟩
  obtain ⟨v, os, hcs, hs, hno, hw⟩ := came_rows KO (by kernel_rfl) (fun o d => OpIn W o ∧ ∀ R : Nat, (∀ n ∈ DataW.weights Try.prog 37 d, n ≤ R) → OpSz R o) (fun fuel cs x h => came_op h) h
  obtain rfl : v = .slice a len cap := by simpa [Value.cells] using hcs.symm
  rcases hw with ⟨_, rfl⟩ | ⟨el, sp, h1, h2, h3⟩
  · exact ⟨[], hs, fun o ho => (by cases ho), by simp⟩
  · have h1' : d = .slice el sp := h1
    rw [h1'] at hR
    obtain ⟨h4, h5⟩ := w_slice Try.underlying22 hR
    refine ⟨os, hs, fun o ho => ?_, ?_⟩
    · obtain ⟨i, hi⟩ := List.getElem?_of_mem ho
      obtain ⟨dd, hd, hp⟩ := h3 i o hi
      exact ⟨hp.1, hp.2 R (h5 i dd hd)⟩
    · rw [show Try.prog.bytesOf 37 = 104 by kernel_rfl] at h4
      omega
end Go.Proofs.Ytonnkfijifdgcab
