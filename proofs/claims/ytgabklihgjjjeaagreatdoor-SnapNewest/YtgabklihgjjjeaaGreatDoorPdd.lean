/- snap XVII: rows of uint16 and of rows of bytes; what comes in. -/
import Derived.Test.YtgabklihgjjjeaaGreatDoorPA
import Derived.Test.YtgabklihgjjjeaaGreatDoorCam
namespace Go.Proofs.YtgabklihgjjjeaaGreatDoor
open Go.ChangeShapes Go.WideShapes Go.ChangeAt Go.RowKit pk
set_option linter.unusedVariables false
set_option linter.unusedSimpArgs false

theorem infoH : (Tryz.prog.info? 49).map (fun i => (i.zero.map (fun z => z.cells.size), i.size, i.bytes)) = some (some 1, 1, 2) := by kernel_rfl
def KH : Kd Nat where
  T := 49
  S := 47
  k := 1
  bt := 2
  enc := fun b => [.int .u16 (b : Int)]
  info := by
    obtain ⟨i, hi, hz⟩ := Option.map_eq_some_iff.1 infoH
    simp only [Prod.mk.injEq] at hz
    obtain ⟨z, hz0, hz1⟩ := Option.map_eq_some_iff.1 hz.1
    exact ⟨i, z, hi, hz0, hz.2.1, hz.2.2, hz1⟩
  und := Tryz.underlying47
  pos := by decide
  len := fun _ => rfl
  one := fun x v h => by simp at h; rw [h]; rfl
/-- a row of bytes: where it lies, its room, its bytes -/
structure TB where
  a : Option Addr
  c : Nat
  bs : List Nat
instance : Inhabited TB := ⟨⟨none, 0, []⟩⟩
theorem infoTB : (Tryz.prog.info? 22).map (fun i => (i.zero.map (fun z => z.cells.size), i.size, i.bytes)) = some (some 1, 1, 24) := by kernel_rfl
def KT : Kd TB where
  T := 22
  S := 48
  k := 1
  bt := 24
  enc := fun b => [.slice b.a b.bs.length b.c]
  info := by
    obtain ⟨i, hi, hz⟩ := Option.map_eq_some_iff.1 infoTB
    simp only [Prod.mk.injEq] at hz
    obtain ⟨z, hz0, hz1⟩ := Option.map_eq_some_iff.1 hz.1
    exact ⟨i, z, hi, hz0, hz.2.1, hz.2.2, hz1⟩
  und := Tryz.underlying48
  pos := by decide
  len := fun _ => rfl
  one := fun x v h => by simp at h; rw [h]; rfl
theorem came_us {H : Type} {enc : TypeId × Value → H} {W : World} {fuel : Nat} {a : Option Addr} {len cap : Nat} {d : DataW H} {p : List MemPlace} (h : DataW.trod enc Tryz.prog W 0 (fun _ => true) true fuel 47 (Value.slice a len cap).cells.toList = some (d, p)) :
    ∃ us, Sl KH W (.slice a len cap) us ∧ ∀ u ∈ us, u < 65536 := by
  obtain ⟨v, us, hcs, hs, hno, hw⟩ := came_rows KH (by kernel_rfl) (fun b _ => b < 65536) (fun fuel cs x h => by
    obtain ⟨n, e, _, hwf⟩ := DataW.trod_int Tryz.underlying49 h
    have hb : 0 ≤ n ∧ n ≤ 65535 := by simpa [Lit.wf, IntKind.min, IntKind.max, IntKind.signed, IntKind.bits] using hwf
    refine ⟨n.toNat, ?_, by omega⟩
    rw [e]
    show [Value.int .u16 n] = [Value.int .u16 ((n.toNat : Nat) : Int)]
    rw [show ((n.toNat : Nat) : Int) = n by omega]) h
  obtain rfl : v = .slice a len cap := by simpa [Value.cells] using hcs.symm
  refine ⟨us, hs, fun u hu => ?_⟩
  rcases hw with ⟨_, rfl⟩ | ⟨el, sp, _, _, h3⟩
  · cases hu
  · obtain ⟨i, hi⟩ := List.getElem?_of_mem hu
    obtain ⟨d, _, hd⟩ := h3 i u hi
    exact hd
theorem came_ts {H : Type} {enc : TypeId × Value → H} {W : World} {fuel : Nat} {a : Option Addr} {len cap : Nat} {d : DataW H} {p : List MemPlace} (h : DataW.trod enc Tryz.prog W 0 (fun _ => true) true fuel 48 (Value.slice a len cap).cells.toList = some (d, p)) :
    ∃ ts, Sl KT W (.slice a len cap) ts ∧ ∀ t ∈ ts, Bs W (.slice t.a t.bs.length t.c) t.bs := by
  obtain ⟨v, ts, hcs, hs, hno, hw⟩ := came_rows KT (by kernel_rfl) (fun t _ => Bs W (.slice t.a t.bs.length t.c) t.bs) (fun fuel cs x h => by
    obtain ⟨v, bs, e, hb, _⟩ := came_bytes h
    have hB := hb
    obtain ⟨_, a, c, hv, _⟩ := hb
    refine ⟨⟨a, c, bs⟩, ?_, by rw [hv] at hB; exact hB⟩
    rw [e, hv]
    rfl) h
  obtain rfl : v = .slice a len cap := by simpa [Value.cells] using hcs.symm
  refine ⟨ts, hs, fun t ht => ?_⟩
  rcases hw with ⟨_, rfl⟩ | ⟨el, sp, _, _, h3⟩
  · cases ht
  · obtain ⟨i, hi⟩ := List.getElem?_of_mem ht
    obtain ⟨d, _, hd⟩ := h3 i t hi
    exact hd
end Go.Proofs.YtgabklihgjjjeaaGreatDoor
