/- For every number, all bytes twice and every byte, the law PackBack of passbooklaw07 answers true, and its arguments read as they did: what Uint, Int and Bytes of package pack write is read again by ReadUint, ReadInt and ReadBytes, whatever stands behind, and what is cut off is refused. Conditions: none. -/
import Derived.Test.YtnchmflbhcdngaaRows
import Derived.WalkKit
import Derived.ProofKit
import Derived.OpenShut
import Derived.SizedLaws
import Derived.Test.YtnchmflbhcdngaaAi
namespace Go.Proofs.Ytnchmflbhcdngaa.packBack
open Go.ChangeShapes Go.WideShapes Go.ChangeAt Go.RowKit
set_option linter.unusedVariables false

theorem own : ownKnob Try.prog.godebug = none := by kernel_rfl
theorem laidOut : laidOutB Try.prog = true := by kernel_rfl
theorem cells8 : Try.prog.cellsOf 5 = 1 := by kernel_rfl
theorem came_of {H : Type} {enc : TypeId × Value → H} {W : World} {fuel : Nat} {a : Option Addr} {len cap : Nat} {d : DataW H} {p : List MemPlace} (h : DataW.trod enc Try.prog W 0 (fun _ => true) true fuel 22 (Value.slice a len cap).cells.toList = some (d, p)) :
    ∃ bs, Bs W (.slice a len cap) bs ∧ ((d = .nil ∧ bs = []) ∨ ∃ el sp, d = .slice el sp ∧ el.length = bs.length) := by
  rcases open_ints Try.underlying22 Try.underlying5 cells8 h with ⟨hcs, hx⟩ | ⟨a', len', cap', zs, hcs, _, hl, hm, hz, hx, hcell, hwz⟩
  · simp [Value.cells] at hcs
    obtain ⟨rfl, rfl, rfl⟩ := hcs
    simp at hx
    exact ⟨[], bs_nil W, Or.inl ⟨hx.1, rfl⟩⟩
  · simp [Value.cells] at hcs
    obtain ⟨rfl, rfl, rfl⟩ := hcs
    simp only [if_true] at hz
    simp only [Prod.mk.injEq] at hx
    have hby : ∀ z ∈ zs, 0 ≤ z ∧ z ≤ 255 := fun z hz => by simpa [Lit.wf, IntKind.min, IntKind.max, IntKind.signed, IntKind.bits] using hwz z hz
    have hlen : ((zs.take len).map Int.toNat).length = len := by simp; omega
    refine ⟨(zs.take len).map Int.toNat, ⟨fun x hx => ?_, some a', cap, by rw [hlen], by rw [hlen]; exact hl, by unfold maxLen at hm; omega, fun h => (by cases h), fun h0 => ?_⟩, Or.inr ⟨_, _, hx.1, by simp [lits]⟩⟩
    · obtain ⟨z, hz1, rfl⟩ := List.mem_map.1 hx
      have := hby z (List.mem_of_mem_take hz1)
      omega
    · rw [hlen] at h0 ⊢
      obtain ⟨b, off, spot⟩ := a'
      have hspot : spot = none := by simpa [Addr.add] using World.cell?_spot (hcell 0 (by omega))
      subst hspot
      have hc : ∀ k, k < len → W.cell? ⟨b, off + k, none⟩ = some (.int .u8 (zs.getD k 0)) := fun k hk => by rw [← add_plain]; exact hcell k (by omega)
      have hb : b < W.heap.size := by
        have h0 := hc 0 (by omega)
        unfold World.cell? at h0
        cases hh : W.heap[b]? with
        | none => simp [hh] at h0
        | some o => exact (Array.getElem?_eq_some_iff.1 hh).1
      refine ⟨b, off, rfl, hb, fun k hk => ?_⟩
      rw [hc k hk]
      have hk2 : k < zs.length := by omega
      have hz1 := hby (zs.getD k 0) (by simp [hk2])
      congr 2
      unfold bt
      simp [List.getD, hk, hk2] at hz1 ⊢
      omega
set_option maxRecDepth 100000 in
theorem lifted (os : Os) (started : os.Started) (H : Type) (enc : TypeId × Value → H) :
    ReturnsInHanded {} Try.checked os 5 .any (Rows.packBackSpec.pre6 enc Try.prog Try.f5 Rows.packBackRow.domain false) (Rows.packBackSpec.post enc Try.prog Try.f5 false true false false) := by
  refine returnsInHanded_of_change_sized (C := Try.checked) own started (by kernel_rfl) Try.func5
    (ChangeSpec.witness6 (enc := enc) (C := Try.checked) false ⟨#[], #[.int .u64 0, .slice none 0 0, .slice none 0 0, .int .u8 0], []⟩ 8 (by kernel_rfl) (by kernel_rfl) (by kernel_rfl) (by kernel_rfl)) ?_
  intro W base args ds gs before hval0 hW hcnd hz0 _
  have hval : ∀ (j : Nat) t v, Try.f5.params[j]? = some t → args[j]? = some v → Value.okWide Try.prog W .any base t v := hval0
  have hz : (DataW.weightsEach Try.prog (Try.f5.params.toList ++ Rows.packBackSpec.plain.varTypes Try.prog) (ds ++ gs)).all (· ≤ reachBytes) = true := hz0
  have hW' := hW
  obtain ⟨p, q, hA0, hV, rfl, hfz, hnd⟩ := hW
  have hA : DataW.TrodAll enc Try.prog W 0 (fun _ => true) true Try.f5.params.toList args.toList ds p := hA0
  rw [Try.params5] at hA hval
  obtain ⟨v0, vs0, d0, ds0, p0, q0, hargs, rfl, rfl, hr0, r0⟩ := trodAll_cons hA
  obtain ⟨v1, vs1, d1, ds1, p1, q1, rfl, rfl, rfl, hr1, r1⟩ := trodAll_cons r0
  obtain ⟨v2, vs2, d2, ds2, p2, q2, rfl, rfl, rfl, hr2, r2⟩ := trodAll_cons r1
  obtain ⟨v3, vs3, d3, ds3, p3, q3, rfl, rfl, rfl, hr3, r3⟩ := trodAll_cons r2
  obtain ⟨rfl, rfl, rfl⟩ := trodAll_nil r3
  obtain rfl : args = #[v0, v1, v2, v3] := by cases args; simp_all
  obtain ⟨rfl, rfl⟩ := trodVars_none hV
  obtain ⟨a0, rfl, rfl, rfl, w0⟩ := open_int Try.underlying23 (hval 0 23 v0 rfl rfl) hr0
  obtain ⟨b1, len1, cap1, rfl⟩ := okWide_slice Try.underlying22 (hval 1 22 v1 rfl rfl)
  have hk1 := hr1
  obtain ⟨fuel1, hf1⟩ := hr1
  obtain ⟨bs1, B1, hw1⟩ := came_of hf1
  have L1 : bs1.length ≤ 140737488351232 := by
    rcases hw1 with ⟨_, e⟩ | ⟨el, sp, e, hel⟩
    · rw [e]; simp
    · have h1 := sized_slice (j := 1) (t := 22) (e := 5) (elems := el) (spare := sp) hz (by rw [Try.params5]; rfl) (by subst e; rfl) Try.underlying22
      rw [show Try.prog.bytesOf 5 = 1 by kernel_rfl, show reachBytes = 140737488351232 by decide] at h1
      omega
  obtain ⟨b2, len2, cap2, rfl⟩ := okWide_slice Try.underlying22 (hval 2 22 v2 rfl rfl)
  have hk2 := hr2
  obtain ⟨fuel2, hf2⟩ := hr2
  obtain ⟨bs2, B2, hw2⟩ := came_of hf2
  have L2 : bs2.length ≤ 140737488351232 := by
    rcases hw2 with ⟨_, e⟩ | ⟨el, sp, e, hel⟩
    · rw [e]; simp
    · have h1 := sized_slice (j := 2) (t := 22) (e := 5) (elems := el) (spare := sp) hz (by rw [Try.params5]; rfl) (by subst e; rfl) Try.underlying22
      rw [show Try.prog.bytesOf 5 = 1 by kernel_rfl, show reachBytes = 140737488351232 by decide] at h1
      omega
  obtain ⟨a3, rfl, rfl, rfl, w3⟩ := open_int Try.underlying5 (hval 3 5 v3 rfl rfl) hr3
  clear hA0 hval0 hz0
  simp only [List.append_nil] at hW'
  have hlt1 : ∀ x ∈ p1, x.block < W.heap.size := fun x hx => hW'.lt x (by simp [hx])
  have hlt2 : ∀ x ∈ p2, x.block < W.heap.size := fun x hx => hW'.lt x (by simp [hx])
  have walk : Calls Try.prog 5 #[.int .u64 a0, .slice b1 len1 cap1, .slice b2 len2 cap2, .int .u8 a3] W fun e w' => e = .returned (.bool true) ∧ Below W.heap.size W w' := back_walk0 a0 a3 _ _ bs1 bs2 W B1 B2 L1 L2 w0 w3
  refine walk.mono fun e W' ⟨he, hg⟩ => ?_
  subst he
  exact ⟨_, rfl, _, _, _, [], _, [], hW', trodAll_cons_mk (shut_bool Try.underlying4 _) trodAll_mk0, (trodAll_cons_mk (shut_int Try.underlying23 w0) (trodAll_cons_mk (Below.trod laidOut (by kernel_rfl) (of_decide_eq_true (by kernel_rfl)) hk1 hg hlt1) (trodAll_cons_mk (Below.trod laidOut (by kernel_rfl) (of_decide_eq_true (by kernel_rfl)) hk2 hg hlt2) (trodAll_cons_mk (shut_int Try.underlying5 w3) trodAll_mk0)))), rfl, hg.frame _, fun h => by cases h⟩
theorem over : Rows.packBackRow.holds Try.pinned (OpenSpec.ofChange Rows.packBackSpec) :=
  OpenClaim.holds_of_wide 5 Try.f5 rfl rfl rfl rfl rfl rfl rfl ⟨rfl, rfl, rfl, rfl, rfl⟩ rfl rfl rfl rfl rfl (by kernel_rfl) Try.func5 (by kernel_rfl)
    (of_decide_eq_true (by kernel_rfl)) (by unfold Func.isWrapper; first | (rw [if_pos (by decide +kernel)]; kernel_rfl) | (rw [if_neg (by decide +kernel)]; exact ⟨rfl, rfl⟩))
    (fun os started H enc _ => lifted os started H enc)
end Go.Proofs.Ytnchmflbhcdngaa.packBack
namespace Go.Proofs.Ytnchmflbhcdngaa
theorem packBack_holds : Rows.PackBackSaid := packBack.over
#print axioms packBack_holds
end Go.Proofs.Ytnchmflbhcdngaa
