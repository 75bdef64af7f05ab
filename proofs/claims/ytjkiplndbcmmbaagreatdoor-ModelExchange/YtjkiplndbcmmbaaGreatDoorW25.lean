/- texts of the model: Ctd -/
import Derived.Test.YtjkiplndbcmmbaaGreatDoorW23
import Derived.Test.YtjkiplndbcmmbaaGreatDoorW17
import Derived.Test.YtjkiplndbcmmbaaGreatDoorW02
import Derived.Test.YtjkiplndbcmmbaaGreatDoorW03
import Derived.DeepKeys4
set_option linter.unusedVariables false
set_option linter.unusedSimpArgs false
set_option maxHeartbeats 16000000
set_option maxRecDepth 100000
namespace Go.Proofs.YtjkiplndbcmmbaaGreatDoor
open Tryz
open Go.RowKit Go.Maps
theorem kC : laidOutB prog = true := by kernel_rfl
theorem rW : prog.types.size = 301 := by kernel_rfl
theorem keyedA : Keyed prog 141 := Keyed.of_law (deep_law_laid kC (m := 2) (by omega) (by rw [rW]; decide) (by kernel_rfl) (by kernel_rfl))
def ka (c u : Int) : Value := .agg #[.int .i64 c, .int .i64 u]
def la (c u : Int) : Lit := .string (keyBytes [.int .i64 c, .int .i64 u])
def I6 (n : Int) : Prop := -9223372036854775808 ≤ n ∧ n ≤ 9223372036854775807
theorem vR {c u : Int} (h1 : I6 c) (h2 : I6 u) : keyOf prog 141 (ka c u) = some (la c u) := by
 have w1 : (Lit.int .i64 c).wf = true := WalkArith.wf_i64 h1
 have w2 : (Lit.int .i64 u).wf = true := WalkArith.wf_i64 h2
 have hk : prog.keyType 141 = true := by kernel_rfl
 have hf : (ka c u).formed prog 141 = true := by
  have hc : prog.cellsOf 141 = 2 := by kernel_rfl
  simp [Value.formed, ka, underlying141, hc]
 obtain ⟨n, hn⟩ : ∃ n, prog.types.size + 1 = n + 2 := by
  have : 1 ≤ prog.types.size := by rw [rW]; omega
  exact ⟨prog.types.size - 1, by omega⟩
 have hl : prog.keyLits (prog.types.size + 1) 141 [.int .i64 c, .int .i64 u] = some [.int .i64 c, .int .i64 u] := by
  rw [hn]
  have c1 : prog.cellsOf 141 = 2 := by kernel_rfl
  have c3 : prog.cellsOf 3 = 1 := by kernel_rfl
  simp [Program.keyLits, underlying141, underlying3, c1, c3, w1, w2]
 have hu := underlying141
 unfold keyOf la
 rw [hu]
 simp only [hk, hf, Bool.and_self, if_true]
 simp only [ka, Value.cells] at hl ⊢
 rw [hl]
 rfl
def Va (c u : Int) : Prop := 1 ≤ c ∧ c ≤ 8 ∧ 0 ≤ u ∧ u ≤ 3
theorem Va.c {c u : Int} (h : Va c u) : I6 c := by unfold Va at h; unfold I6; omega
theorem Va.u {c u : Int} (h : Va c u) : I6 u := by unfold Va at h; unfold I6; omega
theorem Va.key {c u : Int} (h : Va c u) : keyOf prog 141 (ka c u) = some (la c u) := vR h.c h.u
theorem qp {c u c' u' : Int} (h : Va c u) (h' : Va c' u') (e : la c u = la c' u') : c = c' ∧ u = u' := by
 have := keyedA.inj h.key (e ▸ h'.key)
 unfold ka at this
 injection this with this
 simpa only [Array.mk.injEq, List.cons.injEq, Value.int.injEq, true_and, and_true] using this
theorem uH {c u c' u' : Int} (h : Va c u) (h' : Va c' u') (n : ¬ (c = c' ∧ u = u')) : la c u ≠ la c' u' := fun e => n (qp h h' e)
theorem vL : (prog.info? 141).map (fun i => (i.zero, i.size, i.bytes)) = some (some (.agg #[.int .i64 0, .int .i64 0]), 2, 16) := by kernel_rfl
def acE (p : Int × Int) : List Value := [.int .i64 p.1, .int .i64 p.2]
def AC : Kd (Int × Int) where
 T := 141
 S := 138
 k := 2
 bt := 16
 enc := acE
 info := by
  obtain ⟨i, hi, hz⟩ := Option.map_eq_some_iff.1 vL
  simp only [Prod.mk.injEq] at hz
  exact ⟨i, _, hi, hz.1, hz.2.1, hz.2.2, rfl⟩
 und := underlying138
 pos := by decide
 len := fun x => rfl
 one := by
  intro x v hv
  simp [acE] at hv
  rcases hv with rfl | rfl <;> rfl
def acc (i : Nat) : Int × Int := (((i / 4 : Nat) : Int) + 1, ((i % 4 : Nat) : Int))
def accs (n : Nat) : List (Int × Int) := (List.range n).map acc
theorem cZ (n : Nat) : (accs n).length = n := by simp [accs]
theorem dP {n i : Nat} (h : i < n) : (accs n)[i]? = some (acc i) := by simp [accs, h]
theorem fN (n : Nat) : accs (n + 1) = accs n ++ [acc n] := by simp [accs, List.range_succ]
theorem lG {i : Nat} (h : i < 32) : Va (acc i).1 (acc i).2 := by unfold Va acc; simp only; omega
theorem jT {c u : Int} (h : Va c u) : ∃ i, i < 32 ∧ acc i = (c, u) := by
 unfold Va at h
 refine ⟨4 * (c.toNat - 1) + u.toNat, by omega, ?_⟩
 unfold acc
 rw [show (4 * (c.toNat - 1) + u.toNat) / 4 = c.toNat - 1 by omega, show (4 * (c.toNat - 1) + u.toNat) % 4 = u.toNat by omega]
 simp only [Prod.mk.injEq]
 omega
theorem ge (w : World) : Calls prog 69 #[] w fun e w' => (∃ v, e = .returned v ∧ Own AC w' w.heap.size v (accs 32)) ∧ Below w.heap.size w w' := by
 go_enter func69, ntmps69
 go_wp2_with fail
 go_loopw [1, 2] (fun l c wr => ∃ k : Nat, k ≤ 8 ∧ c = .int .i64 ((k : Int) + 1) ∧ Hid (Own AC wr w.heap.size l (accs (4 * k))) ∧ Hid (Below w.heap.size w wr)) (fun _ c _ => 9 - (intOf c).toNat)
 case atStart => exact ⟨0, by omega, rfl, jE _ _ _, Below.refl _ _⟩
 case round =>
  obtain ⟨k, hk, rfl, HO, HB⟩ := hrel
  rename_i l0
  by_cases h8 : k = 8
  ·subst h8
   go_wp2_with fail
   refine (jl _ _).mono ?_
   rintro e w1 ⟨rfl, hq⟩
   obtain rfl := hq.symm
   rw [jb (by omega)]
   go_wp2_with fail
   go_ret
   exact ⟨⟨_, rfl, HO.out⟩, HB.out⟩
  have hk' : k < 8 := by omega
  go_wp2_with fail
  refine (jl _ _).mono ?_
  rintro e w1 ⟨rfl, hq⟩
  obtain rfl := hq.symm
  rw [br (by omega) (by omega)]
  go_wp2_with fail
  go_loopw [1, 3] (fun l u wr => ∃ m : Nat, m ≤ 4 ∧ u = .int .i64 (m : Int) ∧ Hid (Own AC wr w.heap.size l (accs (4 * k + m))) ∧ Hid (Below w.heap.size w wr)) (fun _ u _ => 4 - (intOf u).toNat)
  case atStart => exact ⟨0, by omega, rfl, HO.out, HB.out⟩
  case round =>
   obtain ⟨m, hm, rfl, HO1, HB1⟩ := hrel
   by_cases h4 : m = 4
   ·subst h4
    go_wp2_with fail
    refine (jh _ _).mono ?_
    rintro e w2 ⟨rfl, b2⟩
    rw [jb (by omega)]
    go_wp2_with fail
    refine ⟨⟨k + 1, by omega, by go_num, ?_, HB1.out.trans (b2.mono HB1.out.size)⟩, by simp [intOf]; omega⟩
    rw [show 4 * (k + 1) = 4 * k + 4 by omega]
    exact HO1.out.step b2
   have hm' : m < 4 := by omega
   go_wp2_with fail
   refine (jh _ _).mono ?_
   rintro e w2 ⟨rfl, b2⟩
   rw [br (by omega) (by omega)]
   have HO2 := hI_ (HO1.out.step b2)
   have HB2 := hI_ (HB1.out.trans (b2.mono HB1.out.size))
   clear b2 HO1 HB1
   have hac : acc (4 * k + m) = ((k : Int) + 1, (m : Int)) := by
    unfold acc
    rw [show (4 * k + m) / 4 = k by omega, show (4 * k + m) % 4 = m by omega]
   have HAC := hI_ hac
   clear hac
   go_wp2_with (at_builtin; refine pj (K := AC) rfl _ _ rfl w.heap.size (accs (4 * k + m)) _ ((k : Int) + 1, (m : Int)) (by rfl) (by rfl) HO2.out HB2.out.size (by rw [cZ]; show (4 * k + m + 1) * 16 ≤ _; omega) (by rw [cZ]; omega) _ rfl ?_; intro v3 w3 o3 b3)
   refine ⟨⟨m + 1, by omega, by go_num, ?_, ?_⟩, by simp [intOf]; omega⟩
   ·rw [← Nat.add_assoc, fN, HAC.out]
    exact o3
   ·exact HB2.out.trans b3
end Go.Proofs.YtjkiplndbcmmbaaGreatDoor