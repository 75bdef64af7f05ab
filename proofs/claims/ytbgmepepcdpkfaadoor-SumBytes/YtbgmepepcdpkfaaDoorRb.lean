/- sum: the document's Chain, given its Sha. -/
import Derived.Test.YtbgmepepcdpkfaaDoorRa
namespace Go.Proofs.YtbgmepepcdpkfaaDoor
open Go.RowKit
set_option linter.unusedVariables false

/-- the document's Sha, as it is to be shown -/
def RSha : Prop := ∀ (v : Value) (bs : List Nat) (w : World), Bs w v bs → bs.length ≤ 140737488355100 →
    Calls Tryd.prog 12 #[v] w fun e w' => e = .returned (.agg (cl (sha bs)).toArray) ∧ Below w.heap.size w w'
theorem info32 : (Tryd.prog.info? 23).map (·.size) = some 32 := by kernel_rfl
theorem sha_cl (bs : List Nat) : (cl (sha bs)).length = 32 := by rw [cl_len]; unfold sha; exact ob_len _ _
/-- a[k] of an array of bytes by value -/
theorem idx32 (xs : List Nat) (hx : xs.length = 32) (k : Nat) (hk : k < 32) (w : World) : (Instr.index 23 (.agg (cl xs).toArray) (.int .i64 (k : Int))).run Tryd.prog w = .ok (.int .u8 ((xs.getD k 0 : Nat) : Int)) w := by
  have h1 : (0 : Int) ≤ (k : Int) ∧ (k : Int) < 32 := by omega
  have hl : k < xs.length := by omega
  simp [Instr.index, run_underlying Tryd.underlying23, asIntOf, h1, go_sem]
  rw [if_pos hk, cl_get xs k hl]
  simp [bt]
set_option maxHeartbeats 1000000 in
set_option maxRecDepth 100000 in
theorem rchain_of (hS : RSha) (xs : List Nat) (v : Value) (bs : List Nat) (w : World) (hx : xs.length = 32) (hby : By xs) (h : Bs w v bs) (hl : bs.length ≤ 140737488355000) :
    Calls Tryd.prog 14 #[.agg (cl xs).toArray, v] w fun e w' => e = .returned (.agg (cl (sha (xs ++ bs))).toArray) ∧ Below w.heap.size w w' := by
  have D := ((Below.refl w.heap.size w).alloc (Nat.le_refl _) (.cells (cl xs).toArray 23)).alloc (by simp) (.cells [Value.int .u8 0, Value.int .u8 0, Value.int .u8 0, Value.int .u8 0, Value.int .u8 0, Value.int .u8 0, Value.int .u8 0, Value.int .u8 0, Value.int .u8 0, Value.int .u8 0, Value.int .u8 0, Value.int .u8 0, Value.int .u8 0, Value.int .u8 0, Value.int .u8 0, Value.int .u8 0, Value.int .u8 0, Value.int .u8 0, Value.int .u8 0, Value.int .u8 0, Value.int .u8 0, Value.int .u8 0, Value.int .u8 0, Value.int .u8 0, Value.int .u8 0, Value.int .u8 0, Value.int .u8 0, Value.int .u8 0, Value.int .u8 0, Value.int .u8 0, Value.int .u8 0, Value.int .u8 0].toArray 23)
  have A := (va_new w (cl xs) 23).alloc (.cells [Value.int .u8 0, Value.int .u8 0, Value.int .u8 0, Value.int .u8 0, Value.int .u8 0, Value.int .u8 0, Value.int .u8 0, Value.int .u8 0, Value.int .u8 0, Value.int .u8 0, Value.int .u8 0, Value.int .u8 0, Value.int .u8 0, Value.int .u8 0, Value.int .u8 0, Value.int .u8 0, Value.int .u8 0, Value.int .u8 0, Value.int .u8 0, Value.int .u8 0, Value.int .u8 0, Value.int .u8 0, Value.int .u8 0, Value.int .u8 0, Value.int .u8 0, Value.int .u8 0, Value.int .u8 0, Value.int .u8 0, Value.int .u8 0, Value.int .u8 0, Value.int .u8 0, Value.int .u8 0].toArray 23)
  have B := va_new (w.alloc (.cells (cl xs).toArray 23)) ([Value.int .u8 0, Value.int .u8 0, Value.int .u8 0, Value.int .u8 0, Value.int .u8 0, Value.int .u8 0, Value.int .u8 0, Value.int .u8 0, Value.int .u8 0, Value.int .u8 0, Value.int .u8 0, Value.int .u8 0, Value.int .u8 0, Value.int .u8 0, Value.int .u8 0, Value.int .u8 0, Value.int .u8 0, Value.int .u8 0, Value.int .u8 0, Value.int .u8 0, Value.int .u8 0, Value.int .u8 0, Value.int .u8 0, Value.int .u8 0, Value.int .u8 0, Value.int .u8 0, Value.int .u8 0, Value.int .u8 0, Value.int .u8 0, Value.int .u8 0, Value.int .u8 0, Value.int .u8 0]) 23
  rw [World.size_alloc] at B
  have HD := (show Hid _ from D)
  have HA := (show Hid _ from A)
  have HBB := (show Hid _ from B)
  have HV := (show Hid _ from h)
  have HS := (show Hid _ from hS)
  have HY := (show Hid _ from hby)
  have HX := (show Hid _ from hx)
  have L32 : Hid ((cl xs).length = 32) := by show _ = _; rw [cl_len]; exact hx
  clear D A B h hS hby hx
  go_enter Tryd.func14, Tryd.ntmps14
  go_wp2_with (refine ldA rfl 23 _ rfl w.heap.size (by rfl) _ _ HA.out 32 _ Tryd.underlying23 (info32.trans (by rw [L32.out])) ?_)
  generalize (w.alloc (.cells (cl xs).toArray 23)).alloc (.cells [Value.int .u8 0, Value.int .u8 0, Value.int .u8 0, Value.int .u8 0, Value.int .u8 0, Value.int .u8 0, Value.int .u8 0, Value.int .u8 0, Value.int .u8 0, Value.int .u8 0, Value.int .u8 0, Value.int .u8 0, Value.int .u8 0, Value.int .u8 0, Value.int .u8 0, Value.int .u8 0, Value.int .u8 0, Value.int .u8 0, Value.int .u8 0, Value.int .u8 0, Value.int .u8 0, Value.int .u8 0, Value.int .u8 0, Value.int .u8 0, Value.int .u8 0, Value.int .u8 0, Value.int .u8 0, Value.int .u8 0, Value.int .u8 0, Value.int .u8 0, Value.int .u8 0, Value.int .u8 0].toArray 23) = w1 at *
  have lw : w.heap.size + 2 ≤ w1.heap.size := by have := HBB.out.lt; omega
  have HBD : Hid (∀ k, xs.getD k 0 < 256) := fun k => by
    have := bt_bd HY.out k
    unfold bt at this
    omega
  go_loopw [5, 9] (fun s i wr => ∃ k : Nat, k ≤ 32 ∧ i = .int .i64 k ∧ Hid (OwnB wr w1.heap.size s (xs.take k) ∧ Below w1.heap.size w1 wr)) (fun _ i _ => 32 - (intOf i).toNat)
  case atStart => exact ⟨0, by omega, rfl, by simpa using own_nil _ _, Below.refl _ _⟩
  case round =>
    obtain ⟨k, hk, rfl, K⟩ := hrel
    by_cases hk32 : k = 32
    · subst hk32
      rw [show ((32 : Nat) : Int) = 32 from rfl]
      have O := K.out.1
      rw [List.take_of_length_le (by rw [HX.out]; omega)] at O
      have HO := (show Hid _ from O)
      have HB := (show Hid _ from K.out.2)
      have X := (show Hid _ from HV.out.step (HD.out.trans (HB.out.mono HD.out.size)))
      have BZ := (show Hid _ from HBB.out.step HB.out)
      have lz := HB.out.size
      clear O K
      go_wp2_with (at_builtin; refine appB rfl _ _ rfl w1.heap.size xs bs _ _ (by rfl) (by rfl) HO.out X.out lz (by rw [HX.out]; omega) ?_; intro v2 w2 o2 b2)
      have X2 := (show Hid _ from o2.bs)
      have D2 := (show Hid _ from HB.out.trans b2)
      clear o2 b2 HO HB X BZ lz
      refine (HS.out _ _ _ X2.out (by rw [List.length_append, HX.out]; omega)).mono ?_
      rintro e w3 ⟨rfl, b3⟩
      have D3 := (show Hid _ from D2.out.trans (b3.mono D2.out.size))
      have B3 := (show Hid _ from HBB.out.step D3.out)
      clear b3 D2 X2
      have HSL := (show Hid _ from sha_cl (xs ++ bs))
      go_wp2_with (refine stA rfl 23 _ _ rfl (w.heap.size + 1) (by rfl) _ (cl (sha (xs ++ bs))) (by rfl) _ B3.out (info32.trans (by rw [HSL.out])) (by rw [HSL.out]; rfl) (fun u hu => cl_one hu) ?_; intro w4 R4 U4)
      refine bodyPost_ret (v := .agg (cl (sha (xs ++ bs))).toArray) ?_ rfl ⟨rfl, U4.bel (HD.out.trans (D3.out.mono HD.out.size)) (by omega)⟩
      have hld := run_loadVar_row (P := Tryd.prog) w4 (w.heap.size + 1) 23 23 _ (0, 0) _ R4.blk Tryd.underlying23 rfl (info32.trans (by rw [List.size_toArray, HSL.out]))
      simp [results, Tryd.results14, asAddr, hld, Act.put]
    have hk' : k < 32 := by omega
    have h1 := idx32 xs HX.out k hk'
    have h2 := HBD.out k
    have HTK : Hid (xs.take k ++ [xs.getD k 0] = xs.take (k + 1)) := by
      have hl : k < xs.length := by rw [HX.out]; exact hk'
      show _ = _
      rw [List.take_add_one, List.getElem?_eq_getElem hl]
      simp [List.getD, hl]
    generalize xs.getD k 0 = d at *
    have e1 : (0 : Int) ≤ (k : Int) := by omega
    have e2 : (k : Int) < 32 := by omega
    go_wp2_with (at_builtin; refine appB1 rfl _ _ rfl w1.heap.size (xs.take k) _ (d : Int) d (by rfl) (by rfl) rfl h2 K.out.1 K.out.2.size (by rw [List.length_take]; omega) ?_; intro v3 w3 o3 b3)
    refine ⟨⟨k + 1, by omega, by go_num, ?_, K.out.2.trans b3⟩, by simp [intOf]; omega⟩
    rw [← HTK.out]
    exact o3
end Go.Proofs.YtbgmepepcdpkfaaDoor
