/- sum: the program's Chain. -/
import Derived.Test.YtbgmepepcdpkfaaDoorRc
namespace Go.Proofs.YtbgmepepcdpkfaaDoor
open Go.RowKit
set_option linter.unusedVariables false

set_option maxHeartbeats 1000000 in
set_option maxRecDepth 100000 in
theorem chain_ok (xs : List Nat) (v : Value) (bs : List Nat) (w : World) (hx : xs.length = 32) (hby : By xs) (h : Bs w v bs) (hl : bs.length ≤ 140737488355296) (T : Tb w) :
    Calls Tryd.prog 13 #[.agg (cl xs).toArray, v] w fun e w' => e = .returned (.agg (cl (sha (xs ++ bs))).toArray) ∧ Below w.heap.size w w' := by
  have D := ((Below.refl w.heap.size w).alloc (Nat.le_refl _) (.cells (cl xs).toArray 23)).alloc (by simp) (.cells [Value.int .u8 0, Value.int .u8 0, Value.int .u8 0, Value.int .u8 0, Value.int .u8 0, Value.int .u8 0, Value.int .u8 0, Value.int .u8 0, Value.int .u8 0, Value.int .u8 0, Value.int .u8 0, Value.int .u8 0, Value.int .u8 0, Value.int .u8 0, Value.int .u8 0, Value.int .u8 0, Value.int .u8 0, Value.int .u8 0, Value.int .u8 0, Value.int .u8 0, Value.int .u8 0, Value.int .u8 0, Value.int .u8 0, Value.int .u8 0, Value.int .u8 0, Value.int .u8 0, Value.int .u8 0, Value.int .u8 0, Value.int .u8 0, Value.int .u8 0, Value.int .u8 0, Value.int .u8 0].toArray 23)
  have A := (va_new w (cl xs) 23).alloc (.cells [Value.int .u8 0, Value.int .u8 0, Value.int .u8 0, Value.int .u8 0, Value.int .u8 0, Value.int .u8 0, Value.int .u8 0, Value.int .u8 0, Value.int .u8 0, Value.int .u8 0, Value.int .u8 0, Value.int .u8 0, Value.int .u8 0, Value.int .u8 0, Value.int .u8 0, Value.int .u8 0, Value.int .u8 0, Value.int .u8 0, Value.int .u8 0, Value.int .u8 0, Value.int .u8 0, Value.int .u8 0, Value.int .u8 0, Value.int .u8 0, Value.int .u8 0, Value.int .u8 0, Value.int .u8 0, Value.int .u8 0, Value.int .u8 0, Value.int .u8 0, Value.int .u8 0, Value.int .u8 0].toArray 23)
  have B := va_new (w.alloc (.cells (cl xs).toArray 23)) ([Value.int .u8 0, Value.int .u8 0, Value.int .u8 0, Value.int .u8 0, Value.int .u8 0, Value.int .u8 0, Value.int .u8 0, Value.int .u8 0, Value.int .u8 0, Value.int .u8 0, Value.int .u8 0, Value.int .u8 0, Value.int .u8 0, Value.int .u8 0, Value.int .u8 0, Value.int .u8 0, Value.int .u8 0, Value.int .u8 0, Value.int .u8 0, Value.int .u8 0, Value.int .u8 0, Value.int .u8 0, Value.int .u8 0, Value.int .u8 0, Value.int .u8 0, Value.int .u8 0, Value.int .u8 0, Value.int .u8 0, Value.int .u8 0, Value.int .u8 0, Value.int .u8 0, Value.int .u8 0]) 23
  rw [World.size_alloc] at B
  obtain ⟨va, vl, vc, rfl⟩ : ∃ a n c, v = .slice a n c := by obtain ⟨_, a, c, e, _⟩ := h; exact ⟨a, _, c, e⟩
  have hw1 := T.lt
  have HD := (show Hid _ from D)
  have HA := (show Hid _ from A)
  have HBB := (show Hid _ from B)
  have HV := (show Hid _ from h)
  have HT := (show Hid _ from T)
  have HY := (show Hid _ from hby)
  have HX := (show Hid _ from hx)
  clear D A B h hby hx T
  go_enter Tryd.func13, Tryd.ntmps13
  go_upto_region 1 with fail
  generalize (w.alloc (.cells (cl xs).toArray 23)).alloc (.cells [Value.int .u8 0, Value.int .u8 0, Value.int .u8 0, Value.int .u8 0, Value.int .u8 0, Value.int .u8 0, Value.int .u8 0, Value.int .u8 0, Value.int .u8 0, Value.int .u8 0, Value.int .u8 0, Value.int .u8 0, Value.int .u8 0, Value.int .u8 0, Value.int .u8 0, Value.int .u8 0, Value.int .u8 0, Value.int .u8 0, Value.int .u8 0, Value.int .u8 0, Value.int .u8 0, Value.int .u8 0, Value.int .u8 0, Value.int .u8 0, Value.int .u8 0, Value.int .u8 0, Value.int .u8 0, Value.int .u8 0, Value.int .u8 0, Value.int .u8 0, Value.int .u8 0, Value.int .u8 0].toArray 23) = w1 at *
  have l1 := HBB.out.lt
  have D2 := (Below.refl w1.heap.size w1).alloc (Nat.le_refl _) (.cells #[.slice (some ⟨w.heap.size, 0, none⟩) 32 32, .slice va vl vc] 22)
  have V2 : VA (w1.alloc (.cells #[.slice (some ⟨w.heap.size, 0, none⟩) 32 32, .slice va vl vc] 22)) w1.heap.size [.slice (some ⟨w.heap.size, 0, none⟩) 32 32, .slice va vl vc] 22 := va_new w1 _ _
  have c1 := V2.cell 0 rfl
  have c2 := V2.cell 1 rfl
  have X2 : Hid (Bs (w1.alloc (.cells #[.slice (some ⟨w.heap.size, 0, none⟩) 32 32, .slice va vl vc] 22)) (.slice (some ⟨w.heap.size, 0, none⟩) 32 32) xs) := (HA.out.step D2).bs HX.out (by omega) HY.out
  have Y2 := (show Hid _ from HV.out.step (HD.out.trans (D2.mono HD.out.size)))
  have HD2 := (show Hid _ from D2)
  have HC := (show Hid (_ ∧ _) from ⟨c1, c2⟩)
  clear D2 V2 c1 c2
  go_wp2_with fail
  generalize w1.alloc (.cells #[.slice (some ⟨w.heap.size, 0, none⟩) 32 32, .slice va vl vc] 22) = w2 at *
  refine (concat_ok _ 0 _ _ xs bs _ HC.out.1 HC.out.2 X2.out Y2.out (by rw [HX.out]; omega) (by rw [HX.out]; omega)).mono ?_
  rintro e w3 ⟨⟨u, rfl, o3⟩, b3⟩
  have D3 := (show Hid _ from HD2.out.trans (b3.mono HD2.out.size))
  have O3 := (show Hid _ from o3.bs)
  clear o3 b3 X2 Y2 HD2 HC
  go_wp2_with fail
  refine (sha_ok _ _ _ O3.out (by rw [List.length_append, HX.out]; omega) (HT.out.step (HD.out.trans (D3.out.mono HD.out.size)) (by omega))).mono ?_
  rintro e w4 ⟨rfl, b4⟩
  have D4 := (show Hid _ from D3.out.trans (b4.mono D3.out.size))
  have B4 := (show Hid _ from HBB.out.step D4.out)
  have HSL := (show Hid _ from sha_cl (xs ++ bs))
  clear b4 D3 O3
  go_wp2_with (refine stA rfl 23 _ _ rfl (w.heap.size + 1) (by rfl) _ (cl (sha (xs ++ bs))) (by rfl) _ B4.out (info32.trans (by rw [HSL.out])) (by rw [HSL.out]; rfl) (fun u hu => cl_one hu) ?_; intro w5 R5 U5)
  refine bodyPost_ret (v := .agg (cl (sha (xs ++ bs))).toArray) ?_ rfl ⟨rfl, U5.bel (HD.out.trans (D4.out.mono HD.out.size)) (by omega)⟩
  have hld := run_loadVar_row (P := Tryd.prog) w5 (w.heap.size + 1) 23 23 _ (0, 0) _ R5.blk Tryd.underlying23 rfl (info32.trans (by rw [List.size_toArray, HSL.out]))
  simp [results, Tryd.results13, asAddr, hld, Act.put]
end Go.Proofs.YtbgmepepcdpkfaaDoor
