/- pack's statements: awake; the walk of PackOne. -/
import Derived.Test.YtnchmflbhcdngaaAf
import Derived.Deep.RegionHeld3
namespace Go.Proofs.Ytnchmflbhcdngaa
open Go.RowKit
set_option linter.unusedVariables false

theorem Bs.drew {w : World} {v : Value} {bs : List Nat} (h : Bs w v bs) : Bs w.drew v bs := h.step ((Below.refl _ _).drew)
theorem bel_of_drew {B : Nat} {w w' : World} (h : Below B w.drew w') : Below B w w' := ⟨h.os, h.tape, h.output, h.size, h.block⟩
/-- bytes that are written out -/
theorem bs_new (w : World) (bs : List Nat) (hby : By bs) (n : Nat) (hl : bs.length = n) (hn : n ≤ 1000) (T : TypeId) :
    Bs (w.alloc (.cells (cl bs).toArray T)) (.slice (some ⟨w.heap.size, 0, none⟩) n n) bs := by
  subst hl
  refine ⟨hby, _, _, rfl, Nat.le_refl _, by omega, fun h => (by cases h), fun h0 => ⟨w.heap.size, 0, rfl, by simp, fun k hk => ?_⟩⟩
  rw [Nat.zero_add]
  have h1 := cl_get bs k hk
  simp [go_sem, h1]
theorem enc300 : enc 300 = [172, 2] := by rw [enc_hi (by omega), enc_lo (by omega)]
theorem enczz : enc (zz (-1)) = [1] := by rw [show zz (-1) = 1 by decide, enc_lo (by omega)]
set_option maxRecDepth 100000 in
theorem awake_ok (w : World) : Calls Try.prog 8 #[] w fun e w' => e = .returned (.bool true) ∧ Below w.heap.size w w' := by
  have b1 : Hid (Bs (w.alloc (.cells #[.int .u8 172, .int .u8 2, .int .u8 9] 5)) (.slice (some ⟨w.heap.size, 0, none⟩) 3 3) [172, 2, 9]) := bs_new w [172, 2, 9] (fun x hx => by simp at hx; omega) 3 rfl (by omega) 5
  have hb := (Below.refl w.heap.size w).alloc (Nat.le_refl _) (.cells #[.int .u8 172, .int .u8 2, .int .u8 9] 5)
  have HB := (show Hid _ from hb)
  clear hb
  go_enter Try.func8, Try.ntmps8
  go_wp2_with fail
  refine (readu_yes _ _ 300 _ b1.out (by omega) (by rw [enc300]; exact ⟨[9], rfl⟩)).mono ?_
  rintro e w1 ⟨rfl, rfl⟩
  rw [enc300]
  clear b1
  generalize w.alloc (.cells #[.int .u8 172, .int .u8 2, .int .u8 9] 5) = w1 at *
  go_wp2_with fail
  refine (uint_ok _ _ 300 _ (bs_nil _) (by omega) (by simp)).mono ?_
  rintro e w2 ⟨⟨u, rfl, ho⟩, hb⟩
  rw [show (300 : Int).toNat = 300 from rfl, enc300] at ho
  have h1 : Hid (Bs (w2.alloc (.cells #[.int .u8 172, .int .u8 2] 5)) u [172, 2]) := ho.bs.step ((Below.refl _ _).alloc (Nat.le_refl _) _)
  have h2 : Hid (Bs (w2.alloc (.cells #[.int .u8 172, .int .u8 2] 5)) (.slice (some ⟨w2.heap.size, 0, none⟩) 2 2) [172, 2]) := bs_new w2 [172, 2] (fun x hx => by simp at hx; omega) 2 rfl (by omega) 5
  have HB2 : Hid (Below w.heap.size w (w2.alloc (.cells #[.int .u8 172, .int .u8 2] 5))) := by
    have := HB.out.trans (hb.mono HB.out.size)
    exact this.alloc this.size _
  clear ho hb HB
  go_wp2_with fail
  refine (same_ok _ _ [172, 2] [172, 2] _ h1.out h2.out).mono ?_
  rintro e w3 ⟨rfl, hb⟩
  clear h1 h2
  have HB := (show Hid _ from HB2.out.trans (hb.mono HB2.out.size))
  clear hb HB2
  rw [show decide ([172, 2] = [172, 2]) = true from rfl]
  go_wp2_with fail
  refine (int_ok _ _ (-1) _ (bs_nil _) (by omega) (by simp)).mono ?_
  rintro e w4 ⟨⟨u2, rfl, ho⟩, hb⟩
  rw [enczz] at ho
  have h1 : Hid (Bs (w4.alloc (.cells #[.int .u8 1] 5)) u2 [1]) := ho.bs.step ((Below.refl _ _).alloc (Nat.le_refl _) _)
  have h2 : Hid (Bs (w4.alloc (.cells #[.int .u8 1] 5)) (.slice (some ⟨w4.heap.size, 0, none⟩) 1 1) [1]) := bs_new w4 [1] (fun x hx => by simp at hx; omega) 1 rfl (by omega) 5
  have HB2 : Hid (Below w.heap.size w (w4.alloc (.cells #[.int .u8 1] 5))) := by
    have := HB.out.trans (hb.mono HB.out.size)
    exact this.alloc this.size _
  clear ho hb HB
  go_wp2_with fail
  refine (same_ok _ _ [1] [1] _ h1.out h2.out).mono ?_
  rintro e w5 ⟨rfl, hb⟩
  clear h1 h2
  have HB := (show Hid _ from HB2.out.trans (hb.mono HB2.out.size))
  clear hb HB2
  rw [show decide ([1] = [1]) = true from rfl]
  go_wp2_with fail
  go_ret
  exact ⟨rfl, HB.out⟩
theorem front_cut {n k : Nat} {bs : List Nat} (hf : enc n <+: bs) (hk : k = (enc n).length) : bs.take k = enc n := by
  obtain ⟨t, rfl⟩ := hf
  subst hk
  simp
end Go.Proofs.Ytnchmflbhcdngaa
