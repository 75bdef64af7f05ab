/- log XXVI: LogNil's walk. -/
import Derived.Test.YtkmdegmpffgplaaGreatDoorLbl
import Derived.Test.YtkmdegmpffgplaaGreatDoorLbg
namespace Go.Proofs.YtkmdegmpffgplaaGreatDoor
open Go.RowKit Go.Maps Go.Sort Go.Shelf pk
set_option linter.unusedVariables false
set_option linter.unusedSimpArgs false
theorem anil_le (L : Nat) : anil L ≤ 7 := by
  unfold anil
  split
  · omega
  · split <;> omega
theorem onil_le (per : Int) : onil per ≤ 7 := by unfold onil; split <;> omega
set_option maxRecDepth 100000 in
set_option maxHeartbeats 1000000 in
theorem logNil_walk (w : World) (hT : Pt10 w) (hTb : Tb w) (h2 : 2 ≤ w.heap.size) (v : Value) (bs : List Nat) (hb : Bs w v bs) (hl : bs.length ≤ 140737488351232) (n per : Int) :
    Calls Tryz.prog 3 #[v, .int .i64 n, .int .i64 per] w fun e w' => e = .returned (.bool true) ∧ Below w.heap.size w w' := by
  have HT : Hid (Pt10 w ∧ Tb w ∧ 2 ≤ w.heap.size) := ⟨hT, hTb, h2⟩
  have HV : Hid (Bs w v bs) := hb
  have HL : Hid (bs.length ≤ 140737488351232) := hl
  obtain ⟨_, va, vc, rfl, _⟩ := hb
  clear hT hl hTb h2
  obtain ⟨vn, hvn⟩ : ∃ k, k = bs.length := ⟨_, rfl⟩
  rw [← hvn] at HV ⊢
  have HVN := (show Hid _ from hvn)
  clear hvn
  obtain ⟨k, hk⟩ : ∃ k, k = anil vn := ⟨_, rfl⟩
  have HK : Hid (anil vn = k) := hk.symm
  have hk7 : k ≤ 7 := by rw [hk]; exact anil_le _
  clear hk
  obtain ⟨q, hq⟩ : ∃ k, k = onil per := ⟨_, rfl⟩
  have HQ : Hid (onil per = q) := hq.symm
  have hq7 : q ≤ 7 := by rw [hq]; exact onil_le _
  clear hq
  go_enter Tryz.func3, Tryz.ntmps3
  go_wp2_with fail
  refine (twin_ok _ bs _ HV.out (Nat.le_trans HL.out (by omega))).mono ?_
  rintro e w1 ⟨⟨u, rfl, o1⟩, b1⟩
  have HB1 := (show Hid _ from b1)
  obtain ⟨_, ua, uc, rfl, _⟩ := o1.bs
  rw [← HVN.out]
  clear o1 b1
  go_wp2_with fail
  have C := append_nil w1 ua vn uc
  rw [HK.out] at C
  refine C.mono ?_
  rintro e w2 ⟨rfl, rfl⟩
  clear C
  go_wp2_with fail
  have C := docappend_nil w2 va vn vc
  rw [HK.out] at C
  refine C.mono ?_
  rintro e w3 ⟨rfl, rfl⟩
  clear C
  go_wp2_with fail
  have C := open_nil w3 per
  rw [HQ.out] at C
  refine C.mono ?_
  rintro e w4 ⟨rfl, rfl⟩
  clear C
  go_wp2_with fail
  have C := docopen_nil w4 per
  rw [HQ.out] at C
  refine C.mono ?_
  rintro e w5 ⟨rfl, rfl⟩
  clear C
  go_wp2_with fail
  refine (awake_ok w5 (HT.out.1.on HB1.out) (HT.out.2.1.step HB1.out HT.out.2.2) (Nat.le_trans HT.out.2.2 HB1.out.size)).mono ?_
  rintro e w6 ⟨rfl, b6⟩
  have HB6 : Hid (Below w.heap.size w w6) := HB1.out.trans (b6.mono HB1.out.size)
  clear b6 HB1
  go_wp2_with fail
  refine (prune_nil _ n).mono ?_
  rintro e w7 ⟨rfl, rfl⟩
  go_wp2_with fail
  refine (first_nil _).mono ?_
  rintro e w8 ⟨rfl, rfl⟩
  go_wp2_with fail
  refine (next_nil _).mono ?_
  rintro e w9 ⟨rfl, rfl⟩
  go_wp2_with fail
  go_ret
  exact ⟨rfl, HB6.out⟩
end Go.Proofs.YtkmdegmpffgplaaGreatDoor
