/- snap XIV: SnapNil's walk. -/
import Derived.Test.YtgabklihgjjjeaaGreatDoorPA
namespace Go.Proofs.YtgabklihgjjjeaaGreatDoor
open Go.RowKit Go.Maps Go.Sort Go.Shelf pk
set_option linter.unusedVariables false
set_option linter.unusedSimpArgs false
set_option maxRecDepth 100000 in
set_option maxHeartbeats 1000000 in
theorem docwrite_nil (w : World) (n : Int) (v : Value) (bs : List Nat) (hb : Bs w v bs) : Calls Tryz.prog 10 #[.pointer none, .int .i64 n, v] w fun r w' => r = .returned (.int .i64 (wnil n bs.length : Nat)) ∧ w' = w := by
  obtain ⟨_, a, c, rfl, _⟩ := hb
  generalize bs.length = L
  by_cases h1 : n < 0
  · have e : wnil n L = 1 := by unfold wnil; rw [if_pos (Or.inl h1)]
    rw [e]
    go_enter Tryz.func10, Tryz.ntmps10
    go_wp2_with fail
    go_ret
    exact ⟨rfl, rfl⟩
  by_cases h2 : 999999999999 < n
  · have e : wnil n L = 1 := by unfold wnil; rw [if_pos (Or.inr h2)]
    rw [e]
    go_enter Tryz.func10, Tryz.ntmps10
    go_wp2_with fail
    go_ret
    exact ⟨rfl, rfl⟩
  have h3 : ¬ (n < 0 ∨ 999999999999 < n) := by omega
  by_cases h4 : 400000 < L
  · have e : wnil n L = 2 := by unfold wnil; rw [if_neg h3, if_pos h4]
    rw [e]
    clear h3
    go_enter Tryz.func10, Tryz.ntmps10
    go_wp2_with fail
    go_ret
    exact ⟨rfl, rfl⟩
  by_cases h5 : L = 0
  · have e : wnil n L = 3 := by unfold wnil; rw [if_neg h3, if_neg h4, if_pos h5]
    rw [e]
    clear h3 e
    subst h5
    go_enter Tryz.func10, Tryz.ntmps10
    go_wp2_with fail
    go_ret
    exact ⟨rfl, rfl⟩
  · have e : wnil n L = 7 := by unfold wnil; rw [if_neg h3, if_neg h4, if_neg h5]
    rw [e]
    clear h3 e
    go_enter Tryz.func10, Tryz.ntmps10
    go_wp2_with fail
    go_ret
    exact ⟨rfl, rfl⟩
set_option maxRecDepth 100000 in
set_option maxHeartbeats 1000000 in
theorem snapNil_walk (w : World) (hT : Pt10 w) (n : Int) (v : Value) (bs : List Nat) (hb : Bs w v bs) (hl : bs.length ≤ 140737488351232) :
    Calls Tryz.prog 3 #[.int .i64 n, v] w fun e w' => e = .returned (.bool true) ∧ Below w.heap.size w w' := by
  have HT : Hid (Pt10 w) := hT
  have HV : Hid (Bs w v bs) := hb
  have HL : Hid (bs.length ≤ 140737488351232) := hl
  obtain ⟨_, va, vc, rfl, _⟩ := hb
  clear hT hl
  obtain ⟨vn, hvn⟩ : ∃ k, k = bs.length := ⟨_, rfl⟩
  rw [← hvn] at HV ⊢
  have HVN := (show Hid _ from hvn)
  clear hvn
  go_enter Tryz.func3, Tryz.ntmps3
  go_wp2_with fail
  refine (load_nil _).mono ?_
  rintro e w1 ⟨rfl, b1⟩
  have HB1 := (show Hid _ from b1)
  clear b1
  go_wp2_with fail
  refine (awake_ok _ (HT.out.on HB1.out)).mono ?_
  rintro e w2 ⟨rfl, b2⟩
  have HB2 : Hid (Below w.heap.size w w2) := HB1.out.trans (b2.mono HB1.out.size)
  clear b2 HB1
  go_wp2_with fail
  refine (twin_ok _ bs _ (HV.out.step HB2.out) (Nat.le_trans HL.out (by omega))).mono ?_
  rintro e w3 ⟨⟨u, rfl, o3⟩, b3⟩
  have HB3 : Hid (Below w.heap.size w w3) := HB2.out.trans (b3.mono HB2.out.size)
  have HU := (show Hid _ from o3.bs)
  clear o3 b3 HB2
  go_wp2_with fail
  refine (write_nil _ n _ bs HU.out).mono ?_
  rintro e w4 ⟨rfl, rfl⟩
  clear HU
  have hwn : 0 ≤ ((wnil n bs.length : Nat) : Int) ∧ ((wnil n bs.length : Nat) : Int) ≤ 7 := by
    unfold wnil
    split
    · omega
    · split
      · omega
      · split <;> omega
  generalize hk : wnil n bs.length = k at hwn
  have HK := (show Hid _ from hk)
  clear hk
  go_wp2_with fail
  have CD := docwrite_nil w4 n _ bs (HV.out.step HB3.out)
  rw [HK.out] at CD
  refine CD.mono ?_
  rintro e w5 ⟨rfl, rfl⟩
  clear CD HK
  go_wp2_with fail
  refine (clean_nil _).mono ?_
  rintro e w6 ⟨rfl, b6⟩
  have HB6 : Hid (Below w.heap.size w w6) := HB3.out.trans (b6.mono HB3.out.size)
  clear b6 HB3
  go_wp2_with fail
  refine (list_nil _).mono ?_
  rintro e w7 ⟨⟨a7, c7, rfl⟩, b7⟩
  have HB7 : Hid (Below w.heap.size w w7) := HB6.out.trans (b7.mono HB6.out.size)
  clear b7 HB6
  go_wp2_with fail
  go_ret
  exact ⟨rfl, HB7.out⟩
end Go.Proofs.YtgabklihgjjjeaaGreatDoor
