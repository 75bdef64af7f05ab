/- log II: records: Crc, Concat of three, a record's sectors. -/
import Derived.Test.YtkmdegmpffgplaaGreatDoorLaz
namespace Go.Proofs.YtkmdegmpffgplaaGreatDoor
open Go.RowKit Go.Maps Go.Sort Go.Shelf pk
set_option linter.unusedVariables false
set_option linter.unusedSimpArgs false

def crc4 (c : Nat) : List Nat := [c / 16777216 % 256, c / 65536 % 256, c / 256 % 256, c % 256]
theorem crc4_by (c : Nat) : By (crc4 c) := fun x hx => by
  unfold crc4 at hx
  simp at hx
  omega
theorem info4 : (Tryz.prog.info? 149).map (·.size) = some 4 := by kernel_rfl
theorem crc4_cl (c : Nat) (hc : c < 4294967296) : cl (crc4 c) = [.int .u8 ((c : Int) / 16777216), .int .u8 ((c : Int) / 65536 % 256), .int .u8 ((c : Int) / 256 % 256), .int .u8 ((c : Int) % 256)] := by
  unfold cl crc4
  have e1 : c / 16777216 % 256 = c / 16777216 := by omega
  simp [e1]
set_option maxRecDepth 100000 in
theorem pcrc_ok (v : Value) (bs : List Nat) (w : World) (h : Bs w v bs) :
    Calls Tryz.prog 88 #[v] w fun e w' => e = .returned (.agg (cl (crc4 (crc bs))).toArray) ∧ Below w.heap.size w w' := by
  have hb0 := (Below.refl w.heap.size w).alloc (Nat.le_refl _) (.cells #[.int .u8 0, .int .u8 0, .int .u8 0, .int .u8 0] 149)
  have hlt : crc bs < 4294967296 := crc_lt bs h.byte
  have HB := (show Hid _ from h.step hb0)
  obtain ⟨_, a, n, rfl, _⟩ := h
  generalize bs.length = L at *
  have HE : Hid (cl (crc4 (crc bs)) = [.int .u8 ((crc bs : Int) / 16777216), .int .u8 ((crc bs : Int) / 65536 % 256), .int .u8 ((crc bs : Int) / 256 % 256), .int .u8 ((crc bs : Int) % 256)]) := crc4_cl _ hlt
  generalize hcc : crc bs = c at *
  have HCC : Hid (crc bs = c) := hcc
  clear hcc hb0
  have V := va_new w [.int .u8 ((c : Int) / 16777216), .int .u8 ((c : Int) / 65536 % 256), .int .u8 ((c : Int) / 256 % 256), .int .u8 ((c : Int) % 256)] 149
  have hld := run_loadVar_row (P := Tryz.prog) _ w.heap.size 149 149 _ (0, 0) _ V.blk Tryz.underlying149 rfl info4
  clear V
  go_enter Tryz.func88, Tryz.ntmps88
  go_wp2_with (go_at_call 109; refine (crc_ok _ bs _ HB.out).mono ?_; rintro e w1 ⟨rfl, rfl⟩; rw [HCC.out])
  refine bodyPost_ret (v := .agg #[.int .u8 ((c : Int) / 16777216), .int .u8 ((c : Int) / 65536 % 256), .int .u8 ((c : Int) / 256 % 256), .int .u8 ((c : Int) % 256)]) (by simp [results, Tryz.results88, go_sem, asAddr, hld]) rfl ?_
  exact ⟨by rw [HE.out], (Below.refl _ _).alloc (Nat.le_refl _) _⟩
theorem pcrc_exp (v : Value) (bs : List Nat) (w : World) (h : Bs w v bs) (c : Nat) (hc : crc bs = c) :
    Calls Tryz.prog 88 #[v] w fun e w' => e = .returned (.agg #[.int .u8 ((c : Int) / 16777216), .int .u8 ((c : Int) / 65536 % 256), .int .u8 ((c : Int) / 256 % 256), .int .u8 ((c : Int) % 256)]) ∧ Below w.heap.size w w' := by
  have := pcrc_ok v bs w h
  rw [crc4_cl _ (crc_lt bs h.byte), hc] at this
  exact this
set_option maxHeartbeats 1000000 in
set_option maxRecDepth 100000 in
theorem concat3_ok (b off : Nat) (v1 v2 v3 : Value) (xs ys zs : List Nat) (w : World) (c1 : w.cell? ⟨b, off, none⟩ = some v1) (c2 : w.cell? ⟨b, off + 1, none⟩ = some v2) (c3 : w.cell? ⟨b, off + 2, none⟩ = some v3) (h1 : Bs w v1 xs) (h2 : Bs w v2 ys) (h3 : Bs w v3 zs) (h0 : 0 < xs.length) (hl : xs.length + ys.length + zs.length ≤ 140737488355328) :
    Calls Tryz.prog 59 #[.slice (some ⟨b, off, none⟩) 3 3] w fun e w' => (∃ u, e = .returned u ∧ OwnB w' w.heap.size u (xs ++ ys ++ zs)) ∧ Below w.heap.size w w' := by
  obtain ⟨l1, hl1⟩ : ∃ l, l = xs.length := ⟨_, rfl⟩
  obtain ⟨l2, hl2⟩ : ∃ l, l = ys.length := ⟨_, rfl⟩
  obtain ⟨l3, hl3⟩ : ∃ l, l = zs.length := ⟨_, rfl⟩
  obtain ⟨a1, k1, rfl, g1, g2⟩ : ∃ a c, v1 = .slice a l1 c ∧ l1 ≤ c ∧ c ≤ 9223372036854775807 := by obtain ⟨_, a, c, e, h1, h2, _⟩ := h1; exact ⟨a, c, by rw [hl1]; exact e, by rw [hl1]; exact h1, h2⟩
  obtain ⟨a2, k2, rfl, g3, g4⟩ : ∃ a c, v2 = .slice a l2 c ∧ l2 ≤ c ∧ c ≤ 9223372036854775807 := by obtain ⟨_, a, c, e, h1, h2, _⟩ := h2; exact ⟨a, c, by rw [hl2]; exact e, by rw [hl2]; exact h1, h2⟩
  obtain ⟨a3, k3, rfl, g5, g6⟩ : ∃ a c, v3 = .slice a l3 c ∧ l3 ≤ c ∧ c ≤ 9223372036854775807 := by obtain ⟨_, a, c, e, h1, h2, _⟩ := h3; exact ⟨a, c, by rw [hl3]; exact e, by rw [hl3]; exact h1, h2⟩
  have HX := (show Hid _ from h1)
  have HY := (show Hid _ from h2)
  have HZ := (show Hid _ from h3)
  have HL1 := (show Hid _ from hl1)
  have HL2 := (show Hid _ from hl2)
  have HL3 := (show Hid _ from hl3)
  have hb := World.block_lt_of_cell? w _ c1
  rw [← hl1] at h0 hl
  rw [← hl2, ← hl3] at hl
  clear h1 h2 h3 hl1 hl2 hl3
  go_enter Tryz.func59, Tryz.ntmps59
  go_wp2_with fail
  go_loop [3, 11] (fun s i => (i = .int .i64 0 ∧ s = .int .i64 0) ∨ (i = .int .i64 1 ∧ s = .int .i64 l1) ∨ (i = .int .i64 2 ∧ s = .int .i64 ((l1 + l2 : Nat) : Int)) ∨ (i = .int .i64 3 ∧ s = .int .i64 ((l1 + l2 + l3 : Nat) : Int))) (fun _ i => 3 - (intOf i).toNat)
  case atStart => exact Or.inl ⟨rfl, rfl⟩
  case round =>
    rcases hrel with ⟨rfl, rfl⟩ | ⟨rfl, rfl⟩ | ⟨rfl, rfl⟩ | ⟨rfl, rfl⟩
    · have d1 : ((l1 : Int) < 0) = False := by simp
      go_wp2_with fail
      exact ⟨Or.inr (Or.inl ⟨rfl, rfl⟩), by simp [intOf]⟩
    · have d1 : ((l1 : Int) + (l2 : Int) < 0) = False := by simp; omega
      go_wp2_with fail
      exact ⟨Or.inr (Or.inr (Or.inl ⟨rfl, by go_num⟩)), by simp [intOf]⟩
    · have d1 : ((l1 : Int) + (l2 : Int) + (l3 : Int) < 0) = False := by simp; omega
      go_wp2_with fail
      exact ⟨Or.inr (Or.inr (Or.inr ⟨rfl, by go_num⟩)), by simp [intOf]⟩
    · go_wp2_with fail
      refine (grow_ok (l1 + l2 + l3) _ (by omega) hl).mono ?_
      rintro e w2 ⟨⟨u, rfl, o2⟩, b2⟩
      have HO := (show Hid _ from o2)
      have HB := (show Hid _ from b2)
      clear o2 b2
      go_wp2_with fail
      go_loopw [6, 27] (fun s i wr => ((i = .int .i64 0 ∧ Hid (OwnB wr w.heap.size s [])) ∨ (i = .int .i64 1 ∧ Hid (OwnB wr w.heap.size s xs)) ∨ (i = .int .i64 2 ∧ Hid (OwnB wr w.heap.size s (xs ++ ys))) ∨ (i = .int .i64 3 ∧ Hid (OwnB wr w.heap.size s (xs ++ ys ++ zs)))) ∧ Hid (Below w.heap.size w wr)) (fun _ i _ => 3 - (intOf i).toNat)
      case atStart => exact ⟨Or.inl ⟨rfl, HO⟩, HB⟩
      case round =>
        obtain ⟨hrel, BB⟩ := hrel
        have y1 := (BB.out.cell (p := ⟨b, off, none⟩) hb).trans c1
        have y2 := (BB.out.cell (p := ⟨b, off + 1, none⟩) hb).trans c2
        have y3 := (BB.out.cell (p := ⟨b, off + 2, none⟩) hb).trans c3
        have lz := BB.out.size
        rcases hrel with ⟨rfl, O⟩ | ⟨rfl, O⟩ | ⟨rfl, O⟩ | ⟨rfl, O⟩
        · go_wp2_with (at_builtin; refine appB rfl _ _ rfl w.heap.size [] xs _ _ (by rfl) (by rfl) O.out (HX.out.step BB.out) lz (by have := HL1.out; simp; omega) ?_; intro v3 w3 o3 b3)
          exact ⟨⟨Or.inr (Or.inl ⟨rfl, o3⟩), BB.out.trans b3⟩, by simp [intOf]⟩
        · go_wp2_with (at_builtin; refine appB rfl _ _ rfl w.heap.size xs ys _ _ (by rfl) (by rfl) O.out (HY.out.step BB.out) lz (by have := HL1.out; have := HL2.out; omega) ?_; intro v3 w3 o3 b3)
          exact ⟨⟨Or.inr (Or.inr (Or.inl ⟨rfl, o3⟩)), BB.out.trans b3⟩, by simp [intOf]⟩
        · go_wp2_with (at_builtin; refine appB rfl _ _ rfl w.heap.size (xs ++ ys) zs _ _ (by rfl) (by rfl) O.out (HZ.out.step BB.out) lz (by have := HL1.out; have := HL2.out; have := HL3.out; simp; omega) ?_; intro v3 w3 o3 b3)
          exact ⟨⟨Or.inr (Or.inr (Or.inr ⟨rfl, o3⟩)), BB.out.trans b3⟩, by simp [intOf]⟩
        · go_wp2_with fail
          go_ret
          exact ⟨⟨_, rfl, O.out⟩, BB.out⟩
/-- the number's closure -/
theorem headmk_ok (n : Nat) (hn : n < 4294967296) (w : World) :
    Calls Tryz.prog 90 #[.int .i64 (n : Int)] w fun e w' => e = .returned (.func (.func 110) #[] #[.pointer (some ⟨w.heap.size, 0, none⟩)]) ∧ VA w' w.heap.size [.int .u32 (n : Int)] 127 ∧ Below w.heap.size w w' := by
  have V := va_new w [.int .u32 (n : Int)] 127
  have B := (Below.refl w.heap.size w).alloc (Nat.le_refl _) (.cells #[.int .u32 (n : Int)] 127)
  have HV := (show Hid (_ ∧ _) from ⟨V, B⟩)
  clear V B
  go_enter Tryz.func90, Tryz.ntmps90
  go_wp2_with fail
  go_ret
  exact ⟨rfl, HV.out⟩
/-- the cells of a record -/
def rcd (a : Option Addr) (L k : Nat) (xs : List Nat) : List Value := .slice a L k :: lnk xs
theorem rcd_len (a : Option Addr) (L k : Nat) (xs : List Nat) : (rcd a L k xs).length = 33 := by unfold rcd; rw [List.length_cons, lnk_len]
theorem rcd_one {a : Option Addr} {L k : Nat} {xs : List Nat} {v : Value} (h : v ∈ rcd a L k xs) : v.oneCell' = true := by
  unfold rcd at h
  rcases List.mem_cons.1 h with rfl | h
  · rfl
  · exact lnk_one h
theorem info33 : (Tryz.prog.info? 77).map (·.size) = some 33 := by kernel_rfl
theorem infol : (Tryz.prog.info? 71).map (·.size) = some 32 := by kernel_rfl
/-- a link's bytes within a record -/
theorem bs_lnk {w : World} {g : Nat} {cs : List Value} {T : TypeId} (V : VA w g cs T) (o : Nat) (xs : List Nat) (hl : xs.length = 32) (hb : By xs) (hc : ∀ k, k < 32 → cs[o + k]? = (lnk xs)[k]?) : Bs w (.slice (some ⟨g, o, none⟩) 32 32) xs := by
  refine ⟨hb, some ⟨g, o, none⟩, 32, by rw [hl], by omega, by omega, fun e => (by cases e), fun _ => ⟨g, o, rfl, V.lt, fun k hk => ?_⟩⟩
  rw [hl] at hk
  refine V.cell (o + k) ?_
  rw [hc k hk]
  simp [lnk, hk]
/-- what a record's file holds of it -/
def secL (num : Nat) (p xs : List Nat) : List Nat := cutB 177 (hd6 num) (p ++ crc4 (crc p) ++ xs)
set_option maxRecDepth 100000 in
set_option maxHeartbeats 2000000 in
theorem lsectors_ok (num : Nat) (a : Option Addr) (L k : Nat) (p xs : List Nat) (w : World) (h : Bs w (.slice a L k) p) (h0 : 0 < p.length) (hl : p.length ≤ 4096) (hx : xs.length = 32) (hxb : By xs) (hnum : num < 4294967296) :
    Calls Tryz.prog 62 #[.agg (rcd a L k xs).toArray, .int .i64 (num : Int)] w fun e w' => (∃ u, e = .returned u ∧ OwnB w' w.heap.size u (secL num p xs)) ∧ Below w.heap.size w w' := by
  have HP0 : Hid (Bs w (.slice a L k) p) := h
  have HLP := (show Hid _ from h.len.1)
  have HX : Hid (xs.length = 32 ∧ By xs) := ⟨hx, hxb⟩
  obtain ⟨c, hc⟩ : ∃ c, c = crc p := ⟨_, rfl⟩
  have HC : Hid (crc p = c) := hc.symm
  have HLT : Hid (c < 4294967296) := (show c < 4294967296 by rw [hc]; exact crc_lt p h.byte)
  have HH : Hid (0 < p.length ∧ p.length ≤ 4096) := ⟨h0, hl⟩
  clear h hc hx hxb
  have V0 := va_new w (rcd a L k xs) 77
  have B0 := (Below.refl w.heap.size w).alloc (Nat.le_refl _) (.cells (rcd a L k xs).toArray 77)
  have HV0 := (show Hid (_ ∧ _) from ⟨V0, B0⟩)
  have y0 := V0.cell 0 (v := .slice a L k) rfl
  clear V0 B0
  go_enter Tryz.func62, Tryz.ntmps62
  go_wp2_with fail
  refine (pcrc_exp _ p _ (HP0.out.step HV0.out.2) c HC.out).mono ?_
  rintro e w1 ⟨rfl, b1⟩
  have HV1 : Hid (VA w1 w.heap.size (rcd a L k xs) 77) := HV0.out.1.step b1
  have HB1 : Hid (Below w.heap.size w w1) := HV0.out.2.trans (b1.mono HV0.out.2.size)
  clear b1 HV0 y0
  go_upto_region 2 with fail
  have V5 := va_new w1 [.int .u8 ((c : Int) / 16777216), .int .u8 ((c : Int) / 65536 % 256), .int .u8 ((c : Int) / 256 % 256), .int .u8 ((c : Int) % 256)] 149
  rw [← crc4_cl c HLT.out] at V5
  have HV5 : Hid (VA (w1.alloc (.cells #[.int .u8 ((c : Int) / 16777216), .int .u8 ((c : Int) / 65536 % 256), .int .u8 ((c : Int) / 256 % 256), .int .u8 ((c : Int) % 256)] 149)).drew w1.heap.size (cl (crc4 c)) 149) := VA.drew (by rw [crc4_cl c HLT.out] at V5 ⊢; exact V5)
  refine wp_region_noPanic ?_
  refine wp_region_held_drew (S := fun V => VA V w.heap.size (rcd a L k xs) 77) (by kernel_rfl) (VA.drew (HV1.out.alloc _)) ?_
  intro hHeld
  have HB2 : Hid (Below w.heap.size w (w1.alloc (.cells #[.int .u8 ((c : Int) / 16777216), .int .u8 ((c : Int) / 65536 % 256), .int .u8 ((c : Int) / 256 % 256), .int .u8 ((c : Int) % 256)] 149)).drew) := (HB1.out.alloc HB1.out.size _).drew
  clear V5 HV1 HB1
  generalize (w1.alloc (.cells #[.int .u8 ((c : Int) / 16777216), .int .u8 ((c : Int) / 65536 % 256), .int .u8 ((c : Int) / 256 % 256), .int .u8 ((c : Int) % 256)] 149)).drew = w2 at *
  generalize w1.heap.size = B5 at *
  refine takeD 0 9 (.pointer (some ⟨w.heap.size, 0, none⟩)) (by exact rfl) rfl (by kernel_rfl) (by kernel_rfl) (by kernel_rfl) (fun _ _ _ h => h) (Or.inl ⟨by rfl, ?_⟩) (by assumption) ?_
  · intro wq hS
    go_simp
  try simp only [Act.put, List.setIfInBounds_toArray, List.set_cons_zero, List.set_cons_succ]
  refine takeD 1 10 (.slice a L k) (by exact rfl) rfl (by kernel_rfl) (by kernel_rfl) (by kernel_rfl) (fun _ _ _ h => h) (Or.inl ⟨by rfl, ?_⟩) (by assumption) ?_
  · intro wq hS
    have c0 := hS.cell 0 (v := .slice a L k) rfl
    go_simp
  try simp only [Act.put, List.setIfInBounds_toArray, List.set_cons_zero, List.set_cons_succ]
  refine takeD 2 11 (.slice (some ⟨B5, 0, none⟩) 4 4) (by exact rfl) rfl (by kernel_rfl) (by kernel_rfl) (by kernel_rfl) (fun _ _ _ h => h) (Or.inl ⟨by rfl, ?_⟩) (by assumption) ?_
  · intro wq hS
    go_simp
  try simp only [Act.put, List.setIfInBounds_toArray, List.set_cons_zero, List.set_cons_succ]
  refine takeD 3 12 (.pointer (some ⟨w.heap.size, 1, none⟩)) (by exact rfl) rfl (by kernel_rfl) (by kernel_rfl) (by kernel_rfl) (fun _ _ _ h => h) (Or.inl ⟨by rfl, ?_⟩) (by assumption) ?_
  · intro wq hS
    go_simp
  try simp only [Act.put, List.setIfInBounds_toArray, List.set_cons_zero, List.set_cons_succ]
  refine takeD 4 13 (.slice (some ⟨w.heap.size, 1, none⟩) 32 32) (by exact rfl) rfl (by kernel_rfl) (by kernel_rfl) (by kernel_rfl) (fun _ _ _ h => h) (Or.inl ⟨by rfl, ?_⟩) (by assumption) ?_
  · intro wq hS
    go_simp
  try simp only [Act.put, List.setIfInBounds_toArray, List.set_cons_zero, List.set_cons_succ]
  refine takeD 7 16 (.int .i64 (num : Int)) (by exact rfl) rfl (by kernel_rfl) (by kernel_rfl) (by kernel_rfl) (fun _ _ _ h => h) (Or.inl ⟨by rfl, ?_⟩) (by assumption) ?_
  · intro wq hS
    go_simp
  try simp only [Act.put, List.setIfInBounds_toArray, List.set_cons_zero, List.set_cons_succ]
  refine wpAnyH_ready (rs := [5]) (by kernel_rfl) (by simp) ?_
  refine AllReadyH.cons (by exact rfl) (fun K hK => ?_) AllReadyH.nil
  go_simp
  refine hK.out _ _ (hHeld.alloc _) (fun hHeld2 => ?_)
  clear hK K
  try simp only [Act.put, List.setIfInBounds_toArray, List.set_cons_zero, List.set_cons_succ]
  have VG := va_new w2 [.slice a L k, .slice (some ⟨B5, 0, none⟩) 4 4, .slice (some ⟨w.heap.size, 1, none⟩) 32 32] 22
  have b3 : Below w2.heap.size w2 (w2.alloc (.cells #[.slice a L k, .slice (some ⟨B5, 0, none⟩) 4 4, .slice (some ⟨w.heap.size, 1, none⟩) 32 32] 22)) := (Below.refl _ _).alloc (Nat.le_refl _) _
  have HB3 : Hid (Below w.heap.size w (w2.alloc (.cells #[.slice a L k, .slice (some ⟨B5, 0, none⟩) 4 4, .slice (some ⟨w.heap.size, 1, none⟩) 32 32] 22))) := HB2.out.trans (b3.mono HB2.out.size)
  have HC3 := (show Hid _ from (bs_va HV5.out (crc4_by c) (Nat.le_refl 4) (by omega)).step b3)
  have HX3 := (show Hid _ from bs_lnk hHeld2 1 xs HX.out.1 HX.out.2 (fun k hk => by rw [Nat.add_comm]; rfl))
  have HVG := (show Hid _ from VG)
  clear VG b3 HV5 hHeld
  generalize w2.alloc (.cells #[.slice a L k, .slice (some ⟨B5, 0, none⟩) 4 4, .slice (some ⟨w.heap.size, 1, none⟩) 32 32] 22) = w3 at *
  generalize w2.heap.size = G at *
  refine wpAnyH_ready (rs := [6]) (by kernel_rfl) (by simp) ?_
  refine AllReadyH.cons (by exact rfl) (fun K hK => ?_) AllReadyH.nil
  go_simp
  refine (concat3_ok G 0 _ _ _ p (crc4 c) xs w3 (HVG.out.cell 0 (v := .slice a L k) rfl) (HVG.out.cell 1 (v := .slice (some ⟨B5, 0, none⟩) 4 4) rfl) (HVG.out.cell 2 (v := .slice (some ⟨w.heap.size, 1, none⟩) 32 32) rfl) (HP0.out.step HB3.out) HC3.out HX3.out h0 (by rw [HX.out.1]; simp [crc4]; omega)).mono ?_
  rintro e w4 ⟨⟨uc, rfl, oc⟩, bc⟩
  have HB4 : Hid (Below w.heap.size w w4) := HB3.out.trans (bc.mono HB3.out.size)
  have HO4 := (show Hid _ from oc)
  go_wp2_with fail
  refine hK.out _ _ (hHeld2.step bc) (fun hHeld3 => ?_)
  clear hK K oc bc hHeld2 HC3 HX3 HVG HB3
  try simp only [Act.put, List.setIfInBounds_toArray, List.set_cons_zero, List.set_cons_succ]
  refine wpAnyH_ready (rs := [8]) (by kernel_rfl) (by simp) ?_
  refine AllReadyH.cons (by exact rfl) (fun K hK => ?_) AllReadyH.nil
  go_simp
  refine (headmk_ok num hnum w4).mono ?_
  rintro e w5 ⟨rfl, vn, bn⟩
  have HB5 : Hid (Below w.heap.size w w5) := HB4.out.trans (bn.mono HB4.out.size)
  have HO5 := (show Hid _ from HO4.out.bs.step bn)
  have HN5 := (show Hid _ from vn)
  go_wp2_with fail
  refine hK.out _ _ (hHeld3.step bn) (fun hHeld4 => ?_)
  clear hK K vn bn hHeld3 HO4 HB4
  try simp only [Act.put, List.setIfInBounds_toArray, List.set_cons_zero, List.set_cons_succ]
  generalize w4.heap.size = Bn at *
  have hbl : (p ++ crc4 (crc p) ++ xs).length ≤ 4132 := by have := HX.out.1; simp [crc4]; omega
  rw [← HC.out] at HO5
  obtain ⟨sa, l2, k2, rfl⟩ : ∃ sa l2 k2, uc = .slice sa l2 k2 := by obtain ⟨_, a, c, e, _⟩ := HO5.out; exact ⟨_, _, _, e⟩
  have HL2 : Hid (l2 ≤ 4132) := (show l2 ≤ 4132 by have hl2 := HO5.out.len.1; omega)
  clear hbl
  refine wpAnyH_ready (rs := [9]) (by kernel_rfl) (by simp) ?_
  refine AllReadyH.cons (by exact rfl) (fun K hK => ?_) AllReadyH.nil
  go_simp
  refine (cut_ok w5 num Bn hnum HN5.out 177 (by omega) sa l2 k2 _ HO5.out HL2.out).mono ?_
  rintro e w6 ⟨⟨u6, rfl, o6⟩, b6⟩
  have HB6 : Hid (Below w.heap.size w w6) := HB5.out.trans (b6.mono HB5.out.size)
  have HO6 : Hid (OwnB w6 w.heap.size u6 (secL num p xs)) := o6.lower HB5.out.size
  go_wp2_with fail
  refine hK.out _ _ (hHeld4.step b6) (fun hHeld5 => ?_)
  clear hK K o6 b6 hHeld4 HB5
  try simp only [Act.put, List.setIfInBounds_toArray, List.set_cons_zero, List.set_cons_succ]
  refine takeD 10 4 (u6) (by exact rfl) rfl (by kernel_rfl) (by kernel_rfl) (by kernel_rfl) (fun _ _ _ h => h) (Or.inl ⟨by rfl, ?_⟩) (by assumption) ?_
  · intro wq hS
    go_simp
  try simp only [Act.put, List.setIfInBounds_toArray, List.set_cons_zero, List.set_cons_succ]
  refine wpAnyH_done (by kernel_rfl) ?_ _
  refine NoPanic.normal ?_
  clear hHeld5
  go_wp2_with fail
  go_ret
  exact ⟨⟨_, rfl, HO6.out⟩, HB6.out⟩
end Go.Proofs.YtkmdegmpffgplaaGreatDoor
/- log III: what a change of the log leaves; ahead, follow; Chain. -/
namespace Go.Proofs.YtkmdegmpffgplaaGreatDoor
open Go.RowKit Go.Maps Go.Sort Go.Shelf pk
set_option linter.unusedVariables false
set_option linter.unusedSimpArgs false

/-- all but the log's cells is as it was -/
structure KeL (w w' : World) : Prop where
  os : w'.os = w.os
  tape : w'.tape = w.tape
  output : w'.output = w.output
  size : w.heap.size ≤ w'.heap.size
  blk : ∀ (i : Nat) (o : Obj), w.heap[i]? = some o → (∀ cs z, o ≠ .cells cs 73 z) → w'.heap[i]? = some o
theorem KeL.upd {w w' : World} {q : Nat} {cs : List Value} (h : Upd q w w') (v : VA w q cs 73) : KeL w w' :=
  ⟨h.os, h.tape, h.output, Nat.le_of_eq h.size.symm, fun i o e hn => (h.block i (fun er => by subst er; rw [v.blk] at e; cases e; exact hn _ _ rfl)).trans e⟩
theorem VA.kel {w w' : World} {q : Nat} {cs : List Value} {T : TypeId} (h : VA w q cs T) (k : KeL w w') (hT : T ≠ 73) : VA w' q cs T := ⟨k.blk _ _ h.blk (fun _ _ e => by cases e; exact hT rfl)⟩
/-- the disk doesn't mind what the log does -/
theorem DA.kel {w w' : World} {B p m : Nat} {x : AD} (h : DA w B p m x) (k : KeL w w') : DA w' B p m x := by
  obtain ⟨es, u, hD, hab, hu, hun⟩ := h
  refine ⟨es, u, ⟨hD.va.kel k (by decide), hD.mp.blk ?_, fun e he => ?_, hD.ap, hD.lo, hD.fits⟩, hab, ?_, hun⟩
  · obtain ⟨ms, c, hm⟩ := map_blk hD.mp
    exact (k.blk _ _ hm (fun _ _ e => by cases e)).trans hm.symm
  · have f := hD.fil e he
    refine ⟨f.blk.kel k (by decide), f.row.blk (fun g hg => ?_), f.lo, f.sy, f.byte, f.nm⟩
    obtain ⟨cs, hc⟩ := row_blk f.row hg
    exact (k.blk _ _ hc (fun _ _ e => by cases e)).trans hc.symm
  · cases hq : x.und with
    | none => rw [hq] at hu; exact hu
    | some o =>
      rw [hq] at hu
      rcases hu with ⟨h1, Bf, e, h2, h3, h4⟩ | ⟨h1, hn, Bf, Bn, e, h2, h3, h4, h5⟩ | ⟨h1, hn, Bd, Ba, Bf, Bb, e, h2, h3, h4, h5, h6, h7⟩ | ⟨h1, Bd, Ba, e, h2, h3, h4, h5⟩
      · exact .inl ⟨h1, Bf, e, h2, h3, h4.kel k (by decide)⟩
      · exact .inr (.inl ⟨h1, hn, Bf, Bn, e, h2, h3, h4.kel k (by decide), h5.kel k (by decide)⟩)
      · exact .inr (.inr (.inr ⟨h1, Bd, Ba, e, h2, h3, h4.kel k (by decide), h5.kel k (by decide)⟩))
/-- cells of types other than the disk's and the log's are as they were -/
structure Kel (w w' : World) : Prop where
  size : w.heap.size ≤ w'.heap.size
  blk : ∀ (i : Nat) (cs : Array Value) (T : TypeId) (z : Nat × Nat), w.heap[i]? = some (Obj.cells cs T z) → ¬ Dt T → T ≠ 73 → w'.heap[i]? = some (Obj.cells cs T z)
theorem Kel.refl (w : World) : Kel w w := ⟨Nat.le_refl _, fun _ _ _ _ h _ _ => h⟩
theorem Kel.trans {a b c : World} (h : Kel a b) (k : Kel b c) : Kel a c := ⟨Nat.le_trans h.size k.size, fun i cs T z e h1 h2 => k.blk i cs T z (h.blk i cs T z e h1 h2) h1 h2⟩
theorem Kee.kel {w w' : World} (h : Kee w w') : Kel w w' := ⟨h.size, fun i cs T z e h1 _ => h.blk i cs T z e h1⟩
theorem KeL.kel {w w' : World} (h : KeL w w') : Kel w w' := ⟨h.size, fun i cs T z e _ h2 => h.blk i _ e (fun _ _ e2 => by cases e2; exact h2 rfl)⟩
/-- the elements lie in a block that neither the disk nor the log changes -/
def SafeL (w : World) (v : Value) : Prop := ∀ b off n c, v = .slice (some ⟨b, off, none⟩) n c → ∃ cs T z, w.heap[b]? = some (Obj.cells cs T z) ∧ ¬ Dt T ∧ T ≠ 73
theorem SafeL.safe {w : World} {v : Value} (h : SafeL w v) : Safe w v := fun b off n c e => by
  obtain ⟨cs, T, z, h1, h2, _⟩ := h b off n c e
  exact ⟨cs, T, z, h1, h2⟩
theorem SafeL.kel {w w' : World} {v : Value} (h : SafeL w v) (k : Kel w w') : SafeL w' v := fun b off n c e => by
  obtain ⟨cs, T, z, hb, hT, hR⟩ := h b off n c e
  exact ⟨cs, T, z, k.blk _ _ _ _ hb hT hR, hT, hR⟩
theorem pk.Bs.kel {w w' : World} {v : Value} {bs : List Nat} (h : Bs w v bs) (hs : SafeL w v) (k : Kel w w') : Bs w' v bs := by
  obtain ⟨hby, a, c, rfl, h1, h2, h3, h4⟩ := h
  refine ⟨hby, a, c, rfl, h1, h2, h3, fun h0 => ?_⟩
  obtain ⟨b, off, rfl, hb, hx⟩ := h4 h0
  obtain ⟨cs, T, z, hc, hT, hR⟩ := hs b off _ c rfl
  have hk := k.blk _ _ _ _ hc hT hR
  refine ⟨b, off, rfl, Nat.lt_of_lt_of_le hb k.size, fun j hj => ?_⟩
  rw [← hx j hj]
  unfold World.cell?
  rw [hk, hc]
theorem pk.OwnB.safeL {w : World} {B : Nat} {v : Value} {bs : List Nat} (h : OwnB w B v bs) : SafeL w v := fun b off n c e => by
  rcases h.own.2 with ⟨e2, _⟩ | ⟨q, cap, cur, e2, _, hq, _⟩
  · rw [e2] at e; cases e
  · rw [e2] at e
    cases e
    exact ⟨_, _, _, hq, by unfold Dt; decide, by decide⟩
/-- a link after a link -/
def chn (xs bs : List Nat) : List Nat := sha (xs ++ bs)
theorem chn_len (xs bs : List Nat) : (chn xs bs).length = 32 := ob_len _ _
theorem chn_by (xs bs : List Nat) : By (chn xs bs) := ob_by _ _
theorem chainL_ok (xs : List Nat) (v : Value) (bs : List Nat) (w : World) (hx : xs.length = 32) (hby : By xs) (h : Bs w v bs) (hl : bs.length ≤ 140737488355296) (T : Tb w) :
    Calls Tryz.prog 29 #[.agg (lnk xs).toArray, v] w fun e w' => e = .returned (.agg (lnk (chn xs bs)).toArray) ∧ Below w.heap.size w w' := by
  have := chain_ok xs v bs w hx hby h hl T
  rw [lnk_cl hx, lnk_cl (show (sha (xs ++ bs)).length = 32 from ob_len _ _)] at this
  exact this
/-- what the next link hangs on -/
def LG.ahd (g : LG) : List Nat := if g.empty then List.replicate 32 0 else g.last
theorem lnk_zero : lnk (List.replicate 32 0) = List.replicate 32 (.int .u8 0) := rfl
theorem cells_last (g : LG) (p : Nat) (j : Nat) (v : Value) (h : (lnk g.last)[j]? = some v) : (g.cells p)[5 + j]? = some v := by
  have hj : j < 32 := by have := (List.getElem?_eq_some_iff.1 h).1; rwa [lnk_len] at this
  unfold LG.cells
  rw [show 5 + j = j + 1 + 1 + 1 + 1 + 1 by omega]
  simp only [List.getElem?_cons_succ]
  rw [List.getElem?_append_left (by rw [lnk_len]; exact hj)]
  exact h
set_option maxRecDepth 100000 in
set_option maxHeartbeats 1000000 in
theorem ahead_ok (w : World) (lp p : Nat) (g : LG) (h : Lg w lp p g) (ho : g.ok) :
    Calls Tryz.prog 30 #[.pointer (some ⟨lp, 0, none⟩)] w fun e w' => e = .returned (.agg (lnk g.ahd).toArray) ∧ Below w.heap.size w w' := by
  have D := (Below.refl w.heap.size w).alloc (Nat.le_refl _) (.cells (List.replicate 32 (Value.int .u8 0)).toArray 71)
  have HD : Hid (Below w.heap.size w (w.alloc (.cells #[.int .u8 0, .int .u8 0, .int .u8 0, .int .u8 0, .int .u8 0, .int .u8 0, .int .u8 0, .int .u8 0, .int .u8 0, .int .u8 0, .int .u8 0, .int .u8 0, .int .u8 0, .int .u8 0, .int .u8 0, .int .u8 0, .int .u8 0, .int .u8 0, .int .u8 0, .int .u8 0, .int .u8 0, .int .u8 0, .int .u8 0, .int .u8 0, .int .u8 0, .int .u8 0, .int .u8 0, .int .u8 0, .int .u8 0, .int .u8 0, .int .u8 0, .int .u8 0] 71))) := D
  have HV : Hid (VA (w.alloc (.cells #[.int .u8 0, .int .u8 0, .int .u8 0, .int .u8 0, .int .u8 0, .int .u8 0, .int .u8 0, .int .u8 0, .int .u8 0, .int .u8 0, .int .u8 0, .int .u8 0, .int .u8 0, .int .u8 0, .int .u8 0, .int .u8 0, .int .u8 0, .int .u8 0, .int .u8 0, .int .u8 0, .int .u8 0, .int .u8 0, .int .u8 0, .int .u8 0, .int .u8 0, .int .u8 0, .int .u8 0, .int .u8 0, .int .u8 0, .int .u8 0, .int .u8 0, .int .u8 0] 71)) w.heap.size (List.replicate 32 (Value.int .u8 0)) 71) := va_new w (List.replicate 32 (Value.int .u8 0)) 71
  have HL : Hid (Lg w lp p g) := h
  have HE := (show Hid _ from fun w' (k : Below w.heap.size w w') => isEmpty_ok w' lp p g (h.step k) ho)
  clear D h
  go_enter Tryz.func30, Tryz.ntmps30
  go_wp2_with fail
  generalize w.alloc (.cells #[.int .u8 0, .int .u8 0, .int .u8 0, .int .u8 0, .int .u8 0, .int .u8 0, .int .u8 0, .int .u8 0, .int .u8 0, .int .u8 0, .int .u8 0, .int .u8 0, .int .u8 0, .int .u8 0, .int .u8 0, .int .u8 0, .int .u8 0, .int .u8 0, .int .u8 0, .int .u8 0, .int .u8 0, .int .u8 0, .int .u8 0, .int .u8 0, .int .u8 0, .int .u8 0, .int .u8 0, .int .u8 0, .int .u8 0, .int .u8 0, .int .u8 0, .int .u8 0] 71) = w0 at *
  refine Calls.mono (HE.out _ HD.out) ?_
  rintro e w1 ⟨rfl, b1⟩
  have HD1 : Hid (Below w.heap.size w w1) := HD.out.trans (b1.mono HD.out.size)
  have HV1 : Hid (VA w1 w.heap.size (List.replicate 32 (Value.int .u8 0)) 71) := HV.out.step b1
  have HL1 : Hid (Lg w1 lp p g) := HL.out.step HD1.out
  clear b1 HD HV HL HE
  cases hem : g.empty with
  | true =>
    have HA : Hid (g.ahd = List.replicate 32 0) := (show g.ahd = List.replicate 32 0 by unfold LG.ahd; rw [hem]; rfl)
    clear hem
    go_wp2_with (refine stA rfl 71 _ _ rfl w.heap.size (by rfl) _ (List.replicate 32 (Value.int .u8 0)) (by rfl) _ HV1.out infol (by simp) (fun u hu => by rw [List.eq_of_mem_replicate hu]; rfl) ?_; intro w2 R2 U2)
    refine bodyPost_ret (v := .agg (lnk g.ahd).toArray) ?_ rfl ⟨rfl, U2.bel HD1.out (Nat.le_refl _)⟩
    rw [HA.out, lnk_zero]
    have hld := run_loadVar_row (P := Tryz.prog) w2 w.heap.size 71 71 _ (0, 0) _ R2.blk Tryz.underlying71 rfl infol
    simp only [results, Tryz.results30, asAddr, hld, Act.put]
    simp [asAddr, hld]
  | false =>
    have HA : Hid (g.ahd = g.last) := (show g.ahd = g.last by unfold LG.ahd; rw [hem]; rfl)
    clear hem
    go_wp2_with (first | (refine wpList_load_mid rfl 71 _ rfl lp 5 (by rfl) (lnk g.last) _ (fun j v hv => HL1.out.cell (5 + j) (cells_last g p j v hv)) Tryz.underlying71 rfl (infol.trans (by rw [lnk_len])) ?_) | (refine stA rfl 71 _ _ rfl w.heap.size (by rfl) _ (lnk g.last) (by rfl) _ HV1.out (infol.trans (by rw [lnk_len])) (by rw [lnk_len]; rfl) (fun u hu => lnk_one hu) ?_; intro w2 R2 U2))
    refine bodyPost_ret (v := .agg (lnk g.ahd).toArray) ?_ rfl ⟨rfl, U2.bel HD1.out (Nat.le_refl _)⟩
    rw [HA.out]
    have hld := run_loadVar_row (P := Tryz.prog) w2 w.heap.size 71 71 _ (0, 0) _ R2.blk Tryz.underlying71 rfl (infol.trans (by rw [List.size_toArray, lnk_len]))
    simp only [results, Tryz.results30, asAddr, hld, Act.put]
    simp [asAddr, hld]
end Go.Proofs.YtkmdegmpffgplaaGreatDoor
