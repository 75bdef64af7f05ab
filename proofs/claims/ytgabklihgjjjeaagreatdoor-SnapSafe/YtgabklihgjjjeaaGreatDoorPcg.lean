/- parts VIII: Crc; snap's sectors. -/
import Derived.Test.YtgabklihgjjjeaaGreatDoorPcr
namespace Go.Proofs.YtgabklihgjjjeaaGreatDoor
open Go.RowKit Go.Shelf pk
set_option linter.unusedVariables false
set_option linter.unusedSimpArgs false

def crc4 (c : Nat) : List Nat := [c / 16777216 % 256, c / 65536 % 256, c / 256 % 256, c % 256]
theorem crc4_by (c : Nat) : By (crc4 c) := fun x hx => by
  unfold crc4 at hx
  simp at hx
  omega
theorem info4 : (Tryz.prog.info? 83).map (·.size) = some 4 := by kernel_rfl
theorem crc4_cl (c : Nat) (hc : c < 4294967296) : cl (crc4 c) = [.int .u8 ((c : Int) / 16777216), .int .u8 ((c : Int) / 65536 % 256), .int .u8 ((c : Int) / 256 % 256), .int .u8 ((c : Int) % 256)] := by
  unfold cl crc4
  have e1 : c / 16777216 % 256 = c / 16777216 := by omega
  simp [e1]
set_option maxRecDepth 100000 in
theorem pcrc_ok (v : Value) (bs : List Nat) (w : World) (h : Bs w v bs) :
    Calls Tryz.prog 42 #[v] w fun e w' => e = .returned (.agg (cl (crc4 (crc bs))).toArray) ∧ Below w.heap.size w w' := by
  have hb0 := (Below.refl w.heap.size w).alloc (Nat.le_refl _) (.cells #[.int .u8 0, .int .u8 0, .int .u8 0, .int .u8 0] 83)
  have hlt : crc bs < 4294967296 := crc_lt bs h.byte
  have HB := (show Hid _ from h.step hb0)
  obtain ⟨_, a, n, rfl, _⟩ := h
  generalize bs.length = L at *
  have HE : Hid (cl (crc4 (crc bs)) = [.int .u8 ((crc bs : Int) / 16777216), .int .u8 ((crc bs : Int) / 65536 % 256), .int .u8 ((crc bs : Int) / 256 % 256), .int .u8 ((crc bs : Int) % 256)]) := crc4_cl _ hlt
  generalize hcc : crc bs = c at *
  have HCC : Hid (crc bs = c) := hcc
  clear hcc hb0
  have V := va_new w [.int .u8 ((c : Int) / 16777216), .int .u8 ((c : Int) / 65536 % 256), .int .u8 ((c : Int) / 256 % 256), .int .u8 ((c : Int) % 256)] 83
  have hld := run_loadVar_row (P := Tryz.prog) _ w.heap.size 83 83 _ (0, 0) _ V.blk Tryz.underlying83 rfl info4
  clear V
  go_enter Tryz.func42, Tryz.ntmps42
  go_wp2_with (go_at_call 68; refine (crc_ok _ bs _ HB.out).mono ?_; rintro e w1 ⟨rfl, rfl⟩; rw [HCC.out])
  refine bodyPost_ret (v := .agg #[.int .u8 ((c : Int) / 16777216), .int .u8 ((c : Int) / 65536 % 256), .int .u8 ((c : Int) / 256 % 256), .int .u8 ((c : Int) % 256)]) (by simp [results, Tryz.results42, go_sem, asAddr, hld]) rfl ?_
  exact ⟨by rw [HE.out], (Below.refl _ _).alloc (Nat.le_refl _) _⟩
-- GEN
theorem pcrc_exp (v : Value) (bs : List Nat) (w : World) (h : Bs w v bs) (c : Nat) (hc : crc bs = c) :
    Calls Tryz.prog 42 #[v] w fun e w' => e = .returned (.agg #[.int .u8 ((c : Int) / 16777216), .int .u8 ((c : Int) / 65536 % 256), .int .u8 ((c : Int) / 256 % 256), .int .u8 ((c : Int) % 256)]) ∧ Below w.heap.size w w' := by
  have := pcrc_ok v bs w h
  rw [crc4_cl _ (crc_lt bs h.byte), hc] at this
  exact this
/-- the body of a snapshot -/
def bodyS (p : List Nat) : List Nat := p ++ crc4 (crc p)
/-- its sectors -/
def secS (p : List Nat) : List Nat := cutB 178 hd6 (bodyS p)
theorem bodyS_len (p : List Nat) : (bodyS p).length = p.length + 4 := by unfold bodyS; rw [List.length_append]; rfl
theorem bodyS_by {p : List Nat} (h : By p) : By (bodyS p) := h.app (crc4_by _)
theorem concat_at (w w1 : World) (p : List Nat) (a : Option Addr) (k c : Nat) (h : Bs w (.slice a p.length k) p) (b1 : Below w.heap.size w w1) (hc : crc p = c) (h0 : 0 < p.length) (hl : p.length ≤ 400000) :
    Calls Tryz.prog 72 #[.slice (some ⟨w1.heap.size + 1, 0, none⟩) 2 2] ((w1.alloc (.cells #[.int .u8 ((c : Int) / 16777216), .int .u8 ((c : Int) / 65536 % 256), .int .u8 ((c : Int) / 256 % 256), .int .u8 ((c : Int) % 256)] 83)).alloc (.cells #[.slice a p.length k, .slice (some ⟨w1.heap.size, 0, none⟩) 4 4] 22)) fun e w' => (∃ u, e = .returned u ∧ OwnB w' w.heap.size u (bodyS p)) ∧ Below w.heap.size w w' := by
  have hlt : c < 4294967296 := by rw [← hc]; exact crc_lt p h.byte
  have V1 := va_new w1 [.int .u8 ((c : Int) / 16777216), .int .u8 ((c : Int) / 65536 % 256), .int .u8 ((c : Int) / 256 % 256), .int .u8 ((c : Int) % 256)] 83
  rw [← crc4_cl c hlt] at V1
  have hw2 : ∃ w2, w2 = w1.alloc (.cells #[.int .u8 ((c : Int) / 16777216), .int .u8 ((c : Int) / 65536 % 256), .int .u8 ((c : Int) / 256 % 256), .int .u8 ((c : Int) % 256)] 83) := ⟨_, rfl⟩
  obtain ⟨w2, hw2⟩ := hw2
  have b2 : Below w.heap.size w w2 := by rw [hw2]; exact b1.alloc b1.size _
  have hs2 : w2.heap.size = w1.heap.size + 1 := by rw [hw2]; simp
  have V1' : VA w2 w1.heap.size (cl (crc4 c)) 83 := by rw [hw2]; rw [crc4_cl c hlt] at V1 ⊢; exact V1
  rw [← hw2, ← hs2]
  clear V1
  have V3 := va_new w2 [.slice a p.length k, .slice (some ⟨w1.heap.size, 0, none⟩) 4 4] 22
  have b3 : Below w2.heap.size w2 (w2.alloc (.cells #[.slice a p.length k, .slice (some ⟨w1.heap.size, 0, none⟩) 4 4] 22)) := (Below.refl _ _).alloc (Nat.le_refl _) _
  have HX := (h.step b2).step b3
  have HY := (bs_va V1' (crc4_by c) (Nat.le_refl 4) (by omega)).step b3
  have C0 := V3.cell 0 (v := .slice a p.length k) rfl
  have C1 := V3.cell 1 (v := .slice (some ⟨w1.heap.size, 0, none⟩) 4 4) rfl
  have b4 := b2.trans (b3.mono b2.size)
  obtain ⟨w3, hw3⟩ : ∃ w3, w3 = w2.alloc (.cells #[.slice a p.length k, .slice (some ⟨w1.heap.size, 0, none⟩) 4 4] 22) := ⟨_, rfl⟩
  rw [← hw3] at HX HY b4
  have C0' : w3.cell? ⟨w2.heap.size, 0, none⟩ = some (.slice a p.length k) := by rw [hw3]; exact C0
  have C1' : w3.cell? ⟨w2.heap.size, 0 + 1, none⟩ = some (.slice (some ⟨w1.heap.size, 0, none⟩) 4 4) := by rw [hw3]; exact C1
  rw [← hw3]
  have hln : (crc4 c).length = 4 := rfl
  rw [hln] at HY
  refine (concat_ok _ 0 _ _ p (crc4 c) w3 C0' C1' HX HY h0 (by omega)).mono ?_
  rintro e w4 ⟨⟨u, rfl, o4⟩, b5⟩
  unfold bodyS
  rw [hc]
  exact ⟨⟨u, rfl, o4.lower b4.size⟩, b4.trans (b5.mono b4.size)⟩
set_option maxRecDepth 100000 in
set_option maxHeartbeats 1000000 in
theorem sectors_ok (v : Value) (p : List Nat) (w : World) (h : Bs w v p) (h0 : 0 < p.length) (hl : p.length ≤ 400000) :
    Calls Tryz.prog 46 #[v] w fun e w' => (∃ u, e = .returned u ∧ OwnB w' w.heap.size u (secS p)) ∧ Below w.heap.size w w' := by
  have HP : Hid (Bs w v p) := h
  obtain ⟨hby, a, k, rfl, hk1, hk2, _⟩ := h
  obtain ⟨L, hL⟩ : ∃ L, L = p.length := ⟨_, rfl⟩
  rw [← hL] at HP h0 hl hk1 ⊢
  have HL : Hid (L = p.length) := hL
  have HBY : Hid (By p) := hby
  obtain ⟨c, hc⟩ : ∃ c, c = crc p := ⟨_, rfl⟩
  have HC : Hid (crc p = c) := hc.symm
  have HLT : Hid (c < 4294967296) := (show c < 4294967296 by rw [hc]; exact crc_lt p hby)
  clear hL hc hby
  go_enter Tryz.func46, Tryz.ntmps46
  go_wp2_with fail
  refine (pcrc_exp _ p _ HP.out c HC.out).mono ?_
  rintro e w1 ⟨rfl, b1⟩
  have HB1 := (show Hid _ from b1)
  clear b1
  go_wp2_with fail
  have HCC := concat_at w w1 p a k c
  rw [← HL.out] at HCC
  refine (HCC HP.out HB1.out HC.out h0 hl).mono ?_
  rintro e w2 ⟨⟨u, rfl, o2⟩, b2⟩
  have HBS2 : Hid (Bs w2 u (bodyS p)) := o2.bs
  have HB4 : Hid (Below w.heap.size w w2) := b2
  obtain ⟨sa, l2, k2, rfl⟩ : ∃ sa l2 k2, u = .slice sa l2 k2 := by obtain ⟨_, a, c, e, _⟩ := HBS2.out; exact ⟨_, _, _, e⟩
  have hl2 : l2 = L + 4 := by obtain ⟨_, a, c, e, _⟩ := HBS2.out; injection e with _ e2 _; rw [e2, bodyS_len, ← HL.out]
  have HL2 : Hid (l2 ≤ 400004) := (show l2 ≤ 400004 by omega)
  clear o2 b2 HCC hl2
  go_wp2_with fail
  refine (cut_ok _ 178 (by omega) _ _ _ _ HBS2.out HL2.out).mono ?_
  rintro e w3 ⟨⟨u, rfl, o3⟩, b3⟩
  have HO3 : Hid (OwnB w3 w.heap.size u (secS p)) := o3.lower HB4.out.size
  have HB5 : Hid (Below w.heap.size w w3) := HB4.out.trans (b3.mono HB4.out.size)
  clear o3 b3
  go_wp2_with fail
  go_ret
  exact ⟨⟨_, rfl, HO3.out⟩, HB5.out⟩
end Go.Proofs.YtgabklihgjjjeaaGreatDoor
