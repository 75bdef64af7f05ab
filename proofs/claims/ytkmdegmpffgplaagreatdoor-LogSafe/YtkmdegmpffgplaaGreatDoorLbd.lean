/- log VIII: readFirst of nothing; isLinked. -/
import Derived.Test.YtkmdegmpffgplaaGreatDoorLbc
namespace Go.Proofs.YtkmdegmpffgplaaGreatDoor
open Go.RowKit Go.Maps Go.Sort Go.Shelf pk
set_option linter.unusedVariables false
set_option linter.unusedSimpArgs false
theorem rcd_zero : rcd none 0 0 (List.replicate 32 0) = [.slice none 0 0, .int .u8 0, .int .u8 0, .int .u8 0, .int .u8 0, .int .u8 0, .int .u8 0, .int .u8 0, .int .u8 0, .int .u8 0, .int .u8 0, .int .u8 0, .int .u8 0, .int .u8 0, .int .u8 0, .int .u8 0, .int .u8 0, .int .u8 0, .int .u8 0, .int .u8 0, .int .u8 0, .int .u8 0, .int .u8 0, .int .u8 0, .int .u8 0, .int .u8 0, .int .u8 0, .int .u8 0, .int .u8 0, .int .u8 0, .int .u8 0, .int .u8 0, .int .u8 0] := rfl
set_option maxRecDepth 100000 in
set_option maxHeartbeats 1000000 in
theorem readFirst_none (num : Nat) (a : Option Addr) (c : Nat) (w : World) :
    Calls Tryz.prog 95 #[.int .i64 (num : Int), .slice a 0 c] w fun e w' => e = .returned (.tuple #[.agg (rcd none 0 0 (List.replicate 32 0)).toArray, .slice none 0 0, .bool false]) ∧ Below w.heap.size w w' := by
  have HD := (show Hid _ from (Below.refl w.heap.size w).alloc (Nat.le_refl _) (.cells #[.slice none 0 0, .int .u8 0, .int .u8 0, .int .u8 0, .int .u8 0, .int .u8 0, .int .u8 0, .int .u8 0, .int .u8 0, .int .u8 0, .int .u8 0, .int .u8 0, .int .u8 0, .int .u8 0, .int .u8 0, .int .u8 0, .int .u8 0, .int .u8 0, .int .u8 0, .int .u8 0, .int .u8 0, .int .u8 0, .int .u8 0, .int .u8 0, .int .u8 0, .int .u8 0, .int .u8 0, .int .u8 0, .int .u8 0, .int .u8 0, .int .u8 0, .int .u8 0, .int .u8 0] 77))
  have HV := (show Hid _ from va_new w [.slice none 0 0, .int .u8 0, .int .u8 0, .int .u8 0, .int .u8 0, .int .u8 0, .int .u8 0, .int .u8 0, .int .u8 0, .int .u8 0, .int .u8 0, .int .u8 0, .int .u8 0, .int .u8 0, .int .u8 0, .int .u8 0, .int .u8 0, .int .u8 0, .int .u8 0, .int .u8 0, .int .u8 0, .int .u8 0, .int .u8 0, .int .u8 0, .int .u8 0, .int .u8 0, .int .u8 0, .int .u8 0, .int .u8 0, .int .u8 0, .int .u8 0, .int .u8 0, .int .u8 0] 77)
  go_enter Tryz.func95, Tryz.ntmps95
  go_wp2_with (refine stA rfl 77 _ _ rfl w.heap.size (by rfl) _ [.slice none 0 0, .int .u8 0, .int .u8 0, .int .u8 0, .int .u8 0, .int .u8 0, .int .u8 0, .int .u8 0, .int .u8 0, .int .u8 0, .int .u8 0, .int .u8 0, .int .u8 0, .int .u8 0, .int .u8 0, .int .u8 0, .int .u8 0, .int .u8 0, .int .u8 0, .int .u8 0, .int .u8 0, .int .u8 0, .int .u8 0, .int .u8 0, .int .u8 0, .int .u8 0, .int .u8 0, .int .u8 0, .int .u8 0, .int .u8 0, .int .u8 0, .int .u8 0, .int .u8 0] (by rfl) _ HV.out info33 (by rfl) (fun u hu => by simp at hu; rcases hu with rfl | rfl <;> rfl) ?_; intro w2 R2 U2)
  have hld := run_loadVar_row (P := Tryz.prog) w2 w.heap.size 77 77 _ (0, 0) _ R2.blk Tryz.underlying77 rfl info33
  refine bodyPost_ret (v := .tuple #[.agg #[.slice none 0 0, .int .u8 0, .int .u8 0, .int .u8 0, .int .u8 0, .int .u8 0, .int .u8 0, .int .u8 0, .int .u8 0, .int .u8 0, .int .u8 0, .int .u8 0, .int .u8 0, .int .u8 0, .int .u8 0, .int .u8 0, .int .u8 0, .int .u8 0, .int .u8 0, .int .u8 0, .int .u8 0, .int .u8 0, .int .u8 0, .int .u8 0, .int .u8 0, .int .u8 0, .int .u8 0, .int .u8 0, .int .u8 0, .int .u8 0, .int .u8 0, .int .u8 0, .int .u8 0], .slice none 0 0, .bool false]) (by simp [results, Tryz.results95, asAddr, hld]) rfl ?_
  exact ⟨rfl, U2.bel HD.out (Nat.le_refl _)⟩
set_option maxRecDepth 100000 in
set_option maxHeartbeats 1000000 in
theorem isLinked_ok (w : World) (lp p B : Nat) (g : LG) (h : Lg w lp p g) (ho : g.ok) (hgl : g.last.length = 32 ∧ By g.last) (hTb : TbB B w) (hB : B ≤ w.heap.size) (a : Option Addr) (L k : Nat) (pl xs : List Nat) (hp : Bs w (.slice a L k) pl) (hl : pl.length ≤ 4096) (hlk : (g.empty = true ∧ g.next ≠ 1) ∨ xs = chn g.ahd pl) :
    Calls Tryz.prog 96 #[.pointer (some ⟨lp, 0, none⟩), .agg (rcd a L k xs).toArray] w fun e w' => e = .returned (.bool true) ∧ Below w.heap.size w w' := by
  have D := (Below.refl w.heap.size w).alloc (Nat.le_refl _) (.cells (rcd a L k xs).toArray 77)
  have HD := (show Hid _ from D)
  have HV := (show Hid _ from va_new w (rcd a L k xs) 77)
  have HG : Hid (∀ w', Below w.heap.size w w' → Lg w' lp p g) := fun w' kk => h.step kk
  have HOK : Hid (g.ok ∧ g.ahd.length = 32 ∧ By g.ahd) := ⟨ho, ahd_ok hgl⟩
  have HTB : Hid (TbB B w) := hTb
  have HP : Hid (Bs w (.slice a L k) pl) := hp
  have HLL : Hid (pl.length ≤ 4096) := hl
  have hn := ho.next
  clear D h ho hgl hTb hp hl
  go_enter Tryz.func96, Tryz.ntmps96
  go_upto_region 1 with fail
  generalize w.alloc (.cells (rcd a L k xs).toArray 77) = w0 at *
  go_wp2_with fail
  refine (isEmpty_ok w0 lp p g (HG.out _ HD.out) HOK.out.1).mono ?_
  rintro e w1 ⟨rfl, b1⟩
  have HD1 : Hid (Below w.heap.size w w1) := HD.out.trans (b1.mono HD.out.size)
  have HV1 : Hid (VA w1 w.heap.size (rcd a L k xs) 77) := HV.out.step b1
  have y4 := (HG.out _ HD1.out).cell 4 (v := .int .i64 (g.next : Int)) rfl
  clear b1 HD HV
  by_cases hb : g.empty = true ∧ g.next ≠ 1
  · obtain ⟨hb1, hb2⟩ := hb
    rw [hb1]
    have hb3 : ((g.next : Int) == 1) = false := by simp; omega
    have hb4 : ((g.next : Int) != 1) = true := by simp; omega
    have hb5 : ¬ (g.next : Int) = 1 := by omega
    clear hlk hb1 hb2
    generalize g.next = nx at *
    go_wp2_with fail
    go_ret
    exact ⟨rfl, HD1.out⟩
  · have hxe : xs = chn g.ahd pl := hlk.resolve_left hb
    have HXE := (show Hid _ from hxe)
    have hcase : g.empty = false ∨ (g.empty = true ∧ g.next = 1) := by
      cases he : g.empty with
      | false => exact Or.inl rfl
      | true => exact Or.inr ⟨rfl, Decidable.byContradiction (fun hne => hb ⟨he, hne⟩)⟩
    clear hxe hlk hb
    have HREST : Hid (∀ (aw : World), Below w.heap.size w aw → VA aw w.heap.size (rcd a L k xs) 77 → True) := fun _ _ _ => trivial
    clear HREST
    rcases hcase with he | ⟨he, hn1⟩
    · rw [he]
      clear he y4
      go_upto_region 3 with fail
      refine wp_region_noPanic ?_
      refine wp_region_held_drew (S := fun V => VA V w.heap.size (rcd a L k xs) 77) (by kernel_rfl) (VA.drew HV1.out) ?_
      intro hHeld
      have HD2 : Hid (Below w.heap.size w w1.drew) := HD1.out.drew
      clear HD1 HV1
      generalize w1.drew = w2 at *
      refine takeD 0 14 (.pointer (some ⟨w.heap.size, 1, none⟩)) (by exact rfl) rfl (by kernel_rfl) (by kernel_rfl) (by kernel_rfl) (fun _ _ _ h => h) (Or.inl ⟨by rfl, ?_⟩) (by assumption) ?_
      · intro wq hS
        go_simp
      try simp only [Act.put, List.setIfInBounds_toArray, List.set_cons_zero, List.set_cons_succ]
      refine takeD 1 15 (.agg (lnk xs).toArray) (by exact rfl) rfl (by kernel_rfl) (by kernel_rfl) (by kernel_rfl) (fun _ _ _ h => h) (yieldsIf_load_mid (by rfl) 71 _ rfl w.heap.size 1 (by rfl) (lnk xs) _ (fun wq hS => fun j v hv => hS.cell (1 + j) (by rw [Nat.add_comm]; exact hv)) Tryz.underlying71 rfl (infol.trans (by rw [lnk_len]))) (by assumption) ?_
      try simp only [Act.put, List.setIfInBounds_toArray, List.set_cons_zero, List.set_cons_succ]
      refine takeD 2 16 (.pointer (some ⟨lp, 0, none⟩)) (by exact rfl) rfl (by kernel_rfl) (by kernel_rfl) (by kernel_rfl) (fun _ _ _ h => h) (Or.inl ⟨by rfl, ?_⟩) (by assumption) ?_
      · intro wq hS
        go_simp
      try simp only [Act.put, List.setIfInBounds_toArray, List.set_cons_zero, List.set_cons_succ]
      refine takeD 4 18 (.pointer (some ⟨w.heap.size, 0, none⟩)) (by exact rfl) rfl (by kernel_rfl) (by kernel_rfl) (by kernel_rfl) (fun _ _ _ h => h) (Or.inl ⟨by rfl, ?_⟩) (by assumption) ?_
      · intro wq hS
        go_simp
      try simp only [Act.put, List.setIfInBounds_toArray, List.set_cons_zero, List.set_cons_succ]
      refine takeD 5 19 (.slice a L k) (by exact rfl) rfl (by kernel_rfl) (by kernel_rfl) (by kernel_rfl) (fun _ _ _ h => h) (Or.inl ⟨by rfl, ?_⟩) (by assumption) ?_
      · intro wq hS
        have c0 := hS.cell 0 (v := .slice a L k) rfl
        go_simp
      try simp only [Act.put, List.setIfInBounds_toArray, List.set_cons_zero, List.set_cons_succ]
      refine wpAnyH_ready (rs := [3]) (by kernel_rfl) (by simp) ?_
      refine AllReadyH.cons (by exact rfl) (fun K hK => ?_) AllReadyH.nil
      go_simp
      refine (ahead_ok w2 lp p g (HG.out _ HD2.out) HOK.out.1).mono ?_
      rintro e w3 ⟨rfl, b3⟩
      have HD3 : Hid (Below w.heap.size w w3) := HD2.out.trans (b3.mono HD2.out.size)
      go_wp2_with fail
      refine hK.out _ _ (hHeld.step b3) (fun hHeld => ?_)
      clear hK K b3 HD2
      try simp only [Act.put, List.setIfInBounds_toArray, List.set_cons_zero, List.set_cons_succ]
      refine wpAnyH_ready (rs := [6]) (by kernel_rfl) (by simp) ?_
      refine AllReadyH.cons (by exact rfl) (fun K hK => ?_) AllReadyH.nil
      go_simp
      refine (chainL_ok g.ahd _ pl w3 HOK.out.2.1 HOK.out.2.2 (HP.out.step HD3.out) (by have := HLL.out; omega) (HTB.out w3 (HD3.out.mono hB))).mono ?_
      rintro e w4 ⟨rfl, b4⟩
      have HD4 : Hid (Below w.heap.size w w4) := HD3.out.trans (b4.mono HD3.out.size)
      rw [← HXE.out]
      go_wp2_with fail
      refine hK.out _ _ (hHeld.step b4) (fun hHeld => ?_)
      clear hK K b4 HD3
      try simp only [Act.put, List.setIfInBounds_toArray, List.set_cons_zero, List.set_cons_succ]
      refine takeD 7 21 (.bool true) (by exact rfl) rfl (by kernel_rfl) (by kernel_rfl) (by kernel_rfl) (fun _ _ _ h => h) (Or.inl ⟨by rfl, ?_⟩) (by assumption) ?_
      · intro wq hS
        have e4 := eqLnk xs wq
        go_simp
      try simp only [Act.put, List.setIfInBounds_toArray, List.set_cons_zero, List.set_cons_succ]
      refine takeD 8 4 (.bool true) (by exact rfl) rfl (by kernel_rfl) (by kernel_rfl) (by kernel_rfl) (fun _ _ _ h => h) (Or.inl ⟨by rfl, ?_⟩) (by assumption) ?_
      · intro wq hS
        go_simp
      try simp only [Act.put, List.setIfInBounds_toArray, List.set_cons_zero, List.set_cons_succ]
      refine wpAnyH_done (by kernel_rfl) ?_ _
      refine NoPanic.normal ?_
      clear hHeld
      go_wp2_with fail
      go_ret
      exact ⟨rfl, HD4.out⟩
    · rw [he]
      rw [hn1] at y4
      clear he hn1
      go_upto_region 3 with fail
      refine wp_region_noPanic ?_
      refine wp_region_held_drew (S := fun V => VA V w.heap.size (rcd a L k xs) 77) (by kernel_rfl) (VA.drew HV1.out) ?_
      intro hHeld
      have HD2 : Hid (Below w.heap.size w w1.drew) := HD1.out.drew
      clear HD1 HV1
      generalize w1.drew = w2 at *
      refine takeD 0 14 (.pointer (some ⟨w.heap.size, 1, none⟩)) (by exact rfl) rfl (by kernel_rfl) (by kernel_rfl) (by kernel_rfl) (fun _ _ _ h => h) (Or.inl ⟨by rfl, ?_⟩) (by assumption) ?_
      · intro wq hS
        go_simp
      try simp only [Act.put, List.setIfInBounds_toArray, List.set_cons_zero, List.set_cons_succ]
      refine takeD 1 15 (.agg (lnk xs).toArray) (by exact rfl) rfl (by kernel_rfl) (by kernel_rfl) (by kernel_rfl) (fun _ _ _ h => h) (yieldsIf_load_mid (by rfl) 71 _ rfl w.heap.size 1 (by rfl) (lnk xs) _ (fun wq hS => fun j v hv => hS.cell (1 + j) (by rw [Nat.add_comm]; exact hv)) Tryz.underlying71 rfl (infol.trans (by rw [lnk_len]))) (by assumption) ?_
      try simp only [Act.put, List.setIfInBounds_toArray, List.set_cons_zero, List.set_cons_succ]
      refine takeD 2 16 (.pointer (some ⟨lp, 0, none⟩)) (by exact rfl) rfl (by kernel_rfl) (by kernel_rfl) (by kernel_rfl) (fun _ _ _ h => h) (Or.inl ⟨by rfl, ?_⟩) (by assumption) ?_
      · intro wq hS
        go_simp
      try simp only [Act.put, List.setIfInBounds_toArray, List.set_cons_zero, List.set_cons_succ]
      refine takeD 4 18 (.pointer (some ⟨w.heap.size, 0, none⟩)) (by exact rfl) rfl (by kernel_rfl) (by kernel_rfl) (by kernel_rfl) (fun _ _ _ h => h) (Or.inl ⟨by rfl, ?_⟩) (by assumption) ?_
      · intro wq hS
        go_simp
      try simp only [Act.put, List.setIfInBounds_toArray, List.set_cons_zero, List.set_cons_succ]
      refine takeD 5 19 (.slice a L k) (by exact rfl) rfl (by kernel_rfl) (by kernel_rfl) (by kernel_rfl) (fun _ _ _ h => h) (Or.inl ⟨by rfl, ?_⟩) (by assumption) ?_
      · intro wq hS
        have c0 := hS.cell 0 (v := .slice a L k) rfl
        go_simp
      try simp only [Act.put, List.setIfInBounds_toArray, List.set_cons_zero, List.set_cons_succ]
      refine wpAnyH_ready (rs := [3]) (by kernel_rfl) (by simp) ?_
      refine AllReadyH.cons (by exact rfl) (fun K hK => ?_) AllReadyH.nil
      go_simp
      refine (ahead_ok w2 lp p g (HG.out _ HD2.out) HOK.out.1).mono ?_
      rintro e w3 ⟨rfl, b3⟩
      have HD3 : Hid (Below w.heap.size w w3) := HD2.out.trans (b3.mono HD2.out.size)
      go_wp2_with fail
      refine hK.out _ _ (hHeld.step b3) (fun hHeld => ?_)
      clear hK K b3 HD2
      try simp only [Act.put, List.setIfInBounds_toArray, List.set_cons_zero, List.set_cons_succ]
      refine wpAnyH_ready (rs := [6]) (by kernel_rfl) (by simp) ?_
      refine AllReadyH.cons (by exact rfl) (fun K hK => ?_) AllReadyH.nil
      go_simp
      refine (chainL_ok g.ahd _ pl w3 HOK.out.2.1 HOK.out.2.2 (HP.out.step HD3.out) (by have := HLL.out; omega) (HTB.out w3 (HD3.out.mono hB))).mono ?_
      rintro e w4 ⟨rfl, b4⟩
      have HD4 : Hid (Below w.heap.size w w4) := HD3.out.trans (b4.mono HD3.out.size)
      rw [← HXE.out]
      go_wp2_with fail
      refine hK.out _ _ (hHeld.step b4) (fun hHeld => ?_)
      clear hK K b4 HD3
      try simp only [Act.put, List.setIfInBounds_toArray, List.set_cons_zero, List.set_cons_succ]
      refine takeD 7 21 (.bool true) (by exact rfl) rfl (by kernel_rfl) (by kernel_rfl) (by kernel_rfl) (fun _ _ _ h => h) (Or.inl ⟨by rfl, ?_⟩) (by assumption) ?_
      · intro wq hS
        have e4 := eqLnk xs wq
        go_simp
      try simp only [Act.put, List.setIfInBounds_toArray, List.set_cons_zero, List.set_cons_succ]
      refine takeD 8 4 (.bool true) (by exact rfl) rfl (by kernel_rfl) (by kernel_rfl) (by kernel_rfl) (fun _ _ _ h => h) (Or.inl ⟨by rfl, ?_⟩) (by assumption) ?_
      · intro wq hS
        go_simp
      try simp only [Act.put, List.setIfInBounds_toArray, List.set_cons_zero, List.set_cons_succ]
      refine wpAnyH_done (by kernel_rfl) ?_ _
      refine NoPanic.normal ?_
      clear hHeld
      go_wp2_with fail
      go_ret
      exact ⟨rfl, HD4.out⟩
end Go.Proofs.YtkmdegmpffgplaaGreatDoor
/- log IX: take. -/
namespace Go.Proofs.YtkmdegmpffgplaaGreatDoor
open Go.RowKit Go.Maps Go.Sort Go.Shelf pk
set_option linter.unusedVariables false
set_option linter.unusedSimpArgs false
/-- a row of bytes: where it lies, its room, its bytes -/
structure TB where
  a : Option Addr
  c : Nat
  bs : List Nat
instance : Inhabited TB := ⟨⟨none, 0, []⟩⟩
theorem infoTB : (Tryz.prog.info? 22).map (fun i => (i.zero.map (fun z => z.cells.size), i.size, i.bytes)) = some (some 1, 1, 24) := by kernel_rfl
def KT : Kd TB where
  T := 22
  S := 30
  k := 1
  bt := 24
  enc := fun b => [.slice b.a b.bs.length b.c]
  info := by
    obtain ⟨i, hi, hz⟩ := Option.map_eq_some_iff.1 infoTB
    simp only [Prod.mk.injEq] at hz
    obtain ⟨z, hz0, hz1⟩ := Option.map_eq_some_iff.1 hz.1
    exact ⟨i, z, hi, hz0, hz.2.1, hz.2.2, hz1⟩
  und := Tryz.underlying30
  pos := by decide
  len := fun _ => rfl
  one := fun x v h => by simp at h; rw [h]; rfl
/-- records: payload and link -/
abbrev Rc := List Nat × List Nat
structure Rok (r : Rc) : Prop where
  pb : By r.1
  p0 : 0 < r.1.length
  pl : r.1.length ≤ 4096
  lb : By r.2
  ll : r.2.length = 32
/-- the bytes of records, the first of which has the number n -/
def segB : Nat → List Rc → List Nat
  | _, [] => []
  | n, r :: rs => secL n r.1 r.2 ++ segB (n + 1) rs
/-- the log behind a record -/
def LG.fol (g : LG) (r : Rc) : LG := { g with last := r.2, next := g.next + 1 }
def adv (g : LG) : List Rc → LG
  | [] => g
  | r :: rs => adv (g.fol r) rs
/-- each record hangs on what came ahead of it -/
def Lkd : LG → List Rc → Prop
  | _, [] => True
  | g, r :: rs => ((g.empty = true ∧ g.next ≠ 1) ∨ r.2 = chn g.ahd r.1) ∧ Lkd (g.fol r) rs
def vlen : Value → Nat
  | .slice _ n _ => n
  | _ => 0
theorem SafeU.grown {w w' : World} {v u : Value} {B : Nat} {ts : List TB} (h : SafeU w v) (o : Own KT w B u ts) (g : w.grownBy w' u.ownBlock) : SafeU w' v := fun b off n c e => by
  obtain ⟨cs, z, h1⟩ := h b off n c e
  refine ⟨cs, z, (g.block b (hlt_of h1) (fun er => ?_)).trans h1⟩
  rcases o.own.2 with ⟨rfl, _⟩ | ⟨q, cap, cur, rfl, _, hq, _⟩
  · cases er
  · cases er
    rw [h1] at hq
    cases hq
theorem bs_grown {w w' : World} {v u : Value} {B : Nat} {bs : List Nat} {ts : List TB} (h : Bs w v bs) (hs : SafeU w v) (o : Own KT w B u ts) (g : w.grownBy w' u.ownBlock) : Bs w' v bs := by
  obtain ⟨hby, a, c, rfl, h1, h2, h3, h4⟩ := h
  refine ⟨hby, a, c, rfl, h1, h2, h3, fun h0 => ?_⟩
  obtain ⟨b, off, rfl, hb, hx⟩ := h4 h0
  obtain ⟨cs, z, hc⟩ := hs b off _ c rfl
  have hne : some b ≠ u.ownBlock := fun er => by
    rcases o.own.2 with ⟨rfl, _⟩ | ⟨q, cap, cur, rfl, _, hq, _⟩
    · cases er
    · cases er
      rw [hc] at hq
      cases hq
  refine ⟨b, off, rfl, Nat.lt_of_lt_of_le hb g.size, fun j hj => ?_⟩
  rw [← hx j hj]
  unfold World.cell?
  rw [g.block b hb hne]
theorem va_grown {w w' : World} {q : Nat} {cs : List Value} {T : TypeId} {u : Value} {B : Nat} {ts : List TB} (h : VA w q cs T) (o : Own KT w B u ts) (g : w.grownBy w' u.ownBlock) (hT : T ≠ 22) : VA w' q cs T := by
  refine ⟨(g.block q h.lt (fun er => ?_)).trans h.blk⟩
  rcases o.own.2 with ⟨rfl, _⟩ | ⟨q', cap, cur, rfl, _, hq, _⟩
  · cases er
  · cases er
    have h1 := h.blk.symm.trans hq
    injection h1 with h1
    injection h1 with _ h2 _
    exact hT h2
theorem Own.kelT {w w' : World} {B : Nat} {v : Value} {ts : List TB} (h : Own KT w B v ts) (k : KeL w w') : Own KT w' B v ts := by
  refine h.blk (fun g hg => ?_)
  rcases h.own.2 with ⟨rfl, _⟩ | ⟨q, cap, cur, rfl, _, hq, _⟩
  · cases hg
  · cases hg
    exact (k.blk _ _ hq (fun _ _ e => by cases e)).trans hq.symm
theorem But.below2 {lp : Nat} {w a b : World} (h : But (fun i => i = lp) w a) (k : Below w.heap.size a b) : But (fun i => i = lp) w b :=
  ⟨k.os.trans h.os, k.tape.trans h.tape, k.output.trans h.output, Nat.le_trans h.size k.size, fun i hi hx => (k.block i hi).trans (h.block i hi hx)⟩
theorem KeL.below2 {w a b : World} (h : KeL w a) {lp : Nat} (hb : But (fun i => i = lp) w b) (k : Below w.heap.size a b) : KeL w b :=
  ⟨k.os.trans h.os, k.tape.trans h.tape, k.output.trans h.output, Nat.le_trans h.size k.size, fun i o e hn => (k.block i (hlt_of e)).trans (h.blk i o e hn)⟩
/-- a row of payloads -/
structure Pay (w : World) (B : Nat) (u : Value) (ps : List (List Nat)) : Prop where
  ex : ∃ ts : List TB, ts.map (·.bs) = ps ∧ Own KT w B u ts ∧ ∀ t ∈ ts, Bs w (.slice t.a t.bs.length t.c) t.bs ∧ SafeU w (.slice t.a t.bs.length t.c)
theorem Pay.step {w w' : World} {B : Nat} {u : Value} {ps : List (List Nat)} (h : Pay w B u ps) (k : Below w.heap.size w w') : Pay w' B u ps := by
  obtain ⟨ts, h1, h2, h3⟩ := h.ex
  exact ⟨ts, h1, h2.step k, fun t ht => ⟨(h3 t ht).1.step k, (h3 t ht).2.kel (Kee.kel (Kee.bel k))⟩⟩
theorem Pay.kel {w w' : World} {B : Nat} {u : Value} {ps : List (List Nat)} (h : Pay w B u ps) (k : KeL w w') : Pay w' B u ps := by
  obtain ⟨ts, h1, h2, h3⟩ := h.ex
  exact ⟨ts, h1, h2.kelT k, fun t ht => ⟨(h3 t ht).1.kel (h3 t ht).2.l k.kel, (h3 t ht).2.kel k.kel⟩⟩
theorem appOneG {K : Kd TB} {w : World} {ops : Array Oper} {rest : List Oper} {o : Oper} {a : Act} {Q : Exit → Act → World → Prop} {T : TypeId} (hgd : o.guard = none) (s x : Operand)
    (ho : o.op = .call { callee := .builtin .append, args := #[s, x], argTypes := #[K.S, K.S] })
    (B : Nat) (xs : List TB) (v : Value) (d : TB) (hs : a.eval s = v) (hx : a.eval x = .slice (some ⟨w.heap.size, 0, none⟩) 1 1)
    (hown : Own K w B v xs) (hB : B ≤ w.heap.size) (hl : (xs.length + 1) * K.bt ≤ 140737488355328) (hl2 : xs.length + 1 ≤ 140737488355328)
    (cs : Array Value) (hcs : cs = (K.enc d).toArray)
    (h : ∀ v' w', Own K w' B v' (xs ++ [d]) → Below B w w' → (w.alloc (.cells cs T)).grownBy w' v.ownBlock → wpList Tryz.prog ops Q rest (a.put o.dst v') w') :
    wpList Tryz.prog ops Q (o :: rest) a (w.alloc (.cells cs T)) := by
  subst hcs
  refine appG hgd s x ho B xs [d] v ⟨w.heap.size, 0, none⟩ 1 hs hx (hown.alloc _) ?_ (by simp; omega) (by simpa using hl) (by simpa using hl2) (fun v' w' p q r => h v' w' p ?_ r)
  · intro j u hj
    have : (K.enc d)[j]? = some u := by simpa [Kd.cells] using hj
    rw [Go.WideShapes.add_plain, Nat.zero_add]
    exact (va_new w (K.enc d) T).cell j this
  · exact ((Below.refl B w).alloc hB _).trans q
theorem ldAw {w : World} {ops : Array Oper} {rest : List Oper} {o : Oper} {a : Act} {Q : Exit → Act → World → Prop} (hgd : Region.wanted o (yielded ops a.tmps) = true) (t : TypeId) (x : Operand) (ho : o.op = .load t x)
    (p : Nat) (hx : a.eval x = .pointer (some ⟨p, 0, none⟩)) (cs : List Value) (T : TypeId) (h : VA w p cs T) (d : TypeDesc) (hu : Tryz.prog.underlying t = some d) (hd : d.isRow = true) (hi : (Tryz.prog.info? t).map (·.size) = some cs.length)
    (k : wpList Tryz.prog ops Q rest (a.put o.dst (.agg cs.toArray)) w) : wpList Tryz.prog ops Q (o :: rest) a w := by
  refine wpList_step fun K hK => ?_
  rw [if_pos hgd]
  exact wp_load_mid t x ho p 0 hx cs d (fun j v hv => by rw [Nat.zero_add]; exact h.cell j hv) hu hd hi (hK _ _ k)
theorem adv_fol (g : LG) (r : Rc) (rs : List Rc) : adv g (rs ++ [r]) = (adv g rs).fol r := by
  induction rs generalizing g with
  | nil => rfl
  | cons a rs ih => exact ih (g.fol a)
theorem adv_per (g : LG) (rs : List Rc) : (adv g rs).per = g.per ∧ (adv g rs).low = g.low ∧ (adv g rs).high = g.high ∧ (adv g rs).ended = g.ended ∧ (adv g rs).next = g.next + rs.length := by
  induction rs generalizing g with
  | nil => exact ⟨rfl, rfl, rfl, rfl, rfl⟩
  | cons a rs ih =>
    obtain ⟨h1, h2, h3, h4, h5⟩ := ih (g.fol a)
    refine ⟨h1, h2, h3, h4, ?_⟩
    show (adv (g.fol a) rs).next = _
    rw [h5, List.length_cons]
    show g.next + 1 + rs.length = _
    omega
set_option maxRecDepth 100000 in
set_option maxHeartbeats 4000000 in
theorem take_ok (w : World) (lp p B : Nat) (g : LG) (h : Lg w lp p g) (hB : B ≤ lp) (ho : g.ok) (hgl : g.last.length = 32 ∧ By g.last) (hTb : TbB B w) (v : Value) (rs : List Rc) (hv : Bs w v (segB g.next rs)) (hs : SafeU w v) (hk : Lkd g rs) (hr : ∀ r ∈ rs, Rok r) (hfit : g.next + rs.length ≤ (g.high + 1) * g.per + 1) (hnx : g.next + rs.length < 4294967296) (hcnt : rs.length ≤ 100000) :
    Calls Tryz.prog 73 #[.pointer (some ⟨lp, 0, none⟩), v] w fun e w' => (∃ u ra rc, e = .returned (.tuple #[u, .slice ra 0 rc]) ∧ Pay w' w.heap.size u (rs.map (·.1))) ∧ Lg w' lp p (adv g rs) ∧ But (fun i => i = lp) w w' ∧ KeL w w' ∧ Below B w w' := by
  have HTB : Hid (TbB B w) := hTb
  have HLT : Hid (lp < w.heap.size ∧ B ≤ w.heap.size) := ⟨h.lt, Nat.le_trans hB (Nat.le_of_lt h.lt)⟩
  have HR : Hid (∀ r ∈ rs, Rok r) := hr
  have HF : Hid (g.next + rs.length ≤ (g.high + 1) * g.per + 1 ∧ g.next + rs.length < 4294967296 ∧ rs.length ≤ 100000) := ⟨hfit, hnx, hcnt⟩
  have HO : Hid (g.ok ∧ g.last.length = 32 ∧ By g.last) := ⟨ho, hgl⟩
  have HST : Hid (Lg w lp p g ∧ Bs w v (segB g.next rs) ∧ SafeU w v ∧ Lkd g rs) := ⟨h, hv, hs, hk⟩
  obtain ⟨_, va, vc, rfl, _⟩ := hv
  generalize (segB g.next rs).length = vn at *
  clear h hTb hs hk hr hfit hnx hcnt ho hgl
  go_enter Tryz.func73, Tryz.ntmps73
  go_wp2_with fail
  go_loopw [1, 6] (fun sv u wr => ∃ (done rem : List Rc) (a : Option Addr) (n c : Nat) (uv : Value), uv = u ∧ sv = .slice a n c ∧ Hid (rs = done ++ rem) ∧ Hid (Lg wr lp p (adv g done)) ∧ Hid (Bs wr (.slice a n c) (segB (adv g done).next rem) ∧ SafeU wr (.slice a n c)) ∧ Hid (Lkd (adv g done) rem) ∧ Hid ((adv g done).last.length = 32 ∧ By (adv g done).last) ∧ Hid (Pay wr w.heap.size u (done.map (·.1))) ∧ Hid (But (fun i => i = lp) w wr ∧ KeL w wr ∧ Below B w wr)) (fun sv _ _ => vlen sv)
  case atStart => exact ⟨[], rs, va, vn, vc, _, rfl, rfl, rfl, HST.out.1, ⟨HST.out.2.1, HST.out.2.2.1⟩, HST.out.2.2.2, HO.out.2, ⟨[], rfl, own_nil KT w _, fun t ht => by cases ht⟩, ⟨But.refl _ _, KeL.bel (Below.refl _ _), Below.refl _ _⟩⟩
  case round =>
    obtain ⟨done, rem, a, n, c, u, huv, rfl, HE, HL, HV, HLK, HGL, HPY, HBU⟩ := hrel
    subst huv
    obtain ⟨hp1, hp2, hp3, hp4, hp5⟩ := adv_per g done
    have HLEN : Hid (done.length + rem.length = rs.length) := (show _ = _ by rw [HE.out, List.length_append])
    generalize hgj : adv g done = gj at *
    have HGJ := (show Hid _ from hgj)
    have HPER : Hid (gj.per = g.per ∧ gj.low = g.low ∧ gj.high = g.high ∧ gj.next = g.next + done.length) := ⟨hp1, hp2, hp3, hp5⟩
    have HOK : Hid gj.ok := ⟨by rw [hp1]; exact HO.out.1.per, by rw [hp2]; exact HO.out.1.low, by rw [hp3]; exact HO.out.1.high, by have := HF.out; have := HLEN.out; omega⟩
    have hnn := HOK.out.next
    clear hgj hp1 hp2 hp3 hp4 hp5
    have HLO := (show Hid _ from fun w' (k : Lg w' lp p gj) => lastOf_ok w' lp p gj k HOK.out gj.high HOK.out.high)
    obtain ⟨la, hla⟩ : ∃ la, la = (gj.high + 1) * gj.per := ⟨_, rfl⟩
    rw [← hla] at HLO
    have HLA : Hid (la = (g.high + 1) * g.per) := (show _ = _ by rw [hla, HPER.out.2.2.1, HPER.out.1])
    have hlb : la ≤ 100000001000 := by
      rw [HLA.out]
      have h1 := HO.out.1.per
      have h2 := HO.out.1.high
      exact Nat.le_trans (Nat.mul_le_mul (show g.high + 1 ≤ 100000001 by omega) h1.2) (by omega)
    clear hla
    cases rem with
    | nil =>
      have hn0 : n = 0 := HV.out.1.len.1
      subst hn0
      have HFE : Hid (rs = done) := (show rs = done by rw [HE.out, List.append_nil])
      by_cases hcnd : gj.next ≤ la
      · have HC : Hid ((gj.next : Int) ≤ (la : Int)) := (show (gj.next : Int) ≤ (la : Int) by omega)
        clear hcnd
        go_upto_region 2 with fail
        refine wp_region_noPanic ?_
        refine wp_region_held_drew (S := fun V => Lg V lp p gj) (by kernel_rfl) (VA.drew HL.out) ?_
        intro hHeld
        have HDr : Hid (Below wr.heap.size wr wr.drew) := (Below.refl _ _).drew
        generalize wr.drew = wd at *
        refine takeD 0 10 (.pointer (some ⟨lp, 0, none⟩)) (by exact rfl) rfl (by kernel_rfl) (by kernel_rfl) (by kernel_rfl) (fun _ _ _ h => h) (Or.inl ⟨by rfl, ?_⟩) (by assumption) ?_
        · intro wq hS
          go_simp
        try simp only [Act.put, List.setIfInBounds_toArray, List.set_cons_zero, List.set_cons_succ]
        refine takeD 1 11 (.pointer (some ⟨lp, 0, none⟩)) (by exact rfl) rfl (by kernel_rfl) (by kernel_rfl) (by kernel_rfl) (fun _ _ _ h => h) (Or.inl ⟨by rfl, ?_⟩) (by assumption) ?_
        · intro wq hS
          go_simp
        try simp only [Act.put, List.setIfInBounds_toArray, List.set_cons_zero, List.set_cons_succ]
        refine takeD 2 12 (.pointer (some ⟨lp, 4, none⟩)) (by exact rfl) rfl (by kernel_rfl) (by kernel_rfl) (by kernel_rfl) (fun _ _ _ h => h) (Or.inl ⟨by rfl, ?_⟩) (by assumption) ?_
        · intro wq hS
          go_simp
        try simp only [Act.put, List.setIfInBounds_toArray, List.set_cons_zero, List.set_cons_succ]
        refine takeD 3 13 (.int .i64 (gj.next : Int)) (by exact rfl) rfl (by kernel_rfl) (by kernel_rfl) (by kernel_rfl) (fun _ _ _ h => h) (Or.inl ⟨by rfl, ?_⟩) (by assumption) ?_
        · intro wq hS
          have c := hS.cell 4 (v := .int .i64 (gj.next : Int)) rfl
          go_simp
        try simp only [Act.put, List.setIfInBounds_toArray, List.set_cons_zero, List.set_cons_succ]
        refine takeD 4 14 (.pointer (some ⟨lp, 0, none⟩)) (by exact rfl) rfl (by kernel_rfl) (by kernel_rfl) (by kernel_rfl) (fun _ _ _ h => h) (Or.inl ⟨by rfl, ?_⟩) (by assumption) ?_
        · intro wq hS
          go_simp
        try simp only [Act.put, List.setIfInBounds_toArray, List.set_cons_zero, List.set_cons_succ]
        refine takeD 5 15 (.pointer (some ⟨lp, 0, none⟩)) (by exact rfl) rfl (by kernel_rfl) (by kernel_rfl) (by kernel_rfl) (fun _ _ _ h => h) (Or.inl ⟨by rfl, ?_⟩) (by assumption) ?_
        · intro wq hS
          go_simp
        try simp only [Act.put, List.setIfInBounds_toArray, List.set_cons_zero, List.set_cons_succ]
        refine takeD 6 16 (.pointer (some ⟨lp, 0, none⟩)) (by exact rfl) rfl (by kernel_rfl) (by kernel_rfl) (by kernel_rfl) (fun _ _ _ h => h) (Or.inl ⟨by rfl, ?_⟩) (by assumption) ?_
        · intro wq hS
          go_simp
        try simp only [Act.put, List.setIfInBounds_toArray, List.set_cons_zero, List.set_cons_succ]
        refine takeD 7 17 (.pointer (some ⟨lp, 3, none⟩)) (by exact rfl) rfl (by kernel_rfl) (by kernel_rfl) (by kernel_rfl) (fun _ _ _ h => h) (Or.inl ⟨by rfl, ?_⟩) (by assumption) ?_
        · intro wq hS
          go_simp
        try simp only [Act.put, List.setIfInBounds_toArray, List.set_cons_zero, List.set_cons_succ]
        refine takeD 8 18 (.int .i64 (gj.high : Int)) (by exact rfl) rfl (by kernel_rfl) (by kernel_rfl) (by kernel_rfl) (fun _ _ _ h => h) (Or.inl ⟨by rfl, ?_⟩) (by assumption) ?_
        · intro wq hS
          have c := hS.cell 3 (v := .int .i64 (gj.high : Int)) rfl
          go_simp
        try simp only [Act.put, List.setIfInBounds_toArray, List.set_cons_zero, List.set_cons_succ]
        refine wpAnyH_ready (rs := [9]) (by kernel_rfl) (by simp) ?_
        refine AllReadyH.cons (by exact rfl) (fun K hK => ?_) AllReadyH.nil
        go_simp
        refine (HLO.out wd hHeld).mono ?_
        rintro e we ⟨rfl, rfl⟩
        skip
        go_wp2_with fail
        refine hK.out _ _ hHeld (fun hHeld => ?_)
        clear hK K 
        try simp only [Act.put, List.setIfInBounds_toArray, List.set_cons_zero, List.set_cons_succ]
        refine takeD 10 20 (.bool true) (by exact rfl) rfl (by kernel_rfl) (by kernel_rfl) (by kernel_rfl) (fun _ _ _ h => h) (Or.inl ⟨by rfl, ?_⟩) (by assumption) ?_
        · intro wq hS
          have hc := HC.out
          have hd : gj.next ≤ la := by omega
          go_simp
        try simp only [Act.put, List.setIfInBounds_toArray, List.set_cons_zero, List.set_cons_succ]
        refine wpAnyH_done (by kernel_rfl) ?_ _
        refine NoPanic.normal ?_
        clear hHeld
        have y4 := (HL.out.step HDr.out).cell 4 (v := .int .i64 (gj.next : Int)) rfl
        go_wp2_with fail
        refine (readFirst_none gj.next a c we).mono ?_
        rintro e w1 ⟨rfl, b1⟩
        clear y4
        have HD1 : Hid (Below wr.heap.size wr w1) := HDr.out.trans (b1.mono HDr.out.size)
        have HVZ := (show Hid _ from va_new w1 [.slice none 0 0, .int .u8 0, .int .u8 0, .int .u8 0, .int .u8 0, .int .u8 0, .int .u8 0, .int .u8 0, .int .u8 0, .int .u8 0, .int .u8 0, .int .u8 0, .int .u8 0, .int .u8 0, .int .u8 0, .int .u8 0, .int .u8 0, .int .u8 0, .int .u8 0, .int .u8 0, .int .u8 0, .int .u8 0, .int .u8 0, .int .u8 0, .int .u8 0, .int .u8 0, .int .u8 0, .int .u8 0, .int .u8 0, .int .u8 0, .int .u8 0, .int .u8 0, .int .u8 0] 77)
        clear b1 HDr
        go_wp2_with (refine stA rfl 77 _ _ rfl w1.heap.size (by rfl) _ (rcd none 0 0 (List.replicate 32 0)) (by rfl) _ HVZ.out (info33.trans (by rw [rcd_len])) (by rw [rcd_len]; rfl) (fun u hu => rcd_one hu) ?_; intro w2 R2 U2)
        have HD2 : Hid (Below wr.heap.size wr w2) := U2.bel (HD1.out.alloc HD1.out.size _) HD1.out.size
        clear R2 U2 HVZ HD1
        refine bodyPost_ret (v := .tuple #[u, .slice a 0 c]) (by simp [results, Tryz.results73, go_sem, asAddr]) rfl ?_
        rw [HFE.out, HGJ.out]
        exact ⟨⟨_, _, _, rfl, HPY.out.step HD2.out⟩, HL.out.step HD2.out, HBU.out.1.then HD2.out, HBU.out.2.1.trans (KeL.bel HD2.out), HBU.out.2.2.trans (HD2.out.mono (Nat.le_trans HLT.out.2 HBU.out.1.size))⟩
      · have HC : Hid (¬ (gj.next : Int) ≤ (la : Int)) := (show ¬ (gj.next : Int) ≤ (la : Int) by omega)
        clear hcnd
        go_upto_region 2 with fail
        refine wp_region_noPanic ?_
        refine wp_region_held_drew (S := fun V => Lg V lp p gj) (by kernel_rfl) (VA.drew HL.out) ?_
        intro hHeld
        have HDr : Hid (Below wr.heap.size wr wr.drew) := (Below.refl _ _).drew
        generalize wr.drew = wd at *
        refine takeD 0 10 (.pointer (some ⟨lp, 0, none⟩)) (by exact rfl) rfl (by kernel_rfl) (by kernel_rfl) (by kernel_rfl) (fun _ _ _ h => h) (Or.inl ⟨by rfl, ?_⟩) (by assumption) ?_
        · intro wq hS
          go_simp
        try simp only [Act.put, List.setIfInBounds_toArray, List.set_cons_zero, List.set_cons_succ]
        refine takeD 1 11 (.pointer (some ⟨lp, 0, none⟩)) (by exact rfl) rfl (by kernel_rfl) (by kernel_rfl) (by kernel_rfl) (fun _ _ _ h => h) (Or.inl ⟨by rfl, ?_⟩) (by assumption) ?_
        · intro wq hS
          go_simp
        try simp only [Act.put, List.setIfInBounds_toArray, List.set_cons_zero, List.set_cons_succ]
        refine takeD 2 12 (.pointer (some ⟨lp, 4, none⟩)) (by exact rfl) rfl (by kernel_rfl) (by kernel_rfl) (by kernel_rfl) (fun _ _ _ h => h) (Or.inl ⟨by rfl, ?_⟩) (by assumption) ?_
        · intro wq hS
          go_simp
        try simp only [Act.put, List.setIfInBounds_toArray, List.set_cons_zero, List.set_cons_succ]
        refine takeD 3 13 (.int .i64 (gj.next : Int)) (by exact rfl) rfl (by kernel_rfl) (by kernel_rfl) (by kernel_rfl) (fun _ _ _ h => h) (Or.inl ⟨by rfl, ?_⟩) (by assumption) ?_
        · intro wq hS
          have c := hS.cell 4 (v := .int .i64 (gj.next : Int)) rfl
          go_simp
        try simp only [Act.put, List.setIfInBounds_toArray, List.set_cons_zero, List.set_cons_succ]
        refine takeD 4 14 (.pointer (some ⟨lp, 0, none⟩)) (by exact rfl) rfl (by kernel_rfl) (by kernel_rfl) (by kernel_rfl) (fun _ _ _ h => h) (Or.inl ⟨by rfl, ?_⟩) (by assumption) ?_
        · intro wq hS
          go_simp
        try simp only [Act.put, List.setIfInBounds_toArray, List.set_cons_zero, List.set_cons_succ]
        refine takeD 5 15 (.pointer (some ⟨lp, 0, none⟩)) (by exact rfl) rfl (by kernel_rfl) (by kernel_rfl) (by kernel_rfl) (fun _ _ _ h => h) (Or.inl ⟨by rfl, ?_⟩) (by assumption) ?_
        · intro wq hS
          go_simp
        try simp only [Act.put, List.setIfInBounds_toArray, List.set_cons_zero, List.set_cons_succ]
        refine takeD 6 16 (.pointer (some ⟨lp, 0, none⟩)) (by exact rfl) rfl (by kernel_rfl) (by kernel_rfl) (by kernel_rfl) (fun _ _ _ h => h) (Or.inl ⟨by rfl, ?_⟩) (by assumption) ?_
        · intro wq hS
          go_simp
        try simp only [Act.put, List.setIfInBounds_toArray, List.set_cons_zero, List.set_cons_succ]
        refine takeD 7 17 (.pointer (some ⟨lp, 3, none⟩)) (by exact rfl) rfl (by kernel_rfl) (by kernel_rfl) (by kernel_rfl) (fun _ _ _ h => h) (Or.inl ⟨by rfl, ?_⟩) (by assumption) ?_
        · intro wq hS
          go_simp
        try simp only [Act.put, List.setIfInBounds_toArray, List.set_cons_zero, List.set_cons_succ]
        refine takeD 8 18 (.int .i64 (gj.high : Int)) (by exact rfl) rfl (by kernel_rfl) (by kernel_rfl) (by kernel_rfl) (fun _ _ _ h => h) (Or.inl ⟨by rfl, ?_⟩) (by assumption) ?_
        · intro wq hS
          have c := hS.cell 3 (v := .int .i64 (gj.high : Int)) rfl
          go_simp
        try simp only [Act.put, List.setIfInBounds_toArray, List.set_cons_zero, List.set_cons_succ]
        refine wpAnyH_ready (rs := [9]) (by kernel_rfl) (by simp) ?_
        refine AllReadyH.cons (by exact rfl) (fun K hK => ?_) AllReadyH.nil
        go_simp
        refine (HLO.out wd hHeld).mono ?_
        rintro e we ⟨rfl, rfl⟩
        skip
        go_wp2_with fail
        refine hK.out _ _ hHeld (fun hHeld => ?_)
        clear hK K 
        try simp only [Act.put, List.setIfInBounds_toArray, List.set_cons_zero, List.set_cons_succ]
        refine takeD 10 20 (.bool false) (by exact rfl) rfl (by kernel_rfl) (by kernel_rfl) (by kernel_rfl) (fun _ _ _ h => h) (Or.inl ⟨by rfl, ?_⟩) (by assumption) ?_
        · intro wq hS
          have hc := HC.out
          have hd : la < gj.next := by omega
          go_simp
        try simp only [Act.put, List.setIfInBounds_toArray, List.set_cons_zero, List.set_cons_succ]
        refine wpAnyH_done (by kernel_rfl) ?_ _
        refine NoPanic.normal ?_
        clear hHeld
        go_wp2_with fail
        refine bodyPost_ret (v := .tuple #[u, .slice a 0 c]) (by simp [results, Tryz.results73, go_sem, asAddr]) rfl ?_
        rw [HFE.out, HGJ.out]
        exact ⟨⟨_, _, _, rfl, HPY.out.step HDr.out⟩, HL.out.step HDr.out, HBU.out.1.then HDr.out, HBU.out.2.1.trans (KeL.bel HDr.out), HBU.out.2.2.trans (HDr.out.mono (Nat.le_trans HLT.out.2 HBU.out.1.size))⟩
    | cons r rem' =>
      have HRK : Hid (Rok r) := HR.out r (by rw [HE.out]; simp)
      have HC : Hid ((gj.next : Int) ≤ (la : Int)) := (show (gj.next : Int) ≤ (la : Int) by
        have h1 := HLA.out
        have h2 := HF.out.1
        rw [← h1] at h2
        have h3 := HLEN.out
        have h4 := HPER.out.2.2.2
        simp only [List.length_cons] at h3
        omega)
      have HNL : Hid (gj.next < 4294967296 ∧ (done.map (·.1)).length ≤ 100000) := (show gj.next < 4294967296 ∧ (done.map (·.1)).length ≤ 100000 by
        have h2 := HF.out
        have h3 := HLEN.out
        have h4 := HPER.out.2.2.2
        simp only [List.length_cons] at h3
        rw [List.length_map]
        omega)
      go_upto_region 2 with fail
      refine wp_region_noPanic ?_
      refine wp_region_held_drew (S := fun V => Lg V lp p gj) (by kernel_rfl) (VA.drew HL.out) ?_
      intro hHeld
      have HDr : Hid (Below wr.heap.size wr wr.drew) := (Below.refl _ _).drew
      generalize wr.drew = wd at *
      refine takeD 0 10 (.pointer (some ⟨lp, 0, none⟩)) (by exact rfl) rfl (by kernel_rfl) (by kernel_rfl) (by kernel_rfl) (fun _ _ _ h => h) (Or.inl ⟨by rfl, ?_⟩) (by assumption) ?_
      · intro wq hS
        go_simp
      try simp only [Act.put, List.setIfInBounds_toArray, List.set_cons_zero, List.set_cons_succ]
      refine takeD 1 11 (.pointer (some ⟨lp, 0, none⟩)) (by exact rfl) rfl (by kernel_rfl) (by kernel_rfl) (by kernel_rfl) (fun _ _ _ h => h) (Or.inl ⟨by rfl, ?_⟩) (by assumption) ?_
      · intro wq hS
        go_simp
      try simp only [Act.put, List.setIfInBounds_toArray, List.set_cons_zero, List.set_cons_succ]
      refine takeD 2 12 (.pointer (some ⟨lp, 4, none⟩)) (by exact rfl) rfl (by kernel_rfl) (by kernel_rfl) (by kernel_rfl) (fun _ _ _ h => h) (Or.inl ⟨by rfl, ?_⟩) (by assumption) ?_
      · intro wq hS
        go_simp
      try simp only [Act.put, List.setIfInBounds_toArray, List.set_cons_zero, List.set_cons_succ]
      refine takeD 3 13 (.int .i64 (gj.next : Int)) (by exact rfl) rfl (by kernel_rfl) (by kernel_rfl) (by kernel_rfl) (fun _ _ _ h => h) (Or.inl ⟨by rfl, ?_⟩) (by assumption) ?_
      · intro wq hS
        have c := hS.cell 4 (v := .int .i64 (gj.next : Int)) rfl
        go_simp
      try simp only [Act.put, List.setIfInBounds_toArray, List.set_cons_zero, List.set_cons_succ]
      refine takeD 4 14 (.pointer (some ⟨lp, 0, none⟩)) (by exact rfl) rfl (by kernel_rfl) (by kernel_rfl) (by kernel_rfl) (fun _ _ _ h => h) (Or.inl ⟨by rfl, ?_⟩) (by assumption) ?_
      · intro wq hS
        go_simp
      try simp only [Act.put, List.setIfInBounds_toArray, List.set_cons_zero, List.set_cons_succ]
      refine takeD 5 15 (.pointer (some ⟨lp, 0, none⟩)) (by exact rfl) rfl (by kernel_rfl) (by kernel_rfl) (by kernel_rfl) (fun _ _ _ h => h) (Or.inl ⟨by rfl, ?_⟩) (by assumption) ?_
      · intro wq hS
        go_simp
      try simp only [Act.put, List.setIfInBounds_toArray, List.set_cons_zero, List.set_cons_succ]
      refine takeD 6 16 (.pointer (some ⟨lp, 0, none⟩)) (by exact rfl) rfl (by kernel_rfl) (by kernel_rfl) (by kernel_rfl) (fun _ _ _ h => h) (Or.inl ⟨by rfl, ?_⟩) (by assumption) ?_
      · intro wq hS
        go_simp
      try simp only [Act.put, List.setIfInBounds_toArray, List.set_cons_zero, List.set_cons_succ]
      refine takeD 7 17 (.pointer (some ⟨lp, 3, none⟩)) (by exact rfl) rfl (by kernel_rfl) (by kernel_rfl) (by kernel_rfl) (fun _ _ _ h => h) (Or.inl ⟨by rfl, ?_⟩) (by assumption) ?_
      · intro wq hS
        go_simp
      try simp only [Act.put, List.setIfInBounds_toArray, List.set_cons_zero, List.set_cons_succ]
      refine takeD 8 18 (.int .i64 (gj.high : Int)) (by exact rfl) rfl (by kernel_rfl) (by kernel_rfl) (by kernel_rfl) (fun _ _ _ h => h) (Or.inl ⟨by rfl, ?_⟩) (by assumption) ?_
      · intro wq hS
        have c := hS.cell 3 (v := .int .i64 (gj.high : Int)) rfl
        go_simp
      try simp only [Act.put, List.setIfInBounds_toArray, List.set_cons_zero, List.set_cons_succ]
      refine wpAnyH_ready (rs := [9]) (by kernel_rfl) (by simp) ?_
      refine AllReadyH.cons (by exact rfl) (fun K hK => ?_) AllReadyH.nil
      go_simp
      refine (HLO.out wd hHeld).mono ?_
      rintro e we ⟨rfl, rfl⟩
      skip
      go_wp2_with fail
      refine hK.out _ _ hHeld (fun hHeld => ?_)
      clear hK K 
      try simp only [Act.put, List.setIfInBounds_toArray, List.set_cons_zero, List.set_cons_succ]
      refine takeD 10 20 (.bool true) (by exact rfl) rfl (by kernel_rfl) (by kernel_rfl) (by kernel_rfl) (fun _ _ _ h => h) (Or.inl ⟨by rfl, ?_⟩) (by assumption) ?_
      · intro wq hS
        have hc := HC.out
        have hd : gj.next ≤ la := by omega
        go_simp
      try simp only [Act.put, List.setIfInBounds_toArray, List.set_cons_zero, List.set_cons_succ]
      refine wpAnyH_done (by kernel_rfl) ?_ _
      refine NoPanic.normal ?_
      clear hHeld
      have y4 := (HL.out.step HDr.out).cell 4 (v := .int .i64 (gj.next : Int)) rfl
      go_wp2_with fail
      refine (readFirst_ok gj.next r.1 r.2 (segB (gj.next + 1) rem') a n c we (HV.out.1.step HDr.out) (HV.out.2.kel (Kee.kel (Kee.bel HDr.out))) HRK.out.pb HRK.out.lb HRK.out.p0 HRK.out.pl HRK.out.ll HNL.out.1).mono ?_
      rintro e w1 ⟨⟨pa, rv, rfl, hpb, hps, hrb, hrs, ra, rc, hrv⟩, b1⟩
      have HMS : Hid ((segB (gj.next + 1) rem').length < n) := (show _ < _ by
        have h1 := HV.out.1.len.1
        have h2 : (segB gj.next (r :: rem')).length = (secL gj.next r.1 r.2).length + (segB (gj.next + 1) rem').length := by show (secL gj.next r.1 r.2 ++ segB (gj.next + 1) rem').length = _; rw [List.length_append]
        have h3 : 32 ≤ (secL gj.next r.1 r.2).length := by rw [secL_len]; unfold cn4; omega
        omega)
      generalize hrn : (segB (gj.next + 1) rem').length = rn at *
      have HRN := (show Hid _ from hrn)
      generalize hLL : r.1.length = L at *
      have HLN := (show Hid _ from hLL)
      subst hrv
      have HD1 : Hid (Below wr.heap.size wr w1) := HDr.out.trans (b1.mono HDr.out.size)
      have HPB : Hid (Bs w1 (.slice pa L L) r.1 ∧ SafeU w1 (.slice pa L L)) := ⟨hpb, hps⟩
      have HRB : Hid (Bs w1 (.slice ra rn rc) (segB (gj.next + 1) rem') ∧ SafeU w1 (.slice ra rn rc)) := ⟨hrb, hrs⟩
      have HVZ := (show Hid _ from va_new w1 [.slice none 0 0, .int .u8 0, .int .u8 0, .int .u8 0, .int .u8 0, .int .u8 0, .int .u8 0, .int .u8 0, .int .u8 0, .int .u8 0, .int .u8 0, .int .u8 0, .int .u8 0, .int .u8 0, .int .u8 0, .int .u8 0, .int .u8 0, .int .u8 0, .int .u8 0, .int .u8 0, .int .u8 0, .int .u8 0, .int .u8 0, .int .u8 0, .int .u8 0, .int .u8 0, .int .u8 0, .int .u8 0, .int .u8 0, .int .u8 0, .int .u8 0, .int .u8 0, .int .u8 0] 77)
      clear hpb hps hrb hrs b1 HDr hrn hLL y4
      go_upto_region 4 with (refine stA rfl 77 _ _ rfl w1.heap.size (by rfl) _ (rcd pa L L r.2) (by rfl) _ HVZ.out (info33.trans (by rw [rcd_len])) (by rw [rcd_len]; rfl) (fun u hu => rcd_one hu) ?_; intro w2 R2 U2)
      have HR2 : Hid (VA w2 w1.heap.size (rcd pa L L r.2) 77) := R2
      have HD12 : Hid (Below w1.heap.size w1 w2) := U2.bel ((Below.refl _ _).alloc (Nat.le_refl _) _) (Nat.le_refl _)
      have HPB2 : Hid (Bs w2 (.slice pa L L) r.1 ∧ SafeU w2 (.slice pa L L)) := ⟨HPB.out.1.step HD12.out, HPB.out.2.kel (Kee.kel (Kee.bel HD12.out))⟩
      have HRB2 : Hid (Bs w2 (.slice ra rn rc) (segB (gj.next + 1) rem') ∧ SafeU w2 (.slice ra rn rc)) := ⟨HRB.out.1.step HD12.out, HRB.out.2.kel (Kee.kel (Kee.bel HD12.out))⟩
      have HD2 : Hid (Below wr.heap.size wr w2) := HD1.out.trans (HD12.out.mono HD1.out.size)
      clear R2 U2 HVZ HPB HRB HD12 HD1
      generalize w1.heap.size = q at *
      go_wp2_with (refine ldAw (by rfl) 77 _ rfl q (by rfl) _ _ HR2.out _ Tryz.underlying77 rfl (info33.trans (by rw [rcd_len])) ?_)
      have HSW : Hid (B ≤ wr.heap.size) := Nat.le_trans HLT.out.2 HBU.out.1.size
      refine (isLinked_ok w2 lp p B gj (HL.out.step HD2.out) HOK.out HGL.out (HTB.out.on (HBU.out.2.2.trans (HD2.out.mono HSW.out))) (Nat.le_trans HSW.out HD2.out.size) pa L L r.1 r.2 HPB2.out.1 (by rw [HLN.out]; have := HRK.out.pl; rw [HLN.out] at this; exact this) HLK.out.1).mono ?_
      rintro e w3 ⟨rfl, b3⟩
      have HD3 : Hid (Below wr.heap.size wr w3) := HD2.out.trans (b3.mono HD2.out.size)
      have HR3 : Hid (VA w3 q (rcd pa L L r.2) 77) := HR2.out.step b3
      have HPB3 : Hid (Bs w3 (.slice pa L L) r.1 ∧ SafeU w3 (.slice pa L L)) := ⟨HPB2.out.1.step b3, HPB2.out.2.kel (Kee.kel (Kee.bel b3))⟩
      have HRB3 : Hid (Bs w3 (.slice ra rn rc) (segB (gj.next + 1) rem') ∧ SafeU w3 (.slice ra rn rc)) := ⟨HRB2.out.1.step b3, HRB2.out.2.kel (Kee.kel (Kee.bel b3))⟩
      have HL3 : Hid (Lg w3 lp p gj) := HL.out.step HD3.out
      obtain ⟨ts, ht1, ht2, ht3⟩ := (HPY.out.step HD3.out).ex
      have HTL : Hid (ts.length ≤ 100000) := (show ts.length ≤ 100000 by have h1 := congrArg List.length ht1; have h2 := HNL.out.2; rw [List.length_map] at h1; omega)
      have HT1 := (show Hid _ from ht1)
      have HOW := (show Hid _ from ht2)
      have HT3 := (show Hid _ from ht3)
      have HSZ : Hid (w.heap.size ≤ w3.heap.size) := Nat.le_trans HBU.out.1.size HD3.out.size
      have y0 := HR3.out.cell 0 (v := .slice pa L L) rfl
      clear b3 ht1 ht2 ht3 HPB2 HRB2 HR2 HD2
      go_upto_region 6 with (at_builtin; refine appOneG (K := KT) rfl _ _ rfl w.heap.size ts _ ⟨pa, L, r.1⟩ (by rfl) (by rfl) HOW.out HSZ.out (by have := HTL.out; show (ts.length + 1) * 24 ≤ _; omega) (by have := HTL.out; omega) _ (by show _ = [Value.slice pa r.1.length L].toArray; rw [HLN.out]) ?_; intro v4 w4 o4 b4 g4)
      have BA := (Below.refl w3.heap.size w3).alloc (Nat.le_refl _) (.cells #[.slice pa L L] 22)
      have OA := HOW.out.alloc (.cells #[.slice pa L L] 22)
      have HR4 : Hid (VA w4 q (rcd pa L L r.2) 77) := va_grown (HR3.out.step BA) OA g4 (by decide)
      have HL4 : Hid (Lg w4 lp p gj) := va_grown (HL3.out.step BA) OA g4 (by decide)
      have HPB4 : Hid (Bs w4 (.slice pa L L) r.1 ∧ SafeU w4 (.slice pa L L)) := ⟨bs_grown (HPB3.out.1.step BA) (HPB3.out.2.kel (Kee.kel (Kee.bel BA))) OA g4, (HPB3.out.2.kel (Kee.kel (Kee.bel BA))).grown OA g4⟩
      have HRB4 : Hid (Bs w4 (.slice ra rn rc) (segB (gj.next + 1) rem') ∧ SafeU w4 (.slice ra rn rc)) := ⟨bs_grown (HRB3.out.1.step BA) (HRB3.out.2.kel (Kee.kel (Kee.bel BA))) OA g4, (HRB3.out.2.kel (Kee.kel (Kee.bel BA))).grown OA g4⟩
      have HPY4 : Hid (Pay w4 w.heap.size v4 ((done ++ [r]).map (·.1))) := by
        refine ⟨ts ++ [⟨pa, L, r.1⟩], by rw [List.map_append, List.map_append, HT1.out]; rfl, o4, fun t ht => ?_⟩
        rcases List.mem_append.1 ht with ht | ht
        · have h3 := HT3.out t ht
          exact ⟨bs_grown (h3.1.step BA) (h3.2.kel (Kee.kel (Kee.bel BA))) OA g4, (h3.2.kel (Kee.kel (Kee.bel BA))).grown OA g4⟩
        · rw [List.mem_singleton] at ht
          subst ht
          show Bs w4 (.slice pa r.1.length L) r.1 ∧ SafeU w4 (.slice pa r.1.length L)
          rw [HLN.out]
          exact HPB4.out
      have HBW4 : Hid (Below w.heap.size w3 w4) := b4
      have HB4 : Hid (But (fun i => i = lp) w w4) := (HBU.out.1.then HD3.out).below2 b4
      have HK4 : Hid (KeL w w4) := (HBU.out.2.1.trans (KeL.bel HD3.out)).below2 HB4.out b4
      have HC4 : Hid (Below B w w4) := (HBU.out.2.2.trans (HD3.out.mono HSW.out)).trans (b4.mono HLT.out.2)
      clear o4 b4 g4 BA OA y0 HOW HT1 HT3 HTL HR3 HPB3 HRB3 HL3 HD3 HPY HPB4
      go_wp2_with (refine ldA rfl 77 _ rfl q (by rfl) _ _ HR4.out _ Tryz.underlying77 rfl (info33.trans (by rw [rcd_len])) ?_)
      refine (follow_ok w4 lp p B gj HL4.out hB HOK.out pa L L r.2).mono ?_
      rintro e w5 ⟨⟨u5, rfl⟩, hL5, hK5, hB5, hT5⟩
      have HL5 : Hid (Lg w5 lp p (gj.fol r)) := hL5
      have HRB5 : Hid (Bs w5 (.slice ra rn rc) (segB (gj.next + 1) rem') ∧ SafeU w5 (.slice ra rn rc)) := ⟨HRB4.out.1.kel HRB4.out.2.l hK5.kel, HRB4.out.2.kel hK5.kel⟩
      have HPY5 : Hid (Pay w5 w.heap.size v4 ((done ++ [r]).map (·.1))) := HPY4.out.kel hK5
      have HBU5 : Hid (But (fun i => i = lp) w w5 ∧ KeL w w5 ∧ Below B w w5) := ⟨HB4.out.trans hT5 (fun _ _ h => h), HK4.out.trans hK5, HC4.out.trans hB5⟩
      clear hL5 hK5 hB5 hT5 HRB4 HPY4 HB4 HK4 HC4 HL4 HR4
      go_wp2_with fail
      go_roundw
      case rel =>
        have e1 : adv g (done ++ [r]) = gj.fol r := by rw [adv_fol, HGJ.out]
        refine ⟨done ++ [r], rem', ra, rn, rc, _, rfl, rfl, ?_, ?_, ?_, ?_, ?_, HPY5, HBU5⟩
        · show rs = _; rw [HE.out, List.append_assoc]; rfl
        · show Lg _ _ _ _; rw [e1]; exact HL5.out
        · show Bs _ _ _ ∧ _; rw [e1]; exact HRB5.out
        · show Lkd _ _; rw [e1]; exact HLK.out.2
        · show _ = 32 ∧ _; rw [e1]; exact ⟨HRK.out.ll, HRK.out.lb⟩
      case measure => exact HMS.out
end Go.Proofs.YtkmdegmpffgplaaGreatDoor
