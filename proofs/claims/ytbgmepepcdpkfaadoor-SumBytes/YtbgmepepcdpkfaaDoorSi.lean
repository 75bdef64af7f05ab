/- sum: Sha of abc; awake; Twin. -/
import Derived.Test.YtbgmepepcdpkfaaDoorSh
import Derived.Lib.SlBytesConst
import Derived.Lib.SmallJoins
namespace Go.Proofs.YtbgmepepcdpkfaaDoor
open Go.RowKit
set_option linter.unusedVariables false

set_option maxRecDepth 100000 in
theorem sha_abc : (sha [97, 98, 99]).getD 0 0 = 186 ∧ (sha [97, 98, 99]).getD 31 0 = 173 := by decide +kernel
theorem bel_of_drew {B : Nat} {w w' : World} (h : Below B w.drew w') : Below B w w' := ⟨h.os, h.tape, h.output, h.size, h.block⟩
/-- a constant text's bytes, marked behind -/
theorem bs_mark (w : World) (bs : List Nat) (hby : By bs) (n : Nat) (hl : bs.length = n) (hn : n ≤ 1000) (T : TypeId) (fr : Nat × Nat) :
    Bs (w.alloc (.cells (cl bs).toArray T fr)) (.slice (some ⟨w.heap.size, 0, none⟩) n n) bs := by
  subst hl
  refine ⟨hby, _, _, rfl, Nat.le_refl _, by omega, fun h => (by cases h), fun h0 => ⟨w.heap.size, 0, rfl, by simp, fun k hk => ?_⟩⟩
  rw [Nat.zero_add, World.cell?_alloc_mark]
  simpa using cl_get bs k hk
theorem sha_len (bs : List Nat) : (sha bs).length = 32 := ob_len _ _
set_option maxHeartbeats 1000000 in
set_option maxRecDepth 100000 in
theorem awake_ok (w : World) (T : Tb w) : Calls Tryd.prog 7 #[] w fun e w' => e = .returned (.bool true) ∧ Below w.heap.size w w' := by
  have b1 : Hid (Bs (w.alloc (.cells #[.int .u8 97, .int .u8 98, .int .u8 99] 5 (3, 4))) (.slice (some ⟨w.heap.size, 0, none⟩) 3 3) [97, 98, 99]) := bs_mark w [97, 98, 99] (fun x hx => by simp at hx; omega) 3 rfl (by omega) 5 (3, 4)
  have HB := (show Hid _ from (Below.refl w.heap.size w).alloc (Nat.le_refl _) (.cells #[.int .u8 97, .int .u8 98, .int .u8 99] 5 (3, 4)))
  have kc := Go.Lib.run_convert_bytes_const (P := Tryd.prog) w 22 5 #[.int .u8 97, .int .u8 98, .int .u8 99] 3 3 Tryd.underlying22 Tryd.underlying5
  have hw1 := T.lt
  have HT := (show Hid _ from T)
  clear T
  obtain ⟨hs, hhs⟩ : ∃ hs, hs = sha [97, 98, 99] := ⟨_, rfl⟩
  have hsl : hs.length = 32 := by rw [hhs]; exact sha_len _
  have h0 : hs.getD 0 0 = 186 := by rw [hhs]; exact sha_abc.1
  have h31 : hs.getD 31 0 = 173 := by rw [hhs]; exact sha_abc.2
  have HH := (show Hid _ from hhs)
  clear hhs
  go_enter Tryd.func7, Tryd.ntmps7
  go_wp2_with fail
  refine (sha_ok _ [97, 98, 99] _ b1.out (by simp) (HT.out.step HB.out (by omega))).mono ?_
  rintro e w1 ⟨rfl, hb1⟩
  rw [← HH.out]
  have B1 := (show Hid _ from HB.out.trans (hb1.mono HB.out.size))
  clear hb1 HB b1 kc
  go_wp2_with (refine stA rfl 23 _ _ rfl w1.heap.size (by rfl) (cl (List.replicate 32 0)) (cl hs) (by rfl) 23 (va_new w1 (cl (List.replicate 32 0)) 23) (info23.trans (by rw [cl_len, hsl])) (by rw [cl_len, cl_len, hsl]; simp) (fun v hv => cl_one hv) ?_; intro w2 V2 U2; have kc := Go.Lib.run_convert_bytes_const (P := Tryd.prog) w2 22 5 #[.int .u8 49, .int .u8 50, .int .u8 51, .int .u8 52, .int .u8 53, .int .u8 54, .int .u8 55, .int .u8 56, .int .u8 57] 9 9 Tryd.underlying22 Tryd.underlying5)
  have B2 := (show Hid _ from U2.bel (B1.out.alloc B1.out.size (.cells (cl (List.replicate 32 0)).toArray 23)) B1.out.size)
  have V3 := V2.alloc (.cells #[.int .u8 49, .int .u8 50, .int .u8 51, .int .u8 52, .int .u8 53, .int .u8 54, .int .u8 55, .int .u8 56, .int .u8 57] 5 (9, 10))
  have c0 := V3.cell 0 (v := .int .u8 186) (by rw [cl_get hs 0 (by omega)]; unfold bt; rw [h0]; rfl)
  have c31 := V3.cell 31 (v := .int .u8 173) (by rw [cl_get hs 31 (by omega)]; unfold bt; rw [h31]; rfl)
  have b2 : Hid (Bs (w2.alloc (.cells #[.int .u8 49, .int .u8 50, .int .u8 51, .int .u8 52, .int .u8 53, .int .u8 54, .int .u8 55, .int .u8 56, .int .u8 57] 5 (9, 10))) (.slice (some ⟨w2.heap.size, 0, none⟩) 9 9) [49, 50, 51, 52, 53, 54, 55, 56, 57]) := bs_mark w2 [49, 50, 51, 52, 53, 54, 55, 56, 57] (fun x hx => by simp at hx; omega) 9 rfl (by omega) 5 (9, 10)
  have B3 := (show Hid _ from B2.out.alloc B2.out.size (.cells #[.int .u8 49, .int .u8 50, .int .u8 51, .int .u8 52, .int .u8 53, .int .u8 54, .int .u8 55, .int .u8 56, .int .u8 57] 5 (9, 10)))
  clear V2 V3 U2 B2 B1 h0 h31 kc
  refine (crc_ok _ [49, 50, 51, 52, 53, 54, 55, 56, 57] _ b2.out).mono ?_
  rintro e w4 ⟨rfl, rfl⟩
  rw [crc_nine]
  clear b2
  generalize w2.alloc (.cells #[.int .u8 49, .int .u8 50, .int .u8 51, .int .u8 52, .int .u8 53, .int .u8 54, .int .u8 55, .int .u8 56, .int .u8 57] 5 (9, 10)) = w3 at *
  go_wp2_with fail
  go_ret
  exact ⟨rfl, B3.out⟩
theorem twin_ok (v : Value) (bs : List Nat) (w : World) (h : Bs w v bs) (hl : bs.length ≤ 140737488355328) :
    Calls Tryd.prog 18 #[v] w fun e w' => (∃ u, e = .returned u ∧ OwnB w' w.heap.size u bs) ∧ Below w.heap.size w w' := by
  have hb := (Below.refl w.heap.size w).alloc (Nat.le_refl _) (.cells #[] 5)
  have H := (show Hid _ from h.step hb)
  have HO := (show Hid _ from own_made w)
  have HB := (show Hid _ from hb)
  clear h hb
  go_enter Tryd.func18, Tryd.ntmps18
  go_wp2_with (at_builtin; refine appB rfl _ _ rfl w.heap.size [] bs _ _ (by rfl) (by rfl) HO.out H.out (by simp) (by simpa using hl) ?_; intro v' w1 ho hb1)
  have HO1 := (show Hid _ from ho)
  have HB1 := (show Hid _ from hb1)
  clear ho hb1
  go_wp2_with fail
  go_ret
  exact ⟨⟨_, rfl, by simpa using HO1.out⟩, HB.out.trans HB1.out⟩
theorem OwnB.step {w w' : World} {B : Nat} {v : Value} {cs : List Nat} (h : OwnB w B v cs) (k : Below w.heap.size w w') : OwnB w' B v cs := by
  refine ⟨h.byte, h.own.1, ?_⟩
  rcases h.own.2 with h2 | ⟨g, cap, cur, e, hb, hg, r⟩
  · exact Or.inl h2
  · refine Or.inr ⟨g, cap, cur, e, hb, ?_, r⟩
    rw [k.block g ?_]
    · exact hg
    · rcases Nat.lt_or_ge g w.heap.size with hlt | hge
      · exact hlt
      · rw [Array.getElem?_eq_none hge] at hg; cases hg
/-- an owned row is nil, or lies at its block's head -/
theorem OwnB.head {w : World} {B : Nat} {v : Value} {cs : List Nat} (h : OwnB w B v cs) : (v = .slice none 0 0 ∧ cs = []) ∨ ∃ g cap, v = .slice (some ⟨g, 0, none⟩) cs.length cap ∧ B ≤ g ∧ g < w.heap.size ∧ cs.length ≤ cap ∧ cap ≤ 9223372036854775807 := by
  rcases h.own.2 with ⟨e, h0⟩ | ⟨g, cap, cur, e, hb, hg, hc, hm, r⟩
  · exact Or.inl ⟨e, List.eq_nil_of_length_eq_zero h0⟩
  · refine Or.inr ⟨g, cap, e, hb, ?_, hc, by unfold maxLen at hm; omega⟩
    rcases Nat.lt_or_ge g w.heap.size with hlt | hge
    · exact hlt
    · rw [Array.getElem?_eq_none hge] at hg; cases hg
theorem OwnB.set {w : World} {B g n cap : Nat} {cs : List Nat} (h : OwnB w B (.slice (some ⟨g, 0, none⟩) n cap) cs) (hl : cs.length = n) (j d : Nat) (hd : d < 256) :
    OwnB (w.setCell ⟨g, j, none⟩ (.int .u8 (d : Int))) B (.slice (some ⟨g, 0, none⟩) n cap) (cs.set j d) := by
  subst hl
  have := (World.ownsRow.stored h.own j (.int .u8 (d : Int))).1
  refine ⟨fun x hx => ?_, ?_⟩
  · rcases List.mem_or_eq_of_mem_set hx with hx | rfl
    · exact h.byte x hx
    · exact hd
  · rw [List.length_set]
    have e : cl (cs.set j d) = (cl cs).set j (.int .u8 (d : Int)) := by simp [cl, List.map_set]
    rw [e]
    exact this
theorem OwnB.free {w : World} {B g n cap : Nat} {cs : List Nat} (h : OwnB w B (.slice (some ⟨g, 0, none⟩) n cap) cs) (j : Nat) : w.frozen? ⟨g, j, none⟩ = false := by
  rcases h.own.2 with ⟨e, h0⟩ | ⟨g', cap', cur, e, hb, hg, r⟩
  · simp at e
  · simp only [Value.slice.injEq, Option.some.injEq, Addr.mk.injEq, and_true] at e
    obtain ⟨rfl, -, rfl⟩ := e
    simp [World.frozen?, hg]
theorem OwnB.cell {w : World} {B g n cap : Nat} {cs : List Nat} (h : OwnB w B (.slice (some ⟨g, 0, none⟩) n cap) cs) (hl : cs.length = n) (j : Nat) (hj : j < n) : w.cell? ⟨g, j, none⟩ = some (.int .u8 (bt cs j)) := by
  subst hl
  rw [h.own.cellAt j (by omega), cl_get cs j hj]
end Go.Proofs.YtbgmepepcdpkfaaDoor
