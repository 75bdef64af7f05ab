/- sum: the contracts of ending and bytes. -/
import Derived.Test.YtkmdegmpffgplaaGreatDoorLau
import Derived.Deep.MidRow
import Derived.Lib.SlBytesConst
import Derived.Lib.SmallJoins
namespace Go.Proofs.YtkmdegmpffgplaaGreatDoor.pk
open Go.RowKit
set_option linter.unusedVariables false

/-- copy of bytes to the front of a row known whole -/
theorem cpA {w : World} {ops : Array Oper} {rest : List Oper} {o : Oper} {a : Act} {Q : Exit → Act → World → Prop} (hgd : o.guard = none) (d s : Operand)
    (ho : o.op = .call { callee := .builtin .copy, args := #[d, s], argTypes := #[22, 22] })
    (g dL dC : Nat) (u : Value) (bs : List Nat) (hd : a.eval d = .slice (some ⟨g, 0, none⟩) dL dC) (hs : a.eval s = u) (hu : Bs w u bs) (hL : bs.length ≤ dL) (cs : List Value) (T : TypeId) (V : VA w g cs T) (hf : bs.length ≤ cs.length)
    (h : ∀ w', VA w' g (cl bs ++ cs.drop bs.length) T → Upd g w w' → wpList Tryz.prog ops Q rest (a.put o.dst (.int .i64 (bs.length : Int))) w') :
    wpList Tryz.prog ops Q (o :: rest) a w := by
  obtain ⟨i0, hi, hz0, hz1, hz2⟩ := info8_parts
  obtain ⟨hby, ad, c, rfl, h1, h2, h3, h4⟩ := hu
  by_cases h0 : bs.length = 0
  · obtain rfl : bs = [] := List.eq_nil_of_length_eq_zero h0
    refine wpList_copy_nothing hgd d s 22 22 ho 5 Tryz.underlying22 (by rw [hi]; simp [hz1]) (some ⟨g, 0, none⟩) ad dL dC 0 c hd hs (Nat.zero_min _) ?_
    exact h w ⟨by simpa [cl] using V.blk⟩ ⟨rfl, rfl, rfl, rfl, fun _ _ => rfl⟩
  · obtain ⟨b, off, rfl, hb, hx⟩ := h4 (by omega)
    refine wpList_copy_own hgd d s 22 22 ho 5 Tryz.underlying22 (by rw [hi]; simp [hz1]) g 0 dL dC ⟨b, off, none⟩ bs.length c hd hs _ T V.blk (cl bs) (by rw [cl_len]; exact (Nat.min_eq_left hL).symm) (fun j v hv => ?_) (by simpa [cl_len] using hf) (fun v hv => cl_one hv) ?_
    · have hj : j < bs.length := by have := (List.getElem?_eq_some_iff.1 hv).1; rwa [cl_len] at this
      rw [Go.WideShapes.add_plain, hx j hj, ← cl_get bs j hj, hv]
    · rw [cl_len]
      refine h _ ⟨?_⟩ (upd_setRow w g _)
      rw [setRow_heap w g _ _ _ _ V.blk]
      simp
def pad (bs : List Nat) (z : Nat) : List Nat := (bs ++ List.replicate (z - bs.length) 0).set bs.length 128
def en (bs : List Nat) (z B : Nat) : Nat → List Nat
  | 0 => pad bs z
  | k + 1 => (en bs z B k).set (z - 1 - k) (B / 2 ^ (8 * k) % 256)
theorem pad_len {bs : List Nat} {z : Nat} (h : bs.length ≤ z) : (pad bs z).length = z := by simp [pad]; omega
theorem en_len {bs : List Nat} {z : Nat} (h : bs.length ≤ z) (B : Nat) : ∀ k, (en bs z B k).length = z
  | 0 => pad_len h
  | k + 1 => by simp [en, en_len h B k]
theorem by_set {xs : List Nat} {k d : Nat} (h : By xs) (hd : d < 256) : By (xs.set k d) := fun x hx => by
  rcases List.mem_or_eq_of_mem_set hx with hx | rfl
  · exact h x hx
  · exact hd
theorem pad_by {bs : List Nat} (h : By bs) (z : Nat) : By (pad bs z) := by_set (h.app (fun x hx => by have := List.eq_of_mem_replicate hx; omega)) (by omega)
theorem en_by {bs : List Nat} (h : By bs) (z B : Nat) : ∀ k, By (en bs z B k)
  | 0 => pad_by h z
  | k + 1 => by_set (en_by h z B k) (Nat.mod_lt _ (by omega))
/-- a row known whole, as a slice -/
theorem VA.bs {w : World} {g n : Nat} {xs : List Nat} {T : TypeId} (h : VA w g (cl xs) T) (hl : xs.length = n) (hn : n ≤ 1000) (hby : By xs) : Bs w (.slice (some ⟨g, 0, none⟩) n n) xs := by
  subst hl
  refine ⟨hby, some ⟨g, 0, none⟩, xs.length, rfl, Nat.le_refl _, by omega, fun h => (by cases h), fun _ => ⟨g, 0, rfl, h.lt, fun k hk => ?_⟩⟩
  rw [Nat.zero_add]
  exact h.cell k (cl_get xs k hk)
theorem drop_cl (n z : Nat) : (cl (List.replicate z 0)).drop n = cl (List.replicate (z - n) 0) := by simp [cl]
set_option maxHeartbeats 1000000 in
set_option maxRecDepth 100000 in
theorem ending_ok (v : Value) (bs : List Nat) (n z B : Nat) (w : World) (h : Bs w v bs) (hn : n ≤ 140737488355328) (hz : (bs.length + 9 ≤ 64 ∧ z = 64) ∨ (64 < bs.length + 9 ∧ bs.length < 64 ∧ z = 128)) (hB : B = 8 * n) :
    Calls Tryz.prog 85 #[v, .int .i64 n] w fun e w' => (∃ g, e = .returned (.slice (some ⟨g, 0, none⟩) z z) ∧ w.heap.size ≤ g ∧ VA w' g (cl (en bs z B 8)) 5) ∧ Below w.heap.size w w' := by
  have H := (show Hid _ from h)
  have HY := (show Hid _ from h.byte)
  obtain ⟨hby, a, c, rfl, hlc, hc9, hno, hx⟩ := h
  obtain ⟨L, hL⟩ : ∃ L, L = bs.length := ⟨_, rfl⟩
  have HL : Hid (L = bs.length) := hL
  rw [← hL] at hlc H hz ⊢
  clear hx hby hno hL
  rcases hz with ⟨hz, rfl⟩ | ⟨hz, hz2, rfl⟩
  · have hLz : L < 128 := by omega
    have eB : Hid (B = 8 * n) := hB
    clear hB
    go_enter Tryz.func85, Tryz.ntmps85
    go_wp2_with (first
      | (at_make; refine mkB rfl _ _ rfl 64 64 _ _ (by rfl) (by rfl) (by rfl) (by rfl) (by omega) (by omega) ?_; intro w1 hrow hb1 hs1; have V1 := VA.mk hrow.out)
      | (refine cpA rfl _ _ rfl w.heap.size _ _ _ bs (by rfl) (by rfl) (H.out.step hb1) (by have := HL.out; omega) _ _ V1 (by rw [cl_len]; simp; have := HL.out; omega) ?_; intro w2 V2 U2; rw [drop_cl, cl_app] at V2; have c0 := V2.free L; have c1 := V2.cell L (cl_get _ L (by rw [List.length_append, List.length_replicate]; have := HL.out; omega))))
    have V3 : Hid (VA (w2.setCell ⟨w.heap.size, L, none⟩ (.int .u8 128)) w.heap.size (cl (en bs 64 B 0)) 5) := by
      have := V2.set L (.int .u8 ((128 : Nat) : Int))
      rw [← cl_set, HL.out] at this
      rw [HL.out]
      exact this
    have B3 : Hid (Below w.heap.size w (w2.setCell ⟨w.heap.size, L, none⟩ (.int .u8 128))) := (U2.bel hb1 (Nat.le_refl _)).setCell (p := ⟨w.heap.size, L, none⟩) (Nat.le_refl _) _
    clear hrow hb1 hs1 V1 V2 U2 c0 c1 H
    generalize w2.setCell ⟨w.heap.size, L, none⟩ (.int .u8 128) = w3 at *
    go_loopw [28] (fun i wr => ∃ k : Nat, k ≤ 8 ∧ i = .int .i64 k ∧ Below w.heap.size w wr ∧ Hid (VA wr w.heap.size (cl (en bs 64 B k)) 5)) (fun i _ => 8 - (intOf i).toNat)
    case atStart => exact ⟨0, by omega, rfl, B3.out, V3⟩
    case round =>
      clear B3 V3
      obtain ⟨k, hk, rfl, hbel, V⟩ := hrel
      have HB := (show Hid _ from hbel)
      clear hbel
      by_cases hk8 : k = 8
      · subst hk8
        rw [show ((8 : Nat) : Int) = 8 from rfl]
        go_wp2_with fail
        go_ret
        exact ⟨⟨_, rfl, Nat.le_refl _, V.out⟩, HB.out⟩
      have hk' : k < 8 := by omega
      obtain ⟨j, hj⟩ : ∃ j, j = 64 - 1 - k := ⟨_, rfl⟩
      have HJ := (show Hid _ from hj)
      have e1 : ((64 : Int) - 1 - (k : Int)) = (j : Int) := by omega
      have e2 : ((63 : Int) - (k : Int)) = (j : Int) := by omega
      have hj2 : j < 64 := by omega
      have c1 := V.out.cell j (cl_get _ j (by rw [en_len (by have := HL.out; omega)]; exact hj2))
      have c2 := V.out.free j
      clear hj
      go_wp2_with fail
      have hv : ((n : Int) * 8 / 2 ^ (8 * k) % 256) = ((B / 2 ^ (8 * k) % 256 : Nat) : Int) := by rw [eB.out, Nat.mul_comm 8 n, Int.natCast_emod, Int.natCast_ediv, Int.natCast_mul, Int.natCast_pow]; rfl
      rw [hv]
      refine ⟨⟨k + 1, by omega, by go_num, HB.out.setCell (p := ⟨w.heap.size, j, none⟩) (Nat.le_refl _) _, ?_⟩, by simp [intOf]; omega⟩
      have := V.out.set j (.int .u8 ((B / 2 ^ (8 * k) % 256 : Nat) : Int))
      rw [← cl_set, HJ.out] at this
      rw [HJ.out]
      exact this
  · have hLz : L < 128 := by omega
    have eB : Hid (B = 8 * n) := hB
    clear hB
    go_enter Tryz.func85, Tryz.ntmps85
    go_wp2_with (first
      | (at_make; refine mkB rfl _ _ rfl 128 128 _ _ (by rfl) (by rfl) (by rfl) (by rfl) (by omega) (by omega) ?_; intro w1 hrow hb1 hs1; have V1 := VA.mk hrow.out)
      | (refine cpA rfl _ _ rfl w.heap.size _ _ _ bs (by rfl) (by rfl) (H.out.step hb1) (by have := HL.out; omega) _ _ V1 (by rw [cl_len]; simp; have := HL.out; omega) ?_; intro w2 V2 U2; rw [drop_cl, cl_app] at V2; have c0 := V2.free L; have c1 := V2.cell L (cl_get _ L (by rw [List.length_append, List.length_replicate]; have := HL.out; omega))))
    have V3 : Hid (VA (w2.setCell ⟨w.heap.size, L, none⟩ (.int .u8 128)) w.heap.size (cl (en bs 128 B 0)) 5) := by
      have := V2.set L (.int .u8 ((128 : Nat) : Int))
      rw [← cl_set, HL.out] at this
      rw [HL.out]
      exact this
    have B3 : Hid (Below w.heap.size w (w2.setCell ⟨w.heap.size, L, none⟩ (.int .u8 128))) := (U2.bel hb1 (Nat.le_refl _)).setCell (p := ⟨w.heap.size, L, none⟩) (Nat.le_refl _) _
    clear hrow hb1 hs1 V1 V2 U2 c0 c1 H
    generalize w2.setCell ⟨w.heap.size, L, none⟩ (.int .u8 128) = w3 at *
    go_loopw [28] (fun i wr => ∃ k : Nat, k ≤ 8 ∧ i = .int .i64 k ∧ Below w.heap.size w wr ∧ Hid (VA wr w.heap.size (cl (en bs 128 B k)) 5)) (fun i _ => 8 - (intOf i).toNat)
    case atStart => exact ⟨0, by omega, rfl, B3.out, V3⟩
    case round =>
      clear B3 V3
      obtain ⟨k, hk, rfl, hbel, V⟩ := hrel
      have HB := (show Hid _ from hbel)
      clear hbel
      by_cases hk8 : k = 8
      · subst hk8
        rw [show ((8 : Nat) : Int) = 8 from rfl]
        go_wp2_with fail
        go_ret
        exact ⟨⟨_, rfl, Nat.le_refl _, V.out⟩, HB.out⟩
      have hk' : k < 8 := by omega
      obtain ⟨j, hj⟩ : ∃ j, j = 128 - 1 - k := ⟨_, rfl⟩
      have HJ := (show Hid _ from hj)
      have e1 : ((128 : Int) - 1 - (k : Int)) = (j : Int) := by omega
      have e2 : ((127 : Int) - (k : Int)) = (j : Int) := by omega
      have hj2 : j < 128 := by omega
      have c1 := V.out.cell j (cl_get _ j (by rw [en_len (by have := HL.out; omega)]; exact hj2))
      have c2 := V.out.free j
      clear hj
      go_wp2_with fail
      have hv : ((n : Int) * 8 / 2 ^ (8 * k) % 256) = ((B / 2 ^ (8 * k) % 256 : Nat) : Int) := by rw [eB.out, Nat.mul_comm 8 n, Int.natCast_emod, Int.natCast_ediv, Int.natCast_mul, Int.natCast_pow]; rfl
      rw [hv]
      refine ⟨⟨k + 1, by omega, by go_num, HB.out.setCell (p := ⟨w.heap.size, j, none⟩) (Nat.le_refl _) _, ?_⟩, by simp [intOf]; omega⟩
      have := V.out.set j (.int .u8 ((B / 2 ^ (8 * k) % 256 : Nat) : Int))
      rw [← cl_set, HJ.out] at this
      rw [HJ.out]
      exact this
def ob (ss : List Nat) : Nat → List Nat
  | 0 => List.replicate 32 0
  | k + 1 => (ob ss k).set k (ss.getD (k / 4) 0 / 2 ^ (8 * (3 - k % 4)) % 256)
theorem ob_len (ss : List Nat) : ∀ k, (ob ss k).length = 32
  | 0 => by simp [ob]
  | k + 1 => by simp [ob, ob_len ss k]
theorem ob_by (ss : List Nat) : ∀ k, By (ob ss k)
  | 0 => fun x hx => by have := List.eq_of_mem_replicate hx; omega
  | k + 1 => by_set (ob_by ss k) (Nat.mod_lt _ (by omega))
theorem info23 : (Tryz.prog.info? 70).map (·.size) = some 32 := by kernel_rfl
theorem run_index43 (ss : List Nat) (k : Nat) (w : World) (hl : ss.length = 8) (hk : k < 8) : (Instr.index 145 (.agg (cw ss).toArray) (.int .i64 (k : Int))).run Tryz.prog w = .ok (.int .u32 ((ss.getD k 0 : Nat) : Int)) w := by
  have g1 := cw_get ss k (by omega)
  simp [Instr.index, run_underlying Tryz.underlying145, asIntOf, part, g1]
  intro h
  omega
set_option maxHeartbeats 1000000 in
set_option maxRecDepth 100000 in
theorem sbytes_ok (ss : List Nat) (w : World) (hs : W8 ss) :
    Calls Tryz.prog 86 #[.agg (cw ss).toArray] w fun e w' => e = .returned (.agg (cl (ob ss 32)).toArray) ∧ Below w.heap.size w w' := by
  have HS := (show Hid _ from hs)
  have hl := hs.len
  have V0 := va_new w (cw ss) 145
  clear hs
  go_enter Tryz.func86, Tryz.ntmps86
  go_wp2_with (first
    | (refine ldA rfl 145 _ rfl w.heap.size (by rfl) _ _ ((V0.alloc _).alloc _) 8 _ Tryz.underlying145 (info43.trans (by rw [cw_len, HS.out.len])) ?_))
  go_loopw [8] (fun i wr => ∃ k : Nat, k ≤ 8 ∧ i = .int .i64 k ∧ Below w.heap.size w wr ∧ Hid (VA wr (w.heap.size + 1) (cl (List.replicate 32 0)) 70 ∧ VA wr (w.heap.size + 2) (cl (ob ss (4 * k))) 70)) (fun i _ => 8 - (intOf i).toNat)
  case atStart =>
    have A1 := va_new (w.alloc (.cells (cw ss).toArray 145)) (cl (List.replicate 32 0)) 70
    have A2 := va_new ((w.alloc (.cells (cw ss).toArray 145)).alloc (.cells (cl (List.replicate 32 0)).toArray 70)) (cl (List.replicate 32 0)) 70
    rw [World.size_alloc] at A1 A2
    rw [World.size_alloc] at A2
    exact ⟨0, by omega, rfl, (((Below.refl _ _).alloc (Nat.le_refl _) _).alloc (by simp) _).alloc (by simp; omega) _, A1.alloc _, A2⟩
  case round =>
    clear V0
    obtain ⟨k, hk, rfl, hbel, V⟩ := hrel
    have HB := (show Hid _ from hbel)
    clear hbel
    by_cases hk8 : k = 8
    · subst hk8
      rw [show ((8 : Nat) : Int) = 8 from rfl]
      go_wp2_with (first
        | (refine ldA rfl 70 _ rfl (w.heap.size + 2) (by rfl) _ _ V.out.2 32 _ Tryz.underlying70 (info23.trans (by rw [cl_len, ob_len])) ?_)
        | (refine stA rfl 70 _ _ rfl (w.heap.size + 1) (by rfl) _ _ (by rfl) _ V.out.1 (info23.trans (by rw [cl_len, ob_len])) (by rw [cl_len, cl_len, ob_len]; simp) (fun v hv => cl_one hv) ?_; intro w9 R9 U9))
      refine bodyPost_ret (v := .agg (cl (ob ss 32)).toArray) ?_ rfl ⟨rfl, U9.bel HB.out (by omega)⟩
      have hld := run_loadVar_row (P := Tryz.prog) w9 (w.heap.size + 1) 70 70 _ (0, 0) _ R9.blk Tryz.underlying70 rfl (info23.trans (by rw [List.size_toArray, cl_len, ob_len]))
      simp [results, Tryz.results86, asAddr, hld, Act.put]
    have hk' : k < 8 := by omega
    have hidx := run_index43 ss k wr hl hk'
    have b1 := HS.out.at k
    obtain ⟨x, hx⟩ : ∃ x, x = ss.getD k 0 := ⟨_, rfl⟩
    have HX := (show Hid _ from hx)
    rw [← hx] at hidx b1
    clear hx
    go_wp2_with fail
    go_loopw [12] (fun i wr => ∃ j : Nat, j ≤ 4 ∧ i = .int .i64 j ∧ Below w.heap.size w wr ∧ Hid (VA wr (w.heap.size + 1) (cl (List.replicate 32 0)) 70 ∧ VA wr (w.heap.size + 2) (cl (ob ss (4 * k + j))) 70)) (fun i _ => 4 - (intOf i).toNat)
    case atStart => exact ⟨0, by omega, rfl, HB.out, V⟩
    case round =>
      clear V HB hidx
      obtain ⟨j, hj, rfl, hbel, V⟩ := hrel
      have HB := (show Hid _ from hbel)
      clear hbel
      by_cases hj4 : j = 4
      · subst hj4
        rw [show ((4 : Nat) : Int) = 4 from rfl]
        go_wp2_with fail
        exact ⟨⟨k + 1, by omega, by go_num, HB.out, V⟩, by simp [intOf]; omega⟩
      have hj' : j < 4 := by omega
      obtain ⟨q, hq⟩ : ∃ q, q = 4 * k + j := ⟨_, rfl⟩
      have HQ := (show Hid _ from hq)
      have e1 : (k : Int) * 4 + (j : Int) = (q : Int) := by omega
      have e2 : 4 * (k : Int) + (j : Int) = (q : Int) := by omega
      have hq2 : q < 32 := by omega
      obtain ⟨s, hs⟩ : ∃ s, s = 3 - j := ⟨_, rfl⟩
      have HSS := (show Hid _ from hs)
      have e3 : (3 : Int) - (j : Int) = (s : Int) := by omega
      have hs3 : s ≤ 3 := by omega
      rw [← hq] at V
      have c1 := V.out.2.cell q (cl_get _ q (by rw [ob_len]; exact hq2))
      have c2 := V.out.2.free q
      have HE : Hid (ob ss (q + 1) = (ob ss q).set q (x / 2 ^ (8 * s) % 256)) := by
        show _ = _
        rw [ob, show q / 4 = k by omega, show 3 - q % 4 = s by omega, ← HX.out]
      clear hq hs
      go_wp2_with fail
      have hv : ((x : Int) / 2 ^ (8 * s) % 256) = ((x / 2 ^ (8 * s) % 256 : Nat) : Int) := by rw [Int.natCast_emod, Int.natCast_ediv, Int.natCast_pow]; rfl
      rw [hv]
      refine ⟨⟨j + 1, by omega, by go_num, HB.out.setCell (p := ⟨w.heap.size + 2, q, none⟩) (by simp) _, V.out.1.set_other (by omega) _ _, ?_⟩, by simp [intOf]; omega⟩
      have := V.out.2.set q (.int .u8 ((x / 2 ^ (8 * s) % 256 : Nat) : Int))
      rw [← cl_set, ← HE.out] at this
      rw [show 4 * k + (j + 1) = q + 1 by have := HQ.out; omega]
      exact this
end Go.Proofs.YtkmdegmpffgplaaGreatDoor.pk
/- sum: the contract of Sha; awake. -/
namespace Go.Proofs.YtkmdegmpffgplaaGreatDoor.pk
open Go.RowKit
set_option linter.unusedVariables false

theorem mix_w8 {ss : List Nat} (h : W8 ss) (bs : List Nat) : W8 (mix ss bs) := addS_w8 h _ 8
theorem mixed_let (ss : List Nat) (v : Value) (bs : List Nat) (w : World) (hs : W8 ss) (h : Bs w v bs) (hl : 64 ≤ bs.length) (T : Tb w) :
    Calls Tryz.prog 84 #[.agg (cw ss).toArray, v] w fun e w' => (∃ a b c d f g i z : Nat, e = .returned (.agg #[.int .u32 (a : Int), .int .u32 (b : Int), .int .u32 (c : Int), .int .u32 (d : Int), .int .u32 (f : Int), .int .u32 (g : Int), .int .u32 (i : Int), .int .u32 (z : Int)]) ∧ mix ss bs = [a, b, c, d, f, g, i, z]) ∧ Below w.heap.size w w' := by
  refine (mixed_ok ss v bs w hs h hl T).mono ?_
  rintro e w1 ⟨rfl, hb⟩
  obtain ⟨a, b, c, d, f, g, i, z, hm⟩ := w8_letters (mix_w8 hs bs)
  exact ⟨⟨a, b, c, d, f, g, i, z, by rw [hm]; rfl, hm⟩, hb⟩
def shB (ss bs : List Nat) : Nat → List Nat
  | 0 => ss
  | k + 1 => mix (shB ss bs k) ((bs.drop (64 * k)).take 64)
theorem shB_w8 {ss : List Nat} (h : W8 ss) (bs : List Nat) : ∀ k, W8 (shB ss bs k)
  | 0 => h
  | k + 1 => mix_w8 (shB_w8 h bs k) _
theorem fst_w8 : W8 fst8 := ⟨rfl, by decide⟩
/-- the first 64 bytes of a slice, and the rest -/
theorem bs_cut64 {w : World} {b off L c : Nat} {bs : List Nat} (h : Bs w (.slice (some ⟨b, off, none⟩) L c) bs) (hL : 64 ≤ L) :
    Bs w (.slice (some ⟨b, off, none⟩) 64 c) (bs.take 64) ∧ (¬ c = 64 → Bs w (.slice (some ⟨b, off + 64, none⟩) (L - 64) (c - 64)) (bs.drop 64)) ∧ (c = 64 → Bs w (.slice (some ⟨b, off, none⟩) 0 0) (bs.drop 64) ∧ L = 64) := by
  have hl := h.len
  refine ⟨h.cut 64 (by omega), fun hc => ?_, fun hc => ?_⟩
  · by_cases h1 : 64 < L
    · exact bs_from h 64 h1
    · have : L = 64 := by omega
      subst this
      rw [List.drop_eq_nil_of_le (by omega)]
      exact bs_empty w _ _ (by omega)
  · have : L = 64 := by omega
    rw [List.drop_eq_nil_of_le (by omega)]
    exact ⟨bs_empty w _ _ (by omega), this⟩
theorem Bs.drew {w : World} {v : Value} {bs : List Nat} (h : Bs w v bs) : Bs w.drew v bs := h.step ((Below.refl _ _).drew)
theorem drop_more (bs : List Nat) (k : Nat) : (bs.drop (64 * k)).drop 64 = bs.drop (64 * (k + 1)) := by rw [List.drop_drop]; congr 1
theorem upd_set (w : World) (p k : Nat) (u : Value) : Upd p w (w.setCell ⟨p, k, none⟩ u) := ⟨rfl, rfl, rfl, by simp, fun j hj => Go.heap_setCell_other _ _ j _ hj⟩
theorem Upd.trans {p : Nat} {w w' w'' : World} (h : Upd p w w') (k : Upd p w' w'') : Upd p w w'' := ⟨k.os.trans h.os, k.tape.trans h.tape, k.output.trans h.output, k.size.trans h.size, fun j hj => (k.block j hj).trans (h.block j hj)⟩
theorem st8_va {w : World} {p a b c d e f g z : Nat} {T : TypeId} (h : VA w p (cw [a, b, c, d, e, f, g, z]) T) (m0 m1 m2 m3 m4 m5 m6 m7 : Nat) : VA ((((((((w.setCell ⟨p, 0, none⟩ (.int .u32 (m0 : Int))).setCell ⟨p, 1, none⟩ (.int .u32 (m1 : Int))).setCell ⟨p, 2, none⟩ (.int .u32 (m2 : Int))).setCell ⟨p, 3, none⟩ (.int .u32 (m3 : Int))).setCell ⟨p, 4, none⟩ (.int .u32 (m4 : Int))).setCell ⟨p, 5, none⟩ (.int .u32 (m5 : Int))).setCell ⟨p, 6, none⟩ (.int .u32 (m6 : Int))).setCell ⟨p, 7, none⟩ (.int .u32 (m7 : Int))) p (cw [m0, m1, m2, m3, m4, m5, m6, m7]) T := (((((((h.set 0 _).set 1 _).set 2 _).set 3 _).set 4 _).set 5 _).set 6 _).set 7 _
theorem st8_upd (w : World) (p m0 m1 m2 m3 m4 m5 m6 m7 : Nat) : Upd p w ((((((((w.setCell ⟨p, 0, none⟩ (.int .u32 (m0 : Int))).setCell ⟨p, 1, none⟩ (.int .u32 (m1 : Int))).setCell ⟨p, 2, none⟩ (.int .u32 (m2 : Int))).setCell ⟨p, 3, none⟩ (.int .u32 (m3 : Int))).setCell ⟨p, 4, none⟩ (.int .u32 (m4 : Int))).setCell ⟨p, 5, none⟩ (.int .u32 (m5 : Int))).setCell ⟨p, 6, none⟩ (.int .u32 (m6 : Int))).setCell ⟨p, 7, none⟩ (.int .u32 (m7 : Int))) :=
  (((((((upd_set _ _ _ _).trans (upd_set _ _ _ _)).trans (upd_set _ _ _ _)).trans (upd_set _ _ _ _)).trans (upd_set _ _ _ _)).trans (upd_set _ _ _ _)).trans (upd_set _ _ _ _)).trans (upd_set _ _ _ _)
def rest64 (bs : List Nat) : List Nat := bs.drop (64 * (bs.length / 64))
def tailZ (bs : List Nat) : Nat := if (rest64 bs).length + 9 ≤ 64 then 64 else 128
def tailOf (bs : List Nat) : List Nat := en (rest64 bs) (tailZ bs) (8 * bs.length) 8
def sha (bs : List Nat) : List Nat := ob (shB (shB fst8 bs (bs.length / 64)) (tailOf bs) (tailZ bs / 64)) 32
set_option maxHeartbeats 1000000 in
set_option maxRecDepth 100000 in
theorem sha_ok (v : Value) (bs : List Nat) (w : World) (h : Bs w v bs) (hl : bs.length ≤ 140737488355328) (T : Tb w) :
    Calls Tryz.prog 58 #[v] w fun e w' => e = .returned (.agg (cl (sha bs)).toArray) ∧ Below w.heap.size w w' := by
  have H := (show Hid _ from h)
  have HT := (show Hid _ from T)
  have hw1 := T.lt
  have HLN : Hid (bs.length ≤ 140737488355328) := hl
  have hv := (show ∃ a n c, v = .slice a n c ∧ n = bs.length from by obtain ⟨_, a, c, e, _⟩ := h; exact ⟨a, _, c, e, rfl⟩)
  obtain ⟨va, vn, vc, rfl, hvn⟩ := hv
  have HVN := (show Hid _ from hvn)
  have F0 : Hid ((w.alloc (.cells (cl (List.replicate 32 0)).toArray 70)).rangeAt 0 0 (cw fst8)) := fun j u hu => by
    have hj : j < 8 := by have := (List.getElem?_eq_some_iff.1 hu).1; rwa [cw_len] at this
    rw [Nat.zero_add, World.cell?_alloc_lt _ _ _ (by show 0 < w.heap.size; omega), T.first j hj, ← cw_get fst8 j hj, hu]
  clear h T hvn hl
  go_enter Tryz.func58, Tryz.ntmps58
  go_wp2_with (first
    | (refine wpList_load_mid rfl 145 _ rfl 0 0 (by rfl) _ _ F0.out Tryz.underlying145 rfl (info43.trans rfl) ?_)
    | (refine stA rfl 145 _ _ rfl (w.heap.size + 1) (by rfl) (cw (List.replicate 8 0)) (cw fst8) (by rfl) 145 (by have := va_new (w.alloc (.cells (cl (List.replicate 32 0)).toArray 70)) (cw (List.replicate 8 0)) 145; rw [World.size_alloc] at this; exact this) (info43.trans rfl) rfl (fun v hv => cw_one hv) ?_; intro w1 V1 U1))
  have R0 := (va_new w (cl (List.replicate 32 0)) 70).alloc (.cells (cw (List.replicate 8 0)).toArray 145)
  have B1 := (show Hid _ from U1.bel (((Below.refl w.heap.size w).alloc (Nat.le_refl _) (.cells (cl (List.replicate 32 0)).toArray 70)).alloc (by simp) (.cells (cw (List.replicate 8 0)).toArray 145)) (by omega))
  have K0 : Hid (VA w1 w.heap.size (cl (List.replicate 32 0)) 70 ∧ VA w1 (w.heap.size + 1) (cw (shB fst8 bs 0)) 145) := ⟨R0.upd U1 (by omega), V1⟩
  clear R0 V1 U1 F0
  generalize hP : w.heap.size = P at *
  go_loopw [4] (fun s wr => ∃ k : Nat, 64 * k ≤ vn ∧ (∃ a n c, s = .slice a n c ∧ n + 64 * k = vn ∧ Bs w s (bs.drop (64 * k))) ∧ Below P w wr ∧ Hid (VA wr P (cl (List.replicate 32 0)) 70 ∧ VA wr (P + 1) (cw (shB fst8 bs k)) 145)) (fun s _ => match s with | .slice _ n _ => n | _ => 0)
  case atStart => exact ⟨0, by omega, ⟨va, vn, vc, rfl, by omega, by rw [Nat.mul_zero, List.drop_zero]; exact H.out⟩, B1.out, K0⟩
  case round =>
    clear K0 B1
    obtain ⟨k, hk, ⟨a0, n0, c0, rfl, hn0, hS⟩, hbel, K⟩ := hrel
    have HB := (show Hid _ from hbel)
    have HX := (show Hid _ from hS)
    have hsl1 := (show Hid _ from hS.len.1)
    have hsl2 := hS.len.2.1
    have hsl3 := hS.len.2.2
    have HBw : Hid (Below w.heap.size w wr) := by rw [hP]; exact hbel
    clear hbel hS
    by_cases h64 : 64 ≤ n0
    · obtain ⟨b, off, ea⟩ : ∃ b off, a0 = some ⟨b, off, none⟩ := by
        obtain ⟨_, a', c', e, _, _, _, h4⟩ := HX.out
        cases e
        obtain ⟨b, off, e, _⟩ := h4 (by omega)
        exact ⟨b, off, e⟩
      subst ea
      have W8k := shB_w8 fst_w8 bs k
      obtain ⟨a, b', c, d, e, f, g, z, hv⟩ := w8_letters W8k
      have HV := (show Hid _ from hv)
      obtain ⟨K1, K2⟩ := K.out
      rw [hv] at K2 W8k
      have HK1 := (show Hid _ from K1)
      have HK2 := (show Hid _ from K2)
      have HW8 := (show Hid _ from W8k)
      clear hv W8k K1 K
      have y0 := K2.cell 0 (v := .int .u32 (a : Int)) rfl
      have f0 := K2.free 0
      have y1 := K2.cell 1 (v := .int .u32 (b' : Int)) rfl
      have f1 := K2.free 1
      have y2 := K2.cell 2 (v := .int .u32 (c : Int)) rfl
      have f2 := K2.free 2
      have y3 := K2.cell 3 (v := .int .u32 (d : Int)) rfl
      have f3 := K2.free 3
      have y4 := K2.cell 4 (v := .int .u32 (e : Int)) rfl
      have f4 := K2.free 4
      have y5 := K2.cell 5 (v := .int .u32 (f : Int)) rfl
      have f5 := K2.free 5
      have y6 := K2.cell 6 (v := .int .u32 (g : Int)) rfl
      have f6 := K2.free 6
      have y7 := K2.cell 7 (v := .int .u32 (z : Int)) rfl
      have f7 := K2.free 7
      clear K2
      have i1 : (64 : Int) ≤ (n0 : Int) := by omega
      have i2 : (64 : Int) ≤ (c0 : Int) := by omega
      have i3 : 64 ≤ c0 := by omega
      go_wp2_with fail
      go_region_with (go_at_call 84; refine (mixed_let [a, b', c, d, e, f, g, z] _ ((bs.drop (64 * k)).take 64) _ HW8.out (bs_cut64 (HX.out.step HBw.out) (by omega)).1.drew (by rw [List.length_take, ← hsl1.out]; omega) (HT.out.step (HB.out.drew) (by omega))).mono ?_; rintro e1 w4 ⟨⟨m0, m1, m2, m3, m4, m5, m6, m7, rfl, hm⟩, hb4⟩; have Q4 := HK2.out.drew.step hb4; have q0 := Q4.cell 0 (v := .int .u32 (a : Int)) rfl; have r0 := Q4.free 0; have q1 := Q4.cell 1 (v := .int .u32 (b' : Int)) rfl; have r1 := Q4.free 1; have q2 := Q4.cell 2 (v := .int .u32 (c : Int)) rfl; have r2 := Q4.free 2; have q3 := Q4.cell 3 (v := .int .u32 (d : Int)) rfl; have r3 := Q4.free 3; have q4 := Q4.cell 4 (v := .int .u32 (e : Int)) rfl; have r4 := Q4.free 4; have q5 := Q4.cell 5 (v := .int .u32 (f : Int)) rfl; have r5 := Q4.free 5; have q6 := Q4.cell 6 (v := .int .u32 (g : Int)) rfl; have r6 := Q4.free 6; have q7 := Q4.cell 7 (v := .int .u32 (z : Int)) rfl; have r7 := Q4.free 7)
      have U4 := st8_upd w4 (P + 1) m0 m1 m2 m3 m4 m5 m6 m7
      have A1 := (show Hid _ from (HK1.out.drew.step hb4).upd U4 (by omega))
      have A2 : Hid (VA ((((((((w4.setCell ⟨P + 1, 0, none⟩ (.int .u32 (m0 : Int))).setCell ⟨P + 1, 1, none⟩ (.int .u32 (m1 : Int))).setCell ⟨P + 1, 2, none⟩ (.int .u32 (m2 : Int))).setCell ⟨P + 1, 3, none⟩ (.int .u32 (m3 : Int))).setCell ⟨P + 1, 4, none⟩ (.int .u32 (m4 : Int))).setCell ⟨P + 1, 5, none⟩ (.int .u32 (m5 : Int))).setCell ⟨P + 1, 6, none⟩ (.int .u32 (m6 : Int))).setCell ⟨P + 1, 7, none⟩ (.int .u32 (m7 : Int))) (P + 1) (cw (shB fst8 bs (k + 1))) 145) := by
        have := st8_va Q4 m0 m1 m2 m3 m4 m5 m6 m7
        rw [← hm, ← HV.out] at this
        exact this
      have B4 := (show Hid _ from U4.bel (HB.out.drew.trans (hb4.mono (by have := HK2.out.lt; show P ≤ wr.heap.size; omega))) (by omega))
      have hX1 := (bs_cut64 HX.out (by omega)).2
      clear y0 f0 y1 f1 y2 f2 y3 f3 y4 f4 y5 f5 y6 f6 y7 f7 q0 r0 q1 r1 q2 r2 q3 r3 q4 r4 q5 r5 q6 r6 q7 r7 Q4 hb4 hm HV HW8 HK1 HK2 HB HX U4 HBw
      generalize ((((((((w4.setCell ⟨P + 1, 0, none⟩ (.int .u32 (m0 : Int))).setCell ⟨P + 1, 1, none⟩ (.int .u32 (m1 : Int))).setCell ⟨P + 1, 2, none⟩ (.int .u32 (m2 : Int))).setCell ⟨P + 1, 3, none⟩ (.int .u32 (m3 : Int))).setCell ⟨P + 1, 4, none⟩ (.int .u32 (m4 : Int))).setCell ⟨P + 1, 5, none⟩ (.int .u32 (m5 : Int))).setCell ⟨P + 1, 6, none⟩ (.int .u32 (m6 : Int))).setCell ⟨P + 1, 7, none⟩ (.int .u32 (m7 : Int))) = wz at *
      by_cases hc : c0 = 64
      · obtain ⟨X1, hn64⟩ := hX1.2 hc
        have XZ := (show Hid _ from X1)
        clear hX1 X1
        subst hc
        go_wp2_with fail
        exact ⟨⟨k + 1, by omega, ⟨_, _, _, rfl, by omega, by rw [← drop_more]; exact XZ.out⟩, B4.out, A1.out, A2.out⟩, by show 0 < n0; omega⟩
      · have XZ := (show Hid _ from hX1.1 hc)
        clear hX1
        go_wp2_with fail
        exact ⟨⟨k + 1, by omega, ⟨_, _, _, rfl, by omega, by rw [← drop_more]; exact XZ.out⟩, B4.out, A1.out, A2.out⟩, by show n0 - 64 < n0; omega⟩
    · have ek : k = bs.length / 64 := by have := HVN.out; omega
      obtain ⟨s1, hs1⟩ : ∃ s1, s1 = shB fst8 bs (bs.length / 64) := ⟨_, rfl⟩
      have HS1 := (show Hid _ from hs1)
      have W1 : Hid (W8 s1) := by rw [hs1]; exact shB_w8 fst_w8 bs _
      have HR : Hid (bs.drop (64 * k) = rest64 bs) := by rw [ek]; rfl
      rw [ek, ← hs1] at K
      obtain ⟨z, hz⟩ : ∃ z, z = tailZ bs := ⟨_, rfl⟩
      have HZ := (show Hid _ from hz)
      have hz1 : ((bs.drop (64 * k)).length + 9 ≤ 64 ∧ z = 64) ∨ (64 < (bs.drop (64 * k)).length + 9 ∧ (bs.drop (64 * k)).length < 64 ∧ z = 128) := by
        rw [hz, HR.out]
        unfold tailZ
        have := hsl1.out
        rw [HR.out] at this
        split
        · exact Or.inl ⟨by assumption, rfl⟩
        · exact Or.inr ⟨by omega, by omega, rfl⟩
      have hz2 : z = 64 ∨ z = 128 := by omega
      have HZ1 := (show Hid _ from hz1)
      clear hs1 hz hz1 ek
      go_wp2_with fail
      refine (ending_ok _ (bs.drop (64 * k)) vn z (8 * vn) _ (HX.out.step HBw.out) (by have := HLN.out; have := HVN.out; omega) HZ1.out rfl).mono ?_
      rintro e w5 ⟨⟨gt, rfl, hgt, VT⟩, hb5⟩
      have HE : Hid (en (bs.drop (64 * k)) z (8 * vn) 8 = tailOf bs) := by
        show _ = _
        rw [HR.out, HZ.out, HVN.out]
        rfl
      rw [HE.out] at VT
      have TL : Hid ((tailOf bs).length = z) := by
        rw [← HE.out]
        exact en_len (by rcases HZ1.out with h | h <;> omega) _ 8
      have TY : Hid (By (tailOf bs)) := by
        rw [← HE.out]
        exact en_by (HX.out.byte) _ _ 8
      obtain ⟨tl, htl⟩ : ∃ tl, tl = tailOf bs := ⟨_, rfl⟩
      have HTL := (show Hid _ from htl)
      rw [← htl] at VT TL TY
      have lK := K.out.2.lt
      have K5 : Hid (VA w5 P (cl (List.replicate 32 0)) 70 ∧ VA w5 (P + 1) (cw (shB s1 tl 0)) 145 ∧ VA w5 gt (cl tl) 5) := ⟨K.out.1.step hb5, K.out.2.step hb5, VT⟩
      have hg2 : P + 1 < gt := by omega
      have B5 := (show Hid _ from HB.out.trans (hb5.mono (by omega)))
      clear hb5 VT K HB HX HBw HE htl lK hgt
      go_wp2_with fail
      go_loopw [5] (fun s wr => ∃ k n : Nat, n + 64 * k = z ∧ ((n = 0 ∧ ∃ a, s = .slice a 0 0) ∨ (0 < n ∧ s = .slice (some ⟨gt, 64 * k, none⟩) n n)) ∧ Below P w wr ∧ Hid (VA wr P (cl (List.replicate 32 0)) 70 ∧ VA wr (P + 1) (cw (shB s1 tl k)) 145 ∧ VA wr gt (cl tl) 5)) (fun s _ => match s with | .slice _ n _ => n | _ => 0)
      case atStart => exact ⟨0, z, by omega, Or.inr ⟨by omega, rfl⟩, B5.out, K5⟩
      case round =>
        clear K5 B5
        obtain ⟨j, n, hn, hcase, hbel, K⟩ := hrel
        have HB := (show Hid _ from hbel)
        clear hbel
        rcases hcase with ⟨rfl, a0, rfl⟩ | ⟨hn0', rfl⟩
        · have ej : j = z / 64 := by omega
          have HF : Hid (ob (shB s1 tl j) 32 = sha bs) := by
            show _ = _
            rw [ej, HS1.out, HTL.out, HZ.out]
            rfl
          clear ej
          have W2 : Hid (W8 (shB s1 tl j)) := shB_w8 W1.out tl j
          go_wp2_with (first
            | (refine ldA rfl 145 _ rfl (P + 1) (by rfl) _ _ K.out.2.1 8 _ Tryz.underlying145 (info43.trans (by rw [cw_len, W2.out.len])) ?_)
            | (go_at_call 86; refine (sbytes_ok _ _ W2.out).mono ?_; rintro e w6 ⟨rfl, hb6⟩; have V6 := K.out.1.step hb6; have B6 := HB.out.trans (hb6.mono (by have := K.out.1.lt; omega)))
            | (refine stA rfl 70 _ _ rfl P (by rfl) _ (cl (ob (shB s1 tl j) 32)) (by rfl) _ V6 (info23.trans (by rw [cl_len, ob_len])) (by rw [cl_len, cl_len, ob_len]; simp) (fun v hv => cl_one hv) ?_; intro w7 R7 U7))
          refine bodyPost_ret (v := .agg (cl (ob (shB s1 tl j) 32)).toArray) ?_ rfl ⟨by rw [HF.out], by rw [hP]; exact U7.bel B6 (Nat.le_refl _)⟩
          have hld := run_loadVar_row (P := Tryz.prog) w7 P 70 70 _ (0, 0) _ R7.blk Tryz.underlying70 rfl (info23.trans (by rw [List.size_toArray, cl_len, ob_len]))
          simp [results, Tryz.results58, asAddr, hld, Act.put]
        have h64' : 64 ≤ n := by omega
        have W8k := shB_w8 W1.out tl j
        obtain ⟨a, b', c, d, e, f, g, y, hv⟩ := w8_letters W8k
        have HV := (show Hid _ from hv)
        obtain ⟨K1, K2, K3⟩ := K.out
        rw [hv] at K2 W8k
        have HK1 := (show Hid _ from K1)
        have HK2 := (show Hid _ from K2)
        have HK3 := (show Hid _ from K3)
        have HW8 := (show Hid _ from W8k)
        clear hv W8k K1 K K3
        have y0 := K2.cell 0 (v := .int .u32 (a : Int)) rfl
        have f0 := K2.free 0
        have y1 := K2.cell 1 (v := .int .u32 (b' : Int)) rfl
        have f1 := K2.free 1
        have y2 := K2.cell 2 (v := .int .u32 (c : Int)) rfl
        have f2 := K2.free 2
        have y3 := K2.cell 3 (v := .int .u32 (d : Int)) rfl
        have f3 := K2.free 3
        have y4 := K2.cell 4 (v := .int .u32 (e : Int)) rfl
        have f4 := K2.free 4
        have y5 := K2.cell 5 (v := .int .u32 (f : Int)) rfl
        have f5 := K2.free 5
        have y6 := K2.cell 6 (v := .int .u32 (g : Int)) rfl
        have f6 := K2.free 6
        have y7 := K2.cell 7 (v := .int .u32 (y : Int)) rfl
        have f7 := K2.free 7
        clear K2
        have i1 : (64 : Int) ≤ (n : Int) := by omega
        have X : Hid (Bs wr (.slice (some ⟨gt, 64 * j, none⟩) n n) (tl.drop (64 * j))) := by
          have h0 := HK3.out.bs TL.out (by omega) TY.out
          by_cases hj : j = 0
          · subst hj
            obtain rfl : n = z := by omega
            show Bs _ _ _
            simpa using h0
          · have := bs_from h0 (64 * j) (by omega)
            rw [Nat.zero_add, show z - 64 * j = n by omega] at this
            exact this
        go_wp2_with fail
        go_region_with (go_at_call 84; refine (mixed_let [a, b', c, d, e, f, g, y] _ ((tl.drop (64 * j)).take 64) _ HW8.out (bs_cut64 X.out (by omega)).1.drew (by rw [List.length_take, List.length_drop, TL.out]; omega) (HT.out.step (HB.out.drew) (by omega))).mono ?_; rintro e1 w4 ⟨⟨m0, m1, m2, m3, m4, m5, m6, m7, rfl, hm⟩, hb4⟩; have Q4 := HK2.out.drew.step hb4; have q0 := Q4.cell 0 (v := .int .u32 (a : Int)) rfl; have r0 := Q4.free 0; have q1 := Q4.cell 1 (v := .int .u32 (b' : Int)) rfl; have r1 := Q4.free 1; have q2 := Q4.cell 2 (v := .int .u32 (c : Int)) rfl; have r2 := Q4.free 2; have q3 := Q4.cell 3 (v := .int .u32 (d : Int)) rfl; have r3 := Q4.free 3; have q4 := Q4.cell 4 (v := .int .u32 (e : Int)) rfl; have r4 := Q4.free 4; have q5 := Q4.cell 5 (v := .int .u32 (f : Int)) rfl; have r5 := Q4.free 5; have q6 := Q4.cell 6 (v := .int .u32 (g : Int)) rfl; have r6 := Q4.free 6; have q7 := Q4.cell 7 (v := .int .u32 (y : Int)) rfl; have r7 := Q4.free 7)
        have U4 := st8_upd w4 (P + 1) m0 m1 m2 m3 m4 m5 m6 m7
        have A1 := (show Hid _ from (HK1.out.drew.step hb4).upd U4 (by omega))
        have A3 := (show Hid _ from (HK3.out.drew.step hb4).upd U4 (by omega))
        have A2 : Hid (VA ((((((((w4.setCell ⟨P + 1, 0, none⟩ (.int .u32 (m0 : Int))).setCell ⟨P + 1, 1, none⟩ (.int .u32 (m1 : Int))).setCell ⟨P + 1, 2, none⟩ (.int .u32 (m2 : Int))).setCell ⟨P + 1, 3, none⟩ (.int .u32 (m3 : Int))).setCell ⟨P + 1, 4, none⟩ (.int .u32 (m4 : Int))).setCell ⟨P + 1, 5, none⟩ (.int .u32 (m5 : Int))).setCell ⟨P + 1, 6, none⟩ (.int .u32 (m6 : Int))).setCell ⟨P + 1, 7, none⟩ (.int .u32 (m7 : Int))) (P + 1) (cw (shB s1 tl (j + 1))) 145) := by
          have := st8_va Q4 m0 m1 m2 m3 m4 m5 m6 m7
          rw [← hm, ← HV.out] at this
          exact this
        have B4 := (show Hid _ from U4.bel (HB.out.drew.trans (hb4.mono (by have := HK2.out.lt; show P ≤ wr.heap.size; omega))) (by omega))
        clear y0 f0 y1 f1 y2 f2 y3 f3 y4 f4 y5 f5 y6 f6 y7 f7 q0 r0 q1 r1 q2 r2 q3 r3 q4 r4 q5 r5 q6 r6 q7 r7 Q4 hb4 hm HV HW8 HK1 HK2 HK3 HB X U4
        generalize ((((((((w4.setCell ⟨P + 1, 0, none⟩ (.int .u32 (m0 : Int))).setCell ⟨P + 1, 1, none⟩ (.int .u32 (m1 : Int))).setCell ⟨P + 1, 2, none⟩ (.int .u32 (m2 : Int))).setCell ⟨P + 1, 3, none⟩ (.int .u32 (m3 : Int))).setCell ⟨P + 1, 4, none⟩ (.int .u32 (m4 : Int))).setCell ⟨P + 1, 5, none⟩ (.int .u32 (m5 : Int))).setCell ⟨P + 1, 6, none⟩ (.int .u32 (m6 : Int))).setCell ⟨P + 1, 7, none⟩ (.int .u32 (m7 : Int))) = wz at *
        by_cases hc : n = 64
        · subst hc
          go_wp2_with fail
          exact ⟨⟨j + 1, 0, by omega, Or.inl ⟨rfl, _, rfl⟩, B4.out, A1.out, A2.out, A3.out⟩, by show 0 < 64; omega⟩
        · go_wp2_with fail
          exact ⟨⟨j + 1, n - 64, by omega, Or.inr ⟨by omega, rfl⟩, B4.out, A1.out, A2.out, A3.out⟩, by show n - 64 < n; omega⟩
end Go.Proofs.YtkmdegmpffgplaaGreatDoor.pk
/- sum: Sha of abc; awake; Twin. -/
namespace Go.Proofs.YtkmdegmpffgplaaGreatDoor.pk
open Go.RowKit
set_option linter.unusedVariables false

set_option maxRecDepth 100000 in
theorem sha_abc : (sha [97, 98, 99]).getD 0 0 = 186 ∧ (sha [97, 98, 99]).getD 31 0 = 173 := by decide +kernel
theorem bel_of_drew {B : Nat} {w w' : World} (h : Below B w.drew w') : Below B w w' := ⟨h.os, h.tape, h.output, h.size, h.block⟩
/-- a constant text's bytes, marked behind -/
theorem bs_mark (w : World) (bs : List Nat) (hby : By bs) (n : Nat) (hl : bs.length = n) (hn : n ≤ 1000) (T : TypeId) (fr : Nat × Nat) :
    Bs (w.alloc (.cells (cl bs).toArray T fr)) (.slice (some ⟨w.heap.size, 0, none⟩) n n) bs := by
  subst hl
  refine ⟨hby, _, _, rfl, Nat.le_refl _, by omega, fun h => (by cases h), fun h0 => ⟨w.heap.size, 0, rfl, by simp, fun k hk => ?_⟩⟩
  rw [Nat.zero_add, World.cell?_alloc_mark]
  simpa using cl_get bs k hk
theorem sha_len (bs : List Nat) : (sha bs).length = 32 := ob_len _ _
theorem OwnB.step {w w' : World} {B : Nat} {v : Value} {cs : List Nat} (h : OwnB w B v cs) (k : Below w.heap.size w w') : OwnB w' B v cs := by
  refine ⟨h.byte, h.own.1, ?_⟩
  rcases h.own.2 with h2 | ⟨g, cap, cur, e, hb, hg, r⟩
  · exact Or.inl h2
  · refine Or.inr ⟨g, cap, cur, e, hb, ?_, r⟩
    rw [k.block g ?_]
    · exact hg
    · rcases Nat.lt_or_ge g w.heap.size with hlt | hge
      · exact hlt
      · rw [Array.getElem?_eq_none hge] at hg; cases hg
/-- an owned row is nil, or lies at its block's head -/
theorem OwnB.head {w : World} {B : Nat} {v : Value} {cs : List Nat} (h : OwnB w B v cs) : (v = .slice none 0 0 ∧ cs = []) ∨ ∃ g cap, v = .slice (some ⟨g, 0, none⟩) cs.length cap ∧ B ≤ g ∧ g < w.heap.size ∧ cs.length ≤ cap ∧ cap ≤ 9223372036854775807 := by
  rcases h.own.2 with ⟨e, h0⟩ | ⟨g, cap, cur, e, hb, hg, hc, hm, r⟩
  · exact Or.inl ⟨e, List.eq_nil_of_length_eq_zero h0⟩
  · refine Or.inr ⟨g, cap, e, hb, ?_, hc, by unfold maxLen at hm; omega⟩
    rcases Nat.lt_or_ge g w.heap.size with hlt | hge
    · exact hlt
    · rw [Array.getElem?_eq_none hge] at hg; cases hg
theorem OwnB.set {w : World} {B g n cap : Nat} {cs : List Nat} (h : OwnB w B (.slice (some ⟨g, 0, none⟩) n cap) cs) (hl : cs.length = n) (j d : Nat) (hd : d < 256) :
    OwnB (w.setCell ⟨g, j, none⟩ (.int .u8 (d : Int))) B (.slice (some ⟨g, 0, none⟩) n cap) (cs.set j d) := by
  subst hl
  have := (World.ownsRow.stored h.own j (.int .u8 (d : Int))).1
  refine ⟨fun x hx => ?_, ?_⟩
  · rcases List.mem_or_eq_of_mem_set hx with hx | rfl
    · exact h.byte x hx
    · exact hd
  · rw [List.length_set]
    have e : cl (cs.set j d) = (cl cs).set j (.int .u8 (d : Int)) := by simp [cl, List.map_set]
    rw [e]
    exact this
theorem OwnB.free {w : World} {B g n cap : Nat} {cs : List Nat} (h : OwnB w B (.slice (some ⟨g, 0, none⟩) n cap) cs) (j : Nat) : w.frozen? ⟨g, j, none⟩ = false := by
  rcases h.own.2 with ⟨e, h0⟩ | ⟨g', cap', cur, e, hb, hg, r⟩
  · simp at e
  · simp only [Value.slice.injEq, Option.some.injEq, Addr.mk.injEq, and_true] at e
    obtain ⟨rfl, -, rfl⟩ := e
    simp [World.frozen?, hg]
theorem OwnB.cell {w : World} {B g n cap : Nat} {cs : List Nat} (h : OwnB w B (.slice (some ⟨g, 0, none⟩) n cap) cs) (hl : cs.length = n) (j : Nat) (hj : j < n) : w.cell? ⟨g, j, none⟩ = some (.int .u8 (bt cs j)) := by
  subst hl
  rw [h.own.cellAt j (by omega), cl_get cs j hj]
end Go.Proofs.YtkmdegmpffgplaaGreatDoor.pk
