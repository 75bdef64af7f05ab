/- sum: the contracts of ending and bytes. -/
import Derived.Test.YtbgmepepcdpkfaaDoorSf
namespace Go.Proofs.YtbgmepepcdpkfaaDoor
open Go.RowKit
set_option linter.unusedVariables false

/-- copy of bytes to the front of a row known whole -/
theorem cpA {w : World} {ops : Array Oper} {rest : List Oper} {o : Oper} {a : Act} {Q : Exit → Act → World → Prop} (hgd : o.guard = none) (d s : Operand)
    (ho : o.op = .call { callee := .builtin .copy, args := #[d, s], argTypes := #[22, 22] })
    (g dL dC : Nat) (u : Value) (bs : List Nat) (hd : a.eval d = .slice (some ⟨g, 0, none⟩) dL dC) (hs : a.eval s = u) (hu : Bs w u bs) (hL : bs.length ≤ dL) (cs : List Value) (T : TypeId) (V : VA w g cs T) (hf : bs.length ≤ cs.length)
    (h : ∀ w', VA w' g (cl bs ++ cs.drop bs.length) T → Upd g w w' → wpList Tryd.prog ops Q rest (a.put o.dst (.int .i64 (bs.length : Int))) w') :
    wpList Tryd.prog ops Q (o :: rest) a w := by
  obtain ⟨i0, hi, hz0, hz1, hz2⟩ := info8_parts
  obtain ⟨hby, ad, c, rfl, h1, h2, h3, h4⟩ := hu
  by_cases h0 : bs.length = 0
  · obtain rfl : bs = [] := List.eq_nil_of_length_eq_zero h0
    refine wpList_copy_nothing hgd d s 22 22 ho 5 Tryd.underlying22 (by rw [hi]; simp [hz1]) (some ⟨g, 0, none⟩) ad dL dC 0 c hd hs (Nat.zero_min _) ?_
    exact h w ⟨by simpa [cl] using V.blk⟩ ⟨rfl, rfl, rfl, rfl, fun _ _ => rfl⟩
  · obtain ⟨b, off, rfl, hb, hx⟩ := h4 (by omega)
    refine wpList_copy_own hgd d s 22 22 ho 5 Tryd.underlying22 (by rw [hi]; simp [hz1]) g 0 dL dC ⟨b, off, none⟩ bs.length c hd hs _ T V.blk (cl bs) (by rw [cl_len]; exact (Nat.min_eq_left hL).symm) (fun j v hv => ?_) (by simpa [cl_len] using hf) (fun v hv => cl_one hv) ?_
    · have hj : j < bs.length := by have := (List.getElem?_eq_some_iff.1 hv).1; rwa [cl_len] at this
      rw [Go.WideShapes.add_plain, hx j hj, ← cl_get bs j hj, hv]
    · rw [cl_len]
      refine h _ ⟨?_⟩ (upd_setRow w g _)
      rw [setRow_heap w g _ _ _ _ V.blk]
      simp
def pad (bs : List Nat) (z : Nat) : List Nat := (bs ++ List.replicate (z - bs.length) 0).set bs.length 128
def en (bs : List Nat) (z B : Nat) : Nat → List Nat
  | 0 => pad bs z
  | k + 1 => (en bs z B k).set (z - 1 - k) (B / 2 ^ (8 * k) % 256)
theorem pad_len {bs : List Nat} {z : Nat} (h : bs.length ≤ z) : (pad bs z).length = z := by simp [pad]; omega
theorem en_len {bs : List Nat} {z : Nat} (h : bs.length ≤ z) (B : Nat) : ∀ k, (en bs z B k).length = z
  | 0 => pad_len h
  | k + 1 => by simp [en, en_len h B k]
theorem by_set {xs : List Nat} {k d : Nat} (h : By xs) (hd : d < 256) : By (xs.set k d) := fun x hx => by
  rcases List.mem_or_eq_of_mem_set hx with hx | rfl
  · exact h x hx
  · exact hd
theorem pad_by {bs : List Nat} (h : By bs) (z : Nat) : By (pad bs z) := by_set (h.app (fun x hx => by have := List.eq_of_mem_replicate hx; omega)) (by omega)
theorem en_by {bs : List Nat} (h : By bs) (z B : Nat) : ∀ k, By (en bs z B k)
  | 0 => pad_by h z
  | k + 1 => by_set (en_by h z B k) (Nat.mod_lt _ (by omega))
/-- a row known whole, as a slice -/
theorem VA.bs {w : World} {g n : Nat} {xs : List Nat} {T : TypeId} (h : VA w g (cl xs) T) (hl : xs.length = n) (hn : n ≤ 1000) (hby : By xs) : Bs w (.slice (some ⟨g, 0, none⟩) n n) xs := by
  subst hl
  refine ⟨hby, some ⟨g, 0, none⟩, xs.length, rfl, Nat.le_refl _, by omega, fun h => (by cases h), fun _ => ⟨g, 0, rfl, h.lt, fun k hk => ?_⟩⟩
  rw [Nat.zero_add]
  exact h.cell k (cl_get xs k hk)
theorem drop_cl (n z : Nat) : (cl (List.replicate z 0)).drop n = cl (List.replicate (z - n) 0) := by simp [cl]
set_option maxHeartbeats 1000000 in
set_option maxRecDepth 100000 in
theorem ending_ok (v : Value) (bs : List Nat) (n z B : Nat) (w : World) (h : Bs w v bs) (hn : n ≤ 140737488355328) (hz : (bs.length + 9 ≤ 64 ∧ z = 64) ∨ (64 < bs.length + 9 ∧ bs.length < 64 ∧ z = 128)) (hB : B = 8 * n) :
    Calls Tryd.prog 20 #[v, .int .i64 n] w fun e w' => (∃ g, e = .returned (.slice (some ⟨g, 0, none⟩) z z) ∧ w.heap.size ≤ g ∧ VA w' g (cl (en bs z B 8)) 5) ∧ Below w.heap.size w w' := by
  have H := (show Hid _ from h)
  have HY := (show Hid _ from h.byte)
  obtain ⟨hby, a, c, rfl, hlc, hc9, hno, hx⟩ := h
  obtain ⟨L, hL⟩ : ∃ L, L = bs.length := ⟨_, rfl⟩
  have HL : Hid (L = bs.length) := hL
  rw [← hL] at hlc H hz ⊢
  clear hx hby hno hL
  rcases hz with ⟨hz, rfl⟩ | ⟨hz, hz2, rfl⟩
  · have hLz : L < 128 := by omega
    have eB : Hid (B = 8 * n) := hB
    clear hB
    go_enter Tryd.func20, Tryd.ntmps20
    go_wp2_with (first
      | (at_make; refine mkB rfl _ _ rfl 64 64 _ _ (by rfl) (by rfl) (by rfl) (by rfl) (by omega) (by omega) ?_; intro w1 hrow hb1 hs1; have V1 := VA.mk hrow.out)
      | (refine cpA rfl _ _ rfl w.heap.size _ _ _ bs (by rfl) (by rfl) (H.out.step hb1) (by have := HL.out; omega) _ _ V1 (by rw [cl_len]; simp; have := HL.out; omega) ?_; intro w2 V2 U2; rw [drop_cl, cl_app] at V2; have c0 := V2.free L; have c1 := V2.cell L (cl_get _ L (by rw [List.length_append, List.length_replicate]; have := HL.out; omega))))
    have V3 : Hid (VA (w2.setCell ⟨w.heap.size, L, none⟩ (.int .u8 128)) w.heap.size (cl (en bs 64 B 0)) 5) := by
      have := V2.set L (.int .u8 ((128 : Nat) : Int))
      rw [← cl_set, HL.out] at this
      rw [HL.out]
      exact this
    have B3 : Hid (Below w.heap.size w (w2.setCell ⟨w.heap.size, L, none⟩ (.int .u8 128))) := (U2.bel hb1 (Nat.le_refl _)).setCell (p := ⟨w.heap.size, L, none⟩) (Nat.le_refl _) _
    clear hrow hb1 hs1 V1 V2 U2 c0 c1 H
    generalize w2.setCell ⟨w.heap.size, L, none⟩ (.int .u8 128) = w3 at *
    go_loopw [28] (fun i wr => ∃ k : Nat, k ≤ 8 ∧ i = .int .i64 k ∧ Below w.heap.size w wr ∧ Hid (VA wr w.heap.size (cl (en bs 64 B k)) 5)) (fun i _ => 8 - (intOf i).toNat)
    case atStart => exact ⟨0, by omega, rfl, B3.out, V3⟩
    case round =>
      clear B3 V3
      obtain ⟨k, hk, rfl, hbel, V⟩ := hrel
      have HB := (show Hid _ from hbel)
      clear hbel
      by_cases hk8 : k = 8
      · subst hk8
        rw [show ((8 : Nat) : Int) = 8 from rfl]
        go_wp2_with fail
        go_ret
        exact ⟨⟨_, rfl, Nat.le_refl _, V.out⟩, HB.out⟩
      have hk' : k < 8 := by omega
      obtain ⟨j, hj⟩ : ∃ j, j = 64 - 1 - k := ⟨_, rfl⟩
      have HJ := (show Hid _ from hj)
      have e1 : ((64 : Int) - 1 - (k : Int)) = (j : Int) := by omega
      have e2 : ((63 : Int) - (k : Int)) = (j : Int) := by omega
      have hj2 : j < 64 := by omega
      have c1 := V.out.cell j (cl_get _ j (by rw [en_len (by have := HL.out; omega)]; exact hj2))
      have c2 := V.out.free j
      clear hj
      go_wp2_with fail
      have hv : ((n : Int) * 8 / 2 ^ (8 * k) % 256) = ((B / 2 ^ (8 * k) % 256 : Nat) : Int) := by rw [eB.out, Nat.mul_comm 8 n, Int.natCast_emod, Int.natCast_ediv, Int.natCast_mul, Int.natCast_pow]; rfl
      rw [hv]
      refine ⟨⟨k + 1, by omega, by go_num, HB.out.setCell (p := ⟨w.heap.size, j, none⟩) (Nat.le_refl _) _, ?_⟩, by simp [intOf]; omega⟩
      have := V.out.set j (.int .u8 ((B / 2 ^ (8 * k) % 256 : Nat) : Int))
      rw [← cl_set, HJ.out] at this
      rw [HJ.out]
      exact this
  · have hLz : L < 128 := by omega
    have eB : Hid (B = 8 * n) := hB
    clear hB
    go_enter Tryd.func20, Tryd.ntmps20
    go_wp2_with (first
      | (at_make; refine mkB rfl _ _ rfl 128 128 _ _ (by rfl) (by rfl) (by rfl) (by rfl) (by omega) (by omega) ?_; intro w1 hrow hb1 hs1; have V1 := VA.mk hrow.out)
      | (refine cpA rfl _ _ rfl w.heap.size _ _ _ bs (by rfl) (by rfl) (H.out.step hb1) (by have := HL.out; omega) _ _ V1 (by rw [cl_len]; simp; have := HL.out; omega) ?_; intro w2 V2 U2; rw [drop_cl, cl_app] at V2; have c0 := V2.free L; have c1 := V2.cell L (cl_get _ L (by rw [List.length_append, List.length_replicate]; have := HL.out; omega))))
    have V3 : Hid (VA (w2.setCell ⟨w.heap.size, L, none⟩ (.int .u8 128)) w.heap.size (cl (en bs 128 B 0)) 5) := by
      have := V2.set L (.int .u8 ((128 : Nat) : Int))
      rw [← cl_set, HL.out] at this
      rw [HL.out]
      exact this
    have B3 : Hid (Below w.heap.size w (w2.setCell ⟨w.heap.size, L, none⟩ (.int .u8 128))) := (U2.bel hb1 (Nat.le_refl _)).setCell (p := ⟨w.heap.size, L, none⟩) (Nat.le_refl _) _
    clear hrow hb1 hs1 V1 V2 U2 c0 c1 H
    generalize w2.setCell ⟨w.heap.size, L, none⟩ (.int .u8 128) = w3 at *
    go_loopw [28] (fun i wr => ∃ k : Nat, k ≤ 8 ∧ i = .int .i64 k ∧ Below w.heap.size w wr ∧ Hid (VA wr w.heap.size (cl (en bs 128 B k)) 5)) (fun i _ => 8 - (intOf i).toNat)
    case atStart => exact ⟨0, by omega, rfl, B3.out, V3⟩
    case round =>
      clear B3 V3
      obtain ⟨k, hk, rfl, hbel, V⟩ := hrel
      have HB := (show Hid _ from hbel)
      clear hbel
      by_cases hk8 : k = 8
      · subst hk8
        rw [show ((8 : Nat) : Int) = 8 from rfl]
        go_wp2_with fail
        go_ret
        exact ⟨⟨_, rfl, Nat.le_refl _, V.out⟩, HB.out⟩
      have hk' : k < 8 := by omega
      obtain ⟨j, hj⟩ : ∃ j, j = 128 - 1 - k := ⟨_, rfl⟩
      have HJ := (show Hid _ from hj)
      have e1 : ((128 : Int) - 1 - (k : Int)) = (j : Int) := by omega
      have e2 : ((127 : Int) - (k : Int)) = (j : Int) := by omega
      have hj2 : j < 128 := by omega
      have c1 := V.out.cell j (cl_get _ j (by rw [en_len (by have := HL.out; omega)]; exact hj2))
      have c2 := V.out.free j
      clear hj
      go_wp2_with fail
      have hv : ((n : Int) * 8 / 2 ^ (8 * k) % 256) = ((B / 2 ^ (8 * k) % 256 : Nat) : Int) := by rw [eB.out, Nat.mul_comm 8 n, Int.natCast_emod, Int.natCast_ediv, Int.natCast_mul, Int.natCast_pow]; rfl
      rw [hv]
      refine ⟨⟨k + 1, by omega, by go_num, HB.out.setCell (p := ⟨w.heap.size, j, none⟩) (Nat.le_refl _) _, ?_⟩, by simp [intOf]; omega⟩
      have := V.out.set j (.int .u8 ((B / 2 ^ (8 * k) % 256 : Nat) : Int))
      rw [← cl_set, HJ.out] at this
      rw [HJ.out]
      exact this
def ob (ss : List Nat) : Nat → List Nat
  | 0 => List.replicate 32 0
  | k + 1 => (ob ss k).set k (ss.getD (k / 4) 0 / 2 ^ (8 * (3 - k % 4)) % 256)
theorem ob_len (ss : List Nat) : ∀ k, (ob ss k).length = 32
  | 0 => by simp [ob]
  | k + 1 => by simp [ob, ob_len ss k]
theorem ob_by (ss : List Nat) : ∀ k, By (ob ss k)
  | 0 => fun x hx => by have := List.eq_of_mem_replicate hx; omega
  | k + 1 => by_set (ob_by ss k) (Nat.mod_lt _ (by omega))
theorem info23 : (Tryd.prog.info? 23).map (·.size) = some 32 := by kernel_rfl
theorem run_index43 (ss : List Nat) (k : Nat) (w : World) (hl : ss.length = 8) (hk : k < 8) : (Instr.index 43 (.agg (cw ss).toArray) (.int .i64 (k : Int))).run Tryd.prog w = .ok (.int .u32 ((ss.getD k 0 : Nat) : Int)) w := by
  have g1 := cw_get ss k (by omega)
  simp [Instr.index, run_underlying Tryd.underlying43, asIntOf, part, g1]
  intro h
  omega
set_option maxHeartbeats 1000000 in
set_option maxRecDepth 100000 in
theorem sbytes_ok (ss : List Nat) (w : World) (hs : W8 ss) :
    Calls Tryd.prog 21 #[.agg (cw ss).toArray] w fun e w' => e = .returned (.agg (cl (ob ss 32)).toArray) ∧ Below w.heap.size w w' := by
  have HS := (show Hid _ from hs)
  have hl := hs.len
  have V0 := va_new w (cw ss) 43
  clear hs
  go_enter Tryd.func21, Tryd.ntmps21
  go_wp2_with (first
    | (refine ldA rfl 43 _ rfl w.heap.size (by rfl) _ _ ((V0.alloc _).alloc _) 8 _ Tryd.underlying43 (info43.trans (by rw [cw_len, HS.out.len])) ?_))
  go_loopw [8] (fun i wr => ∃ k : Nat, k ≤ 8 ∧ i = .int .i64 k ∧ Below w.heap.size w wr ∧ Hid (VA wr (w.heap.size + 1) (cl (List.replicate 32 0)) 23 ∧ VA wr (w.heap.size + 2) (cl (ob ss (4 * k))) 23)) (fun i _ => 8 - (intOf i).toNat)
  case atStart =>
    have A1 := va_new (w.alloc (.cells (cw ss).toArray 43)) (cl (List.replicate 32 0)) 23
    have A2 := va_new ((w.alloc (.cells (cw ss).toArray 43)).alloc (.cells (cl (List.replicate 32 0)).toArray 23)) (cl (List.replicate 32 0)) 23
    rw [World.size_alloc] at A1 A2
    rw [World.size_alloc] at A2
    exact ⟨0, by omega, rfl, (((Below.refl _ _).alloc (Nat.le_refl _) _).alloc (by simp) _).alloc (by simp; omega) _, A1.alloc _, A2⟩
  case round =>
    clear V0
    obtain ⟨k, hk, rfl, hbel, V⟩ := hrel
    have HB := (show Hid _ from hbel)
    clear hbel
    by_cases hk8 : k = 8
    · subst hk8
      rw [show ((8 : Nat) : Int) = 8 from rfl]
      go_wp2_with (first
        | (refine ldA rfl 23 _ rfl (w.heap.size + 2) (by rfl) _ _ V.out.2 32 _ Tryd.underlying23 (info23.trans (by rw [cl_len, ob_len])) ?_)
        | (refine stA rfl 23 _ _ rfl (w.heap.size + 1) (by rfl) _ _ (by rfl) _ V.out.1 (info23.trans (by rw [cl_len, ob_len])) (by rw [cl_len, cl_len, ob_len]; simp) (fun v hv => cl_one hv) ?_; intro w9 R9 U9))
      refine bodyPost_ret (v := .agg (cl (ob ss 32)).toArray) ?_ rfl ⟨rfl, U9.bel HB.out (by omega)⟩
      have hld := run_loadVar_row (P := Tryd.prog) w9 (w.heap.size + 1) 23 23 _ (0, 0) _ R9.blk Tryd.underlying23 rfl (info23.trans (by rw [List.size_toArray, cl_len, ob_len]))
      simp [results, Tryd.results21, asAddr, hld, Act.put]
    have hk' : k < 8 := by omega
    have hidx := run_index43 ss k wr hl hk'
    have b1 := HS.out.at k
    obtain ⟨x, hx⟩ : ∃ x, x = ss.getD k 0 := ⟨_, rfl⟩
    have HX := (show Hid _ from hx)
    rw [← hx] at hidx b1
    clear hx
    go_wp2_with fail
    go_loopw [12] (fun i wr => ∃ j : Nat, j ≤ 4 ∧ i = .int .i64 j ∧ Below w.heap.size w wr ∧ Hid (VA wr (w.heap.size + 1) (cl (List.replicate 32 0)) 23 ∧ VA wr (w.heap.size + 2) (cl (ob ss (4 * k + j))) 23)) (fun i _ => 4 - (intOf i).toNat)
    case atStart => exact ⟨0, by omega, rfl, HB.out, V⟩
    case round =>
      clear V HB hidx
      obtain ⟨j, hj, rfl, hbel, V⟩ := hrel
      have HB := (show Hid _ from hbel)
      clear hbel
      by_cases hj4 : j = 4
      · subst hj4
        rw [show ((4 : Nat) : Int) = 4 from rfl]
        go_wp2_with fail
        exact ⟨⟨k + 1, by omega, by go_num, HB.out, V⟩, by simp [intOf]; omega⟩
      have hj' : j < 4 := by omega
      obtain ⟨q, hq⟩ : ∃ q, q = 4 * k + j := ⟨_, rfl⟩
      have HQ := (show Hid _ from hq)
      have e1 : (k : Int) * 4 + (j : Int) = (q : Int) := by omega
      have e2 : 4 * (k : Int) + (j : Int) = (q : Int) := by omega
      have hq2 : q < 32 := by omega
      obtain ⟨s, hs⟩ : ∃ s, s = 3 - j := ⟨_, rfl⟩
      have HSS := (show Hid _ from hs)
      have e3 : (3 : Int) - (j : Int) = (s : Int) := by omega
      have hs3 : s ≤ 3 := by omega
      rw [← hq] at V
      have c1 := V.out.2.cell q (cl_get _ q (by rw [ob_len]; exact hq2))
      have c2 := V.out.2.free q
      have HE : Hid (ob ss (q + 1) = (ob ss q).set q (x / 2 ^ (8 * s) % 256)) := by
        show _ = _
        rw [ob, show q / 4 = k by omega, show 3 - q % 4 = s by omega, ← HX.out]
      clear hq hs
      go_wp2_with fail
      have hv : ((x : Int) / 2 ^ (8 * s) % 256) = ((x / 2 ^ (8 * s) % 256 : Nat) : Int) := by rw [Int.natCast_emod, Int.natCast_ediv, Int.natCast_pow]; rfl
      rw [hv]
      refine ⟨⟨j + 1, by omega, by go_num, HB.out.setCell (p := ⟨w.heap.size + 2, q, none⟩) (by simp) _, V.out.1.set_other (by omega) _ _, ?_⟩, by simp [intOf]; omega⟩
      have := V.out.2.set q (.int .u8 ((x / 2 ^ (8 * s) % 256 : Nat) : Int))
      rw [← cl_set, ← HE.out] at this
      rw [show 4 * k + (j + 1) = q + 1 by have := HQ.out; omega]
      exact this
end Go.Proofs.YtbgmepepcdpkfaaDoor
