/- pack: the contracts of Uint, Int and Bytes. -/
import Derived.Test.YtcognhhbpapibaaDoorAc
import Derived.Laws.Bits64
import Derived.Laws.Bits64b
namespace Go.Proofs.YtcognhhbpapibaaDoor
open Go.RowKit
set_option linter.unusedVariables false

/-- copy(out, p), out as long as p, and made just before -/
theorem copyB {w : World} {ops : Array Oper} {rest : List Oper} {o : Oper} {a : Act} {Q : Exit → Act → World → Prop} (hgd : o.guard = none) (d s : Operand)
    (ho : o.op = .call { callee := .builtin .copy, args := #[d, s], argTypes := #[29, 29] })
    (g L m : Nat) (u : Value) (bs : List Nat) (hd : a.eval d = .slice (some ⟨g, 0, none⟩) L m) (hs : a.eval s = u) (hu : Bs w u bs) (hL : bs.length = L)
    (hg : w.heap[g]? = some (.cells (cl (List.replicate m 0)).toArray 5 (0, 0))) (hLm : L ≤ m) (hm : m ≤ 140737488355328) (B : Nat) (w0 : World) (hb : Below B w0 w) (hBg : B ≤ g)
    (h : ∀ w', OwnB w' B (.slice (some ⟨g, 0, none⟩) L m) bs → Below B w0 w' → wpList Tryd.prog ops Q rest (a.put o.dst (goInt L)) w') :
    wpList Tryd.prog ops Q (o :: rest) a w := by
  obtain ⟨i0, hi, hz0, hz1, hz2⟩ := info8_parts
  obtain ⟨hby, ad, c, rfl, h1, h2, h3, h4⟩ := hu
  subst hL
  refine wpList_copy_splice hgd d s 29 29 ho 5 Tryd.underlying29 (by rw [hi]; simp [hz1]) _ _ bs.length m bs.length c hd hs g 0 (cl (List.replicate m 0)) 5 hg (cl bs) (by rw [cl_len]; simp) ?_ (by simp [cl_len]; omega) (fun u hu => cl_one hu) B w0 hb hBg ?_
  · intro h0
    rw [cl_len] at h0
    obtain ⟨b, off, e, hbb, hx⟩ := h4 h0
    cases e
    refine ⟨rfl, _, rfl, fun j v hj => ?_⟩
    have hj' : j < bs.length := by
      have := (List.getElem?_eq_some_iff.1 hj).1
      rwa [cl_len] at this
    rw [Go.WideShapes.add_plain, hx j hj', ← cl_get bs j hj', hj]
  · intro w' hr hbel
    rw [cl_len]
    exact h w' (own_row hr.out hBg rfl hLm hm hby) hbel
theorem enc_step {n : Nat} (h : 128 ≤ n) (bs : List Nat) : bs ++ [n % 128 + 128] ++ enc (n / 128) = bs ++ enc n := by
  rw [enc_hi (n := n) (by omega), List.append_assoc]; rfl
set_option maxRecDepth 100000 in
theorem or128 : ∀ x : Fin 256, bits .or .u8 ((x.val : Nat) : Int) 128 = ((x.val % 128 + 128 : Nat) : Int) := by decide +kernel
theorem or128_of (k : Nat) : bits .or .u8 ((k : Int) % 256) 128 = ((k % 128 + 128 : Nat) : Int) := by
  have h := or128 ⟨k % 256, Nat.mod_lt _ (by decide)⟩
  simp only at h
  rw [show ((k : Int) % 256) = ((k % 256 : Nat) : Int) by omega, h]
  congr 1
  omega
set_option maxHeartbeats 1000000 in
set_option maxRecDepth 100000 in
theorem uint_ok (v : Value) (bs : List Nat) (n : Int) (w : World) (h : Bs w v bs) (hn : 0 ≤ n ∧ n ≤ 18446744073709551615) (hl : bs.length + 20 ≤ 140737488355328) :
    Calls Tryd.prog 23 #[v, .int .u64 n] w fun e w' => (∃ u, e = .returned u ∧ OwnB w' w.heap.size u (bs ++ enc n.toNat)) ∧ Below w.heap.size w w' := by
  have H := (show Hid _ from h)
  obtain ⟨hby, a, c, rfl, hlc, hc9, hno, hx⟩ := h
  obtain ⟨L, hL⟩ : ∃ L, L = bs.length := ⟨_, rfl⟩
  have HL : Hid (L = bs.length) := hL
  rw [← hL] at hl hlc H ⊢
  clear hx hby hno hL
  go_enter Tryd.func23, Tryd.ntmps23
  go_wp2_with (first | (at_make; refine mkB rfl _ _ rfl L (L + 10) _ _ (by rfl) (by rfl) rfl (by omega) (by omega) (by omega) ?_; intro w1 hrow hb1 hs1) | (refine copyB rfl _ _ rfl w.heap.size L (L + 10) _ bs (by rfl) (by rfl) (H.out.step hb1) HL.out.symm hrow.out (by omega) (by omega) w.heap.size w hb1 (Nat.le_refl _) ?_; intro w2 ho hb2; clear hrow hb1 hs1 H))
  go_simp
  go_loopw [1, 5] (fun m s wr => ∃ (k : Nat) (cs : List Nat), k ≤ 18446744073709551615 ∧ cs.length + (enc k).length ≤ L + 10 ∧ m = .int .u64 k ∧ OwnB wr w.heap.size s cs ∧ Below w.heap.size w wr ∧ Hid (cs ++ enc k = bs ++ enc n.toNat)) (fun m _ _ => (intOf m).toNat)
  case atStart => exact ⟨n.toNat, bs, by omega, by have := enc_len (n := n.toNat) (by omega); have := HL.out; omega, by go_num, ho, hb2, rfl⟩
  case round =>
    clear ho hb2
    obtain ⟨k, cs, hk, hlen, rfl, ho, hb, he⟩ := hrel
    have HO := (show Hid _ from ho)
    have HB := (show Hid _ from hb)
    have HE := (show Hid _ from he)
    have hsz := hb.size
    have hlen' := (show Hid _ from enc_pos k)
    have HLEN := (show Hid _ from hlen)
    clear ho hb he hlen
    by_cases h128 : k < 128
    · have e1 : Hid (enc k = [k]) := enc_lo h128
      go_wp2_with (at_builtin; refine appB1 rfl _ _ rfl w.heap.size cs _ _ k (by rfl) (by rfl) rfl (by omega) HO.out hsz (by have := HLEN.out; have := hlen'.out; omega) ?_; (intro v' w3 ho3 hb3; have HO3 := (show Hid _ from ho3); have HB3 := (show Hid _ from hb3); clear ho3 hb3))
      go_ret
      refine ⟨⟨_, rfl, ?_⟩, HB.out.trans HB3.out⟩
      rw [← HE.out, e1.out]
      exact HO3.out
    · go_wp2_with (at_builtin; refine appB1 rfl _ _ rfl w.heap.size cs _ _ (k % 128 + 128) (by rfl) (by rfl) (or128_of k) (by omega) HO.out hsz (by have := HLEN.out; have := hlen'.out; omega) ?_; (intro v' w3 ho3 hb3; have HO3 := (show Hid _ from ho3); have HB3 := (show Hid _ from hb3); clear ho3 hb3))
      refine ⟨⟨k / 128, cs ++ [k % 128 + 128], by omega, ?_, by go_num, HO3.out, HB.out.trans HB3.out, ?_⟩, by simp [intOf]; omega⟩
      · have h1 := HLEN.out
        rw [enc_hi (n := k) h128] at h1
        simp at h1 ⊢
        omega
      · show _ = _
        rw [enc_step (by omega)]
        exact HE.out
theorem xor_ones (a : Nat) (h : a < 18446744073709551616) : a ^^^ 18446744073709551615 = 18446744073709551615 - a := by
  have h1 : (BitVec.ofNat 64 a ^^^ BitVec.allOnes 64) = ~~~ (BitVec.ofNat 64 a) := BitVec.xor_allOnes
  have h2 := congrArg BitVec.toNat h1
  rw [BitVec.toNat_xor, BitVec.toNat_not, BitVec.toNat_allOnes, BitVec.toNat_ofNat, Nat.mod_eq_of_lt (by simpa using h)] at h2
  have e : (2 : Nat) ^ 64 - 1 = 18446744073709551615 := by decide
  rw [e] at h2
  exact h2
theorem zz_neg (n : Int) (h : -9223372036854775808 ≤ n) (h0 : n < 0) : bits .xor .u64 (IntKind.u64.wrap (IntKind.u64.wrap n * 2)) (IntKind.u64.wrap (n / 9223372036854775808)) = (zz n : Int) := by
  have e1 : IntKind.u64.wrap (IntKind.u64.wrap n * 2) = ((2 * n + 18446744073709551616).toNat : Int) := by rw [IntKind.wrap_u64, IntKind.wrap_u64]; omega
  have e2 : IntKind.u64.wrap (n / 9223372036854775808) = ((18446744073709551615 : Nat) : Int) := by rw [IntKind.wrap_u64]; omega
  rw [e1, e2, bits_xor_u64_nat _ _ (by omega) (by omega), xor_ones _ (by omega)]
  unfold zz
  rw [if_pos h0]
  omega
theorem zz_pos (n : Int) (h : n ≤ 9223372036854775807) (h0 : 0 ≤ n) : bits .xor .u64 (n * 2) (n / 9223372036854775808) = (zz n : Int) := by
  have e1 : n * 2 = ((2 * n).toNat : Int) := by omega
  have e2 : n / 9223372036854775808 = ((0 : Nat) : Int) := by omega
  rw [e1, e2, bits_xor_u64_nat _ _ (by omega) (by omega), Nat.xor_zero]
  unfold zz
  rw [if_neg (by omega)]
theorem int_ok (v : Value) (bs : List Nat) (n : Int) (w : World) (h : Bs w v bs) (hn : -9223372036854775808 ≤ n ∧ n ≤ 9223372036854775807) (hl : bs.length + 20 ≤ 140737488355328) :
    Calls Tryd.prog 24 #[v, .int .i64 n] w fun e w' => (∃ u, e = .returned u ∧ OwnB w' w.heap.size u (bs ++ enc (zz n))) ∧ Below w.heap.size w w' := by
  have H := (show Hid _ from h)
  have HZ := (show Hid _ from zz_lt hn.1 hn.2)
  clear h
  by_cases h0 : n < 0
  · have hz := zz_neg n hn.1 h0
    go_enter Tryd.func24, Tryd.ntmps24
    go_wp2_with fail
    refine (uint_ok v bs _ _ H.out (by have := HZ.out; omega) (by omega)).mono ?_
    rintro e w1 ⟨⟨x, rfl, ho⟩, hb⟩
    rw [Int.toNat_natCast] at ho
    have HO := (show Hid _ from ho)
    have HB := (show Hid _ from hb)
    clear ho hb hz
    go_wp2_with fail
    go_ret
    exact ⟨⟨_, rfl, HO.out⟩, HB.out⟩
  · have hz := zz_pos n hn.2 (by omega)
    go_enter Tryd.func24, Tryd.ntmps24
    go_wp2_with fail
    refine (uint_ok v bs _ _ H.out (by have := HZ.out; omega) (by omega)).mono ?_
    rintro e w1 ⟨⟨x, rfl, ho⟩, hb⟩
    rw [Int.toNat_natCast] at ho
    have HO := (show Hid _ from ho)
    have HB := (show Hid _ from hb)
    clear ho hb hz
    go_wp2_with fail
    go_ret
    exact ⟨⟨_, rfl, HO.out⟩, HB.out⟩
end Go.Proofs.YtcognhhbpapibaaDoor
