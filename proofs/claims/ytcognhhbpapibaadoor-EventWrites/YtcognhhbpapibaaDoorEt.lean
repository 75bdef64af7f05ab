/- event: the reader over any bytes: unsigned, signed, op: what was taken is the front of the bytes, unless the reader is wrong. -/
import Derived.Test.YtcognhhbpapibaaDoorEq
namespace Go.Proofs.YtcognhhbpapibaaDoor
open Go.RowKit
set_option linter.unusedVariables false

/-- the reader at p: c of the bytes bs was taken, unless it is wrong -/
structure St (w0 w : World) (p : Nat) (c bs : List Nat) : Prop where
  ex : ∃ v b rs, Rd w p v b ∧ Bs w0 v rs ∧ (b = false → c ++ rs = bs)
theorem St.upd {w0 w w' : World} {p g : Nat} {c bs : List Nat} (h : St w0 w p c bs) (k : Upd g w w') (hg : p ≠ g) : St w0 w' p c bs := by
  obtain ⟨v, b, rs, h1, h2, h3⟩ := h
  exact ⟨v, b, rs, VA.upd h1 k hg, h2, h3⟩
theorem St.step {w0 w w' : World} {p : Nat} {c bs : List Nat} (h : St w0 w p c bs) (k : Below w.heap.size w w') : St w0 w' p c bs := by
  obtain ⟨v, b, rs, h1, h2, h3⟩ := h
  exact ⟨v, b, rs, VA.step h1 k, h2, h3⟩
theorem St.lt {w0 w : World} {p : Nat} {c bs : List Nat} (h : St w0 w p c bs) : p < w.heap.size := by
  obtain ⟨v, b, rs, h1, h2, h3⟩ := h
  exact VA.lt h1
theorem non_or (bs : List Nat) : (∃ n, n < 18446744073709551616 ∧ enc n <+: bs) ∨ Non bs := by
  by_cases h : ∃ n, n < 18446744073709551616 ∧ enc n <+: bs
  · exact Or.inl h
  · exact Or.inr (fun n hn hf => h ⟨n, hn, hf⟩)
set_option maxHeartbeats 1000000 in
set_option maxRecDepth 100000 in
theorem unsigned_no (p : Nat) (b : Bool) (v : Value) (bs : List Nat) (w : World) (h : Rd w p v b) (hv : Bs w v bs) (hf : Non bs) :
    Calls Tryd.prog 35 #[.pointer (some ⟨p, 0, none⟩)] w fun r w' => r = .returned (.int .u64 0) ∧ Rd w' p (cutV v 0) true ∧ Upd p w w' := by
  have c0 := h.cell 0 (v := v) rfl
  have HH := (show Hid _ from h)
  have HV := (show Hid _ from hv)
  have HF := (show Hid _ from hf)
  clear h hv hf
  go_enter Tryd.func35, Tryd.ntmps35
  go_wp2_with fail
  refine (readu_no _ bs _ HV.out HF.out).mono ?_
  rintro e w1 ⟨rfl, rfl⟩
  go_wp2_with fail
  refine (took_ok p 0 3 b v [] bs _ HH.out HV.out rfl (by omega)).mono ?_
  rintro e w2 ⟨rfl, r2, u2⟩
  have R2 := (show Hid _ from r2)
  have U2 := (show Hid _ from u2)
  clear r2 u2 c0
  go_wp2_with fail
  go_ret
  refine ⟨rfl, ?_, U2.out⟩
  have := R2.out
  rw [show (b || ((3 : Int) != 0)) = true by simp] at this
  exact this
set_option maxHeartbeats 1000000 in
set_option maxRecDepth 100000 in
theorem signed_no (p : Nat) (b : Bool) (v : Value) (bs : List Nat) (w : World) (h : Rd w p v b) (hv : Bs w v bs) (hf : Non bs) :
    Calls Tryd.prog 36 #[.pointer (some ⟨p, 0, none⟩)] w fun r w' => r = .returned (.int .i64 0) ∧ Rd w' p (cutV v 0) true ∧ Upd p w w' := by
  have c0 := h.cell 0 (v := v) rfl
  have HH := (show Hid _ from h)
  have HV := (show Hid _ from hv)
  have HF := (show Hid _ from hf)
  clear h hv hf
  go_enter Tryd.func36, Tryd.ntmps36
  go_wp2_with fail
  refine (readi_no _ bs _ HV.out HF.out).mono ?_
  rintro e w1 ⟨rfl, rfl⟩
  go_wp2_with fail
  refine (took_ok p 0 3 b v [] bs _ HH.out HV.out rfl (by omega)).mono ?_
  rintro e w2 ⟨rfl, r2, u2⟩
  have R2 := (show Hid _ from r2)
  have U2 := (show Hid _ from u2)
  clear r2 u2 c0
  go_wp2_with fail
  go_ret
  refine ⟨rfl, ?_, U2.out⟩
  have := R2.out
  rw [show (b || ((3 : Int) != 0)) = true by simp] at this
  exact this
theorem unsigned_any (p : Nat) (c bs : List Nat) (w0 w : World) (h : St w0 w p c bs) (hB : Below w0.heap.size w0 w) :
    Calls Tryd.prog 35 #[.pointer (some ⟨p, 0, none⟩)] w fun r w' => (∃ n : Nat, n < 18446744073709551616 ∧ r = .returned (.int .u64 (n : Int)) ∧ St w0 w' p (c ++ enc n) bs) ∧ Upd p w w' := by
  obtain ⟨v, b, rs, h1, h2, h3⟩ := h
  rcases non_or rs with ⟨n, hn, hf⟩ | hf
  · refine (unsigned_yes p n b v rs w h1 (h2.step hB) hn hf).mono ?_
    rintro r w' ⟨rfl, r', u⟩
    obtain ⟨ys, rfl⟩ := hf
    exact ⟨⟨n, hn, rfl, _, b, ys, r', bs_cutV h2 rfl, fun e => by rw [List.append_assoc]; exact h3 e⟩, u⟩
  · refine (unsigned_no p b v rs w h1 (h2.step hB) hf).mono ?_
    rintro r w' ⟨rfl, r', u⟩
    exact ⟨⟨0, by omega, rfl, _, true, rs, r', bs_cutV (xs := []) h2 rfl, fun e => by cases e⟩, u⟩
theorem signed_any (p : Nat) (c bs : List Nat) (w0 w : World) (h : St w0 w p c bs) (hB : Below w0.heap.size w0 w) :
    Calls Tryd.prog 36 #[.pointer (some ⟨p, 0, none⟩)] w fun r w' => (∃ n : Int, I64 n ∧ r = .returned (.int .i64 n) ∧ St w0 w' p (c ++ enc (zz n)) bs) ∧ Upd p w w' := by
  obtain ⟨v, b, rs, h1, h2, h3⟩ := h
  rcases non_or rs with ⟨m, hm, hf⟩ | hf
  · have hz : zz (uz m) = m := zz_uz m
    refine (signed_yes p (uz m) b v rs w h1 (h2.step hB) (uz_bd hm) (by rw [hz]; exact hf)).mono ?_
    rintro r w' ⟨rfl, r', u⟩
    obtain ⟨ys, rfl⟩ := hf
    exact ⟨⟨uz m, uz_bd hm, rfl, _, b, ys, r', by rw [hz]; exact bs_cutV h2 rfl, fun e => by rw [hz, List.append_assoc]; exact h3 e⟩, u⟩
  · refine (signed_no p b v rs w h1 (h2.step hB) hf).mono ?_
    rintro r w' ⟨rfl, r', u⟩
    exact ⟨⟨0, by unfold I64; omega, rfl, _, true, rs, r', bs_cutV (xs := []) h2 rfl, fun e => by cases e⟩, u⟩
set_option maxHeartbeats 1000000 in
set_option maxRecDepth 100000 in
theorem op_no (p : Nat) (b : Bool) (v : Value) (w : World) (h : Rd w p v b) (hv : Bs w v []) :
    Calls Tryd.prog 34 #[.pointer (some ⟨p, 0, none⟩)] w fun r w' => r = .returned (.int .u8 0) ∧ Rd w' p v true ∧ Upd p w w' := by
  obtain ⟨a, c, rfl⟩ : ∃ a c, v = .slice a 0 c := by obtain ⟨_, a, c, e, _⟩ := hv; exact ⟨a, c, e⟩
  have c0 := h.cell 0 (v := .slice a 0 c) rfl
  have c1 := h.cell 1 (v := .bool b) rfl
  have f1 := h.free 1
  have HH := (show Hid _ from h)
  clear h hv
  go_enter Tryd.func34, Tryd.ntmps34
  go_wp2_with fail
  go_ret
  exact ⟨rfl, HH.out.set 1 _, upd_set _ _ _ _⟩
theorem op_any (p : Nat) (bs : List Nat) (w0 w : World) (h : St w0 w p [] bs) (hB : Below w0.heap.size w0 w) :
    Calls Tryd.prog 34 #[.pointer (some ⟨p, 0, none⟩)] w fun r w' => (∃ o : Nat, o ≤ 255 ∧ r = .returned (.int .u8 (o : Int)) ∧ St w0 w' p [o] bs) ∧ Upd p w w' := by
  obtain ⟨v, b, rs, h1, h2, h3⟩ := h
  cases rs with
  | nil =>
    refine (op_no p b v w h1 (h2.step hB)).mono ?_
    rintro r w' ⟨rfl, r', u⟩
    exact ⟨⟨0, by omega, rfl, v, true, [], r', h2, fun e => by cases e⟩, u⟩
  | cons o rs =>
    have ho := h2.byte o (by simp)
    refine (op_yes p o b v rs w h1 (h2.step hB)).mono ?_
    rintro r w' ⟨rfl, r', u⟩
    exact ⟨⟨o, by omega, rfl, _, b, rs, r', bs_cutV (xs := [o]) h2 rfl, fun e => by simpa using h3 e⟩, u⟩
end Go.Proofs.YtcognhhbpapibaaDoor
