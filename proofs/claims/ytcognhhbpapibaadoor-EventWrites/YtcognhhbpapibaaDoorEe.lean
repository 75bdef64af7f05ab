/- event: the reader: took, unsigned, signed, op where what is read is of the form. -/
import Derived.Test.YtcognhhbpapibaaDoorEd
namespace Go.Proofs.YtcognhhbpapibaaDoor
open Go.RowKit
set_option linter.unusedVariables false

/-- the reader at block p: what is left, and whether it is wrong -/
def Rd (w : World) (p : Nat) (v : Value) (b : Bool) : Prop := VA w p [v, .bool b] 62
/-- v[k:] -/
def cutV (v : Value) (k : Nat) : Value :=
  match v with
  | .slice a L c => if c = k then .slice a (L - k) 0 else .slice (a.map (fun x => x.add k)) (L - k) (c - k)
  | x => x
theorem cutV_sl (a : Option Addr) (L c k : Nat) : cutV (.slice a L c) k = if c = k then .slice a (L - k) 0 else .slice (a.map (fun x => x.add k)) (L - k) (c - k) := rfl
theorem bs_cutV {w : World} {v : Value} {xs ys : List Nat} {k : Nat} (h : Bs w v (xs ++ ys)) (hk : xs.length = k) : Bs w (cutV v k) ys := by
  obtain ⟨a, c, rfl⟩ : ∃ a c, v = .slice a (xs ++ ys).length c := by obtain ⟨_, a, c, e, _⟩ := h; exact ⟨a, c, e⟩
  have hL := h.len
  have e : ((xs ++ ys).drop k).take ((xs ++ ys).length - k) = ys := by
    subst hk
    rw [List.drop_left, List.length_append, List.take_of_length_le (by omega)]
  unfold cutV
  split
  · next h0 =>
    cases h0
    split
    · next hc =>
      have := h.end k ((xs ++ ys).length - k) (by rw [List.length_append]; omega) hc
      rwa [e] at this
    · next hc =>
      have := h.mid k ((xs ++ ys).length - k) (by rw [List.length_append]; omega) hc
      rwa [e] at this
  · next h0 => exact absurd rfl (h0 _ _ _)
theorem upd2 {w : World} {p : Nat} (a b : Value) : Upd p w ((w.setCell ⟨p, 0, none⟩ a).setCell ⟨p, 1, none⟩ b) := (upd_set _ _ _ _).trans (upd_set _ _ _ _)
set_option maxHeartbeats 1000000 in
set_option maxRecDepth 100000 in
theorem took_ok (p k : Nat) (e : Int) (b : Bool) (v : Value) (xs ys : List Nat) (w : World) (h : Rd w p v b) (hv : Bs w v (xs ++ ys)) (hk : xs.length = k) (he : 0 ≤ e ∧ e ≤ 255) :
    Calls Tryd.prog 41 #[.pointer (some ⟨p, 0, none⟩), .int .i64 k, .int .i64 e] w fun r w' => r = .returned (.tuple #[]) ∧ Rd w' p (cutV v k) (b || (e != 0)) ∧ Upd p w w' := by
  have c0 := h.cell 0 (v := v) rfl
  have c1 := h.cell 1 (v := .bool b) rfl
  have f0 := h.free 0
  have f1 := h.free 1
  have HH := (show Hid _ from h)
  obtain ⟨L, hL⟩ : ∃ L, L = (xs ++ ys).length := ⟨_, rfl⟩
  obtain ⟨a, c, rfl, hlc, hc9⟩ : ∃ a c, v = .slice a L c ∧ L ≤ c ∧ c ≤ 9223372036854775807 := by obtain ⟨_, a, c, e, h1, h2, _⟩ := hv; exact ⟨a, c, by rw [hL]; exact e, by rw [hL]; exact h1, h2⟩
  have hkL : k ≤ L := by rw [hL, List.length_append]; omega
  clear hL hv h
  rw [cutV_sl]
  by_cases hc : c = k
  · have hLk : L = k := by omega
    subst hLk
    subst hc
    cases b
    · rw [if_pos rfl, show c - c = 0 by omega, Bool.false_or]
      go_enter Tryd.func41, Tryd.ntmps41
      go_wp2_with fail
      refine bodyPost_end (v := .tuple #[]) (by simp [results, Tryd.results41, go_sem]) rfl ⟨rfl, ?_, upd2 _ _⟩
      exact (HH.out.set 0 _).set 1 _
    · rw [if_pos rfl, show c - c = 0 by omega, Bool.true_or]
      go_enter Tryd.func41, Tryd.ntmps41
      go_wp2_with fail
      refine bodyPost_end (v := .tuple #[]) (by simp [results, Tryd.results41, go_sem]) rfl ⟨rfl, ?_, upd2 _ _⟩
      exact (HH.out.set 0 _).set 1 _
  · cases b
    · rw [if_neg hc, Bool.false_or]
      go_enter Tryd.func41, Tryd.ntmps41
      go_wp2_with fail
      refine bodyPost_end (v := .tuple #[]) (by simp [results, Tryd.results41, go_sem]) rfl ⟨rfl, ?_, upd2 _ _⟩
      exact (HH.out.set 0 _).set 1 _
    · rw [if_neg hc, Bool.true_or]
      go_enter Tryd.func41, Tryd.ntmps41
      go_wp2_with fail
      refine bodyPost_end (v := .tuple #[]) (by simp [results, Tryd.results41, go_sem]) rfl ⟨rfl, ?_, upd2 _ _⟩
      exact (HH.out.set 0 _).set 1 _
theorem Upd.below {p : Nat} {w w' : World} (h : Upd p w w') {B : Nat} (hp : B ≤ p) : Below B w w' := h.bel (Below.refl _ _) hp
set_option maxHeartbeats 1000000 in
set_option maxRecDepth 100000 in
theorem unsigned_yes (p n : Nat) (b : Bool) (v : Value) (bs : List Nat) (w : World) (h : Rd w p v b) (hv : Bs w v bs) (hn : n < 18446744073709551616) (hf : enc n <+: bs) :
    Calls Tryd.prog 35 #[.pointer (some ⟨p, 0, none⟩)] w fun r w' => r = .returned (.int .u64 (n : Int)) ∧ Rd w' p (cutV v (enc n).length) b ∧ Upd p w w' := by
  have c0 := h.cell 0 (v := v) rfl
  have HH := (show Hid _ from h)
  have HV := (show Hid _ from hv)
  have HF := (show Hid _ from hf)
  obtain ⟨ys, hys0⟩ := hf
  have hys := (show Hid _ from hys0)
  clear hys0
  clear h hv
  go_enter Tryd.func35, Tryd.ntmps35
  go_wp2_with fail
  refine (readu_yes _ bs n _ HV.out hn HF.out).mono ?_
  rintro e w1 ⟨rfl, rfl⟩
  obtain ⟨k, hk⟩ : ∃ k, k = (enc n).length := ⟨_, rfl⟩
  have HK := (show Hid _ from hk)
  rw [← hk]
  clear hk
  go_wp2_with fail
  refine (took_ok p k 0 b v (enc n) ys _ HH.out (by rw [hys.out]; exact HV.out) HK.out.symm (by omega)).mono ?_
  rintro e w2 ⟨rfl, r2, u2⟩
  have R2 := (show Hid _ from r2)
  have U2 := (show Hid _ from u2)
  clear r2 u2 c0
  go_wp2_with fail
  go_ret
  refine ⟨rfl, ?_, U2.out⟩
  have := R2.out
  rw [HK.out, show (b || ((0 : Int) != 0)) = b by simp] at this
  exact this
set_option maxHeartbeats 1000000 in
set_option maxRecDepth 100000 in
theorem signed_yes (p : Nat) (n : Int) (b : Bool) (v : Value) (bs : List Nat) (w : World) (h : Rd w p v b) (hv : Bs w v bs) (hn : I64 n) (hf : enc (zz n) <+: bs) :
    Calls Tryd.prog 36 #[.pointer (some ⟨p, 0, none⟩)] w fun r w' => r = .returned (.int .i64 n) ∧ Rd w' p (cutV v (enc (zz n)).length) b ∧ Upd p w w' := by
  have c0 := h.cell 0 (v := v) rfl
  have HH := (show Hid _ from h)
  have HV := (show Hid _ from hv)
  have HF := (show Hid _ from hf)
  obtain ⟨ys, hys0⟩ := hf
  have hys := (show Hid _ from hys0)
  clear hys0
  have hz := zz_lt hn.1 hn.2
  have huz := uz_zz n
  clear h hv
  go_enter Tryd.func36, Tryd.ntmps36
  go_wp2_with fail
  refine (readi_yes _ bs (zz n) _ HV.out hz HF.out).mono ?_
  rintro e w1 ⟨rfl, rfl⟩
  obtain ⟨k, hk⟩ : ∃ k, k = (enc (zz n)).length := ⟨_, rfl⟩
  have HK := (show Hid _ from hk)
  rw [← hk, huz]
  clear hk huz
  go_wp2_with fail
  refine (took_ok p k 0 b v (enc (zz n)) ys _ HH.out (by rw [hys.out]; exact HV.out) HK.out.symm (by omega)).mono ?_
  rintro e w2 ⟨rfl, r2, u2⟩
  have R2 := (show Hid _ from r2)
  have U2 := (show Hid _ from u2)
  clear r2 u2 c0
  go_wp2_with fail
  go_ret
  refine ⟨rfl, ?_, U2.out⟩
  have := R2.out
  rw [HK.out, show (b || ((0 : Int) != 0)) = b by simp] at this
  exact this
end Go.Proofs.YtcognhhbpapibaaDoor
