/- parts XII: Numbers. -/
import Derived.Test.YtkmdegmpffgplaaGreatDoorLaz
import Derived.Test.YtkmdegmpffgplaaGreatDoorLav
import Derived.RangeFuncNested
import Derived.RangeFuncBound
import Derived.RangeFuncCalls
import Derived.RangeFuncLeaves
import Derived.Shelf.Abstract
import Derived.Shelf.RegionOpen
import Derived.OwnWalkIn
import Derived.TacticsInMore
import Derived.LoopNIn
import Derived.LoopIn
namespace Go.Proofs.YtkmdegmpffgplaaGreatDoor
open Go.RowKit Go.Maps Go.Sort Go.Shelf pk
set_option linter.unusedVariables false
set_option linter.unusedSimpArgs false

theorem infoI6 : (Tryz.prog.info? 2).map (fun i => (i.zero.map (fun z => z.cells.size), i.size, i.bytes)) = some (some 1, 1, 8) := by kernel_rfl
def KI : Kd Nat where
  T := 2
  S := 47
  k := 1
  bt := 8
  enc := fun b => [.int .i64 (b : Int)]
  info := by
    obtain ⟨i, hi, hz⟩ := Option.map_eq_some_iff.1 infoI6
    simp only [Prod.mk.injEq] at hz
    obtain ⟨z, hz0, hz1⟩ := Option.map_eq_some_iff.1 hz.1
    exact ⟨i, z, hi, hz0, hz.2.1, hz.2.2, hz1⟩
  und := Tryz.underlying47
  pos := by decide
  len := fun _ => rfl
  one := fun x v h => by simp at h; rw [h]; rfl
/-- a slice of texts -/
def Sn (w : World) (v : Value) (ns : List (List UInt8)) : Prop := ∃ a c, v = .slice a ns.length c ∧ ns.length ≤ c ∧ c ≤ 9223372036854775807 ∧ ∀ i l, ns[i]? = some l → ∃ b off, a = some ⟨b, off, none⟩ ∧ w.cell? ⟨b, off + i, none⟩ = some (.string ⟨l.toArray⟩) ∧ b < w.heap.size
theorem Sn.step {w w' : World} {v : Value} {ns : List (List UInt8)} (h : Sn w v ns) (k : Below w.heap.size w w') : Sn w' v ns := by
  obtain ⟨a, c, h1, h2, h3, h4⟩ := h
  refine ⟨a, c, h1, h2, h3, fun i l hl => ?_⟩
  obtain ⟨b, off, h5, h6, h7⟩ := h4 i l hl
  exact ⟨b, off, h5, (k.cell (p := ⟨b, off + i, none⟩) h7).trans h6, Nat.lt_of_lt_of_le h7 k.size⟩
theorem OwnN.sn {w : World} {B : Nat} {v : Value} {ns : List (List UInt8)} (h : OwnN w B v ns) : Sn w v ns := by
  obtain ⟨a, c, h1, h2, h3, h4⟩ := h.cells
  refine ⟨a, c, h1, h2, h3, fun i l hl => ?_⟩
  obtain ⟨g, h5, h6, cs, T, z, h7, _⟩ := h4 i l hl
  exact ⟨g, 0, h5, by rw [Nat.zero_add]; exact h6, hlt_of h7⟩
/-- a file's name: of a segment, or another one: "data", "l1" -/
inductive Nk where
  | seg (n : Nat)
  | data
  | one
def nmO : Nk → List UInt8
  | .seg n => nmS n
  | .data => [100, 97, 116, 97]
  | .one => [108, 49]
def Nk.num : Nk → Option Nat
  | .seg n => some n
  | _ => none
theorem cutp_data (w : World) : Calls Tryz.prog 99 #[.string ⟨#[100, 97, 116, 97]⟩, .string ⟨#[108]⟩] w fun e w' => (∃ t, e = .returned (.tuple #[.string t, .bool false])) ∧ w' = w := by
  refine (Any.strings_CutPrefix lays103 _ _ w).mono ?_
  rintro e w' ⟨rfl, rfl⟩
  have h1 : Lib.hasPrefix [100, 97, 116, 97] [108] = false := rfl
  exact ⟨⟨⟨(Lib.trimPrefix [100, 97, 116, 97] [108]).toArray⟩, by rw [← h1]⟩, rfl⟩
set_option maxRecDepth 100000 in
theorem number_data (w : World) : Calls Tryz.prog 76 #[.string ⟨#[108]⟩, .int .i64 8, .string ⟨#[100, 97, 116, 97]⟩] w fun e w' => e = .returned (.tuple #[.int .i64 0, .bool false]) ∧ w' = w := by
  go_enter Tryz.func76, Tryz.ntmps76
  go_wp2_with fail
  refine (cutp_data _).mono ?_
  rintro e w1 ⟨⟨t, rfl⟩, rfl⟩
  go_wp2_with fail
  refine bodyPost_ret (v := .tuple #[.int .i64 0, .bool false]) (by simp [results, Tryz.results76, go_sem]) rfl ?_
  exact ⟨rfl, rfl⟩
set_option maxRecDepth 100000 in
theorem number_one (w : World) : Calls Tryz.prog 76 #[.string ⟨#[108]⟩, .int .i64 8, .string ⟨#[108, 49]⟩] w fun e w' => e = .returned (.tuple #[.int .i64 0, .bool false]) ∧ w' = w := by
  go_enter Tryz.func76, Tryz.ntmps76
  go_wp2_with fail
  refine (cutp_yes 108 ⟨#[49]⟩ _).mono ?_
  rintro e w1 ⟨rfl, rfl⟩
  go_wp2_with fail
  refine bodyPost_ret (v := .tuple #[.int .i64 0, .bool false]) (by simp [results, Tryz.results76, go_sem]) rfl ?_
  exact ⟨rfl, rfl⟩
set_option maxRecDepth 100000 in
set_option maxHeartbeats 1000000 in
theorem numbers_ok (w : World) (v : Value) (xs : List Nk) (h : Sn w v (xs.map nmO)) (hx : ∀ n, Nk.seg n ∈ xs → n ≤ 99999999) (hl : xs.length ≤ 100) :
    Calls Tryz.prog 39 #[.string ⟨#[108]⟩, .int .i64 8, v] w fun e w' => (∃ u, e = .returned u ∧ Own KI w' w.heap.size u (xs.filterMap Nk.num)) ∧ Below w.heap.size w w' := by
  have HX := (show Hid _ from hx)
  have HS : Hid (Sn w v (xs.map nmO)) := h
  obtain ⟨a, c, e, h1, h2, h3⟩ := h
  rw [List.length_map] at e h1
  obtain ⟨L, hL⟩ : ∃ L, L = xs.length := ⟨_, rfl⟩
  rw [← hL] at e h1 hl
  have HL : Hid (L = xs.length) := hL
  have H3 := (show Hid _ from h3)
  subst e
  clear hx h3 hL
  go_enter Tryz.func39, Tryz.ntmps39
  go_wp2_with fail
  go_loopw [7, 14] (fun s i wr => ∃ k : Nat, k ≤ L ∧ i = .int .i64 (k : Int) ∧ Hid (Own KI wr w.heap.size s ((xs.take k).filterMap Nk.num)) ∧ Hid (Below w.heap.size w wr)) (fun _ i _ => L - (intOf i).toNat)
  case atStart => exact ⟨0, by omega, rfl, own_nil KI w _, Below.refl _ _⟩
  case round =>
    obtain ⟨k, hk, rfl, HO, HB⟩ := hrel
    rcases Nat.lt_or_ge k L with hlt | hge
    · obtain ⟨x, hx⟩ : ∃ x, xs[k]? = some x := ⟨_, List.getElem?_eq_getElem (by rw [← HL.out]; exact hlt)⟩
      have HXK : Hid (xs[k]? = some x) := hx
      obtain ⟨b, off, rfl, c1, c2⟩ := H3.out k (nmO x) (by rw [List.getElem?_map, hx]; rfl)
      have y1 := (HB.out.cell (p := ⟨b, off + k, none⟩) c2).trans c1
      clear hx
      cases x with
      | data =>
        change _ = some (Value.string ⟨#[100, 97, 116, 97]⟩) at y1
        go_wp2_with (go_at_call 76; refine (number_data _).mono ?_; rintro e w2 ⟨rfl, rfl⟩)
        refine ⟨⟨k + 1, by omega, by simp, ?_, HB⟩, by simp [intOf]; omega⟩
        have := HO.out
        show Own _ _ _ _ _
        rw [List.take_add_one, HXK.out, List.filterMap_append]
        simpa [Nk.num, List.filterMap_cons] using this
      | one =>
        change _ = some (Value.string ⟨#[108, 49]⟩) at y1
        go_wp2_with (go_at_call 76; refine (number_one _).mono ?_; rintro e w2 ⟨rfl, rfl⟩)
        refine ⟨⟨k + 1, by omega, by simp, ?_, HB⟩, by simp [intOf]; omega⟩
        have := HO.out
        show Own _ _ _ _ _
        rw [List.take_add_one, HXK.out, List.filterMap_append]
        simpa [Nk.num, List.filterMap_cons] using this
      | seg n =>
        change _ = some (Value.string ⟨(nmS n).toArray⟩) at y1
        have hn : n ≤ 99999999 := HX.out n (List.mem_of_getElem? HXK.out)
        have HLE : Hid (((xs.take k).filterMap Nk.num).length ≤ 100) := (show _ ≤ 100 from Nat.le_trans (List.length_filterMap_le _ _) (by rw [List.length_take]; omega))
        have hsz := HB.out.size
        go_wp2_with (first | (go_at_call 76; refine (number_yes n hn _).mono ?_; rintro e w2 ⟨rfl, rfl⟩) | (at_builtin; refine appOne (K := KI) rfl _ _ rfl w.heap.size ((xs.take k).filterMap Nk.num) _ n (by rfl) (by rfl) HO.out hsz (by have := HLE.out; show (((xs.take k).filterMap Nk.num).length + 1) * 8 ≤ _; omega) (by have := HLE.out; omega) _ rfl ?_; intro v3 w3 o3 b3; have HO3 := (show Hid _ from o3); have HB3 := (show Hid _ from HB.out.trans b3); clear o3 b3))
        refine ⟨⟨k + 1, by omega, by simp, ?_, HB3⟩, by simp [intOf]; omega⟩
        have := HO3.out
        show Own _ _ _ _ _
        rw [List.take_add_one, HXK.out, List.filterMap_append]
        simpa [Nk.num, List.filterMap_cons] using this
    · obtain rfl : k = L := by omega
      go_wp2_with fail
      go_ret
      refine ⟨⟨_, rfl, ?_⟩, HB.out⟩
      have := HO.out
      rw [List.take_of_length_le (by rw [← HL.out]; exact Nat.le_refl _)] at this
      exact this
end Go.Proofs.YtkmdegmpffgplaaGreatDoor
/- log IV: slices.Backward over numbers. -/
namespace Go.Proofs.YtkmdegmpffgplaaGreatDoor
open Go.RowKit Go.Shelf pk
set_option linter.unusedVariables false
set_option linter.unusedSimpArgs false
attribute [local go_sem] Oper.semAt_some

/-- what has come when k rounds are over -/
def upto {α : Type} (f : Nat → α) (k : Nat) : List α := (List.range k).map f
theorem upto_succ {α : Type} (f : Nat → α) (k : Nat) : upto f (k + 1) = upto f k ++ [f k] := by simp [upto, List.range_succ]
theorem upto_length {α : Type} (f : Nat → α) (k : Nat) : (upto f k).length = k := by simp [upto]
/-- the j-th from the back -/
def bk (ks : List Nat) (d0 : Nat) (j : Nat) : Int × Nat := ((ks.length : Int) - 1 - j, ks.getD (ks.length - 1 - j) d0)
/-- what comes: a place, and a number that is one -/
abbrev KE (P : Nat → Prop) := { x : Int × Nat // P x.2 }
def encK {P : Nat → Prop} (x : KE P) : Array Value := #[.int .i64 x.1.1, .int .i64 (x.1.2 : Int)]
def bkS {P : Nat → Prop} (ks : List Nat) (d0 : Nat) (h : ∀ j, P (ks.getD j d0)) (j : Nat) : KE P := ⟨bk ks d0 j, h _⟩
set_option maxRecDepth 100000 in
set_option maxHeartbeats 2000000 in
theorem back1_in (F : Fence) (n : Nat) (h8 : F.fn 115) (hro : F.round = none) (hn : 1 ≤ n) (l Bs n₀ cap len : Nat) (sa : Option Addr) {P : Nat → Prop} (ks : List Nat) (d0 : Nat) (hwf : ∀ j, P (ks.getD j d0)) (hlen : len = ks.length) (hl : len ≤ 64) (J Jx : List (KE P) → World → Prop)
    (hY : ∀ pre x W, J pre W → pre.length < len → YieldAt F (n - 1) Tryz.prog l (encK x) W fun e W' =>
      (e = .returned (.bool true) ∧ J (pre ++ [x]) W' ∧ Below n₀ W W') ∨ (e = .returned (.bool false) ∧ Jx (pre ++ [x]) W'))
    (W : World) (hBs : W.cell? ⟨Bs, 0, none⟩ = some (.slice sa len cap)) (hBl : Bs < n₀) (hcap : len ≤ cap ∧ cap ≤ 9223372036854775807) (hc : 0 < len → ∃ b off, sa = some ⟨b, off, none⟩ ∧ b < n₀ ∧ ∀ j, j < len → W.cell? ⟨b, off + j, none⟩ = some (.int .i64 ((ks.getD j d0 : Nat) : Int))) (h0 : J [] W) :
    CallsIn F n Tryz.prog 115 #[.func (.yield l) #[] #[], .pointer (some ⟨Bs, 0, none⟩)] W fun e W' => (∃ v, e = .returned v) ∧
      ((∃ ys, ys = upto (bkS ks d0 hwf) len ∧ J ys W') ∨ (∃ pre, (∃ k, k ≤ len ∧ pre = upto (bkS ks d0 hwf) k) ∧ Jx pre W')) := by
  have HC := (show Hid _ from hc)
  have HLEN := (show Hid _ from hlen)
  clear hc hlen
  refine callsIn_of_wp Tryz.func115 rfl h8 ?_ hro
  simp only [Tryz.ntmps115, List.size_toArray, List.length_cons, List.length_nil, Nat.reduceAdd, Nat.reduceSub, Array.replicate_succ, Array.replicate_zero, List.push_toArray, List.append_toArray, List.nil_append, List.cons_append]
  gi_wp2
  gi_loopw [3] (fun i wr => ∃ k : Nat, k ≤ len ∧ i = .int .i64 ((len : Int) - 1 - k) ∧ Hid (J (upto (bkS ks d0 hwf) k) wr) ∧ Hid (Below n₀ W wr))
    (fun i _ => (intOf i + 1).toNat)
  case atStart => exact ⟨0, Nat.zero_le _, by simp, h0, Below.refl _ _⟩
  case round =>
    obtain ⟨k, hk, rfl, hJs, hnx⟩ := hrel
    by_cases hlt : k < len
    · obtain ⟨m, hm⟩ : ∃ m, len = m + 1 + k := ⟨len - 1 - k, by omega⟩
      have em : (len : Int) - 1 - k = (m : Int) := by omega
      rw [em]
      have eb : (bkS ks d0 hwf k).1 = ((m : Int), ks.getD m d0) := by
        show bk ks d0 k = _
        unfold bk
        rw [← HLEN.out, em, show len - 1 - k = m by omega]
      obtain ⟨fn, tmps, assign, body, hy, hR⟩ := hY _ (bkS ks d0 hwf k) wr hJs.out (by rw [upto_length]; exact hlt)
      have HR := (show Hid _ from hR)
      have HE := (show Hid _ from eb)
      have HEM := (show Hid _ from em)
      have HM := (show Hid _ from hm)
      unfold encK at hy
      rw [eb] at hy
      obtain ⟨b, off, rfl, hb, hcs⟩ := HC.out (by omega)
      have z1 := (hnx.out.cell (p := ⟨b, off + m, none⟩) hb).trans (hcs m (by omega))
      have y1 := (hnx.out.cell (p := ⟨Bs, 0, none⟩) hBl).trans hBs
      have d1 : (0 : Int) ≤ (m : Int) := by omega
      have d2 : (m : Int) < (len : Int) := by omega
      clear hR eb em hm hcs
      generalize ks.getD m d0 = key at *
      dsimp only at hy
      gi_wp2
      refine RoundIn.mono HR.out ?_
      rintro e W3 (⟨rfl, hJ3, hk3⟩ | ⟨rfl, hJx3⟩)
      · have HJ3 := (show Hid _ from hJ3)
        have HK3 := (show Hid _ from hk3)
        clear hJ3 hk3
        gi_wp2
        go_roundw
        case rel => exact ⟨k + 1, by omega, by have := HEM.out; have e : (m : Int) - 1 = (len : Int) - 1 - ((k + 1 : Nat) : Int) := by omega
                                               rw [← e], by show J _ _; rw [upto_succ]; exact HJ3.out, hnx.out.trans HK3.out⟩
        case measure => simp [intOf]
      · have HJ3 := (show Hid _ from hJx3)
        clear hJx3
        gi_wp2
        refine bodyPost_ret (results_none rfl _ _ _) rfl ?_
        exact ⟨⟨_, rfl⟩, .inr ⟨_, ⟨k + 1, by omega, (upto_succ _ _).symm⟩, HJ3.out⟩⟩
    · obtain rfl : k = len := by omega
      rw [show (k : Int) - 1 - k = -1 by omega]
      gi_wp2
      go_end0
      exact ⟨⟨_, rfl⟩, .inl ⟨_, rfl, hJs.out⟩⟩
theorem back_in (F : Fence) (n : Nat) (h5 : F.fn 98) (hro : F.round = none) (a : Option Addr) (len cap : Nat) (w : World) :
    CallsIn F n Tryz.prog 98 #[.slice a len cap] w fun e w' => e = .returned (.func (.func 115) #[] #[.pointer (some ⟨w.heap.size, 0, none⟩)]) ∧ w' = w.alloc (.cells #[.slice a len cap] 47) := by
  refine callsIn_of_wp Tryz.func98 rfl h5 ?_ hro
  simp only [Tryz.ntmps98, List.size_toArray, List.length_cons, List.length_nil, Nat.reduceAdd, Nat.reduceSub, Array.replicate_succ, Array.replicate_zero, List.push_toArray, List.append_toArray, List.nil_append, List.cons_append]
  gi_wp2
  go_ret
  exact ⟨rfl, rfl⟩
theorem back_stops (F : Fence) (n : Nat) (h7 : F.fn 115) (hro : F.round = none) (hn : 1 ≤ n) (Bs n₀ cap len : Nat) (sa : Option Addr) {P : Nat → Prop} (ks : List Nat) (d0 : Nat) (hwf : ∀ j, P (ks.getD j d0)) (hlen : len = ks.length) (hl : len ≤ 64) (w : World) (hBs : Bs < n₀) (hn₀ : n₀ ≤ w.heap.size)
    (hc : w.cell? ⟨Bs, 0, none⟩ = some (.slice sa len cap)) (hcap : len ≤ cap ∧ cap ≤ 9223372036854775807) (hI : 0 < len → ∃ b off, sa = some ⟨b, off, none⟩ ∧ b < n₀ ∧ ∀ j, j < len → w.cell? ⟨b, off + j, none⟩ = some (.int .i64 ((ks.getD j d0 : Nat) : Int))) :
    SeqStopsK F n Tryz.prog 115 #[.pointer (some ⟨Bs, 0, none⟩)] encK (Below n₀) (fun ys => ys = upto (bkS ks d0 hwf) len) (fun pre => ∃ k, k ≤ len ∧ pre = upto (bkS ks d0 hwf) k) len w := fun l J Jx W hW _ _ hY h0 => by
  have hc' := (hW.cell (p := ⟨Bs, 0, none⟩) (by show Bs < _; omega)).trans hc
  refine back1_in F n h7 hro hn l Bs n₀ cap len sa ks d0 hwf hlen hl J Jx hY W hc' hBs hcap (fun h => ?_) h0
  obtain ⟨b, off, e, hb, hx⟩ := hI h
  exact ⟨b, off, e, hb, fun j hj => (hW.cell (p := ⟨b, off + j, none⟩) (by show b < _; omega)).trans (hx j hj)⟩
end Go.Proofs.YtkmdegmpffgplaaGreatDoor
