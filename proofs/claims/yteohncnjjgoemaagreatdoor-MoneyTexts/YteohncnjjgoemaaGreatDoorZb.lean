/- digits: the document's Write. -/
import Derived.Test.YteohncnjjgoemaaGreatDoorN2
import Derived.Test.YteohncnjjgoemaaGreatDoorN3
import Derived.Test.YteohncnjjgoemaaGreatDoorM2
namespace Go.Proofs.YteohncnjjgoemaaGreatDoor.dg
open Go.RowKit
set_option linter.unusedVariables false
set_option linter.unusedSimpArgs false

theorem tx_app (a b : List Nat) : tx (a ++ b) = tx a ++ tx b := by
  apply ByteArray.ext
  simp [tx, strOfNums, ByteArray.data_append]
theorem tx_nil : tx [] = ⟨#[]⟩ := rfl
theorem nm_len {w : World} {v : Value} {x : Nat} (h : Nm w v x) : ∃ a n c, v = .slice a n c ∧ n ≤ 200 ∧ (n = 0 ↔ x = 0) := by
  obtain ⟨ds, ⟨s, a, c, e, _⟩, hn, rfl⟩ := h
  exact ⟨a, ds.length, c, e, s, hn.zero.symm⟩
theorem Nm.keep {w w' : World} {B : Nat} {v d : Value} {x : Nat} {bs : List Nat} (h : Nm w v x) (o : pk.OwnB w B d bs) (g : w.grownBy w' d.ownBlock) : Nm w' v x := by
  obtain ⟨ds, ⟨s, a, c, e, hc, f⟩, hn, hx⟩ := h
  refine ⟨ds, ⟨s, a, c, e, hc, fun h0 => ?_⟩, hn, hx⟩
  obtain ⟨b, off, ea, ⟨hb, cur, fr, hk⟩, hcell⟩ := f h0
  have hk' := o.keeps g hk (by decide)
  exact ⟨b, off, ea, ⟨(Array.getElem?_eq_some_iff.1 hk').1, cur, fr, hk'⟩, fun j hj => (World.cell?_of_block (w := w) (a := ⟨b, off + j, none⟩) (hk'.trans hk.symm)).trans (hcell j hj)⟩
theorem Nm.alloc' {w : World} {v : Value} {x : Nat} (h : Nm w v x) (o : Obj) : Nm (w.alloc o) v x := h.step ((Below.refl _ _).alloc (Nat.le_refl _) o)
theorem In.keep {w w' : World} {B : Nat} {v d : Value} {z : Int} {bs : List Nat} (h : In w v z) (o : pk.OwnB w B d bs) (g : w.grownBy w' d.ownBlock) : In w' v z := by
  obtain ⟨m, ⟨s, e, hn⟩, a, b⟩ := h
  exact ⟨m, ⟨s, e, Nm.keep hn o g⟩, a, b⟩
/-- what stays while Write goes on: the decimal, its coefficient -/
structure RWs (w wr : World) (c : Int) (s q : Nat) (m : Bool) (sv : Value) : Prop where
  d : VA wr w.heap.size (dcs c s) 41
  v : V2 wr q (.bool m) sv 84
  i : In wr (.agg #[.bool m, sv]) c
  b : Below w.heap.size w wr
theorem RWs.step {w wr wx : World} {c : Int} {s q : Nat} {m : Bool} {sv : Value} (h : RWs w wr c s q m sv) (k : Below wr.heap.size wr wx) : RWs w wx c s q m sv := ⟨h.d.step k, h.v.step k, h.i.step k, h.b.trans (k.mono h.b.size)⟩
theorem RWs.alloc {w wr : World} {c : Int} {s q : Nat} {m : Bool} {sv : Value} (h : RWs w wr c s q m sv) (o : Obj) : RWs w (wr.alloc o) c s q m sv := h.step ((Below.refl _ _).alloc (Nat.le_refl _) o)
theorem RWs.keep {w wr wx : World} {c : Int} {s q : Nat} {m : Bool} {sv d : Value} {bs : List Nat} {O : Obj} (h : RWs w wr c s q m sv) (o : pk.OwnB (wr.alloc O) w.heap.size d bs) (g : (wr.alloc O).grownBy wx d.ownBlock) (k : Below w.heap.size wr wx) : RWs w wx c s q m sv :=
  ⟨⟨o.keeps g (h.d.alloc O).blk (by decide)⟩, ⟨o.keeps g (h.v.alloc O).blk (by decide)⟩, In.keep (h.i.alloc O) o g, h.b.trans k⟩
/-- the letters, the last one first -/
def rlt (N k : Nat) : List Nat := (List.range k).map fun j => 48 + N / 10 ^ j % 10
theorem rlt_len (N k : Nat) : (rlt N k).length = k := by simp [rlt]
theorem rlt_succ (N k : Nat) : rlt N (k + 1) = rlt N k ++ [48 + N / 10 ^ k % 10] := by simp [rlt, List.range_succ]
theorem rlt_at (N k j : Nat) (h : j < k) : (rlt N k).getD j 0 = 48 + N / 10 ^ j % 10 := by simp [rlt, h]
def lnv : Value → Nat
  | .slice _ n _ => n
  | _ => 0
theorem own_len {w : World} {B : Nat} {v : Value} {cs : List Nat} (h : pk.OwnB w B v cs) : ∃ a cap, v = .slice a cs.length cap := by
  obtain ⟨_, a, c, e, _⟩ := h.bs
  exact ⟨a, c, e⟩
set_option maxHeartbeats 4000000 in
set_option maxRecDepth 100000 in
theorem rwrite_ok (c : Int) (s K : Nat) (w : World) (ic : InR c) (hs : s ≤ 18) (hK : Places s c.natAbs K) :
    Calls Tryz.prog 17 #[.agg #[.int .i64 (dhi c), .int .u64 (dlo c), .int .i64 (s : Int)]] w fun e w' => e = .returned (.string (tx (wtx c s K))) ∧ Below w.heap.size w w' := by
  have IC : Hid (InR c) := ic
  have HK : Hid (Places s c.natAbs K) := hK
  have HMd : Hid (∀ k, Md (c.natAbs / 10 ^ k)) := fun k => md_le (md_of (k := 127) (by have h1 := ic.lo; have h2 := ic.hi; rw [M127_eq] at h1 h2; omega) (by decide)) (Nat.div_le_self _ _)
  have HMt : Hid (Md 10) := md_of (k := 4) (by decide) (by decide)
  have hs18 : (s : Int) ≤ 18 := by omega
  have VD_0 := (show Hid _ from va_new w (dcs c s) 41)
  have BB_0 := (show Hid _ from (Below.refl w.heap.size w).alloc (Nat.le_refl _) (.cells (dcs c s).toArray 41))
  clear ic hK
  go_enter Tryz.func17, Tryz.ntmps17
  go_wp2_with (refine ldA rfl 41 _ rfl w.heap.size (by rfl) (dcs c s) _ VD_0.out _ Tryz.underlying41 rfl infoD ?_)
  refine (coef_ok c (s : Int) _ IC.out).mono ?_
  rintro e w1 ⟨⟨v, rfl, hv⟩, b1⟩
  obtain ⟨m, a0, n0, k0, rfl, hn, _, _⟩ := hv.form
  have R_1 : RWs w (w1.alloc (.cells #[.bool m, .slice a0 n0 k0] 84)) c s w1.heap.size m (.slice a0 n0 k0) :=
    ⟨(VD_0.out.step b1).alloc _, v2_new w1 (.bool m) (.slice a0 n0 k0) 84, hv.alloc _, (BB_0.out.trans (b1.mono BB_0.out.size)).alloc (BB_0.out.trans (b1.mono BB_0.out.size)).size _⟩
  have N_1 := (show Hid _ from hn.alloc (.cells #[.bool m, .slice a0 n0 k0] 84))
  have RR := (show Hid _ from R_1)
  have r0 := R_1.v.c0
  have r1 := R_1.v.c1
  clear R_1 hv hn b1 VD_0 BB_0
  go_upto_region 2 with fail
  change Code.wp _ _ _ _ (w1.alloc (.cells #[.bool m, .slice a0 n0 k0] 84))
  generalize w1.alloc (.cells #[.bool m, .slice a0 n0 k0] 84) = w2 at *
  generalize w1.heap.size = q at *
  obtain ⟨N, hN⟩ : ∃ N, N = c.natAbs := ⟨_, rfl⟩
  rw [← hN] at HK HMd N_1
  have HN0 : Hid (N = c.natAbs) := hN
  clear hN r0
  go_wp2_with fail
  clear r1
  go_loopw [4, 5] (fun nv dv wr => ∃ k : Nat, k ≤ K ∧ Hid (Nm wr nv (N / 10 ^ k)) ∧ Hid (pk.OwnB wr w.heap.size dv (rlt N k)) ∧ Hid (RWs w wr c s q m (.slice a0 n0 k0))) (fun _ dv _ => K - lnv dv)
  case atStart => exact ⟨0, by omega, by rw [Nat.pow_zero, Nat.div_one]; exact N_1, pk.own_nil _ _, RR⟩
  case round =>
    clear N_1 RR
    obtain ⟨k, hk, HN, HO, HR⟩ := hrel
    obtain ⟨a1, n1, c1, rfl, hn1, hz⟩ := nm_len HN.out
    obtain ⟨ad, cap, rfl⟩ := own_len HO.out
    rw [rlt_len] at HO
    rw [rlt_len]
    have d2 := HR.out.d.cell 2 (v := .int .i64 (s : Int)) rfl
    by_cases hkK : k = K
    · subst hkK
      have h0 : n1 = 0 := hz.2 HK.out.done
      subst h0
      have gk : ¬ (k : Int) ≤ s := by have := HK.out.lo; omega
      have r0 := HR.out.v.c0
      have r1 := HR.out.v.c1
      clear hz hn1
      go_wp2_with fail
      refine (sign_in _ c _ HR.out.i).mono ?_
      rintro e w3 ⟨rfl, b3⟩
      have HO3 := (show Hid _ from HO.out.step b3)
      have HR3 := (show Hid _ from HR.out.step b3)
      clear b3 HO HR HN d2 r0 r1
      by_cases hc : c < 0
      · have hg : sgn c = -1 := by unfold sgn; rw [if_pos hc]
        rw [hg]
        have HL : Hid ([45] ++ wrt s N k = wtx c s k) := (by unfold wtx; rw [if_pos hc, HN0.out]; rfl : [45] ++ wrt s N k = wtx c s k)
        clear hg hc
        go_wp2_with fail
        obtain ⟨HBy, ad', cap', hsv, hcp, hcm, hnn, hli⟩ := HO3.out.bs
        obtain ⟨b, off, had, hbb, hcl⟩ := hli (by rw [rlt_len]; have := HK.out.lo; omega)
        simp only [rlt_len, Value.slice.injEq] at hsv
        obtain ⟨rfl, _, rfl⟩ := hsv
        subst had
        rw [rlt_len] at hcp hcl
        have HCL := (show Hid _ from hcl)
        clear HBy hnn hcl hli hbb
        have hk39 : k ≤ 39 := HK.out.hi
        go_loopw [10, 11] (fun sv iv wy => ∃ (j : Nat) (L : List Nat), j ≤ k ∧ sv = .string (tx L) ∧ iv = .int .i64 ((j : Int) - 1) ∧ L.length ≤ 100 - 2 * j ∧ Hid (L ++ wrt s N j = wtx c s k) ∧ wy = w3) (fun _ iv _ => (intOf iv + 1).toNat)
        case atStart => exact ⟨k, [45], Nat.le_refl _, rfl, by simp; unfold wrap64; omega, by simp <;> omega, HL, rfl⟩
        case round =>
          obtain ⟨j, L, hj, rfl, rfl, hLl, HLj, rfl⟩ := hrel
          by_cases hj0 : j = 0
          · subst hj0
            go_wp2_with fail
            go_ret
            have he := HLj.out
            rw [wrt, List.append_nil] at he
            rw [he]
            exact ⟨rfl, HR3.out.b⟩
          · obtain ⟨i, rfl⟩ : ∃ i, j = i + 1 := ⟨j - 1, by omega⟩
            have ei : ((i + 1 : Nat) : Int) - 1 = (i : Int) := by omega
            rw [ei]
            clear hj0
            obtain ⟨x, hx⟩ : ∃ x, x = 48 + N / 10 ^ i % 10 := ⟨_, rfl⟩
            have hcv := run_convert_bytes_arg (P := Tryz.prog) wr 80 5 Tryz.underlying80 Tryz.underlying5 b (off + i) 1 (cap - i) [(x : Int)] rfl (fun l hl => by
              obtain rfl : l = 0 := by omega
              have := HCL.out i (by omega)
              rw [show pk.bt (rlt N k) i = (x : Int) by unfold pk.bt; rw [rlt_at N k i (by omega), hx]] at this
              exact this) 9 Tryz.underlying9
            obtain ⟨X, hX⟩ : ∃ X, X = tx [x] := ⟨_, rfl⟩
            obtain ⟨P, hP⟩ : ∃ P, P = tx L := ⟨_, rfl⟩
            have hX1 : X.size = 1 := by rw [hX, tx_size]; rfl
            have hPs : P.size ≤ 100 := by rw [hP, tx_size]; omega
            have z1 : P.size + 1 ≤ 9223372036854775807 := by omega
            have z2 : P.size + 1 + 1 ≤ 9223372036854775807 := by omega
            change _ = Result.ok (Value.string (tx [x])) wr at hcv
            rw [← hX] at hcv
            rw [← hP]
            have HX : Hid (X = tx [x]) := hX
            have HP : Hid (P = tx L) := hP
            have HXx : Hid (x = 48 + N / 10 ^ i % 10) := hx
            clear hX hP hx hPs
            have d2 := HR3.out.d.cell 2 (v := .int .i64 (s : Int)) rfl
            have s1 : (i : Int) + 1 ≤ cap := by omega
            by_cases hp : i = s ∧ 0 < i
            · have p1 : ((i : Int) == s) = true := by simp; omega
              have p2 : (0 : Int) < i := by omega
              have HPP : Hid (i = s ∧ 0 < i) := hp
              clear hp
              go_wp2_with fail
              refine ⟨⟨i, L ++ [x] ++ [46], by omega, by rw [HP.out, HX.out, tx_app, tx_app]; rfl, rfl, by simp; omega, ?_, trivial⟩, by simp [intOf] <;> omega⟩
              have he := HLj.out
              rw [wrt, if_pos HPP.out, ← HXx.out] at he
              exact (by rw [← he]; simp : L ++ [x] ++ [46] ++ wrt s N i = wtx c s k)
            · have HPP : Hid (¬ (i = s ∧ 0 < i)) := hp
              by_cases he : i = s
              · have p1 : ((i : Int) == s) = true := by simp; omega
                have p2 : ¬ (0 : Int) < i := by omega
                clear hp he
                go_wp2_with fail
                refine ⟨⟨i, L ++ [x], by omega, by rw [HP.out, HX.out, tx_app], rfl, by simp; omega, ?_, trivial⟩, by simp [intOf] <;> omega⟩
                have he := HLj.out
                rw [wrt, if_neg HPP.out, ← HXx.out] at he
                exact (by rw [← he]; simp : L ++ [x] ++ wrt s N i = wtx c s k)
              · have p1 : ((i : Int) == s) = false := by simp; omega
                clear hp he
                go_wp2_with fail
                refine ⟨⟨i, L ++ [x], by omega, by rw [HP.out, HX.out, tx_app], rfl, by simp; omega, ?_, trivial⟩, by simp [intOf] <;> omega⟩
                have he := HLj.out
                rw [wrt, if_neg HPP.out, ← HXx.out] at he
                exact (by rw [← he]; simp : L ++ [x] ++ wrt s N i = wtx c s k)
      · obtain ⟨g, hg⟩ : ∃ g, g = sgn c := ⟨_, rfl⟩
        have hg0 : ¬ g < 0 := by rw [hg]; unfold sgn; rw [if_neg hc]; split <;> omega
        rw [← hg]
        have HL : Hid ([] ++ wrt s N k = wtx c s k) := (by unfold wtx; rw [if_neg hc, HN0.out]; rfl : [] ++ wrt s N k = wtx c s k)
        clear hg hc
        go_wp2_with fail
        obtain ⟨HBy, ad', cap', hsv, hcp, hcm, hnn, hli⟩ := HO3.out.bs
        obtain ⟨b, off, had, hbb, hcl⟩ := hli (by rw [rlt_len]; have := HK.out.lo; omega)
        simp only [rlt_len, Value.slice.injEq] at hsv
        obtain ⟨rfl, _, rfl⟩ := hsv
        subst had
        rw [rlt_len] at hcp hcl
        have HCL := (show Hid _ from hcl)
        clear HBy hnn hcl hli hbb
        have hk39 : k ≤ 39 := HK.out.hi
        go_loopw [10, 11] (fun sv iv wy => ∃ (j : Nat) (L : List Nat), j ≤ k ∧ sv = .string (tx L) ∧ iv = .int .i64 ((j : Int) - 1) ∧ L.length ≤ 100 - 2 * j ∧ Hid (L ++ wrt s N j = wtx c s k) ∧ wy = w3) (fun _ iv _ => (intOf iv + 1).toNat)
        case atStart => exact ⟨k, [], Nat.le_refl _, rfl, by simp; unfold wrap64; omega, by simp <;> omega, HL, rfl⟩
        case round =>
          obtain ⟨j, L, hj, rfl, rfl, hLl, HLj, rfl⟩ := hrel
          by_cases hj0 : j = 0
          · subst hj0
            go_wp2_with fail
            go_ret
            have he := HLj.out
            rw [wrt, List.append_nil] at he
            rw [he]
            exact ⟨rfl, HR3.out.b⟩
          · obtain ⟨i, rfl⟩ : ∃ i, j = i + 1 := ⟨j - 1, by omega⟩
            have ei : ((i + 1 : Nat) : Int) - 1 = (i : Int) := by omega
            rw [ei]
            clear hj0
            obtain ⟨x, hx⟩ : ∃ x, x = 48 + N / 10 ^ i % 10 := ⟨_, rfl⟩
            have hcv := run_convert_bytes_arg (P := Tryz.prog) wr 80 5 Tryz.underlying80 Tryz.underlying5 b (off + i) 1 (cap - i) [(x : Int)] rfl (fun l hl => by
              obtain rfl : l = 0 := by omega
              have := HCL.out i (by omega)
              rw [show pk.bt (rlt N k) i = (x : Int) by unfold pk.bt; rw [rlt_at N k i (by omega), hx]] at this
              exact this) 9 Tryz.underlying9
            obtain ⟨X, hX⟩ : ∃ X, X = tx [x] := ⟨_, rfl⟩
            obtain ⟨P, hP⟩ : ∃ P, P = tx L := ⟨_, rfl⟩
            have hX1 : X.size = 1 := by rw [hX, tx_size]; rfl
            have hPs : P.size ≤ 100 := by rw [hP, tx_size]; omega
            have z1 : P.size + 1 ≤ 9223372036854775807 := by omega
            have z2 : P.size + 1 + 1 ≤ 9223372036854775807 := by omega
            change _ = Result.ok (Value.string (tx [x])) wr at hcv
            rw [← hX] at hcv
            rw [← hP]
            have HX : Hid (X = tx [x]) := hX
            have HP : Hid (P = tx L) := hP
            have HXx : Hid (x = 48 + N / 10 ^ i % 10) := hx
            clear hX hP hx hPs
            have d2 := HR3.out.d.cell 2 (v := .int .i64 (s : Int)) rfl
            have s1 : (i : Int) + 1 ≤ cap := by omega
            by_cases hp : i = s ∧ 0 < i
            · have p1 : ((i : Int) == s) = true := by simp; omega
              have p2 : (0 : Int) < i := by omega
              have HPP : Hid (i = s ∧ 0 < i) := hp
              clear hp
              go_wp2_with fail
              refine ⟨⟨i, L ++ [x] ++ [46], by omega, by rw [HP.out, HX.out, tx_app, tx_app]; rfl, rfl, by simp; omega, ?_, trivial⟩, by simp [intOf] <;> omega⟩
              have he := HLj.out
              rw [wrt, if_pos HPP.out, ← HXx.out] at he
              exact (by rw [← he]; simp : L ++ [x] ++ [46] ++ wrt s N i = wtx c s k)
            · have HPP : Hid (¬ (i = s ∧ 0 < i)) := hp
              by_cases he : i = s
              · have p1 : ((i : Int) == s) = true := by simp; omega
                have p2 : ¬ (0 : Int) < i := by omega
                clear hp he
                go_wp2_with fail
                refine ⟨⟨i, L ++ [x], by omega, by rw [HP.out, HX.out, tx_app], rfl, by simp; omega, ?_, trivial⟩, by simp [intOf] <;> omega⟩
                have he := HLj.out
                rw [wrt, if_neg HPP.out, ← HXx.out] at he
                exact (by rw [← he]; simp : L ++ [x] ++ wrt s N i = wtx c s k)
              · have p1 : ((i : Int) == s) = false := by simp; omega
                clear hp he
                go_wp2_with fail
                refine ⟨⟨i, L ++ [x], by omega, by rw [HP.out, HX.out, tx_app], rfl, by simp; omega, ?_, trivial⟩, by simp [intOf] <;> omega⟩
                have he := HLj.out
                rw [wrt, if_neg HPP.out, ← HXx.out] at he
                exact (by rw [← he]; simp : L ++ [x] ++ wrt s N i = wtx c s k)
    · have hlt : k < K := by omega
      have hg : (0 : Int) < n1 ∨ (¬ (0 : Int) < n1 ∧ (k : Int) ≤ s) := by
        rcases HK.out.more k hlt with h | h
        · by_cases h0 : n1 = 0
          · exact Or.inr ⟨by omega, by omega⟩
          · exact Or.inl (by omega)
        · exact Or.inl (by omega)
      clear hkK hz
      rcases hg with hg | ⟨hg1, hg2⟩
      · go_wp2_with fail
        refine (word_ok 10 _ (by decide) (by decide)).mono ?_
        rintro e w3 ⟨⟨u, rfl, hu⟩, b3⟩
        have HN3 := (show Hid _ from HN.out.step b3)
        have HO3 := (show Hid _ from HO.out.step b3)
        have HR3 := (show Hid _ from HR.out.step b3)
        have HU3 : Hid (Nm w3 u 10) := hu
        clear hu b3 HN HO HR d2
        go_wp2_with fail
        refine (lquo_ok _ _ _ 10 _ HN3.out HU3.out (HMd.out k) HMt.out (by decide)).mono ?_
        rintro e w4 ⟨⟨q4, r4, rfl, hq4, hr4⟩, b4⟩
        rw [Nat.div_div_eq_div_mul, ← Nat.pow_succ] at hq4
        have HO4 := (show Hid _ from HO3.out.step b4)
        have HR4 := (show Hid _ from HR3.out.step b4)
        have HQ4 : Hid (Nm w4 q4 (N / 10 ^ (k + 1))) := hq4
        clear hq4 b4 HN3 HO3 HR3 HU3
        obtain ⟨x, hx⟩ : ∃ x, x = N / 10 ^ k % 10 := ⟨_, rfl⟩
        rw [← hx] at hr4
        have hx9 : x < 10 := by rw [hx]; exact Nat.mod_lt _ (by decide)
        have HX : Hid (x = N / 10 ^ k % 10) := hx
        have HF : Hid (Nm w4 r4 x) := hr4
        clear hx hr4
        go_wp2_with fail
        refine (fits_yes r4 x _ HF.out (by omega)).mono ?_
        rintro e w5 ⟨rfl, hw5⟩
        obtain rfl := hw5.symm
        clear hw5 HF
        go_wp2_with (refine pk.appB1g rfl _ _ rfl w.heap.size (rlt N k) _ (48 + (x : Int)) (48 + x) (by rfl) (by rfl) (by omega) (by omega) HO4.out HR4.out.b.size (by rw [rlt_len]; have := HK.out.hi; omega) ?_; intro v6 w6 o6 b6 g6; have N6 := (show Hid _ from Nm.keep (Nm.alloc' HQ4.out _) (HO4.out.alloc _) g6); have R6 := (show Hid _ from HR4.out.keep (HO4.out.alloc _) g6 b6); rw [HX.out, ← rlt_succ] at o6; have O6 := (show Hid _ from o6); obtain ⟨a6, c6, rfl⟩ := own_len o6; clear o6 b6 g6 HQ4 HR4 HO4)
        refine ⟨⟨k + 1, by omega, N6, O6, R6⟩, ?_⟩
        simp only [lnv, rlt_len]
        omega
      · obtain rfl : n1 = 0 := by omega
        clear hg1
        go_wp2_with fail
        refine (word_ok 10 _ (by decide) (by decide)).mono ?_
        rintro e w3 ⟨⟨u, rfl, hu⟩, b3⟩
        have HN3 := (show Hid _ from HN.out.step b3)
        have HO3 := (show Hid _ from HO.out.step b3)
        have HR3 := (show Hid _ from HR.out.step b3)
        have HU3 : Hid (Nm w3 u 10) := hu
        clear hu b3 HN HO HR d2
        go_wp2_with fail
        refine (lquo_ok _ _ _ 10 _ HN3.out HU3.out (HMd.out k) HMt.out (by decide)).mono ?_
        rintro e w4 ⟨⟨q4, r4, rfl, hq4, hr4⟩, b4⟩
        rw [Nat.div_div_eq_div_mul, ← Nat.pow_succ] at hq4
        have HO4 := (show Hid _ from HO3.out.step b4)
        have HR4 := (show Hid _ from HR3.out.step b4)
        have HQ4 : Hid (Nm w4 q4 (N / 10 ^ (k + 1))) := hq4
        clear hq4 b4 HN3 HO3 HR3 HU3
        obtain ⟨x, hx⟩ : ∃ x, x = N / 10 ^ k % 10 := ⟨_, rfl⟩
        rw [← hx] at hr4
        have hx9 : x < 10 := by rw [hx]; exact Nat.mod_lt _ (by decide)
        have HX : Hid (x = N / 10 ^ k % 10) := hx
        have HF : Hid (Nm w4 r4 x) := hr4
        clear hx hr4
        go_wp2_with fail
        refine (fits_yes r4 x _ HF.out (by omega)).mono ?_
        rintro e w5 ⟨rfl, hw5⟩
        obtain rfl := hw5.symm
        clear hw5 HF
        go_wp2_with (refine pk.appB1g rfl _ _ rfl w.heap.size (rlt N k) _ (48 + (x : Int)) (48 + x) (by rfl) (by rfl) (by omega) (by omega) HO4.out HR4.out.b.size (by rw [rlt_len]; have := HK.out.hi; omega) ?_; intro v6 w6 o6 b6 g6; have N6 := (show Hid _ from Nm.keep (Nm.alloc' HQ4.out _) (HO4.out.alloc _) g6); have R6 := (show Hid _ from HR4.out.keep (HO4.out.alloc _) g6 b6); rw [HX.out, ← rlt_succ] at o6; have O6 := (show Hid _ from o6); obtain ⟨a6, c6, rfl⟩ := own_len o6; clear o6 b6 g6 HQ4 HR4 HO4)
        refine ⟨⟨k + 1, by omega, N6, O6, R6⟩, ?_⟩
        simp only [lnv, rlt_len]
        omega
end Go.Proofs.YteohncnjjgoemaaGreatDoor.dg
