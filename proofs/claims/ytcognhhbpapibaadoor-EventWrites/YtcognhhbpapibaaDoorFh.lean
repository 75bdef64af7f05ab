/- event: rows of int64 that a call makes itself; the document's numbers. -/
import Derived.Test.YtcognhhbpapibaaDoorFg
namespace Go.Proofs.YtcognhhbpapibaaDoor
open Go.RowKit
set_option linter.unusedVariables false

theorem infoI : (Tryd.prog.info? 2).map (fun i => (i.zero, i.size, i.bytes)) = some (some (.int .i64 0), 1, 8) := by kernel_rfl
theorem infoI_parts : ∃ i, Tryd.prog.info? 2 = some i ∧ i.zero = some (.int .i64 0) ∧ i.size = 1 ∧ i.bytes = 8 := by
  obtain ⟨i, hi, hz⟩ := Option.map_eq_some_iff.1 infoI
  simp only [Prod.mk.injEq] at hz
  exact ⟨i, hi, hz.1, hz.2.1, hz.2.2⟩
/-- numbers as cells -/
def ci (zs : List Int) : List Value := zs.map fun d => Value.int .i64 d
/-- the row v of the call's own holds the numbers zs -/
structure OwnI (w : World) (B : Nat) (v : Value) (zs : List Int) : Prop where
  own : w.ownsRow B 2 1 v zs.length (ci zs)
theorem ownI_nil (w : World) (B : Nat) : OwnI w B (.slice none 0 0) [] := ⟨World.ownsRow_nil _ _ _ _⟩
theorem OwnI.block {w : World} {B : Nat} {v : Value} {cs : List Int} (h : OwnI w B v cs) : ∀ k, v.ownBlock = some k → B ≤ k := by
  obtain ⟨hl, h2⟩ := h.own
  rcases h2 with ⟨rfl, h0⟩ | ⟨g, cap, cur, rfl, hb, _⟩
  · intro k hk; simp [Value.ownBlock] at hk
  · intro k hk; simp [Value.ownBlock] at hk; omega
theorem OwnI.step {w w' : World} {B : Nat} {v : Value} {cs : List Int} (h : OwnI w B v cs) (k : Below w.heap.size w w') : OwnI w' B v cs := by
  refine ⟨h.own.1, ?_⟩
  rcases h.own.2 with h2 | ⟨g, cap, cur, e, hb, hg, r⟩
  · exact Or.inl h2
  · have hlt : g < w.heap.size := by
      rcases Nat.lt_or_ge g w.heap.size with hlt | hge
      · exact hlt
      · rw [Array.getElem?_eq_none hge] at hg; cases hg
    exact Or.inr ⟨g, cap, cur, e, hb, (k.block g hlt).trans hg, r⟩
theorem OwnI.lower {w : World} {B B' : Nat} {v : Value} {cs : List Int} (h : OwnI w B v cs) (hB : B' ≤ B) : OwnI w B' v cs := by
  refine ⟨h.own.1, ?_⟩
  rcases h.own.2 with h2 | ⟨g, cap, cur, e, hb, r⟩
  · exact Or.inl h2
  · exact Or.inr ⟨g, cap, cur, e, by omega, r⟩
theorem OwnI.form {w : World} {B : Nat} {v : Value} {cs : List Int} (h : OwnI w B v cs) : ∃ a c, v = .slice a cs.length c ∧ cs.length ≤ c ∧ c ≤ 9223372036854775807 := by
  rcases h.own.2 with ⟨rfl, h0⟩ | ⟨g, cap, cur, rfl, hb, hg, hcap, hcm, _⟩
  · exact ⟨none, 0, by rw [h0], by omega, by omega⟩
  · exact ⟨_, cap, rfl, hcap, by unfold maxLen at hcm; omega⟩
theorem OwnI.at {w : World} {B : Nat} {a : Option Addr} {n c : Nat} {cs : List Int} (h : OwnI w B (.slice a n c) cs) (k : Nat) (hk : k < cs.length) : ∃ g, a = some ⟨g, 0, none⟩ ∧ g < w.heap.size ∧ w.cell? ⟨g, k, none⟩ = some (.int .i64 (cs.getD k 0)) := by
  have ho := h.own
  rcases h.own.2 with ⟨e, h0⟩ | ⟨g, cap, cur, e, hb, hg, hcap, hcm, hcs, htk⟩
  · omega
  · cases e
    refine ⟨g, rfl, ?_, ?_⟩
    · rcases Nat.lt_or_ge g w.heap.size with hlt | hge
      · exact hlt
      · rw [Array.getElem?_eq_none hge] at hg; cases hg
    · rw [ho.cellAt k (by omega)]
      simp [ci, List.getD, hk]
/-- append(l, d) -/
theorem appI1 {w : World} {ops : Array Oper} {rest : List Oper} {o : Oper} {a : Act} {Q : Exit → Act → World → Prop} {T : TypeId} (hgd : o.guard = none) (s x : Operand)
    (ho : o.op = .call { callee := .builtin .append, args := #[s, x], argTypes := #[56, 56] })
    (B : Nat) (cs : List Int) (v : Value) (d : Int) (hs : a.eval s = v) (hx : a.eval x = .slice (some ⟨w.heap.size, 0, none⟩) 1 1)
    (hown : OwnI w B v cs) (hB : B ≤ w.heap.size) (hl : cs.length ≤ 300)
    (h : ∀ v' w', OwnI w' B v' (cs ++ [d]) → Below B w w' → wpList Tryd.prog ops Q rest (a.put o.dst v') w') :
    wpList Tryd.prog ops Q (o :: rest) a (w.alloc (.cells #[.int .i64 d] T)) := by
  obtain ⟨i0, hi, hz0, hz1, hz2⟩ := infoI_parts
  refine wpList_append_own _ hgd s x 56 ho B 2 i0 (.int .i64 0) 1 8 Tryd.underlying56 hi hz0 hz1 hz2 rfl (by decide) v cs.length (ci cs) hs (hown.own.alloc _) ⟨w.heap.size, 0, none⟩ 1 1 [.int .i64 d] hx rfl ?_ ?_ ?_ ?_ ?_ ?_
  · intro j u hj
    match j, hj with
    | 0, hj => simp at hj; subst hj; simp [Addr.add]
  · intro u hu; simp at hu; subst hu; rfl
  · unfold maxLen; omega
  · omega
  · simp; omega
  · intro v' w' hown' hgrow _
    refine h v' w' ?_ ?_
    · refine ⟨?_⟩
      rw [List.length_append, List.length_singleton, show ci (cs ++ [d]) = ci cs ++ [.int .i64 d] by simp [ci]]
      exact hown'
    · exact ((Below.refl _ _).alloc hB _).grown hgrow (by simp; omega) hown.block
theorem take_add_enc {bs : List Nat} {k : Nat} {r : List Nat} {e : List Nat} (hk : k ≤ bs.length) (h : bs.drop k = e ++ r) : bs.take (k + e.length) = bs.take k ++ e ∧ k + e.length ≤ bs.length ∧ bs.drop (k + e.length) = r := by
  have hb : bs = bs.take k ++ (e ++ r) := by rw [← h, List.take_append_drop]
  have hl : (bs.take k).length = k := by rw [List.length_take]; omega
  have h2 := congrArg List.length h
  rw [List.length_drop, List.length_append] at h2
  refine ⟨?_, by omega, ?_⟩
  · rw [List.take_add, h, List.take_left]
  · rw [← List.drop_drop, h, List.drop_left]
def slen : Value → Nat
  | .slice _ n _ => n
  | _ => 0
/-- what numbers answers -/
structure Nums (bs : List Nat) (most : Nat) (zs : List Int) (k : Nat) : Prop where
  len : zs.length ≤ most
  bd : ∀ z ∈ zs, I64 z
  front : zs.flatMap n1 = bs.take k
  le : k ≤ bs.length
set_option maxHeartbeats 1000000 in
set_option maxRecDepth 100000 in
theorem numbers_any (v : Value) (bs : List Nat) (w : World) (most : Nat) (h : Bs w v bs) (hm : most ≤ 16) :
    Calls Tryd.prog 30 #[v, .int .i64 most] w fun e w' => (∃ (zs : List Int) (k : Nat) (u : Value), e = .returned (.tuple #[u, .int .i64 k]) ∧ Nums bs most zs k ∧ (zs.length < most → Non (bs.drop k)) ∧ OwnI w' w.heap.size u zs) ∧ Below w.heap.size w w' := by
  obtain ⟨L, hL⟩ : ∃ L, L = bs.length := ⟨_, rfl⟩
  obtain ⟨a, c, rfl, hlc, hc9⟩ : ∃ a c, v = .slice a L c ∧ L ≤ c ∧ c ≤ 9223372036854775807 := by obtain ⟨_, a, c, e, h1, h2, _⟩ := h; exact ⟨a, c, by rw [hL]; exact e, by rw [hL]; exact h1, h2⟩
  have HL := (show Hid _ from hL)
  have HV := (show Hid _ from h)
  clear h hL
  go_enter Tryd.func30, Tryd.ntmps30
  go_wp2_with fail
  go_loopw [6, 7] (fun s i wr => ∃ (zs : List Int) (k : Nat), i = .int .i64 k ∧ k ≤ L ∧ zs.length ≤ most ∧ Hid (Nums bs most zs k ∧ OwnI wr w.heap.size s zs ∧ Below w.heap.size w wr ∧ ∃ b d, s = .slice b zs.length d ∧ zs.length ≤ d ∧ d ≤ 9223372036854775807)) (fun s _ _ => most - slen s)
  case atStart => exact ⟨[], 0, rfl, by omega, by simp, ⟨by simp, fun z h => (by cases h), by simp, by omega⟩, ownI_nil _ _, Below.refl _ _, none, 0, rfl, by simp, by omega⟩
  case round =>
    obtain ⟨zs, k, rfl, hk, hzm, K⟩ := hrel
    obtain ⟨K1, K2, K3, sb, sd, rfl, hs1, hs2⟩ := K.out
    have HK1 := (show Hid _ from K1)
    have HK2 := (show Hid _ from K2)
    have HK3 := (show Hid _ from K3)
    obtain ⟨q, hq⟩ : ∃ q, q = zs.length := ⟨_, rfl⟩
    have HQ := (show Hid _ from hq)
    rw [← hq] at hzm hs1 HK2 ⊢
    clear K K1 K2 K3 hq
    by_cases hqm : q = most
    · subst hqm
      go_wp2_with fail
      go_ret2
      exact ⟨⟨zs, k, _, rfl, HK1.out, fun h => absurd HQ.out (by omega), HK2.out⟩, HK3.out⟩
    have hqm' : q < most := by omega
    have d1 : (q : Int) < (most : Int) := by omega
    have e1 : (0 : Int) ≤ (k : Int) := by omega
    have e2 : (k : Int) ≤ (L : Int) := by omega
    have XV : Hid (Bs wr (cutV (.slice a L c) k) (bs.drop k)) := by
      refine bs_cutV (xs := bs.take k) ?_ (by rw [List.length_take]; have := HL.out; omega)
      rw [List.take_append_drop]
      exact HV.out.step HK3.out
    rw [cutV_sl] at XV
    rcases non_or (bs.drop k) with ⟨n, hn, hf⟩ | hf
    · have HF := (show Hid _ from hf)
      have hz := uz_bd hn
      clear hf
      by_cases hck : c = k
      · obtain rfl : L = c := by omega
        subst hck
        rw [if_pos rfl, Nat.sub_self] at XV
        go_wp2_with fail
        refine (doci_yes _ _ n _ XV.out hn HF.out).mono ?_
        rintro e w2 ⟨rfl, b2⟩
        obtain ⟨en, hen⟩ : ∃ en, en = (enc n).length := ⟨_, rfl⟩
        have HEN := (show Hid _ from hen)
        have B2 := (show Hid _ from HK3.out.trans (b2.mono HK3.out.size))
        have I2 := (show Hid _ from HK2.out.step b2)
        have l2 := B2.out.size
        have NX : Hid (Nums bs most (zs ++ [uz n]) (L + en) ∧ L + en ≤ L) := by
          obtain ⟨r, hr⟩ := HF.out
          obtain ⟨g1, g2, g3⟩ := take_add_enc HK1.out.le hr.symm
          rw [hen]
          refine ⟨⟨?_, ?_, ?_, g2⟩, by have := HL.out; omega⟩
          · rw [List.length_append, ← HQ.out]; simp; omega
          · intro z hz'
            rcases List.mem_append.1 hz' with hz' | hz'
            · exact HK1.out.bd z hz'
            · obtain rfl : z = uz n := by simpa using hz'
              exact hz
          · rw [List.flatMap_append, HK1.out.front, g1]
            simp [n1, zz_uz]
        rw [← hen]
        have el := enc_len hn
        rw [← hen] at el
        have hke := NX.out.2
        clear hen b2 XV HF HK1 HK2 HK3
        go_wp2_with (at_builtin; refine appI1 rfl _ _ rfl w.heap.size zs _ (uz n) (by rfl) (by rfl) I2.out l2 (by have := HQ.out; omega) ?_; intro v3 w3 o3 b3)
        obtain ⟨va, vc, rfl, hv1, hv2⟩ := o3.form
        refine ⟨⟨zs ++ [uz n], L + en, by go_num, NX.out.2, by rw [List.length_append, ← HQ.out]; simp; omega, NX.out.1, o3, B2.out.trans (b3.mono (Nat.le_refl _)), va, vc, rfl, hv1, hv2⟩, ?_⟩
        simp only [slen, List.length_append, List.length_singleton]
        have := HQ.out
        omega
      · rw [if_neg hck] at XV
        go_wp2_with fail
        refine (doci_yes _ _ n _ XV.out hn HF.out).mono ?_
        rintro e w2 ⟨rfl, b2⟩
        obtain ⟨en, hen⟩ : ∃ en, en = (enc n).length := ⟨_, rfl⟩
        have HEN := (show Hid _ from hen)
        have B2 := (show Hid _ from HK3.out.trans (b2.mono HK3.out.size))
        have I2 := (show Hid _ from HK2.out.step b2)
        have l2 := B2.out.size
        have NX : Hid (Nums bs most (zs ++ [uz n]) (k + en) ∧ k + en ≤ L) := by
          obtain ⟨r, hr⟩ := HF.out
          obtain ⟨g1, g2, g3⟩ := take_add_enc HK1.out.le hr.symm
          rw [hen]
          refine ⟨⟨?_, ?_, ?_, g2⟩, by have := HL.out; omega⟩
          · rw [List.length_append, ← HQ.out]; simp; omega
          · intro z hz'
            rcases List.mem_append.1 hz' with hz' | hz'
            · exact HK1.out.bd z hz'
            · obtain rfl : z = uz n := by simpa using hz'
              exact hz
          · rw [List.flatMap_append, HK1.out.front, g1]
            simp [n1, zz_uz]
        rw [← hen]
        have el := enc_len hn
        rw [← hen] at el
        have hke := NX.out.2
        clear hen b2 XV HF HK1 HK2 HK3
        go_wp2_with (at_builtin; refine appI1 rfl _ _ rfl w.heap.size zs _ (uz n) (by rfl) (by rfl) I2.out l2 (by have := HQ.out; omega) ?_; intro v3 w3 o3 b3)
        obtain ⟨va, vc, rfl, hv1, hv2⟩ := o3.form
        refine ⟨⟨zs ++ [uz n], k + en, by go_num, NX.out.2, by rw [List.length_append, ← HQ.out]; simp; omega, NX.out.1, o3, B2.out.trans (b3.mono (Nat.le_refl _)), va, vc, rfl, hv1, hv2⟩, ?_⟩
        simp only [slen, List.length_append, List.length_singleton]
        have := HQ.out
        omega
    · have HF := (show Hid _ from hf)
      clear hf
      by_cases hck : c = k
      · obtain rfl : L = c := by omega
        subst hck
        rw [if_pos rfl, Nat.sub_self] at XV
        go_wp2_with fail
        refine (doci_no _ _ _ XV.out HF.out).mono ?_
        rintro e w2 ⟨rfl, b2⟩
        have B2 := (show Hid _ from HK3.out.trans (b2.mono HK3.out.size))
        have I2 := (show Hid _ from HK2.out.step b2)
        clear b2 XV
        go_wp2_with fail
        go_ret2
        exact ⟨⟨zs, L, _, rfl, HK1.out, fun _ => HF.out, I2.out⟩, B2.out⟩
      · rw [if_neg hck] at XV
        go_wp2_with fail
        refine (doci_no _ _ _ XV.out HF.out).mono ?_
        rintro e w2 ⟨rfl, b2⟩
        have B2 := (show Hid _ from HK3.out.trans (b2.mono HK3.out.size))
        have I2 := (show Hid _ from HK2.out.step b2)
        clear b2 XV
        go_wp2_with fail
        go_ret2
        exact ⟨⟨zs, k, _, rfl, HK1.out, fun _ => HF.out, I2.out⟩, B2.out⟩
end Go.Proofs.YtcognhhbpapibaaDoor
