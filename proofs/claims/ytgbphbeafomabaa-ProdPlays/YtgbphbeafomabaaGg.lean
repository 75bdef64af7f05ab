/- prod: plain, Clone, copied, of. -/
import Derived.Test.YtgbphbeafomabaaGf
import Derived.Test.YtgbphbeafomabaaEx
namespace Go.Proofs.Ytgbphbeafomabaa
open Go.RowKit
set_option linter.unusedVariables false
attribute [local go_sem] ext_cell ext_frozen ext_drew ext_of_drew ext_of_drewN ext_setCell ext_lt ext_lt1 ext_lt2 ext_lt3 lt_n2 lt_n3 lt_n4 lt_n5 lt_n6

/-- a plain product -/
def plainV (id day : Int) : PV := ⟨id, 1, 0, day, 0, 0, 0, 0, [(0, 5)]⟩
/-- the zero of a product -/
def zeroV : PV := ⟨0, 0, 0, 0, 0, 0, 0, 0, []⟩
set_option maxHeartbeats 1000000 in
set_option maxRecDepth 100000 in
theorem plain_ok (id day : Int) (w : World) :
    Calls Try.prog 22 #[.int .i64 id, .int .i64 day] w fun e w' => (∃ b, e = .returned (.agg ((plainV id day).cells (.slice (some ⟨b, 0, none⟩) 1 1)).toArray) ∧ Tr w' (.slice (some ⟨b, 0, none⟩) 1 1) [(0, 5)] ∧ w.heap.size ≤ b) ∧ Below w.heap.size w w' := by
  have U := (va_new w [.int .i64 0, .int .i64 0, .int .i64 0, .int .i64 0, .int .i64 0, .int .i64 0, .int .i64 0, .int .i64 0, .slice none 0 0] 25).alloc (.cells #[.int .i64 0, .int .i64 5] 36)
  have V := va_new (w.alloc (.cells #[.int .i64 0, .int .i64 0, .int .i64 0, .int .i64 0, .int .i64 0, .int .i64 0, .int .i64 0, .int .i64 0, .slice none 0 0] 25)) [.int .i64 0, .int .i64 5] 36
  have HD := (show Hid _ from ((Below.refl w.heap.size w).alloc (Nat.le_refl _) (.cells #[.int .i64 0, .int .i64 0, .int .i64 0, .int .i64 0, .int .i64 0, .int .i64 0, .int .i64 0, .int .i64 0, .slice none 0 0] 25)).alloc (by simp) (.cells #[.int .i64 0, .int .i64 5] 36))
  rw [World.size_alloc] at V
  have HU := (show Hid _ from U)
  have HV := (show Hid _ from V)
  clear U V
  go_enter Try.func22, Try.ntmps22
  go_wp2_with (refine stA rfl 25 _ _ rfl w.heap.size (by rfl) _ ((plainV id day).cells (.slice (some ⟨w.heap.size + 1, 0, none⟩) 1 1)) (by rfl) 25 HU.out infoP rfl (pv_one _ ⟨_, _, _, rfl⟩) ?_; intro w3 V3 U3)
  have HV3 := HV.out.upd U3 (by omega)
  refine bodyPost_ret (v := .agg ((plainV id day).cells (.slice (some ⟨w.heap.size + 1, 0, none⟩) 1 1)).toArray) ?_ rfl ⟨⟨w.heap.size + 1, rfl, ⟨?_, some ⟨w.heap.size + 1, 0, none⟩, 1, rfl, by simp, by omega, fun _ => ⟨w.heap.size + 1, 0, rfl, HV3.lt, ?_⟩⟩, by omega⟩, U3.bel HD.out (by omega)⟩
  · have hld := run_loadVar_row (P := Try.prog) w3 w.heap.size 25 25 _ (0, 0) _ V3.blk Try.underlying25 rfl infoP
    simp [results, Try.results22, asAddr, hld, Act.put]
  · intro t ht
    simp only [List.mem_cons, List.not_mem_nil, or_false] at ht
    subst ht
    simp
  · intro k hk
    obtain rfl : k = 0 := by simpa using hk
    exact ⟨HV3.cell 0 rfl, HV3.cell 1 rfl⟩
set_option maxHeartbeats 1000000 in
set_option maxRecDepth 100000 in
theorem clone_ok (tv : Value) (ts : List (Int × Int)) (w : World) (h : Tr w tv ts) (hno : ∀ n c, tv = .slice none n c → c = 0) (hl : ts.length ≤ 8796093022208) :
    Calls Try.prog 33 #[tv] w fun e w' => (∃ v, e = .returned v ∧ OwnT w' w.heap.size v ts) ∧ Below w.heap.size w w' := by
  have HT := (show Hid _ from h)
  have HN := (show Hid _ from hno)
  have HL := (show Hid _ from hl)
  obtain ⟨n, hn⟩ : ∃ n, n = ts.length := ⟨_, rfl⟩
  obtain ⟨ta, tc, rfl⟩ : ∃ a c, tv = .slice a n c := by obtain ⟨_, a, c, e, _⟩ := h; exact ⟨a, c, by rw [hn]; exact e⟩
  cases ta with
  | none =>
    obtain rfl : ts = [] := by
      cases ts with
      | nil => rfl
      | cons a t =>
        exfalso
        obtain ⟨_, a', c, e, _, _, h3⟩ := h
        obtain ⟨b, off, e', _⟩ := h3 (by simp)
        cases e
        cases e'
    subst hn
    obtain rfl : tc = 0 := hno _ _ rfl
    clear h hno hl
    have he : ∀ w : World, (binOp .eql 22 (.slice none 0 0) (.slice none 0 0)).run Try.prog w = .ok (.bool true) w := fun _ => rfl
    go_enter Try.func33, Try.ntmps33
    go_wp2_with fail
    go_ret
    exact ⟨⟨_, rfl, ownT_nil _ _⟩, Below.refl _ _⟩
  | some ad =>
    have D1 := (Below.refl w.heap.size w).alloc (Nat.le_refl _) (.cells #[] 36)
    have HD := (show Hid _ from D1)
    have H1 := (show Hid _ from h.step D1)
    have HO := (show Hid _ from ownT_made w)
    clear D1 h hno hl hn
    have he : ∀ w : World, (binOp .eql 22 (.slice (some ad) n tc) (.slice none 0 0)).run Try.prog w = .ok (.bool false) w := fun _ => rfl
    go_enter Try.func33, Try.ntmps33
    go_wp2_with (at_builtin; refine appTr rfl _ _ rfl w.heap.size [] ts _ _ (by rfl) (by rfl) HO.out H1.out HN.out HD.out.size (by have := HL.out; simp; omega) ?_; intro v2 w2 o2 b2 g2; rw [List.nil_append] at o2)
    go_ret
    exact ⟨⟨_, rfl, o2⟩, HD.out.trans b2⟩
theorem OwnT.form {w : World} {B : Nat} {v : Value} {ts : List (Int × Int)} (h : OwnT w B v ts) : ∃ a n c, v = .slice a n c := by
  rcases h.own.2 with ⟨rfl, _⟩ | ⟨g, cap, cur, rfl, _⟩
  · exact ⟨_, _, _, rfl⟩
  · exact ⟨_, _, _, rfl⟩
theorem OwnT.nilcap {w : World} {B : Nat} {v : Value} {ts : List (Int × Int)} (h : OwnT w B v ts) : ∀ n c, v = .slice none n c → c = 0 := by
  rcases h.own.2 with ⟨rfl, _⟩ | ⟨g, cap, cur, rfl, _⟩
  · intro n c e; cases e; rfl
  · intro n c e; cases e
theorem OwnT.upd {w w' : World} {B p : Nat} {v : Value} {ts : List (Int × Int)} (h : OwnT w B v ts) (k : Upd p w w') (hp : p < B) : OwnT w' B v ts := by
  refine ⟨h.wf, h.own.1, ?_⟩
  rcases h.own.2 with h2 | ⟨g, cap, cur, e, hb, hg, r⟩
  · exact Or.inl h2
  · exact Or.inr ⟨g, cap, cur, e, hb, (k.block g (by omega)).trans hg, r⟩
set_option maxHeartbeats 1000000 in
set_option maxRecDepth 100000 in
theorem copied_ok (x : PV) (tv : Value) (w : World) (h : Tr w tv x.ts) (hno : ∀ n c, tv = .slice none n c → c = 0) (hl : x.ts.length ≤ 8796093022208) :
    Calls Try.prog 28 #[.agg (x.cells tv).toArray] w fun e w' => (∃ v, e = .returned (.agg (x.cells v).toArray) ∧ OwnT w' w.heap.size v x.ts) ∧ Below w.heap.size w w' := by
  obtain ⟨ta, tn, tc, rfl⟩ : ∃ a n c, tv = .slice a n c := by obtain ⟨_, a, c, e, _⟩ := h; exact ⟨a, _, c, e⟩
  have V := (va_new w (x.cells (.slice ta tn tc)) 25).alloc (.cells #[.int .i64 0, .int .i64 0, .int .i64 0, .int .i64 0, .int .i64 0, .int .i64 0, .int .i64 0, .int .i64 0, .slice none 0 0] 25)
  have U := va_new (w.alloc (.cells (x.cells (.slice ta tn tc)).toArray 25)) [.int .i64 0, .int .i64 0, .int .i64 0, .int .i64 0, .int .i64 0, .int .i64 0, .int .i64 0, .int .i64 0, .slice none 0 0] 25
  have D := ((Below.refl w.heap.size w).alloc (Nat.le_refl _) (.cells (x.cells (.slice ta tn tc)).toArray 25)).alloc (by simp) (.cells #[.int .i64 0, .int .i64 0, .int .i64 0, .int .i64 0, .int .i64 0, .int .i64 0, .int .i64 0, .int .i64 0, .slice none 0 0] 25)
  rw [World.size_alloc] at U
  have p8 := V.cell 8 (v := .slice ta tn tc) rfl
  have HU := (show Hid _ from U)
  have HV := (show Hid _ from V)
  have HD := (show Hid _ from D)
  have HT := (show Hid _ from h.step D)
  have HN := (show Hid _ from hno)
  have HL := (show Hid _ from hl)
  clear U V D h hno hl
  go_enter Try.func28, Try.ntmps28
  go_wp2_with fail
  generalize (w.alloc (.cells (x.cells (.slice ta tn tc)).toArray 25)).alloc (.cells #[.int .i64 0, .int .i64 0, .int .i64 0, .int .i64 0, .int .i64 0, .int .i64 0, .int .i64 0, .int .i64 0, .slice none 0 0] 25) = w1 at *
  refine (clone_ok _ x.ts _ HT.out HN.out HL.out).mono ?_
  rintro e w2 ⟨⟨v, rfl, o2⟩, b2⟩
  obtain ⟨a2, n2, c2, rfl⟩ := o2.form
  have V2 := HV.out.step b2
  have U2 := (show Hid _ from HU.out.step b2)
  have c8 := V2.cell 8 (v := .slice ta tn tc) rfl
  have f8 := V2.free 8
  have V3 := (show Hid _ from V2.set 8 (.slice a2 n2 c2))
  have U3 := (show Hid _ from U2.out.set_other (q := w.heap.size) (by omega) 8 (.slice a2 n2 c2))
  have O2 := (show Hid _ from o2)
  have D2 := (show Hid _ from HD.out.trans (b2.mono HD.out.size))
  have l1 : w.heap.size + 1 < w1.heap.size := HU.out.lt
  have l2 := b2.size
  clear V2 U2 HV HU HT b2 o2 p8
  go_wp2_with (first
    | (refine ldA rfl 25 _ rfl w.heap.size (by rfl) (x.cells (.slice a2 n2 c2)) _ V3.out _ Try.underlying25 rfl infoP ?_)
    | (refine stA rfl 25 _ _ rfl (w.heap.size + 1) (by rfl) _ (x.cells (.slice a2 n2 c2)) (by rfl) 25 U3.out infoP rfl (pv_one _ ⟨_, _, _, rfl⟩) ?_; intro w4 V4 U4))
  refine bodyPost_ret (v := .agg (x.cells (.slice a2 n2 c2)).toArray) ?_ rfl ⟨⟨_, rfl, ?_⟩, U4.bel (D2.out.setCell (p := ⟨w.heap.size, 8, none⟩) (Nat.le_refl _) _) (by omega)⟩
  · have hld := run_loadVar_row (P := Try.prog) w4 (w.heap.size + 1) 25 25 _ (0, 0) _ V4.blk Try.underlying25 rfl infoP
    simp [results, Try.results28, asAddr, hld, Act.put]
  · exact ((O2.out.upd (upd_set _ _ _ _) (by omega)).upd U4 (by omega)).lower (by omega)
theorem VA.keep {w w' : World} {B p : Nat} {cs : List Value} {T : TypeId} (h : VA w p cs T) (k : Below B w w') (hp : p < B) : VA w' p cs T := ⟨by rw [k.block p hp]; exact h.blk⟩
theorem OwnT.head1 {w : World} {B : Nat} {v : Value} {ts : List (Int × Int)} {m : Int × Int} (h : OwnT w B v (ts ++ [m])) : ∃ g cap, v = .slice (some ⟨g, 0, none⟩) (ts.length + 1) cap ∧ ts.length + 1 ≤ cap ∧ cap ≤ 9223372036854775807 ∧ B ≤ g := by
  have hl : (ts ++ [m]).length = ts.length + 1 := by simp
  rcases h.own.2 with ⟨rfl, h0⟩ | ⟨g, cap, cur, rfl, hb, hg, hcap, hcm, _⟩
  · omega
  · exact ⟨g, cap, by rw [hl], by omega, by unfold maxLen at hcm; omega, hb⟩
/-- the law's version: tiers of its own with marked room behind -/
structure Of (w : World) (B : Nat) (x : PV) (v : Value) : Prop where
  own : ∃ g cap, v = .slice (some ⟨g, 0, none⟩) x.ts.length cap ∧ x.ts.length + 1 ≤ cap ∧ cap ≤ 9223372036854775807 ∧ B ≤ g ∧ OwnT w B (.slice (some ⟨g, 0, none⟩) (x.ts.length + 1) cap) (x.ts ++ [(77, 0)])
theorem Of.tr {w : World} {B : Nat} {x : PV} {v : Value} (h : Of w B x v) : Tr w v x.ts := by
  obtain ⟨g, cap, rfl, h1, h2, h3, o⟩ := h.own
  exact o.tr.front
theorem Of.step {w w' : World} {B : Nat} {x : PV} {v : Value} (h : Of w B x v) (k : Below w.heap.size w w') : Of w' B x v := by
  obtain ⟨g, cap, e, h1, h2, h3, o⟩ := h.own
  exact ⟨g, cap, e, h1, h2, h3, o.step k⟩
theorem Of.nilcap {w : World} {B : Nat} {x : PV} {v : Value} (h : Of w B x v) : ∀ n c, v = .slice none n c → c = 0 := by
  obtain ⟨g, cap, rfl, _⟩ := h.own
  intro n c e
  cases e
set_option maxHeartbeats 1000000 in
set_option maxRecDepth 100000 in
theorem of_ok (x : PV) (tv : Value) (w : World) (h : Tr w tv x.ts) (hno : ∀ n c, tv = .slice none n c → c = 0) (hl : x.ts.length + 2 ≤ 8796093022208) :
    Calls Try.prog 8 #[.agg (x.cells tv).toArray] w fun e w' => (∃ v, e = .returned (.agg (x.cells v).toArray) ∧ Of w' w.heap.size x v) ∧ Below w.heap.size w w' := by
  obtain ⟨tn, htn⟩ : ∃ tn, tn = x.ts.length := ⟨_, rfl⟩
  obtain ⟨ta, tc, rfl, g1, g2⟩ : ∃ a c, tv = .slice a tn c ∧ tn ≤ c ∧ c ≤ 9223372036854775807 := by obtain ⟨_, a, c, e, h1, h2, _⟩ := h; exact ⟨a, c, by rw [htn]; exact e, by rw [htn]; exact h1, h2⟩
  have HTN := (show Hid _ from htn)
  have V := ((va_new w (x.cells (.slice ta tn tc)) 24).alloc (.cells #[.int .i64 0, .int .i64 0, .int .i64 0, .int .i64 0, .int .i64 0, .int .i64 0, .int .i64 0, .int .i64 0, .slice none 0 0] 25)).alloc (.cells #[] 36)
  have U := (va_new (w.alloc (.cells (x.cells (.slice ta tn tc)).toArray 24)) [.int .i64 0, .int .i64 0, .int .i64 0, .int .i64 0, .int .i64 0, .int .i64 0, .int .i64 0, .int .i64 0, .slice none 0 0] 25).alloc (.cells #[] 36)
  have D := (((Below.refl w.heap.size w).alloc (Nat.le_refl _) (.cells (x.cells (.slice ta tn tc)).toArray 24)).alloc (by simp) (.cells #[.int .i64 0, .int .i64 0, .int .i64 0, .int .i64 0, .int .i64 0, .int .i64 0, .int .i64 0, .int .i64 0, .slice none 0 0] 25)).alloc (by simp; omega) (.cells #[] 36)
  have O := ownT_made ((w.alloc (.cells (x.cells (.slice ta tn tc)).toArray 24)).alloc (.cells #[.int .i64 0, .int .i64 0, .int .i64 0, .int .i64 0, .int .i64 0, .int .i64 0, .int .i64 0, .int .i64 0, .slice none 0 0] 25))
  rw [World.size_alloc] at U
  rw [World.size_alloc, World.size_alloc] at O
  have p8 := V.cell 8 (v := .slice ta tn tc) rfl
  have HU := (show Hid _ from U)
  have HV := (show Hid _ from V)
  have HD := (show Hid _ from D)
  have HO := (show Hid _ from O)
  have HT := (show Hid _ from h.step D)
  have HN := (show Hid _ from hno)
  have HL := (show Hid _ from hl)
  have hs : w.heap.size + 2 < (((w.alloc (.cells (x.cells (.slice ta tn tc)).toArray 24)).alloc (.cells #[.int .i64 0, .int .i64 0, .int .i64 0, .int .i64 0, .int .i64 0, .int .i64 0, .int .i64 0, .int .i64 0, .slice none 0 0] 25)).alloc (.cells #[] 36)).heap.size := by simp
  have HS := (show Hid _ from hs)
  clear U V D O h hno hl htn hs
  have C3 : Hid (∀ w2 : World, ∀ k, k < [((77 : Int), (0 : Int))].length → (w2.alloc (.cells #[.int .i64 77, .int .i64 0] 36)).cell? ⟨w2.heap.size, 0 + 2 * k, none⟩ = some (.int .i64 ([((77 : Int), (0 : Int))].getD k (0, 0)).1) ∧ (w2.alloc (.cells #[.int .i64 77, .int .i64 0] 36)).cell? ⟨w2.heap.size, 0 + 2 * k + 1, none⟩ = some (.int .i64 ([((77 : Int), (0 : Int))].getD k (0, 0)).2)) := by
    intro w2 k hk
    have VT := va_new w2 [.int .i64 77, .int .i64 0] 36
    obtain rfl : k = 0 := by simpa using hk
    exact ⟨VT.cell 0 rfl, VT.cell 1 rfl⟩
  have W3 : Hid (∀ t ∈ [((77 : Int), (0 : Int))], I64 t.1 ∧ I64 t.2) := by
    intro t ht
    simp only [List.mem_cons, List.not_mem_nil, or_false] at ht
    subst ht
    unfold I64
    simp
  go_enter Try.func8, Try.ntmps8
  go_wp2_with (first
    | (at_builtin; refine appTg rfl _ _ rfl (w.heap.size + 1 + 1) x.ts [((77 : Int), (0 : Int))] v2 w2.heap.size 0 1 (by rfl) (by rfl) O3.out W3.out (C3.out w2) S3 (by have := HL.out; simp; omega) ?_; intro v4 w4 o4 b4 g4)
    | (at_builtin; (refine appTr rfl _ _ rfl (w.heap.size + 1 + 1) [] x.ts _ _ (by rfl) (by rfl) HO.out HT.out HN.out (by have := HS.out; omega) (by have := HL.out; simp; omega) ?_; intro v2 w2 o2 b2 g2; rw [List.nil_append] at o2; have O3 := (show Hid _ from o2.step ((Below.refl w2.heap.size w2).alloc (Nat.le_refl _) (.cells #[.int .i64 77, .int .i64 0] 36))); have B2 := (show Hid _ from b2); have S3 : w.heap.size + 1 + 1 ≤ (w2.alloc (.cells #[.int .i64 77, .int .i64 0] 36)).heap.size := (by have := b2.size; have := HS.out; rw [World.size_alloc]; omega); clear o2 b2)))
  obtain ⟨g, cap, rfl, hc1, hc2, hg⟩ := o4.head1
  rw [← HTN.out] at hc1
  rw [← HTN.out]
  have B4 := (show Hid _ from (B2.out.alloc (by have := B2.out.size; have := HS.out; omega) (.cells #[.int .i64 77, .int .i64 0] 36)).trans b4)
  have V4 := HV.out.keep B4.out (by omega)
  have U4 := (show Hid _ from HU.out.keep B4.out (by omega))
  have D4 := (show Hid _ from HD.out.trans (B4.out.mono (by omega)))
  have O4 := (show Hid _ from o4)
  have ll := V4.lt
  have lu := U4.out.lt
  have p0 := V4.cell 0 (v := .int .i64 x.id) rfl
  have p1 := V4.cell 1 (v := .int .i64 x.kind) rfl
  have p2 := V4.cell 2 (v := .int .i64 x.cur) rfl
  have p3 := V4.cell 3 (v := .int .i64 x.day) rfl
  have p4 := V4.cell 4 (v := .int .i64 x.basis) rfl
  have p5 := V4.cell 5 (v := .int .i64 x.mode) rfl
  have p6 := V4.cell 6 (v := .int .i64 x.fee) rfl
  have p7 := V4.cell 7 (v := .int .i64 x.lim) rfl
  have p9 := V4.cell 8 (v := .slice ta tn tc) rfl
  have d1 : tn ≤ cap := by omega
  have HC := (show Hid _ from (And.intro hc1 (And.intro hc2 hg)))
  clear B2 O3 S3 B4 V4 HT HO HV HU p8 g2 g4 b4 o4 HD hc1
  refine wp_region_ext 22 (by kernel_rfl) (by kernel_rfl) ?_
  iterate 22 (refine wpQuiet_step (fun K hK => ?_); go_simp; first | (refine hK _ ?_; clear hK K) | (apply Exists.intro; refine ⟨fun xq => ?_, hK _ ?_⟩; (fail); clear hK K))
  refine wpQuiet_nil ?_
  intro xq
  simp only [List.drop_succ_cons, List.drop_zero]
  
  have BX := below_ext (Below.refl w4.heap.size w4) (Nat.le_refl _) xq
  have UX := (show Hid _ from U4.out.step BX)
  have OX := (show Hid _ from O4.out.step BX)
  have DX := (show Hid _ from below_ext D4.out D4.out.size xq)
  clear BX U4 O4 D4
  go_wp2_with (refine stA rfl 25 _ _ rfl (w.heap.size + 1) (by rfl) _ (x.cells (.slice (some ⟨g, 0, none⟩) tn cap)) (by rfl) 25 UX.out infoP rfl (pv_one _ ⟨_, _, _, rfl⟩) ?_; intro w5 V5 U5)
  have hc := HC.out
  refine bodyPost_ret (v := .agg (x.cells (.slice (some ⟨g, 0, none⟩) tn cap)).toArray) ?_ rfl ⟨⟨_, rfl, ⟨g, cap, by rw [HTN.out], ?_, hc.2.1, by omega, ?_⟩⟩, U5.bel DX.out (by omega)⟩
  · have hld := run_loadVar_row (P := Try.prog) w5 (w.heap.size + 1) 25 25 _ (0, 0) _ V5.blk Try.underlying25 rfl infoP
    simp [results, Try.results8, asAddr, hld, Act.put]
  · have := hc.1
    rw [HTN.out] at this
    exact this
  · exact (OX.out.upd U5 (by omega)).lower (B' := w.heap.size) (by omega)
end Go.Proofs.Ytgbphbeafomabaa
