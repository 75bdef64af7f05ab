/- prod: which version holds. -/
import Derived.Test.YtgbphbeafomabaaGj
import Derived.Test.YtgbphbeafomabaaGx
namespace Go.Proofs.Ytgbphbeafomabaa
open Go.RowKit Go.Shelf
set_option linter.unusedVariables false
attribute [local go_sem] Oper.semAt_some ext_cell ext_frozen ext_drew ext_of_drew ext_of_drewN ext_setCell ext_lt ext_lt1 ext_lt2 ext_lt3 lt_n2 lt_n3 lt_n4 lt_n5 lt_n6

theorem VA.kept {A B : World} {p : Nat} {cs : List Value} {T : TypeId} {row : Option Nat} (h : VA A p cs T) (hg : A.grownBy B row) (hr : ∀ r, row = some r → ∃ o, A.heap[r]? = some o ∧ o.isCells = false) : VA B p cs T := by
  refine ⟨(hg.block p h.lt (fun e => ?_)).trans h.blk⟩
  obtain ⟨o, ho, hc⟩ := hr p e.symm
  rw [h.blk] at ho
  cases ho
  simp [Obj.isCells] at hc
theorem keeps_below {w w' : World} (h : Below w.heap.size w w') : KeepsOthers w w' := ⟨h.size, fun k o h0 _ => (h.block k (Array.getElem?_eq_some_iff.1 h0).1).trans h0⟩
theorem keeps_upd {w w' : World} {p : Nat} {cs : List Value} {T : TypeId} (h : VA w p cs T) (k : Upd p w w') : KeepsOthers w w' := ⟨by rw [k.size]; exact Nat.le_refl _, fun j o h0 ho => by
  refine (k.block j ?_).trans h0
  rintro rfl
  rw [h.blk] at h0
  cases h0
  simp [Obj.isCells] at ho⟩
/-- all of an array or a struct is stored, within a fence -/
theorem stAIn {F : Fence} {n : Nat} {w : World} {ops : Array Oper} {rest : List Oper} {o : Oper} {a : Act} {Q : Exit → Act → World → Prop} (hgd : o.guard = none) (t : TypeId) (x y : Operand) (ho : o.op = .store t x y)
    (p : Nat) (hx : a.eval x = .pointer (some ⟨p, 0, none⟩)) (cs ds : List Value) (hy : a.eval y = .agg ds.toArray) (T : TypeId) (h : VA w p cs T) (hi : (Try.prog.info? t).map (·.size) = some ds.length) (hl : cs.length = ds.length) (h1 : ∀ v ∈ ds, v.oneCell' = true)
    (k : ∀ w', VA w' p ds T → Upd p w w' → wpListIn F n Try.prog ops Q rest (a.put o.dst undef) w') : wpListIn F n Try.prog ops Q (o :: rest) a w := by
  refine wpListIn_plain hgd fun K hK' => ?_
  have hrun := run_storeVar_row (P := Try.prog) w p T t cs.toArray ds.toArray h.blk (by simpa using hi) (by simpa using hl) (Array.all_eq_true_iff_forall_mem.2 (fun v hv => h1 v (by simpa using hv)))
  unfold Oper.wpIn
  refine ⟨by simp [Oper.about, ho], ?_⟩
  rw [Oper.semAt_plain F _ _ (by rw [ho]; intro c hc'; cases hc')]
  unfold execOp
  simp only [ho, hx, hy, Instr.storeAt, Instr.sureAddr, Sem.run_bind, Sem.run_pure, Result.andThen_ok, hrun]
  exact hK' _ _ (k _ ⟨setRow_heap w p _ _ _ _ h.blk⟩ (upd_setRow w p _))
theorem ldB {w : World} {p : Nat} {b : Bool} (h : VA w p [.bool b] 4) : (loadVar 4 ⟨p, 0, none⟩).run Try.prog w = .ok (.bool b) w := by
  have hc := h.cell 0 (v := .bool b) rfl
  simp [go_sem, hc]
theorem zz_one : ∀ v ∈ ([.int .i64 0, .int .i64 0, .int .i64 0, .int .i64 0, .int .i64 0, .int .i64 0, .int .i64 0, .int .i64 0, .slice none 0 0] : List Value), v.oneCell' = true := pv_one zeroV ⟨_, _, _, rfl⟩
/-- does a key fit? -/
def fits (id day : Int) (k : Int × Int) : Prop := k.1 = id ∧ k.2 ≤ day
instance (id day : Int) (k : Int × Int) : Decidable (fits id day k) := by unfold fits; exact inferInstance
/-- none of these fits -/
def NoFit (id day : Int) (pre : List KE) : Prop := ∀ x ∈ pre, ¬ fits id day x.1.2
theorem NoFit.snoc {id day : Int} {pre : List KE} (h : NoFit id day pre) {x : KE} (hx : ¬ fits id day x.1.2) : NoFit id day (pre ++ [x]) := by
  intro y hy
  rcases List.mem_append.1 hy with hy | hy
  · exact h y hy
  · simp only [List.mem_cons, List.not_mem_nil, or_false] at hy
    subst hy
    exact hx
theorem OwnK.at {w : World} {B : Nat} {sa : Option Addr} {n cap : Nat} {ks : List (Int × Int)} (h : OwnK w B (.slice sa n cap) ks) : n = ks.length ∧ (n ≤ cap ∧ cap ≤ 9223372036854775807) ∧ (0 < n → ∃ b off, sa = some ⟨b, off, none⟩ ∧ b < w.heap.size ∧ ∀ j, j < n → w.cell? ⟨b, off + j * 2, none⟩ = some (.int .i64 (ks.getD j (0, 0)).1) ∧ w.cell? ⟨b, off + j * 2 + 1, none⟩ = some (.int .i64 (ks.getD j (0, 0)).2)) := by
  obtain ⟨_, a, c, e, h1, h2, h3⟩ := h.tr
  cases e
  refine ⟨rfl, ⟨h1, h2⟩, fun h0 => ?_⟩
  obtain ⟨b, off, e, hb, hx⟩ := h3 h0
  exact ⟨b, off, e, hb, fun j hj => by have := hx j hj; rw [Nat.mul_comm 2 j] at this; exact this⟩
set_option maxRecDepth 100000 in
set_option maxHeartbeats 4000000 in
theorem holding_in (n : Nat) (hn : 3 ≤ n) (p bm sn cap N : Nat) (sa : Option Addr) (f : Lit → Option Value) (id day : Int) (ks : List (Int × Int)) (w : World)
    (HV : VA w p [.map (some bm), .slice sa sn cap] 65) (HM : MapF w 67 bm N f) (hsn : sn = ks.length) (hl : sn ≤ 64) (hcap : sn ≤ cap ∧ cap ≤ 9223372036854775807)
    (hc : 0 < sn → ∃ b off, sa = some ⟨b, off, none⟩ ∧ b < w.heap.size ∧ ∀ j, j < sn → w.cell? ⟨b, off + j * 2, none⟩ = some (.int .i64 (ks.getD j (0, 0)).1) ∧ w.cell? ⟨b, off + j * 2 + 1, none⟩ = some (.int .i64 (ks.getD j (0, 0)).2))
    (hwf : KW ks) (hin : ∀ a b, I64 a → I64 b → ∃ cs : List Value, cs.length = 9 ∧ (∀ v ∈ cs, v.oneCell' = true) ∧ (f (kl a b)).getD (.agg #[.int .i64 0, .int .i64 0, .int .i64 0, .int .i64 0, .int .i64 0, .int .i64 0, .int .i64 0, .int .i64 0, .slice none 0 0]) = .agg cs.toArray) :
    CallsIn Fence.wide n Try.prog 30 #[.pointer (some ⟨p, 0, none⟩), .int .i64 id, .int .i64 day] w fun e W' =>
      ((e = .returned (.tuple #[.agg #[.int .i64 0, .int .i64 0, .int .i64 0, .int .i64 0, .int .i64 0, .int .i64 0, .int .i64 0, .int .i64 0, .slice none 0 0], .bool false]) ∧ ∀ k ∈ ks, ¬ fits id day k) ∨ (∃ j cs, j < ks.length ∧ fits id day (ks.getD j (0, 0)) ∧ (∀ i, j < i → i < ks.length → ¬ fits id day (ks.getD i (0, 0))) ∧ (f (kl (ks.getD j (0, 0)).1 (ks.getD j (0, 0)).2)).getD (.agg #[.int .i64 0, .int .i64 0, .int .i64 0, .int .i64 0, .int .i64 0, .int .i64 0, .int .i64 0, .int .i64 0, .slice none 0 0]) = .agg cs ∧ e = .returned (.tuple #[.agg cs, .bool true]))) ∧ Below w.heap.size w W' := by
  have h1 : 1 ≤ n := by omega
  have hF : ∀ f, Fence.wide.fn f := fun _ => trivial
  have hro : Fence.wide.round = none := rfl
  have hz : ∀ w : World, (zeroValue 25).run Try.prog w = .ok (.agg #[.int .i64 0, .int .i64 0, .int .i64 0, .int .i64 0, .int .i64 0, .int .i64 0, .int .i64 0, .int .i64 0, .slice none 0 0]) w := fun _ => by kernel_rfl
  obtain ⟨W0, hW0⟩ : ∃ W0, W0 = (((((w.alloc (.cells #[.pointer (some ⟨p, 0, none⟩)] 40)).alloc (.cells #[.int .i64 id] 2)).alloc (.cells #[.int .i64 day] 3)).alloc (.cells #[.int .i64 0, .int .i64 0, .int .i64 0, .int .i64 0, .int .i64 0, .int .i64 0, .int .i64 0, .int .i64 0, .slice none 0 0] 25)).alloc (.cells #[.bool false] 4)).alloc (.cells #[.slice sa sn cap] 63) := ⟨_, rfl⟩
  have B1 := (Below.refl w.heap.size w).alloc (Nat.le_refl _) (.cells #[.pointer (some ⟨p, 0, none⟩)] 40)
  have B2 := B1.alloc B1.size (.cells #[.int .i64 id] 2)
  have B3 := B2.alloc B2.size (.cells #[.int .i64 day] 3)
  have B4 := B3.alloc B3.size (.cells #[.int .i64 0, .int .i64 0, .int .i64 0, .int .i64 0, .int .i64 0, .int .i64 0, .int .i64 0, .int .i64 0, .slice none 0 0] 25)
  have B5 := B4.alloc B4.size (.cells #[.bool false] 4)
  have B6 := B5.alloc B5.size (.cells #[.slice sa sn cap] 63)
  have c0 := (HV.step B5).cell 0 (v := .map (some bm)) rfl
  have c1 := (HV.step B5).cell 1 (v := .slice sa sn cap) rfl
  have v0 := ((((va_new w [.pointer (some ⟨p, 0, none⟩)] 40).alloc (.cells #[.int .i64 id] 2)).alloc (.cells #[.int .i64 day] 3)).alloc (.cells #[.int .i64 0, .int .i64 0, .int .i64 0, .int .i64 0, .int .i64 0, .int .i64 0, .int .i64 0, .int .i64 0, .slice none 0 0] 25)).alloc (.cells #[.bool false] 4) |>.alloc (.cells #[.slice sa sn cap] 63)
  have v1 := (((va_new (w.alloc (.cells #[.pointer (some ⟨p, 0, none⟩)] 40)) [.int .i64 id] 2).alloc (.cells #[.int .i64 day] 3)).alloc (.cells #[.int .i64 0, .int .i64 0, .int .i64 0, .int .i64 0, .int .i64 0, .int .i64 0, .int .i64 0, .int .i64 0, .slice none 0 0] 25)).alloc (.cells #[.bool false] 4) |>.alloc (.cells #[.slice sa sn cap] 63)
  have v2 := ((va_new ((w.alloc (.cells #[.pointer (some ⟨p, 0, none⟩)] 40)).alloc (.cells #[.int .i64 id] 2)) [.int .i64 day] 3).alloc (.cells #[.int .i64 0, .int .i64 0, .int .i64 0, .int .i64 0, .int .i64 0, .int .i64 0, .int .i64 0, .int .i64 0, .slice none 0 0] 25)).alloc (.cells #[.bool false] 4) |>.alloc (.cells #[.slice sa sn cap] 63)
  have v3 := (va_new (((w.alloc (.cells #[.pointer (some ⟨p, 0, none⟩)] 40)).alloc (.cells #[.int .i64 id] 2)).alloc (.cells #[.int .i64 day] 3)) [.int .i64 0, .int .i64 0, .int .i64 0, .int .i64 0, .int .i64 0, .int .i64 0, .int .i64 0, .int .i64 0, .slice none 0 0] 25).alloc (.cells #[.bool false] 4) |>.alloc (.cells #[.slice sa sn cap] 63)
  have v4 := (va_new ((((w.alloc (.cells #[.pointer (some ⟨p, 0, none⟩)] 40)).alloc (.cells #[.int .i64 id] 2)).alloc (.cells #[.int .i64 day] 3)).alloc (.cells #[.int .i64 0, .int .i64 0, .int .i64 0, .int .i64 0, .int .i64 0, .int .i64 0, .int .i64 0, .int .i64 0, .slice none 0 0] 25)) [.bool false] 4).alloc (.cells #[.slice sa sn cap] 63)
  have v5 := va_new (((((w.alloc (.cells #[.pointer (some ⟨p, 0, none⟩)] 40)).alloc (.cells #[.int .i64 id] 2)).alloc (.cells #[.int .i64 day] 3)).alloc (.cells #[.int .i64 0, .int .i64 0, .int .i64 0, .int .i64 0, .int .i64 0, .int .i64 0, .int .i64 0, .int .i64 0, .slice none 0 0] 25)).alloc (.cells #[.bool false] 4)) [.slice sa sn cap] 63
  simp only [World.size_alloc] at v1 v2 v3 v4 v5
  have hs0 : W0.heap.size = w.heap.size + 1 + 1 + 1 + 1 + 1 + 1 := by rw [hW0]; simp
  rw [← hW0] at v0 v1 v2 v3 v4 v5 B6
  have hs := (show Hid _ from hs0)
  have HSN := (show Hid _ from hsn)
  have HCC := (show Hid _ from hc)
  clear B1 B2 B3 B4 B5 hs0 hsn hc
  refine callsIn_of_wp_marks Try.func30 rfl (hF _) ?_ hro
  simp only [Try.ntmps30, List.size_toArray, List.length_cons, List.length_nil, Nat.reduceAdd, Nat.reduceSub, Array.replicate_succ, Array.replicate_zero, List.push_toArray, List.append_toArray, List.nil_append, List.cons_append]
  gi_wp2_with (gi_at_call 34; refine (back_in Fence.wide (n - 1) (hF _) hro _ _ _ _).mono ?_; rintro e w' ⟨rfl, rfl⟩)
  rw [← hW0]
  clear hW0 c0 c1
  have HC2 : 0 < sn → ∃ b off, sa = some ⟨b, off, none⟩ ∧ b < W0.heap.size ∧ ∀ j, j < sn → W0.cell? ⟨b, off + j * 2, none⟩ = some (.int .i64 (ks.getD j (0, 0)).1) ∧ W0.cell? ⟨b, off + j * 2 + 1, none⟩ = some (.int .i64 (ks.getD j (0, 0)).2) := by
    intro h0
    obtain ⟨b, off, e, hb, hx⟩ := HCC.out h0
    exact ⟨b, off, e, Nat.lt_of_lt_of_le hb B6.size, fun j hj => ⟨(B6.cell (p := ⟨b, off + j * 2, none⟩) hb).trans (hx j hj).1, (B6.cell (p := ⟨b, off + j * 2 + 1, none⟩) hb).trans (hx j hj).2⟩⟩
  refine wpIn_rangeFunc_ownH hro h1 (gf := 37) (lb := #[.pointer (some ⟨w.heap.size + 1 + 1 + 1 + 1 + 1, 0, none⟩)]) rfl (hF _) (enters_of Try.func37 (by kernel_rfl) rfl)
    (back_stops Fence.wide (n - 1) (hF _) hro (by omega) (w.heap.size + 1 + 1 + 1 + 1 + 1) W0.heap.size cap sn sa ks hwf HSN.out hl W0 v5.lt (Nat.le_refl _) (v5.cell 0 rfl) hcap HC2) belowK_t (belowK_b (Nat.le_refl _)) (Below.refl _ _) (fun _ => rfl)
    (fun pre W => (NoFit id day pre ∧ W0.heap.size ≤ W.heap.size ∧ VA W w.heap.size [.pointer (some ⟨p, 0, none⟩)] 40 ∧ VA W (w.heap.size + 1) [.int .i64 id] 2 ∧ VA W (w.heap.size + 1 + 1) [.int .i64 day] 3 ∧ VA W (w.heap.size + 1 + 1 + 1) [.int .i64 0, .int .i64 0, .int .i64 0, .int .i64 0, .int .i64 0, .int .i64 0, .int .i64 0, .int .i64 0, .slice none 0 0] 25 ∧ VA W (w.heap.size + 1 + 1 + 1 + 1) [.bool false] 4) ∧ Below w.heap.size w W)
    (fun c pre W => (c = .ret ∧ ∃ ini last cs, pre = ini ++ [last] ∧ NoFit id day ini ∧ fits id day last.1.2 ∧ cs.length = 9 ∧ (f (kl last.1.2.1 last.1.2.2)).getD (.agg #[.int .i64 0, .int .i64 0, .int .i64 0, .int .i64 0, .int .i64 0, .int .i64 0, .int .i64 0, .int .i64 0, .slice none 0 0]) = .agg cs.toArray ∧ VA W (w.heap.size + 1 + 1 + 1) cs 25 ∧ VA W (w.heap.size + 1 + 1 + 1 + 1) [.bool true] 4) ∧ Below w.heap.size w W)
    (OwnFrom.and (Own.from (fun s A B row hs hg hr => ⟨hs.1, Nat.le_trans hs.2.1 hg.size, hs.2.2.1.kept hg hr, hs.2.2.2.1.kept hg hr, hs.2.2.2.2.1.kept hg hr, hs.2.2.2.2.2.1.kept hg hr, hs.2.2.2.2.2.2.kept hg hr⟩) _) (ownFrom_below (Nat.le_refl _) (by have := hs.out; omega)))
    (fun c => OwnFrom.and (Own.from (fun s A B row hs hg hr => by obtain ⟨hc, ini, last, cs, e1, e2, e3, e4, e5, e6, e7⟩ := hs; exact ⟨hc, ini, last, cs, e1, e2, e3, e4, e5, e6.kept hg hr, e7.kept hg hr⟩) _) (ownFrom_below (Nat.le_refl _) (by have := hs.out; omega)))
    ⟨⟨(fun x hx => (by cases hx)), Nat.le_refl _, v0, v1, v2, v3, v4⟩, B6⟩
    (fun x a' W => ∃ Bx, w.heap.size + 1 + 1 + 1 + 1 + 1 < Bx ∧ VA W Bx [.int .i64 x.1.2.1, .int .i64 x.1.2.2] 67 ∧ a' = { tmps := #[.pointer (some ⟨p, 0, none⟩), .int .i64 id, .int .i64 day, .pointer (some ⟨w.heap.size, 0, none⟩), .pointer (some ⟨w.heap.size + 1, 0, none⟩), .pointer (some ⟨w.heap.size + 1 + 1, 0, none⟩), .pointer (some ⟨w.heap.size + 1 + 1 + 1, 0, none⟩), .pointer (some ⟨w.heap.size + 1 + 1 + 1 + 1, 0, none⟩), undef, .pointer (some ⟨Bx, 0, none⟩), .pointer (some ⟨p, 0, none⟩), .pointer (some ⟨p, 0, none⟩), .pointer (some ⟨p, 1, none⟩), .slice sa sn cap, .func (.func 37) #[] #[.pointer (some ⟨w.heap.size + 1 + 1 + 1 + 1 + 1, 0, none⟩)], .int .i64 x.1.1, .agg #[.int .i64 x.1.2.1, .int .i64 x.1.2.2], undef, undef, undef, undef, undef, undef, undef, undef, undef, undef, undef, undef, undef, undef, undef, undef, undef], defers := [] })
    (fun x a' _ X Y row hs hg hr => by obtain ⟨Bx, h1, h2, h3⟩ := hs; exact ⟨Bx, h1, h2.kept hg (fun r e => (hr r e).2), h3⟩)
    ?assign ?body ?done ?stop
  case assign =>
    rintro l pre x W K ⟨⟨hp, hsz, w0, w1, w2, w3, w4⟩, hB⟩ hK
    obtain ⟨⟨xi, xa, xb⟩, hx1, hx2⟩ := x
    unfold encK
    dsimp only
    gi_wp2
    exact hK _ _ ((KeepsOthers.alloc _ _).from _) ((Below.refl _ W).alloc hsz _) ⟨⟨hp, by simp; omega, w0.alloc _, w1.alloc _, w2.alloc _, w3.alloc _, w4.alloc _⟩, hB.alloc hB.size _⟩ ⟨W.heap.size, by have := hs.out; omega, va_new W _ _, rfl⟩
  case body =>
    rintro l pre x a' W hl' ⟨r, hr⟩ ⟨⟨hp, hsz, w0, w1, w2, w3, w4⟩, hB⟩ ⟨Bx, hBx, bX, rfl⟩ hlt
    obtain ⟨⟨xi, xa, xb⟩, hx1, hx2⟩ := x
    dsimp only at hx1 hx2 bX
    have hM := HM.step hB
    have y0 := w0.cell 0 (v := .pointer (some ⟨p, 0, none⟩)) rfl
    have y1 := w1.cell 0 (v := .int .i64 id) rfl
    have y2 := w2.cell 0 (v := .int .i64 day) rfl
    have yk := bX.cell 0 (v := .int .i64 xa) rfl
    have yd := bX.cell 1 (v := .int .i64 xb) rfl
    have ym := (HV.step hB).cell 0 (v := .map (some bm)) rfl
    obtain ⟨cs, hcs9, hcs1, hcsv⟩ := hin xa xb hx1 hx2
    have hlk := hM.look (t := 62) keyedP Try.underlying62 (hz W) (kl_key hx1 hx2)
    rw [hcsv] at hlk
    have HI := (show Hid _ from And.intro hp (And.intro hsz (And.intro w0 (And.intro w1 (And.intro w2 (And.intro w3 (And.intro w4 hB)))))))
    by_cases t1 : xa = id
    · by_cases t2 : xb ≤ day
      · have e1 : (xa == id) = true := by simpa using t1
        have T1 := (show Hid _ from t1)
        have q0 := w3.cell 0 (v := .int .i64 0) rfl
        have g0 := w4.cell 0 (v := .bool false) rfl
        have gf := w4.free 0
        have F3 := (show Hid _ from w3)
        have F4 := (show Hid _ from w4)
        clear hp w0 w1 w2 w3 w4 hB t1
        have hlw := bX.lt
        have hlp := World.block_lt_of_cell? W _ ym
        have hl0 := World.block_lt_of_cell? W _ y0
        have hlq := F3.out.lt
        have hlg := World.block_lt_of_cell? W _ g0
        have hlk2 : ∀ xq : World, (Instr.lookup 62 (.map (some bm)) (.agg #[.int .i64 xa, .int .i64 xb]) false).run Try.prog (ext W xq) = .ok (.agg cs.toArray) (ext W xq) := by
          intro xq
          have BX := below_ext (Below.refl W.heap.size W) (Nat.le_refl _) xq
          have h2 := (hM.step BX).look (t := 62) keyedP Try.underlying62 (hz _) (kl_key hx1 hx2)
          rw [hcsv] at h2
          exact h2
        clear hM hlk
        gi_wp2
        refine region_round_ext 6 (by kernel_rfl) (by kernel_rfl) (fun h => by obtain ⟨_, _, h⟩ := h; exact h) (by kernel_rfl) ?_
        iterate 6 (refine wpQuiet_step (fun K hK => ?_); go_simp; (refine hK _ ?_; clear hK K))
        refine wpQuiet_nil ?_
        intro xq
        simp only [List.drop_succ_cons, List.drop_zero]
        have BX := (show Hid _ from below_ext (Below.refl W.heap.size W) (Nat.le_refl _) xq)
        have X3 := (show Hid _ from F3.out.step BX.out)
        have X4 := (show Hid _ from F4.out.step BX.out)
        clear F3 F4 q0 g0 gf
        go_wp2_with (refine stA rfl 25 _ _ rfl (w.heap.size + 1 + 1 + 1) (by rfl) _ cs (by rfl) 25 X3.out (infoP.trans (by rw [hcs9])) (by rw [hcs9]; rfl) hcs1 ?_; intro w5 V5 U5; have X5 := X4.out.upd U5 (by omega); have g5 := X5.cell 0 (v := .bool false) rfl; have gf5 := X5.free 0)
        gi_wp2
        obtain ⟨hp, hsz, w0, w1, w2, w3, w4, hB⟩ := HI.out
        have U6 := upd_set w5 (w.heap.size + 1 + 1 + 1 + 1) 0 (.bool true)
        have V6 := V5.upd U6 (by omega)
        have X6 := (X4.out.upd U5 (by omega)).set 0 (.bool true)
        have kk := ((keeps_below BX.out).trans (keeps_upd X3.out U5)).trans (keeps_upd (X4.out.upd U5 (by omega)) U6)
        have bb : Below w.heap.size w (w5.setCell ⟨w.heap.size + 1 + 1 + 1 + 1, 0, none⟩ (.bool true)) := U6.bel (U5.bel (hB.trans (BX.out.mono hB.size)) (by omega)) (by omega)
        exact ⟨kk.from _, ⟨rfl, pre, ⟨(xi, xa, xb), hx1, hx2⟩, cs, rfl, hp, ⟨T1.out, t2⟩, hcs9, hcsv, V6, X6⟩, bb⟩
      · have e1 : (xa == id) = true := by simpa using t1
        have T1 := (show Hid _ from t1)
        clear hp w0 w1 w2 w3 w4 hB t1 hM hlk
        gi_wp2
        obtain ⟨hp, hsz, w0, w1, w2, w3, w4, hB⟩ := HI.out
        exact ⟨KeepsFrom.refl _ _, Below.refl _ _, ⟨hp.snoc (fun h => by have := h.2; dsimp only at this; omega), hsz, w0, w1, w2, w3, w4⟩, hB⟩
    · have e1 : (xa == id) = false := by simpa using t1
      clear hp w0 w1 w2 w3 w4 hB hM hlk
      gi_wp2
      obtain ⟨hp, hsz, w0, w1, w2, w3, w4, hB⟩ := HI.out
      exact ⟨KeepsFrom.refl _ _, Below.refl _ _, ⟨hp.snoc (fun h => t1 h.1), hsz, w0, w1, w2, w3, w4⟩, hB⟩
  case done =>
    rintro D ys W hD rfl ⟨⟨hp, hsz, w0, w1, w2, w3, w4⟩, hB⟩ hK
    have HK := (show Hid _ from hK)
    have F3 := (show Hid _ from w3)
    have F4 := (show Hid _ from w4)
    have FP := (show Hid _ from hp)
    have FB := (show Hid _ from hB)
    clear w0 w1 w2 w3 w4 hp hB hK
    gi_wp2_with (refine stAIn rfl 25 _ _ rfl (w.heap.size + 1 + 1 + 1) (by rfl) _ [.int .i64 0, .int .i64 0, .int .i64 0, .int .i64 0, .int .i64 0, .int .i64 0, .int .i64 0, .int .i64 0, .slice none 0 0] (by rfl) 25 F3.out infoP rfl zz_one ?_; intro w5 V5 U5; have X5 := F4.out.upd U5 (by omega); have g5 := X5.cell 0 (v := .bool false) rfl; have gf5 := X5.free 0)
    have U6 := upd_set w5 (w.heap.size + 1 + 1 + 1 + 1) 0 (.bool false)
    have V6 := V5.upd U6 (by omega)
    have X6 := (F4.out.upd U5 (by omega)).set 0 (.bool false)
    have kk := (keeps_upd F3.out U5).trans (keeps_upd (F4.out.upd U5 (by omega)) U6)
    have hK' := kk.same D _ HK.out rfl
    have bb : Below w.heap.size w (w5.setCell ⟨w.heap.size + 1 + 1 + 1 + 1, 0, none⟩ (.bool false)) := U6.bel (U5.bel FB.out (by omega)) (by omega)
    refine ⟨by simp, .inl ⟨_, _, rfl, run_takeDeferred hK', ?_⟩⟩
    have V7 := V6.kept (grownBy_putObj' _ D (.deferred none)) (fun r e => by cases e; exact ⟨_, hK', rfl⟩)
    have X7 := X6.kept (grownBy_putObj' _ D (.deferred none)) (fun r e => by cases e; exact ⟨_, hK', rfl⟩)
    have hld := run_loadVar_row (P := Try.prog) _ (w.heap.size + 1 + 1 + 1) 25 25 _ (0, 0) _ V7.blk Try.underlying25 rfl infoP
    have hlb := ldB X7
    refine ⟨.tuple #[.agg #[.int .i64 0, .int .i64 0, .int .i64 0, .int .i64 0, .int .i64 0, .int .i64 0, .int .i64 0, .int .i64 0, .slice none 0 0], .bool false], ?_, .inl ⟨rfl, ?_⟩, bb.trans (belowK_b (w := w) (Nat.le_refl _) _ D _ _ (by have := hs.out; omega) hK' rfl rfl)⟩
    · simp [results, Try.results30, asAddr, hld, hlb]
    · intro k hk
      obtain ⟨j, hj, rfl⟩ := List.mem_iff_getElem.1 hk
      have hm : bkS ks hwf (ks.length - 1 - j) ∈ upto (bkS ks hwf) sn := by
        unfold upto
        exact List.mem_map.2 ⟨ks.length - 1 - j, List.mem_range.2 (by have := HSN.out; omega), rfl⟩
      have := FP.out _ hm
      unfold bkS bk at this
      dsimp only at this
      rw [show ks.length - 1 - (ks.length - 1 - j) = j by omega] at this
      simpa [List.getD, hj] using this
  case stop =>
    rintro D c pre W hD ⟨k, hk, rfl⟩ ⟨⟨rfl, ini, last, cs, e1, e2, e3, e4, e5, e6, e7⟩, hB⟩ hK
    gi_wp2
    refine ⟨by simp, .inl ⟨_, _, rfl, run_takeDeferred hK, ?_⟩⟩
    have V7 := e6.kept (grownBy_putObj' _ D (.deferred none)) (fun r e => by cases e; exact ⟨_, hK, rfl⟩)
    have X7 := e7.kept (grownBy_putObj' _ D (.deferred none)) (fun r e => by cases e; exact ⟨_, hK, rfl⟩)
    have hld := run_loadVar_row (P := Try.prog) _ (w.heap.size + 1 + 1 + 1) 25 25 _ (0, 0) _ V7.blk Try.underlying25 rfl (infoP.trans (by rw [List.size_toArray, e4]))
    have hlb := ldB X7
    obtain ⟨k', rfl⟩ : ∃ k', k = k' + 1 := by
      cases k with
      | zero => simp [upto] at e1
      | succ k' => exact ⟨k', rfl⟩
    rw [upto_succ] at e1
    obtain ⟨rfl, e8⟩ := List.append_inj' e1 rfl
    obtain rfl : bkS ks hwf k' = last := by simpa using e8
    have hsn := HSN.out
    refine ⟨.tuple #[.agg cs.toArray, .bool true], ?_, .inr ⟨ks.length - 1 - k', cs.toArray, by omega, e3, ?_, e5, rfl⟩, hB.trans (belowK_b (w := w) (Nat.le_refl _) _ D _ _ (by have := hs.out; omega) hK rfl rfl)⟩
    · simp [results, Try.results30, asAddr, hld, hlb]
    · intro i h1 h2
      have hm : bkS ks hwf (ks.length - 1 - i) ∈ upto (bkS ks hwf) k' := by
        unfold upto
        exact List.mem_map.2 ⟨ks.length - 1 - i, List.mem_range.2 (by omega), rfl⟩
      have := e2 _ hm
      unfold bkS bk at this
      dsimp only at this
      rw [show ks.length - 1 - (ks.length - 1 - i) = i by omega] at this
      exact this
end Go.Proofs.Ytgbphbeafomabaa
