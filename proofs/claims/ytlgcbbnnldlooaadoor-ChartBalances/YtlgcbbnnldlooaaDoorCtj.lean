/- chart: Post. -/
import Derived.Test.YtlgcbbnnldlooaaDoorCti
namespace Go.Proofs.YtlgcbbnnldlooaaDoor
open Go.RowKit Go.Maps
set_option linter.unusedVariables false

def out36 (z : Int) : Bool := decide (M36 < z ∨ z < -M36)
theorem far36 (z : Int) : far z 12 M24 = out36 z := by
  unfold far out36
  rw [show M24 * (10 : Int) ^ 12 = M36 by decide]
/-- would a balance be out of range? -/
def rbad (b : Int → Int → Int) (ls : List Ln) : Bool := (accs 32).any (fun a => out36 (b a.1 a.2 + sat ls a.1 a.2))
def perr (b : Int → Int → Int) (ls : List Ln) : Int := if cherr ls ≠ 0 then cherr ls else if rbad b ls then 4 else if bal ls then 0 else 15
/-- the balances behind an entry -/
def pst (b : Int → Int → Int) (ls : List Ln) : Int → Int → Int := if perr b ls = 0 then fun c u => b c u + sat ls c u else b
def pcnt (b : Int → Int → Int) (ls : List Ln) (n : Int) : Int := if perr b ls = 0 then n + 1 else n
theorem cherr_0 {ls : List Ln} (h : cherr ls = 0) : (∀ x ∈ ls, x.pl = true ∧ x.ok = true) ∧ ls.length ≤ 16 := by
  unfold cherr at h
  split at h
  · cases h
  · split at h
    · cases h
    · split at h
      · cases h
      · rename_i h1 h2 h3
        simp only [Bool.not_eq_true, List.any_eq_false] at h1 h3
        refine ⟨fun x hx => ⟨?_, ?_⟩, by omega⟩
        · simpa using h1 x hx
        · simpa using h3 x hx
theorem rbad_no {b : Int → Int → Int} {ls : List Ln} (h : ∀ c u, Va c u → out36 (b c u + sat ls c u) = false) : rbad b ls = false := by
  unfold rbad
  rw [List.any_eq_false]
  intro a ha
  obtain ⟨i, hi, rfl⟩ := List.mem_map.1 ha
  rw [h _ _ (acc_va (List.mem_range.1 hi))]
  simp
theorem rbad_yes {b : Int → Int → Int} {ls : List Ln} {c u : Int} (hv : Va c u) (h : out36 (b c u + sat ls c u) = true) : rbad b ls = true := by
  obtain ⟨i, hi, he⟩ := va_acc hv
  refine List.any_eq_true.2 ⟨(c, u), List.mem_of_getElem? (by rw [accs_get hi, he]), h⟩
theorem perr_c {b : Int → Int → Int} {ls : List Ln} (h : cherr ls ≠ 0) : perr b ls = cherr ls := if_pos h
theorem perr_4 {b : Int → Int → Int} {ls : List Ln} (h : cherr ls = 0) (h2 : rbad b ls = true) : perr b ls = 4 := by unfold perr; rw [if_neg (by omega), if_pos h2]
theorem perr_15 {b : Int → Int → Int} {ls : List Ln} (h : cherr ls = 0) (h2 : rbad b ls = false) (h3 : bal ls = false) : perr b ls = 15 := by unfold perr; rw [if_neg (by omega), h2, h3]; rfl
theorem perr_0 {b : Int → Int → Int} {ls : List Ln} (h : cherr ls = 0) (h2 : rbad b ls = false) (h3 : bal ls = true) : perr b ls = 0 := by unfold perr; rw [if_neg (by omega), h2, h3]; rfl
theorem perr_inv {b : Int → Int → Int} {ls : List Ln} (h : perr b ls = 0) : cherr ls = 0 ∧ rbad b ls = false ∧ bal ls = true := by
  by_cases h1 : cherr ls = 0
  · cases h2 : rbad b ls
    · cases h3 : bal ls
      · rw [perr_15 h1 h2 h3] at h; cases h
      · exact ⟨h1, rfl, rfl⟩
    · rw [perr_4 h1 h2] at h; cases h
  · rw [perr_c h1] at h; exact absurd h h1
theorem pst_no {b : Int → Int → Int} {ls : List Ln} (h : perr b ls ≠ 0) : pst b ls = b := if_neg h
theorem pcnt_no {b : Int → Int → Int} {ls : List Ln} {n : Int} (h : perr b ls ≠ 0) : pcnt b ls n = n := if_neg h
theorem Led.no {w : World} {p m : Nat} {b : Int → Int → Int} {n : Int} (h : Led w p m b n) {ls : List Ln} (e : perr b ls ≠ 0) : Led w p m (pst b ls) (pcnt b ls n) := by rw [pst_no e, pcnt_no e]; exact h
theorem pst_rng {b : Int → Int → Int} {ls : List Ln} (hb : ∀ c u, Va c u → -M36 ≤ b c u ∧ b c u ≤ M36) : ∀ c u, Va c u → -M36 ≤ pst b ls c u ∧ pst b ls c u ≤ M36 := by
  intro c u hv
  unfold pst
  split
  · rename_i h
    obtain ⟨_, h2, _⟩ := perr_inv h
    cases e : out36 (b c u + sat ls c u)
    · have := of_decide_eq_false e
      show -M36 ≤ b c u + sat ls c u ∧ b c u + sat ls c u ≤ M36
      omega
    · rw [rbad_yes hv e] at h2; cases h2
  · exact hb c u hv
set_option maxHeartbeats 1000000 in
set_option maxRecDepth 100000 in
theorem post_bad (a : Option Addr) (v : Value) (ls : List Ln) (w : World) (h : Sl LN w v ls) (hwf : ∀ x ∈ ls, x.wf) (Lm : Lim w) (hc : cherr ls ≠ 0) :
    Calls Tryd.prog 11 #[.pointer a, v] w fun e w' => e = .returned (.int .i64 (cherr ls)) ∧ Below w.heap.size w w' := by
  have C0 := check_any v ls w h hwf Lm
  have C := (show Hid _ from fun (_ : Unit) => C0)
  clear C0
  have e1 : (cherr ls != 0) = true := by simpa using hc
  clear h hwf Lm
  generalize cherr ls = q at *
  go_enter Tryd.func11, Tryd.ntmps11
  go_wp2_with fail
  refine (C.out ()).mono ?_
  rintro e w1 ⟨rfl, b1⟩
  go_wp2_with fail
  go_ret
  exact ⟨rfl, b1⟩
set_option maxHeartbeats 1000000 in
set_option maxRecDepth 100000 in
theorem post_nil (v : Value) (ls : List Ln) (w : World) (h : Sl LN w v ls) (hwf : ∀ x ∈ ls, x.wf) (Lm : Lim w) (hc : cherr ls = 0) :
    Calls Tryd.prog 11 #[.pointer none, v] w fun e w' => e = .returned (.int .i64 7) ∧ Below w.heap.size w w' := by
  have C0 := check_any v ls w h hwf Lm
  rw [hc] at C0
  have C := (show Hid _ from fun (_ : Unit) => C0)
  clear C0
  clear h hwf Lm
  go_enter Tryd.func11, Tryd.ntmps11
  go_wp2_with fail
  refine (C.out ()).mono ?_
  rintro e w1 ⟨rfl, b1⟩
  go_wp2_with fail
  go_ret
  exact ⟨rfl, b1⟩
set_option maxHeartbeats 4000000 in
set_option maxRecDepth 100000 in
theorem post_good (p m : Nat) (b : Int → Int → Int) (n : Int) (v : Value) (ls : List Ln) (w : World) (L : Led w p m b n) (h : Sl LN w v ls) (hwf : ∀ x ∈ ls, x.wf) (Lm : Lim w) (hc : cherr ls = 0) (hn : 0 ≤ n ∧ n ≤ 4611686018427387904) :
    Calls Tryd.prog 11 #[.pointer (some ⟨p, 0, none⟩), v] w fun e w' => e = .returned (.int .i64 (perr b ls)) ∧ Led w' p m (pst b ls) (pcnt b ls n) ∧ But (fun i => i = p ∨ i = m) w w' := by
  have C0 := check_any v ls w h hwf Lm
  rw [hc] at C0
  obtain ⟨hok, hlen⟩ := cherr_0 hc
  have C := (show Hid _ from fun (_ : Unit) => C0)
  clear C0
  have HG : Hid (∀ x ∈ ls, x.wf ∧ x.pl = true ∧ x.ok = true) := fun x hx => ⟨hwf x hx, (hok x hx).1, (hok x hx).2⟩
  have HH := (show Hid _ from h)
  have HL := (show Hid _ from L)
  have HM := (show Hid _ from Lm)
  have HLEN := (show Hid _ from hlen)
  have HC0 := (show Hid _ from hc)
  have HNN := (show Hid _ from hn)
  have HPM := (show Hid _ from L.ne)
  clear h hwf Lm hok hlen hc L
  go_enter Tryd.func11, Tryd.ntmps11
  go_wp2_with fail
  refine (C.out ()).mono ?_
  rintro e w1 ⟨rfl, b1⟩
  have HB1 := (show Hid _ from b1)
  clear b1 C
  go_wp2_with fail
  refine (after_ok p m b n v ls w1 (HL.out.step HB1.out) (HH.out.step HB1.out) HG.out HLEN.out).mono ?_
  rintro e w2 ⟨rfl, a2, b2⟩
  obtain ⟨q, hq⟩ : ∃ q, q = w1.heap.size := ⟨_, rfl⟩
  rw [← hq] at a2 ⊢
  have HB2 := (show Hid _ from HB1.out.trans (b2.mono HB1.out.size))
  have HQ : Hid (w.heap.size ≤ q) := by rw [hq]; exact HB1.out.size
  obtain ⟨f, m1, m2, m3⟩ := a2.ex
  have HM1 : Hid (MapF w2 64 q 16 f) := m1
  have HM2 := (show Hid _ from m2)
  have HM3 := (show Hid _ from m3)
  clear a2 b2 hq m1 m2 m3 HB1
  go_wp2_with (first | (at_range; refine rgM rfl _ 60 rfl 64 37 keyedA Tryd.underlying60 q 16 f (by rfl) HM1.out ?_; intro w3 left cnt r3 l3 b3) | go_in)
  go_frame
  have hb3 := HB2.out.trans (b3.mono HB2.out.size)
  have R1 : Hid (RanF w3 64 q w2.heap.size 16 f left cnt) := r3
  have HQR : Hid (w.heap.size ≤ w2.heap.size) := HB2.out.size
  have L1 : Hid (∀ c u, Va c u → tch ls c u = true → left (la c u) = false → out36 (b c u + sat ls c u) = false) := fun c u hv ht hf => by
    have h1 := HM2.out c u hv
    rw [ht] at h1
    rw [l3 _ _ hv.key, h1] at hf
    cases hf
  clear r3 l3 b3
  generalize w2.heap.size = r at *
  go_loopw [] (fun wx => ∃ left cnt, Hid (RanF wx 64 q r 16 f left cnt) ∧ Hid (∀ c u, Va c u → tch ls c u = true → left (la c u) = false → out36 (b c u + sat ls c u) = false) ∧ Hid (Below w.heap.size w wx)) (fun wx => wx.rangeLeft q r)
  case atStart => exact ⟨left, cnt, R1.out, L1.out, hb3⟩
  case round =>
    obtain ⟨left, cnt, R, LL, HB⟩ := hrel
    go_wp2_with (at_next; refine nxM rfl _ rfl 64 keyedA q r 16 f left cnt (by rfl) R.out ?_ ?_)
    · intro hl0
      have hrb : rbad b ls = false := rbad_no (fun c u hv => by
        cases ht : tch ls c u
        · rw [sat_none ht, Int.add_zero]
          have := HL.out.rng c u hv
          exact decide_eq_false (by omega)
        · exact LL.out c u hv ht (hl0 _))
      have HRB := (show Hid _ from hrb)
      have HA : Hid (AMap wr q 16 (tch ls) (fun c u => b c u + sat ls c u)) := ⟨f, R.out.map, HM2.out, HM3.out⟩
      clear hrb hl0 R LL
      go_wp2_with fail
      refine (balanced_ok v ls _ (HH.out.step HB.out) HG.out HLEN.out).mono ?_
      rintro e w4 ⟨rfl, b4⟩
      have HB4 := (show Hid _ from HB.out.trans (b4.mono HB.out.size))
      have HA4 := (show Hid _ from HA.out.step b4)
      have HL4 := (show Hid _ from HL.out.step HB4.out)
      clear b4 HB HA
      cases hb : bal ls
      · have hp := perr_15 (b := b) HC0.out HRB.out hb
        have HP := (show Hid _ from hp)
        clear hp hb
        go_wp2_with fail
        go_ret
        exact ⟨by rw [HP.out]; rfl, HL4.out.no (by rw [HP.out]; decide), below_but HB4.out _⟩
      · have hp := perr_0 (b := b) HC0.out HRB.out hb
        have HP := (show Hid _ from hp)
        clear hp hb
        have c0 := HL4.out.va.cell 0 (v := .map (some m)) rfl
        go_wp2_with fail
        refine (copy_ok m q 16 (tch ls) b (fun c u => b c u + sat ls c u) w4 HL4.out.map HA4.out (fun (e : m = q) => by have := HL.out.map.lt; have := HQ.out; omega)).mono ?_
        rintro e w5 ⟨rfl, a5, u5⟩
        have V5 := HL4.out.va.but u5 (fun e => HPM.out e.symm)
        have HV5 := (show Hid _ from V5)
        have c1 := V5.cell 1 (v := .int .i64 n) rfl
        have f1 := V5.free 1
        have HA5 := (show Hid _ from a5)
        have HU5 := (show Hid _ from u5)
        have hw : IntKind.i64.wrap (n + 1) = n + 1 := by rw [IntKind.wrap_i64]; omega
        clear a5 u5 V5 c0
        go_wp2_with fail
        go_ret
        refine ⟨by rw [HP.out]; rfl, ⟨pst_rng HL.out.rng, ?_, ?_⟩, ?_⟩
        · unfold pcnt
          rw [if_pos HP.out]
          exact HV5.out.set 1 (.int .i64 (n + 1))
        · unfold pst
          rw [if_pos HP.out]
          refine (HA5.out.but (upd_set _ p 1 _).but HPM.out).congr (fun _ _ _ => rfl) (fun c u _ _ => ?_)
          cases ht : tch ls c u
          · rw [sat_none ht]; simp
          · simp
        · have u1 : But (fun i => i = p ∨ i = m) w w5 := (below_but HB4.out _).trans HU5.out (fun i _ e => Or.inr e)
          exact u1.trans (upd_set _ p 1 _).but (fun i _ e => Or.inl e)
    · intro x c kl w4 cnt4 hkey hlk hc R4 hlt U4 hen
      obtain ⟨x0, x1, hv, rfl⟩ := HM3.out x kl hkey (by rw [hc]; rfl)
      have hxk : x = ka x0 x1 := keyedA.inj hkey hv.key
      subst hxk
      have hT : tch ls x0 x1 = true := by
        have := HM2.out x0 x1 hv
        rw [hc] at this
        cases e : tch ls x0 x1
        · rw [e] at this; cases this
        · rfl
      have hcv : c = dv (b x0 x1 + sat ls x0 x1) 12 := by
        have := HM2.out x0 x1 hv
        rw [hc, hT] at this
        simpa using this
      subst hcv
      obtain ⟨z, hz⟩ : ∃ z, z = b x0 x1 + sat ls x0 x1 := ⟨_, rfl⟩
      have hzb : -(2 * M36) ≤ z ∧ z ≤ 2 * M36 := by
        have h1 := HL.out.rng x0 x1 hv
        have h2 := sat_bd (ls := ls) (fun y hy => by have := HG.out y hy; exact ⟨this.1, this.2.2⟩) x0 x1
        have h4 : ((ls.length : Int)) * M32 ≤ 16 * M32 := Int.mul_le_mul_of_nonneg_right (by have := HLEN.out; omega) (by decide)
        rw [hz]
        unfold M36 M32 at *
        omega
      rw [← hz] at hen ⊢
      have HBY : Hid (∀ w : World, Calls Tryd.prog 27 #[.agg #[.int .i64 (dhi z), .int .u64 (dlo z), .int .i64 12], .agg #[.int .i64 54210, .int .u64 2003764205206896640, .int .i64 0]] w fun e w' => e = .returned (.bool (out36 z)) ∧ Below w.heap.size w w') := fun w => by
        have := beyond_ok z M24 12 w (inr36 (by omega)) inr_M24 (by decide)
        rw [dv_M24, far36] at this
        exact this
      have HZ := (show Hid _ from hz)
      have HVA : Hid (Va x0 x1) := hv
      have HMS : Hid (w4.rangeLeft q r = cnt4 ∧ wr.rangeLeft q r = cnt ∧ cnt4 < cnt) := ⟨R4.left_eq, R.out.left_eq, hlt⟩
      have HR4 : Hid (RanF w4 64 q r 16 f (fun z => left z && !z.sameKey (la x0 x1)) cnt4) := R4
      have HB4 := (show Hid _ from HB.out.trans (U4.below HB.out.size (fun i (hi : i = r) => by have := HQR.out; omega)))
      obtain ⟨y0, y1, y2, y3⟩ := (HM.out.step HB4.out).bal
      clear hv hT R4 hlt U4 hc hkey hlk hz hzb
      unfold ka dv at hen
      unfold ka dv
      have z0 : ∀ o : Obj, (w4.alloc o).cell? ⟨0, 0, none⟩ = some (.int .i64 54210) := fun o => (((Below.refl w4.heap.size w4).alloc (Nat.le_refl _) o).cell (p := ⟨0, 0, none⟩) y3).trans y0
      have z1 : ∀ o : Obj, (w4.alloc o).cell? ⟨0, 1, none⟩ = some (.int .u64 2003764205206896640) := fun o => (((Below.refl w4.heap.size w4).alloc (Nat.le_refl _) o).cell (p := ⟨0, 1, none⟩) y3).trans y1
      have z2 : ∀ o : Obj, (w4.alloc o).cell? ⟨0, 2, none⟩ = some (.int .i64 0) := fun o => (((Below.refl w4.heap.size w4).alloc (Nat.le_refl _) o).cell (p := ⟨0, 2, none⟩) y3).trans y2
      go_wp2_with fail
      refine (HBY.out _).mono ?_
      rintro e w5 ⟨rfl, b5⟩
      have b5' := below_over b5
      have HR5 : Hid (RanF w5 64 q r 16 f (fun z => left z && !z.sameKey (la x0 x1)) cnt4) := HR4.out.step b5'
      have HB5 := (show Hid _ from HB4.out.trans (b5'.mono HB4.out.size))
      clear b5 b5' HB4 HR4 y0 y1 y2 y3 z0 z1 z2 hen
      cases ho : out36 z
      · have HO := (show Hid _ from ho)
        clear ho
        go_wp2_with fail
        refine ⟨⟨_, cnt4, HR5.out, ?_, HB5.out⟩, ?_⟩
        · intro c u hv ht hf
          simp only [Bool.and_eq_false_iff] at hf
          rcases hf with hf | hf
          · exact LL.out c u hv ht hf
          · have : Lit.sameKey (la c u) (la x0 x1) = true := by simpa using hf
            obtain ⟨rfl, rfl⟩ := la_inj hv HVA.out (WideAt.sameKey_eq this)
            rw [← HZ.out]
            exact HO.out
        · rw [HR5.out.left_eq, HMS.out.2.1]
          exact HMS.out.2.2
      · have hp := perr_4 (b := b) HC0.out (rbad_yes HVA.out (by rw [← HZ.out]; exact ho))
        have HP := (show Hid _ from hp)
        clear hp ho
        go_wp2_with fail
        go_ret
        exact ⟨by rw [HP.out]; rfl, (HL.out.step HB5.out).no (by rw [HP.out]; decide), below_but HB5.out _⟩
theorem post_ok (p m : Nat) (b : Int → Int → Int) (n : Int) (v : Value) (ls : List Ln) (w : World) (L : Led w p m b n) (h : Sl LN w v ls) (hwf : ∀ x ∈ ls, x.wf) (Lm : Lim w) (hn : 0 ≤ n ∧ n ≤ 4611686018427387904) :
    Calls Tryd.prog 11 #[.pointer (some ⟨p, 0, none⟩), v] w fun e w' => e = .returned (.int .i64 (perr b ls)) ∧ Led w' p m (pst b ls) (pcnt b ls n) ∧ But (fun i => i = p ∨ i = m) w w' := by
  by_cases hc : cherr ls = 0
  · exact post_good p m b n v ls w L h hwf Lm hc hn
  · refine (post_bad _ v ls w h hwf Lm hc).mono ?_
    rintro e w' ⟨rfl, b'⟩
    exact ⟨by rw [perr_c hc], (L.step b').no (by rw [perr_c hc]; exact hc), below_but b' _⟩
end Go.Proofs.YtlgcbbnnldlooaaDoor
