/- texts of the model: Ctj Ctk -/
import Derived.Test.YtjkiplndbcmmbaaGreatDoorX28
set_option linter.unusedVariables false
set_option linter.unusedSimpArgs false
set_option maxHeartbeats 16000000
namespace Go.Proofs.YtjkiplndbcmmbaaGreatDoor
open Go.RowKit Go.Maps
def out36 (z : Int) : Bool := decide (M36 < z ∨ z < -M36)
theorem vO (z : Int) : far z 12 M24 = out36 z := by
 unfold far out36
 rw [show M24 * (10 : Int) ^ 12 = M36 by decide]
def rbad (b : Int → Int → Int) (ls : List Ln) : Bool := (accs 32).any (fun a => out36 (b a.1 a.2 + sat ls a.1 a.2))
def perr (b : Int → Int → Int) (ls : List Ln) : Int := if cherr ls ≠ 0 then cherr ls else if rbad b ls then 4 else if bal ls then 0 else 15
def pst (b : Int → Int → Int) (ls : List Ln) : Int → Int → Int := if perr b ls = 0 then fun c u => b c u + sat ls c u else b
def pcnt (b : Int → Int → Int) (ls : List Ln) (n : Int) : Int := if perr b ls = 0 then n + 1 else n
theorem re {ls : List Ln} (h : cherr ls = 0) : (∀ x ∈ ls, x.pl = true ∧ x.ok = true) ∧ ls.length ≤ 16 := by
 unfold cherr at h
 split at h
 ·cases h
 ·split at h
  ·cases h
  ·split at h
   ·cases h
   ·rename_i h1 h2 h3
    simp only [Bool.not_eq_true, List.any_eq_false] at h1 h3
    refine ⟨fun x hx => ⟨?_, ?_⟩, by omega⟩
    ·simpa using h1 x hx
    ·simpa using h3 x hx
theorem sz {b : Int → Int → Int} {ls : List Ln} (h : ∀ c u, Va c u → out36 (b c u + sat ls c u) = false) : rbad b ls = false := by
 unfold rbad
 rw [List.any_eq_false]
 intro a ha
 obtain ⟨i, hi, rfl⟩ := List.mem_map.1 ha
 rw [h _ _ (kJ (List.mem_range.1 hi))]
 simp
theorem kh {b : Int → Int → Int} {ls : List Ln} {c u : Int} (hv : Va c u) (h : out36 (b c u + sat ls c u) = true) : rbad b ls = true := by
 obtain ⟨i, hi, he⟩ := js hv
 refine List.any_eq_true.2 ⟨(c, u), List.mem_of_getElem? (by rw [dJ hi, he]), h⟩
theorem lC {b : Int → Int → Int} {ls : List Ln} (h : cherr ls ≠ 0) : perr b ls = cherr ls := if_pos h
theorem pC {b : Int → Int → Int} {ls : List Ln} (h : cherr ls = 0) (h2 : rbad b ls = true) : perr b ls = 4 := by unfold perr; rw [if_neg (by omega), if_pos h2]
theorem mt {b : Int → Int → Int} {ls : List Ln} (h : cherr ls = 0) (h2 : rbad b ls = false) (h3 : bal ls = false) : perr b ls = 15 := by unfold perr; rw [if_neg (by omega), h2, h3]; rfl
theorem uJ {b : Int → Int → Int} {ls : List Ln} (h : cherr ls = 0) (h2 : rbad b ls = false) (h3 : bal ls = true) : perr b ls = 0 := by unfold perr; rw [if_neg (by omega), h2, h3]; rfl
theorem pD {b : Int → Int → Int} {ls : List Ln} (h : perr b ls = 0) : cherr ls = 0 ∧ rbad b ls = false ∧ bal ls = true := by
 by_cases h1 : cherr ls = 0
 ·cases h2 : rbad b ls
  ·cases h3 : bal ls
   ·rw [mt h1 h2 h3] at h; cases h
   ·exact ⟨h1, rfl, rfl⟩
  ·rw [pC h1 h2] at h; cases h
 ·rw [lC h1] at h; exact absurd h h1
theorem uL {b : Int → Int → Int} {ls : List Ln} (h : perr b ls ≠ 0) : pst b ls = b := if_neg h
theorem sg {b : Int → Int → Int} {ls : List Ln} {n : Int} (h : perr b ls ≠ 0) : pcnt b ls n = n := if_neg h
theorem Led.no {w : World} {p m : Nat} {b : Int → Int → Int} {n : Int} (h : Led w p m b n) {ls : List Ln} (e : perr b ls ≠ 0) : Led w p m (pst b ls) (pcnt b ls n) := by rw [uL e, sg e]; exact h
theorem sw {b : Int → Int → Int} {ls : List Ln} (hb : ∀ c u, Va c u → -M36 ≤ b c u ∧ b c u ≤ M36) : ∀ c u, Va c u → -M36 ≤ pst b ls c u ∧ pst b ls c u ≤ M36 := by
 intro c u hv
 unfold pst
 split
 ·rename_i h
  obtain ⟨_, h2, _⟩ := pD h
  cases e : out36 (b c u + sat ls c u)
  ·have := of_decide_eq_false e
   show -M36 ≤ b c u + sat ls c u ∧ b c u + sat ls c u ≤ M36
   omega
  ·rw [kh hv e] at h2; cases h2
 ·exact hb c u hv
set_option maxRecDepth 100000 in
theorem pH (a : Option Addr) (v : Value) (ls : List Ln) (w : World) (h : Sl LN w v ls) (hwf : ∀ x ∈ ls, x.wf) (Lm : Lim w) (hc : cherr ls ≠ 0) :
  Calls Tryz.prog 140 #[.pointer a, v] w fun e w' => e = .returned (.int .i64 (cherr ls)) ∧ Below w.heap.size w w' := by
 have C0 := ix v ls w h hwf Lm
 have C := hI_ (fun (_ : Unit) => C0)
 clear C0
 have e1 : (cherr ls != 0) = true := by simpa using hc
 clear h hwf Lm
 generalize cherr ls = q at *
 go_enter Tryz.func140, Tryz.ntmps140
 go_wp2_with fail
 refine (C.out ()).mono ?_
 rintro e w1 ⟨rfl, b1⟩
 go_wp2_with fail
 go_ret
 exact ⟨rfl, b1⟩
set_option maxRecDepth 100000 in
theorem nG (p m : Nat) (b : Int → Int → Int) (n : Int) (v : Value) (ls : List Ln) (w : World) (L : Led w p m b n) (h : Sl LN w v ls) (hwf : ∀ x ∈ ls, x.wf) (Lm : Lim w) (hc : cherr ls = 0) (hn : 0 ≤ n ∧ n ≤ 4611686018427387904) :
  Calls Tryz.prog 140 #[.pointer (some ⟨p, 0, none⟩), v] w fun e w' => e = .returned (.int .i64 (perr b ls)) ∧ Led w' p m (pst b ls) (pcnt b ls n) ∧ But (fun i => i = p ∨ i = m) w w' := by
 have C0 := ix v ls w h hwf Lm
 rw [hc] at C0
 obtain ⟨hok, hlen⟩ := re hc
 have C := hI_ (fun (_ : Unit) => C0)
 clear C0
 have HG : Hid (∀ x ∈ ls, x.wf ∧ x.pl = true ∧ x.ok = true) := fun x hx => ⟨hwf x hx, (hok x hx).1, (hok x hx).2⟩
 have HH := hI_ h
 have HL := hI_ L
 have HM := hI_ Lm
 have HLEN := hI_ hlen
 have HC0 := hI_ hc
 have HNN := hI_ hn
 have HPM := hI_ L.ne
 clear h hwf Lm hok hlen hc L
 go_enter Tryz.func140, Tryz.ntmps140
 go_wp2_with fail
 refine (C.out ()).mono ?_
 rintro e w1 ⟨rfl, b1⟩
 have HB1 := hI_ b1
 clear b1 C
 go_wp2_with fail
 refine (nY p m b n v ls w1 (HL.out.step HB1.out) (HH.out.step HB1.out) HG.out HLEN.out).mono ?_
 rintro e w2 ⟨rfl, a2, b2⟩
 obtain ⟨q, hq⟩ : ∃ q, q = w1.heap.size := ⟨_, rfl⟩
 rw [← hq] at a2 ⊢
 have HB2 := hI_ (HB1.out.trans (b2.mono HB1.out.size))
 have HQ : Hid (w.heap.size ≤ q) := by rw [hq]; exact HB1.out.size
 obtain ⟨f, m1, m2, m3⟩ := a2.ex
 have HM1 : Hid (MapF w2 141 q 16 f) := m1
 have HM2 := hI_ m2
 have HM3 := hI_ m3
 clear a2 b2 hq m1 m2 m3 HB1
 go_wp2_with (first | (at_range; refine rgM rfl _ 142 rfl 141 44 keyedA Tryz.underlying142 q 16 f (by rfl) HM1.out ?_; intro w3 left cnt r3 l3 b3) | go_in)
 go_frame
 have hb3 := HB2.out.trans (b3.mono HB2.out.size)
 have R1 : Hid (RanF w3 141 q w2.heap.size 16 f left cnt) := r3
 have HQR : Hid (w.heap.size ≤ w2.heap.size) := HB2.out.size
 have L1 : Hid (∀ c u, Va c u → tch ls c u = true → left (la c u) = false → out36 (b c u + sat ls c u) = false) := fun c u hv ht hf => by
  have h1 := HM2.out c u hv
  rw [ht] at h1
  rw [l3 _ _ hv.key, h1] at hf
  cases hf
 clear r3 l3 b3
 generalize w2.heap.size = r at *
 go_loopw [] (fun wx => ∃ left cnt, Hid (RanF wx 141 q r 16 f left cnt) ∧ Hid (∀ c u, Va c u → tch ls c u = true → left (la c u) = false → out36 (b c u + sat ls c u) = false) ∧ Hid (Below w.heap.size w wx)) (fun wx => wx.rangeLeft q r)
 case atStart => exact ⟨left, cnt, R1.out, L1.out, hb3⟩
 case round =>
  obtain ⟨left, cnt, R, LL, HB⟩ := hrel
  go_wp2_with (at_next; refine nxM rfl _ rfl 141 keyedA q r 16 f left cnt (by rfl) R.out ?_ ?_)
  ·intro hl0
   have hrb : rbad b ls = false := sz (fun c u hv => by
    cases ht : tch ls c u
    ·rw [gX ht, Int.add_zero]
     have := HL.out.rng c u hv
     exact decide_eq_false (by omega)
    ·exact LL.out c u hv ht (hl0 _))
   have HRB := hI_ hrb
   have HA : Hid (AMap wr q 16 (tch ls) (fun c u => b c u + sat ls c u)) := ⟨f, R.out.map, HM2.out, HM3.out⟩
   clear hrb hl0 R LL
   go_wp2_with fail
   refine (jw v ls _ (HH.out.step HB.out) HG.out HLEN.out).mono ?_
   rintro e w4 ⟨rfl, b4⟩
   have HB4 := hI_ (HB.out.trans (b4.mono HB.out.size))
   have HA4 := hI_ (HA.out.step b4)
   have HL4 := hI_ (HL.out.step HB4.out)
   clear b4 HB HA
   cases hb : bal ls
   ·have hp := mt (b := b) HC0.out HRB.out hb
    have HP := hI_ hp
    clear hp hb
    go_wp2_with fail
    go_ret
    exact ⟨by rw [HP.out]; rfl, HL4.out.no (by rw [HP.out]; decide), af HB4.out _⟩
   ·have hp := uJ (b := b) HC0.out HRB.out hb
    have HP := hI_ hp
    clear hp hb
    have c0 := HL4.out.va.cell 0 (v := .map (some m)) rfl
    go_wp2_with fail
    refine (rk m q 16 (tch ls) b (fun c u => b c u + sat ls c u) w4 HL4.out.map HA4.out (fun (e : m = q) => by have := HL.out.map.lt; have := HQ.out; omega)).mono ?_
    rintro e w5 ⟨rfl, a5, u5⟩
    have V5 := HL4.out.va.but u5 (fun e => HPM.out e.symm)
    have HV5 := hI_ V5
    have c1 := V5.cell 1 (v := .int .i64 n) rfl
    have f1 := V5.free 1
    have HA5 := hI_ a5
    have HU5 := hI_ u5
    have hw : IntKind.i64.wrap (n + 1) = n + 1 := by rw [IntKind.wrap_i64]; omega
    clear a5 u5 V5 c0
    go_wp2_with fail
    go_ret
    refine ⟨by rw [HP.out]; rfl, ⟨sw HL.out.rng, ?_, ?_⟩, ?_⟩
    ·unfold pcnt
     rw [if_pos HP.out]
     exact HV5.out.set 1 (.int .i64 (n + 1))
    ·unfold pst
     rw [if_pos HP.out]
     refine (HA5.out.but (ax _ p 1 _).but HPM.out).congr (fun _ _ _ => rfl) (fun c u _ _ => ?_)
     cases ht : tch ls c u
     ·rw [gX ht]; simp
     ·simp
    ·have u1 : But (fun i => i = p ∨ i = m) w w5 := (af HB4.out _).trans HU5.out (fun i _ e => Or.inr e)
     exact u1.trans (ax _ p 1 _).but (fun i _ e => Or.inl e)
  ·intro x c kl w4 cnt4 hkey hlk hc R4 hlt U4 hen
   obtain ⟨x0, x1, hv, rfl⟩ := HM3.out x kl hkey (by rw [hc]; rfl)
   have hxk : x = ka x0 x1 := keyedA.inj hkey hv.key
   subst hxk
   have hT : tch ls x0 x1 = true := by
    have := HM2.out x0 x1 hv
    rw [hc] at this
    cases e : tch ls x0 x1
    ·rw [e] at this; cases this
    ·rfl
   have hcv : c = dv (b x0 x1 + sat ls x0 x1) 12 := by
    have := HM2.out x0 x1 hv
    rw [hc, hT] at this
    simpa using this
   subst hcv
   obtain ⟨z, hz⟩ : ∃ z, z = b x0 x1 + sat ls x0 x1 := ⟨_, rfl⟩
   have hzb : -(2 * M36) ≤ z ∧ z ≤ 2 * M36 := by
    have h1 := HL.out.rng x0 x1 hv
    have h2 := qb (ls := ls) (fun y hy => by have := HG.out y hy; exact ⟨this.1, this.2.2⟩) x0 x1
    have h4 : ((ls.length : Int)) * M32 ≤ 16 * M32 := Int.mul_le_mul_of_nonneg_right (by have := HLEN.out; omega) (by decide)
    rw [hz]
    unfold M36 M32 at *
    omega
   rw [← hz] at hen ⊢
   have HBY : Hid (∀ w : World, Calls Tryz.prog 179 #[.agg #[.int .i64 (dhi z), .int .u64 (dlo z), .int .i64 12], .agg #[.int .i64 54210, .int .u64 2003764205206896640, .int .i64 0]] w fun e w' => e = .returned (.bool (out36 z)) ∧ Below w.heap.size w w') := fun w => by
    have := iu z M24 12 w (gD (by omega)) rG (by decide)
    rw [tX, vO] at this
    exact this
   have HZ := hI_ hz
   have HVA : Hid (Va x0 x1) := hv
   have HMS : Hid (w4.rangeLeft q r = cnt4 ∧ wr.rangeLeft q r = cnt ∧ cnt4 < cnt) := ⟨R4.left_eq, R.out.left_eq, hlt⟩
   have HR4 : Hid (RanF w4 141 q r 16 f (fun z => left z && !z.sameKey (la x0 x1)) cnt4) := R4
   have HB4 := hI_ (HB.out.trans (U4.below HB.out.size (fun i (hi : i = r) => by have := HQR.out; omega)))
   obtain ⟨y0, y1, y2, y3⟩ := (HM.out.step HB4.out).bal
   clear hv hT R4 hlt U4 hc hkey hlk hz hzb
   unfold ka dv at hen
   unfold ka dv
   have z0 : ∀ o : Obj, (w4.alloc o).cell? ⟨2, 0, none⟩ = some (.int .i64 54210) := fun o => (((Below.refl w4.heap.size w4).alloc (Nat.le_refl _) o).cell (p := ⟨2, 0, none⟩) y3).trans y0
   have z1 : ∀ o : Obj, (w4.alloc o).cell? ⟨2, 1, none⟩ = some (.int .u64 2003764205206896640) := fun o => (((Below.refl w4.heap.size w4).alloc (Nat.le_refl _) o).cell (p := ⟨2, 1, none⟩) y3).trans y1
   have z2 : ∀ o : Obj, (w4.alloc o).cell? ⟨2, 2, none⟩ = some (.int .i64 0) := fun o => (((Below.refl w4.heap.size w4).alloc (Nat.le_refl _) o).cell (p := ⟨2, 2, none⟩) y3).trans y2
   go_wp2_with fail
   refine (HBY.out _).mono ?_
   rintro e w5 ⟨rfl, b5⟩
   have b5' := aH b5
   have HR5 : Hid (RanF w5 141 q r 16 f (fun z => left z && !z.sameKey (la x0 x1)) cnt4) := HR4.out.step b5'
   have HB5 := hI_ (HB4.out.trans (b5'.mono HB4.out.size))
   clear b5 b5' HB4 HR4 y0 y1 y2 y3 z0 z1 z2 hen
   cases ho : out36 z
   ·have HO := hI_ ho
    clear ho
    go_wp2_with fail
    refine ⟨⟨_, cnt4, HR5.out, ?_, HB5.out⟩, ?_⟩
    ·intro c u hv ht hf
     simp only [Bool.and_eq_false_iff] at hf
     rcases hf with hf | hf
     ·exact LL.out c u hv ht hf
     ·have : Lit.sameKey (la c u) (la x0 x1) = true := by simpa using hf
      obtain ⟨rfl, rfl⟩ := p5 hv HVA.out (WideAt.sameKey_eq this)
      rw [← HZ.out]
      exact HO.out
    ·rw [HR5.out.left_eq, HMS.out.2.1]
     exact HMS.out.2.2
   ·have hp := pC (b := b) HC0.out (kh HVA.out (by rw [← HZ.out]; exact ho))
    have HP := hI_ hp
    clear hp ho
    go_wp2_with fail
    go_ret
    exact ⟨by rw [HP.out]; rfl, (HL.out.step HB5.out).no (by rw [HP.out]; decide), af HB5.out _⟩
theorem su (p m : Nat) (b : Int → Int → Int) (n : Int) (v : Value) (ls : List Ln) (w : World) (L : Led w p m b n) (h : Sl LN w v ls) (hwf : ∀ x ∈ ls, x.wf) (Lm : Lim w) (hn : 0 ≤ n ∧ n ≤ 4611686018427387904) :
  Calls Tryz.prog 140 #[.pointer (some ⟨p, 0, none⟩), v] w fun e w' => e = .returned (.int .i64 (perr b ls)) ∧ Led w' p m (pst b ls) (pcnt b ls n) ∧ But (fun i => i = p ∨ i = m) w w' := by
 by_cases hc : cherr ls = 0
 ·exact nG p m b n v ls w L h hwf Lm hc hn
 ·refine (pH _ v ls w h hwf Lm hc).mono ?_
  rintro e w' ⟨rfl, b'⟩
  exact ⟨by rw [lC hc], (L.step b').no (by rw [lC hc]; exact hc), af b' _⟩
end Go.Proofs.YtjkiplndbcmmbaaGreatDoor
namespace Go.Proofs.YtjkiplndbcmmbaaGreatDoor
open Go.RowKit Go.Maps
attribute [local go_sem] au ao av aj ag ak aJ aA aB aC aS aT aU aV aW
def lnOf (c u z : Int) : Ln := ⟨c, u, dhi z, dlo z, 12⟩
def trl (b : Int → Int → Int) (n : Nat) : List Ln := ((accs n).filter (fun a => !decide (b a.1 a.2 = 0))).map (fun a => lnOf a.1 a.2 (b a.1 a.2))
theorem mH (b : Int → Int → Int) (n : Nat) : (trl b n).length ≤ n := by
 unfold trl
 rw [List.length_map]
 exact Nat.le_trans (List.length_filter_le _ _) (by rw [dc]; exact Nat.le_refl _)
theorem uV (b : Int → Int → Int) (n : Nat) (h : b (acc n).1 (acc n).2 = 0) : trl b (n + 1) = trl b n := by
 unfold trl
 rw [fv, List.filter_append]
 simp [h]
theorem sN (b : Int → Int → Int) (n : Nat) (h : b (acc n).1 (acc n).2 ≠ 0) : trl b (n + 1) = trl b n ++ [lnOf (acc n).1 (acc n).2 (b (acc n).1 (acc n).2)] := by
 unfold trl
 rw [fv, List.filter_append]
 simp [h]
set_option maxRecDepth 100000 in
theorem qt (p m : Nat) (b : Int → Int → Int) (n : Int) (w : World) (L : Led w p m b n) :
  Calls Tryz.prog 37 #[.pointer (some ⟨p, 0, none⟩)] w fun e w' => (∃ v, e = .returned v ∧ Own LN w' w.heap.size v (trl b 32)) ∧ Below w.heap.size w w' := by
 have HL := hI_ L
 clear L
 go_enter Tryz.func37, Tryz.ntmps37
 go_wp2_with fail
 refine (fN _).mono ?_
 rintro e w1 ⟨⟨v, rfl, o1⟩, b1⟩
 obtain ⟨va, vc, rfl, l1, l2⟩ := o1.form
 rw [dc] at o1 l1 ⊢
 have HO1 := hI_ o1.sl
 have HB1 := hI_ b1
 have HL1 := hI_ (HL.out.step b1)
 clear o1 b1
 go_wp2_with fail
 go_loopw [3, 11] (fun l i wr => ∃ k : Nat, k ≤ 32 ∧ i = .int .i64 (k : Int) ∧ Hid (Own LN wr w1.heap.size l (trl b k)) ∧ Hid (Below w1.heap.size w1 wr)) (fun _ i _ => 32 - (intOf i).toNat)
 case atStart => exact ⟨0, by omega, rfl, ji _ _ _, Below.refl _ _⟩
 case round =>
  obtain ⟨k, hk, rfl, HO, HB⟩ := hrel
  by_cases h32 : k = 32
  ·subst h32
   go_wp2_with fail
   go_ret
   exact ⟨⟨_, rfl, HO.out.lower HB1.out.size⟩, HB1.out.trans (HB.out.mono HB1.out.size)⟩
  have hk' : k < 32 := by omega
  obtain ⟨bb, off, e, hb, hc⟩ := (HO1.out.step HB.out).at k (acc k) (dJ hk')
  cases e
  have hva := kJ hk'
  have HYES := hI_ (sN b k)
  have HNO := hI_ (uV b k)
  generalize hac : acc k = x at *
  obtain ⟨x0, x1⟩ := x
  have c0 : wr.cell? ⟨bb, off + k * 2, none⟩ = some (.int .i64 x0) := hc 0 _ rfl
  have c1 : wr.cell? ⟨bb, off + k * 2 + 1, none⟩ = some (.int .i64 x1) := hc 1 _ rfl
  have HVA : Hid (Va x0 x1) := hva
  clear hc hb hac hva
  have d1 : (0 : Int) ≤ (k : Int) := by omega
  have d2 : (k : Int) < 32 := by omega
  obtain ⟨rng, lva, lmap⟩ := HL1.out.step HB.out
  obtain ⟨g, y1, y2, y3⟩ := lmap.ex
  have hg : g (la x0 x1) = some (dv (b x0 x1) 12) := y2 x0 x1 HVA.out
  have hr := rng x0 x1 HVA.out
  obtain ⟨z, hz⟩ : ∃ z, z = b x0 x1 := ⟨_, rfl⟩
  simp only at HYES HNO
  rw [← hz] at hg hr HYES HNO
  have HGG := hI_ hg
  have HZI : Hid (InR z) := gD (by unfold M36 at *; omega)
  clear rng lmap y2 y3 hg hr hz
  have BA := (Below.refl wr.heap.size wr).alloc (Nat.le_refl _) (.cells #[.int .i64 x0, .int .i64 x1] 141)
  go_upto_region 7 with fail
  have HV5 : Hid (VA (wr.alloc (.cells #[.int .i64 x0, .int .i64 x1] 141)) wr.heap.size [.int .i64 x0, .int .i64 x1] 141) := aa wr [.int .i64 x0, .int .i64 x1] 141
  have HP : Hid (VA (wr.alloc (.cells #[.int .i64 x0, .int .i64 x1] 141)) p [.map (some m), .int .i64 n] 144) := lva.step BA
  have HG : Hid (MapF (wr.alloc (.cells #[.int .i64 x0, .int .i64 x1] 141)) 141 m 32 g) := y1.step BA
  have HO2 := hI_ (HO.out.step BA)
  have HB2 := hI_ (HB.out.trans (BA.mono HB.out.size))
  have HQ5 : Hid (w1.heap.size ≤ wr.heap.size) := HB.out.size
  clear BA c0 c1 y1 lva HO HB
  generalize wr.heap.size = q5 at *
  generalize wr.alloc (.cells #[.int .i64 x0, .int .i64 x1] 141) = w2 at *
  refine wp_region_noPanic ?_
  refine wp_region_held_drew (S := fun w' => VA w' p [.map (some m), .int .i64 n] 144 ∧ VA w' q5 [.int .i64 x0, .int .i64 x1] 141 ∧ MapF w' 141 m 32 g) (by kernel_rfl) ⟨HP.out.drew, HV5.out.drew, HG.out.step (Below.refl _ _).drew⟩ (fun hHeld => ?_)
  refine tK 0 15 (.pointer (some ⟨p, 0, none⟩)) (by exact rfl) (Or.inl ⟨by rfl, ?_⟩) ?_
  ·intro wq hS
   go_simp
  try simp only [nrm]
  refine tK 1 16 (.pointer (some ⟨p, 0, none⟩)) (by exact rfl) (Or.inl ⟨by rfl, ?_⟩) ?_
  ·intro wq hS
   go_simp
  try simp only [nrm]
  refine tK 2 17 (.pointer (some ⟨p, 0, none⟩)) (by exact rfl) (Or.inl ⟨by rfl, ?_⟩) ?_
  ·intro wq hS
   go_simp
  try simp only [nrm]
  refine tK 3 18 (.map (some m)) (by exact rfl) (Or.inl ⟨by rfl, ?_⟩) ?_
  ·intro wq hS
   have e0 := hS.1.cell 0 (v := .map (some m)) rfl
   go_simp
  try simp only [nrm]
  refine tK 4 19 (.agg #[.int .i64 x0, .int .i64 x1]) (by exact rfl) (Or.inl ⟨by rfl, ?_⟩) ?_
  ·intro wq hS
   have e0 := hS.2.1.cell 0 (v := .int .i64 x0) rfl
   have e1 := hS.2.1.cell 1 (v := .int .i64 x1) rfl
   go_simp
  try simp only [nrm]
  refine tK 5 20 (.agg #[.int .i64 (dhi z), .int .u64 (dlo z), .int .i64 12]) (by exact rfl) (Or.inl ⟨by rfl, ?_⟩) ?_
  ·intro wq hS
   have e0 := hS.2.2.look keyedA Tryz.underlying142 (kG wq) HVA.out.key
   rw [HGG.out] at e0
   unfold ka dv at e0
   go_simp
  try simp only [nrm]
  clear hHeld
  refine rdy 6 (fun K hK => ?_)
  go_simp
  have BA := ((Below.refl w2.heap.size w2).alloc (Nat.le_refl _) (.cells #[.int .i64 0, .int .u64 0, .int .i64 0] 44)).drew
  refine hK.out _ _ ⟨HP.out.step BA, HV5.out.step BA, HG.out.step BA⟩ (fun hHeld => ?_)
  clear hK K hHeld
  try simp only [nrm]
  have HV6 : Hid (VA (w2.alloc (.cells #[.int .i64 0, .int .u64 0, .int .i64 0] 44)).drew w2.heap.size [.int .i64 0, .int .u64 0, .int .i64 0] 44) := (aa w2 [.int .i64 0, .int .u64 0, .int .i64 0] 44).drew
  have HU5' := hI_ (HV5.out.step BA)
  have HP' := hI_ (HP.out.step BA)
  have HG' : Hid (MapF (w2.alloc (.cells #[.int .i64 0, .int .u64 0, .int .i64 0] 44)).drew 141 m 32 g) := HG.out.step BA
  have HO3 := hI_ (HO2.out.step BA)
  have HB3 := hI_ (HB2.out.trans (BA.mono HB2.out.size))
  have HQ6 : Hid (w1.heap.size ≤ w2.heap.size ∧ q5 < w2.heap.size) := ⟨HB2.out.size, HV5.out.lt⟩
  have HPQ : Hid (¬ (fun i => i = w2.heap.size) p) := fun (e : p = w2.heap.size) => by have := HP.out.lt; omega
  have HOQ : Hid (∀ gg, Value.ownBlock _ = some gg → ¬ (fun i => i = w2.heap.size) gg) := fun gg hgg (e : gg = w2.heap.size) => by have := HO2.out.lt gg hgg; omega
  clear BA HP HV5 HG HO2 HB2
  generalize w2.heap.size = q6 at *
  generalize (w2.alloc (.cells #[.int .i64 0, .int .u64 0, .int .i64 0] 44)).drew = w3 at *
  refine rdy 7 (fun K hK => ?_)
  refine stD (by rfl) (by rfl) 44 _ _ (by rfl) q6 (by rfl) [.int .i64 0, .int .u64 0, .int .i64 0] [.int .i64 (dhi z), .int .u64 (dlo z), .int .i64 12] (by rfl) 44 HV6.out fx rfl (lY z) ?_
  intro w4 v4 u4
  have U4 := u4.but
  have HU5 := hI_ (HU5'.out.but U4 (fun (e : q5 = q6) => by have := HQ6.out; omega))
  have HU6 := hI_ v4
  have HO4 := hI_ (HO3.out.but U4 HOQ.out)
  have HB4 := hI_ (HB3.out.trans (U4.below HB3.out.size (fun i (hi : i = q6) => by have := HQ6.out; omega)))
  refine hK.out _ _ ⟨HP'.out.but U4 HPQ.out, HU5.out, HG'.out.but U4 (fun e => (HV6.out.notF HG'.out) e.symm)⟩ (fun hHeld => ?_)
  clear hK K hHeld u4 U4 v4 HO3 HB3 HU5' HP' HG' HV6
  refine wpAnyH_done (by kernel_rfl) ?_ _
  refine NoPanic.normal ?_
  go_upto_region 8 with fail
  have c0 := HU6.out.cell 0 (v := .int .i64 (dhi z)) rfl
  have c1 := HU6.out.cell 1 (v := .int .u64 (dlo z)) rfl
  have c2 := HU6.out.cell 2 (v := .int .i64 12) rfl
  have HN := hI_ (fun w => fU z 12 w HZI.out (by decide))
  unfold dv at HN
  go_wp2_with fail
  refine (HN.out _).mono ?_
  rintro e w5 ⟨rfl, b5⟩
  have HO5 := hI_ (HO4.out.step b5)
  have HB5 := hI_ (HB4.out.trans (b5.mono HB4.out.size))
  have V5 := HU5.out.step b5
  have V6 := HU6.out.step b5
  clear b5 HO4 HB4 HU5 HU6 c0 c1 c2
  by_cases hz : z = 0
  ·rw [decide_eq_true hz]
   have HZ := hI_ hz
   clear hz V5 V6
   go_wp2_with fail
   exact ⟨⟨k + 1, by omega, by go_num, by rw [HNO.out HZ.out]; exact HO5.out, HB5.out⟩, by simp [intOf]; omega⟩
  ·rw [decide_eq_false hz]
   have HZ := hI_ hz
   clear hz
   have c0 := V6.cell 0 (v := .int .i64 (dhi z)) rfl
   have c1 := V6.cell 1 (v := .int .u64 (dlo z)) rfl
   have c2 := V6.cell 2 (v := .int .i64 12) rfl
   have k0 := V5.cell 0 (v := .int .i64 x0) rfl
   have k1 := V5.cell 1 (v := .int .i64 x1) rfl
   clear V5 V6
   go_wp2_with (at_builtin; refine nZ (K := LN) rfl _ _ rfl w1.heap.size (trl b k) _ (lnOf x0 x1 z) (by rfl) (by rfl) HO5.out HB5.out.size (by have := mH b k; show ((trl b k).length + 1) * 40 ≤ _; omega) (by have := mH b k; omega) _ rfl ?_; intro v6 w6 o6 b6)
   exact ⟨⟨k + 1, by omega, by go_num, by rw [HYES.out HZ.out]; exact o6, HB5.out.trans b6⟩, by simp [intOf]; omega⟩
end Go.Proofs.YtjkiplndbcmmbaaGreatDoor