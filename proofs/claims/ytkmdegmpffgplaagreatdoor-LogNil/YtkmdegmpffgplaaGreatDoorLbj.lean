/- log V: a record is built. -/
import Derived.Test.YtkmdegmpffgplaaGreatDoorLbi
namespace Go.Proofs.YtkmdegmpffgplaaGreatDoor
open Go.RowKit Go.Maps Go.Sort Go.Shelf pk
set_option linter.unusedVariables false
set_option linter.unusedSimpArgs false
set_option maxRecDepth 100000 in
theorem bldR_run (a : Option Addr) (L k : Nat) (xs : List Nat) (w : World) : (Instr.build 77 #[(0, .slice a L k), (1, .agg (lnk xs).toArray)]).run Tryz.prog w = .ok (.agg (rcd a L k xs).toArray) w := by
  kernel_rfl
theorem bldR {w : World} {ops : Array Oper} {rest : List Oper} {o : Oper} {ac : Act} {Q : Exit → Act → World → Prop} (hgd : o.guard = none) (x y : Operand) (ho : o.op = .build 77 #[(0, x), (1, y)])
    (a : Option Addr) (L k : Nat) (xs : List Nat) (hx : ac.eval x = .slice a L k) (hy : ac.eval y = .agg (lnk xs).toArray)
    (h : wpList Tryz.prog ops Q rest (ac.put o.dst (.agg (rcd a L k xs).toArray)) w) : wpList Tryz.prog ops Q (o :: rest) ac w := by
  refine wpList_plain hgd fun K hK' => ?_
  have hrun := bldR_run a L k xs w
  unfold Oper.wp execOp
  simp only [ho, List.map_toArray, List.map_cons, List.map_nil, hx, hy, Sem.run_bind, hrun, Result.andThen_ok, Sem.run_pure]
  exact hK' _ _ h
end Go.Proofs.YtkmdegmpffgplaaGreatDoor
/- log VI: Append. -/
namespace Go.Proofs.YtkmdegmpffgplaaGreatDoor
open Go.RowKit Go.Maps Go.Sort Go.Shelf pk
set_option linter.unusedVariables false
set_option linter.unusedSimpArgs false
/-- the tables of sum lie below the disk -/
def TbB (B : Nat) (w : World) : Prop := ∀ w', Below B w w' → Tb w'
theorem TbB.on {B : Nat} {w w' : World} (h : TbB B w) (k : Below B w w') : TbB B w' := fun w2 k2 => h w2 (k.trans k2)
theorem TbB.tb {B : Nat} {w : World} (h : TbB B w) : Tb w := h w (Below.refl _ _)
theorem tbB_of {w : World} (h : Tb w) (h2 : 2 ≤ w.heap.size) : TbB w.heap.size w := fun w' k => h.step k h2
theorem VA.kl {w w' : World} {q : Nat} {cs : List Value} {T : TypeId} (h : VA w q cs T) (k : Kel w w') (h1 : ¬ Dt T) (h2 : T ≠ 73) : VA w' q cs T := ⟨k.blk _ _ _ _ h.blk h1 h2⟩
theorem wrL_zero {x : AD} {g : LG} {pl xs : List Nat} (h : (wrL x g pl xs).1 = 0) : (wrL x g pl xs).2.2 = { g with high := sgm g } := by
  unfold wrL at h ⊢
  split
  · rename_i h1
    rw [if_pos h1] at h
    exact absurd h h1
  · rename_i h1
    rw [if_neg h1] at h
    split
    · rename_i h2
      rw [if_pos h2] at h
      exact absurd h h2
    · rfl
theorem wrL_some {x : AD} {g : LG} {pl xs : List Nat} (h : (wrL x g pl xs).1 ≠ 0) : (wrL x g pl xs).2.2 = g := by
  unfold wrL at h ⊢
  split
  · rfl
  · rename_i h1
    rw [if_neg h1] at h
    split
    · rfl
    · rename_i h2
      rw [if_neg h2] at h
      exact absurd rfl h
theorem wrL_le (x : AD) (g : LG) (pl xs : List Nat) : (wrL x g pl xs).1 ≤ 18 := by
  unfold wrL
  split
  · exact (apnd_few _ _ _).2.2
  · split
    · exact oper_le _ _
    · exact Nat.zero_le _
theorem ahd_ok {g : LG} (h : g.last.length = 32 ∧ By g.last) : g.ahd.length = 32 ∧ By g.ahd := by
  unfold LG.ahd
  split
  · exact ⟨by simp, fun x hx => by rw [List.eq_of_mem_replicate hx]; omega⟩
  · exact h
set_option maxRecDepth 100000 in
set_option maxHeartbeats 2000000 in
theorem lappend_ok (w : World) (B p m lp : Nat) (x : AD) (g : LG) (h : DA w B p m x) (hg : Lg w lp p g) (hB : B ≤ lp) (ho : g.ok) (hgl : g.last.length = 32 ∧ By g.last) (hend : g.ended = false) (hn1 : 1 ≤ g.next) (hsg : sgm g ≤ 99999999) (hnx : g.next < 4294967296) (hT : PtB B w) (hTb : TbB B w) (v : Value) (pl : List Nat) (hp : Bs w v pl) (hs : SafeL w v) (h0 : 0 < pl.length) (hl : pl.length ≤ 4096) (hops : x.ops ≤ 4611686018427387000) (hlf : x.left ≤ 9223372036854775807) :
    Calls Tryz.prog 9 #[.pointer (some ⟨lp, 0, none⟩), v] w fun r w' => Kel w w' ∧ Below B w w' ∧ DA w' B p m (wrL x g pl (chn g.ahd pl)).2.1 ∧
      (((wrL x g pl (chn g.ahd pl)).1 = 0 ∧ r = .returned (.tuple #[.int .i64 (g.next : Int), .int .i64 0]) ∧ Lg w' lp p { g with high := sgm g, last := chn g.ahd pl, next := g.next + 1 }) ∨
       ((wrL x g pl (chn g.ahd pl)).1 ≠ 0 ∧ r = .returned (.tuple #[.int .i64 0, .int .i64 ((wrL x g pl (chn g.ahd pl)).1 : Nat)]) ∧ Lg w' lp p { g with ended := decide ((wrL x g pl (chn g.ahd pl)).1 = 18) })) := by
  have HA : Hid (DA w B p m x) := h
  have HLT : Hid (B ≤ w.heap.size) := h.lt
  have HG : Hid (Lg w lp p g) := hg
  have HT0 : Hid (PtB B w) := hT
  have HTB : Hid (TbB B w) := hTb
  have HP : Hid (Bs w v pl) := hp
  have HS : Hid (SafeL w v) := hs
  have HH : Hid (0 < pl.length ∧ pl.length ≤ 4096 ∧ 1 ≤ g.next ∧ sgm g ≤ 99999999 ∧ g.next < 4294967296 ∧ x.ops ≤ 4611686018427387000 ∧ x.left ≤ 9223372036854775807) := ⟨h0, hl, hn1, hsg, hnx, hops, hlf⟩
  have HOK : Hid (g.ok ∧ g.ahd.length = 32 ∧ By g.ahd) := ⟨ho, ahd_ok hgl⟩
  obtain ⟨_, a, k, hv, _⟩ := hp
  obtain ⟨L, hL⟩ : ∃ L, L = pl.length := ⟨_, rfl⟩
  rw [← hL] at hv h0 hl
  subst hv
  have HLL := (show Hid _ from hL)
  have y37 := hg.cell 37 (v := .bool g.ended) rfl
  rw [hend] at y37
  have HND := (show Hid _ from hend)
  clear hL h hg hT hTb hs hend ho hgl hn1 hsg hnx hops hlf
  have d0 : ((L : Int) == 0) = false := by simp; omega
  have d1 : ¬ (4096 : Int) < (L : Int) := by omega
  have d2 : ¬ (L : Int) = 0 := by omega
  clear h0 hl
  go_enter Tryz.func9, Tryz.ntmps9
  go_wp2_with fail
  refine (ahead_ok w lp p g HG.out HOK.out.1).mono ?_
  rintro e w1 ⟨rfl, b1⟩
  have HB1 := (show Hid _ from b1)
  clear b1 y37
  go_wp2_with fail
  refine (chainL_ok g.ahd _ pl w1 HOK.out.2.1 HOK.out.2.2 (HP.out.step HB1.out) (by have := HH.out.2.1; omega) (HTB.out w1 (HB1.out.mono HLT.out))).mono ?_
  rintro e w2 ⟨rfl, b2⟩
  have HB2 : Hid (Below w.heap.size w w2) := HB1.out.trans (b2.mono HB1.out.size)
  clear b2 HB1
  generalize hxs : chn g.ahd pl = xs at *
  have HXS : Hid (xs.length = 32 ∧ By xs) := (show xs.length = 32 ∧ By xs by rw [← hxs]; exact ⟨chn_len _ _, chn_by _ _⟩)
  have HXE := (show Hid _ from hxs)
  clear hxs
  have VZ := va_new w2 [.slice none 0 0, .int .u8 0, .int .u8 0, .int .u8 0, .int .u8 0, .int .u8 0, .int .u8 0, .int .u8 0, .int .u8 0, .int .u8 0, .int .u8 0, .int .u8 0, .int .u8 0, .int .u8 0, .int .u8 0, .int .u8 0, .int .u8 0, .int .u8 0, .int .u8 0, .int .u8 0, .int .u8 0, .int .u8 0, .int .u8 0, .int .u8 0, .int .u8 0, .int .u8 0, .int .u8 0, .int .u8 0, .int .u8 0, .int .u8 0, .int .u8 0, .int .u8 0, .int .u8 0] 77
  have HVZ := (show Hid _ from VZ)
  clear VZ
  go_upto_region 10 with (first | (refine bldR rfl _ _ rfl a L k xs (by rfl) (by rfl) ?_) | (refine stA rfl 77 _ _ rfl w2.heap.size (by rfl) _ (rcd a L k xs) (by rfl) _ HVZ.out (info33.trans (by rw [rcd_len])) (by rw [rcd_len]; rfl) (fun u hu => rcd_one hu) ?_; intro w3 R3 U3))
  have HR3 : Hid (VA w3 w2.heap.size (rcd a L k xs) 77) := R3
  have HB3 : Hid (Below w.heap.size w w3) := U3.bel (HB2.out.alloc HB2.out.size _) HB2.out.size
  clear R3 U3 HVZ HB2
  generalize w2.heap.size = q at *
  go_wp2_with (refine ldA rfl 77 _ rfl q (by rfl) _ _ HR3.out _ Tryz.underlying77 rfl (info33.trans (by rw [rcd_len])) ?_)
  refine (lwrite_ok w3 B p m lp x g (HA.out.step HB3.out) (HG.out.step HB3.out) hB HOK.out.1 HH.out.2.2.1 HH.out.2.2.2.1 HH.out.2.2.2.2.1 (HT0.out.on (HB3.out.mono HLT.out)) a L k pl xs (HP.out.step HB3.out) (HS.out.kel (Kee.kel (Kee.bel HB3.out))) HH.out.1 HH.out.2.1 HXS.out.1 HXS.out.2 HH.out.2.2.2.2.2.1 HH.out.2.2.2.2.2.2).mono ?_
  rintro e w4 ⟨rfl, hA4, hL4, hK4, hB4⟩
  have HA4 : Hid (DA w4 B p m (wrL x g pl xs).2.1) := hA4
  have HK4 : Hid (Kel w w4) := (Kee.kel (Kee.bel HB3.out)).trans hK4
  have HB4 : Hid (Below B w w4) := (HB3.out.mono HLT.out).trans hB4
  have HR4 : Hid (VA w4 q (rcd a L k xs) 77) := HR3.out.kl hK4 (by unfold Dt; decide) (by decide)
  have hle := wrL_le x g pl xs
  clear hA4 hK4 hB4 HR3 HB3 HA HG HT0 HTB HP HS
  by_cases hr : (wrL x g pl xs).1 = 0
  · rw [wrL_zero hr] at hL4
    have HR : Hid ((wrL x g pl xs).1 = 0) := hr
    have HL4 : Hid (Lg w4 lp p { g with high := sgm g }) := hL4
    rw [hr]
    clear hL4 hr hle
    have HOK2 : Hid (({ g with high := sgm g } : LG).ok) := ⟨HOK.out.1.per, HOK.out.1.low, (by have := HH.out.2.2.2.1; show sgm g ≤ 100000000; omega), HOK.out.1.next⟩
    go_wp2_with (refine ldA rfl 77 _ rfl q (by rfl) _ _ HR4.out _ Tryz.underlying77 rfl (info33.trans (by rw [rcd_len])) ?_)
    refine (follow_ok w4 lp p B { g with high := sgm g } HL4.out hB HOK2.out a L k xs).mono ?_
    rintro e w5 ⟨⟨u5, rfl⟩, hL5, hK5, hB5, _⟩
    have HL5 : Hid (Lg w5 lp p { g with high := sgm g, last := xs, next := g.next + 1 }) := hL5
    have HK5 : Hid (Kel w w5) := HK4.out.trans hK5.kel
    have HB5 : Hid (Below B w w5) := HB4.out.trans hB5
    have HA5 : Hid (DA w5 B p m (wrL x g pl xs).2.1) := HA4.out.kel hK5
    have y4 := hL5.cell 4 (v := .int .i64 ((g.next + 1 : Nat) : Int)) rfl
    have hnn := HH.out.2.2.2.2.1
    clear hL5 hK5 hB5 HA4 HK4 HB4 HL4 HR4
    generalize hnxe : g.next = nx at *
    have HNX := (show Hid _ from hnxe)
    clear hnxe
    rw [show ((nx + 1 : Nat) : Int) = (nx : Int) + 1 from rfl] at y4
    go_wp2_with fail
    refine bodyPost_ret (v := .tuple #[.int .i64 (nx : Int), .int .i64 0]) (by simp [results, Tryz.results9, go_sem, asAddr]) rfl ?_
    rw [HXE.out]
    have hh := HNX.out
    subst hh
    exact ⟨HK5.out, HB5.out, HA5.out, Or.inl ⟨HR.out, rfl, HL5.out⟩⟩
  · rw [wrL_some hr] at hL4
    have HR : Hid ((wrL x g pl xs).1 ≠ 0) := hr
    have HL4 : Hid (Lg w4 lp p g) := hL4
    have HRE := (show Hid (∃ r, r = (wrL x g pl xs).1) from ⟨_, rfl⟩)
    have y6 := HL4.out.cell 37 (v := .bool g.ended) rfl
    have f6 := HL4.out.free 37
    generalize hrr : (wrL x g pl xs).1 = r at *
    have HRR := (show Hid _ from hrr)
    have dn : ¬ (r : Int) = 0 := by omega
    have db : ((r : Int) == 0) = false := by simp; omega
    have dc : ((r : Int) != 0) = true := by simp; omega
    have HDE : Hid (((r : Int) == 18) = decide (r = 18)) := (show ((r : Int) == 18) = decide (r = 18) by rw [Bool.eq_iff_iff]; simp; omega)
    clear hL4 hr hrr HRE
    go_wp2_with fail
    refine bodyPost_ret (v := .tuple #[.int .i64 0, .int .i64 (r : Int)]) (by simp [results, Tryz.results9, go_sem, asAddr]) rfl ?_
    have U := upd_set w4 lp 37 (.bool ((r : Int) == 18))
    have K := KeL.upd U HL4.out
    have V : Lg (w4.setCell ⟨lp, 37, none⟩ (.bool ((r : Int) == 18))) lp p { g with ended := ((r : Int) == 18) } := HL4.out.set 37 (.bool ((r : Int) == 18))
    rw [HDE.out] at V U K ⊢
    rw [HXE.out]
    have hh := HRR.out
    subst hh
    exact ⟨HK4.out.trans K.kel, U.bel HB4.out hB, HA4.out.kel K, Or.inr ⟨HR.out, rfl, V⟩⟩
end Go.Proofs.YtkmdegmpffgplaaGreatDoor
