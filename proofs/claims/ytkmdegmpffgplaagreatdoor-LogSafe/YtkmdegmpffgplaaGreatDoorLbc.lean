/- log VI: Append. -/
import Derived.Test.YtkmdegmpffgplaaGreatDoorLbb
namespace Go.Proofs.YtkmdegmpffgplaaGreatDoor
open Go.RowKit Go.Maps Go.Sort Go.Shelf pk
set_option linter.unusedVariables false
set_option linter.unusedSimpArgs false
/-- the tables of sum lie below the disk -/
def TbB (B : Nat) (w : World) : Prop := ∀ w', Below B w w' → Tb w'
theorem TbB.on {B : Nat} {w w' : World} (h : TbB B w) (k : Below B w w') : TbB B w' := fun w2 k2 => h w2 (k.trans k2)
theorem TbB.tb {B : Nat} {w : World} (h : TbB B w) : Tb w := h w (Below.refl _ _)
theorem tbB_of {w : World} (h : Tb w) (h2 : 2 ≤ w.heap.size) : TbB w.heap.size w := fun w' k => h.step k h2
theorem VA.kl {w w' : World} {q : Nat} {cs : List Value} {T : TypeId} (h : VA w q cs T) (k : Kel w w') (h1 : ¬ Dt T) (h2 : T ≠ 73) : VA w' q cs T := ⟨k.blk _ _ _ _ h.blk h1 h2⟩
theorem wrL_zero {x : AD} {g : LG} {pl xs : List Nat} (h : (wrL x g pl xs).1 = 0) : (wrL x g pl xs).2.2 = { g with high := sgm g } := by
  unfold wrL at h ⊢
  split
  · rename_i h1
    rw [if_pos h1] at h
    exact absurd h h1
  · rename_i h1
    rw [if_neg h1] at h
    split
    · rename_i h2
      rw [if_pos h2] at h
      exact absurd h h2
    · rfl
theorem wrL_some {x : AD} {g : LG} {pl xs : List Nat} (h : (wrL x g pl xs).1 ≠ 0) : (wrL x g pl xs).2.2 = g := by
  unfold wrL at h ⊢
  split
  · rfl
  · rename_i h1
    rw [if_neg h1] at h
    split
    · rfl
    · rename_i h2
      rw [if_neg h2] at h
      exact absurd rfl h
theorem wrL_le (x : AD) (g : LG) (pl xs : List Nat) : (wrL x g pl xs).1 ≤ 18 := by
  unfold wrL
  split
  · exact (apnd_few _ _ _).2.2
  · split
    · exact oper_le _ _
    · exact Nat.zero_le _
theorem ahd_ok {g : LG} (h : g.last.length = 32 ∧ By g.last) : g.ahd.length = 32 ∧ By g.ahd := by
  unfold LG.ahd
  split
  · exact ⟨by simp, fun x hx => by rw [List.eq_of_mem_replicate hx]; omega⟩
  · exact h
set_option maxRecDepth 100000 in
set_option maxHeartbeats 2000000 in
theorem lappend_ok (w : World) (B p m lp : Nat) (x : AD) (g : LG) (h : DA w B p m x) (hg : Lg w lp p g) (hB : B ≤ lp) (ho : g.ok) (hgl : g.last.length = 32 ∧ By g.last) (hend : g.ended = false) (hn1 : 1 ≤ g.next) (hsg : sgm g ≤ 99999999) (hnx : g.next < 4294967296) (hT : PtB B w) (hTb : TbB B w) (v : Value) (pl : List Nat) (hp : Bs w v pl) (hs : SafeL w v) (h0 : 0 < pl.length) (hl : pl.length ≤ 4096) (hops : x.ops ≤ 4611686018427387000) (hlf : x.left ≤ 9223372036854775807) :
    Calls Tryz.prog 9 #[.pointer (some ⟨lp, 0, none⟩), v] w fun r w' => Kel w w' ∧ Below B w w' ∧ DA w' B p m (wrL x g pl (chn g.ahd pl)).2.1 ∧
      (((wrL x g pl (chn g.ahd pl)).1 = 0 ∧ r = .returned (.tuple #[.int .i64 (g.next : Int), .int .i64 0]) ∧ Lg w' lp p { g with high := sgm g, last := chn g.ahd pl, next := g.next + 1 }) ∨
       ((wrL x g pl (chn g.ahd pl)).1 ≠ 0 ∧ r = .returned (.tuple #[.int .i64 0, .int .i64 ((wrL x g pl (chn g.ahd pl)).1 : Nat)]) ∧ Lg w' lp p { g with ended := decide ((wrL x g pl (chn g.ahd pl)).1 = 18) })) := by
  have HA : Hid (DA w B p m x) := h
  have HLT : Hid (B ≤ w.heap.size) := h.lt
  have HG : Hid (Lg w lp p g) := hg
  have HT0 : Hid (PtB B w) := hT
  have HTB : Hid (TbB B w) := hTb
  have HP : Hid (Bs w v pl) := hp
  have HS : Hid (SafeL w v) := hs
  have HH : Hid (0 < pl.length ∧ pl.length ≤ 4096 ∧ 1 ≤ g.next ∧ sgm g ≤ 99999999 ∧ g.next < 4294967296 ∧ x.ops ≤ 4611686018427387000 ∧ x.left ≤ 9223372036854775807) := ⟨h0, hl, hn1, hsg, hnx, hops, hlf⟩
  have HOK : Hid (g.ok ∧ g.ahd.length = 32 ∧ By g.ahd) := ⟨ho, ahd_ok hgl⟩
  obtain ⟨_, a, k, hv, _⟩ := hp
  obtain ⟨L, hL⟩ : ∃ L, L = pl.length := ⟨_, rfl⟩
  rw [← hL] at hv h0 hl
  subst hv
  have HLL := (show Hid _ from hL)
  have y37 := hg.cell 37 (v := .bool g.ended) rfl
  rw [hend] at y37
  have HND := (show Hid _ from hend)
  clear hL h hg hT hTb hs hend ho hgl hn1 hsg hnx hops hlf
  have d0 : ((L : Int) == 0) = false := by simp; omega
  have d1 : ¬ (4096 : Int) < (L : Int) := by omega
  have d2 : ¬ (L : Int) = 0 := by omega
  clear h0 hl
  go_enter Tryz.func9, Tryz.ntmps9
  go_wp2_with fail
  refine (ahead_ok w lp p g HG.out HOK.out.1).mono ?_
  rintro e w1 ⟨rfl, b1⟩
  have HB1 := (show Hid _ from b1)
  clear b1 y37
  go_wp2_with fail
  refine (chainL_ok g.ahd _ pl w1 HOK.out.2.1 HOK.out.2.2 (HP.out.step HB1.out) (by have := HH.out.2.1; omega) (HTB.out w1 (HB1.out.mono HLT.out))).mono ?_
  rintro e w2 ⟨rfl, b2⟩
  have HB2 : Hid (Below w.heap.size w w2) := HB1.out.trans (b2.mono HB1.out.size)
  clear b2 HB1
  generalize hxs : chn g.ahd pl = xs at *
  have HXS : Hid (xs.length = 32 ∧ By xs) := (show xs.length = 32 ∧ By xs by rw [← hxs]; exact ⟨chn_len _ _, chn_by _ _⟩)
  have HXE := (show Hid _ from hxs)
  clear hxs
  have VZ := va_new w2 [.slice none 0 0, .int .u8 0, .int .u8 0, .int .u8 0, .int .u8 0, .int .u8 0, .int .u8 0, .int .u8 0, .int .u8 0, .int .u8 0, .int .u8 0, .int .u8 0, .int .u8 0, .int .u8 0, .int .u8 0, .int .u8 0, .int .u8 0, .int .u8 0, .int .u8 0, .int .u8 0, .int .u8 0, .int .u8 0, .int .u8 0, .int .u8 0, .int .u8 0, .int .u8 0, .int .u8 0, .int .u8 0, .int .u8 0, .int .u8 0, .int .u8 0, .int .u8 0, .int .u8 0] 77
  have HVZ := (show Hid _ from VZ)
  clear VZ
  go_upto_region 10 with (first | (refine bldR rfl _ _ rfl a L k xs (by rfl) (by rfl) ?_) | (refine stA rfl 77 _ _ rfl w2.heap.size (by rfl) _ (rcd a L k xs) (by rfl) _ HVZ.out (info33.trans (by rw [rcd_len])) (by rw [rcd_len]; rfl) (fun u hu => rcd_one hu) ?_; intro w3 R3 U3))
  have HR3 : Hid (VA w3 w2.heap.size (rcd a L k xs) 77) := R3
  have HB3 : Hid (Below w.heap.size w w3) := U3.bel (HB2.out.alloc HB2.out.size _) HB2.out.size
  clear R3 U3 HVZ HB2
  generalize w2.heap.size = q at *
  go_wp2_with (refine ldA rfl 77 _ rfl q (by rfl) _ _ HR3.out _ Tryz.underlying77 rfl (info33.trans (by rw [rcd_len])) ?_)
  refine (lwrite_ok w3 B p m lp x g (HA.out.step HB3.out) (HG.out.step HB3.out) hB HOK.out.1 HH.out.2.2.1 HH.out.2.2.2.1 HH.out.2.2.2.2.1 (HT0.out.on (HB3.out.mono HLT.out)) a L k pl xs (HP.out.step HB3.out) (HS.out.kel (Kee.kel (Kee.bel HB3.out))) HH.out.1 HH.out.2.1 HXS.out.1 HXS.out.2 HH.out.2.2.2.2.2.1 HH.out.2.2.2.2.2.2).mono ?_
  rintro e w4 ⟨rfl, hA4, hL4, hK4, hB4⟩
  have HA4 : Hid (DA w4 B p m (wrL x g pl xs).2.1) := hA4
  have HK4 : Hid (Kel w w4) := (Kee.kel (Kee.bel HB3.out)).trans hK4
  have HB4 : Hid (Below B w w4) := (HB3.out.mono HLT.out).trans hB4
  have HR4 : Hid (VA w4 q (rcd a L k xs) 77) := HR3.out.kl hK4 (by unfold Dt; decide) (by decide)
  have hle := wrL_le x g pl xs
  clear hA4 hK4 hB4 HR3 HB3 HA HG HT0 HTB HP HS
  by_cases hr : (wrL x g pl xs).1 = 0
  · rw [wrL_zero hr] at hL4
    have HR : Hid ((wrL x g pl xs).1 = 0) := hr
    have HL4 : Hid (Lg w4 lp p { g with high := sgm g }) := hL4
    rw [hr]
    clear hL4 hr hle
    have HOK2 : Hid (({ g with high := sgm g } : LG).ok) := ⟨HOK.out.1.per, HOK.out.1.low, (by have := HH.out.2.2.2.1; show sgm g ≤ 100000000; omega), HOK.out.1.next⟩
    go_wp2_with (refine ldA rfl 77 _ rfl q (by rfl) _ _ HR4.out _ Tryz.underlying77 rfl (info33.trans (by rw [rcd_len])) ?_)
    refine (follow_ok w4 lp p B { g with high := sgm g } HL4.out hB HOK2.out a L k xs).mono ?_
    rintro e w5 ⟨⟨u5, rfl⟩, hL5, hK5, hB5, _⟩
    have HL5 : Hid (Lg w5 lp p { g with high := sgm g, last := xs, next := g.next + 1 }) := hL5
    have HK5 : Hid (Kel w w5) := HK4.out.trans hK5.kel
    have HB5 : Hid (Below B w w5) := HB4.out.trans hB5
    have HA5 : Hid (DA w5 B p m (wrL x g pl xs).2.1) := HA4.out.kel hK5
    have y4 := hL5.cell 4 (v := .int .i64 ((g.next + 1 : Nat) : Int)) rfl
    have hnn := HH.out.2.2.2.2.1
    clear hL5 hK5 hB5 HA4 HK4 HB4 HL4 HR4
    generalize hnxe : g.next = nx at *
    have HNX := (show Hid _ from hnxe)
    clear hnxe
    rw [show ((nx + 1 : Nat) : Int) = (nx : Int) + 1 from rfl] at y4
    go_wp2_with fail
    refine bodyPost_ret (v := .tuple #[.int .i64 (nx : Int), .int .i64 0]) (by simp [results, Tryz.results9, go_sem, asAddr]) rfl ?_
    rw [HXE.out]
    have hh := HNX.out
    subst hh
    exact ⟨HK5.out, HB5.out, HA5.out, Or.inl ⟨HR.out, rfl, HL5.out⟩⟩
  · rw [wrL_some hr] at hL4
    have HR : Hid ((wrL x g pl xs).1 ≠ 0) := hr
    have HL4 : Hid (Lg w4 lp p g) := hL4
    have HRE := (show Hid (∃ r, r = (wrL x g pl xs).1) from ⟨_, rfl⟩)
    have y6 := HL4.out.cell 37 (v := .bool g.ended) rfl
    have f6 := HL4.out.free 37
    generalize hrr : (wrL x g pl xs).1 = r at *
    have HRR := (show Hid _ from hrr)
    have dn : ¬ (r : Int) = 0 := by omega
    have db : ((r : Int) == 0) = false := by simp; omega
    have dc : ((r : Int) != 0) = true := by simp; omega
    have HDE : Hid (((r : Int) == 18) = decide (r = 18)) := (show ((r : Int) == 18) = decide (r = 18) by rw [Bool.eq_iff_iff]; simp; omega)
    clear hL4 hr hrr HRE
    go_wp2_with fail
    refine bodyPost_ret (v := .tuple #[.int .i64 0, .int .i64 (r : Int)]) (by simp [results, Tryz.results9, go_sem, asAddr]) rfl ?_
    have U := upd_set w4 lp 37 (.bool ((r : Int) == 18))
    have K := KeL.upd U HL4.out
    have V : Lg (w4.setCell ⟨lp, 37, none⟩ (.bool ((r : Int) == 18))) lp p { g with ended := ((r : Int) == 18) } := HL4.out.set 37 (.bool ((r : Int) == 18))
    rw [HDE.out] at V U K ⊢
    rw [HXE.out]
    have hh := HRR.out
    subst hh
    exact ⟨HK4.out.trans K.kel, U.bel HB4.out hB, HA4.out.kel K, Or.inr ⟨HR.out, rfl, V⟩⟩
end Go.Proofs.YtkmdegmpffgplaaGreatDoor
/- log VII: readFirst of a record that is there. -/
namespace Go.Proofs.YtkmdegmpffgplaaGreatDoor
open Go.RowKit Go.Maps Go.Sort Go.Shelf pk
set_option linter.unusedVariables false
set_option linter.unusedSimpArgs false
/-- the bytes lie in a block of bytes -/
def SafeU (w : World) (v : Value) : Prop := ∀ b off n c, v = .slice (some ⟨b, off, none⟩) n c → ∃ cs z, w.heap[b]? = some (Obj.cells cs 5 z)
theorem SafeU.l {w : World} {v : Value} (h : SafeU w v) : SafeL w v := fun b off n c e => by
  obtain ⟨cs, z, h1⟩ := h b off n c e
  exact ⟨cs, _, z, h1, by unfold Dt; decide, by decide⟩
theorem SafeU.kel {w w' : World} {v : Value} (h : SafeU w v) (k : Kel w w') : SafeU w' v := fun b off n c e => by
  obtain ⟨cs, z, h1⟩ := h b off n c e
  exact ⟨cs, z, k.blk _ _ _ _ h1 (by unfold Dt; decide) (by decide)⟩
theorem pk.OwnB.safeU {w : World} {B : Nat} {v : Value} {bs : List Nat} (h : OwnB w B v bs) : SafeU w v := fun b off n c e => by
  rcases h.own.2 with ⟨e2, _⟩ | ⟨q, cap, cur, e2, _, hq, _⟩
  · rw [e2] at e; cases e
  · rw [e2] at e
    cases e
    exact ⟨_, _, hq⟩
theorem bs_tail {w : World} {b off n c : Nat} {bs : List Nat} (h : Bs w (.slice (some ⟨b, off, none⟩) n c) bs) (k : Nat) (hk : k ≤ bs.length) : Bs w (.slice (some ⟨b, off + k, none⟩) (n - k) (c - k)) (bs.drop k) := by
  obtain ⟨hby, a, c', e, h1, h2, h3, h4⟩ := h
  cases e
  refine ⟨hby.drop k, some ⟨b, off + k, none⟩, c - k, by rw [List.length_drop], by rw [List.length_drop]; omega, by omega, fun e => (by cases e), fun h0 => ?_⟩
  rw [List.length_drop] at h0
  obtain ⟨b', off', e', hb, hx⟩ := h4 (by omega)
  cases e'
  refine ⟨b, off + k, rfl, hb, fun j hj => ?_⟩
  rw [List.length_drop] at hj
  rw [Nat.add_assoc, hx (k + j) (by omega), bt_drop]
set_option maxRecDepth 100000 in
theorem bldR1_run (a : Option Addr) (L k : Nat) (w : World) : (Instr.build 77 #[(0, .slice a L k)]).run Tryz.prog w = .ok (.agg (rcd a L k (List.replicate 32 0)).toArray) w := by
  kernel_rfl
theorem bldR1 {w : World} {ops : Array Oper} {rest : List Oper} {o : Oper} {ac : Act} {Q : Exit → Act → World → Prop} (hgd : o.guard = none) (x : Operand) (ho : o.op = .build 77 #[(0, x)])
    (a : Option Addr) (L k : Nat) (hx : ac.eval x = .slice a L k)
    (h : wpList Tryz.prog ops Q rest (ac.put o.dst (.agg (rcd a L k (List.replicate 32 0)).toArray)) w) : wpList Tryz.prog ops Q (o :: rest) ac w := by
  refine wpList_plain hgd fun K hK' => ?_
  have hrun := bldR1_run a L k w
  unfold Oper.wp execOp
  simp only [ho, List.map_toArray, List.map_cons, List.map_nil, hx, Sem.run_bind, hrun, Result.andThen_ok, Sem.run_pure]
  exact hK' _ _ h
theorem eq4 (x0 x1 x2 x3 : Int) (w : World) : (Op.equalIn 10000 149 (.agg #[.int .u8 x0, .int .u8 x1, .int .u8 x2, .int .u8 x3]) (.agg #[.int .u8 x0, .int .u8 x1, .int .u8 x2, .int .u8 x3])).run Tryz.prog w = .ok true w := by
  obtain ⟨i, hi⟩ : ∃ i, Tryz.prog.info? 5 = some i := Option.isSome_iff_exists.1 (by kernel_rfl)
  rw [show (10000 : Nat) = 9999 + 1 from rfl, run_equalIn_array (P := Tryz.prog) w 9999 _ _ Tryz.underlying149 hi]
  have hc : Tryz.prog.cellsOf 5 = 1 := by kernel_rfl
  rw [hc]
  simp [List.range, List.range.loop, Op.eqItems, go_sem]
theorem lnk_get (xs : List Nat) (i : Nat) (h : i < 32) : (lnk xs)[i]? = some (.int .u8 (bt xs i)) := by simp [lnk, h]
theorem eq_itemsL (xs : List Nat) (w : World) : ∀ is : List Nat, (∀ i ∈ is, i < 32) → (Op.eqItems 9999 5 1 (lnk xs).toArray (lnk xs).toArray is).run Tryz.prog w = .ok true w
  | [], _ => by simp [Op.eqItems, go_sem]
  | i :: is, h => by
    have hi := h i (by simp)
    have ih := eq_itemsL xs w is (fun j hj => h j (by simp [hj]))
    have hg := lnk_get xs i hi
    simp [Op.eqItems, go_sem, hg, ih]
theorem eqLnk (xs : List Nat) (w : World) : (Op.equalIn 10000 71 (.agg (lnk xs).toArray) (.agg (lnk xs).toArray)).run Tryz.prog w = .ok true w := by
  obtain ⟨i, hi⟩ : ∃ i, Tryz.prog.info? 5 = some i := Option.isSome_iff_exists.1 (by kernel_rfl)
  rw [show (10000 : Nat) = 9999 + 1 from rfl, run_equalIn_array (P := Tryz.prog) w 9999 _ _ Tryz.underlying71 hi]
  have hc : Tryz.prog.cellsOf 5 = 1 := by kernel_rfl
  rw [hc]
  exact eq_itemsL xs w _ (fun j hj => by have := List.mem_range.1 hj; omega)
/-- copy of the front of bytes into a row known whole -/
theorem cpRunT {w : World} {rT : TypeId} {g o dL dC : Nat} {b off n c : Nat} {bs : List Nat} (hu : Bs w (.slice (some ⟨b, off, none⟩) n c) bs) (hL : dL ≤ bs.length) (h0 : 0 < bs.length) {cs : List Value} {T : TypeId} (V : VA w g cs T) (hf : o + dL ≤ cs.length) :
    ∃ w', (Builtin.copy_ #[22, 22] rT #[.slice (some ⟨g, o, none⟩) dL dC, .slice (some ⟨b, off, none⟩) n c]).run Tryz.prog w = .ok (.int .i64 (dL : Int)) w' ∧ VA w' g (cs.take o ++ cl (bs.take dL) ++ cs.drop (o + dL)) T ∧ Upd g w w' := by
  obtain ⟨i0, hi, hz0, hz1, hz2⟩ := info8_parts
  obtain ⟨hby, ad, c', e, h1, h2, h3, h4⟩ := hu
  cases e
  obtain ⟨b', off', e', hb, hx⟩ := h4 h0
  cases e'
  have htl : (bs.take dL).length = dL := by rw [List.length_take]; omega
  have hr := run_copy_row (P := Tryz.prog) w 22 22 rT 5 g o dL dC ⟨b, off, none⟩ bs.length c cs.toArray T (cl (bs.take dL)) Tryz.underlying22 (by rw [hi]; simp [hz1]) V.blk (by rw [cl_len, htl]; exact (Nat.min_eq_right hL).symm) (fun j v hv => by
    have hj : j < dL := by have := (List.getElem?_eq_some_iff.1 hv).1; rwa [cl_len, htl] at this
    rw [Go.WideShapes.add_plain, hx j (by omega)]
    rw [cl_get _ j (by rw [htl]; exact hj), bt_take _ _ _ hj] at hv
    exact hv) (by rw [cl_len, htl]; simpa using hf) (fun v hv => cl_one hv)
  rw [cl_len, htl] at hr
  refine ⟨_, hr, ⟨?_⟩, upd_setRow w g _⟩
  rw [setRow_heap w g _ _ _ _ V.blk]
theorem bs_upd {w w' : World} {q b off n c : Nat} {bs : List Nat} (h : Bs w (.slice (some ⟨b, off, none⟩) n c) bs) (k : Upd q w w') (hb : b ≠ q) : Bs w' (.slice (some ⟨b, off, none⟩) n c) bs := by
  obtain ⟨hby, a', c', e, h1, h2, h3, h4⟩ := h
  cases e
  refine ⟨hby, _, _, rfl, h1, h2, h3, fun h0 => ?_⟩
  obtain ⟨b', off', e', hlt, hx⟩ := h4 h0
  cases e'
  refine ⟨b, off, rfl, by rw [k.size]; exact hlt, fun j hj => ?_⟩
  rw [← hx j hj]
  unfold World.cell?
  rw [k.block b hb]
theorem safeU_upd {w w' : World} {q b off n c : Nat} (h : SafeU w (.slice (some ⟨b, off, none⟩) n c)) (k : Upd q w w') (hb : b ≠ q) : SafeU w' (.slice (some ⟨b, off, none⟩) n c) := fun b' o' n' c' e => by
  cases e
  obtain ⟨cs, z, h1⟩ := h b off n c rfl
  exact ⟨cs, z, by rw [k.block b hb]; exact h1⟩
/-- the byte that tells how many parts there are -/
theorem cutK_first (mk : Nat) (hd : Nat → List Nat) (bs : List Nat) (j : Nat) (hj : j < 32) : ∀ k, (cutK mk hd bs (k + 1))[j]? = (secB mk (hd 0) (prt4 bs 0))[j]?
  | 0 => by rw [cutK_succ]; rfl
  | k + 1 => by rw [cutK_succ, List.getElem?_append_left (by rw [cutK_len]; omega), cutK_first mk hd bs j hj k]
theorem secL_count (num : Nat) (p xs : List Nat) (hx : xs.length = 32) (hl : p.length ≤ 4096) : (secL num p xs)[7]? = some (cn4 (p.length + 36)) := by
  have hb : (p ++ crc4 (crc p) ++ xs).length = p.length + 36 := by simp [crc4, hx]
  unfold secL cutB
  rw [hb]
  obtain ⟨k, hk⟩ : ∃ k, cn4 (p.length + 36) = k + 1 := ⟨cn4 (p.length + 36) - 1, by unfold cn4; omega⟩
  rw [hk, cutK_first _ _ _ 7 (by omega)]
  unfold secB
  rw [pad32_get _ 7 (by omega)]
  have : (k + 1) % 256 = k + 1 := by unfold cn4 at hk; omega
  simp [hd6, this]
set_option maxRecDepth 100000 in
set_option maxHeartbeats 4000000 in
theorem readFirst_ok (num : Nat) (p xs rest : List Nat) (a : Option Addr) (n c : Nat) (w : World) (h : Bs w (.slice a n c) (secL num p xs ++ rest)) (hsf : SafeU w (.slice a n c)) (hpb : By p) (hxb : By xs) (h0 : 0 < p.length) (hl : p.length ≤ 4096) (hx : xs.length = 32) (hnum : num < 4294967296) :
    Calls Tryz.prog 95 #[.int .i64 (num : Int), .slice a n c] w fun e w' => (∃ pa r, e = .returned (.tuple #[.agg (rcd pa p.length p.length xs).toArray, r, .bool true]) ∧ Bs w' (.slice pa p.length p.length) p ∧ SafeU w' (.slice pa p.length p.length) ∧ Bs w' r rest ∧ SafeU w' r ∧ ∃ ra rc, r = .slice ra rest.length rc) ∧ Below w.heap.size w w' := by
  obtain ⟨C, hC⟩ : ∃ C, C = cn4 (p.length + 36) := ⟨_, rfl⟩
  have hbl : (p ++ crc4 (crc p) ++ xs).length = p.length + 36 := by simp [crc4, hx]
  have hsl : (secL num p xs).length = 32 * C := by rw [secL_len, hx, hC]
  have hC1 : 1 ≤ C ∧ C ≤ 173 := by rw [hC]; unfold cn4; omega
  have hnl := h.len
  have hnn : n = 32 * C + rest.length := by rw [hnl.1, List.length_append, hsl]
  obtain ⟨b, off, rfl⟩ : ∃ b off, a = some ⟨b, off, none⟩ := by
    obtain ⟨_, a', c', e, _, _, _, h4⟩ := h
    cases e
    obtain ⟨b, off, e2, _⟩ := h4 (by rw [List.length_append, hsl]; omega)
    exact ⟨b, off, e2⟩
  have hy7 : w.cell? ⟨b, off + 7, none⟩ = some (.int .u8 (C : Int)) ∧ b < w.heap.size := by
    obtain ⟨_, a', c', e, _, _, _, h4⟩ := h
    cases e
    obtain ⟨b', off', e2, hb, hxx⟩ := h4 (by rw [List.length_append, hsl]; omega)
    cases e2
    refine ⟨?_, hb⟩
    rw [hxx 7 (by rw [List.length_append, hsl]; omega)]
    have : (secL num p xs ++ rest)[7]? = some C := by rw [List.getElem?_append_left (by rw [hsl]; omega), secL_count num p xs hx hl, hC]
    unfold bt
    rw [List.getD_eq_getElem?_getD, this]
    rfl
  obtain ⟨SZ, hSZ⟩ : ∃ SZ, SZ = 32 * C := ⟨_, rfl⟩
  have HFRONT : Hid (∀ w', Below w.heap.size w w' → Bs w' (.slice (some ⟨b, off, none⟩) SZ c) (cutB 177 (hd6 num) (p ++ crc4 (crc p) ++ xs))) := fun w' k => by
    have := (h.step k).cut SZ (by rw [List.length_append, hsl]; omega)
    rw [List.take_append_of_le_length (by rw [hsl]; omega), List.take_of_length_le (by rw [hsl]; omega)] at this
    exact this
  have HREST : Hid (∀ w', Below w.heap.size w w' → Bs w' (.slice (some ⟨b, off + SZ, none⟩) (n - SZ) (c - SZ)) rest) := fun w' k => by
    have := bs_tail (h.step k) SZ (by rw [List.length_append, hsl]; omega)
    rw [List.drop_append, List.drop_of_length_le (by rw [hsl]; omega), hsl, hSZ, Nat.sub_self, List.drop_zero, List.nil_append] at this
    rw [hSZ]
    exact this
  obtain ⟨BL, hBL⟩ : ∃ BL, BL = p.length + 36 := ⟨_, rfl⟩
  obtain ⟨PL, hPL⟩ : ∃ PL, PL = p.length := ⟨_, rfl⟩
  obtain ⟨cc, hcc⟩ : ∃ cc, cc = crc p := ⟨_, rfl⟩
  have HP : Hid (By p ∧ By xs ∧ xs.length = 32 ∧ PL = p.length ∧ (p ++ crc4 (crc p) ++ xs).length = BL ∧ crc p = cc ∧ cc < 4294967296) := ⟨hpb, hxb, hx, hPL, by rw [hbl, hBL], hcc.symm, by rw [hcc]; exact crc_lt p hpb⟩
  have D := (Below.refl w.heap.size w).alloc (Nat.le_refl _) (.cells #[.slice none 0 0, .int .u8 0, .int .u8 0, .int .u8 0, .int .u8 0, .int .u8 0, .int .u8 0, .int .u8 0, .int .u8 0, .int .u8 0, .int .u8 0, .int .u8 0, .int .u8 0, .int .u8 0, .int .u8 0, .int .u8 0, .int .u8 0, .int .u8 0, .int .u8 0, .int .u8 0, .int .u8 0, .int .u8 0, .int .u8 0, .int .u8 0, .int .u8 0, .int .u8 0, .int .u8 0, .int .u8 0, .int .u8 0, .int .u8 0, .int .u8 0, .int .u8 0, .int .u8 0] 77)
  have HD := (show Hid _ from D)
  have HV4 := (show Hid _ from va_new w [.slice none 0 0, .int .u8 0, .int .u8 0, .int .u8 0, .int .u8 0, .int .u8 0, .int .u8 0, .int .u8 0, .int .u8 0, .int .u8 0, .int .u8 0, .int .u8 0, .int .u8 0, .int .u8 0, .int .u8 0, .int .u8 0, .int .u8 0, .int .u8 0, .int .u8 0, .int .u8 0, .int .u8 0, .int .u8 0, .int .u8 0, .int .u8 0, .int .u8 0, .int .u8 0, .int .u8 0, .int .u8 0, .int .u8 0, .int .u8 0, .int .u8 0, .int .u8 0, .int .u8 0] 77)
  have HBB : Hid (b < w.heap.size) := hy7.2
  have HSF : Hid (SafeU w (.slice (some ⟨b, off, none⟩) n c)) := hsf
  clear hsf
  have y7 := (D.cell (p := ⟨b, off + 7, none⟩) hy7.2).trans hy7.1
  have dS : (C : Int) * 32 = (SZ : Int) := by omega
  have s1 : (SZ : Int) ≤ (n : Int) := by omega
  have s2 : (SZ : Int) ≤ (c : Int) := by omega
  have s3 : ¬ (n : Int) < (SZ : Int) := by omega
  have s4 : (7 : Int) < (n : Int) := by omega
  have s5 : ((n : Int) == 0) = false := by simp; omega
  have s6 : ¬ (n : Int) = 0 := by omega
  have t1 : ¬ (BL : Int) ≤ 36 := by omega
  have t2 : ¬ (4132 : Int) < (BL : Int) := by omega
  have t3 : (BL : Int) - 36 = (PL : Int) := by omega
  have t4 : (PL : Int) ≤ (BL : Int) := by omega
  have t5 : PL + 36 = BL := by omega
  have t6 : 0 < PL ∧ PL ≤ 4096 := by omega
  have HN : Hid (n = SZ + rest.length ∧ n ≤ c ∧ c ≤ 9223372036854775807 ∧ PL + 36 = BL ∧ 0 < PL ∧ PL ≤ 4096) := ⟨by omega, hnl.2.1, hnl.2.2, t5, t6⟩
  clear hnn hnl hy7 h hC hbl hsl hSZ hBL hPL hcc hpb hxb h0 hl hx D t5 t6
  have hC1a := hC1.2
  clear hC1
  go_enter Tryz.func95, Tryz.ntmps95
  go_upto_region 6 with fail
  generalize w.alloc (.cells #[.slice none 0 0, .int .u8 0, .int .u8 0, .int .u8 0, .int .u8 0, .int .u8 0, .int .u8 0, .int .u8 0, .int .u8 0, .int .u8 0, .int .u8 0, .int .u8 0, .int .u8 0, .int .u8 0, .int .u8 0, .int .u8 0, .int .u8 0, .int .u8 0, .int .u8 0, .int .u8 0, .int .u8 0, .int .u8 0, .int .u8 0, .int .u8 0, .int .u8 0, .int .u8 0, .int .u8 0, .int .u8 0, .int .u8 0, .int .u8 0, .int .u8 0, .int .u8 0, .int .u8 0] 77) = w0 at *
  refine wp_region_noPanic ?_
  refine wp_region_held_drew (S := fun V => True) (by kernel_rfl) trivial ?_
  intro hHeld
  have HD1 : Hid (Below w.heap.size w w0.drew) := HD.out.drew
  have HV1 : Hid (VA w0.drew w.heap.size [.slice none 0 0, .int .u8 0, .int .u8 0, .int .u8 0, .int .u8 0, .int .u8 0, .int .u8 0, .int .u8 0, .int .u8 0, .int .u8 0, .int .u8 0, .int .u8 0, .int .u8 0, .int .u8 0, .int .u8 0, .int .u8 0, .int .u8 0, .int .u8 0, .int .u8 0, .int .u8 0, .int .u8 0, .int .u8 0, .int .u8 0, .int .u8 0, .int .u8 0, .int .u8 0, .int .u8 0, .int .u8 0, .int .u8 0, .int .u8 0, .int .u8 0, .int .u8 0, .int .u8 0] 77) := VA.drew HV4.out
  clear HD HV4 y7
  generalize w0.drew = w1 at *
  refine takeD 0 28 (.slice (some ⟨b, off, none⟩) n c) (by exact rfl) rfl (by kernel_rfl) (by kernel_rfl) (by kernel_rfl) (fun _ _ _ h => h) (Or.inl ⟨by rfl, ?_⟩) (by assumption) ?_
  · intro wq hS
    go_simp
  try simp only [Act.put, List.setIfInBounds_toArray, List.set_cons_zero, List.set_cons_succ]
  refine takeD 1 29 (.int .i64 (SZ : Int)) (by exact rfl) rfl (by kernel_rfl) (by kernel_rfl) (by kernel_rfl) (fun _ _ _ h => h) (Or.inl ⟨by rfl, ?_⟩) (by assumption) ?_
  · intro wq hS
    go_simp
  try simp only [Act.put, List.setIfInBounds_toArray, List.set_cons_zero, List.set_cons_succ]
  refine takeD 2 30 (.slice (some ⟨b, off, none⟩) SZ c) (by exact rfl) rfl (by kernel_rfl) (by kernel_rfl) (by kernel_rfl) (fun _ _ _ h => h) (Or.inl ⟨by rfl, ?_⟩) (by assumption) ?_
  · intro wq hS
    go_simp
  try simp only [Act.put, List.setIfInBounds_toArray, List.set_cons_zero, List.set_cons_succ]
  refine takeD 3 31 (.int .i64 (num : Int)) (by exact rfl) rfl (by kernel_rfl) (by kernel_rfl) (by kernel_rfl) (fun _ _ _ h => h) (Or.inl ⟨by rfl, ?_⟩) (by assumption) ?_
  · intro wq hS
    go_simp
  try simp only [Act.put, List.setIfInBounds_toArray, List.set_cons_zero, List.set_cons_succ]
  refine wpAnyH_ready (rs := [4]) (by kernel_rfl) (by simp) ?_
  refine AllReadyH.cons (by exact rfl) (fun K hK => ?_) AllReadyH.nil
  go_simp
  refine (headmk_ok num hnum w1).mono ?_
  rintro e w2 ⟨rfl, vn, b2⟩
  have HD2 : Hid (Below w.heap.size w w2) := HD1.out.trans (b2.mono HD1.out.size)
  have HV2 := (show Hid _ from HV1.out.step b2)
  have HN2 := (show Hid _ from vn)
  go_wp2_with fail
  refine hK.out _ _ trivial (fun hHeld => ?_)
  clear hK K vn b2 HD1 HV1
  try simp only [Act.put, List.setIfInBounds_toArray, List.set_cons_zero, List.set_cons_succ]
  generalize w1.heap.size = Bn at *
  refine wpAnyH_ready (rs := [5]) (by kernel_rfl) (by simp) ?_
  refine AllReadyH.cons (by exact rfl) (fun K hK => ?_) AllReadyH.nil
  go_simp
  refine (join_ok w2 num Bn hnum HN2.out 177 (by omega) _ SZ c (p ++ crc4 (crc p) ++ xs) ((HP.out.1.app (crc4_by _)).app HP.out.2.1) (by rw [HP.out.2.2.2.2.1]; omega) (by rw [HP.out.2.2.2.2.1]; omega) (HFRONT.out w2 HD2.out)).mono ?_
  rintro e w3 ⟨⟨u3, rfl, o3⟩, b3⟩
  have HD3 : Hid (Below w.heap.size w w3) := HD2.out.trans (b3.mono HD2.out.size)
  have HV3 : Hid (VA w3 w.heap.size [.slice none 0 0, .int .u8 0, .int .u8 0, .int .u8 0, .int .u8 0, .int .u8 0, .int .u8 0, .int .u8 0, .int .u8 0, .int .u8 0, .int .u8 0, .int .u8 0, .int .u8 0, .int .u8 0, .int .u8 0, .int .u8 0, .int .u8 0, .int .u8 0, .int .u8 0, .int .u8 0, .int .u8 0, .int .u8 0, .int .u8 0, .int .u8 0, .int .u8 0, .int .u8 0, .int .u8 0, .int .u8 0, .int .u8 0, .int .u8 0, .int .u8 0, .int .u8 0, .int .u8 0] 77) := HV2.out.step b3
  have HO3 := (show Hid _ from o3)
  have HLT2 := (show Hid _ from HV2.out.lt)
  go_wp2_with fail
  refine hK.out _ _ trivial (fun hHeld => ?_)
  clear hK K b3 o3 HD2 HV2 HN2
  try simp only [Act.put, List.setIfInBounds_toArray, List.set_cons_zero, List.set_cons_succ]
  obtain ⟨ub, uo, uc, rfl, hub⟩ : ∃ ub uo uc, u3 = .slice (some ⟨ub, uo, none⟩) BL uc ∧ BL ≤ uc ∧ uc ≤ 9223372036854775807 := by
    obtain ⟨_, a', c', e, e1, e2, _, h4⟩ := HO3.out.bs
    obtain ⟨b', off', e3, _⟩ := h4 (by rw [HP.out.2.2.2.2.1]; omega)
    rw [HP.out.2.2.2.2.1] at e e1
    exact ⟨b', off', c', by rw [e, e3], e1, e2⟩
  have t7 : (BL : Int) ≤ (uc : Int) := by omega
  have t8 : (PL : Int) ≤ (uc : Int) := by omega
  refine takeD 6 27 (.tuple #[.slice (some ⟨ub, uo, none⟩) BL uc, .bool true]) (by exact rfl) rfl (by kernel_rfl) (by kernel_rfl) (by kernel_rfl) (fun _ _ _ h => h) (Or.inl ⟨by rfl, ?_⟩) (by assumption) ?_
  · intro wq hS
    go_simp
  try simp only [Act.put, List.setIfInBounds_toArray, List.set_cons_zero, List.set_cons_succ]
  refine takeD 7 34 (.slice (some ⟨ub, uo, none⟩) BL uc) (by exact rfl) rfl (by kernel_rfl) (by kernel_rfl) (by kernel_rfl) (fun _ _ _ h => h) (Or.inl ⟨by rfl, ?_⟩) (by assumption) ?_
  · intro wq hS
    go_simp
  try simp only [Act.put, List.setIfInBounds_toArray, List.set_cons_zero, List.set_cons_succ]
  refine takeD 8 35 (.bool true) (by exact rfl) rfl (by kernel_rfl) (by kernel_rfl) (by kernel_rfl) (fun _ _ _ h => h) (Or.inl ⟨by rfl, ?_⟩) (by assumption) ?_
  · intro wq hS
    go_simp
  try simp only [Act.put, List.setIfInBounds_toArray, List.set_cons_zero, List.set_cons_succ]
  refine takeD 9 8 (.slice (some ⟨ub, uo, none⟩) BL uc) (by exact rfl) rfl (by kernel_rfl) (by kernel_rfl) (by kernel_rfl) (fun _ _ _ h => h) (Or.inl ⟨by rfl, ?_⟩) (by assumption) ?_
  · intro wq hS
    go_simp
  try simp only [Act.put, List.setIfInBounds_toArray, List.set_cons_zero, List.set_cons_succ]
  refine takeD 10 9 (.bool true) (by exact rfl) rfl (by kernel_rfl) (by kernel_rfl) (by kernel_rfl) (fun _ _ _ h => h) (Or.inl ⟨by rfl, ?_⟩) (by assumption) ?_
  · intro wq hS
    go_simp
  try simp only [Act.put, List.setIfInBounds_toArray, List.set_cons_zero, List.set_cons_succ]
  refine wpAnyH_done (by kernel_rfl) ?_ _
  refine NoPanic.normal ?_
  have HU3 : Hid (Bs w3 (.slice (some ⟨ub, uo, none⟩) BL uc) (p ++ crc4 (crc p) ++ xs)) := HO3.out.bs
  have HSL3 : Hid (SafeU w3 (.slice (some ⟨ub, uo, none⟩) PL PL)) := (fun b' o' n' c' e => by cases e; exact HO3.out.safeU ub uo BL uc rfl)
  have HUB : Hid (w.heap.size < ub) := Nat.lt_of_lt_of_le HLT2.out (HO3.out.block ub rfl)
  clear hHeld HO3
  have VZ3 := (show Hid _ from va_new w3 [.slice none 0 0, .int .u8 0, .int .u8 0, .int .u8 0, .int .u8 0, .int .u8 0, .int .u8 0, .int .u8 0, .int .u8 0, .int .u8 0, .int .u8 0, .int .u8 0, .int .u8 0, .int .u8 0, .int .u8 0, .int .u8 0, .int .u8 0, .int .u8 0, .int .u8 0, .int .u8 0, .int .u8 0, .int .u8 0, .int .u8 0, .int .u8 0, .int .u8 0, .int .u8 0, .int .u8 0, .int .u8 0, .int .u8 0, .int .u8 0, .int .u8 0, .int .u8 0, .int .u8 0] 77)
  go_upto_region 11 with (first | (refine bldR1 rfl _ rfl (some ⟨ub, uo, none⟩) PL PL (by rfl) ?_) | (refine stA rfl 77 _ _ rfl w3.heap.size (by rfl) _ (rcd (some ⟨ub, uo, none⟩) PL PL (List.replicate 32 0)) (by rfl) _ VZ3.out (info33.trans (by rw [rcd_len])) (by rw [rcd_len]; rfl) (fun u hu => rcd_one hu) ?_; intro w4 R4 U4))
  have HR4 : Hid (VA w4 w3.heap.size (rcd (some ⟨ub, uo, none⟩) PL PL (List.replicate 32 0)) 77) := R4
  have HD4 : Hid (Below w3.heap.size w3 w4) := U4.bel ((Below.refl _ _).alloc (Nat.le_refl _) _) (Nat.le_refl _)
  clear R4 U4 VZ3
  go_upto_region 12 with fail
  have HR5 : Hid (VA (w4.alloc (.cells #[.int .u8 0, .int .u8 0, .int .u8 0, .int .u8 0] 149)).drew w3.heap.size (rcd (some ⟨ub, uo, none⟩) PL PL (List.replicate 32 0)) 77) := VA.drew (HR4.out.alloc _)
  have HD5 : Hid (Below w3.heap.size w3 (w4.alloc (.cells #[.int .u8 0, .int .u8 0, .int .u8 0, .int .u8 0] 149)).drew) := (HD4.out.alloc HD4.out.size _).drew
  have HC5 : Hid (VA (w4.alloc (.cells #[.int .u8 0, .int .u8 0, .int .u8 0, .int .u8 0] 149)).drew w4.heap.size [.int .u8 0, .int .u8 0, .int .u8 0, .int .u8 0] 149) := VA.drew (va_new w4 _ _)
  have HNE : Hid (w3.heap.size < w4.heap.size) := HR4.out.lt
  refine wp_region_noPanic ?_
  refine wp_region_held_drew (S := fun V => True) (by kernel_rfl) trivial ?_
  intro hHeld
  clear HR4 HD4
  generalize (w4.alloc (.cells #[.int .u8 0, .int .u8 0, .int .u8 0, .int .u8 0] 149)).drew = w6 at *
  generalize w4.heap.size = B12 at *
  refine takeD 0 57 (.slice (some ⟨B12, 0, none⟩) 4 4) (by exact rfl) rfl (by kernel_rfl) (by kernel_rfl) (by kernel_rfl) (fun _ _ _ h => h) (Or.inl ⟨by rfl, ?_⟩) (by assumption) ?_
  · intro wq hS
    go_simp
  try simp only [Act.put, List.setIfInBounds_toArray, List.set_cons_zero, List.set_cons_succ]
  refine takeD 1 58 (.slice (some ⟨ub, uo, none⟩) BL uc) (by exact rfl) rfl (by kernel_rfl) (by kernel_rfl) (by kernel_rfl) (fun _ _ _ h => h) (Or.inl ⟨by rfl, ?_⟩) (by assumption) ?_
  · intro wq hS
    go_simp
  try simp only [Act.put, List.setIfInBounds_toArray, List.set_cons_zero, List.set_cons_succ]
  refine takeD 2 59 (.int .i64 (PL : Int)) (by exact rfl) rfl (by kernel_rfl) (by kernel_rfl) (by kernel_rfl) (fun _ _ _ h => h) (Or.inl ⟨by rfl, ?_⟩) (by assumption) ?_
  · intro wq hS
    go_simp
  try simp only [Act.put, List.setIfInBounds_toArray, List.set_cons_zero, List.set_cons_succ]
  refine takeD 3 60 (.slice (some ⟨ub, uo + PL, none⟩) (BL - PL) (uc - PL)) (by exact rfl) rfl (by kernel_rfl) (by kernel_rfl) (by kernel_rfl) (fun _ _ _ h => h) (Or.inl ⟨by rfl, ?_⟩) (by assumption) ?_
  · intro wq hS
    have hne : ¬ uc = PL := by have := HN.out; omega
    go_simp
  try simp only [Act.put, List.setIfInBounds_toArray, List.set_cons_zero, List.set_cons_succ]
  obtain ⟨w7, hcp, VC7, U7⟩ := cpRunT (rT := 3) (o := 0) (dL := 4) (dC := 4) (bs_tail (HU3.out.step HD5.out) PL (by rw [HP.out.2.2.2.2.1]; have := HN.out; omega)) (by rw [List.length_drop, HP.out.2.2.2.2.1]; have := HN.out; omega) (by rw [List.length_drop, HP.out.2.2.2.2.1]; have := HN.out; omega) HC5.out (by simp)
  have HC7 : Hid (VA w7 B12 [.int .u8 ((cc : Int) / 16777216), .int .u8 ((cc : Int) / 65536 % 256), .int .u8 ((cc : Int) / 256 % 256), .int .u8 ((cc : Int) % 256)] 149) := by
    have e : ((p ++ crc4 (crc p) ++ xs).drop PL).take 4 = crc4 cc := by
      rw [List.append_assoc, List.drop_append, List.drop_of_length_le (by have := HP.out.2.2.2.1; omega), HP.out.2.2.2.1, Nat.sub_self, List.drop_zero, List.nil_append, HP.out.2.2.2.2.2.1]
      rfl
    rw [e, crc4_cl cc HP.out.2.2.2.2.2.2] at VC7
    exact VC7
  have HR7 : Hid (VA w7 w3.heap.size (rcd (some ⟨ub, uo, none⟩) PL PL (List.replicate 32 0)) 77) := HR5.out.upd U7 (by have := HNE.out; omega)
  have HD7 : Hid (Below w3.heap.size w3 w7) := U7.bel HD5.out (Nat.le_of_lt HNE.out)
  refine wpAnyH_ready (rs := [4]) (by kernel_rfl) (by simp) ?_
  refine AllReadyH.cons (by exact rfl) (fun K hK => ?_) AllReadyH.nil
  go_simp
  refine hK.out _ _ trivial (fun _ => ?_)
  clear hK K hHeld hcp VC7 U7 HR5 HD5 HC5
  try simp only [Act.put, List.setIfInBounds_toArray, List.set_cons_zero, List.set_cons_succ]
  refine wpAnyH_done (by kernel_rfl) ?_ _
  refine NoPanic.normal ?_
  go_upto_region 13 with fail
  refine wp_region_noPanic ?_
  refine wp_region_held_drew (S := fun V => True) (by kernel_rfl) trivial ?_
  intro hHeld
  have HR8 : Hid (VA w7.drew w3.heap.size (rcd (some ⟨ub, uo, none⟩) PL PL (List.replicate 32 0)) 77) := VA.drew HR7.out
  have HC8 : Hid (VA w7.drew B12 [.int .u8 ((cc : Int) / 16777216), .int .u8 ((cc : Int) / 65536 % 256), .int .u8 ((cc : Int) / 256 % 256), .int .u8 ((cc : Int) % 256)] 149) := VA.drew HC7.out
  have HD8 : Hid (Below w3.heap.size w3 w7.drew) := HD7.out.drew
  clear HR7 HC7 HD7
  generalize w7.drew = w8 at *
  have ta : (PL : Int) + 4 ≤ (BL : Int) := by have := HN.out; omega
  have tb : (PL : Int) ≤ 4096 := by have := HN.out; omega
  have tc : (PL : Int) + 4 ≤ (uc : Int) := by have := HN.out; omega
  refine takeD 0 62 (.pointer (some ⟨w3.heap.size, 1, none⟩)) (by exact rfl) rfl (by kernel_rfl) (by kernel_rfl) (by kernel_rfl) (fun _ _ _ h => h) (Or.inl ⟨by rfl, ?_⟩) (by assumption) ?_
  · intro wq hS
    go_simp
  try simp only [Act.put, List.setIfInBounds_toArray, List.set_cons_zero, List.set_cons_succ]
  refine takeD 1 63 (.slice (some ⟨w3.heap.size, 1, none⟩) 32 32) (by exact rfl) rfl (by kernel_rfl) (by kernel_rfl) (by kernel_rfl) (fun _ _ _ h => h) (Or.inl ⟨by rfl, ?_⟩) (by assumption) ?_
  · intro wq hS
    go_simp
  try simp only [Act.put, List.setIfInBounds_toArray, List.set_cons_zero, List.set_cons_succ]
  refine takeD 2 64 (.slice (some ⟨ub, uo, none⟩) BL uc) (by exact rfl) rfl (by kernel_rfl) (by kernel_rfl) (by kernel_rfl) (fun _ _ _ h => h) (Or.inl ⟨by rfl, ?_⟩) (by assumption) ?_
  · intro wq hS
    go_simp
  try simp only [Act.put, List.setIfInBounds_toArray, List.set_cons_zero, List.set_cons_succ]
  refine takeD 3 65 (.int .i64 (PL : Int)) (by exact rfl) rfl (by kernel_rfl) (by kernel_rfl) (by kernel_rfl) (fun _ _ _ h => h) (Or.inl ⟨by rfl, ?_⟩) (by assumption) ?_
  · intro wq hS
    go_simp
  try simp only [Act.put, List.setIfInBounds_toArray, List.set_cons_zero, List.set_cons_succ]
  refine takeD 4 66 (.int .i64 ((PL : Int) + 4)) (by exact rfl) rfl (by kernel_rfl) (by kernel_rfl) (by kernel_rfl) (fun _ _ _ h => h) (Or.inl ⟨by rfl, ?_⟩) (by assumption) ?_
  · intro wq hS
    have hw : IntKind.i64.wrap ((PL : Int) + 4) = (PL : Int) + 4 := by unfold IntKind.wrap; simp [IntKind.signed, IntKind.bits]; omega
    go_simp
  try simp only [Act.put, List.setIfInBounds_toArray, List.set_cons_zero, List.set_cons_succ]
  refine takeD 5 67 (.slice (some ⟨ub, uo + (PL + 4), none⟩) (BL - (PL + 4)) (uc - (PL + 4))) (by exact rfl) rfl (by kernel_rfl) (by kernel_rfl) (by kernel_rfl) (fun _ _ _ h => h) (Or.inl ⟨by rfl, ?_⟩) (by assumption) ?_
  · intro wq hS
    have hne : ¬ uc = PL + 4 := by have := HN.out; omega
    have e4 : ((PL : Int) + 4).toNat = PL + 4 := by omega
    have h5 : ¬ (PL : Int) + 4 < 0 := by omega
    have h6 : (0 : Int) ≤ (PL : Int) + 4 := by omega
    go_simp
  try simp only [Act.put, List.setIfInBounds_toArray, List.set_cons_zero, List.set_cons_succ]
  obtain ⟨w9, hcp, VR9, U9⟩ := cpRunT (rT := 3) (o := 1) (dL := 32) (dC := 32) (bs_tail (HU3.out.step HD8.out) (PL + 4) (by rw [HP.out.2.2.2.2.1]; have := HN.out; omega)) (by rw [List.length_drop, HP.out.2.2.2.2.1]; have := HN.out; omega) (by rw [List.length_drop, HP.out.2.2.2.2.1]; have := HN.out; omega) HR8.out (by rw [rcd_len]; omega)
  have HR9 : Hid (VA w9 w3.heap.size (rcd (some ⟨ub, uo, none⟩) PL PL xs) 77) := by
    have e : ((p ++ crc4 (crc p) ++ xs).drop (PL + 4)).take 32 = xs := by
      rw [List.drop_append, List.drop_of_length_le (by have := HP.out.2.2.2.1; simp [crc4]; omega), List.nil_append]
      rw [show PL + 4 - (p ++ crc4 (crc p)).length = 0 by have := HP.out.2.2.2.1; simp [crc4]; omega, List.drop_zero, List.take_of_length_le (by rw [HP.out.2.2.1]; omega)]
    rw [e, lnk_cl HP.out.2.2.1] at VR9
    exact VR9
  have HC9 : Hid (VA w9 B12 [.int .u8 ((cc : Int) / 16777216), .int .u8 ((cc : Int) / 65536 % 256), .int .u8 ((cc : Int) / 256 % 256), .int .u8 ((cc : Int) % 256)] 149) := HC8.out.upd U9 (by have := HNE.out; omega)
  have HD9 : Hid (Below w3.heap.size w3 w9) := U9.bel HD8.out (Nat.le_refl _)
  refine wpAnyH_ready (rs := [6]) (by kernel_rfl) (by simp) ?_
  refine AllReadyH.cons (by exact rfl) (fun K hK => ?_) AllReadyH.nil
  go_simp
  refine hK.out _ _ trivial (fun _ => ?_)
  clear hK K hHeld hcp VR9 U9 HR8 HD8 HC8 ta tb tc
  try simp only [Act.put, List.setIfInBounds_toArray, List.set_cons_zero, List.set_cons_succ]
  refine wpAnyH_done (by kernel_rfl) ?_ _
  refine NoPanic.normal ?_
  go_upto_region 14 with fail
  refine wp_region_noPanic ?_
  refine wp_region_held_drew (S := fun V => VA V w3.heap.size (rcd (some ⟨ub, uo, none⟩) PL PL xs) 77 ∧ VA V B12 [.int .u8 ((cc : Int) / 16777216), .int .u8 ((cc : Int) / 65536 % 256), .int .u8 ((cc : Int) / 256 % 256), .int .u8 ((cc : Int) % 256)] 149) (by kernel_rfl) ⟨VA.drew HR9.out, VA.drew HC9.out⟩ ?_
  intro hHeld
  have HD10 : Hid (Below w3.heap.size w3 w9.drew) := HD9.out.drew
  clear HR9 HC9 HD9
  generalize w9.drew = w10 at *
  refine takeD 0 69 (.agg #[.int .u8 ((cc : Int) / 16777216), .int .u8 ((cc : Int) / 65536 % 256), .int .u8 ((cc : Int) / 256 % 256), .int .u8 ((cc : Int) % 256)]) (by exact rfl) rfl (by kernel_rfl) (by kernel_rfl) (by kernel_rfl) (fun _ _ _ h => h) (yieldsIf_load_mid (by rfl) 149 _ rfl B12 0 (by rfl) ([.int .u8 ((cc : Int) / 16777216), .int .u8 ((cc : Int) / 65536 % 256), .int .u8 ((cc : Int) / 256 % 256), .int .u8 ((cc : Int) % 256)]) _ (fun wq hS => fun j v hv => by rw [Nat.zero_add]; exact hS.2.cell j hv) Tryz.underlying149 rfl (by kernel_rfl)) (by assumption) ?_
  try simp only [Act.put, List.setIfInBounds_toArray, List.set_cons_zero, List.set_cons_succ]
  refine takeD 1 70 (.pointer (some ⟨w3.heap.size, 0, none⟩)) (by exact rfl) rfl (by kernel_rfl) (by kernel_rfl) (by kernel_rfl) (fun _ _ _ h => h) (Or.inl ⟨by rfl, ?_⟩) (by assumption) ?_
  · intro wq hS
    go_simp
  try simp only [Act.put, List.setIfInBounds_toArray, List.set_cons_zero, List.set_cons_succ]
  refine takeD 2 71 (.slice (some ⟨ub, uo, none⟩) PL PL) (by exact rfl) rfl (by kernel_rfl) (by kernel_rfl) (by kernel_rfl) (fun _ _ _ h => h) (Or.inl ⟨by rfl, ?_⟩) (by assumption) ?_
  · intro wq hS
    have c0 := hS.1.cell 0 (v := .slice (some ⟨ub, uo, none⟩) PL PL) rfl
    go_simp
  try simp only [Act.put, List.setIfInBounds_toArray, List.set_cons_zero, List.set_cons_succ]
  have HPB : Hid (∀ w', Below w3.heap.size w3 w' → Bs w' (.slice (some ⟨ub, uo, none⟩) PL PL) p) := fun w' kk => by
    have hh := (HU3.out.step kk).cut PL (by rw [HP.out.2.2.2.2.1]; have := HN.out; omega)
    rw [List.append_assoc, List.take_append_of_le_length (by have := HP.out.2.2.2.1; omega), List.take_of_length_le (by have := HP.out.2.2.2.1; omega)] at hh
    obtain ⟨hby, a', c', e, e1, e2, e3, e4⟩ := hh
    cases e
    exact ⟨hby, _, _, by rw [← HP.out.2.2.2.1], by have := HP.out.2.2.2.1; omega, by have := HN.out; omega, fun e => (by cases e), e4⟩
  refine wpAnyH_ready (rs := [3]) (by kernel_rfl) (by simp) ?_
  refine AllReadyH.cons (by exact rfl) (fun K hK => ?_) AllReadyH.nil
  go_simp
  refine (pcrc_exp _ p w10 (HPB.out w10 HD10.out) cc HP.out.2.2.2.2.2.1).mono ?_
  rintro e w11 ⟨rfl, b11⟩
  have HD11 : Hid (Below w3.heap.size w3 w11) := HD10.out.trans (b11.mono HD10.out.size)
  go_wp2_with fail
  refine hK.out _ _ ⟨hHeld.1.step b11, hHeld.2.step b11⟩ (fun hHeld => ?_)
  clear hK K b11 HD10
  try simp only [Act.put, List.setIfInBounds_toArray, List.set_cons_zero, List.set_cons_succ]
  refine takeD 4 73 (.bool false) (by exact rfl) rfl (by kernel_rfl) (by kernel_rfl) (by kernel_rfl) (fun _ _ _ h => h) (Or.inl ⟨by rfl, ?_⟩) (by assumption) ?_
  · intro wq hS
    have e4 := eq4 ((cc : Int) / 16777216) ((cc : Int) / 65536 % 256) ((cc : Int) / 256 % 256) ((cc : Int) % 256) wq
    go_simp
  try simp only [Act.put, List.setIfInBounds_toArray, List.set_cons_zero, List.set_cons_succ]
  refine wpAnyH_done (by kernel_rfl) ?_ _
  refine NoPanic.normal ?_
  have HR11 : Hid (VA w11 w3.heap.size (rcd (some ⟨ub, uo, none⟩) PL PL xs) 77) := hHeld.1
  clear hHeld
  go_upto_region 16 with fail
  refine wp_region_noPanic ?_
  refine wp_region_held_drew (S := fun V => VA V w3.heap.size (rcd (some ⟨ub, uo, none⟩) PL PL xs) 77) (by kernel_rfl) (VA.drew HR11.out) ?_
  intro hHeld
  have HD12 : Hid (Below w3.heap.size w3 w11.drew) := HD11.out.drew
  clear HR11 HD11
  generalize w11.drew = w12 at *
  by_cases hcs : c = SZ
  · have HCS : Hid (c = SZ) := hcs
    clear hcs
    refine takeD 0 75 (.agg (rcd (some ⟨ub, uo, none⟩) PL PL xs).toArray) (by exact rfl) rfl (by kernel_rfl) (by kernel_rfl) (by kernel_rfl) (fun _ _ _ h => h) (yieldsIf_load_mid (by rfl) 77 _ rfl w3.heap.size 0 (by rfl) (rcd (some ⟨ub, uo, none⟩) PL PL xs) _ (fun wq hS => fun j v hv => by rw [Nat.zero_add]; exact hS.cell j hv) Tryz.underlying77 rfl (info33.trans (by rw [rcd_len]))) (by assumption) ?_
    try simp only [Act.put, List.setIfInBounds_toArray, List.set_cons_zero, List.set_cons_succ]
    refine takeD 1 76 (.slice (some ⟨b, off, none⟩) n c) (by exact rfl) rfl (by kernel_rfl) (by kernel_rfl) (by kernel_rfl) (fun _ _ _ h => h) (Or.inl ⟨by rfl, ?_⟩) (by assumption) ?_
    · intro wq hS
      go_simp
    try simp only [Act.put, List.setIfInBounds_toArray, List.set_cons_zero, List.set_cons_succ]
    refine takeD 2 77 (.int .i64 (SZ : Int)) (by exact rfl) rfl (by kernel_rfl) (by kernel_rfl) (by kernel_rfl) (fun _ _ _ h => h) (Or.inl ⟨by rfl, ?_⟩) (by assumption) ?_
    · intro wq hS
      go_simp
    try simp only [Act.put, List.setIfInBounds_toArray, List.set_cons_zero, List.set_cons_succ]
    refine takeD 3 78 (.slice (some ⟨b, off, none⟩) (n - SZ) (c - SZ)) (by exact rfl) rfl (by kernel_rfl) (by kernel_rfl) (by kernel_rfl) (fun _ _ _ h => h) (Or.inl ⟨by rfl, ?_⟩) (by assumption) ?_
    · intro wq hS
      have hcs := HCS.out
      go_simp
    try simp only [Act.put, List.setIfInBounds_toArray, List.set_cons_zero, List.set_cons_succ]
    refine wpAnyH_ready (rs := [4]) (by kernel_rfl) (by simp) ?_
    refine AllReadyH.cons (by exact rfl) (fun K hK => ?_) AllReadyH.nil
    refine stAn (by rfl) rfl 77 _ _ rfl w.heap.size (by rfl) _ (rcd (some ⟨ub, uo, none⟩) PL PL xs) (by rfl) _ (HV3.out.step HD12.out) (info33.trans (by rw [rcd_len])) (by rw [rcd_len]; rfl) (fun u hu => rcd_one hu) ?_
    intro w13 R13 U13
    refine hK.out _ _ (hHeld.upd U13 (by have := HV3.out.lt; omega)) (fun hHeld2 => ?_)
    clear hK K
    try simp only [Act.put, List.setIfInBounds_toArray, List.set_cons_zero, List.set_cons_succ]
    refine takeD 5 5 (.slice (some ⟨b, off, none⟩) (n - SZ) (c - SZ)) (by exact rfl) rfl (by kernel_rfl) (by kernel_rfl) (by kernel_rfl) (fun _ _ _ h => h) (Or.inl ⟨by rfl, ?_⟩) (by assumption) ?_
    · intro wq hS
      go_simp
    try simp only [Act.put, List.setIfInBounds_toArray, List.set_cons_zero, List.set_cons_succ]
    refine takeD 6 6 (.bool true) (by exact rfl) rfl (by kernel_rfl) (by kernel_rfl) (by kernel_rfl) (fun _ _ _ h => h) (Or.inl ⟨by rfl, ?_⟩) (by assumption) ?_
    · intro wq hS
      go_simp
    try simp only [Act.put, List.setIfInBounds_toArray, List.set_cons_zero, List.set_cons_succ]
    refine wpAnyH_done (by kernel_rfl) ?_ _
    refine NoPanic.normal ?_
    have HFIN : Hid (Below w.heap.size w w13) := U13.bel (HD3.out.trans (HD12.out.mono HD3.out.size)) (Nat.le_refl _)
    have HPF : Hid (Bs w13 (.slice (some ⟨ub, uo, none⟩) PL PL) p ∧ SafeU w13 (.slice (some ⟨ub, uo, none⟩) PL PL)) := ⟨bs_upd (HPB.out w12 HD12.out) U13 (by have := HUB.out; omega), safeU_upd (HSL3.out.kel (Kee.kel (Kee.bel HD12.out))) U13 (by have := HUB.out; omega)⟩
    have HRF : Hid (Bs w13 (.slice (some ⟨b, off, none⟩) (n - SZ) (c - SZ)) rest) := bs_upd (by have hn := HN.out; have hc := HCS.out; rw [show n - SZ = 0 by omega, show c - SZ = 0 by omega, List.eq_nil_of_length_eq_zero (show rest.length = 0 by omega)]; exact bs_empty _ _ _ (by omega)) U13 (by have := HBB.out; omega)
    have HSR : Hid (SafeU w13 (.slice (some ⟨b, off, none⟩) (n - SZ) (c - SZ))) := fun b' o' n' c' e => by
      cases e
      obtain ⟨cs, z, h1⟩ := (HSF.out.kel (Kee.kel (Kee.bel (HD3.out.trans (HD12.out.mono HD3.out.size))))) b off n c rfl
      exact ⟨cs, z, by rw [U13.block b (by have := HBB.out; omega)]; exact h1⟩
    have hld := run_loadVar_row (P := Tryz.prog) w13 w.heap.size 77 77 _ (0, 0) _ R13.blk Tryz.underlying77 rfl (info33.trans (by rw [List.size_toArray, rcd_len]))
    have HLD := (show Hid _ from hld)
    clear hHeld hHeld2 R13 U13 hld
    go_wp2_with fail
    refine bodyPost_ret (v := .tuple #[.agg (rcd (some ⟨ub, uo, none⟩) PL PL xs).toArray, .slice (some ⟨b, off, none⟩) (n - SZ) (c - SZ), .bool true]) (by have hld := HLD.out; simp [results, Tryz.results95, asAddr, hld]) rfl ?_
    rw [← HP.out.2.2.2.1]
    refine ⟨⟨_, _, rfl, HPF.out.1, HPF.out.2, HRF.out, HSR.out, ?_⟩, HFIN.out⟩
    have hrl : rest.length = n - SZ := by have := HN.out; omega
    rw [hrl]
    exact ⟨_, _, rfl⟩
  · have HCS : Hid (¬ c = SZ) := hcs
    clear hcs
    refine takeD 0 75 (.agg (rcd (some ⟨ub, uo, none⟩) PL PL xs).toArray) (by exact rfl) rfl (by kernel_rfl) (by kernel_rfl) (by kernel_rfl) (fun _ _ _ h => h) (yieldsIf_load_mid (by rfl) 77 _ rfl w3.heap.size 0 (by rfl) (rcd (some ⟨ub, uo, none⟩) PL PL xs) _ (fun wq hS => fun j v hv => by rw [Nat.zero_add]; exact hS.cell j hv) Tryz.underlying77 rfl (info33.trans (by rw [rcd_len]))) (by assumption) ?_
    try simp only [Act.put, List.setIfInBounds_toArray, List.set_cons_zero, List.set_cons_succ]
    refine takeD 1 76 (.slice (some ⟨b, off, none⟩) n c) (by exact rfl) rfl (by kernel_rfl) (by kernel_rfl) (by kernel_rfl) (fun _ _ _ h => h) (Or.inl ⟨by rfl, ?_⟩) (by assumption) ?_
    · intro wq hS
      go_simp
    try simp only [Act.put, List.setIfInBounds_toArray, List.set_cons_zero, List.set_cons_succ]
    refine takeD 2 77 (.int .i64 (SZ : Int)) (by exact rfl) rfl (by kernel_rfl) (by kernel_rfl) (by kernel_rfl) (fun _ _ _ h => h) (Or.inl ⟨by rfl, ?_⟩) (by assumption) ?_
    · intro wq hS
      go_simp
    try simp only [Act.put, List.setIfInBounds_toArray, List.set_cons_zero, List.set_cons_succ]
    refine takeD 3 78 (.slice (some ⟨b, off + SZ, none⟩) (n - SZ) (c - SZ)) (by exact rfl) rfl (by kernel_rfl) (by kernel_rfl) (by kernel_rfl) (fun _ _ _ h => h) (Or.inl ⟨by rfl, ?_⟩) (by assumption) ?_
    · intro wq hS
      have hcs := HCS.out
      go_simp
    try simp only [Act.put, List.setIfInBounds_toArray, List.set_cons_zero, List.set_cons_succ]
    refine wpAnyH_ready (rs := [4]) (by kernel_rfl) (by simp) ?_
    refine AllReadyH.cons (by exact rfl) (fun K hK => ?_) AllReadyH.nil
    refine stAn (by rfl) rfl 77 _ _ rfl w.heap.size (by rfl) _ (rcd (some ⟨ub, uo, none⟩) PL PL xs) (by rfl) _ (HV3.out.step HD12.out) (info33.trans (by rw [rcd_len])) (by rw [rcd_len]; rfl) (fun u hu => rcd_one hu) ?_
    intro w13 R13 U13
    refine hK.out _ _ (hHeld.upd U13 (by have := HV3.out.lt; omega)) (fun hHeld2 => ?_)
    clear hK K
    try simp only [Act.put, List.setIfInBounds_toArray, List.set_cons_zero, List.set_cons_succ]
    refine takeD 5 5 (.slice (some ⟨b, off + SZ, none⟩) (n - SZ) (c - SZ)) (by exact rfl) rfl (by kernel_rfl) (by kernel_rfl) (by kernel_rfl) (fun _ _ _ h => h) (Or.inl ⟨by rfl, ?_⟩) (by assumption) ?_
    · intro wq hS
      go_simp
    try simp only [Act.put, List.setIfInBounds_toArray, List.set_cons_zero, List.set_cons_succ]
    refine takeD 6 6 (.bool true) (by exact rfl) rfl (by kernel_rfl) (by kernel_rfl) (by kernel_rfl) (fun _ _ _ h => h) (Or.inl ⟨by rfl, ?_⟩) (by assumption) ?_
    · intro wq hS
      go_simp
    try simp only [Act.put, List.setIfInBounds_toArray, List.set_cons_zero, List.set_cons_succ]
    refine wpAnyH_done (by kernel_rfl) ?_ _
    refine NoPanic.normal ?_
    have HFIN : Hid (Below w.heap.size w w13) := U13.bel (HD3.out.trans (HD12.out.mono HD3.out.size)) (Nat.le_refl _)
    have HPF : Hid (Bs w13 (.slice (some ⟨ub, uo, none⟩) PL PL) p ∧ SafeU w13 (.slice (some ⟨ub, uo, none⟩) PL PL)) := ⟨bs_upd (HPB.out w12 HD12.out) U13 (by have := HUB.out; omega), safeU_upd (HSL3.out.kel (Kee.kel (Kee.bel HD12.out))) U13 (by have := HUB.out; omega)⟩
    have HRF : Hid (Bs w13 (.slice (some ⟨b, off + SZ, none⟩) (n - SZ) (c - SZ)) rest) := bs_upd (HREST.out w12 (HD3.out.trans (HD12.out.mono HD3.out.size))) U13 (by have := HBB.out; omega)
    have HSR : Hid (SafeU w13 (.slice (some ⟨b, off + SZ, none⟩) (n - SZ) (c - SZ))) := fun b' o' n' c' e => by
      cases e
      obtain ⟨cs, z, h1⟩ := (HSF.out.kel (Kee.kel (Kee.bel (HD3.out.trans (HD12.out.mono HD3.out.size))))) b off n c rfl
      exact ⟨cs, z, by rw [U13.block b (by have := HBB.out; omega)]; exact h1⟩
    have hld := run_loadVar_row (P := Tryz.prog) w13 w.heap.size 77 77 _ (0, 0) _ R13.blk Tryz.underlying77 rfl (info33.trans (by rw [List.size_toArray, rcd_len]))
    have HLD := (show Hid _ from hld)
    clear hHeld hHeld2 R13 U13 hld
    go_wp2_with fail
    refine bodyPost_ret (v := .tuple #[.agg (rcd (some ⟨ub, uo, none⟩) PL PL xs).toArray, .slice (some ⟨b, off + SZ, none⟩) (n - SZ) (c - SZ), .bool true]) (by have hld := HLD.out; simp [results, Tryz.results95, asAddr, hld]) rfl ?_
    rw [← HP.out.2.2.2.1]
    refine ⟨⟨_, _, rfl, HPF.out.1, HPF.out.2, HRF.out, HSR.out, ?_⟩, HFIN.out⟩
    have hrl : rest.length = n - SZ := by have := HN.out; omega
    rw [hrl]
    exact ⟨_, _, rfl⟩
end Go.Proofs.YtkmdegmpffgplaaGreatDoor
