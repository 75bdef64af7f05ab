/- log XXVIII: rows of uint16, of int64 and of rows of bytes; what comes in. -/
import Derived.Test.YtkmdegmpffgplaaGreatDoorLbl
import Derived.Test.YtkmdegmpffgplaaGreatDoorLap
import Derived.Test.YtkmdegmpffgplaaGreatDoorLbk
namespace Go.Proofs.YtkmdegmpffgplaaGreatDoor
open Go.ChangeShapes Go.WideShapes Go.ChangeAt Go.RowKit pk
set_option linter.unusedVariables false
set_option linter.unusedSimpArgs false

theorem infoH : (Tryz.prog.info? 44).map (fun i => (i.zero.map (fun z => z.cells.size), i.size, i.bytes)) = some (some 1, 1, 2) := by kernel_rfl
def KH : Kd Nat where
  T := 44
  S := 40
  k := 1
  bt := 2
  enc := fun b => [.int .u16 (b : Int)]
  info := by
    obtain ⟨i, hi, hz⟩ := Option.map_eq_some_iff.1 infoH
    simp only [Prod.mk.injEq] at hz
    obtain ⟨z, hz0, hz1⟩ := Option.map_eq_some_iff.1 hz.1
    exact ⟨i, z, hi, hz0, hz.2.1, hz.2.2, hz1⟩
  und := Tryz.underlying40
  pos := by decide
  len := fun _ => rfl
  one := fun x v h => by simp at h; rw [h]; rfl
def KZ : Kd Int where
  T := 2
  S := 47
  k := 1
  bt := 8
  enc := fun b => [.int .i64 b]
  info := by
    obtain ⟨i, hi, hz⟩ := Option.map_eq_some_iff.1 infoI6
    simp only [Prod.mk.injEq] at hz
    obtain ⟨z, hz0, hz1⟩ := Option.map_eq_some_iff.1 hz.1
    exact ⟨i, z, hi, hz0, hz.2.1, hz.2.2, hz1⟩
  und := Tryz.underlying47
  pos := by decide
  len := fun _ => rfl
  one := fun x v h => by simp at h; rw [h]; rfl
theorem came_us {H : Type} {enc : TypeId × Value → H} {W : World} {fuel : Nat} {a : Option Addr} {len cap : Nat} {d : DataW H} {p : List MemPlace} (h : DataW.trod enc Tryz.prog W 0 (fun _ => true) true fuel 40 (Value.slice a len cap).cells.toList = some (d, p)) :
    ∃ us, Sl KH W (.slice a len cap) us ∧ ∀ u ∈ us, u < 65536 := by
  obtain ⟨v, us, hcs, hs, hno, hw⟩ := came_rows KH (by kernel_rfl) (fun b _ => b < 65536) (fun fuel cs x h => by
    obtain ⟨n, e, _, hwf⟩ := DataW.trod_int Tryz.underlying44 h
    have hb : 0 ≤ n ∧ n ≤ 65535 := by simpa [Lit.wf, IntKind.min, IntKind.max, IntKind.signed, IntKind.bits] using hwf
    refine ⟨n.toNat, ?_, by omega⟩
    rw [e]
    show [Value.int .u16 n] = [Value.int .u16 ((n.toNat : Nat) : Int)]
    rw [show ((n.toNat : Nat) : Int) = n by omega]) h
  obtain rfl : v = .slice a len cap := by simpa [Value.cells] using hcs.symm
  refine ⟨us, hs, fun u hu => ?_⟩
  rcases hw with ⟨_, rfl⟩ | ⟨el, sp, _, _, h3⟩
  · cases hu
  · obtain ⟨i, hi⟩ := List.getElem?_of_mem hu
    obtain ⟨d, _, hd⟩ := h3 i u hi
    exact hd
theorem came_zs {H : Type} {enc : TypeId × Value → H} {W : World} {fuel : Nat} {a : Option Addr} {len cap : Nat} {d : DataW H} {p : List MemPlace} (h : DataW.trod enc Tryz.prog W 0 (fun _ => true) true fuel 47 (Value.slice a len cap).cells.toList = some (d, p)) :
    ∃ us, Sl KZ W (.slice a len cap) us ∧ ∀ u ∈ us, -9223372036854775808 ≤ u ∧ u ≤ 9223372036854775807 := by
  obtain ⟨v, us, hcs, hs, hno, hw⟩ := came_rows KZ (by kernel_rfl) (fun b _ => -9223372036854775808 ≤ b ∧ b ≤ 9223372036854775807) (fun fuel cs x h => by
    obtain ⟨n, e, _, hwf⟩ := DataW.trod_int Tryz.underlying2 h
    have hb : -9223372036854775808 ≤ n ∧ n ≤ 9223372036854775807 := by simpa [Lit.wf, IntKind.min, IntKind.max, IntKind.signed, IntKind.bits] using hwf
    exact ⟨n, by rw [e]; rfl, hb⟩) h
  obtain rfl : v = .slice a len cap := by simpa [Value.cells] using hcs.symm
  refine ⟨us, hs, fun u hu => ?_⟩
  rcases hw with ⟨_, rfl⟩ | ⟨el, sp, _, _, h3⟩
  · cases hu
  · obtain ⟨i, hi⟩ := List.getElem?_of_mem hu
    obtain ⟨d, _, hd⟩ := h3 i u hi
    exact hd
theorem came_ts {H : Type} {enc : TypeId × Value → H} {W : World} {fuel : Nat} {a : Option Addr} {len cap : Nat} {d : DataW H} {p : List MemPlace} (h : DataW.trod enc Tryz.prog W 0 (fun _ => true) true fuel 30 (Value.slice a len cap).cells.toList = some (d, p)) :
    ∃ ts, Sl KT W (.slice a len cap) ts ∧ ∀ t ∈ ts, Bs W (.slice t.a t.bs.length t.c) t.bs := by
  obtain ⟨v, ts, hcs, hs, hno, hw⟩ := came_rows KT (by kernel_rfl) (fun t _ => Bs W (.slice t.a t.bs.length t.c) t.bs) (fun fuel cs x h => by
    obtain ⟨v, bs, e, hb, _⟩ := came_bytes h
    have hB := hb
    obtain ⟨_, a, c, hv, _⟩ := hb
    refine ⟨⟨a, c, bs⟩, ?_, by rw [hv] at hB; exact hB⟩
    rw [e, hv]
    rfl) h
  obtain rfl : v = .slice a len cap := by simpa [Value.cells] using hcs.symm
  refine ⟨ts, hs, fun t ht => ?_⟩
  rcases hw with ⟨_, rfl⟩ | ⟨el, sp, _, _, h3⟩
  · cases ht
  · obtain ⟨i, hi⟩ := List.getElem?_of_mem ht
    obtain ⟨d, _, hd⟩ := h3 i t hi
    exact hd
end Go.Proofs.YtkmdegmpffgplaaGreatDoor
/- log XXIII: Prune of a whole log on an idle disk. -/
namespace Go.Proofs.YtkmdegmpffgplaaGreatDoor
open Go.RowKit Go.Maps Go.Sort Go.Shelf pk
set_option linter.unusedVariables false
set_option linter.unusedSimpArgs false
theorem rmv_idle {R o : Nat} {fs : FS} {k : Nat} (h : (lk fs (nmS k)).isSome = true) : oper ⟨R, o, 0, true, none, fs⟩ ⟨4, nmS k, [], 0⟩ = (0, ⟨R, o + 1, 0, true, none, fs.filter (fun t => decide (t.1 ≠ nmS k))⟩) := oper_idle (nmS_is k) (fun h => by cases h) h
theorem Dst.kel {w w' : World} {B p m R o : Nat} {fs : FS} {per lo : Nat} {rs : List Rc} (h : Dst w B p m R o fs per lo rs) (k : KeL w w') (b : Below B w w') : Dst w' B p m R o fs per lo rs :=
  ⟨h.da.kel k, h.pt.on b, h.tb.on b, h.fil, h.lks, h.rok, h.per, h.few, h.emp⟩
/-- what pruning leaves of a state: d segments are gone -/
structure Prd (per lo : Nat) (rs : List Rc) (n : Int) (d : Nat) : Prop where
  some : d = 0 ∨ (d * per < rs.length ∧ (((lo + d) * per : Nat) : Int) < n)
theorem dst_drop {w w' : World} {B p m R o : Nat} {fs : FS} {per lo : Nat} {rs : List Rc} (h : Dst w B p m R o fs per lo rs) (hT : per < rs.length) (hb : Below B w w') (hd : DA w' B p m ⟨R, o + 1, 0, true, none, fs.filter (fun t => decide (t.1 ≠ nmS lo))⟩) :
    Dst w' B p m R (o + 1) (fs.filter (fun t => decide (t.1 ≠ nmS lo))) per (lo + 1) (rs.drop per) :=
  ⟨hd, h.pt.on hb, h.tb.on hb, fil_drop h.per.1 h.fil (by have := h.few; omega) hT (by have := h.few; have := Nat.div_le_self rs.length per; omega), lks_drop h.per.1 h.lks, fun r hr => h.rok r (List.mem_of_mem_drop hr), h.per, by rw [List.length_drop]; have := h.few; have := h.per; omega, fun e => by have := congrArg List.length e; rw [List.length_drop] at this; simp at this; omega⟩
theorem gst_dropl {per lo : Nat} {rs : List Rc} (hp : 1 ≤ per) (hT : per < rs.length) (l0 : List Nat) : ({ gst per lo rs l0 with low := lo + 1 } : LG) = gst per (lo + 1) (rs.drop per) l0 := (gst_drop hp hT l0 l0).symm
set_option maxRecDepth 100000 in
set_option maxHeartbeats 4000000 in
theorem prune_st (w : World) (B p m R o : Nat) (fs : FS) (per lo lp : Nat) (rs : List Rc) (l0 : List Nat) (h : Dst w B p m R o fs per lo rs) (hg : Lg w lp p (gst per lo rs l0)) (hB : B ≤ lp) (hops : o + rs.length ≤ 4611686018427387000) (n : Int) :
    Calls Tryz.prog 15 #[.pointer (some ⟨lp, 0, none⟩), .int .i64 n] w fun r w' => r = .returned (.int .i64 0) ∧ ∃ (d l1 : Nat) (fs' : FS), Dst w' B p m R (o + d) fs' per (lo + d) (rs.drop (d * per)) ∧ fs'.length ≤ fs.length ∧ Lg w' lp p (gst per (lo + d) (rs.drop (d * per)) l0) ∧ Kel w w' ∧ Below B w w' ∧ Prd per lo rs n d := by
  have HW : Hid (Dst w B p m R o fs per lo rs ∧ Lg w lp p (gst per lo rs l0)) := ⟨h, hg⟩
  have HBL : Hid (B ≤ lp) := hB
  have HPR : Hid ((1 ≤ per ∧ per ≤ 1000) ∧ lo + rs.length ≤ 1000000 ∧ o + rs.length ≤ 4611686018427387000) := ⟨h.per, h.few, hops⟩
  have y6 := hg.cell 37 (v := .bool false) (by rw [show (gst per lo rs l0).cells p = _ from rfl]; unfold LG.cells; rw [gst_ended]; rfl)
  clear h hg hB hops
  go_enter Tryz.func15, Tryz.ntmps15
  go_wp2_with fail
  go_loopw [] (fun wr => ∃ (d l9 : Nat) (fs9 : FS), Hid (Lg wr lp p (gst per (lo + d) (rs.drop (d * per)) l0)) ∧ Hid (Dst wr B p m R (o + d) fs9 per (lo + d) (rs.drop (d * per)) ∧ fs9.length ≤ fs.length ∧ Kel w wr ∧ Below B w wr ∧ Prd per lo rs n d)) (fun wr => 2000000 - (intOf ((wr.cell? ⟨lp, 2, none⟩).getD (.int .i64 0))).toNat)
  case atStart => exact ⟨0, 0, fs, by show Lg _ _ _ _; rw [Nat.zero_mul, List.drop_zero]; exact HW.out.2, by show Dst _ _ _ _ _ _ _ _ _ _ ∧ _; rw [Nat.zero_mul, List.drop_zero]; exact ⟨HW.out.1, Nat.le_refl _, Kel.refl _, Below.refl _ _, ⟨Or.inl rfl⟩⟩⟩
  case round =>
    clear y6
    obtain ⟨d, l9, fs9, HL0, HST⟩ := hrel
    generalize hgj : gst per (lo + d) (rs.drop (d * per)) l0 = gj at *
    obtain ⟨l1, hl1⟩ : ∃ l1, l1 = lo + d := ⟨_, rfl⟩
    obtain ⟨hj, hhj⟩ : ∃ hj, hj = gj.high := ⟨_, rfl⟩
    have HL : Hid (Lg wr lp p gj) := HL0.out
    have HLW : Hid ((gj.cells p)[2]? = some (.int .i64 (l1 : Int))) := (show _ = _ by rw [hl1, ← hgj]; show some (Value.int .i64 ((gst per (lo + d) (rs.drop (d * per)) l0).low : Int)) = _; rw [gst_low])
    have HHI : Hid ((gj.cells p)[3]? = some (.int .i64 (hj : Int))) := (show _ = _ by rw [hhj]; rfl)
    have HEQ : Hid (gj = gst per (lo + d) (rs.drop (d * per)) l0 ∧ l1 = lo + d ∧ hj = l1 + ((rs.drop (d * per)).length - 1) / per) := ⟨hgj.symm, hl1, by rw [hhj, hl1, ← hgj]; rfl⟩
    have HSM : Hid (l1 ≤ 1000000 ∧ (rs.drop (d * per)).length ≤ 1000000 ∧ hj ≤ 3000000) := (show l1 ≤ 1000000 ∧ (rs.drop (d * per)).length ≤ 1000000 ∧ hj ≤ 3000000 from by
      have h1 := HST.out.1.few
      have h2 := HEQ.out.2
      have h3 := Nat.div_le_self ((rs.drop (d * per)).length - 1) per
      generalize ((rs.drop (d * per)).length - 1) / per = z at h2 h3
      clear HEQ HST
      omega)
    have HDL : Hid (d ≤ rs.length) := (show d ≤ rs.length from by
      rcases HST.out.2.2.2.2.some with h1 | ⟨h1, _⟩
      · omega
      · have h2 : d * 1 ≤ d * per := Nat.mul_le_mul_left _ HPR.out.1.1
        omega)
    have HOK : Hid gj.ok := (show gj.ok by
      rw [HEQ.out.1]
      refine ⟨by rw [gst_per]; exact HPR.out.1, by rw [gst_low]; have := HSM.out; have := HEQ.out.2.1; omega, ?_, ?_⟩
      · show lo + d + _ / per ≤ _
        have h2 := HEQ.out.2
        have h3 := HSM.out
        omega
      · rw [gst_next]
        have h1 : (lo + d) * per ≤ 1000000 * 1000 := Nat.mul_le_mul (by have := HSM.out; have := HEQ.out.2.1; omega) HPR.out.1.2
        have h3 := HSM.out
        omega)
    have HLO := (show Hid _ from fun w' (k : Lg w' lp p gj) => lastOf_ok w' lp p gj k HOK.out l1 (by have := HSM.out; omega))
    obtain ⟨la, hla⟩ : ∃ la, la = (l1 + 1) * gj.per := ⟨_, rfl⟩
    rw [← hla] at HLO
    have HLA : Hid (la = (lo + d + 1) * per) := (show _ = _ by rw [hla, HEQ.out.2.1, HEQ.out.1, gst_per])
    clear hgj hl1 hhj hla HL0
    by_cases c1 : hj ≤ l1
    · have HC : Hid ((hj : Int) ≤ (l1 : Int) ∧ True) := ⟨by omega, trivial⟩
      clear c1
      go_upto_region 5 with fail
      refine wp_region_noPanic ?_
      refine wp_region_held_drew (S := fun V => Lg V lp p gj) (by kernel_rfl) (VA.drew HL.out) ?_
      intro hHeld
      have HDr : Hid (Below wr.heap.size wr wr.drew) := (Below.refl _ _).drew
      generalize wr.drew = wd at *
      refine takeD 0 12 (.pointer (some ⟨lp, 0, none⟩)) (by exact rfl) rfl (by kernel_rfl) (by kernel_rfl) (by kernel_rfl) (fun _ _ _ h => h) (Or.inl ⟨by rfl, ?_⟩) (by assumption) ?_
      · intro wq hS
        go_simp
      try simp only [Act.put, List.setIfInBounds_toArray, List.set_cons_zero, List.set_cons_succ]
      refine takeD 1 13 (.pointer (some ⟨lp, 0, none⟩)) (by exact rfl) rfl (by kernel_rfl) (by kernel_rfl) (by kernel_rfl) (fun _ _ _ h => h) (Or.inl ⟨by rfl, ?_⟩) (by assumption) ?_
      · intro wq hS
        go_simp
      try simp only [Act.put, List.setIfInBounds_toArray, List.set_cons_zero, List.set_cons_succ]
      refine takeD 2 14 (.pointer (some ⟨lp, 2, none⟩)) (by exact rfl) rfl (by kernel_rfl) (by kernel_rfl) (by kernel_rfl) (fun _ _ _ h => h) (Or.inl ⟨by rfl, ?_⟩) (by assumption) ?_
      · intro wq hS
        go_simp
      try simp only [Act.put, List.setIfInBounds_toArray, List.set_cons_zero, List.set_cons_succ]
      refine takeD 3 15 (.int .i64 (l1 : Int)) (by exact rfl) rfl (by kernel_rfl) (by kernel_rfl) (by kernel_rfl) (fun _ _ _ h => h) (Or.inl ⟨by rfl, ?_⟩) (by assumption) ?_
      · intro wq hS
        have cc := hS.cell 2 (v := .int .i64 (l1 : Int)) HLW.out
        go_simp
      try simp only [Act.put, List.setIfInBounds_toArray, List.set_cons_zero, List.set_cons_succ]
      refine takeD 4 16 (.pointer (some ⟨lp, 0, none⟩)) (by exact rfl) rfl (by kernel_rfl) (by kernel_rfl) (by kernel_rfl) (fun _ _ _ h => h) (Or.inl ⟨by rfl, ?_⟩) (by assumption) ?_
      · intro wq hS
        go_simp
      try simp only [Act.put, List.setIfInBounds_toArray, List.set_cons_zero, List.set_cons_succ]
      refine takeD 5 17 (.pointer (some ⟨lp, 0, none⟩)) (by exact rfl) rfl (by kernel_rfl) (by kernel_rfl) (by kernel_rfl) (fun _ _ _ h => h) (Or.inl ⟨by rfl, ?_⟩) (by assumption) ?_
      · intro wq hS
        go_simp
      try simp only [Act.put, List.setIfInBounds_toArray, List.set_cons_zero, List.set_cons_succ]
      refine takeD 6 18 (.pointer (some ⟨lp, 3, none⟩)) (by exact rfl) rfl (by kernel_rfl) (by kernel_rfl) (by kernel_rfl) (fun _ _ _ h => h) (Or.inl ⟨by rfl, ?_⟩) (by assumption) ?_
      · intro wq hS
        go_simp
      try simp only [Act.put, List.setIfInBounds_toArray, List.set_cons_zero, List.set_cons_succ]
      refine takeD 7 19 (.int .i64 (hj : Int)) (by exact rfl) rfl (by kernel_rfl) (by kernel_rfl) (by kernel_rfl) (fun _ _ _ h => h) (Or.inl ⟨by rfl, ?_⟩) (by assumption) ?_
      · intro wq hS
        have cc := hS.cell 3 (v := .int .i64 (hj : Int)) HHI.out
        go_simp
      try simp only [Act.put, List.setIfInBounds_toArray, List.set_cons_zero, List.set_cons_succ]
      refine takeD 8 20 (.bool false) (by exact rfl) rfl (by kernel_rfl) (by kernel_rfl) (by kernel_rfl) (fun _ _ _ h => h) (Or.inl ⟨by rfl, ?_⟩) (by assumption) ?_
      · intro wq hS
        have hc := HC.out.1
        have hd : hj ≤ l1 := by omega
        go_simp
      try simp only [Act.put, List.setIfInBounds_toArray, List.set_cons_zero, List.set_cons_succ]
      refine takeD 9 21 (.bool false) (by exact rfl) rfl (by kernel_rfl) (by kernel_rfl) (by kernel_rfl) (fun _ _ _ h => h) (Or.inl ⟨by rfl, ?_⟩) (by assumption) ?_
      · intro wq hS
        go_simp
      try simp only [Act.put, List.setIfInBounds_toArray, List.set_cons_zero, List.set_cons_succ]
      refine takeD 10 22 undef (by exact rfl) rfl (by kernel_rfl) (by kernel_rfl) (by kernel_rfl) (fun _ _ _ h => h) (Or.inr ⟨by rfl, rfl⟩) (by assumption) ?_
      try simp only [Act.put, List.setIfInBounds_toArray, List.set_cons_zero, List.set_cons_succ]
      refine takeD 11 23 undef (by exact rfl) rfl (by kernel_rfl) (by kernel_rfl) (by kernel_rfl) (fun _ _ _ h => h) (Or.inr ⟨by rfl, rfl⟩) (by assumption) ?_
      try simp only [Act.put, List.setIfInBounds_toArray, List.set_cons_zero, List.set_cons_succ]
      refine takeD 12 24 undef (by exact rfl) rfl (by kernel_rfl) (by kernel_rfl) (by kernel_rfl) (fun _ _ _ h => h) (Or.inr ⟨by rfl, rfl⟩) (by assumption) ?_
      try simp only [Act.put, List.setIfInBounds_toArray, List.set_cons_zero, List.set_cons_succ]
      refine takeD 13 25 undef (by exact rfl) rfl (by kernel_rfl) (by kernel_rfl) (by kernel_rfl) (fun _ _ _ h => h) (Or.inr ⟨by rfl, rfl⟩) (by assumption) ?_
      try simp only [Act.put, List.setIfInBounds_toArray, List.set_cons_zero, List.set_cons_succ]
      refine takeD 14 26 undef (by exact rfl) rfl (by kernel_rfl) (by kernel_rfl) (by kernel_rfl) (fun _ _ _ h => h) (Or.inr ⟨by rfl, rfl⟩) (by assumption) ?_
      try simp only [Act.put, List.setIfInBounds_toArray, List.set_cons_zero, List.set_cons_succ]
      refine takeD 15 27 undef (by exact rfl) rfl (by kernel_rfl) (by kernel_rfl) (by kernel_rfl) (fun _ _ _ h => h) (Or.inr ⟨by rfl, rfl⟩) (by assumption) ?_
      try simp only [Act.put, List.setIfInBounds_toArray, List.set_cons_zero, List.set_cons_succ]
      refine takeD 16 28 undef (by exact rfl) rfl (by kernel_rfl) (by kernel_rfl) (by kernel_rfl) (fun _ _ _ h => h) (Or.inr ⟨by rfl, rfl⟩) (by assumption) ?_
      try simp only [Act.put, List.setIfInBounds_toArray, List.set_cons_zero, List.set_cons_succ]
      refine takeD 17 29 undef (by exact rfl) rfl (by kernel_rfl) (by kernel_rfl) (by kernel_rfl) (fun _ _ _ h => h) (Or.inr ⟨by rfl, rfl⟩) (by assumption) ?_
      try simp only [Act.put, List.setIfInBounds_toArray, List.set_cons_zero, List.set_cons_succ]
      refine takeD 18 30 (.bool false) (by exact rfl) rfl (by kernel_rfl) (by kernel_rfl) (by kernel_rfl) (fun _ _ _ h => h) (Or.inl ⟨by rfl, ?_⟩) (by assumption) ?_
      · intro wq hS
        go_simp
      try simp only [Act.put, List.setIfInBounds_toArray, List.set_cons_zero, List.set_cons_succ]
      refine wpAnyH_done (by kernel_rfl) ?_ _
      refine NoPanic.normal ?_
      clear hHeld
      go_wp2_with fail
      go_ret
      exact ⟨rfl, d, l9, fs9, HST.out.1.step HDr.out, HST.out.2.1, by rw [← HEQ.out.1]; exact VA.step HL.out HDr.out, HST.out.2.2.1.trans (Kee.kel (Kee.bel HDr.out)), HST.out.2.2.2.1.trans (HDr.out.mono HST.out.1.da.lt), HST.out.2.2.2.2⟩
    · by_cases c2 : (la : Int) < n
      · have HC : Hid ((l1 : Int) < (hj : Int) ∧ (la : Int) < n) := ⟨by omega, c2⟩
        have HT : Hid (per < (rs.drop (d * per)).length) := (show per < _ by
          have h1 := HEQ.out.2.2
          rcases Nat.lt_or_ge per (rs.drop (d * per)).length with h2 | h2
          · exact h2
          · rw [Nat.div_eq_of_lt (by have := HPR.out.1; omega)] at h1; omega)
        clear c1 c2
        go_upto_region 5 with fail
        refine wp_region_noPanic ?_
        refine wp_region_held_drew (S := fun V => Lg V lp p gj) (by kernel_rfl) (VA.drew HL.out) ?_
        intro hHeld
        have HDr : Hid (Below wr.heap.size wr wr.drew) := (Below.refl _ _).drew
        generalize wr.drew = wd at *
        refine takeD 0 12 (.pointer (some ⟨lp, 0, none⟩)) (by exact rfl) rfl (by kernel_rfl) (by kernel_rfl) (by kernel_rfl) (fun _ _ _ h => h) (Or.inl ⟨by rfl, ?_⟩) (by assumption) ?_
        · intro wq hS
          go_simp
        try simp only [Act.put, List.setIfInBounds_toArray, List.set_cons_zero, List.set_cons_succ]
        refine takeD 1 13 (.pointer (some ⟨lp, 0, none⟩)) (by exact rfl) rfl (by kernel_rfl) (by kernel_rfl) (by kernel_rfl) (fun _ _ _ h => h) (Or.inl ⟨by rfl, ?_⟩) (by assumption) ?_
        · intro wq hS
          go_simp
        try simp only [Act.put, List.setIfInBounds_toArray, List.set_cons_zero, List.set_cons_succ]
        refine takeD 2 14 (.pointer (some ⟨lp, 2, none⟩)) (by exact rfl) rfl (by kernel_rfl) (by kernel_rfl) (by kernel_rfl) (fun _ _ _ h => h) (Or.inl ⟨by rfl, ?_⟩) (by assumption) ?_
        · intro wq hS
          go_simp
        try simp only [Act.put, List.setIfInBounds_toArray, List.set_cons_zero, List.set_cons_succ]
        refine takeD 3 15 (.int .i64 (l1 : Int)) (by exact rfl) rfl (by kernel_rfl) (by kernel_rfl) (by kernel_rfl) (fun _ _ _ h => h) (Or.inl ⟨by rfl, ?_⟩) (by assumption) ?_
        · intro wq hS
          have cc := hS.cell 2 (v := .int .i64 (l1 : Int)) HLW.out
          go_simp
        try simp only [Act.put, List.setIfInBounds_toArray, List.set_cons_zero, List.set_cons_succ]
        refine takeD 4 16 (.pointer (some ⟨lp, 0, none⟩)) (by exact rfl) rfl (by kernel_rfl) (by kernel_rfl) (by kernel_rfl) (fun _ _ _ h => h) (Or.inl ⟨by rfl, ?_⟩) (by assumption) ?_
        · intro wq hS
          go_simp
        try simp only [Act.put, List.setIfInBounds_toArray, List.set_cons_zero, List.set_cons_succ]
        refine takeD 5 17 (.pointer (some ⟨lp, 0, none⟩)) (by exact rfl) rfl (by kernel_rfl) (by kernel_rfl) (by kernel_rfl) (fun _ _ _ h => h) (Or.inl ⟨by rfl, ?_⟩) (by assumption) ?_
        · intro wq hS
          go_simp
        try simp only [Act.put, List.setIfInBounds_toArray, List.set_cons_zero, List.set_cons_succ]
        refine takeD 6 18 (.pointer (some ⟨lp, 3, none⟩)) (by exact rfl) rfl (by kernel_rfl) (by kernel_rfl) (by kernel_rfl) (fun _ _ _ h => h) (Or.inl ⟨by rfl, ?_⟩) (by assumption) ?_
        · intro wq hS
          go_simp
        try simp only [Act.put, List.setIfInBounds_toArray, List.set_cons_zero, List.set_cons_succ]
        refine takeD 7 19 (.int .i64 (hj : Int)) (by exact rfl) rfl (by kernel_rfl) (by kernel_rfl) (by kernel_rfl) (fun _ _ _ h => h) (Or.inl ⟨by rfl, ?_⟩) (by assumption) ?_
        · intro wq hS
          have cc := hS.cell 3 (v := .int .i64 (hj : Int)) HHI.out
          go_simp
        try simp only [Act.put, List.setIfInBounds_toArray, List.set_cons_zero, List.set_cons_succ]
        refine takeD 8 20 (.bool true) (by exact rfl) rfl (by kernel_rfl) (by kernel_rfl) (by kernel_rfl) (fun _ _ _ h => h) (Or.inl ⟨by rfl, ?_⟩) (by assumption) ?_
        · intro wq hS
          have hc := HC.out.1
          have hd : l1 < hj := by omega
          go_simp
        try simp only [Act.put, List.setIfInBounds_toArray, List.set_cons_zero, List.set_cons_succ]
        refine takeD 9 21 (.bool true) (by exact rfl) rfl (by kernel_rfl) (by kernel_rfl) (by kernel_rfl) (fun _ _ _ h => h) (Or.inl ⟨by rfl, ?_⟩) (by assumption) ?_
        · intro wq hS
          go_simp
        try simp only [Act.put, List.setIfInBounds_toArray, List.set_cons_zero, List.set_cons_succ]
        refine takeD 10 22 (.pointer (some ⟨lp, 0, none⟩)) (by exact rfl) rfl (by kernel_rfl) (by kernel_rfl) (by kernel_rfl) (fun _ _ _ h => h) (Or.inl ⟨by rfl, ?_⟩) (by assumption) ?_
        · intro wq hS
          go_simp
        try simp only [Act.put, List.setIfInBounds_toArray, List.set_cons_zero, List.set_cons_succ]
        refine takeD 11 23 (.pointer (some ⟨lp, 0, none⟩)) (by exact rfl) rfl (by kernel_rfl) (by kernel_rfl) (by kernel_rfl) (fun _ _ _ h => h) (Or.inl ⟨by rfl, ?_⟩) (by assumption) ?_
        · intro wq hS
          go_simp
        try simp only [Act.put, List.setIfInBounds_toArray, List.set_cons_zero, List.set_cons_succ]
        refine takeD 12 24 (.pointer (some ⟨lp, 0, none⟩)) (by exact rfl) rfl (by kernel_rfl) (by kernel_rfl) (by kernel_rfl) (fun _ _ _ h => h) (Or.inl ⟨by rfl, ?_⟩) (by assumption) ?_
        · intro wq hS
          go_simp
        try simp only [Act.put, List.setIfInBounds_toArray, List.set_cons_zero, List.set_cons_succ]
        refine takeD 13 25 (.pointer (some ⟨lp, 2, none⟩)) (by exact rfl) rfl (by kernel_rfl) (by kernel_rfl) (by kernel_rfl) (fun _ _ _ h => h) (Or.inl ⟨by rfl, ?_⟩) (by assumption) ?_
        · intro wq hS
          go_simp
        try simp only [Act.put, List.setIfInBounds_toArray, List.set_cons_zero, List.set_cons_succ]
        refine takeD 14 26 (.int .i64 (l1 : Int)) (by exact rfl) rfl (by kernel_rfl) (by kernel_rfl) (by kernel_rfl) (fun _ _ _ h => h) (Or.inl ⟨by rfl, ?_⟩) (by assumption) ?_
        · intro wq hS
          have cc := hS.cell 2 (v := .int .i64 (l1 : Int)) HLW.out
          go_simp
        try simp only [Act.put, List.setIfInBounds_toArray, List.set_cons_zero, List.set_cons_succ]
        refine takeD 16 28 (.int .i64 n) (by exact rfl) rfl (by kernel_rfl) (by kernel_rfl) (by kernel_rfl) (fun _ _ _ h => h) (Or.inl ⟨by rfl, ?_⟩) (by assumption) ?_
        · intro wq hS
          go_simp
        try simp only [Act.put, List.setIfInBounds_toArray, List.set_cons_zero, List.set_cons_succ]
        refine wpAnyH_ready (rs := [15]) (by kernel_rfl) (by simp) ?_
        refine AllReadyH.cons (by exact rfl) (fun K hK => ?_) AllReadyH.nil
        go_simp
        refine (HLO.out wd hHeld).mono ?_
        rintro e we ⟨rfl, hwe⟩
        obtain rfl := hwe.symm
        go_wp2_with fail
        refine hK.out _ _ hHeld (fun hHeld => ?_)
        clear hK K 
        try simp only [Act.put, List.setIfInBounds_toArray, List.set_cons_zero, List.set_cons_succ]
        refine takeD 17 29 (.bool true) (by exact rfl) rfl (by kernel_rfl) (by kernel_rfl) (by kernel_rfl) (fun _ _ _ h => h) (Or.inl ⟨by rfl, ?_⟩) (by assumption) ?_
        · intro wq hS
          have hc := HC.out.2
          go_simp
        try simp only [Act.put, List.setIfInBounds_toArray, List.set_cons_zero, List.set_cons_succ]
        refine takeD 18 30 (.bool true) (by exact rfl) rfl (by kernel_rfl) (by kernel_rfl) (by kernel_rfl) (fun _ _ _ h => h) (Or.inl ⟨by rfl, ?_⟩) (by assumption) ?_
        · intro wq hS
          go_simp
        try simp only [Act.put, List.setIfInBounds_toArray, List.set_cons_zero, List.set_cons_succ]
        refine wpAnyH_done (by kernel_rfl) ?_ _
        refine NoPanic.normal ?_
        clear hHeld
        have HD1 : Hid (Below wr.heap.size wr wd) := HDr.out
        have HL1 : Hid (Lg wd lp p gj) := VA.step HL.out HDr.out
        have HST1 : Hid (Dst wd B p m R (o + d) fs9 per (lo + d) (rs.drop (d * per))) := HST.out.1.step HDr.out
        clear HDr
        go_upto_region 6 with fail
        refine wp_region_noPanic ?_
        refine wp_region_held_drew (S := fun V => Lg V lp p gj) (by kernel_rfl) (VA.drew HL1.out) ?_
        intro hHeld
        have HD2 : Hid (Below wd.heap.size wd wd.drew) := (Below.refl _ _).drew
        generalize wd.drew = w2 at *
        refine takeD 0 31 (.pointer (some ⟨lp, 0, none⟩)) (by exact rfl) rfl (by kernel_rfl) (by kernel_rfl) (by kernel_rfl) (fun _ _ _ h => h) (Or.inl ⟨by rfl, ?_⟩) (by assumption) ?_
        · intro wq hS
          go_simp
        try simp only [Act.put, List.setIfInBounds_toArray, List.set_cons_zero, List.set_cons_succ]
        refine takeD 1 32 (.pointer (some ⟨lp, 0, none⟩)) (by exact rfl) rfl (by kernel_rfl) (by kernel_rfl) (by kernel_rfl) (fun _ _ _ h => h) (Or.inl ⟨by rfl, ?_⟩) (by assumption) ?_
        · intro wq hS
          go_simp
        try simp only [Act.put, List.setIfInBounds_toArray, List.set_cons_zero, List.set_cons_succ]
        refine takeD 2 33 (.pointer (some ⟨lp, 0, none⟩)) (by exact rfl) rfl (by kernel_rfl) (by kernel_rfl) (by kernel_rfl) (fun _ _ _ h => h) (Or.inl ⟨by rfl, ?_⟩) (by assumption) ?_
        · intro wq hS
          go_simp
        try simp only [Act.put, List.setIfInBounds_toArray, List.set_cons_zero, List.set_cons_succ]
        refine takeD 3 34 (.pointer (some ⟨p, 0, none⟩)) (by exact rfl) rfl (by kernel_rfl) (by kernel_rfl) (by kernel_rfl) (fun _ _ _ h => h) (Or.inl ⟨by rfl, ?_⟩) (by assumption) ?_
        · intro wq hS
          have cc := hS.cell 0 (v := .pointer (some ⟨p, 0, none⟩)) rfl
          go_simp
        try simp only [Act.put, List.setIfInBounds_toArray, List.set_cons_zero, List.set_cons_succ]
        refine takeD 4 35 (.pointer (some ⟨lp, 0, none⟩)) (by exact rfl) rfl (by kernel_rfl) (by kernel_rfl) (by kernel_rfl) (fun _ _ _ h => h) (Or.inl ⟨by rfl, ?_⟩) (by assumption) ?_
        · intro wq hS
          go_simp
        try simp only [Act.put, List.setIfInBounds_toArray, List.set_cons_zero, List.set_cons_succ]
        refine takeD 5 36 (.pointer (some ⟨lp, 0, none⟩)) (by exact rfl) rfl (by kernel_rfl) (by kernel_rfl) (by kernel_rfl) (fun _ _ _ h => h) (Or.inl ⟨by rfl, ?_⟩) (by assumption) ?_
        · intro wq hS
          go_simp
        try simp only [Act.put, List.setIfInBounds_toArray, List.set_cons_zero, List.set_cons_succ]
        refine takeD 6 37 (.pointer (some ⟨lp, 2, none⟩)) (by exact rfl) rfl (by kernel_rfl) (by kernel_rfl) (by kernel_rfl) (fun _ _ _ h => h) (Or.inl ⟨by rfl, ?_⟩) (by assumption) ?_
        · intro wq hS
          go_simp
        try simp only [Act.put, List.setIfInBounds_toArray, List.set_cons_zero, List.set_cons_succ]
        refine takeD 7 38 (.int .i64 (l1 : Int)) (by exact rfl) rfl (by kernel_rfl) (by kernel_rfl) (by kernel_rfl) (fun _ _ _ h => h) (Or.inl ⟨by rfl, ?_⟩) (by assumption) ?_
        · intro wq hS
          have cc := hS.cell 2 (v := .int .i64 (l1 : Int)) HLW.out
          go_simp
        try simp only [Act.put, List.setIfInBounds_toArray, List.set_cons_zero, List.set_cons_succ]
        refine wpAnyH_ready (rs := [8]) (by kernel_rfl) (by simp) ?_
        refine AllReadyH.cons (by exact rfl) (fun K hK => ?_) AllReadyH.nil
        go_simp
        refine (sname_ok l1 w2 (by have := HSM.out; omega) (HST1.out.step HD2.out).pt.pt).mono ?_
        rintro e w3 ⟨rfl, b3⟩
        have HD3 : Hid (Below wd.heap.size wd w3) := HD2.out.trans (b3.mono HD2.out.size)
        go_wp2_with fail
        refine hK.out _ _ (VA.step HL1.out HD3.out) (fun hHeld => ?_)
        clear hK K b3 HD2
        try simp only [Act.put, List.setIfInBounds_toArray, List.set_cons_zero, List.set_cons_succ]
        refine wpAnyH_ready (rs := [9]) (by kernel_rfl) (by simp) ?_
        refine AllReadyH.cons (by exact rfl) (fun K hK => ?_) AllReadyH.nil
        go_simp
        refine (remove_any w3 B p m _ (HST1.out.step HD3.out).da ⟨(nmS l1).toArray⟩ (by show (nmS l1).toArray.size ≤ _; simp [nmS_len]) (by show o + d ≤ _; have := HPR.out; have := HDL.out; omega) (by show 0 ≤ _; omega)).mono ?_
        rintro e w4 ⟨rfl, h4, k4, b4⟩
        have hid : oper ⟨R, o + d, 0, true, none, fs9⟩ ⟨4, (⟨(nmS l1).toArray⟩ : ByteArray).data.toList, [], 0⟩ = (0, ⟨R, o + d + 1, 0, true, none, fs9.filter (fun t => decide (t.1 ≠ nmS l1))⟩) := rmv_idle (by
          obtain ⟨t, e1, _⟩ := HST1.out.fil.file 0 (by have := HT.out; omega)
          rw [HEQ.out.2.1]
          rw [Nat.add_zero] at e1
          rw [e1]
          rfl)
        rw [hid] at h4 ⊢
        have HST4 : Hid (Dst w4 B p m R (o + d + 1) (fs9.filter (fun t => decide (t.1 ≠ nmS l1))) per (lo + d + 1) ((rs.drop (d * per)).drop per)) := (show _ by
          have e2 := HEQ.out.2.1
          rw [e2] at h4 ⊢
          exact dst_drop (HST1.out.step HD3.out) HT.out b4 h4)
        have HK4 : Hid (Kel wd w4 ∧ Below B wd w4) := ⟨(Kee.kel (Kee.bel HD3.out)).trans (Kee.kel k4), (HD3.out.mono HST1.out.da.lt).trans b4⟩
        have HL4 : Hid (Lg w4 lp p gj) := Lg.kee (w := w3) (VA.step HL1.out HD3.out) k4
        clear h4 k4 b4 hid
        dsimp only
        go_wp2_with fail
        refine hK.out _ _ HL4.out (fun hHeld => ?_)
        clear hK K HD3
        try simp only [Act.put, List.setIfInBounds_toArray, List.set_cons_zero, List.set_cons_succ]
        refine takeD 10 5 (.int .i64 0) (by exact rfl) rfl (by kernel_rfl) (by kernel_rfl) (by kernel_rfl) (fun _ _ _ h => h) (Or.inl ⟨by rfl, ?_⟩) (by assumption) ?_
        · intro wq hS
          go_simp
        try simp only [Act.put, List.setIfInBounds_toArray, List.set_cons_zero, List.set_cons_succ]
        refine wpAnyH_done (by kernel_rfl) ?_ _
        refine NoPanic.normal ?_
        clear hHeld
        have y2 := HL4.out.cell 2 (v := .int .i64 (l1 : Int)) HLW.out
        have f2 := HL4.out.free 2
        have hl1b : l1 ≤ 1000000 := HSM.out.1
        go_wp2_with fail
        have HL5 : Hid (Lg (w4.setCell ⟨lp, 2, none⟩ (.int .i64 ((l1 : Int) + 1))) lp p (gst per (lo + d + 1) ((rs.drop (d * per)).drop per) l0)) := (show Lg _ _ _ _ by
          have h5 := HL4.out.set 2 (.int .i64 ((l1 : Int) + 1))
          have e1 : (gj.cells p).set 2 (.int .i64 ((l1 : Int) + 1)) = ({ gj with low := l1 + 1 } : LG).cells p := rfl
          rw [e1] at h5
          have e2 : ({ gj with low := l1 + 1 } : LG) = gst per (lo + d + 1) ((rs.drop (d * per)).drop per) l0 := by
            rw [HEQ.out.1, HEQ.out.2.1]
            exact gst_dropl HPR.out.1.1 HT.out l0
          rw [e2] at h5
          exact h5)
        have hk5 : KeL w4 (w4.setCell ⟨lp, 2, none⟩ (.int .i64 ((l1 : Int) + 1))) := KeL.upd (upd_set w4 lp 2 _) HL4.out
        have hb5 : Below B w4 (w4.setCell ⟨lp, 2, none⟩ (.int .i64 ((l1 : Int) + 1))) := ((But.refl (fun i => i = lp) w4).upd (upd_set w4 lp 2 _)).below HST4.out.da.lt (fun i hi => by have h1 : i = lp := hi; rw [h1]; exact HBL.out)
        have HK5 := (show Hid _ from And.intro hk5 hb5)
        have yr := HL.out.cell 2 (v := .int .i64 (l1 : Int)) HLW.out
        have y5 : (w4.setCell ⟨lp, 2, none⟩ (.int .i64 ((l1 : Int) + 1))).cell? ⟨lp, 2, none⟩ = some (.int .i64 ((l1 + 1 : Nat) : Int)) := HL5.out.cell 2 (by
          show some (Value.int .i64 ((gst per (lo + d + 1) ((rs.drop (d * per)).drop per) l0).low : Int)) = _
          rw [gst_low, HEQ.out.2.1])
        have HDD : Hid ((rs.drop (d * per)).drop per = rs.drop ((d + 1) * per)) := (show (rs.drop (d * per)).drop per = rs.drop ((d + 1) * per) from by rw [List.drop_drop, Nat.add_mul, Nat.one_mul])
        clear hk5 hb5 y2 f2
        generalize w4.setCell ⟨lp, 2, none⟩ (.int .i64 ((l1 : Int) + 1)) = w5 at *
        refine ⟨⟨d + 1, l9, fs9.filter (fun t => decide (t.1 ≠ nmS l1)), ?_, ?_⟩, ?_⟩
        · have h1 := HL5.out
          rw [HDD.out] at h1
          exact h1
        · refine ⟨?_, Nat.le_trans (List.length_filter_le _ _) HST.out.2.1, HST.out.2.2.1.trans ((Kee.kel (Kee.bel HD1.out)).trans (HK4.out.1.trans HK5.out.1.kel)), HST.out.2.2.2.1.trans ((HD1.out.mono HST.out.1.da.lt).trans (HK4.out.2.trans HK5.out.2)), ⟨Or.inr ⟨?_, ?_⟩⟩⟩
          · have h1 := HST4.out.kel HK5.out.1 HK5.out.2
            rw [HDD.out] at h1
            exact h1
          · have h1 := HT.out
            rw [List.length_drop] at h1
            rw [Nat.add_mul, Nat.one_mul]
            omega
          · have h1 := HC.out.2
            rw [HLA.out] at h1
            exact h1
        · rw [y5, yr]
          show 2000000 - (((l1 + 1 : Nat) : Int)).toNat < 2000000 - ((l1 : Int)).toNat
          omega
      · have HC : Hid ((l1 : Int) < (hj : Int) ∧ ¬ (la : Int) < n) := ⟨by omega, c2⟩
        clear c1 c2
        go_upto_region 5 with fail
        refine wp_region_noPanic ?_
        refine wp_region_held_drew (S := fun V => Lg V lp p gj) (by kernel_rfl) (VA.drew HL.out) ?_
        intro hHeld
        have HDr : Hid (Below wr.heap.size wr wr.drew) := (Below.refl _ _).drew
        generalize wr.drew = wd at *
        refine takeD 0 12 (.pointer (some ⟨lp, 0, none⟩)) (by exact rfl) rfl (by kernel_rfl) (by kernel_rfl) (by kernel_rfl) (fun _ _ _ h => h) (Or.inl ⟨by rfl, ?_⟩) (by assumption) ?_
        · intro wq hS
          go_simp
        try simp only [Act.put, List.setIfInBounds_toArray, List.set_cons_zero, List.set_cons_succ]
        refine takeD 1 13 (.pointer (some ⟨lp, 0, none⟩)) (by exact rfl) rfl (by kernel_rfl) (by kernel_rfl) (by kernel_rfl) (fun _ _ _ h => h) (Or.inl ⟨by rfl, ?_⟩) (by assumption) ?_
        · intro wq hS
          go_simp
        try simp only [Act.put, List.setIfInBounds_toArray, List.set_cons_zero, List.set_cons_succ]
        refine takeD 2 14 (.pointer (some ⟨lp, 2, none⟩)) (by exact rfl) rfl (by kernel_rfl) (by kernel_rfl) (by kernel_rfl) (fun _ _ _ h => h) (Or.inl ⟨by rfl, ?_⟩) (by assumption) ?_
        · intro wq hS
          go_simp
        try simp only [Act.put, List.setIfInBounds_toArray, List.set_cons_zero, List.set_cons_succ]
        refine takeD 3 15 (.int .i64 (l1 : Int)) (by exact rfl) rfl (by kernel_rfl) (by kernel_rfl) (by kernel_rfl) (fun _ _ _ h => h) (Or.inl ⟨by rfl, ?_⟩) (by assumption) ?_
        · intro wq hS
          have cc := hS.cell 2 (v := .int .i64 (l1 : Int)) HLW.out
          go_simp
        try simp only [Act.put, List.setIfInBounds_toArray, List.set_cons_zero, List.set_cons_succ]
        refine takeD 4 16 (.pointer (some ⟨lp, 0, none⟩)) (by exact rfl) rfl (by kernel_rfl) (by kernel_rfl) (by kernel_rfl) (fun _ _ _ h => h) (Or.inl ⟨by rfl, ?_⟩) (by assumption) ?_
        · intro wq hS
          go_simp
        try simp only [Act.put, List.setIfInBounds_toArray, List.set_cons_zero, List.set_cons_succ]
        refine takeD 5 17 (.pointer (some ⟨lp, 0, none⟩)) (by exact rfl) rfl (by kernel_rfl) (by kernel_rfl) (by kernel_rfl) (fun _ _ _ h => h) (Or.inl ⟨by rfl, ?_⟩) (by assumption) ?_
        · intro wq hS
          go_simp
        try simp only [Act.put, List.setIfInBounds_toArray, List.set_cons_zero, List.set_cons_succ]
        refine takeD 6 18 (.pointer (some ⟨lp, 3, none⟩)) (by exact rfl) rfl (by kernel_rfl) (by kernel_rfl) (by kernel_rfl) (fun _ _ _ h => h) (Or.inl ⟨by rfl, ?_⟩) (by assumption) ?_
        · intro wq hS
          go_simp
        try simp only [Act.put, List.setIfInBounds_toArray, List.set_cons_zero, List.set_cons_succ]
        refine takeD 7 19 (.int .i64 (hj : Int)) (by exact rfl) rfl (by kernel_rfl) (by kernel_rfl) (by kernel_rfl) (fun _ _ _ h => h) (Or.inl ⟨by rfl, ?_⟩) (by assumption) ?_
        · intro wq hS
          have cc := hS.cell 3 (v := .int .i64 (hj : Int)) HHI.out
          go_simp
        try simp only [Act.put, List.setIfInBounds_toArray, List.set_cons_zero, List.set_cons_succ]
        refine takeD 8 20 (.bool true) (by exact rfl) rfl (by kernel_rfl) (by kernel_rfl) (by kernel_rfl) (fun _ _ _ h => h) (Or.inl ⟨by rfl, ?_⟩) (by assumption) ?_
        · intro wq hS
          have hc := HC.out.1
          have hd : l1 < hj := by omega
          go_simp
        try simp only [Act.put, List.setIfInBounds_toArray, List.set_cons_zero, List.set_cons_succ]
        refine takeD 9 21 (.bool true) (by exact rfl) rfl (by kernel_rfl) (by kernel_rfl) (by kernel_rfl) (fun _ _ _ h => h) (Or.inl ⟨by rfl, ?_⟩) (by assumption) ?_
        · intro wq hS
          go_simp
        try simp only [Act.put, List.setIfInBounds_toArray, List.set_cons_zero, List.set_cons_succ]
        refine takeD 10 22 (.pointer (some ⟨lp, 0, none⟩)) (by exact rfl) rfl (by kernel_rfl) (by kernel_rfl) (by kernel_rfl) (fun _ _ _ h => h) (Or.inl ⟨by rfl, ?_⟩) (by assumption) ?_
        · intro wq hS
          go_simp
        try simp only [Act.put, List.setIfInBounds_toArray, List.set_cons_zero, List.set_cons_succ]
        refine takeD 11 23 (.pointer (some ⟨lp, 0, none⟩)) (by exact rfl) rfl (by kernel_rfl) (by kernel_rfl) (by kernel_rfl) (fun _ _ _ h => h) (Or.inl ⟨by rfl, ?_⟩) (by assumption) ?_
        · intro wq hS
          go_simp
        try simp only [Act.put, List.setIfInBounds_toArray, List.set_cons_zero, List.set_cons_succ]
        refine takeD 12 24 (.pointer (some ⟨lp, 0, none⟩)) (by exact rfl) rfl (by kernel_rfl) (by kernel_rfl) (by kernel_rfl) (fun _ _ _ h => h) (Or.inl ⟨by rfl, ?_⟩) (by assumption) ?_
        · intro wq hS
          go_simp
        try simp only [Act.put, List.setIfInBounds_toArray, List.set_cons_zero, List.set_cons_succ]
        refine takeD 13 25 (.pointer (some ⟨lp, 2, none⟩)) (by exact rfl) rfl (by kernel_rfl) (by kernel_rfl) (by kernel_rfl) (fun _ _ _ h => h) (Or.inl ⟨by rfl, ?_⟩) (by assumption) ?_
        · intro wq hS
          go_simp
        try simp only [Act.put, List.setIfInBounds_toArray, List.set_cons_zero, List.set_cons_succ]
        refine takeD 14 26 (.int .i64 (l1 : Int)) (by exact rfl) rfl (by kernel_rfl) (by kernel_rfl) (by kernel_rfl) (fun _ _ _ h => h) (Or.inl ⟨by rfl, ?_⟩) (by assumption) ?_
        · intro wq hS
          have cc := hS.cell 2 (v := .int .i64 (l1 : Int)) HLW.out
          go_simp
        try simp only [Act.put, List.setIfInBounds_toArray, List.set_cons_zero, List.set_cons_succ]
        refine takeD 16 28 (.int .i64 n) (by exact rfl) rfl (by kernel_rfl) (by kernel_rfl) (by kernel_rfl) (fun _ _ _ h => h) (Or.inl ⟨by rfl, ?_⟩) (by assumption) ?_
        · intro wq hS
          go_simp
        try simp only [Act.put, List.setIfInBounds_toArray, List.set_cons_zero, List.set_cons_succ]
        refine wpAnyH_ready (rs := [15]) (by kernel_rfl) (by simp) ?_
        refine AllReadyH.cons (by exact rfl) (fun K hK => ?_) AllReadyH.nil
        go_simp
        refine (HLO.out wd hHeld).mono ?_
        rintro e we ⟨rfl, hwe⟩
        obtain rfl := hwe.symm
        go_wp2_with fail
        refine hK.out _ _ hHeld (fun hHeld => ?_)
        clear hK K 
        try simp only [Act.put, List.setIfInBounds_toArray, List.set_cons_zero, List.set_cons_succ]
        refine takeD 17 29 (.bool false) (by exact rfl) rfl (by kernel_rfl) (by kernel_rfl) (by kernel_rfl) (fun _ _ _ h => h) (Or.inl ⟨by rfl, ?_⟩) (by assumption) ?_
        · intro wq hS
          have hc := HC.out.2
          go_simp
        try simp only [Act.put, List.setIfInBounds_toArray, List.set_cons_zero, List.set_cons_succ]
        refine takeD 18 30 (.bool false) (by exact rfl) rfl (by kernel_rfl) (by kernel_rfl) (by kernel_rfl) (fun _ _ _ h => h) (Or.inl ⟨by rfl, ?_⟩) (by assumption) ?_
        · intro wq hS
          go_simp
        try simp only [Act.put, List.setIfInBounds_toArray, List.set_cons_zero, List.set_cons_succ]
        refine wpAnyH_done (by kernel_rfl) ?_ _
        refine NoPanic.normal ?_
        clear hHeld
        go_wp2_with fail
        go_ret
        exact ⟨rfl, d, l9, fs9, HST.out.1.step HDr.out, HST.out.2.1, by rw [← HEQ.out.1]; exact VA.step HL.out HDr.out, HST.out.2.2.1.trans (Kee.kel (Kee.bel HDr.out)), HST.out.2.2.2.1.trans (HDr.out.mono HST.out.1.da.lt), HST.out.2.2.2.2⟩
end Go.Proofs.YtkmdegmpffgplaaGreatDoor
