/- event: the reader's event, and Read, of an event's bytes. -/
import Derived.Test.YtcognhhbpapibaaDoorEh
namespace Go.Proofs.YtcognhhbpapibaaDoor
open Go.RowKit
set_option linter.unusedVariables false

theorem E8.bytes_eq {x : E8} (h : x.ok) : x.bytes = [x.op] ++ (enc x.key ++ ((x.ns.take (ct.getD x.op 0)).flatMap n1 ++ (if x.op = 1 then enc x.ts.length ++ (x.ts.flatMap t2 ++ []) else []))) := by
  unfold E8.bytes E8.head
  rw [nbs_eq _ _ (by rw [h.len]; exact ct_le _), tbs_all]
  simp [List.append_assoc]
theorem zero_cells : ((E8.mk 0 0 (List.replicate 8 0) []).cells (.slice none 0 0)) = [.int .u8 0, .int .u64 0, .int .i64 0, .int .i64 0, .int .i64 0, .int .i64 0, .int .i64 0, .int .i64 0, .int .i64 0, .int .i64 0, .slice none 0 0] := rfl
theorem set0 (x : E8) (o : Nat) (tv : Value) : (x.cells tv).set 0 (.int .u8 (o : Int)) = ({ x with op := o } : E8).cells tv := rfl
theorem set1 (x : E8) (k : Nat) (tv : Value) : (x.cells tv).set 1 (.int .u64 (k : Int)) = ({ x with key := k } : E8).cells tv := rfl
theorem Ex.upd_new {p g : Nat} {a w w' : World} (h : Ex p a w) (k : Upd g w w') (hg : a.heap.size ≤ g) : Ex p a w' :=
  ⟨k.os.trans h.os, k.tape.trans h.tape, k.output.trans h.output, by rw [k.size]; exact h.size, fun j hj hp => (k.block j (by omega)).trans (h.block j hj hp)⟩
theorem Tr.upd {w w' : World} {g : Nat} {v : Value} {ts : List (Int × Int)} (h : Tr w v ts) (k : Upd g w w') (hg : ∀ b off n c, v = .slice (some ⟨b, off, none⟩) n c → b ≠ g) : Tr w' v ts := by
  obtain ⟨hw, a, c, e, h1, h2, h3⟩ := h
  refine ⟨hw, a, c, e, h1, h2, fun h0 => ?_⟩
  obtain ⟨b, off, ea, hb, hx⟩ := h3 h0
  have hne := hg b off _ _ (by rw [e, ea])
  refine ⟨b, off, ea, by rw [k.size]; exact hb, fun j hj => ?_⟩
  have := hx j hj
  exact ⟨(World.cell?_of_block (w := w) (a := ⟨b, off + 2 * j, none⟩) (k.block b hne)).trans this.1, (World.cell?_of_block (w := w) (a := ⟨b, off + 2 * j + 1, none⟩) (k.block b hne)).trans this.2⟩
theorem ev_one {x : E8} {a : Option Addr} {n c : Nat} {u : Value} (h : u ∈ x.cells (.slice a n c)) : u.oneCell' = true := by
  unfold E8.cells at h
  simp only [List.mem_append, List.mem_cons, List.mem_map, List.not_mem_nil, or_false] at h
  rcases h with ((rfl | rfl) | ⟨n, _, rfl⟩) | rfl <;> rfl
theorem tr_nil (w : World) : Tr w (.slice none 0 0) [] := ⟨fun t h => by simp at h, none, 0, rfl, Nat.le_refl _, by omega, fun h => by simp at h⟩
set_option maxHeartbeats 1000000 in
set_option maxRecDepth 100000 in
theorem event_yes (p : Nat) (v : Value) (x : E8) (w0 w : World) (hx : x.ok) (hf : x.form) (wf : ∀ t ∈ x.ts, I64 t.1 ∧ I64 t.2) (T : Tc w) (h : Rd w p v false) (hB : Below w0.heap.size w0 w) (hp : w0.heap.size ≤ p) (h0 : 0 < w0.heap.size) (hv : Bs w0 v x.bytes) :
    Calls Tryd.prog 28 #[.pointer (some ⟨p, 0, none⟩)] w fun r w' => (∃ tv v', r = .returned (.agg (x.cells tv).toArray) ∧ (∀ b off n c, tv = .slice (some ⟨b, off, none⟩) n c → w.heap.size ≤ b) ∧ Tr w' tv x.ts ∧ Rd w' p v' false ∧ Bs w0 v' []) ∧ Ex p w w' := by
  rw [E8.bytes_eq hx] at hv
  have hps := h.lt
  have D1 := (Below.refl w.heap.size w).alloc (Nat.le_refl _) (.cells (E8.cells ⟨0, 0, List.replicate 8 0, []⟩ (.slice none 0 0)).toArray 26)
  have D2 := D1.alloc (by simp) (.cells (E8.cells ⟨0, 0, List.replicate 8 0, []⟩ (.slice none 0 0)).toArray 26)
  have A1 := (va_new w (E8.cells ⟨0, 0, List.replicate 8 0, []⟩ (.slice none 0 0)) 26).alloc (.cells (E8.cells ⟨0, 0, List.replicate 8 0, []⟩ (.slice none 0 0)).toArray 26)
  have A2 := va_new (w.alloc (.cells (E8.cells ⟨0, 0, List.replicate 8 0, []⟩ (.slice none 0 0)).toArray 26)) (E8.cells ⟨0, 0, List.replicate 8 0, []⟩ (.slice none 0 0)) 26
  rw [World.size_alloc] at A2
  have R0 := VA.step h D2
  have HA : Hid (VA _ w.heap.size _ _ ∧ VA _ (w.heap.size + 1) _ _) := ⟨A1, A2⟩
  have HR := (show Hid _ from R0)
  have HD := (show Hid _ from D2)
  have HB0 := (show Hid _ from hB)
  have HB := (show Hid _ from hB.trans (D2.mono hB.size))
  have HT := (show Hid _ from T.step D2 (by omega))
  have HV := (show Hid _ from hv)
  have HX := (show Hid _ from hx)
  have HF := (show Hid _ from hf)
  have HW := (show Hid _ from wf)
  have o1 := hf.lo
  have o2 := hf.hi
  have ck := hx.key
  clear A1 A2 R0 D1 D2 h hB T hv hx hf wf
  go_enter Tryd.func28, Tryd.ntmps28
  go_wp2_with fail
  change Calls _ _ _ ((w.alloc (.cells (E8.cells ⟨0, 0, List.replicate 8 0, []⟩ (.slice none 0 0)).toArray 26)).alloc (.cells (E8.cells ⟨0, 0, List.replicate 8 0, []⟩ (.slice none 0 0)).toArray 26)) _
  generalize (w.alloc (.cells (E8.cells ⟨0, 0, List.replicate 8 0, []⟩ (.slice none 0 0)).toArray 26)).alloc (.cells (E8.cells ⟨0, 0, List.replicate 8 0, []⟩ (.slice none 0 0)).toArray 26) = w1 at *
  obtain ⟨P, hP⟩ : ∃ P, P = w.heap.size := ⟨_, rfl⟩
  refine (op_yes p x.op false v _ _ HR.out (HV.out.step HB.out)).mono ?_
  rintro e w2 ⟨rfl, r2, u2⟩
  have E2 := (show Hid _ from (Ex.of_below (p := p) HD.out).trans u2.ex)
  have V2 := HA.out.2.upd u2 (by omega)
  have S2 := (show Hid _ from HA.out.1.upd u2 (by omega))
  have R2 := (show Hid _ from r2)
  have T2 := (show Hid _ from HT.out.step (u2.bel (Below.refl 1 w1) (by omega)) (by omega))
  have B2 := (show Hid _ from u2.bel HB.out hp)
  have X2 := (show Hid _ from bs_cutV (xs := [x.op]) HV.out rfl)
  have c0 := V2.cell 0 (E8.c0 _ _)
  have f0 := V2.free 0
  have V3 := V2.set 0 (.int .u8 (x.op : Int))
  rw [set0] at V3
  have y0 := V3.cell 0 (v := .int .u8 (x.op : Int)) rfl
  have S3 := (show Hid _ from S2.out.set_other (show w.heap.size ≠ w.heap.size + 1 by omega) 0 (.int .u8 (x.op : Int)))
  have R3 := (show Hid _ from VA.set_other R2.out (show p ≠ w.heap.size + 1 by omega) 0 (.int .u8 (x.op : Int)))
  have E3 := (show Hid _ from E2.out.set_new (k := 0) (show w.heap.size ≤ w.heap.size + 1 by omega) (.int .u8 (x.op : Int)))
  have B3 := (show Hid _ from B2.out.setCell (p := ⟨w.heap.size + 1, 0, none⟩) (show w0.heap.size ≤ w.heap.size + 1 by omega) (.int .u8 (x.op : Int)))
  have T3 := (show Hid _ from T2.out.step ((Below.refl 1 w2).setCell (p := ⟨w.heap.size + 1, 0, none⟩) (show 1 ≤ w.heap.size + 1 by omega) (.int .u8 (x.op : Int))) (by omega))
  have HV3 := (show Hid _ from V3)
  clear r2 u2 HA HR HT V2 V3 S2 R2 E2 B2 T2
  go_wp2_with fail
  generalize w2.setCell ⟨w.heap.size + 1, 0, none⟩ (.int .u8 (x.op : Int)) = w3 at *
  refine (count_yes x.op _ T3.out o1 o2).mono ?_
  rintro e w4 ⟨rfl, rfl⟩
  obtain ⟨N, hN⟩ : ∃ N, N = ct.getD x.op 0 := ⟨_, rfl⟩
  have HN := (show Hid _ from hN)
  rw [← hN]
  rw [← hN] at X2
  have hN8 : N ≤ 8 := by rw [hN]; exact ct_le _
  clear hN y0 c0 f0
  go_wp2_with fail
  refine (unsigned_yes p x.key false _ _ _ R3.out (X2.out.step B3.out) (by omega) ⟨_, rfl⟩).mono ?_
  rintro e w5 ⟨rfl, r5, u5⟩
  have E5 := (show Hid _ from E3.out.trans u5.ex)
  have V5 := HV3.out.upd u5 (by omega)
  have S5 := (show Hid _ from S3.out.upd u5 (by omega))
  have B5 := (show Hid _ from u5.bel B3.out hp)
  have X5 := (show Hid _ from bs_cutV (xs := enc x.key) X2.out rfl)
  have R5 := (show Hid _ from r5)
  have c1 := V5.cell 1 (E8.c1 _ _)
  have f1 := V5.free 1
  have V6 := V5.set 1 (.int .u64 (x.key : Int))
  rw [set1] at V6
  have S6 := (show Hid _ from S5.out.set_other (show w.heap.size ≠ w.heap.size + 1 by omega) 1 (.int .u64 (x.key : Int)))
  have R6 := (show Hid _ from VA.set_other R5.out (show p ≠ w.heap.size + 1 by omega) 1 (.int .u64 (x.key : Int)))
  have E6 := (show Hid _ from E5.out.set_new (k := 1) (show w.heap.size ≤ w.heap.size + 1 by omega) (.int .u64 (x.key : Int)))
  have HV6 := (show Hid _ from V6)
  clear r5 u5 V5 V6 S3 R3 E3 B3 HV3 S5 R5 E5 B5 T3
  obtain ⟨RS, hRS⟩ : ∃ RS, RS = (if x.op = 1 then enc x.ts.length ++ (x.ts.flatMap t2 ++ []) else []) := ⟨_, rfl⟩
  have HRS := (show Hid _ from hRS)
  rw [← hRS] at X5
  clear hRS
  go_wp2_with fail
  generalize w5.setCell ⟨w.heap.size + 1, 1, none⟩ (.int .u64 (x.key : Int)) = w6 at *
  have K6 : Hid (VA w6 w.heap.size (E8.cells ⟨0, 0, List.replicate 8 0, []⟩ (.slice none 0 0)) 26 ∧ VA w6 (w.heap.size + 1) ((x.part 0).cells (.slice none 0 0)) 26 ∧ ∃ v', Rd w6 p v' false ∧ Bs w0 v' (((x.ns.take N).drop 0).flatMap n1 ++ RS)) := ⟨S6.out, by simpa [E8.part, E8.cells] using HV6.out, _, R6.out, X5.out⟩
  clear S6 HV6 R6 X5 X2 c1 f1
  go_loopw [26] (fun i wr => ∃ k : Nat, k ≤ N ∧ i = .int .i64 k ∧ Ex p w wr ∧ Hid (VA wr w.heap.size (E8.cells ⟨0, 0, List.replicate 8 0, []⟩ (.slice none 0 0)) 26 ∧ VA wr (w.heap.size + 1) ((x.part k).cells (.slice none 0 0)) 26 ∧ ∃ v', Rd wr p v' false ∧ Bs w0 v' (((x.ns.take N).drop k).flatMap n1 ++ RS))) (fun i _ => N - (intOf i).toNat)
  case atStart => exact ⟨0, by omega, rfl, E6.out, K6⟩
  case round =>
    clear E6 K6
    obtain ⟨k, hk, rfl, hex, K⟩ := hrel
    obtain ⟨K1, K2, v2, K3, K4⟩ := K.out
    have HE := (show Hid _ from hex)
    have HK1 := (show Hid _ from K1)
    have HK2 := (show Hid _ from K2)
    have HK3 := (show Hid _ from K3)
    have HK4 := (show Hid _ from K4)
    have HB1 := (show Hid _ from HE.out.below HB0.out hp (by omega))
    clear hex K K1 K2 K3 K4
    by_cases hkN : k = N
    · subst hkN
      have HP : Hid (x.part k = x) := by rw [HN.out]; exact part_all HX.out HF.out
      have l11 := E8.len11 HX.out
      have V7 := HK2.out
      rw [HP.out] at V7
      have y0 := V7.cell 0 (E8.c0 _ _)
      have HV7 := (show Hid _ from V7)
      clear V7 HK2
      by_cases hop1 : x.op = 1
      · have y1 : (1 : Int) = (x.op : Int) := by omega
        rw [hop1] at y0
        have XT : Hid (Bs w0 v2 (enc x.ts.length ++ (x.ts.flatMap t2 ++ []))) := by
          have := HK4.out
          rw [HRS.out, if_pos hop1, List.drop_eq_nil_of_le (by rw [List.length_take]; omega)] at this
          show Bs _ _ _
          simpa using this
        have ht8 : x.ts.length ≤ 8 := by
          have := HF.out.tiers
          rw [hop1] at this
          exact this
        rw [show (((1 : Nat)) : Int) = 1 from rfl] at y0
        clear y1
        go_wp2_with fail
        refine (tiers_yes p false v2 x.ts [] w0 _ HK3.out HB1.out hp XT.out ht8 HW.out).mono ?_
        rintro e w8 ⟨⟨g, v8, rfl, hg, t8, r8, x8⟩, e8⟩
        have l2 := HV7.out.lt
        have V8 := HV7.out.ex e8 (by omega)
        have S8 := HK1.out.ex e8 (by omega)
        have E8' := (show Hid _ from HE.out.trans e8)
        have R8 := (show Hid _ from r8)
        have T8 := (show Hid _ from t8)
        have X8 := (show Hid _ from x8)
        have c10 := V8.cell 10 (E8.ctv HX.out _)
        have f10 := V8.free 10
        generalize htn : x.ts.length = tn at *
        have V9 := V8.set 10 (.slice (some ⟨g, 0, none⟩) tn tn)
        rw [cells_tv x HX.out] at V9
        have U9 := upd_set w8 (w.heap.size + 1) 10 (.slice (some ⟨g, 0, none⟩) tn tn)
        have S9 := (show Hid _ from S8.upd U9 (by omega))
        have R9 := (show Hid _ from VA.upd R8.out U9 (by omega))
        have T9 := (show Hid _ from T8.out.upd U9 (fun b off n c e => by cases e; omega))
        have E9 := (show Hid _ from E8'.out.upd_new U9 (by omega))
        have HV9 := (show Hid _ from V9)
        have hg2 : Hid (w.heap.size < g) := by show _ < _; omega
        clear V8 S8 V9 U9 T8 R8 E8' r8 t8 x8 e8 HV7 HK1 HK3 HE
        go_wp2_with (first
          | (refine ldA rfl 26 _ rfl (w.heap.size + 1) (by rfl) _ _ HV9.out _ Tryd.underlying26 rfl (info26.trans (by rw [l11])) ?_)
          | (refine stA rfl 26 _ _ rfl w.heap.size (by rfl) _ (x.cells (.slice (some ⟨g, 0, none⟩) tn tn)) (by rfl) _ S9.out (info26.trans (by rw [l11])) (by rw [l11]; rfl) (fun u hu => ev_one hu) ?_; intro wa Ra Ua))
        refine bodyPost_ret (v := .agg (x.cells (.slice (some ⟨g, 0, none⟩) tn tn)).toArray) ?_ rfl ⟨⟨_, _, rfl, (fun b off n c e => by cases e; have := hg2.out; omega), T9.out.upd Ua (fun b off n c e => by cases e; have := hg2.out; omega), VA.upd R9.out Ua (by omega), X8.out⟩, E9.out.upd_new Ua (Nat.le_refl _)⟩
        have hld := run_loadVar_row (P := Tryd.prog) wa w.heap.size 26 26 _ (0, 0) _ Ra.blk Tryd.underlying26 rfl (info26.trans (by rw [List.size_toArray, l11]))
        simp [results, Tryd.results28, asAddr, hld, Act.put]
      · have h3 : ((x.op : Int) == 1) = false := by
          have : ¬ ((x.op : Int) = 1) := by omega
          simpa using this
        have hts : x.ts = [] := by
          have := HF.out.tiers
          unfold most at this
          rw [if_neg hop1] at this
          exact List.eq_nil_of_length_eq_zero (by omega)
        go_wp2_with (first
          | (refine ldA rfl 26 _ rfl (w.heap.size + 1) (by rfl) _ _ HV7.out _ Tryd.underlying26 rfl (info26.trans (by rw [l11])) ?_)
          | (refine stA rfl 26 _ _ rfl w.heap.size (by rfl) _ (x.cells (.slice none 0 0)) (by rfl) _ HK1.out (info26.trans (by rw [l11])) (by rw [l11]; rfl) (fun u hu => ev_one hu) ?_; intro w9 R9 U9))
        refine bodyPost_ret (v := .agg (x.cells (.slice none 0 0)).toArray) ?_ rfl ⟨⟨_, _, rfl, (fun _ _ _ _ e => by cases e), by rw [hts]; exact tr_nil _, VA.upd HK3.out U9 (by omega), ?_⟩, HE.out.upd_new U9 (Nat.le_refl _)⟩
        · have hld := run_loadVar_row (P := Tryd.prog) w9 w.heap.size 26 26 _ (0, 0) _ R9.blk Tryd.underlying26 rfl (info26.trans (by rw [List.size_toArray, l11]))
          simp [results, Tryd.results28, asAddr, hld, Act.put]
        · have := HK4.out
          rw [HRS.out, if_neg hop1, List.drop_eq_nil_of_le (by rw [List.length_take]; omega)] at this
          simpa using this
    have hk' : k < N := by omega
    have wb : I64 (x.ns.getD k 0) := E8.nbd HX.out k
    have HDn := (show Hid _ from drop_n1 x.ns N k hk' (by rw [HX.out.len]; exact hN8))
    have HPS := (show Hid _ from part_set HX.out k (by omega) (.slice none 0 0))
    have OKk := (show Hid _ from part_ok HX.out k (by omega))
    obtain ⟨n, hn⟩ : ∃ n, n = x.ns.getD k 0 := ⟨_, rfl⟩
    rw [← hn] at wb HDn HPS
    clear hn
    have Y4 : Hid (Bs w0 v2 (enc (zz n) ++ (((x.ns.take N).drop (k + 1)).flatMap n1 ++ RS))) := by
      have := HK4.out
      rw [HDn.out] at this
      show Bs _ _ _
      simpa [n1, List.append_assoc] using this
    go_wp2_with fail
    refine (signed_yes p n false v2 _ _ HK3.out (Y4.out.step HB1.out) wb ⟨_, rfl⟩).mono ?_
    rintro e w8 ⟨rfl, r8, u8'⟩
    have E8' := (show Hid _ from HE.out.trans u8'.ex)
    have V8 := HK2.out.upd u8' (by omega)
    have S8 := (show Hid _ from HK1.out.upd u8' (by omega))
    have R8 := (show Hid _ from r8)
    have X8 := (show Hid _ from bs_cutV (xs := enc (zz n)) Y4.out rfl)
    have c8 := V8.cell (2 + k) (E8.cn OKk.out _ k (by omega))
    have f8 := V8.free (2 + k)
    have HV8 := (show Hid _ from V8)
    clear r8 u8' V8 HK1 HK2 HK3 HK4 HE Y4
    generalize (x.part k).ns.getD k 0 = old at *
    go_wp2_with fail
    refine ⟨⟨k + 1, by omega, by go_num, E8'.out.set_new (k := 2 + k) (show w.heap.size ≤ w.heap.size + 1 by omega) _, S8.out.set_other (show w.heap.size ≠ w.heap.size + 1 by omega) _ _, ?_, _, VA.set_other R8.out (show p ≠ w.heap.size + 1 by omega) _ _, X8.out⟩, by simp [intOf]; omega⟩
    rw [← HPS.out]
    exact HV8.out.set (2 + k) _
end Go.Proofs.YtcognhhbpapibaaDoor
