/- event: the document's Read of any bytes. -/
import Derived.Test.YtcognhhbpapibaaDoorFi
import Derived.Deep.RegionLaw
namespace Go.Proofs.YtcognhhbpapibaaDoor
open Go.RowKit
set_option linter.unusedVariables false

/-- p[k:] without parting on the room -/
theorem slB {w : World} {ops : Array Oper} {rest : List Oper} {o : Oper} {a : Act} {Q : Exit → Act → World → Prop} (hgd : o.guard = none) (x l : Operand) (ho : o.op = .slice 29 x (some l) none none)
    (ad : Option Addr) (L c k : Nat) (K : Int) (hx : a.eval x = .slice ad L c) (hl : a.eval l = .int .i64 K) (hK : K = k) (hk : k ≤ L) (hLc : L ≤ c) (hc : c ≤ 9223372036854775807)
    (h : wpList Tryd.prog ops Q rest (a.put o.dst (cutV (.slice ad L c) k)) w) : wpList Tryd.prog ops Q (o :: rest) a w := by
  subst hK
  refine wpList_plain hgd fun K' hK' => ?_
  replace h := hK' _ _ h
  rw [cutV_sl] at h
  have d1 : (0 : Int) ≤ (k : Int) := by omega
  have d2 : (k : Int) ≤ (L : Int) := by omega
  by_cases hck : c = k
  · rw [if_pos hck] at h
    unfold Oper.wp
    simp only [execOp, ho, hx, hl, Option.map]
    simp [go_sem, Tryd.underlying29, d1, d2, hck]
    exact h
  · rw [if_neg hck] at h
    unfold Oper.wp
    simp only [execOp, ho, hx, hl, Option.map]
    simp [go_sem, Tryd.underlying29, d1, d2, hck]
    exact h
theorem OwnT.upd {w w' : World} {B g : Nat} {v : Value} {ts : List (Int × Int)} (h : OwnT w B v ts) (k : Upd g w w') (hg : g < B) : OwnT w' B v ts := by
  refine ⟨h.wf, h.own.1, ?_⟩
  rcases h.own.2 with h2 | ⟨q, cap, cur, e, hb, hq, r⟩
  · exact Or.inl h2
  · exact Or.inr ⟨q, cap, cur, e, hb, (k.block q (by omega)).trans hq, r⟩
theorem Ex.bel {p : Nat} {a w w' : World} (h : Ex p a w) (k : Below a.heap.size w w') : Ex p a w' :=
  ⟨k.os.trans h.os, k.tape.trans h.tape, k.output.trans h.output, Nat.le_trans h.size k.size, fun j hj hp => (k.block j hj).trans (h.block j hj hp)⟩
theorem OwnT.form {w : World} {B : Nat} {v : Value} {ts : List (Int × Int)} (h : OwnT w B v ts) : ∃ a n c, v = .slice a n c := by
  rcases h.own.2 with ⟨rfl, _⟩ | ⟨g, cap, cur, rfl, _⟩
  · exact ⟨_, _, _, rfl⟩
  · exact ⟨_, _, _, rfl⟩
theorem take_two (l : List Int) (I : Nat) (h : I + 1 < l.length) : l.take I ++ [l.getD I 0, l.getD (I + 1) 0] = l.take (I + 2) := by
  have e : ∀ j, j < l.length → l.take (j + 1) = l.take j ++ [l.getD j 0] := fun j hj => by
    rw [List.take_add_one, List.getElem?_eq_getElem hj]
    simp [List.getD, hj]
  rw [e (I + 1) h, e I (by omega), List.append_assoc]
  rfl
/-- what the document's Read answers -/
structure Rread (w w' : World) (bs : List Nat) (e : Ending) : Prop where
  ans : (∃ (y : E8) (a : Option Addr) (n k : Nat), y.good ∧ y.bytes = bs ∧ e = .returned (.tuple #[.agg (y.cells (.slice a n k)).toArray, .int .i64 0]) ∧ Tr w' (.slice a n k) y.ts) ∨ (e = .returned (.tuple #[.agg (E8.cells ⟨0, 0, List.replicate 8 0, []⟩ (.slice none 0 0)).toArray, .int .i64 3]) ∧ ∀ x : E8, x.good → x.bytes ≠ bs)
  bel : Below w.heap.size w w'
theorem good_head {x : E8} (hx : x.good) : ∃ r, x.bytes = x.op :: (enc x.key ++ ((x.ns.take (ct.getD x.op 0)).flatMap n1 ++ r)) ∧ r = (if x.op = 1 then enc x.ts.length ++ x.ts.flatMap t2 else []) := by
  refine ⟨_, ?_, rfl⟩
  rw [E8.bytes_eq hx.ok]
  simp
set_option maxHeartbeats 4000000 in
set_option maxRecDepth 100000 in
theorem docread_any (v : Value) (bs : List Nat) (w : World) (hv : Bs w v bs) (hl : bs.length ≤ 4096) :
    Calls Tryd.prog 19 #[v] w fun e w' => Rread w w' bs e := by
  have D1 := (Below.refl w.heap.size w).alloc (Nat.le_refl _) (.cells (E8.cells ⟨0, 0, List.replicate 8 0, []⟩ (.slice none 0 0)).toArray 26)
  have V1 := va_new w (E8.cells ⟨0, 0, List.replicate 8 0, []⟩ (.slice none 0 0)) 26
  have HD := (show Hid _ from D1)
  have HV := (show Hid _ from V1)
  cases bs with
  | nil =>
    obtain ⟨a, c, rfl⟩ : ∃ a c, v = .slice a 0 c := by obtain ⟨_, a, c, e, _⟩ := hv; exact ⟨a, c, e⟩
    clear hv D1 V1 hl
    go_enter Tryd.func19, Tryd.ntmps19
    go_wp2_with (refine stA rfl 26 _ _ rfl w.heap.size (by rfl) _ (E8.cells ⟨0, 0, List.replicate 8 0, []⟩ (.slice none 0 0)) (by rfl) _ HV.out (info26.trans rfl) rfl (fun u hu => ev_one hu) ?_; intro wz Rz Uz)
    refine bodyPost_ret (v := .tuple #[.agg (E8.cells ⟨0, 0, List.replicate 8 0, []⟩ (.slice none 0 0)).toArray, .int .i64 3]) ?_ rfl ⟨Or.inr ⟨rfl, fun x hx e => by
      obtain ⟨r, h1, _⟩ := good_head hx
      rw [h1] at e
      cases e⟩, Uz.bel HD.out (Nat.le_refl _)⟩
    have hld := run_loadVar_row (P := Tryd.prog) wz w.heap.size 26 26 _ (0, 0) _ Rz.blk Tryd.underlying26 rfl (info26.trans rfl)
    simp [results, Tryd.results19, asAddr, hld]
  | cons o rs =>
    have ob := hv.byte o (by simp)
    obtain ⟨L, hL⟩ : ∃ L, L = rs.length + 1 := ⟨_, rfl⟩
    obtain ⟨bl, off, c, rfl, hlc, hc9, hbl, y0⟩ : ∃ bl off c, v = .slice (some ⟨bl, off, none⟩) L c ∧ L ≤ c ∧ c ≤ 9223372036854775807 ∧ bl < w.heap.size ∧ w.cell? ⟨bl, off, none⟩ = some (.int .u8 (o : Int)) := by
      obtain ⟨_, a, c, e, h1, h2, _, h4⟩ := hv
      obtain ⟨bl, off, rfl, hb, hx⟩ := h4 (by simp)
      exact ⟨bl, off, c, by rw [hL]; exact e, by rw [hL]; exact h1, h2, hb, by simpa [bt] using hx 0 (by simp)⟩
    have HL := (show Hid _ from hL)
    have hL1 : 1 ≤ L := by omega
    have hL4 : L ≤ 4096 := by rw [hL]; simpa using hl
    have HBS := (show Hid _ from hv)
    have z0 : (w.alloc (.cells #[.int .u8 0, .int .u64 0, .int .i64 0, .int .i64 0, .int .i64 0, .int .i64 0, .int .i64 0, .int .i64 0, .int .i64 0, .int .i64 0, .slice none 0 0] 26)).cell? ⟨bl, off, none⟩ = some (.int .u8 (o : Int)) := (D1.cell (p := ⟨bl, off, none⟩) hbl).trans y0
    have dL : ((L : Int) == 0) = false := by
      have : ¬ ((L : Int) = 0) := by omega
      simpa using this
    clear hv D1 V1 hl hL y0
    go_enter Tryd.func19, Tryd.ntmps19
    go_wp2_with fail
    change (w.alloc (.cells (E8.cells ⟨0, 0, List.replicate 8 0, []⟩ (.slice none 0 0)).toArray 26)).cell? _ = _ at z0
    change Calls _ _ _ (w.alloc (.cells (E8.cells ⟨0, 0, List.replicate 8 0, []⟩ (.slice none 0 0)).toArray 26)) _
    generalize w.alloc (.cells (E8.cells ⟨0, 0, List.replicate 8 0, []⟩ (.slice none 0 0)).toArray 26) = w1 at *
    by_cases hop : o < 1 ∨ 15 < o
    · refine (rcount_no o _ hop (by omega)).mono ?_
      rintro e w2 ⟨rfl, rfl⟩
      go_wp2_with (refine stA rfl 26 _ _ rfl w.heap.size (by rfl) _ (E8.cells ⟨0, 0, List.replicate 8 0, []⟩ (.slice none 0 0)) (by rfl) _ HV.out (info26.trans rfl) rfl (fun u hu => ev_one hu) ?_; intro wz Rz Uz)
      refine bodyPost_ret (v := .tuple #[.agg (E8.cells ⟨0, 0, List.replicate 8 0, []⟩ (.slice none 0 0)).toArray, .int .i64 3]) ?_ rfl ⟨Or.inr ⟨rfl, fun x hx e => by
        obtain ⟨r, h1, _⟩ := good_head hx
        rw [h1] at e
        have h2 := (List.cons.inj e).1
        have := hx.form.lo
        have := hx.form.hi
        omega⟩, Uz.bel HD.out (Nat.le_refl _)⟩
      have hld := run_loadVar_row (P := Tryd.prog) wz w.heap.size 26 26 _ (0, 0) _ Rz.blk Tryd.underlying26 rfl (info26.trans rfl)
      simp [results, Tryd.results19, asAddr, hld]
    have o1 : 1 ≤ o := by omega
    have o2 : o ≤ 15 := by omega
    refine (rcount_yes o _ o1 o2).mono ?_
    rintro e w2 ⟨rfl, rfl⟩
    obtain ⟨N, hN⟩ : ∃ N, N = ct.getD o 0 := ⟨_, rfl⟩
    have HN := (show Hid _ from hN)
    have h8 := ct_le o
    rw [← hN] at h8 ⊢
    have dN : ((N : Int) < 0) = False := by simp
    have HRC : Hid (∀ w, Calls Tryd.prog 26 #[.int .u8 o] w fun e w' => e = .returned (.int .i64 (N : Int)) ∧ w' = w) := fun w => by rw [hN]; exact rcount_yes o w o1 o2
    clear hN hop
    have l11 := E8.len11 (x := ⟨o, 0, List.replicate 8 0, []⟩) (got_ok (key := 0) (ns := []) (ts := []) (by omega) (by omega) (by simp) (fun n h => by cases h))
    go_wp2_with (first
      | (refine stA rfl 26 _ _ rfl w2.heap.size (by rfl) (E8.cells ⟨0, 0, List.replicate 8 0, []⟩ (.slice none 0 0)) (E8.cells ⟨o, 0, List.replicate 8 0, []⟩ (.slice none 0 0)) (by rfl) 26 (va_new w2 (E8.cells ⟨0, 0, List.replicate 8 0, []⟩ (.slice none 0 0)) 26) (info26.trans (by rw [l11])) (by rw [l11]; rfl) (fun u hu => ev_one hu) ?_; intro w3 V3 U3)
      | (refine slB rfl _ _ rfl (some ⟨bl, off, none⟩) L c 1 _ (by rfl) (by rfl) rfl hL1 hlc hc9 ?_))
    have b3 := U3.bel ((Below.refl w2.heap.size w2).alloc (Nat.le_refl _) (.cells (E8.cells ⟨0, 0, List.replicate 8 0, []⟩ (.slice none 0 0)).toArray 26)) (Nat.le_refl _)
    have D3 := (show Hid _ from HD.out.trans (b3.mono HD.out.size))
    have VP3 := (show Hid _ from HV.out.step b3)
    have E1 := HD.out.size
    have E2 := HV.out.lt
    obtain ⟨E, hE⟩ : ∃ E, E = w2.heap.size := ⟨_, rfl⟩
    rw [← hE] at V3 E2
    rw [← hE]
    have VE3 := (show Hid _ from V3)
    have X3 : Hid (Bs w3 (cutV (.slice (some ⟨bl, off, none⟩) L c) 1) rs) := bs_cutV (xs := [o]) (HBS.out.step D3.out) rfl
    clear b3 U3 V3 HD HV z0 dN l11 hE E1
    rcases non_or rs with ⟨key, hkey, hf⟩ | hf
    rotate_left
    · have HF := (show Hid _ from hf)
      clear hf
      refine (docu_no _ _ _ X3.out HF.out).mono ?_
      rintro e w4 ⟨rfl, b4⟩
      have D4 := (show Hid _ from D3.out.trans (b4.mono D3.out.size))
      have VP4 := (show Hid _ from VP3.out.step b4)
      clear b4 D3 VP3 X3 VE3
      go_wp2_with (refine stA rfl 26 _ _ rfl w.heap.size (by rfl) _ (E8.cells ⟨0, 0, List.replicate 8 0, []⟩ (.slice none 0 0)) (by rfl) _ VP4.out (info26.trans rfl) rfl (fun u hu => ev_one hu) ?_; intro wz Rz Uz)
      refine bodyPost_ret (v := .tuple #[.agg (E8.cells ⟨0, 0, List.replicate 8 0, []⟩ (.slice none 0 0)).toArray, .int .i64 3]) ?_ rfl ⟨Or.inr ⟨rfl, fun x hx e => by
        obtain ⟨r, h1, _⟩ := good_head hx
        rw [h1] at e
        have h2 := (List.cons.inj e).2
        exact HF.out x.key (by have := hx.ok.key; omega) ⟨_, h2⟩⟩, Uz.bel D4.out (Nat.le_refl _)⟩
      have hld := run_loadVar_row (P := Tryd.prog) wz w.heap.size 26 26 _ (0, 0) _ Rz.blk Tryd.underlying26 rfl (info26.trans rfl)
      simp [results, Tryd.results19, asAddr, hld]
    obtain ⟨r1, hr1⟩ := hf
    have HR1 := (show Hid _ from hr1)
    refine (docu_yes _ _ key _ X3.out hkey ⟨_, hr1⟩).mono ?_
    rintro e w4 ⟨rfl, b4⟩
    obtain ⟨kl, hkl⟩ : ∃ kl, kl = (enc key).length := ⟨_, rfl⟩
    have HKL := (show Hid _ from hkl)
    have hkl1 := enc_len hkey
    have hkl2 : kl + 1 + r1.length = L := by
      have h1 := congrArg List.length hr1
      rw [List.length_append] at h1
      have h2 := HL.out
      omega
    rw [← hkl] at hkl1 ⊢
    have D4 := (show Hid _ from D3.out.trans (b4.mono D3.out.size))
    have VP4 := (show Hid _ from VP3.out.step b4)
    have V4 := VE3.out.step b4
    have c1 := V4.cell 1 (E8.c1 _ _)
    have f1 := V4.free 1
    have V5 := V4.set 1 (.int .u64 (key : Int))
    rw [set1] at V5
    have U5 := upd_set w4 E 1 (.int .u64 (key : Int))
    have VP5 := (show Hid _ from VP4.out.upd U5 (by omega))
    have D5 := (show Hid _ from U5.bel D4.out (by omega))
    have VE5 : Hid (VA _ E ((E8.got o key [] []).cells (.slice none 0 0)) 26) := V5
    have e0 := V5.cell 0 (v := .int .u8 (o : Int)) rfl
    obtain ⟨rl, hrl⟩ : ∃ rl, rl = r1.length := ⟨_, rfl⟩
    have HRL := (show Hid _ from hrl)
    rw [← hrl] at hkl2
    clear b4 D3 VP3 X3 VE3 V4 V5 U5 D4 VP4 hr1 hkl hrl
    go_upto_region 11 with fail
    generalize w4.setCell ⟨E, 1, none⟩ (.int .u64 (key : Int)) = w5 at *
    clear c1 f1
    have X5 : Hid (Bs w5 (cutV (.slice (some ⟨bl, off, none⟩) L c) (kl + 1)) r1) := by
      refine bs_cutV (xs := o :: enc key) ?_ (by rw [List.length_cons, HKL.out])
      have h1 := HBS.out.step D5.out
      rw [← HR1.out] at h1
      exact h1
    go_cut [8, 9] (fun s8 s9 wx => ∃ (zs : List Int) (k2 : Nat) (sa : Option Addr) (sd : Nat), s8 = .slice sa zs.length sd ∧ zs.length ≤ sd ∧ sd ≤ 9223372036854775807 ∧ zs.length ≤ N ∧ s9 = .int .i64 k2 ∧ k2 ≤ rl ∧ Hid (Nums r1 N zs k2 ∧ (zs.length < N → Non (r1.drop k2)) ∧ OwnI wx w5.heap.size s8 zs ∧ Below w5.heap.size w5 wx))
    case first =>
      rw [cutV_sl] at X5
      have e1 : (0 : Int) ≤ (kl : Int) + 1 := by omega
      have e2 : (kl : Int) + 1 ≤ (L : Int) := by omega
      by_cases hck : c = kl + 1
      · rw [if_pos hck] at X5
        have HX5 : Hid (Bs w5.drew (.slice (some ⟨bl, off, none⟩) (L - (kl + 1)) (c - (kl + 1))) r1) := by
          have h1 := X5.out.drew
          show Bs _ _ _
          rwa [show c - (kl + 1) = 0 by omega]
        have hd : (c = kl + 1) = True := eq_true hck
        clear X5 hck
        go_region_held3 (fun w' => w'.cell? ⟨E, 0, none⟩ = some (.int .u8 (o : Int)))
          (first | exact e0 | exact V6.cell 0 rfl)
          (first
            | (go_at_call 26; refine Calls.mono (HRC.out _) ?_; rintro e w6 ⟨rfl, rfl⟩)
            | (go_at_call 30; refine (numbers_any _ r1 _ N HX5.out (by omega)).mono ?_; rintro e w7 ⟨⟨zs, k2, u, rfl, hn, hnn, hown⟩, b7⟩; have V6 := VE5.out.drew.step b7))
        go_wp2_with fail
        go_meet
        obtain ⟨sa, sd, rfl, hs1, hs2⟩ := hown.form
        exact ⟨zs, k2, sa, sd, rfl, hs1, hs2, hn.len, rfl, by have := hn.le; have := HRL.out; omega, hn, hnn, hown, bel_of_drew b7⟩
      · rw [if_neg hck] at X5
        have HX5 := (show Hid _ from X5.out.drew)
        clear X5
        go_region_held3 (fun w' => w'.cell? ⟨E, 0, none⟩ = some (.int .u8 (o : Int)))
          (first | exact e0 | exact V6.cell 0 rfl)
          (first
            | (go_at_call 26; refine Calls.mono (HRC.out _) ?_; rintro e w6 ⟨rfl, rfl⟩)
            | (go_at_call 30; refine (numbers_any _ r1 _ N HX5.out (by omega)).mono ?_; rintro e w7 ⟨⟨zs, k2, u, rfl, hn, hnn, hown⟩, b7⟩; have V6 := VE5.out.drew.step b7))
        go_wp2_with fail
        go_meet
        obtain ⟨sa, sd, rfl, hs1, hs2⟩ := hown.form
        exact ⟨zs, k2, sa, sd, rfl, hs1, hs2, hn.len, rfl, by have := hn.le; have := HRL.out; omega, hn, hnn, hown, bel_of_drew b7⟩
    obtain ⟨zs, k2, sa, sd, rfl, hs1, hs2, hq8, rfl, hk2, hR⟩ := hcut
    have HNU := (show Hid _ from hR.out.1)
    have HNN := (show Hid _ from hR.out.2.1)
    have HOW := (show Hid _ from hR.out.2.2.1)
    have BC := hR.out.2.2.2
    have VPc := (show Hid _ from VP5.out.step BC)
    have VEc := (show Hid _ from VE5.out.step BC)
    have Dc := (show Hid _ from D5.out.trans (BC.mono D5.out.size))
    have lE := VE5.out.lt
    have lE2 := (show Hid _ from BC.size)
    obtain ⟨q, hq⟩ : ∃ q, q = zs.length := ⟨_, rfl⟩
    have HQ := (show Hid _ from hq)
    rw [← hq] at hs1 hq8 HOW ⊢
    clear hR BC VP5 VE5 D5 e0 X5 hq
    go_wp2_with fail
    go_loopw [66] (fun i wr => ∃ j : Nat, j ≤ q ∧ i = .int .i64 j ∧ Hid (Upd E wc wr ∧ VA wr E ((E8.got o key (zs.take j) []).cells (.slice none 0 0)) 26)) (fun i _ => q - (intOf i).toNat)
    case atStart => exact ⟨0, by omega, rfl, ⟨rfl, rfl, rfl, rfl, fun _ _ => rfl⟩, VEc.out⟩
    case round =>
      obtain ⟨j, hj, rfl, K⟩ := hrel
      by_cases hjq : j = q
      · subst hjq
        have HZ : Hid (zs.take j = zs) := by rw [HQ.out]; exact List.take_length
        have VE7 := K.out.2
        rw [HZ.out] at VE7
        have U7 := K.out.1
        have VP7 := (show Hid _ from VPc.out.upd U7 (by omega))
        have D7 := (show Hid _ from U7.bel Dc.out (by omega))
        have e0 := VE7.cell 0 (v := .int .u8 (o : Int)) rfl
        have HVE7 := (show Hid _ from VE7)
        have lE7 : E < wr.heap.size := VE7.lt
        have AG : Hid (∀ x : E8, x.good → x.bytes = o :: rs → x.op = o ∧ x.key = key ∧ x.ns.take N = zs ∧ r1.drop k2 = (if o = 1 then enc x.ts.length ++ x.ts.flatMap t2 else [])) := fun x hx e => by
          obtain ⟨r, h1, h2⟩ := good_head hx
          rw [h1] at e
          obtain ⟨e1, e2⟩ := List.cons.inj e
          rw [e1, ← HN.out] at e2
          rw [e1] at h2
          rw [← HR1.out] at e2
          have e3 : x.key = key := enc_inj_front _ _ _ ⟨_, rfl⟩ ⟨_, e2.symm⟩
          rw [e3] at e2
          have e4 := List.append_cancel_left e2
          have h3 := numbers_det (ns := x.ns.take N) e4.symm (by rw [List.length_take, hx.ok.len]; omega) HNU.out HNN.out (fun n hn => hx.ok.ns n (List.mem_of_mem_take hn))
          exact ⟨e1, e3, h3.1.symm, by rw [h3.2]; exact h2⟩
        have GOT : Hid (∀ ts : List (Int × Int), (∀ t ∈ ts, I64 t.1 ∧ I64 t.2) → ts.length ≤ most o → (E8.got o key zs ts).good ∧ ∀ x : E8, x.good → x.bytes = o :: rs → x.ts = ts → x = E8.got o key zs ts) := fun ts hwf hts => by
          have hl8 : zs.length ≤ 8 := by have := HQ.out; omega
          have ok := got_ok (o := o) (ts := ts) (by omega) hkey hl8 HNU.out.bd
          refine ⟨⟨ok, ⟨o1, o2, hts, fun i hi h8' => ?_⟩, hwf⟩, fun x hx e ht => ?_⟩
          · show (zs ++ List.replicate (8 - zs.length) 0).getD i 0 = 0
            have hi' : zs.length ≤ i := by
              have h1 : ct.getD o 0 ≤ i := hi
              rw [← HN.out] at h1
              have := HQ.out
              omega
            rw [List.getD_eq_getElem?_getD, List.getElem?_append_right hi']
            by_cases hx : i - zs.length < 8 - zs.length
            · rw [List.getElem?_replicate_of_lt hx]; rfl
            · rw [List.getElem?_eq_none (by simp; omega)]; rfl
          · obtain ⟨a1, a2, a3, _⟩ := AG.out x hx e
            have h1 := part_all hx.ok hx.form
            have hzl : zs.length = N := by rw [← a3, List.length_take, hx.ok.len]; omega
            rw [← h1]
            unfold E8.part E8.got
            rw [a1, a2, ← HN.out, a3, ht, hzl]
        have GOT0 : Hid (∀ z ∈ zs, I64 z) := HNU.out.bd
        clear K VPc Dc VEc HNU HNN HOW U7 VE7 lE2
        go_upto_if 78 with fail
        go_cut [] (fun wx => ∃ (y : E8) (a : Option Addr) (n k : Nat), Hid (VA wx E (y.cells (.slice a n k)) 26 ∧ y.good ∧ Tr wx (.slice a n k) y.ts ∧ (∀ b off, a = some ⟨b, off, none⟩ → E < b) ∧ Below w.heap.size w wx ∧ VA wx w.heap.size (E8.cells ⟨0, 0, List.replicate 8 0, []⟩ (.slice none 0 0)) 26 ∧ ∀ x : E8, x.good → x.bytes = o :: rs → x = y))
        case first =>
          by_cases ho1 : o = 1
          rotate_left
          · have h3 : ((o : Int) == 1) = false := by
              have : ¬ ((o : Int) = 1) := by omega
              simpa using this
            obtain ⟨g1, g2⟩ := GOT.out [] (fun t h => by cases h) (by simp)
            have FIN : Hid (∃ (y : E8) (a : Option Addr) (n k : Nat), Hid (VA wr E (y.cells (.slice a n k)) 26 ∧ y.good ∧ Tr wr (.slice a n k) y.ts ∧ (∀ b off, a = some ⟨b, off, none⟩ → E < b) ∧ Below w.heap.size w wr ∧ VA wr w.heap.size (E8.cells ⟨0, 0, List.replicate 8 0, []⟩ (.slice none 0 0)) 26 ∧ ∀ x : E8, x.good → x.bytes = o :: rs → x = y)) :=
              ⟨E8.got o key zs [], none, 0, 0, HVE7.out, g1, tr_nil _, (fun _ _ e => by cases e), D7.out, VP7.out, fun x hx e => g2 x hx e (by
                have h1 := hx.form.tiers
                rw [(AG.out x hx e).1] at h1
                unfold most at h1
                rw [if_neg ho1] at h1
                exact List.eq_nil_of_length_eq_zero (by omega))⟩
            clear g1 g2
            go_wp2_with fail
            go_meet
            exact FIN.out
          · subst ho1
            have d0 : ((1 : Nat) : Int) = 1 := rfl
            rw [d0]
            rw [d0] at e0
            have hat : Hid (kl + 1 + k2 ≤ L) := by show _ ≤ _; omega
            obtain ⟨r2, hr2⟩ : ∃ r2, r2 = r1.drop k2 := ⟨_, rfl⟩
            have HR2 := (show Hid _ from hr2)
            have HBS2 : Hid (1 :: enc key ++ (r1.take k2 ++ r2) = 1 :: rs ∧ (1 :: enc key ++ r1.take k2).length = kl + 1 + k2) := by
              refine ⟨?_, ?_⟩
              · rw [hr2, List.take_append_drop, List.cons_append, HR1.out]
              · rw [List.length_append, List.length_cons, ← HKL.out, List.length_take, ← HRL.out]; omega
            have X7 : Hid (Bs wr (cutV (.slice (some ⟨bl, off, none⟩) L c) (kl + 1 + k2)) r2) := by
              refine bs_cutV (xs := 1 :: enc key ++ r1.take k2) ?_ HBS2.out.2
              have h1 := HBS.out.step D7.out
              rw [← HBS2.out.1] at h1
              rw [List.append_assoc]
              exact h1
            clear hr2 d0
            go_wp2_with (refine slB rfl _ _ rfl (some ⟨bl, off, none⟩) L c (kl + 1 + k2) _ (by rfl) (by rfl) (by omega) hat.out hlc hc9 ?_)
            rcases non_or r2 with ⟨n, hn, hf⟩ | hf
            rotate_left
            · have HF := (show Hid _ from hf)
              clear hf
              refine (docu_no _ _ _ X7.out HF.out).mono ?_
              rintro e w8 ⟨rfl, b8⟩
              have D8 := (show Hid _ from D7.out.trans (b8.mono D7.out.size))
              have VP8 := (show Hid _ from VP7.out.step b8)
              clear b8
              go_wp2_with (refine stA rfl 26 _ _ rfl w.heap.size (by rfl) _ (E8.cells ⟨0, 0, List.replicate 8 0, []⟩ (.slice none 0 0)) (by rfl) _ VP8.out (info26.trans rfl) rfl (fun u hu => ev_one hu) ?_; intro wz Rz Uz)
              refine bodyPost_ret (v := .tuple #[.agg (E8.cells ⟨0, 0, List.replicate 8 0, []⟩ (.slice none 0 0)).toArray, .int .i64 3]) ?_ rfl ⟨Or.inr ⟨rfl, fun x hx e => by
                have h1 := (AG.out x hx e).2.2.2
                rw [if_pos trivial, ← HR2.out] at h1
                exact HF.out x.ts.length (by have := hx.form.tiers; unfold most at this; split at this <;> omega) ⟨_, h1.symm⟩⟩, Uz.bel D8.out (Nat.le_refl _)⟩
              have hld := run_loadVar_row (P := Tryd.prog) wz w.heap.size 26 26 _ (0, 0) _ Rz.blk Tryd.underlying26 rfl (info26.trans rfl)
              simp [results, Tryd.results19, asAddr, hld]
            obtain ⟨r3, hr3⟩ := hf
            have HR3 := (show Hid _ from hr3)
            refine (docu_yes _ _ n _ X7.out hn ⟨_, hr3⟩).mono ?_
            rintro e w8 ⟨rfl, b8⟩
            obtain ⟨nl, hnl⟩ : ∃ nl, nl = (enc n).length := ⟨_, rfl⟩
            have HNL := (show Hid _ from hnl)
            have hnl1 := enc_len hn
            rw [← hnl] at hnl1 ⊢
            have D8 := (show Hid _ from D7.out.trans (b8.mono D7.out.size))
            have VP8 := (show Hid _ from VP7.out.step b8)
            have VE8 := (show Hid _ from HVE7.out.step b8)
            clear b8 D7 VP7 HVE7 X7 hr3 hnl
            by_cases hn8 : 8 < n
            · have d8 : (8 : Int) < (n : Int) := by omega
              go_wp2_with (refine stA rfl 26 _ _ rfl w.heap.size (by rfl) _ (E8.cells ⟨0, 0, List.replicate 8 0, []⟩ (.slice none 0 0)) (by rfl) _ VP8.out (info26.trans rfl) rfl (fun u hu => ev_one hu) ?_; intro wz Rz Uz)
              refine bodyPost_ret (v := .tuple #[.agg (E8.cells ⟨0, 0, List.replicate 8 0, []⟩ (.slice none 0 0)).toArray, .int .i64 3]) ?_ rfl ⟨Or.inr ⟨rfl, fun x hx e => by
                have h1 := (AG.out x hx e).2.2.2
                rw [if_pos trivial, ← HR2.out, ← HR3.out] at h1
                have h2 : n = x.ts.length := enc_inj_front _ _ _ ⟨_, rfl⟩ ⟨_, h1.symm⟩
                have := hx.form.tiers
                unfold most at this
                split at this <;> omega⟩, Uz.bel D8.out (Nat.le_refl _)⟩
              have hld := run_loadVar_row (P := Tryd.prog) wz w.heap.size 26 26 _ (0, 0) _ Rz.blk Tryd.underlying26 rfl (info26.trans rfl)
              simp [results, Tryd.results19, asAddr, hld]
            have d8 : ((8 : Int) < (n : Int)) = False := by simp; omega
            have hat2 : Hid (kl + 1 + k2 + nl ≤ L ∧ (1 :: enc key ++ r1.take k2 ++ enc n).length = kl + 1 + k2 + nl ∧ 1 :: enc key ++ r1.take k2 ++ enc n ++ r3 = 1 :: rs) := by
              have h2 := HBS2.out.1
              rw [← HR3.out] at h2
              have h3 : 1 :: enc key ++ r1.take k2 ++ enc n ++ r3 = 1 :: rs := by rw [← h2]; simp only [List.append_assoc]
              have h1 : (1 :: enc key ++ r1.take k2 ++ enc n).length = kl + 1 + k2 + nl := by rw [List.length_append, HBS2.out.2, ← HNL.out]
              refine ⟨?_, h1, h3⟩
              have h4 := congrArg List.length h3
              rw [List.length_append, h1, List.length_cons] at h4
              have := HL.out
              omega
            have hat3 := hat2.out.1
            have X8 : Hid (Bs w8 (cutV (.slice (some ⟨bl, off, none⟩) L c) (kl + 1 + k2 + nl)) r3) := by
              refine bs_cutV (xs := 1 :: enc key ++ r1.take k2 ++ enc n) ?_ hat2.out.2.1
              have h1 := HBS.out.step D8.out
              rw [← hat2.out.2.2] at h1
              exact h1
            have dm : (2 * (n : Int)) % 18446744073709551616 = 2 * (n : Int) := by omega
            go_wp2_with (refine slB rfl _ _ rfl (some ⟨bl, off, none⟩) L c (kl + 1 + k2 + nl) _ (by rfl) (by rfl) (by omega) hat3 hlc hc9 ?_)
            clear d8 dm
            refine (numbers_any _ r3 _ (2 * n) X8.out (by omega)).mono ?_
            rintro e w11 ⟨⟨qs, k4, t4, rfl, hqn, hqnn, hqo⟩, b11⟩
            obtain ⟨ta, tc, rfl, ht1, ht2⟩ := hqo.form
            have HQN := (show Hid _ from hqn)
            have HQNN := (show Hid _ from hqnn)
            have HQO := (show Hid _ from hqo)
            have D11 := (show Hid _ from D8.out.trans (b11.mono D8.out.size))
            have VP11 := (show Hid _ from VP8.out.step b11)
            have VE11 := (show Hid _ from VE8.out.step b11)
            have lE8 : E < w8.heap.size := VE8.out.lt
            have lw := b11.size
            obtain ⟨m, hm⟩ : ∃ m, m = qs.length := ⟨_, rfl⟩
            have HM := (show Hid _ from hm)
            have hm16 : m ≤ 2 * n := by rw [hm]; exact hqn.len
            have AG2 : Hid (∀ x : E8, x.good → x.bytes = 1 :: rs → qs = x.ts.flatMap two) := fun x hx e => by
              have h1 := (AG.out x hx e).2.2.2
              rw [if_pos trivial, ← HR2.out, ← HR3.out] at h1
              have h2 : n = x.ts.length := enc_inj_front _ _ _ ⟨_, rfl⟩ ⟨_, h1.symm⟩
              rw [← h2] at h1
              have h3 := List.append_cancel_left h1
              refine (numbers_det (ns := x.ts.flatMap two) (r := []) (by rw [two_flat, List.append_nil]; exact h3) (by rw [two_len]; omega) hqn hqnn (fun z hz => ?_)).1
              obtain ⟨t, ht, hz⟩ := List.mem_flatMap.1 hz
              have := hx.wf t ht
              simp only [two, List.mem_cons, List.not_mem_nil, or_false] at hz
              rcases hz with rfl | rfl
              · exact this.1
              · exact this.2
            rw [← hm] at ht1 HQO ⊢
            clear hqn hqnn hqo b11 D8 VP8 VE8 X8 hm
            go_wp2_with fail
            go_loopw [17] (fun i wz => ∃ (jj : Nat) (ts : List (Int × Int)) (sa' : Option Addr) (sn' sk' : Nat), i = .int .i64 ((2 * jj : Nat) : Int) ∧ 2 * jj ≤ m ∧ Hid (ts.length = jj ∧ ts.flatMap two = qs.take (2 * jj) ∧ VA wz E ((E8.got 1 key zs ts).cells (.slice sa' sn' sk')) 26 ∧ OwnT wz w11.heap.size (.slice sa' sn' sk') ts ∧ Ex E w11 wz)) (fun i _ => m + 2 - (intOf i).toNat)
            case atStart => exact ⟨0, [], none, 0, 0, rfl, by omega, rfl, rfl, VE11.out, ownT_nil _ _, Ex.refl _ _⟩
            case round =>
              obtain ⟨jj, ts, sa', sn', sk', rfl, hj2, K⟩ := hrel
              obtain ⟨I, hI⟩ : ∃ I, I = 2 * jj := ⟨_, rfl⟩
              have HI := (show Hid _ from hI)
              rw [← hI] at hj2 ⊢
              clear hI
              by_cases hend : I + 1 < m
              rotate_left
              · have d5 : ((I : Int) + 1 < (m : Int)) = False := by simp; omega
                have hjn : jj ≤ 8 := by have := HI.out; omega
                obtain ⟨g1, g2⟩ := GOT.out ts K.out.2.2.2.1.wf (by show ts.length ≤ 8; rw [K.out.1]; exact hjn)
                have FIN : Hid (∃ (y : E8) (a : Option Addr) (n k : Nat), Hid (VA wr E (y.cells (.slice a n k)) 26 ∧ y.good ∧ Tr wr (.slice a n k) y.ts ∧ (∀ b off, a = some ⟨b, off, none⟩ → E < b) ∧ Below w.heap.size w wr ∧ VA wr w.heap.size (E8.cells ⟨0, 0, List.replicate 8 0, []⟩ (.slice none 0 0)) 26 ∧ ∀ x : E8, x.good → x.bytes = 1 :: rs → x = y)) :=
                  ⟨E8.got 1 key zs ts, sa', sn', sk', K.out.2.2.1, g1, K.out.2.2.2.1.tr, (fun b off e => by have := K.out.2.2.2.1.block b (by rw [e]; rfl); omega), K.out.2.2.2.2.below D11.out (by omega) D11.out.size, VP11.out.ex K.out.2.2.2.2 (by omega), fun x hx e => g2 x hx e (by
                    have h1 := AG2.out x hx e
                    have h2 := K.out.2.1
                    have h3 := HM.out
                    have h4 := HI.out
                    have h5 : qs.length = 2 * x.ts.length := by rw [h1, two_len]
                    rw [List.take_of_length_le (by omega), h1] at h2
                    exact (two_inj _ _ h2).symm)⟩
                clear g1 g2
                go_wp2_with fail
                go_meet
                exact FIN.out
              obtain ⟨gq, hg1, hg2, hg3⟩ := HQO.out.at I (by have := HM.out; omega)
              obtain ⟨gq', hg1', hg2', hg3'⟩ := HQO.out.at (I + 1) (by have := HM.out; omega)
              have hgE : w8.heap.size ≤ gq := HQO.out.block gq (by rw [hg1]; rfl)
              subst hg1
              obtain rfl : gq = gq' := by simpa using hg1'
              have k0 := K.out.2.2.2.2.block gq hg2 (by omega)
              have c4 : wr.cell? ⟨gq, I, none⟩ = some (.int .i64 (qs.getD I 0)) := by rw [← hg3]; simp [World.cell?, k0]
              have c5 : wr.cell? ⟨gq, I + 1, none⟩ = some (.int .i64 (qs.getD (I + 1) 0)) := by rw [← hg3']; simp [World.cell?, k0]
              have HQT : Hid (ts.flatMap two ++ [qs.getD I 0, qs.getD (I + 1) 0] = qs.take (I + 2) ∧ I64 (qs.getD I 0) ∧ I64 (qs.getD (I + 1) 0)) := by
                have l1 : I + 1 < qs.length := by have := HM.out; omega
                have l0 : I < qs.length := by omega
                refine ⟨?_, HQN.out.bd _ (by simp [List.getD, l0]), HQN.out.bd _ (by simp [List.getD, l1])⟩
                have h2 := K.out.2.1
                rw [← HI.out] at h2
                rw [h2]
                exact take_two qs I l1
              have OKt := (show Hid _ from got_ok (o := 1) (ts := ts) (by omega) hkey (show zs.length ≤ 8 by have := HQ.out; omega) GOT0.out)
              have c10 := K.out.2.2.1.cell 10 (E8.ctv OKt.out _)
              generalize qs.getD I 0 = f at *
              generalize qs.getD (I + 1) 0 = g at *
              have d5 : (I : Int) + 1 < (m : Int) := by omega
              have d6 : (0 : Int) ≤ (I : Int) := by omega
              have d7 : (I : Int) < (m : Int) := by omega
              have d9 : IntKind.i64.wrap ((I : Int) + 1) = (I : Int) + 1 := by rw [IntKind.wrap_i64]; omega
              have d10 : (0 : Int) ≤ (I : Int) + 1 := by omega
              have lz := K.out.2.2.2.2.size
              have VZ := (show Hid _ from K.out.2.2.1)
              have OZ := (show Hid _ from K.out.2.2.2.1)
              have VA1 := VZ.out.alloc (.cells #[.int .i64 f, .int .i64 g] 44)
              have VT1 : VA (wr.alloc (.cells #[.int .i64 f, .int .i64 g] 44)) wr.heap.size [.int .i64 f, .int .i64 g] 44 := va_new wr [.int .i64 f, .int .i64 g] 44
              have OZ1 : Hid (OwnT (wr.alloc (.cells #[.int .i64 f, .int .i64 g] 44)) w11.heap.size (.slice sa' sn' sk') ts) := OZ.out.step ((Below.refl wr.heap.size wr).alloc (Nat.le_refl _) _)
              have HVA1 := (show Hid _ from VA1)
              have HVT1 := (show Hid _ from VT1)
              have c4' := ((Below.refl wr.heap.size wr).alloc (Nat.le_refl _) (.cells #[.int .i64 f, .int .i64 g] 44)).cell (p := ⟨gq, I, none⟩) (show gq < wr.heap.size by omega) |>.trans c4
              have c5' := ((Below.refl wr.heap.size wr).alloc (Nat.le_refl _) (.cells #[.int .i64 f, .int .i64 g] 44)).cell (p := ⟨gq, I + 1, none⟩) (show gq < wr.heap.size by omega) |>.trans c5
              have c10' := VA1.cell 10 (E8.ctv OKt.out _)
              have hT1 : Hid (∀ t ∈ [(f, g)], I64 t.1 ∧ I64 t.2) := by
                intro t ht
                obtain rfl : t = (f, g) := by simpa using ht
                exact HQT.out.2
              have hT2 : Hid (∀ k, k < [(f, g)].length → (wr.alloc (.cells #[.int .i64 f, .int .i64 g] 44)).cell? ⟨wr.heap.size, 0 + 2 * k, none⟩ = some (.int .i64 ([(f, g)].getD k (0, 0)).1) ∧ (wr.alloc (.cells #[.int .i64 f, .int .i64 g] 44)).cell? ⟨wr.heap.size, 0 + 2 * k + 1, none⟩ = some (.int .i64 ([(f, g)].getD k (0, 0)).2)) := by
                intro k hk
                obtain rfl : k = 0 := by simp at hk; omega
                exact ⟨VT1.cell 0 rfl, VT1.cell 1 rfl⟩
              have hT3 : Hid (w11.heap.size ≤ (wr.alloc (.cells #[.int .i64 f, .int .i64 g] 44)).heap.size) := by
                show _ ≤ _
                rw [World.size_alloc]
                omega
              have hT4 : Hid (ts.length + [(f, g)].length ≤ 8796093022208) := by
                show _ ≤ _
                have h1 := K.out.1
                have h2 := HI.out
                simp
                omega
              clear VA1 VT1
              go_wp2_with fail
              go_region_law (refine appTk (by rfl) _ _ rfl w11.heap.size ts [(f, g)] (.slice sa' sn' sk') wr.heap.size 0 1 (by rfl) (by rfl) (OwnT.mk OZ1.out.wf OZ1.out.own) hT1.out hT2.out hT3.out hT4.out ?_; intro v5 w5' o5 b5 g5; obtain ⟨va, vn, vc, rfl⟩ := o5.form; have V5 := HVA1.out.drew.grownT g5 (OwnT.mk OZ1.out.wf OZ1.out.own) (by decide); have cz := V5.cell 10 (E8.ctv OKt.out _); have fz := V5.free 10; have U6 := upd_set w5' E 10 (.slice va vn vc))
              all_goals
                have N6 : Hid (Below w11.heap.size wr w5' ∧ VA w5' E ((E8.got 1 key zs ts).cells (.slice sa' sn' sk')) 26 ∧ OwnT w5' w11.heap.size (.slice va vn vc) (ts ++ [(f, g)]) ∧ Upd E w5' (w5'.setCell ⟨E, 10, none⟩ (.slice va vn vc))) := ⟨((Below.refl w11.heap.size wr).alloc lz _).trans (bel_of_drew b5), V5, o5, U6⟩
                clear U6 cz fz V5 g5 b5 o5
                go_wp2_with fail
                refine ⟨⟨jj + 1, ts ++ [(f, g)], va, vn, vc, ?_, by have := HI.out; omega, by rw [List.length_append, K.out.1]; rfl, ?_, ?_, N6.out.2.2.1.upd N6.out.2.2.2 (by omega), (K.out.2.2.2.2.bel N6.out.1).trans N6.out.2.2.2.ex⟩, ?_⟩
                · have := HI.out
                  go_num
                · rw [List.flatMap_append]
                  have h1 := HQT.out.1
                  have h2 := HI.out
                  rw [show 2 * (jj + 1) = I + 2 by omega, ← h1]
                  simp [two]
                · have h1 := N6.out.2.1.set 10 (.slice va vn vc)
                  rw [cells_tv _ OKt.out] at h1
                  exact h1
                · simp [intOf]
                  omega
        obtain ⟨y, ya, yn, yk, hY⟩ := hcut
        have GY := (show Hid _ from hY.out.2.1)
        have l11 := E8.len11 GY.out.ok
        have TY := (show Hid _ from hY.out.2.2.1)
        have FY := (show Hid _ from hY.out.2.2.2.1)
        have DY := (show Hid _ from hY.out.2.2.2.2.1)
        have VPY := (show Hid _ from hY.out.2.2.2.2.2.1)
        have AY := (show Hid _ from hY.out.2.2.2.2.2.2)
        have VEY := (show Hid _ from hY.out.1)
        clear hY
        go_wp2_with (refine ldA rfl 26 _ rfl E (by rfl) _ _ VEY.out _ Tryd.underlying26 rfl (info26.trans (by rw [l11])) ?_)
        refine (rwrite_ok y _ _ GY.out.ok TY.out GY.out.form).mono ?_
        rintro e w9 ⟨⟨t9, rfl, o9⟩, b9⟩
        have O9 := (show Hid _ from o9.bs)
        have D9 := (show Hid _ from DY.out.trans (b9.mono DY.out.size))
        have P9 := (show Hid _ from HBS.out.step D9.out)
        have T9 := (show Hid _ from TY.out.step b9)
        have VP9 := (show Hid _ from VPY.out.step b9)
        have VE9 := (show Hid _ from VEY.out.step b9)
        clear o9 b9 DY TY VPY VEY
        go_wp2_with fail
        refine (same_ok _ _ _ _ _ O9.out P9.out).mono ?_
        rintro e w10 ⟨rfl, b10⟩
        have D10 := (show Hid _ from D9.out.trans (b10.mono D9.out.size))
        have T10 := (show Hid _ from T9.out.step b10)
        have VP10 := (show Hid _ from VP9.out.step b10)
        have VE10 := (show Hid _ from VE9.out.step b10)
        clear b10 D9 T9 VP9 VE9 O9 P9
        by_cases heq : y.bytes = o :: rs
        · rw [show decide (y.bytes = o :: rs) = true from decide_eq_true heq]
          have HEQ := (show Hid _ from heq)
          clear heq
          go_wp2_with (first
            | (refine ldA rfl 26 _ rfl E (by rfl) _ _ VE10.out _ Tryd.underlying26 rfl (info26.trans (by rw [l11])) ?_)
            | (refine stA rfl 26 _ _ rfl w.heap.size (by rfl) _ (y.cells (.slice ya yn yk)) (by rfl) _ VP10.out (info26.trans (by rw [l11])) (by rw [l11]; rfl) (fun u hu => ev_one hu) ?_; intro wz Rz Uz))
          refine bodyPost_ret (v := .tuple #[.agg (y.cells (.slice ya yn yk)).toArray, .int .i64 0]) ?_ rfl ⟨Or.inl ⟨y, ya, yn, yk, GY.out, HEQ.out, rfl, T10.out.upd Uz (fun b off n c e => by cases e; have := FY.out b off rfl; omega)⟩, Uz.bel D10.out (Nat.le_refl _)⟩
          have hld := run_loadVar_row (P := Tryd.prog) wz w.heap.size 26 26 _ (0, 0) _ Rz.blk Tryd.underlying26 rfl (info26.trans (by rw [List.size_toArray, l11]))
          simp [results, Tryd.results19, asAddr, hld]
        · rw [show decide (y.bytes = o :: rs) = false from decide_eq_false heq]
          have HEQ := (show Hid _ from heq)
          clear heq
          go_wp2_with (refine stA rfl 26 _ _ rfl w.heap.size (by rfl) _ (E8.cells ⟨0, 0, List.replicate 8 0, []⟩ (.slice none 0 0)) (by rfl) _ VP10.out (info26.trans rfl) rfl (fun u hu => ev_one hu) ?_; intro wz Rz Uz)
          refine bodyPost_ret (v := .tuple #[.agg (E8.cells ⟨0, 0, List.replicate 8 0, []⟩ (.slice none 0 0)).toArray, .int .i64 3]) ?_ rfl ⟨Or.inr ⟨rfl, fun x hx e => HEQ.out (by rw [← AY.out x hx e]; exact e)⟩, Uz.bel D10.out (Nat.le_refl _)⟩
          have hld := run_loadVar_row (P := Tryd.prog) wz w.heap.size 26 26 _ (0, 0) _ Rz.blk Tryd.underlying26 rfl (info26.trans rfl)
          simp [results, Tryd.results19, asAddr, hld]
      have hj' : j < q := by omega
      obtain ⟨g, hg1, hg2, hg3⟩ := HOW.out.at j (by have := HQ.out; omega)
      have hgE : w5.heap.size ≤ g := HOW.out.block g (by rw [hg1]; rfl)
      subst hg1
      have hg4 : wr.cell? ⟨g, j, none⟩ = some (.int .i64 (zs.getD j 0)) := by
        have h1 := K.out.1.block g (by omega)
        rw [← hg3]
        simp [World.cell?, h1]
      have HTK : Hid (zs.take j ++ [zs.getD j 0] = zs.take (j + 1) ∧ (zs.take j).length = j) := by
        have hl : j < zs.length := by have := HQ.out; omega
        constructor
        · rw [List.take_add_one, List.getElem?_eq_getElem hl]
          simp [List.getD, hl]
        · rw [List.length_take]; omega
      have OKj := (show Hid _ from got_ok (o := o) (ts := []) (by omega) hkey (show (zs.take j).length ≤ 8 by rw [HTK.out.2]; omega) (fun n hn => HNU.out.bd n (List.mem_of_mem_take hn)))
      have c8 := K.out.2.cell (2 + j) (E8.cn OKj.out _ j (by omega))
      have f8 := K.out.2.free (2 + j)
      generalize (E8.got o key (zs.take j) []).ns.getD j 0 = old at *
      generalize zs.getD j 0 = n at *
      have d1 : (0 : Int) ≤ (j : Int) := by omega
      have d2 : (j : Int) < (q : Int) := by omega
      have d3 : (j : Int) < 8 := by omega
      go_wp2_with fail
      refine ⟨⟨j + 1, by omega, by go_num, K.out.1.trans (upd_set _ _ _ _), ?_⟩, by simp [intOf]; omega⟩
      rw [← HTK.out.1, ← got_set o key (zs.take j) n _ j HTK.out.2 (by omega)]
      exact K.out.2.set (2 + j) _
end Go.Proofs.YtcognhhbpapibaaDoor
