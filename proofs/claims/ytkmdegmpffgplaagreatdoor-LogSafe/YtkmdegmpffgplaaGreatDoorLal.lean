/- disk XVIII: settle. -/
import Derived.Test.YtkmdegmpffgplaaGreatDoorLak
namespace Go.Proofs.YtkmdegmpffgplaaGreatDoor
open Go.RowKit Go.Maps Go.Sort Go.Shelf pk
set_option linter.unusedVariables false

/-- one file more is settled -/
def stp (ks : List Bool) (st : List (List UInt8 × List (List Nat) × Nat) × Nat) (l : List UInt8) : List (List UInt8 × List (List Nat) × Nat) × Nat :=
  match st.1.find? (fun t => t.1 == l) with
  | some (_, ss, sy) => (upd1 st.1 l (zf ks st.2 sy ss.length ss) ss.length, st.2 + (ss.length - sy))
  | none => st
/-- the files of these names are settled, one behind another -/
def stl (ks : List Bool) (ns : List (List UInt8)) (fs : List (List UInt8 × List (List Nat) × Nat)) : List (List UInt8 × List (List Nat) × Nat) × Nat := ns.foldl (stp ks) (fs, 0)
theorem find_ab {es : List Ent} {l : List UInt8} {e : Ent} (h : fd es l = some e) : (ab es).find? (fun t => t.1 == l) = some (e.nm, e.ss, e.sy) := by
  unfold ab
  rw [List.find?_map]
  show ((fd es l).map _) = _
  rw [h]
  rfl
theorem OwnN.cells {w : World} {B : Nat} {v : Value} {ns : List (List UInt8)} (h : OwnN w B v ns) : ∃ a c, v = .slice a ns.length c ∧ ns.length ≤ c ∧ c ≤ 9223372036854775807 ∧ (∀ i l, ns[i]? = some l → ∃ g, a = some ⟨g, 0, none⟩ ∧ w.cell? ⟨g, i, none⟩ = some (.string ⟨l.toArray⟩) ∧ ∃ cs T z, w.heap[g]? = some (Obj.cells cs T z) ∧ ¬ Dt T) := by
  rcases h.2 with ⟨rfl, h0⟩ | ⟨g, cap, cur, rfl, hb, hg, h1, h2, h3, h4⟩
  · refine ⟨none, 0, by rw [h0], by omega, by omega, fun i l hi => ?_⟩
    have := (List.getElem?_eq_some_iff.1 hi).1
    omega
  · refine ⟨some ⟨g, 0, none⟩, cap, rfl, h1, by unfold maxLen at h2; omega, fun i l hi => ⟨g, rfl, ?_, _, _, _, hg, by unfold Dt; decide⟩⟩
    have hl := (List.getElem?_eq_some_iff.1 hi).1
    have := World.ownsRow.cellAt h i (by omega)
    rw [this, List.getElem?_map, hi]
    rfl
theorem zf_by {ss : List (List Nat)} (h : ∀ s ∈ ss, By s) (ks : List Bool) (i sy j : Nat) : ∀ s ∈ zf ks i sy j ss, By s := fun s hs => by
  unfold zf at hs
  obtain ⟨q, hq, rfl⟩ := List.mem_mapIdx.1 hs
  split
  · exact By.nil
  · exact h _ (List.getElem_mem _)
theorem e0 : sect [] = List.replicate 32 (Value.int .u8 0) := rfl
/-- f.sectors[j] = sector{} at the operation -/
theorem stSw {w : World} {ops : Array Oper} {rest : List Oper} {o : Oper} {a : Act} {Q : Exit → Act → World → Prop} (hgd : o.guard = none) (q y : Operand) (ho : o.op = .store 143 q y)
    (B g n cap j jj : Nat) (hq : a.eval q = .pointer (some ⟨g, jj, none⟩)) (hjj : jj = j * 32) (hy : a.eval y = .agg (List.replicate 32 (Value.int .u8 0)).toArray) (ss : List (List Nat)) (h : Own KS w B (.slice (some ⟨g, 0, none⟩) n cap) ss) (hj : j < ss.length)
    (k : ∀ w', Own KS w' B (.slice (some ⟨g, 0, none⟩) n cap) (ss.set j []) → Upd g w w' → wpList Tryz.prog ops Q rest (a.put o.dst undef) w') : wpList Tryz.prog ops Q (o :: rest) a w := by
  subst hjj
  obtain ⟨w', hst, h1, h2⟩ := stS h j hj []
  rw [e0] at hst
  refine wpList_plain hgd fun K hK => ?_
  have hrun : (storeVar 143 ⟨g, j * 32, none⟩ (.agg (List.replicate 32 (Value.int .u8 0)).toArray)).run Tryz.prog w = .ok () w' := by
    have hi := infoS1
    cases hq : Tryz.prog.info? 143 with
    | none => rw [hq] at hi; cases hi
    | some i =>
      rw [hq] at hi
      have hs : i.size = 32 := by simpa using hi
      simp [storeVar, sizeOf, typeInfo, hq, Value.cells, hs]
      exact hst
  unfold Oper.wp execOp
  simp only [ho, hq, hy, Instr.storeAt, Instr.sureAddr, Sem.run_bind, Sem.run_pure, Result.andThen_ok, hrun]
  exact hK _ _ (k w' h1 h2)
set_option maxRecDepth 100000 in
set_option maxHeartbeats 4000000 in
theorem settle_ok (w : World) (B p m : Nat) (x : DK) (h : Dsk w B p m x) (kv : Value) (ks : List Bool) (hk : Bl w kv ks) (hkl : ks.length ≤ 140737488355328) (hks : Safe w kv) :
    Calls Tryz.prog 57 #[ptr p, kv] w fun r w' => (∃ v, r = .returned v) ∧ (∃ ns, ns.Perm (x.es.map (·.nm)) ∧ ns.Pairwise (fun a b => a ≤ b) ∧ ∃ es', ab es' = (stl ks ns (ab x.es)).1 ∧ Dsk w' B p m { x with es := es' }) ∧ Kee w w' ∧ Below B w w' := by
  have HB0 : Hid (B ≤ w.heap.size) := (show B ≤ w.heap.size from Nat.le_trans h.lo.1 (Nat.le_of_lt h.va.lt))
  have HH := (show Hid _ from h)
  obtain ⟨ka, kc, hkv, hk1, hk2, hk3⟩ := hk.form
  have HKL : Hid (Bl w kv ks) := hk
  have HKS : Hid (Safe w kv) := hks
  clear h hk hks hk3
  subst hkv
  have hp : (ptr p) = .pointer (some ⟨p, 0, none⟩) := rfl
  rw [hp]
  go_enter Tryz.func57, Tryz.ntmps57
  go_wp2_with (go_at_call 77; refine (sorted_ok _ B p m x HH.out).mono ?_; rintro r w1 ⟨v, ns, rfl, hpm, hsr, hon, hnil, b1⟩; obtain ⟨na, nc, rfl, hnc, hnc2, hncell⟩ := hon.cells)
  have HPM := (show Hid _ from hpm)
  have HSR := (show Hid _ from hsr)
  have HNC := (show Hid _ from hncell)
  have HB1 := (show Hid _ from b1)
  have HD1 : Hid (Dsk w1 B p m x) := HH.out.step b1
  have HK1 : Hid (Bl w1 (.slice ka ks.length kc) ks) := HKL.out.kee HKS.out (Kee.bel b1)
  have HS1 : Hid (Safe w1 (.slice ka ks.length kc)) := HKS.out.kee (Kee.bel b1)
  have hN : ns.length ≤ 64 := by have := hpm.length_eq; rw [List.length_map] at this; rw [this]; exact HH.out.fits.2.2
  clear hpm hsr hon hnil b1 hncell
  generalize hNN : ns.length = N at *
  have HNN := (show Hid _ from hNN)
  generalize hKN : ks.length = KN at *
  have HKN := (show Hid _ from hKN)
  clear hNN hKN
  go_loopw [4, 12] (fun c i wr => ∃ (k cc : Nat) (es' : List Ent), k ≤ N ∧ i = .int .i64 (k : Int) ∧ c = .int .i64 (cc : Int) ∧ Hid (Dsk wr B p m { x with es := es' }) ∧ Hid ((ab es', cc) = stl ks (ns.take k) (ab x.es)) ∧ Hid (es'.map (·.nm) = x.es.map (·.nm)) ∧ cc ≤ k * 65536 ∧ Hid (Kee w1 wr) ∧ Hid (Below B w1 wr)) (fun _ i _ => N - (intOf i).toNat)
  case atStart => exact ⟨0, 0, x.es, Nat.zero_le _, rfl, rfl, HD1.out, rfl, rfl, by omega, Kee.refl _, Below.refl _ _⟩
  case round =>
    obtain ⟨k, cc, es', hkN, rfl, rfl, D, ST, NM, hcc, KE, BE⟩ := hrel
    by_cases hlt : k < N
    · have dk : (k : Int) < (N : Int) := by omega
      obtain ⟨nk, hnk⟩ : ∃ nk, ns[k]? = some nk := ⟨_, List.getElem?_eq_getElem (by rw [HNN.out]; exact hlt)⟩
      obtain ⟨gn, rfl, hcn, csn, Tn, zn, hbn, hTn⟩ := HNC.out k nk hnk
      have hcn2 : wr.cell? ⟨gn, k, none⟩ = some (.string ⟨nk.toArray⟩) := by
        rw [← hcn]
        exact World.cell?_of_block ((KE.out.blk _ _ _ _ hbn hTn).trans hbn.symm)
      obtain ⟨e, he, hen⟩ : ∃ e ∈ es', e.nm = nk := by
        have h1 : nk ∈ x.es.map (·.nm) := HPM.out.mem_iff.1 (List.mem_of_getElem? hnk)
        rw [← NM.out] at h1
        exact List.mem_map.1 h1
      have hfd : fd es' nk = some e := by rw [← hen]; exact fd_of D.out.ap he
      obtain ⟨l1, l2, hx, _, _⟩ := fd_split hfd
      have HX : Hid (es' = l1 ++ e :: l2) := hx
      have hnl : nk.length ≤ 16 := by rw [← hen]; exact (D.out.fil e he).nm
      have hlk := D.out.look (s := ⟨nk.toArray⟩) (by show nk.toArray.size ≤ _; simp; omega)
      simp only [hfd, Option.map_some, Option.getD_some] at hlk
      have hpe : (ptr e.q) = .pointer (some ⟨e.q, 0, none⟩) := rfl
      rw [hpe] at hlk
      have ym := D.out.va.cell 1 (v := .map (some m)) rfl
      have F := D.out.fil e he
      have hel : e.ss.length ≤ 65536 := D.out.flen hx
      obtain ⟨ea, ecap, hev, hec, hec2⟩ := F.row.form
      have yq0 := F.blk.cell 0 (v := e.v) rfl
      have yq1 := F.blk.cell 1 (v := .int .i64 e.sy) rfl
      rw [hev] at yq0
      have HF : Hid (Fil wr B e) := F
      have HEV := (show Hid _ from hev)
      have HFD := (show Hid _ from hfd)
      have HNK := (show Hid _ from hnk)
      have HEN := (show Hid _ from hen)
      have hsy := F.sy
      generalize hln : e.ss.length = ln at *
      have HLN := (show Hid _ from hln)
      generalize hsyy : e.sy = sy at *
      have HSY := (show Hid _ from hsyy)
      clear hx hfd F hev hnk hen hln hsyy he hcn hbn
      have dsy : (sy : Int) ≤ (ln : Int) := by omega
      have hccb : cc ≤ 4194304 := by have : k * 65536 ≤ 64 * 65536 := Nat.mul_le_mul_right _ (by omega); omega
      go_wp2_with fail
      rename World => w9
      go_loopw [4, 8] (fun c q wx => ∃ j : Nat, sy ≤ j ∧ j ≤ ln ∧ q = .int .i64 (j : Int) ∧ c = .int .i64 ((cc + (j - sy) : Nat) : Int) ∧ Hid (Own KS wx B (.slice ea ln ecap) (zf ks cc sy j e.ss)) ∧ Hid (VA wx e.q [.slice ea ln ecap, .int .i64 sy] 116) ∧ Hid (But (fun i => e.v.ownBlock = some i) w9 wx)) (fun _ q _ => ln - (intOf q).toNat)
      case atStart =>
        refine ⟨sy, Nat.le_refl _, hsy, rfl, by simp, ?_, ?_, But.refl _ _⟩
        · show Own KS _ B _ (zf ks cc sy sy e.ss)
          rw [zf_start, ← HEV.out]
          exact HF.out.row
        · have := HF.out.blk
          rw [HEV.out, HSY.out] at this
          exact this
      case round =>
        obtain ⟨j, hsj, hjl0, rfl, rfl, O, V, BT⟩ := hrel
        have z0 := V.out.cell 0 rfl
        have z1 := V.out.cell 1 rfl
        have fz1 := V.out.free 1
        have KX : Hid (Kee w9 wr) := kee_but BT.out (fun i hi cs T z hc => by
          obtain ⟨cs', hcs⟩ := row_blk HF.out.row hi
          rw [hcs] at hc
          cases hc
          exact .inr (.inr rfl))
        by_cases hjl : j < ln
        · have dj : (j : Int) < (ln : Int) := by omega
          obtain ⟨g, hea⟩ : ∃ g, ea = some ⟨g, 0, none⟩ := by
            rcases O.out.own.2 with ⟨e1, _⟩ | ⟨g, cp, cur, e1, _⟩
            · cases e1
              omega
            · cases e1
              exact ⟨g, rfl⟩
          subst hea
          have HNQ : Hid (g ≠ e.q) := (show g ≠ e.q from fun er => by
            obtain ⟨cs, hcs⟩ := row_blk O.out (g := g) rfl
            rw [er, V.out.blk] at hcs
            injection hcs with hcs
            injection hcs with _ hT _
            cases hT)
          have HVB : Hid (e.v.ownBlock = some g) := (show e.v.ownBlock = some g by rw [HEV.out]; rfl)
          obtain ⟨ci, hci⟩ : ∃ ci, ci = cc + (j - sy) := ⟨_, rfl⟩
          have HCI : Hid (ci = cc + (j - sy)) := hci
          rw [← hci]
          have hcib : ci ≤ 8388608 := by omega
          clear hci
          by_cases c1 : KN ≤ ci
          · have HKV : Hid (ks.getD ci false = false) := (show ks.getD ci false = false by rw [List.getD, List.getElem?_eq_none (by rw [HKN.out]; exact c1)]; rfl)
            have dc : (KN : Int) ≤ (ci : Int) := by omega
            have hjz : j < (zf ks cc sy j e.ss).length := by rw [zf_len, HLN.out]; exact hjl
            have HJZ := (show Hid _ from hjz)
            clear hjz
            go_wp2_with (refine stSw rfl _ _ rfl B g ln ecap j (j * 32) (by rfl) rfl (by rfl) _ O.out HJZ.out ?_; intro w5 o5 u5'; have HO5 : Hid (Own KS w5 B (.slice (some ⟨g, 0, none⟩) ln ecap) ((zf ks cc sy j e.ss).set j [])) := o5; have HU5 := (show Hid _ from u5'); clear o5 u5')
            go_roundw
            case rel =>
              refine ⟨j + 1, by omega, by omega, by simp, by rw [HCI.out]; congr 1; omega, ?_, ?_, ?_⟩
              · show Own KS _ B _ (zf ks cc sy (j + 1) e.ss)
                rw [zf_zero hsj (by rw [← HCI.out]; exact HKV.out)]
                exact HO5.out
              · exact V.out.upd HU5.out (fun er => HNQ.out er.symm)
              · exact BT.out.trans (HU5.out.but.mono (fun i (hi : i = g) => by rw [hi]; exact HVB.out)) (fun _ _ h => h)
            case measure => simp [intOf]; omega
          · have dc : (ci : Int) < (KN : Int) := by omega
            have BL := ((HK1.out.kee HS1.out KE.out).kee (HS1.out.kee KE.out) KX.out)
            obtain ⟨ka', kc', ek, _, _, hkc⟩ := BL.form
            cases ek
            obtain ⟨kb, koff, rfl, hkcell⟩ := hkc (by rw [HKN.out]; omega)
            have hkb := hkcell ci (by rw [HKN.out]; omega)
            cases hkv : ks.getD ci false
            · have HKV : Hid (ks.getD ci false = false) := hkv
              rw [hkv] at hkb
              clear hkcell hkv
              have hjz : j < (zf ks cc sy j e.ss).length := by rw [zf_len, HLN.out]; exact hjl
              have HJZ := (show Hid _ from hjz)
              clear hjz
              go_wp2_with (refine stSw rfl _ _ rfl B g ln ecap j (j * 32) (by rfl) rfl (by rfl) _ O.out HJZ.out ?_; intro w5 o5 u5'; have HO5 : Hid (Own KS w5 B (.slice (some ⟨g, 0, none⟩) ln ecap) ((zf ks cc sy j e.ss).set j [])) := o5; have HU5 := (show Hid _ from u5'); clear o5 u5')
              go_roundw
              case rel =>
                refine ⟨j + 1, by omega, by omega, by simp, by rw [HCI.out]; congr 1; omega, ?_, ?_, ?_⟩
                · show Own KS _ B _ (zf ks cc sy (j + 1) e.ss)
                  rw [zf_zero hsj (by rw [← HCI.out]; exact HKV.out)]
                  exact HO5.out
                · exact V.out.upd HU5.out (fun er => HNQ.out er.symm)
                · exact BT.out.trans (HU5.out.but.mono (fun i (hi : i = g) => by rw [hi]; exact HVB.out)) (fun _ _ h => h)
              case measure => simp [intOf]; omega
            · have HKV : Hid (ks.getD ci false = true) := hkv
              rw [hkv] at hkb
              clear hkcell hkv
              go_wp2_with fail
              go_roundw
              case rel =>
                refine ⟨j + 1, by omega, by omega, by simp, by rw [HCI.out]; congr 1; omega, ?_, V.out, BT.out⟩
                show Own KS _ B _ (zf ks cc sy (j + 1) e.ss)
                rw [zf_keep hsj (by rw [← HCI.out]; exact HKV.out)]
                exact O.out
              case measure => simp [intOf]; omega
        · obtain rfl : j = ln := by omega
          go_wp2_with fail
          have U4 := upd_set wr e.q 1 (.int .i64 (j : Int))
          have hb4 : But (XF e) w9 (wr.setCell ⟨e.q, 1, none⟩ (.int .i64 (j : Int))) := (BT.out.mono (Y := XF e) (fun i hi => .inr hi)).trans (U4.but.mono (Y := XF e) (fun i hi => .inl hi)) (fun _ _ h => h)
          have hf4 : Fil (wr.setCell ⟨e.q, 1, none⟩ (.int .i64 (j : Int))) B { e with v := e.v, ss := zf ks cc sy j e.ss, sy := j } := by
            refine ⟨?_, ?_, HF.out.lo, ?_, ?_, HF.out.nm⟩
            · rw [show ({ e with v := e.v, ss := zf ks cc sy j e.ss, sy := j } : Ent).v = _ from HEV.out]
              exact V.out.set 1 _
            · rw [show ({ e with v := e.v, ss := zf ks cc sy j e.ss, sy := j } : Ent).v = _ from HEV.out]
              refine O.out.blk (fun g hg => U4.block g (fun er => ?_))
              obtain ⟨cs, hcs⟩ := row_blk O.out hg
              rw [er, V.out.blk] at hcs
              injection hcs with hcs
              injection hcs with _ hT _
              cases hT
            · show j ≤ (zf ks cc sy j e.ss).length
              rw [zf_len, HLN.out]
              exact Nat.le_refl _
            · exact zf_by HF.out.byte _ _ _ _
          have hput := D.out.put (l1 := l1) (l2 := l2) (e' := { e with v := e.v, ss := zf ks cc sy j e.ss, sy := j }) HX.out hb4 hf4 rfl rfl (fun g hg => .inl hg) (by
            have h1 := D.out.fits.1
            have h2 : tot es' ≤ x.room := h1
            rw [HX.out, tot_app] at h2
            simp only [tot] at h2
            show tot l1 + (zf ks cc sy j e.ss).length + tot l2 ≤ x.room
            rw [zf_len]
            omega)
          have hab : ab (l1 ++ { e with v := e.v, ss := zf ks cc sy j e.ss, sy := j } :: l2) = upd1 (ab es') nk (zf ks cc sy j e.ss) j := by
            have ap : es'.Pairwise Apart := D.out.ap
            rw [HX.out] at ap
            rw [ab_upd ap, ← HX.out, HEN.out]
          have hstl : stl ks (ns.take (k + 1)) (ab x.es) = (upd1 (ab es') nk (zf ks cc sy j e.ss) j, cc + (j - sy)) := by
            have h1 : stl ks (ns.take (k + 1)) (ab x.es) = stp ks (stl ks (ns.take k) (ab x.es)) nk := by
              unfold stl
              rw [List.take_add_one, HNK.out, List.foldl_append]
              rfl
            rw [h1, ← ST.out]
            unfold stp
            rw [find_ab HFD.out]
            simp only [HLN.out, HSY.out]
          have hnm : (l1 ++ { e with v := e.v, ss := zf ks cc sy j e.ss, sy := j } :: l2).map (·.nm) = x.es.map (·.nm) := by
            rw [← NM.out, HX.out]
            simp
          have hke : Kee w9 (wr.setCell ⟨e.q, 1, none⟩ (.int .i64 (j : Int))) := KX.out.trans (Kee.upd U4 V.out (.inr (.inl rfl)))
          have hbe : Below B w9 (wr.setCell ⟨e.q, 1, none⟩ (.int .i64 (j : Int))) := hb4.below (by have := D.out.lo.1; have := D.out.va.lt; omega) (fun i hi => by
            rcases hi with rfl | hi
            · exact HF.out.lo
            · exact HF.out.row.block i hi)
          have HPUT : Hid (Dsk (wr.setCell ⟨e.q, 1, none⟩ (.int .i64 (j : Int))) B p m { x with es := l1 ++ { e with v := e.v, ss := zf ks cc sy j e.ss, sy := j } :: l2 }) := hput
          have HSTL := (show Hid _ from (show (ab (l1 ++ { e with v := e.v, ss := zf ks cc sy j e.ss, sy := j } :: l2), cc + (j - sy)) = stl ks (ns.take (k + 1)) (ab x.es) by rw [hab, hstl]))
          have HNM := (show Hid _ from hnm)
          have HKE := (show Hid _ from KE.out.trans hke)
          have HBE := (show Hid _ from BE.out.trans hbe)
          clear hput hab hstl hnm hke hbe hf4 hb4 U4
          go_roundw
          case rel => exact ⟨k + 1, cc + (j - sy), _, hlt, by simp, rfl, HPUT.out, HSTL.out, HNM.out, by omega, HKE.out, HBE.out⟩
          case measure => simp [intOf]; omega
    · obtain rfl : k = N := by omega
      go_wp2_with fail
      go_end0
      have hst := ST.out
      rw [← HNN.out, List.take_length] at hst
      refine ⟨⟨_, rfl⟩, ⟨ns, HPM.out, HSR.out, es', by rw [← hst], D.out⟩, (Kee.bel HB1.out).trans KE.out, (HB1.out.mono HB0.out).trans BE.out⟩
end Go.Proofs.YtkmdegmpffgplaaGreatDoor
/- disk XIX: Restart. -/
namespace Go.Proofs.YtkmdegmpffgplaaGreatDoor
open Go.RowKit Go.Maps Go.Sort Go.Shelf pk
set_option linter.unusedVariables false

/-- what Restart leaves -/
def Rst (w w' : World) (B p m : Nat) (x : DK) (ks : List Bool) : Prop := (∃ ns, ns.Perm (x.es.map (·.nm)) ∧ ns.Pairwise (fun a b => a ≤ b) ∧ ∃ es', ab es' = (stl ks ns (ab x.es)).1 ∧ Dsk w' B p m { x with on := true, und := .nilFunc, es := es' }) ∧ Kee w w' ∧ Below B w w'
set_option maxRecDepth 100000 in
theorem restart_ok (w : World) (B p m : Nat) (x : DK) (h : Dsk w B p m x) (dn : Bool) (kv : Value) (ks : List Bool) (hk : Bl w kv ks) (hkl : ks.length ≤ 140737488355328) (hks : Safe w kv) (hoff : x.on = false) (hu : x.und = .nilFunc) :
    Calls Tryz.prog 27 #[ptr p, .agg #[.bool dn, kv]] w fun r w' => r = .returned (.int .i64 0) ∧ Rst w w' B p m x ks := by
  have HB0 : Hid (B ≤ w.heap.size) := (show B ≤ w.heap.size from Nat.le_trans h.lo.1 (Nat.le_of_lt h.va.lt))
  have b1 := (Below.refl w.heap.size w).alloc (Nat.le_refl _) (.cells #[.bool dn, kv] 67)
  have HH := (show Hid _ from h)
  have HV0 : Hid (VA w p [.int .i64 x.room, .map (some m), .bool false, .int .i64 x.ops, .int .i64 x.left, .nilFunc] 106) := by have := h.va; rw [hoff, hu] at this; exact this
  have V := (h.step b1).va
  rw [hoff, hu] at V
  have y2 := V.cell 2 (v := .bool false) rfl
  have y5 := V.cell 5 (v := .nilFunc) rfl
  have f5 := V.free 5
  have FV := va_new w [.bool dn, kv] 67
  have z0 := FV.cell 0 (v := .bool dn) rfl
  have z1 := FV.cell 1 (v := kv) rfl
  obtain ⟨ka, kc, hkv, _⟩ := hk.form
  have HK : Hid (Bl w kv ks) := hk
  have HS : Hid (Safe w kv) := hks
  have HD : Hid (Dsk (w.alloc (.cells #[.bool dn, kv] 67)) B p m x) := h.step b1
  have HB1 := (show Hid _ from b1)
  have HV := (show Hid _ from V)
  have hlp := h.va.lt
  have hff : ∀ w : World, (binOp .neq 1 .nilFunc .nilFunc).run Tryz.prog w = .ok (.bool false) w := fun _ => rfl
  clear h hk hks b1 V FV
  subst hkv
  have hp : (ptr p) = .pointer (some ⟨p, 0, none⟩) := rfl
  rw [hp]
  have s5 := run_store Tryz.prog (w.alloc (.cells #[.bool dn, .slice ka ks.length kc] 67)) ⟨p, 5, none⟩ .nilFunc .plain rfl
  simp only [y5, f5, Bool.false_eq_true, if_false] at s5
  have h2 := hdr_of HH.out (upd_set w p 5 .nilFunc) x.ops x.left false .nilFunc (HV0.out.set 5 _)
  have b2 := (Below.refl (w.setCell ⟨p, 5, none⟩ .nilFunc).heap.size (w.setCell ⟨p, 5, none⟩ .nilFunc)).alloc (Nat.le_refl _) (.cells #[.bool dn, .slice ka ks.length kc] 67)
  have k2 := h2.2.1.trans (Kee.bel b2)
  have HD2 : Hid (Dsk ((w.setCell ⟨p, 5, none⟩ .nilFunc).alloc (.cells #[.bool dn, .slice ka ks.length kc] 67)) B p m { x with ops := x.ops, left := x.left, on := false, und := .nilFunc }) := h2.1.step b2
  have HK2 := (show Hid _ from HK.out.kee HS.out k2)
  have HS2 : Hid (Safe ((w.setCell ⟨p, 5, none⟩ .nilFunc).alloc (.cells #[.bool dn, .slice ka ks.length kc] 67)) (.slice ka ks.length kc)) := HS.out.kee k2
  have HE2 := (show Hid _ from k2)
  have HL2 := (show Hid _ from h2.2.2.trans (b2.mono (by have := HB0.out; simp; omega)))
  clear b2 k2
  clear h2
  cases dn
  all_goals
    go_enter Tryz.func27, Tryz.ntmps27
    go_wp2_with (go_at_call 57; refine (settle_ok _ B p m _ HD2.out _ ks HK2.out hkl HS2.out).mono ?_; rintro r w3 ⟨⟨v, rfl⟩, ⟨ns, hpm, hsr, es', hab, hD⟩, hk3, hb3⟩; have y3 := hD.va.cell 2 (v := .bool false) rfl; have f3 := hD.va.free 2; have HD3 := (show Hid _ from hD); clear hD)
    go_ret
    have h4 := hdr_of HD3.out (upd_set w3 p 2 (.bool true)) x.ops x.left true .nilFunc (HD3.out.va.set 2 _)
    exact ⟨rfl, ⟨ns, hpm, hsr, es', hab, h4.1⟩, (HE2.out.trans hk3).trans h4.2.1, (HL2.out.trans hb3).trans h4.2.2⟩
end Go.Proofs.YtkmdegmpffgplaaGreatDoor
/- disk XX: the disk's files as plain lists; awake. -/
namespace Go.Proofs.YtkmdegmpffgplaaGreatDoor
open Go.RowKit Go.Maps Go.Sort Go.Shelf pk
set_option linter.unusedVariables false

abbrev FS := List (List UInt8 × List (List Nat) × Nat)
def totA : FS → Nat
  | [] => 0
  | t :: fs => t.2.1.length + totA fs
theorem tot_ab (es : List Ent) : tot es = totA (ab es) := by
  induction es with
  | nil => rfl
  | cons e es ih => show e.ss.length + tot es = e.ss.length + totA (ab es); rw [ih]
theorem find_ab' (es : List Ent) (l : List UInt8) : (ab es).find? (fun t => t.1 == l) = (fd es l).map fun e => (e.nm, e.ss, e.sy) := by
  unfold ab fd
  rw [List.find?_map]
  rfl
def fitA (room : Nat) (fs : FS) (l : List UInt8) (k : Nat) : Bool := !((fs.find? (fun t => t.1 == l)).isNone && decide (fs.length = 64)) && decide (k ≤ room - totA fs)
theorem fit_ab (x : DK) (l : List UInt8) (k : Nat) : fit x l k = fitA x.room (ab x.es) l k := by
  unfold fit fitA
  rw [find_ab', tot_ab]
  congr 2
  · congr 1
    · cases fd x.es l <;> rfl
    · simp [ab]
theorem fd_ab {es : List Ent} {l n : List UInt8} {ss : List (List Nat)} {sy : Nat} (h : (ab es).find? (fun t => t.1 == l) = some (n, ss, sy)) : ∃ f, fd es l = some f ∧ f.ss = ss ∧ f.sy = sy ∧ f.nm = n := by
  rw [find_ab'] at h
  obtain ⟨f, h1, h2⟩ := Option.map_eq_some_iff.1 h
  cases h2
  exact ⟨f, h1, rfl, rfl, rfl⟩
theorem names_ab (es : List Ent) : es.map (·.nm) = (ab es).map (·.1) := by simp [ab]
/-- a row of bytes that is known whole -/
theorem own_blk {w : World} {g n B : Nat} {bs : List Nat} (h : w.heap[g]? = some (.cells (cl bs).toArray 5 (0, 0))) (hn : bs.length = n) (hb : By bs) (hm : n ≤ 140737488355328) (hB : B ≤ g) : OwnB w B (.slice (some ⟨g, 0, none⟩) n n) bs := by
  subst hn
  exact ⟨hb, by rw [cl_len]; omega, Or.inr ⟨g, bs.length, _, rfl, hB, h, Nat.le_refl _, by unfold maxLen; omega, by simp [cl], by rw [Nat.mul_one, ← cl_len bs]; exact List.take_length⟩⟩
theorem by_zeros (n : Nat) : By (List.replicate n 0) := fun x hx => by rw [List.eq_of_mem_replicate hx]; omega
theorem made_by (n : Nat) : madeCells (Value.int .u8 0).cells (n * 1) = (cl (List.replicate n 0)).toArray := by
  show (Array.range (n * 1)).map _ = _
  refine Array.ext_getElem? fun i => ?_
  by_cases h : i < n
  · simp [cl, h, Nat.mod_one, Value.cells]
  · simp [cl, h]
theorem mk_by (n : Nat) (hn : n ≤ 1000000) (w : World) : (Instr.makeSlice 22 (.int .i64 (n : Int)) (.int .i64 (n : Int))).run Tryz.prog w = .ok (.slice (some ⟨w.heap.size, 0, none⟩) n n) (w.alloc (.cells (cl (List.replicate n 0)).toArray 5)) := by
  obtain ⟨i0, hi, hz0, hz1, hz2⟩ := info8_parts
  have h := run_make (P := Tryz.prog) w 22 5 i0 _ Tryz.underlying22 hi hz0 .i64 .i64 n n (by omega) (by omega) (by rw [hz2]; omega) (by omega)
  rw [hz1] at h
  simp only [Int.toNat_natCast] at h
  rw [made_by] at h
  exact h
theorem own_mk (n : Nat) (hn : n ≤ 1000000) (w : World) : OwnB (w.alloc (.cells (cl (List.replicate n 0)).toArray 5)) w.heap.size (.slice (some ⟨w.heap.size, 0, none⟩) n n) (List.replicate n 0) :=
  own_blk (Go.heap_alloc_new w _) (by simp) (by_zeros n) (by omega) (Nat.le_refl _)
/-- a row of truth values that is known whole -/
theorem bl_blk {w : World} {g : Nat} {ks : List Bool} (h : VA w g (ks.map Value.bool) 4) (hm : ks.length ≤ 140737488355328) : Bl w (.slice (some ⟨g, 0, none⟩) ks.length ks.length) ks ∧ Safe w (.slice (some ⟨g, 0, none⟩) ks.length ks.length) := by
  refine ⟨⟨some ⟨g, 0, none⟩, ks.length, rfl, Nat.le_refl _, by omega, fun _ => ⟨g, 0, rfl, fun i hi => ?_⟩⟩, fun b off n c e => ?_⟩
  · rw [Nat.zero_add]
    exact h.cell i (by simp [hi])
  · cases e
    exact ⟨_, _, _, h.blk, by unfold Dt; decide⟩
theorem one_perm {ns : List (List UInt8)} {l : List UInt8} (h : ns.Perm [l]) : ns = [l] := List.perm_singleton.1 h
theorem awake_sum : (stl [false, true, true] [[97]] [([97], parts (List.replicate 33 0) ++ parts [7], 0)]).1 = [([97], [[], [0], [7]], 3)] := by decide
theorem awake_parts : parts (List.replicate 33 0) = [List.replicate 32 0, [0]] := by decide
end Go.Proofs.YtkmdegmpffgplaaGreatDoor
