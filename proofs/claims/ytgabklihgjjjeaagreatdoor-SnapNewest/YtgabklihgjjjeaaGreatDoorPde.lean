/- snap XVIII: SnapNewest's walk. -/
import Derived.Test.YtgabklihgjjjeaaGreatDoorPdd
import Derived.Test.YtgabklihgjjjeaaGreatDoorGx
import Derived.Test.YtgabklihgjjjeaaGreatDoorGy
namespace Go.Proofs.YtgabklihgjjjeaaGreatDoor
open Go.RowKit Go.Maps Go.Sort Go.Shelf pk
set_option linter.unusedVariables false
set_option linter.unusedSimpArgs false
/-- append(s, x...) as a region that draws its order meets it -/
theorem appBk {w : World} {y : Nat → Option Bool} {o : Oper} {a : Act} {Q : Exit → Act → World → Prop} {K : Act → World → Prop} {k0 : Prop} (hgd : Region.wanted o y = true) (s x : Operand)
    (ho : o.op = .call { callee := .builtin .append, args := #[s, x], argTypes := #[22, 22] })
    (B : Nat) (cs bs : List Nat) (v u : Value) (hs : a.eval s = v) (hx : a.eval x = u)
    (hown : OwnB w B v cs) (hu : Bs w u bs) (hB : B ≤ w.heap.size) (hl : cs.length + bs.length ≤ 140737488355328)
    (h : ∀ v' w', OwnB w' B v' (cs ++ bs) → Below B w w' → w.grownBy w' v.ownBlock → K (a.put o.dst v') w') :
    if Region.wanted o y then o.wp Tryz.prog a w K Q else k0 := by
  obtain ⟨i0, hi, hz0, hz1, hz2⟩ := info8_parts
  obtain ⟨hby, ad, c, rfl, h1, h2, h3, h4⟩ := hu
  rw [if_pos hgd]
  have hfin : ∀ v' w', w'.ownsRow B 5 1 v' (cs.length + bs.length) (cl cs ++ cl bs) → w.grownBy w' v.ownBlock → K (a.put o.dst v') w' := fun v' w' g1 g2 =>
    h v' w' ⟨hown.byte.app hby, by rw [List.length_append, ← cl_app]; exact g1⟩ ((Below.refl _ _).grown g2 hB hown.block) g2
  cases ad with
  | none =>
    obtain rfl := h3 rfl
    obtain rfl : bs = [] := List.eq_nil_of_length_eq_zero (by omega)
    have hrun := run_append_owned_none (P := Tryz.prog) (w := w) B 22 o.type 5 i0 1 Tryz.underlying22 hi v cs.length (cl cs) hown.own
    unfold Oper.wp
    simp [execOp, ho, resolve, invoke, builtin, hs, hx, hrun, Result.andThen]
    exact h v w (by simpa using hown) (Below.refl _ _) (World.grownBy.refl _ _)
  | some ad =>
    refine wp_append_own _ s x 22 ho B 5 i0 (.int .u8 0) 1 1 Tryz.underlying22 hi hz0 hz1 hz2 rfl (by decide) v cs.length (cl cs) hs hown.own ad bs.length c (cl bs) hx (by simp [cl_len]) ?_ (fun u hu => cl_one hu) (by unfold maxLen; omega) (by omega) hB (fun v' w' g1 g2 _ => hfin v' w' g1 g2)
    intro j u hj
    have hj' : j < bs.length := by
      have := (List.getElem?_eq_some_iff.1 hj).1
      rwa [cl_len] at this
    obtain ⟨b, off, e, hb, hcell⟩ := h4 (by omega)
    cases e
    rw [Go.WideShapes.add_plain, hcell j hj', ← cl_get bs j hj', hj]
theorem own_one (w : World) (d : Nat) (hd : d < 256) (z : Int) (hz : z = (d : Int)) : OwnB (w.alloc (.cells #[.int .u8 z] 5)) w.heap.size (.slice (some ⟨w.heap.size, 0, none⟩) 1 1) [d] := by
  subst hz
  exact
  ⟨By.one hd, by simp [cl], .inr ⟨w.heap.size, 1, #[.int .u8 (d : Int)], rfl, Nat.le_refl _, heap_alloc_new w _, by simp, by unfold maxLen; omega, by simp, by simp [cl]⟩⟩
theorem cn4_201 {L : Nat} (h : L ≤ 201) : cn4 (L + 4) ≤ 9 := by unfold cn4; omega
/-- the snapshots so far, the greatest number and what was written last under it -/
structure New (w : World) (fs : FS) (F : Nat → List Nat) (k : Nat) (bi : Int) (want : Value) : Prop where
  sn : Snaps fs F
  no : nmT ∉ nms fs
  len : fs.length ≤ k
  tot : totA fs ≤ 20 * k
  top : (bi = -1 ∧ ∀ n, n ≤ 999999999999 → nmS n ∉ nms fs) ∨ ∃ n : Nat, bi = (n : Int) ∧ n < 65536 ∧ Topp fs n ∧ Bs w want (F n) ∧ Safe w want
theorem New.more {w : World} {fs : FS} {F : Nat → List Nat} {k k' : Nat} {bi : Int} {want : Value} (h : New w fs F k bi want) (hk : k ≤ k') : New w fs F k' bi want :=
  ⟨h.sn, h.no, Nat.le_trans h.len hk, Nat.le_trans h.tot (by omega), h.top⟩
section
variable {w w' : World} {fs : FS} {F : Nat → List Nat} {k : Nat} {bi : Int} {want v : Value} {x : Nat} {cs : List Nat}
theorem New.up (h : New w fs F k bi want) (hx : x < 65536) (hb : By cs) (h0 : 0 < cs.length) (hl : cs.length ≤ 201) (hge : bi ≤ (x : Int)) (hv : Bs w' v cs) (hs : Safe w' v) :
    New w' (wfs fs x cs) (fun i => if i = x then cs else F i) (k + 1) (x : Int) v := by
  refine ⟨h.sn.write h.no (by omega) hb h0 (by omega), nmT_wfs fs x cs h.no, Nat.le_trans (len_wfs fs x cs h.no) (by have := h.len; omega), Nat.le_trans (tot_wfs fs x cs h.no) (by have := h.tot; have := cn4_201 hl; omega), Or.inr ⟨x, rfl, hx, Topp.up (fun i hi hm => ?_) h.no (by omega), by simpa using hv, hs⟩⟩
  rcases h.top with ⟨_, hn⟩ | ⟨n, e, _, ht, _⟩
  · exact absurd hm (hn i hi)
  · have := ht.max i hi hm
    omega
theorem New.keep (h : New w fs F k bi want) (hx : x < 65536) (hb : By cs) (h0 : 0 < cs.length) (hl : cs.length ≤ 201) (hlt : (x : Int) < bi) (K : Kee w w') :
    New w' (wfs fs x cs) (fun i => if i = x then cs else F i) (k + 1) bi want := by
  refine ⟨h.sn.write h.no (by omega) hb h0 (by omega), nmT_wfs fs x cs h.no, Nat.le_trans (len_wfs fs x cs h.no) (by have := h.len; omega), Nat.le_trans (tot_wfs fs x cs h.no) (by have := h.tot; have := cn4_201 hl; omega), ?_⟩
  rcases h.top with ⟨e, _⟩ | ⟨n, e, hn, ht, hB, hS⟩
  · omega
  · refine Or.inr ⟨n, e, hn, ht.keep h.no (by omega) (by omega), ?_, hS.kee K⟩
    have e2 : ¬ n = x := by omega
    simp only [e2, if_false]
    exact hB.kee hS K
end
set_option maxRecDepth 100000 in
set_option maxHeartbeats 4000000 in
theorem newest_walk (v : Value) (us : List Nat) (u : Value) (ts : List TB) (w : World) (hT : Pt10 w) (hv : Sl KH w v us) (hus : ∀ x ∈ us, x < 65536) (hu : Sl KT w u ts) (hts : ∀ t ∈ ts, Bs w (.slice t.a t.bs.length t.c) t.bs) :
    Calls Tryz.prog 5 #[v, u] w fun e w' => e = .returned (.bool true) ∧ Below w.heap.size w w' := by
  have HT : Hid (Pt10 w) := hT
  have HU := (show Hid _ from hv)
  have HX := (show Hid _ from hu)
  have HUS := (show Hid _ from hus)
  have HTS := (show Hid _ from hts)
  obtain ⟨na, nc, rfl, hn1, hn2, _⟩ := hv.form
  obtain ⟨ta, tc, rfl, ht1, ht2, _⟩ := hu.form
  clear hv hu hus hts hT
  generalize hN : us.length = N at *
  have HN := (show Hid _ from hN)
  generalize hM : ts.length = M at *
  have HM := (show Hid _ from hM)
  clear hN hM
  go_enter Tryz.func5, Tryz.ntmps5
  go_wp2_with fail
  refine (awake_ok _ HT.out).mono ?_
  rintro e w1 ⟨rfl, b1⟩
  have HB1 : Hid (Below w.heap.size w w1) := b1
  have HSW : Hid (w.heap.size ≤ w1.heap.size) := HB1.out.size
  clear b1
  go_wp2_with fail
  refine (new_any 60000 w1 (by omega) (by omega)).mono ?_
  rintro e w2 ⟨p, m, rfl, hA2, b2⟩
  have HA2 : Hid (DA w2 w1.heap.size p m ⟨60000, 0, 0, true, none, []⟩) := hA2
  have HB2 : Hid (Below w1.heap.size w1 w2) := b2
  have HT2 : Hid (PtB w1.heap.size w2) := (ptB_of (HT.out.on HB1.out)).on b2
  have HALL : Hid (∀ w', Below w1.heap.size w2 w' → Below w.heap.size w w') := fun w' h => HB1.out.trans ((HB2.out.trans h).mono HSW.out)
  clear hA2 b2
  generalize w1.heap.size = B at *
  unfold ptr
  go_upto_block 0 with fail
  go_cut [7, 8] (fun best want wx => ∃ (bi : Int) (fs : FS) (F : Nat → List Nat) (o : Nat) (wv : Value), wv = want ∧ best = .int .i64 bi ∧ o ≤ 200 ∧ Hid (DA wx B p m ⟨60000, o, 0, true, none, fs⟩) ∧ Hid (New wx fs F 30 bi want) ∧ Hid (Below B w2 wx))
  case first =>
    go_wp2_with fail
    go_loopw [7, 8, 25] (fun best want i wr => ∃ (k o : Nat) (bi : Int) (fs : FS) (F : Nat → List Nat), k ≤ N ∧ k ≤ 30 ∧ o ≤ 4 * k ∧ i = .int .i64 (k : Int) ∧ best = .int .i64 bi ∧ Hid (DA wr B p m ⟨60000, o, 0, true, none, fs⟩) ∧ Hid (New wr fs F k bi want) ∧ Hid (Below B w2 wr)) (fun _ _ i _ => N - (intOf i).toNat)
    case atStart => exact ⟨0, 0, -1, [], fun _ => [], Nat.zero_le _, Nat.zero_le _, Nat.le_refl _, rfl, rfl, HA2.out, ⟨snaps_nil _, by simp [nms], Nat.le_refl _, Nat.le_refl _, Or.inl ⟨rfl, fun n _ h => by simp [nms] at h⟩⟩, Below.refl _ _⟩
    case round =>
      obtain ⟨k, o, bi, fs, F, hk, hk30, hok, rfl, rfl, HA, HNW, HBE⟩ := hrel
      by_cases hlt : k < N
      · have dk : (k : Int) < (N : Int) := by omega
        obtain ⟨x, hx⟩ : ∃ x, us[k]? = some x := ⟨_, List.getElem?_eq_getElem (by rw [HN.out]; exact hlt)⟩
        obtain ⟨nb, noff, rfl, hnb, hcell⟩ := (HU.out.step (HALL.out wr HBE.out)).at k x hx
        have c0 : wr.cell? ⟨nb, noff + k, none⟩ = some (.int .u16 (x : Int)) := by have := hcell 0 (.int .u16 (x : Int)) rfl; rw [show k * KH.k = k from Nat.mul_one k, Nat.add_zero] at this; exact this
        have hx65 : x < 65536 := HUS.out x (List.mem_of_getElem? hx)
        clear hcell hx
        by_cases h30 : 30 ≤ k
        · have d30 : (30 : Int) ≤ (k : Int) := by omega
          go_wp2_with fail
          go_meet
          exact ⟨bi, fs, F, o, _, rfl, rfl, by omega, HA.out, HNW.out.more (by omega), HBE.out⟩
        · have d30 : (k : Int) < 30 := by omega
          have HO := (show Hid _ from own_one wr (k + 1) (by omega) ((k : Int) + 1) (by omega))
          have HBA := (show Hid _ from (Below.refl wr.heap.size wr).alloc (Nat.le_refl _) (.cells #[.int .u8 ((k : Int) + 1)] 5))
          by_cases htx : k < M
          · have dt : (k : Int) < (M : Int) := by omega
            obtain ⟨t, ht⟩ : ∃ t, ts[k]? = some t := ⟨_, List.getElem?_eq_getElem (by rw [HM.out]; exact htx)⟩
            obtain ⟨tb, toff, rfl, htb, hcell⟩ := (HX.out.step (HALL.out wr HBE.out)).at k t ht
            obtain ⟨tA, tC, tbs⟩ := t
            have HBT : Hid (Bs w (.slice tA tbs.length tC) tbs) := HTS.out _ (List.mem_of_getElem? ht)
            have HC1 : Hid (wr.cell? ⟨tb, toff + k, none⟩ = some (.slice tA tbs.length tC)) := by have := hcell 0 (.slice tA tbs.length tC) rfl; rw [show k * KT.k = k from Nat.mul_one k, Nat.add_zero] at this; exact this
            have HTB : Hid (tb < wr.heap.size) := htb
            obtain ⟨L, hL⟩ : ∃ L, L = min tbs.length 200 := ⟨_, rfl⟩
            have HXP : Hid (∀ w', Below w.heap.size w w' → Bs w' (.slice tA L tC) (tbs.take L)) := fun w' h => (HBT.out.step h).cut L (by omega)
            have HXL : Hid ((tbs.take L).length = L) := (show (tbs.take L).length = L by rw [List.length_take]; omega)
            have hC := HBT.out.len
            generalize hxs : tbs.take L = xs at HXP HXL
            clear hcell ht hxs HBT htb
            generalize hln : tbs.length = tl at *
            have hmin : ∀ w', (Builtin.min_ #[3, 3] 3 #[.int .i64 (tl : Int), .int .i64 200]).run Tryz.prog w' = .ok (.int .i64 (L : Int)) w' := fun w' => cut_min w' tl 200 L (by omega) hL
            have e1 : (L : Int) ≤ (tl : Int) := by omega
            have e2 : (L : Int) ≤ (tC : Int) := by omega
            have e3 : L ≤ 200 := by omega
            clear hln hL hC
            go_upto_region 13 with fail
            refine wp_region_noPanic ?_
            refine wp_region_held_drew (S := fun V => V.cell? ⟨tb, toff + k, none⟩ = some (.slice tA tl tC)) (by kernel_rfl) ?_ ?_
            · exact (((Below.refl wr.heap.size wr).alloc (Nat.le_refl _) (.cells #[.int .u8 ((k : Int) + 1)] 5)).drew.cell (p := ⟨tb, toff + k, none⟩) HTB.out).trans HC1.out
            intro hHeld
            have HBD : Hid (Below wr.heap.size wr (wr.alloc (.cells #[.int .u8 ((k : Int) + 1)] 5)).drew) := HBA.out.drew
            have HOD : Hid (OwnB (wr.alloc (.cells #[.int .u8 ((k : Int) + 1)] 5)).drew wr.heap.size (.slice (some ⟨wr.heap.size, 0, none⟩) 1 1) [k + 1]) := ⟨HO.out.byte, HO.out.own⟩
            clear HO HBA
            generalize (wr.alloc (.cells #[.int .u8 ((k : Int) + 1)] 5)).drew = wa at *
            refine takeD 0 40 (.slice (some ⟨wr.heap.size, 0, none⟩) 1 1) (by exact rfl) rfl (by kernel_rfl) (by kernel_rfl) (by kernel_rfl) (fun _ _ _ h => h) (Or.inl ⟨by rfl, ?_⟩) (by assumption) ?_
            · intro wq hS
              go_simp
            try simp only [Act.put, List.setIfInBounds_toArray, List.set_cons_zero, List.set_cons_succ]
            refine takeD 1 41 (.slice (some ⟨tb, toff, none⟩) M tc) (by exact rfl) rfl (by kernel_rfl) (by kernel_rfl) (by kernel_rfl) (fun _ _ _ h => h) (Or.inl ⟨by rfl, ?_⟩) (by assumption) ?_
            · intro wq hS
              go_simp
            try simp only [Act.put, List.setIfInBounds_toArray, List.set_cons_zero, List.set_cons_succ]
            refine takeD 2 42 (.int .i64 (k : Int)) (by exact rfl) rfl (by kernel_rfl) (by kernel_rfl) (by kernel_rfl) (fun _ _ _ h => h) (Or.inl ⟨by rfl, ?_⟩) (by assumption) ?_
            · intro wq hS
              go_simp
            try simp only [Act.put, List.setIfInBounds_toArray, List.set_cons_zero, List.set_cons_succ]
            refine takeD 3 43 (.pointer (some ⟨tb, toff + k, none⟩)) (by exact rfl) rfl (by kernel_rfl) (by kernel_rfl) (by kernel_rfl) (fun _ _ _ h => h) (Or.inl ⟨by rfl, ?_⟩) (by assumption) ?_
            · intro wq hS
              go_simp
            try simp only [Act.put, List.setIfInBounds_toArray, List.set_cons_zero, List.set_cons_succ]
            refine takeD 4 44 (.slice tA tl tC) (by exact rfl) rfl (by kernel_rfl) (by kernel_rfl) (by kernel_rfl) (fun _ _ _ h => h) (Or.inl ⟨by rfl, ?_⟩) (by assumption) ?_
            · intro wq hS
              have c := hS
              go_simp
            try simp only [Act.put, List.setIfInBounds_toArray, List.set_cons_zero, List.set_cons_succ]
            refine takeD 5 45 (.slice (some ⟨tb, toff, none⟩) M tc) (by exact rfl) rfl (by kernel_rfl) (by kernel_rfl) (by kernel_rfl) (fun _ _ _ h => h) (Or.inl ⟨by rfl, ?_⟩) (by assumption) ?_
            · intro wq hS
              go_simp
            try simp only [Act.put, List.setIfInBounds_toArray, List.set_cons_zero, List.set_cons_succ]
            refine takeD 6 46 (.int .i64 (k : Int)) (by exact rfl) rfl (by kernel_rfl) (by kernel_rfl) (by kernel_rfl) (fun _ _ _ h => h) (Or.inl ⟨by rfl, ?_⟩) (by assumption) ?_
            · intro wq hS
              go_simp
            try simp only [Act.put, List.setIfInBounds_toArray, List.set_cons_zero, List.set_cons_succ]
            refine takeD 7 47 (.pointer (some ⟨tb, toff + k, none⟩)) (by exact rfl) rfl (by kernel_rfl) (by kernel_rfl) (by kernel_rfl) (fun _ _ _ h => h) (Or.inl ⟨by rfl, ?_⟩) (by assumption) ?_
            · intro wq hS
              go_simp
            try simp only [Act.put, List.setIfInBounds_toArray, List.set_cons_zero, List.set_cons_succ]
            refine takeD 8 48 (.slice tA tl tC) (by exact rfl) rfl (by kernel_rfl) (by kernel_rfl) (by kernel_rfl) (fun _ _ _ h => h) (Or.inl ⟨by rfl, ?_⟩) (by assumption) ?_
            · intro wq hS
              have c := hS
              go_simp
            try simp only [Act.put, List.setIfInBounds_toArray, List.set_cons_zero, List.set_cons_succ]
            refine takeD 9 49 (.int .i64 (tl : Int)) (by exact rfl) rfl (by kernel_rfl) (by kernel_rfl) (by kernel_rfl) (fun _ _ _ h => h) (Or.inl ⟨by rfl, ?_⟩) (by assumption) ?_
            · intro wq hS
              go_simp
            try simp only [Act.put, List.setIfInBounds_toArray, List.set_cons_zero, List.set_cons_succ]
            refine takeD 10 50 (.int .i64 (L : Int)) (by exact rfl) rfl (by kernel_rfl) (by kernel_rfl) (by kernel_rfl) (fun _ _ _ h => h) (Or.inl ⟨by rfl, ?_⟩) (by assumption) ?_
            · intro wq hS
              have hm := hmin wq
              go_simp
            try simp only [Act.put, List.setIfInBounds_toArray, List.set_cons_zero, List.set_cons_succ]
            refine takeD 11 51 (.slice tA L tC) (by exact rfl) rfl (by kernel_rfl) (by kernel_rfl) (by kernel_rfl) (fun _ _ _ h => h) (Or.inl ⟨by rfl, ?_⟩) (by assumption) ?_
            · intro wq hS
              go_simp
            try simp only [Act.put, List.setIfInBounds_toArray, List.set_cons_zero, List.set_cons_succ]
            refine wpAnyH_ready (rs := [12]) (by kernel_rfl) (by simp) ?_
            refine AllReadyH.cons (by exact rfl) (fun K hK => ?_) AllReadyH.nil
            refine appBk (by rfl) _ _ rfl wr.heap.size [k + 1] xs _ _ (by rfl) (by rfl) HOD.out (HXP.out wa (HALL.out wa (HBE.out.trans (HBD.out.mono HA.out.lt)))) HBD.out.size (by rw [HXL.out]; simp; omega) ?_
            intro v' wb ho hbb hgr
            have HO : Hid (OwnB wb wr.heap.size v' ([k + 1] ++ xs)) := ho
            have HBA : Hid (Below wr.heap.size wr wb) := HBD.out.trans hbb
            refine hK.out _ _ ((HBA.out.cell (p := ⟨tb, toff + k, none⟩) HTB.out).trans HC1.out) (fun hHeld2 => ?_)
            clear hK K ho hbb hgr
            try simp only [Act.put, List.setIfInBounds_toArray, List.set_cons_zero, List.set_cons_succ]
            refine takeD 13 11 (v') (by exact rfl) rfl (by kernel_rfl) (by kernel_rfl) (by kernel_rfl) (fun _ _ _ h => h) (Or.inl ⟨by rfl, ?_⟩) (by assumption) ?_
            · intro wq hS
              go_simp
            try simp only [Act.put, List.setIfInBounds_toArray, List.set_cons_zero, List.set_cons_succ]
            refine wpAnyH_done (by kernel_rfl) ?_ _
            refine NoPanic.normal ?_
            have HLC : Hid (0 < ([k + 1] ++ xs).length ∧ ([k + 1] ++ xs).length ≤ 201) := by
              show 0 < ([k + 1] ++ xs).length ∧ ([k + 1] ++ xs).length ≤ 201
              rw [List.length_append, HXL.out]
              simp
              omega
            clear hHeld hHeld2 HXP HXL HBD HOD
            generalize [k + 1] ++ xs = cs at *
            go_wp2_with fail
            refine (twin_ok _ cs wb HO.out.bs (by have := HLC.out; omega)).mono ?_
            rintro e w3 ⟨⟨u3, rfl, O3⟩, b3⟩
            have HB3 : Hid (Below wr.heap.size wr w3) := HBA.out.trans (b3.mono HBA.out.size)
            have HA3 : Hid (DA w3 B p m ⟨60000, o, 0, true, none, fs⟩) := HA.out.step HB3.out
            have HP3 : Hid (Bs w3 (v') cs ∧ Safe w3 (v')) := ⟨HO.out.bs.step b3, HO.out.safe.kee (Kee.bel b3)⟩
            have HO3 := (show Hid _ from O3)
            have HT3 : Hid (PtB B w3) := HT2.out.on (HBE.out.trans (HB3.out.mono HA.out.lt))
            have EW := (show Hid _ from wrS_idle 60000 o x fs cs HNW.out.no (fit_idle (by have := HNW.out.len; omega) (by have := HNW.out.tot; have := cn4_201 HLC.out.2; omega)))
            clear O3 b3
            go_wp2_with fail
            have CW := write_ok w3 B p m _ HA3.out x (by omega) HT3.out u3 cs HO3.out.bs HO3.out.safe HLC.out.1 (by have := HLC.out.2; omega) (show o ≤ _ by omega) (show 0 ≤ _ by omega)
            rw [EW.out] at CW
            refine Calls.mono CW ?_
            rintro e w4 ⟨rfl, L4⟩
            have HA4 : Hid (DA w4 B p m ⟨60000, o + 1 + 1 + 1, 0, true, none, wfs fs x cs⟩) := L4.1
            have HK4 : Hid (Kee wr w4) := (Kee.bel HB3.out).trans L4.2.1
            have HP4 : Hid (Bs w4 (v') cs ∧ Safe w4 (v')) := ⟨HP3.out.1.kee HP3.out.2 L4.2.1, HP3.out.2.kee L4.2.1⟩
            have HB4 : Hid (Below B w2 w4) := (HBE.out.trans (HB3.out.mono HA.out.lt)).trans L4.2.2
            clear CW L4 EW HT3 HA3 HO3 HP3
            by_cases hge : bi ≤ (x : Int)
            · go_wp2_with fail
              go_roundw
              case rel => exact ⟨k + 1, o + 1 + 1 + 1, (x : Int), wfs fs x cs, fun i => if i = x then cs else F i, by omega, by omega, by omega, by simp, rfl, HA4.out, HNW.out.up hx65 HP4.out.1.byte HLC.out.1 HLC.out.2 hge HP4.out.1 HP4.out.2, HB4.out⟩
              case measure => simp [intOf]; omega
            · have hgt : (x : Int) < bi := by omega
              go_wp2_with fail
              go_roundw
              case rel => exact ⟨k + 1, o + 1 + 1 + 1, bi, wfs fs x cs, fun i => if i = x then cs else F i, by omega, by omega, by omega, by simp, rfl, HA4.out, HNW.out.keep hx65 HP4.out.1.byte HLC.out.1 HLC.out.2 hgt HK4.out, HB4.out⟩
              case measure => simp [intOf]; omega
          · have dt : (M : Int) ≤ (k : Int) := by omega
            have HLC : Hid (0 < [k + 1].length ∧ [k + 1].length ≤ 201) := (show 0 < [k + 1].length ∧ [k + 1].length ≤ 201 by simp)
            go_wp2_with fail
            refine (twin_ok _ [k + 1] _ HO.out.bs (by have := HLC.out; omega)).mono ?_
            rintro e w3 ⟨⟨u3, rfl, O3⟩, b3⟩
            have HB3 : Hid (Below wr.heap.size wr w3) := HBA.out.trans (b3.mono HBA.out.size)
            have HA3 : Hid (DA w3 B p m ⟨60000, o, 0, true, none, fs⟩) := HA.out.step HB3.out
            have HP3 : Hid (Bs w3 (.slice (some ⟨wr.heap.size, 0, none⟩) 1 1) [k + 1] ∧ Safe w3 (.slice (some ⟨wr.heap.size, 0, none⟩) 1 1)) := ⟨HO.out.bs.step b3, HO.out.safe.kee (Kee.bel b3)⟩
            have HO3 := (show Hid _ from O3)
            have HT3 : Hid (PtB B w3) := HT2.out.on (HBE.out.trans (HB3.out.mono HA.out.lt))
            have EW := (show Hid _ from wrS_idle 60000 o x fs [k + 1] HNW.out.no (fit_idle (by have := HNW.out.len; omega) (by have := HNW.out.tot; have := cn4_201 HLC.out.2; omega)))
            clear O3 b3
            go_wp2_with fail
            have CW := write_ok w3 B p m _ HA3.out x (by omega) HT3.out u3 [k + 1] HO3.out.bs HO3.out.safe HLC.out.1 (by have := HLC.out.2; omega) (show o ≤ _ by omega) (show 0 ≤ _ by omega)
            rw [EW.out] at CW
            refine Calls.mono CW ?_
            rintro e w4 ⟨rfl, L4⟩
            have HA4 : Hid (DA w4 B p m ⟨60000, o + 1 + 1 + 1, 0, true, none, wfs fs x [k + 1]⟩) := L4.1
            have HK4 : Hid (Kee wr w4) := (Kee.bel HB3.out).trans L4.2.1
            have HP4 : Hid (Bs w4 (.slice (some ⟨wr.heap.size, 0, none⟩) 1 1) [k + 1] ∧ Safe w4 (.slice (some ⟨wr.heap.size, 0, none⟩) 1 1)) := ⟨HP3.out.1.kee HP3.out.2 L4.2.1, HP3.out.2.kee L4.2.1⟩
            have HB4 : Hid (Below B w2 w4) := (HBE.out.trans (HB3.out.mono HA.out.lt)).trans L4.2.2
            clear CW L4 EW HT3 HA3 HO3 HP3
            by_cases hge : bi ≤ (x : Int)
            · go_wp2_with fail
              go_roundw
              case rel => exact ⟨k + 1, o + 1 + 1 + 1, (x : Int), wfs fs x [k + 1], fun i => if i = x then [k + 1] else F i, by omega, by omega, by omega, by simp, rfl, HA4.out, HNW.out.up hx65 HP4.out.1.byte HLC.out.1 HLC.out.2 hge HP4.out.1 HP4.out.2, HB4.out⟩
              case measure => simp [intOf]; omega
            · have hgt : (x : Int) < bi := by omega
              go_wp2_with fail
              go_roundw
              case rel => exact ⟨k + 1, o + 1 + 1 + 1, bi, wfs fs x [k + 1], fun i => if i = x then [k + 1] else F i, by omega, by omega, by omega, by simp, rfl, HA4.out, HNW.out.keep hx65 HP4.out.1.byte HLC.out.1 HLC.out.2 hgt HK4.out, HB4.out⟩
              case measure => simp [intOf]; omega
      · obtain rfl : k = N := by omega
        go_wp2_with fail
        go_meet
        exact ⟨bi, fs, F, o, _, rfl, rfl, by omega, HA.out, HNW.out.more (by omega), HBE.out⟩
  case rest =>
    obtain ⟨bi, fs, F, o, want, hwv, rfl, ho, HA, HNW, HBE⟩ := hcut
    subst hwv
    have HT3 : Hid (PtB B wc) := HT2.out.on HBE.out
    rcases HNW.out.top with ⟨rfl, hnone⟩ | ⟨n, rfl, hn65, htop, hbw, hsw⟩
    · have HNO := (show Hid _ from hnone)
      clear hnone
      have HLO := (show Hid _ from load_ok wc B p m _ HA.out rfl HNW.out.sn.snp (Nat.le_trans HNW.out.len (by omega)) HT3.out F HNW.out.sn.whl)
      have HLI := (show Hid _ from fun w' (k : Below wc.heap.size wc w') => list_ok w' B p m _ (HA.out.step k) rfl HNW.out.sn.snp (Nat.le_trans HNW.out.len (by omega)))
      have HCN := (show Hid _ from fun w' (k : Below wc.heap.size wc w') => clean_none w' B p m _ (HA.out.step k) rfl HNW.out.sn.snp (Nat.le_trans HNW.out.len (by omega)) (HT3.out.on (k.mono HA.out.lt)) HNO.out)
      go_wp2_with fail
      go_loopw [68] (fun i wr => i = .int .i64 0 ∧ wr = wc) (fun i _ => 0)
      case atStart => exact ⟨rfl, rfl⟩
      case round =>
        obtain ⟨rfl, rfl⟩ := hrel
        go_wp2_with fail
        refine Calls.mono HLO.out ?_
        rintro e w4 ⟨⟨k, u, rfl, ⟨k1, k2, k3⟩, _⟩ | ⟨rfl, _⟩, b4⟩
        · exact absurd k2 (HNO.out k k1)
        have HB4 := (show Hid _ from b4)
        clear b4 HLO
        go_wp2_with fail
        refine Calls.mono (HLI.out _ HB4.out) ?_
        rintro e w5 ⟨v, ks, rfl, o5, nu, b5⟩
        have hks : ks = [] := List.eq_nil_iff_forall_not_mem.2 (fun a ha => HNO.out a ((nu.mem a).1 ha).1 ((nu.mem a).1 ha).2)
        subst hks
        obtain ⟨la, lc, rfl, _⟩ := o5.form
        have HB5 := (show Hid _ from HB4.out.trans (b5.mono HB4.out.size))
        clear o5 nu b5 HLI HB4
        go_wp2_with fail
        refine Calls.mono (HCN.out _ HB5.out) ?_
        rintro e w6 ⟨rfl, b6⟩
        have HB6 := (show Hid _ from HALL.out w6 (HBE.out.trans ((HB5.out.trans (b6.mono HB5.out.size)).mono HA.out.lt)))
        clear b6 HB5
        go_wp2_with fail
        go_ret
        exact ⟨rfl, HB6.out⟩
    · have HTP : Hid (Topp fs n) := htop
      have HWB : Hid (Bs wc want (F n) ∧ Safe wc want) := ⟨hbw, hsw⟩
      have dn : (0 : Int) ≤ (n : Int) := by omega
      clear htop hbw hsw
      go_wp2_with fail
      go_loopw [68] (fun i wr => ∃ (j o' : Nat) (gs : FS), j ≤ 2 ∧ i = .int .i64 (j : Int) ∧ o' ≤ 200 + 30 * j ∧ Hid (DA wr B p m ⟨60000, o', 0, true, none, gs⟩) ∧ Hid (Snaps gs F ∧ Topp gs n ∧ gs.length ≤ 30 ∧ (0 < j → ∀ i, i ≤ 999999999999 → nmS i ∈ nms gs → i = n)) ∧ Hid (Bs wr want (F n) ∧ Safe wr want) ∧ Hid (Below B w2 wr)) (fun i _ => 2 - (intOf i).toNat)
      case atStart => exact ⟨0, o, fs, by omega, rfl, by omega, HA.out, ⟨HNW.out.sn, HTP.out, HNW.out.len, fun h => absurd h (by omega)⟩, HWB.out, HBE.out⟩
      case round =>
        obtain ⟨j, o', gs, hj, rfl, ho', HA', HG, HW', HB'⟩ := hrel
        have HT4 : Hid (PtB B wr) := HT2.out.on HB'.out
        by_cases hj2 : j < 2
        · have dj : (j : Int) < 2 := by omega
          have HLO := (show Hid _ from load_ok wr B p m _ HA'.out rfl HG.out.1.snp (Nat.le_trans HG.out.2.2.1 (by omega)) HT4.out F HG.out.1.whl)
          go_wp2_with fail
          refine Calls.mono HLO.out ?_
          rintro e w4 ⟨⟨k, u, rfl, ⟨k1, k2, k3⟩, hbu, hsu⟩ | ⟨rfl, hno⟩, b4⟩
          rotate_left
          · exact absurd HG.out.2.1.mem (hno n HG.out.2.1.le)
          obtain rfl : k = n := Nat.le_antisymm (HG.out.2.1.max k k1 k2) (k3 n HG.out.2.1.le HG.out.2.1.mem)
          have HB4 : Hid (Below wr.heap.size wr w4) := b4
          have HU4 : Hid (Bs w4 u (F k)) := hbu
          clear b4 hbu hsu k1 k2 k3 HLO
          go_wp2_with fail
          refine (same_ok _ _ _ _ _ HU4.out (HW'.out.1.step HB4.out)).mono ?_
          rintro e w5 ⟨rfl, b5⟩
          rw [decide_eq_true rfl]
          have HB5 : Hid (Below wr.heap.size wr w5) := HB4.out.trans (b5.mono HB4.out.size)
          clear b5 HB4 HU4
          go_wp2_with fail
          refine Calls.mono (clean_ok w5 B p m 60000 o' gs (HA'.out.step HB5.out) HG.out.1.snp (Nat.le_trans HG.out.2.2.1 (by omega)) (by omega) (HT4.out.on (HB5.out.mono HA'.out.lt)) F HG.out.1.whl k HG.out.2.1.le HG.out.2.1.mem HG.out.2.1.max) ?_
          rintro e w6 ⟨rfl, ks, o6, nu, ho6, L6⟩
          have HA6 : Hid (DA w6 B p m ⟨60000, o6, 0, true, none, cfs k ks gs⟩) := L6.1
          have HB6 : Hid (Below B w2 w6) := (HB'.out.trans (HB5.out.mono HA'.out.lt)).trans L6.2.2
          have HW6 : Hid (Bs w6 want (F k) ∧ Safe w6 want) := ⟨(HW'.out.1.step HB5.out).kee (HW'.out.2.kee (Kee.bel HB5.out)) L6.2.1, (HW'.out.2.kee (Kee.bel HB5.out)).kee L6.2.1⟩
          have HG6 : Hid (Snaps (cfs k ks gs) F ∧ Topp (cfs k ks gs) k ∧ (cfs k ks gs).length ≤ 30 ∧ ∀ i, i ≤ 999999999999 → nmS i ∈ nms (cfs k ks gs) → i = k) := ⟨cfs_snaps nu HG.out.2.1 HG.out.1, cfs_topp nu HG.out.2.1, Nat.le_trans (cfs_len gs k ks) HG.out.2.2.1, cfs_only nu⟩
          have ho7 : o6 ≤ 200 + 30 * (j + 1) := by have := nu.len; have := HG.out.2.2.1; omega
          clear L6 nu ho6
          go_wp2_with fail
          go_roundw
          case rel => exact ⟨j + 1, o6, cfs k ks gs, by omega, by simp, ho7, HA6.out, ⟨HG6.out.1, HG6.out.2.1, HG6.out.2.2.1, fun _ => HG6.out.2.2.2⟩, HW6.out, HB6.out⟩
          case measure => simp [intOf]; omega
        · obtain rfl : j = 2 := by omega
          have HLI := (show Hid _ from list_ok wr B p m _ HA'.out rfl HG.out.1.snp (Nat.le_trans HG.out.2.2.1 (by omega)))
          go_wp2_with fail
          refine Calls.mono HLI.out ?_
          rintro e w5 ⟨v, ks, rfl, o5, nu, b5⟩
          have hks : ks = [n] := nums_one nu HG.out.2.1 (HG.out.2.2.2 (by omega))
          subst hks
          have HO5 := (show Hid _ from o5.sl)
          have HB5 : Hid (Below B w2 w5) := HB'.out.trans (b5.mono HA'.out.lt)
          have HBs : Hid (B ≤ w5.heap.size) := Nat.le_trans HA'.out.lt b5.size
          obtain ⟨la, lc, rfl, _⟩ := o5.form
          clear o5 nu b5 HLI
          go_wp2_with fail
          have b6 : Below w5.heap.size w5 (w5.alloc (.cells #[.int .i64 (n : Int)] 2)) := (Below.refl _ _).alloc (Nat.le_refl _) _
          refine (sameInts_ok _ _ _ [n] (HO5.out.step b6) (sl1 w5 n) (by simp)).mono ?_
          rintro e w6 ⟨rfl, b7⟩
          have HB7 := (show Hid _ from HALL.out w6 (HB5.out.trans ((b6.trans (b7.mono b6.size)).mono HBs.out)))
          clear b6 b7
          go_wp2_with fail
          go_ret
          exact ⟨rfl, HB7.out⟩
end Go.Proofs.YtgabklihgjjjeaaGreatDoor
