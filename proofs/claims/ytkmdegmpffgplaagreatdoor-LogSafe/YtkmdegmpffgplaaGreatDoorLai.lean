/- disk X: write, of a file that is there. -/
import Derived.Test.YtkmdegmpffgplaaGreatDoorLah
import Derived.Shelf.Lay
import Derived.Ground.NamesProg
import Derived.Shelf.LaysM
import Derived.Shelf.Strconv.Clone
namespace Go.Proofs.YtkmdegmpffgplaaGreatDoor
open Go.RowKit Go.Shelf Go.Maps pk
set_option linter.unusedVariables false
set_option linter.unusedSimpArgs false
attribute [local go_sem] Oper.semAt_some ext_cell ext_frozen ext_drew ext_of_drew ext_of_drewN ext_setCell ext_lt ext_lt1 ext_lt2 ext_lt3 lt_n2 lt_n3 lt_n4 lt_n5 lt_n6

set_option maxRecDepth 100000 in
set_option maxHeartbeats 4000000 in
theorem write_known (w : World) (B p m : Nat) (x0 : DK) (h : Dsk w B p m x0) (s : ByteArray) (hs : s.size ≤ 1048576) (sa : Option Addr) (len cap b off : Nat) (bs : List Nat) (hb : Bs w (.slice sa len cap) bs) (hsf : Safe w (.slice sa len cap)) (hsa : 0 < len → sa = some ⟨b, off, none⟩) (hcap : len ≤ cap ∧ cap ≤ 9223372036854775807 ∧ len ≤ 140737488355328) (l1 l2 : List Ent) (e : Ent) (hx : x0.es = l1 ++ e :: l2) (hfd : fd x0.es s.data.toList = some e) (hroom : tot x0.es + cnt len ≤ x0.room) :
    Calls Tryz.prog 54 #[ptr p, .string s, .slice sa len cap] w fun r w' => (∃ v, r = .returned v) ∧ (∃ v', Dsk w' B p m { x0 with es := l1 ++ { e with v := v', ss := e.ss ++ parts bs } :: l2 }) ∧ Kee w w' ∧ Below B w w' := by
  have y1 := h.va.cell 1 (v := .map (some m)) rfl
  have hlk := h.look hs
  rw [hfd] at hlk
  simp only [Option.map_some, Option.getD_some] at hlk
  have hpl := h.va.lt
  have hlen : e.ss.length + cnt len ≤ 65536 := by
    have h1 := h.fits
    rw [hx, tot_app] at h1
    rw [hx, tot_app] at hroom
    simp only [tot] at h1 hroom
    omega
  have HH := (show Hid _ from h)
  have HBS0 := (show Hid _ from hb)
  have HSF0 : Hid (Safe w (.slice sa len cap)) := hsf
  clear h hb hsf
  unfold ptr at hlk ⊢
  refine (callsIn_wide (n := 8)).1 ?_
  have hF : ∀ f, Fence.wide.fn f := fun _ => trivial
  have hF1 := hF 83
  refine callsIn_of_wp_marks Tryz.func54 rfl trivial ?_ rfl
  simp only [Tryz.ntmps54, List.size_toArray, List.length_cons, List.length_nil, Nat.reduceAdd, Nat.reduceSub, Array.replicate_succ, Array.replicate_zero, List.push_toArray, List.append_toArray, List.nil_append, List.cons_append]
  gi_wp2_with (gi_at_call 83; refine (cut_in (8 - 1) _ _ _ _).mono ?_; rintro r w' ⟨rfl, rfl⟩)
  have B1 := (Below.refl w.heap.size w).alloc (Nat.le_refl _) (.cells #[.pointer (some ⟨e.q, 0, none⟩)] 110)
  have B2 := B1.alloc (by simp) (.cells #[.slice sa len cap] 22)
  have hF0v := (va_new w [.pointer (some ⟨e.q, 0, none⟩)] 110).alloc (.cells #[.slice sa len cap] 22)
  have hBx := va_new (w.alloc (.cells #[.pointer (some ⟨e.q, 0, none⟩)] 110)) [.slice sa len cap] 22
  simp only [World.size_alloc] at hBx
  generalize hWl : (w.alloc (.cells #[.pointer (some ⟨e.q, 0, none⟩)] 110)).alloc (.cells #[.slice sa len cap] 22) = Wl at *
  have hsl : Wl.heap.size = w.heap.size + 2 := by rw [← hWl]; simp
  have HDl : Hid (Dsk Wl B p m x0) := HH.out.step B2
  have HBS : Hid (Bs Wl (.slice sa len cap) bs) := HBS0.out.step B2
  have HSF : Hid (Safe Wl (.slice sa len cap)) := HSF0.out.kee (Kee.bel B2)
  have HFil : Hid (Fil Wl B e) := HDl.out.fil e (by rw [hx]; simp)
  have HBl : B ≤ Wl.heap.size := by have := HH.out.lo.1; have := HH.out.va.lt; omega
  clear B1
  refine rangeAll rfl (by omega) (gf := 105) (lb := #[.pointer (some ⟨w.heap.size + 1, 0, none⟩)]) rfl trivial (enters_of Tryz.func105 (by kernel_rfl) rfl)
    (cut1_in (8 - 1) (by omega) (w.heap.size + 1) b off len cap (Wl.heap.size + 2) sa bs hsa hcap Wl hBx HBS.out HSF.out (Nat.le_refl _)) KpD.trans
    (fun W o o' ho hc => ⟨Kee.row (grownBy_putObj' W _ o') ho (.inl hc), ⟨by simp, fun k o2 hk h2 _ => (World.putObj_heap_other (by omega)).trans h2⟩⟩) (fun _ => rfl)
    (WI Wl B (w.heap.size) e bs) (WI.own Wl B (w.heap.size) e bs)
    ⟨⟨e.v, HFil.out.blk, by simpa using HFil.out.row, fun g hg => .inl hg⟩, hF0v, But.refl _ _, Kee.refl _⟩
    (fun x a' W => ∃ Bs', VA W Bs' (sect (part bs x)) 143 ∧ a' = { tmps := #[.pointer (some ⟨p, 0, none⟩), .string s, .slice sa len cap, undef, undef, undef, .pointer (some ⟨w.heap.size, 0, none⟩), .pointer (some ⟨Bs', 0, none⟩), .pointer (some ⟨p, 0, none⟩), .pointer (some ⟨p, 0, none⟩), .pointer (some ⟨p, 1, none⟩), .map (some m), .string s, .pointer (some ⟨e.q, 0, none⟩), .pointer (some ⟨e.q, 0, none⟩), .bool false, undef, undef, undef, undef, undef, undef, undef, undef, undef, .slice sa len cap, .func (.func 105) #[] #[.pointer (some ⟨w.heap.size + 1, 0, none⟩)], .agg (sect (part bs x)).toArray, undef, undef, undef, undef, undef, undef, undef, undef, undef, undef], defers := [] })
    (fun x a' _ A A' row h hg hr => by obtain ⟨Bs', h1, h2⟩ := h; exact ⟨Bs', h1.keptN hg (fun r e => (hr r e).2), h2⟩)
    ?assign ?body ?done
  case assign =>
    rintro l pre x W K hi hK
    have hstv := run_storeVar_row (P := Tryz.prog) (W.alloc (.cells (List.replicate 32 (Value.int .u8 0)).toArray 143)) W.heap.size 143 143 (List.replicate 32 (Value.int .u8 0)).toArray (sect (part bs x)).toArray (va_new W _ _).blk (by rw [infoS1]; simp [sect_len]) (by simp [sect_len]) (Array.all_eq_true_iff_forall_mem.2 (fun v hv => sect_one _ v (by simpa using hv)))
    unfold encS
    have V1 := va_new W (List.replicate 32 (Value.int .u8 0)) 143
    have B1 := (Below.refl W.heap.size W).alloc (Nat.le_refl _) (.cells (List.replicate 32 (Value.int .u8 0)).toArray 143)
    have H1 := (show Hid _ from sect_one (part bs x))
    have HL := (show Hid _ from sect_len (part bs x))
    have HK := (show Hid _ from hK)
    clear hK hstv
    generalize sect (part bs x) = sc at *
    simp only [List.replicate_succ, List.replicate_zero] at V1 B1
    gi_wp2_with (refine stAIn rfl 143 _ _ rfl W.heap.size (by rfl) _ sc (by rfl) 143 V1 (infoS1.trans (by rw [HL.out])) (by rw [HL.out]; rfl) H1.out ?_; intro W5 V5 U5)
    have B5 := U5.bel B1 (Nat.le_refl _)
    refine HK.out _ W5 ⟨B5.size, fun k o _ hk _ => (B5.block k (hlt_of hk)).trans hk⟩ ⟨Kee.bel B5, ⟨B5.size, fun k o _ hk _ => (B5.block k (hlt_of hk)).trans hk⟩⟩ ?_ ⟨W.heap.size, V5, rfl⟩
    exact WI.own Wl B (w.heap.size) e bs pre W W5 none hi ⟨B5.os, B5.tape, B5.output, B5.size, fun i hi _ => B5.block i hi⟩ (fun r e => by cases e)
  case body =>
    rintro l pre x a' W hpl hI ⟨Bs', hX, rfl⟩
    obtain ⟨v', f1, f2, f3⟩ := hI.ex
    obtain ⟨va, vc, hv', hvc, hvm⟩ := f2.form
    generalize hnn : (e.ss ++ pre.map (part bs)).length = nn at hv' hvc
    subst hv'
    have HNN := (show Hid _ from hnn)
    clear hnn
    have yF := hI.box.cell 0 (v := ptr e.q) rfl
    unfold ptr at yF
    have yq := f1.cell 0 rfl
    have lF := hI.box.lt
    have lq := f1.lt
    have HI := (show Hid _ from hI)
    have HF1 : Hid (VA W e.q _ _) := f1
    have HF2 : Hid (Own KS W B _ _) := f2
    have HF3 := (show Hid _ from f3)
    have HX : Hid (VA W Bs' (sect (part bs x)) 143) := hX
    clear hI f1 f2 f3 hX
    gi_wp2
    refine region_round_held (fun V => VA V (w.heap.size) [.pointer (some ⟨e.q, 0, none⟩)] 110) (by kernel_rfl) (by kernel_rfl) (fun h => by obtain ⟨_, _, h⟩ := h; cases h.1) HI.out.box.drew ?_
    intro hHeld
    have hWB : B ≤ W.heap.size := Nat.le_trans HBl (Nat.le_trans HI.out.but.size (Nat.le_refl _))
    have hpx : e.ss.length + pre.length + 1 ≤ 65536 := by rw [List.length_range] at hpl; omega
    have HNE : Hid (¬ (w.heap.size) = e.q) := (show ¬ (w.heap.size) = e.q from fun h => by have h1 := HI.out.box.blk; rw [h, HF1.out.blk] at h1; injection h1 with h1; injection h1 with _ hT _; cases hT)
    have HFX : Hid (VA W (w.heap.size) [.pointer (some ⟨e.q, 0, none⟩)] 110) := HI.out.box
    have B0 : Below W.heap.size W W.drew := (Below.refl _ _).drew
    generalize W.drew = W0 at *
    refine takeD 0 28 (.pointer (some ⟨e.q, 0, none⟩)) (by exact rfl) rfl (by kernel_rfl) (by kernel_rfl) (by kernel_rfl) (fun _ _ _ h => h) (Or.inl ⟨by rfl, ?_⟩) (by assumption) ?_
    · intro wq hS
      have c := hS.cell 0 rfl
      go_simp
    try simp only [Act.put, List.setIfInBounds_toArray, List.set_cons_zero, List.set_cons_succ]
    refine takeD 1 29 (.pointer (some ⟨e.q, 0, none⟩)) (by exact rfl) rfl (by kernel_rfl) (by kernel_rfl) (by kernel_rfl) (fun _ _ _ h => h) (Or.inl ⟨by rfl, ?_⟩) (by assumption) ?_
    · intro wq hS
      have c := hS.cell 0 rfl
      go_simp
    try simp only [Act.put, List.setIfInBounds_toArray, List.set_cons_zero, List.set_cons_succ]
    refine takeD 2 30 (.pointer (some ⟨e.q, 0, none⟩)) (by exact rfl) rfl (by kernel_rfl) (by kernel_rfl) (by kernel_rfl) (fun _ _ _ h => h) (Or.inl ⟨by rfl, ?_⟩) (by assumption) ?_
    · intro wq hS
      go_simp
    try simp only [Act.put, List.setIfInBounds_toArray, List.set_cons_zero, List.set_cons_succ]
    refine takeD 3 31 (.pointer (some ⟨e.q, 0, none⟩)) (by exact rfl) rfl (by kernel_rfl) (by kernel_rfl) (by kernel_rfl) (fun _ _ _ h => h) (Or.inl ⟨by rfl, ?_⟩) (by assumption) ?_
    · intro wq hS
      go_simp
    try simp only [Act.put, List.setIfInBounds_toArray, List.set_cons_zero, List.set_cons_succ]
    have bW0 := B0
    clear B0
    refine wpAnyH_ready (rs := [4, 5]) (by kernel_rfl) (by simp) ?_
    refine AllReadyH.cons (by exact rfl) (fun K hK => ?_) ?_
    · have c4 := (HF1.out.step bW0).cell 0 rfl
      go_simp
      refine hK.out _ _ (HFX.out.step bW0) (fun hHeld => ?_)
      clear hK K
      try simp only [Act.put, List.setIfInBounds_toArray, List.set_cons_zero, List.set_cons_succ]
      refine wpAnyH_ready (rs := [5]) (by kernel_rfl) (by simp) ?_
      refine AllReadyH.cons (by exact rfl) (fun K hK => ?_) AllReadyH.nil
      · refine wantIf (by rfl) (wp_load_mid 143 _ rfl Bs' 0 (by rfl) (sect (part bs x)) _ (fun j u hj => by rw [Nat.zero_add]; exact (HX.out.step bW0).cell j hj) Tryz.underlying143 rfl (infoS1.trans (by simp [sect_len])) (hK.out _ _ (HFX.out.step bW0) (fun hHeld => ?_)))
        clear hK K
        try simp only [Act.put, List.setIfInBounds_toArray, List.set_cons_zero, List.set_cons_succ]
        refine wpAnyH_ready (rs := [6]) (by kernel_rfl) (by simp) ?_
        refine AllReadyH.cons (by exact rfl) (fun K hK => ?_) AllReadyH.nil
        · refine wantIf (by rfl) (bldSw _ rfl (part bs x) (by rfl) (hK.out _ _ (HFX.out.step (bW0.alloc (by have := bW0.size; omega) _)) (fun hHeld => ?_)))
          clear hK K
          try simp only [Act.put, List.setIfInBounds_toArray, List.set_cons_zero, List.set_cons_succ]
          have VW6 := va_new W0 (sect (part bs x)) 143
          have bW6 := bW0.alloc (by have := bW0.size; omega) (.cells (sect (part bs x)).toArray 143)
          have sW6 : W0.heap.size < (W0.alloc (.cells (sect (part bs x)).toArray 143)).heap.size := by simp
          have nW6 : W.heap.size ≤ W0.heap.size := bW0.size
          generalize W0.heap.size = g5 at *
          generalize W0.alloc (.cells (sect (part bs x)).toArray 143) = W6 at *
          refine wpAnyH_ready (rs := [7]) (by kernel_rfl) (by simp) ?_
          refine AllReadyH.cons (by exact rfl) (fun K hK => ?_) AllReadyH.nil
          refine appKS (by rfl) _ _ rfl B (e.ss ++ pre.map (part bs)) (part bs x) _ g5 (by rfl) (by rfl) (HF2.out.step bW6) VW6 (by have := bW6.size; omega) (by rw [List.length_append, List.length_map]; omega) ?_
          intro v2 w3 ho hg3 hat
          obtain ⟨a2, c2, hv2, hc2, hc3⟩ := ho.form
          generalize (e.ss ++ pre.map (part bs) ++ [part bs x]).length = n2 at hv2 hc2
          subst hv2
          have q3 := (HF1.out.step bW6).grownO hg3 (HF2.out.step bW6) (.inl (by decide))
          have x3 := (HFX.out.step bW6).grownO hg3 (HF2.out.step bW6) (.inl (by decide))
          have z3 := q3.cell 0 rfl
          have g3 := q3.free 0
          refine hK.out _ _ x3 (fun hHeld => ?_)
          clear hK K
          try simp only [Act.put, List.setIfInBounds_toArray, List.set_cons_zero, List.set_cons_succ]
          refine takeD 8 36 (.pointer (some ⟨e.q, 0, none⟩)) (by exact rfl) rfl (by kernel_rfl) (by kernel_rfl) (by kernel_rfl) (fun _ _ _ h => h) (Or.inl ⟨by rfl, ?_⟩) (by assumption) ?_
          · intro wq hS
            go_simp
          try simp only [Act.put, List.setIfInBounds_toArray, List.set_cons_zero, List.set_cons_succ]
          refine takeD 9 37 (.pointer (some ⟨e.q, 0, none⟩)) (by exact rfl) rfl (by kernel_rfl) (by kernel_rfl) (by kernel_rfl) (fun _ _ _ h => h) (Or.inl ⟨by rfl, ?_⟩) (by assumption) ?_
          · intro wq hS
            go_simp
          try simp only [Act.put, List.setIfInBounds_toArray, List.set_cons_zero, List.set_cons_succ]
          refine wpAnyH_ready (rs := [10]) (by kernel_rfl) (by simp) ?_
          refine AllReadyH.cons rfl (fun K hK => ?_) AllReadyH.nil
          go_simp
          refine hK.out _ _ (x3.set_other HNE.out 0 _) (fun hHeld => ?_)
          clear hK K
          refine wpAnyH_done (by kernel_rfl) ?_ _
          refine NoPanic.normal ?_
          have hn6 := bW6.size
          have hYd : ∀ i, (i = e.q ∨ (Value.slice va nn vc).ownBlock = some i) → ∃ cs T, W.heap[i]? = some (Obj.cells cs T (0, 0)) ∧ Dt T := fun i hi => by
            rcases hi with rfl | hi
            · exact ⟨_, _, HF1.out.blk, .inr (.inl rfl)⟩
            · obtain ⟨cs, hc⟩ := row_blk HF2.out hi
              exact ⟨cs, _, hc, .inr (.inr rfl)⟩
          have U4 := upd_set w3 e.q 0 (.slice a2 n2 c2)
          have BY : But (fun i => i = e.q ∨ (Value.slice va nn vc).ownBlock = some i) W (w3.setCell ⟨e.q, 0, none⟩ (.slice a2 n2 c2)) :=
            ((below_but bW6 _).trans (⟨hg3.os, hg3.tape, hg3.output, hg3.size, fun i hi hx => hg3.block i hi (fun er => hx (.inr er.symm))⟩ : But (fun i => i = e.q ∨ (Value.slice va nn vc).ownBlock = some i) _ w3) (fun _ _ h => h)).trans (U4.but.mono (fun i h => .inl h)) (fun _ _ h => h)
          have ke : Kee W (w3.setCell ⟨e.q, 0, none⟩ (.slice a2 n2 c2)) := kee_but BY (fun i hi cs T z h => by obtain ⟨cs', T', h', hT⟩ := hYd i hi; rw [h'] at h; cases h; exact hT)
          have kf : ∀ k, KeepsFrom k W (w3.setCell ⟨e.q, 0, none⟩ (.slice a2 n2 c2)) := fun k => keeps_but BY (fun i hi o h => by obtain ⟨cs', T', h', hT⟩ := hYd i hi; rw [h'] at h; cases h; rfl)
          have own4 : Own KS (w3.setCell ⟨e.q, 0, none⟩ (.slice a2 n2 c2)) B (.slice a2 n2 c2) (e.ss ++ (pre ++ [x]).map (part bs)) := by
            rw [List.map_append, ← List.append_assoc]
            refine ho.blk (fun g hg => U4.block g (fun e2 => ?_))
            obtain ⟨cs, hc⟩ := row_blk ho hg
            rw [e2, q3.blk] at hc
            injection hc with hc
            injection hc with _ hT _
            cases hT
          have f4 : ∀ g, (Value.slice a2 n2 c2).ownBlock = some g → e.v.ownBlock = some g ∨ Wl.heap.size ≤ g := fun g hg => by
            rcases hat with h' | h'
            · exact HF3.out g (h'.symm.trans hg)
            · rw [hg] at h'
              have e6 := Option.some.inj h'
              have := HI.out.but.size
              exact .inr (by omega)
          have wi : WI Wl B (w.heap.size) e bs (pre ++ [x]) (w3.setCell ⟨e.q, 0, none⟩ (.slice a2 n2 c2)) :=
            ⟨⟨.slice a2 n2 c2, q3.set 0 _, own4, f4⟩, x3.set_other HNE.out 0 _, HI.out.but.trans BY (fun i hi hy => by
              rcases hy with hy | hy
              · exact .inl hy
              · rcases HF3.out i hy with h' | h'
                · exact .inr h'
                · exact absurd hi (by omega)), HI.out.kee.trans ke⟩
          gi_wp2
          exact ⟨ke, kf _⟩
    refine AllReadyH.cons (by exact rfl) (fun K hK => ?_) AllReadyH.nil
    · refine wantIf (by rfl) (wp_load_mid 143 _ rfl Bs' 0 (by rfl) (sect (part bs x)) _ (fun j u hj => by rw [Nat.zero_add]; exact (HX.out.step bW0).cell j hj) Tryz.underlying143 rfl (infoS1.trans (by simp [sect_len])) (hK.out _ _ (HFX.out.step bW0) (fun hHeld => ?_)))
      clear hK K
      try simp only [Act.put, List.setIfInBounds_toArray, List.set_cons_zero, List.set_cons_succ]
      refine wpAnyH_ready (rs := [4, 6]) (by kernel_rfl) (by simp) ?_
      refine AllReadyH.cons (by exact rfl) (fun K hK => ?_) ?_
      · have c4 := (HF1.out.step bW0).cell 0 rfl
        go_simp
        refine hK.out _ _ (HFX.out.step bW0) (fun hHeld => ?_)
        clear hK K
        try simp only [Act.put, List.setIfInBounds_toArray, List.set_cons_zero, List.set_cons_succ]
        refine wpAnyH_ready (rs := [6]) (by kernel_rfl) (by simp) ?_
        refine AllReadyH.cons (by exact rfl) (fun K hK => ?_) AllReadyH.nil
        · refine wantIf (by rfl) (bldSw _ rfl (part bs x) (by rfl) (hK.out _ _ (HFX.out.step (bW0.alloc (by have := bW0.size; omega) _)) (fun hHeld => ?_)))
          clear hK K
          try simp only [Act.put, List.setIfInBounds_toArray, List.set_cons_zero, List.set_cons_succ]
          have VW6 := va_new W0 (sect (part bs x)) 143
          have bW6 := bW0.alloc (by have := bW0.size; omega) (.cells (sect (part bs x)).toArray 143)
          have sW6 : W0.heap.size < (W0.alloc (.cells (sect (part bs x)).toArray 143)).heap.size := by simp
          have nW6 : W.heap.size ≤ W0.heap.size := bW0.size
          generalize W0.heap.size = g5 at *
          generalize W0.alloc (.cells (sect (part bs x)).toArray 143) = W6 at *
          refine wpAnyH_ready (rs := [7]) (by kernel_rfl) (by simp) ?_
          refine AllReadyH.cons (by exact rfl) (fun K hK => ?_) AllReadyH.nil
          refine appKS (by rfl) _ _ rfl B (e.ss ++ pre.map (part bs)) (part bs x) _ g5 (by rfl) (by rfl) (HF2.out.step bW6) VW6 (by have := bW6.size; omega) (by rw [List.length_append, List.length_map]; omega) ?_
          intro v2 w3 ho hg3 hat
          obtain ⟨a2, c2, hv2, hc2, hc3⟩ := ho.form
          generalize (e.ss ++ pre.map (part bs) ++ [part bs x]).length = n2 at hv2 hc2
          subst hv2
          have q3 := (HF1.out.step bW6).grownO hg3 (HF2.out.step bW6) (.inl (by decide))
          have x3 := (HFX.out.step bW6).grownO hg3 (HF2.out.step bW6) (.inl (by decide))
          have z3 := q3.cell 0 rfl
          have g3 := q3.free 0
          refine hK.out _ _ x3 (fun hHeld => ?_)
          clear hK K
          try simp only [Act.put, List.setIfInBounds_toArray, List.set_cons_zero, List.set_cons_succ]
          refine takeD 8 36 (.pointer (some ⟨e.q, 0, none⟩)) (by exact rfl) rfl (by kernel_rfl) (by kernel_rfl) (by kernel_rfl) (fun _ _ _ h => h) (Or.inl ⟨by rfl, ?_⟩) (by assumption) ?_
          · intro wq hS
            go_simp
          try simp only [Act.put, List.setIfInBounds_toArray, List.set_cons_zero, List.set_cons_succ]
          refine takeD 9 37 (.pointer (some ⟨e.q, 0, none⟩)) (by exact rfl) rfl (by kernel_rfl) (by kernel_rfl) (by kernel_rfl) (fun _ _ _ h => h) (Or.inl ⟨by rfl, ?_⟩) (by assumption) ?_
          · intro wq hS
            go_simp
          try simp only [Act.put, List.setIfInBounds_toArray, List.set_cons_zero, List.set_cons_succ]
          refine wpAnyH_ready (rs := [10]) (by kernel_rfl) (by simp) ?_
          refine AllReadyH.cons rfl (fun K hK => ?_) AllReadyH.nil
          go_simp
          refine hK.out _ _ (x3.set_other HNE.out 0 _) (fun hHeld => ?_)
          clear hK K
          refine wpAnyH_done (by kernel_rfl) ?_ _
          refine NoPanic.normal ?_
          have hn6 := bW6.size
          have hYd : ∀ i, (i = e.q ∨ (Value.slice va nn vc).ownBlock = some i) → ∃ cs T, W.heap[i]? = some (Obj.cells cs T (0, 0)) ∧ Dt T := fun i hi => by
            rcases hi with rfl | hi
            · exact ⟨_, _, HF1.out.blk, .inr (.inl rfl)⟩
            · obtain ⟨cs, hc⟩ := row_blk HF2.out hi
              exact ⟨cs, _, hc, .inr (.inr rfl)⟩
          have U4 := upd_set w3 e.q 0 (.slice a2 n2 c2)
          have BY : But (fun i => i = e.q ∨ (Value.slice va nn vc).ownBlock = some i) W (w3.setCell ⟨e.q, 0, none⟩ (.slice a2 n2 c2)) :=
            ((below_but bW6 _).trans (⟨hg3.os, hg3.tape, hg3.output, hg3.size, fun i hi hx => hg3.block i hi (fun er => hx (.inr er.symm))⟩ : But (fun i => i = e.q ∨ (Value.slice va nn vc).ownBlock = some i) _ w3) (fun _ _ h => h)).trans (U4.but.mono (fun i h => .inl h)) (fun _ _ h => h)
          have ke : Kee W (w3.setCell ⟨e.q, 0, none⟩ (.slice a2 n2 c2)) := kee_but BY (fun i hi cs T z h => by obtain ⟨cs', T', h', hT⟩ := hYd i hi; rw [h'] at h; cases h; exact hT)
          have kf : ∀ k, KeepsFrom k W (w3.setCell ⟨e.q, 0, none⟩ (.slice a2 n2 c2)) := fun k => keeps_but BY (fun i hi o h => by obtain ⟨cs', T', h', hT⟩ := hYd i hi; rw [h'] at h; cases h; rfl)
          have own4 : Own KS (w3.setCell ⟨e.q, 0, none⟩ (.slice a2 n2 c2)) B (.slice a2 n2 c2) (e.ss ++ (pre ++ [x]).map (part bs)) := by
            rw [List.map_append, ← List.append_assoc]
            refine ho.blk (fun g hg => U4.block g (fun e2 => ?_))
            obtain ⟨cs, hc⟩ := row_blk ho hg
            rw [e2, q3.blk] at hc
            injection hc with hc
            injection hc with _ hT _
            cases hT
          have f4 : ∀ g, (Value.slice a2 n2 c2).ownBlock = some g → e.v.ownBlock = some g ∨ Wl.heap.size ≤ g := fun g hg => by
            rcases hat with h' | h'
            · exact HF3.out g (h'.symm.trans hg)
            · rw [hg] at h'
              have e6 := Option.some.inj h'
              have := HI.out.but.size
              exact .inr (by omega)
          have wi : WI Wl B (w.heap.size) e bs (pre ++ [x]) (w3.setCell ⟨e.q, 0, none⟩ (.slice a2 n2 c2)) :=
            ⟨⟨.slice a2 n2 c2, q3.set 0 _, own4, f4⟩, x3.set_other HNE.out 0 _, HI.out.but.trans BY (fun i hi hy => by
              rcases hy with hy | hy
              · exact .inl hy
              · rcases HF3.out i hy with h' | h'
                · exact .inr h'
                · exact absurd hi (by omega)), HI.out.kee.trans ke⟩
          gi_wp2
          exact ⟨ke, kf _⟩
      refine AllReadyH.cons (by exact rfl) (fun K hK => ?_) AllReadyH.nil
      · refine wantIf (by rfl) (bldSw _ rfl (part bs x) (by rfl) (hK.out _ _ (HFX.out.step (bW0.alloc (by have := bW0.size; omega) _)) (fun hHeld => ?_)))
        clear hK K
        try simp only [Act.put, List.setIfInBounds_toArray, List.set_cons_zero, List.set_cons_succ]
        have VW6 := va_new W0 (sect (part bs x)) 143
        have bW6 := bW0.alloc (by have := bW0.size; omega) (.cells (sect (part bs x)).toArray 143)
        have sW6 : W0.heap.size < (W0.alloc (.cells (sect (part bs x)).toArray 143)).heap.size := by simp
        have nW6 : W.heap.size ≤ W0.heap.size := bW0.size
        generalize W0.heap.size = g5 at *
        generalize W0.alloc (.cells (sect (part bs x)).toArray 143) = W6 at *
        refine wpAnyH_ready (rs := [4]) (by kernel_rfl) (by simp) ?_
        refine AllReadyH.cons (by exact rfl) (fun K hK => ?_) AllReadyH.nil
        · have c4 := (HF1.out.step bW6).cell 0 rfl
          go_simp
          refine hK.out _ _ (HFX.out.step bW6) (fun hHeld => ?_)
          clear hK K
          try simp only [Act.put, List.setIfInBounds_toArray, List.set_cons_zero, List.set_cons_succ]
          refine wpAnyH_ready (rs := [7]) (by kernel_rfl) (by simp) ?_
          refine AllReadyH.cons (by exact rfl) (fun K hK => ?_) AllReadyH.nil
          refine appKS (by rfl) _ _ rfl B (e.ss ++ pre.map (part bs)) (part bs x) _ g5 (by rfl) (by rfl) (HF2.out.step bW6) VW6 (by have := bW6.size; omega) (by rw [List.length_append, List.length_map]; omega) ?_
          intro v2 w3 ho hg3 hat
          obtain ⟨a2, c2, hv2, hc2, hc3⟩ := ho.form
          generalize (e.ss ++ pre.map (part bs) ++ [part bs x]).length = n2 at hv2 hc2
          subst hv2
          have q3 := (HF1.out.step bW6).grownO hg3 (HF2.out.step bW6) (.inl (by decide))
          have x3 := (HFX.out.step bW6).grownO hg3 (HF2.out.step bW6) (.inl (by decide))
          have z3 := q3.cell 0 rfl
          have g3 := q3.free 0
          refine hK.out _ _ x3 (fun hHeld => ?_)
          clear hK K
          try simp only [Act.put, List.setIfInBounds_toArray, List.set_cons_zero, List.set_cons_succ]
          refine takeD 8 36 (.pointer (some ⟨e.q, 0, none⟩)) (by exact rfl) rfl (by kernel_rfl) (by kernel_rfl) (by kernel_rfl) (fun _ _ _ h => h) (Or.inl ⟨by rfl, ?_⟩) (by assumption) ?_
          · intro wq hS
            go_simp
          try simp only [Act.put, List.setIfInBounds_toArray, List.set_cons_zero, List.set_cons_succ]
          refine takeD 9 37 (.pointer (some ⟨e.q, 0, none⟩)) (by exact rfl) rfl (by kernel_rfl) (by kernel_rfl) (by kernel_rfl) (fun _ _ _ h => h) (Or.inl ⟨by rfl, ?_⟩) (by assumption) ?_
          · intro wq hS
            go_simp
          try simp only [Act.put, List.setIfInBounds_toArray, List.set_cons_zero, List.set_cons_succ]
          refine wpAnyH_ready (rs := [10]) (by kernel_rfl) (by simp) ?_
          refine AllReadyH.cons rfl (fun K hK => ?_) AllReadyH.nil
          go_simp
          refine hK.out _ _ (x3.set_other HNE.out 0 _) (fun hHeld => ?_)
          clear hK K
          refine wpAnyH_done (by kernel_rfl) ?_ _
          refine NoPanic.normal ?_
          have hn6 := bW6.size
          have hYd : ∀ i, (i = e.q ∨ (Value.slice va nn vc).ownBlock = some i) → ∃ cs T, W.heap[i]? = some (Obj.cells cs T (0, 0)) ∧ Dt T := fun i hi => by
            rcases hi with rfl | hi
            · exact ⟨_, _, HF1.out.blk, .inr (.inl rfl)⟩
            · obtain ⟨cs, hc⟩ := row_blk HF2.out hi
              exact ⟨cs, _, hc, .inr (.inr rfl)⟩
          have U4 := upd_set w3 e.q 0 (.slice a2 n2 c2)
          have BY : But (fun i => i = e.q ∨ (Value.slice va nn vc).ownBlock = some i) W (w3.setCell ⟨e.q, 0, none⟩ (.slice a2 n2 c2)) :=
            ((below_but bW6 _).trans (⟨hg3.os, hg3.tape, hg3.output, hg3.size, fun i hi hx => hg3.block i hi (fun er => hx (.inr er.symm))⟩ : But (fun i => i = e.q ∨ (Value.slice va nn vc).ownBlock = some i) _ w3) (fun _ _ h => h)).trans (U4.but.mono (fun i h => .inl h)) (fun _ _ h => h)
          have ke : Kee W (w3.setCell ⟨e.q, 0, none⟩ (.slice a2 n2 c2)) := kee_but BY (fun i hi cs T z h => by obtain ⟨cs', T', h', hT⟩ := hYd i hi; rw [h'] at h; cases h; exact hT)
          have kf : ∀ k, KeepsFrom k W (w3.setCell ⟨e.q, 0, none⟩ (.slice a2 n2 c2)) := fun k => keeps_but BY (fun i hi o h => by obtain ⟨cs', T', h', hT⟩ := hYd i hi; rw [h'] at h; cases h; rfl)
          have own4 : Own KS (w3.setCell ⟨e.q, 0, none⟩ (.slice a2 n2 c2)) B (.slice a2 n2 c2) (e.ss ++ (pre ++ [x]).map (part bs)) := by
            rw [List.map_append, ← List.append_assoc]
            refine ho.blk (fun g hg => U4.block g (fun e2 => ?_))
            obtain ⟨cs, hc⟩ := row_blk ho hg
            rw [e2, q3.blk] at hc
            injection hc with hc
            injection hc with _ hT _
            cases hT
          have f4 : ∀ g, (Value.slice a2 n2 c2).ownBlock = some g → e.v.ownBlock = some g ∨ Wl.heap.size ≤ g := fun g hg => by
            rcases hat with h' | h'
            · exact HF3.out g (h'.symm.trans hg)
            · rw [hg] at h'
              have e6 := Option.some.inj h'
              have := HI.out.but.size
              exact .inr (by omega)
          have wi : WI Wl B (w.heap.size) e bs (pre ++ [x]) (w3.setCell ⟨e.q, 0, none⟩ (.slice a2 n2 c2)) :=
            ⟨⟨.slice a2 n2 c2, q3.set 0 _, own4, f4⟩, x3.set_other HNE.out 0 _, HI.out.but.trans BY (fun i hi hy => by
              rcases hy with hy | hy
              · exact .inl hy
              · rcases HF3.out i hy with h' | h'
                · exact .inr h'
                · exact absurd hi (by omega)), HI.out.kee.trans ke⟩
          gi_wp2
          exact ⟨ke, kf _⟩
  case done =>
    rintro D W hD hI hK
    gi_wp2
    refine ⟨by simp, .inl ⟨_, _, rfl, run_takeDeferred hK, ?_⟩⟩
    have hI2 := WI.own Wl B (w.heap.size) e bs _ W _ (some D) hI (grownBy_putObj' W D (.deferred none)) (fun r e => by cases e; exact ⟨hD, _, hK, rfl⟩)
    obtain ⟨v', f1, f2, f3⟩ := hI2.ex
    have hbl : bs.length = len := by obtain ⟨_, a, c, e, _⟩ := HBS.out; cases e; rfl
    have hps : (List.range (cnt len)).map (part bs) = parts bs := by unfold parts; rw [hbl]
    rw [hps] at f2
    have hfl : Fil (W.putObj D (.deferred none)) B { e with v := v', ss := e.ss ++ parts bs } := by
      refine ⟨f1, f2, HFil.out.lo, ?_, ?_, HFil.out.nm⟩
      · have := HFil.out.sy
        simp only [List.length_append]
        omega
      · intro s' hs'
        rcases List.mem_append.1 hs' with h' | h'
        · exact HFil.out.byte s' h'
        · obtain ⟨k, _, rfl⟩ := List.mem_map.1 h'
          exact (HBS.out.byte.drop _).take _
    have hput := HDl.out.put (e' := { e with v := v', ss := e.ss ++ parts bs }) hx hI2.but hfl rfl rfl f3 (by
      have h1 := hroom
      rw [hx, tot_app] at h1
      simp only [tot] at h1
      have : (parts bs).length = cnt len := by unfold parts; rw [hbl]; simp
      simp only [List.length_append]
      omega)
    have kee2 : Kee w (W.putObj D (.deferred none)) := (Kee.bel B2).trans hI2.kee
    refine ⟨_, results_none rfl _ _ _, ⟨_, rfl⟩, ⟨v', hput⟩, kee2, ?_⟩
    have hb2 : Below B w Wl := B2.mono (by have := HH.out.lo.1; have := HH.out.va.lt; omega)
    refine hb2.trans (hI2.but.below HBl (fun i hi => ?_))
    rcases hi with rfl | hi
    · exact HFil.out.lo
    · exact HFil.out.row.block i hi
end Go.Proofs.YtkmdegmpffgplaaGreatDoor
/- disk XI: a file is added to the map; strings.Clone. -/
namespace Go.Proofs.YtkmdegmpffgplaaGreatDoor
open Go.RowKit Go.Shelf Go.Maps pk
set_option linter.unusedVariables false

shelf_lay LaysM.n316 Nm 316 at Tryz as laysM316
theorem clone_ok (s : ByteArray) (w : World) (hs : s.size ≤ 1048576) : Calls Tryz.prog 82 #[.string s] w fun e w' => e = .returned (.string s) ∧ Below w.heap.size w w' := by
  have HC := (show Hid _ from fun w => (Any.stringslite_Clone laysM316 s w (by omega)))
  go_enter Tryz.func82, Tryz.ntmps82
  go_wp2_with (go_at_call 104; refine (HC.out _).mono ?_; rintro e w' ⟨rfl, hb⟩)
  go_ret
  exact ⟨rfl, hb⟩
theorem MapF.congr {w : World} {k : TypeId} {b n : Nat} {f g : Lit → Option Value} (h : MapF w k b n f) (e : ∀ key kl, keyOf Tryz.prog k key = some kl → f kl = g kl) : MapF w k b n g := by
  obtain ⟨D, h1, h2⟩ := h
  refine ⟨D, h1, fun key kl hk => ?_⟩
  rw [← e key kl hk]
  exact h2 key kl hk
theorem str_of {key : Value} {kl : Lit} (h : keyOf Tryz.prog 9 key = some kl) : ∃ s : ByteArray, key = .string s ∧ kl = .string s.data.toList ∧ s.size ≤ maxLen := Go.WideMaps.string_of_keyOf Tryz.underlying9 h
theorem up_app {es : List Ent} {e : Ent} (hf : fd es e.nm = none) {key : Value} {kl : Lit} (h : keyOf Tryz.prog 9 key = some kl) (he : WideAt.IsKeyLit (.string e.nm)) : upF (mf es) (.string e.nm) (ptr e.q) kl = mf (es ++ [e]) kl := by
  obtain ⟨s, rfl, rfl, hs⟩ := str_of h
  show _ = (fd (es ++ [e]) s.data.toList).map _
  unfold fd
  rw [List.find?_append]
  by_cases hl : s.data.toList = e.nm
  · rw [hl, upF_same _ he]
    unfold fd at hf
    rw [hf]
    simp
  · rw [upF_other _ _ (fun h => hl (by injection h))]
    show (fd es _).map _ = _
    unfold fd
    have : (e.nm == s.data.toList) = false := by simpa using fun h => hl h.symm
    rw [List.find?_cons, this]
    simp
/-- a new file, without sectors -/
theorem Dsk.add {w w' : World} {B p m : Nat} {x : DK} (h : Dsk w B p m x) {l : List UInt8} {q : Nat} (hf : fd x.es l = none) (hl : l.length ≤ 16) (hc : x.es.length < 64) (k : But (fun i => i = m) w w')
    (hq : VA w' q [.slice none 0 0, .int .i64 0] 116) (hqn : w.heap.size ≤ q) (hB : B ≤ w.heap.size) (hm : MapF w' 9 m (x.es.length + 1) (upF (mf x.es) (.string l) (ptr q))) :
    Dsk w' B p m { x with es := x.es ++ [⟨l, q, .slice none 0 0, [], 0⟩] } := by
  obtain ⟨ms, c, hmb⟩ := map_blk h.mp
  have hpm : p ≠ m := fun e => by rw [← e, h.va.blk] at hmb; cases hmb
  have hfl : ∀ e ∈ x.es, Fil w' B e := fun e he => (h.fil e he).but k (fun e2 => by rw [← e2, (h.fil e he).blk.blk] at hmb; cases hmb) (fun g hg e2 => by
    obtain ⟨cs, hcs⟩ := row_blk (h.fil e he).row hg
    rw [e2, hmb] at hcs
    cases hcs)
  refine ⟨h.va.but k hpm, ?_, fun e he => ?_, ?_, h.lo, ?_, h.fits.2.1, ?_⟩
  · have := hm.congr (g := mf (x.es ++ [⟨l, q, .slice none 0 0, [], 0⟩])) (fun key kl hk => up_app (e := ⟨l, q, .slice none 0 0, [], 0⟩) hf hk (keyedS.key (nm_key hl)))
    simpa using this
  · rcases List.mem_append.1 he with he | he
    · exact hfl e he
    · obtain rfl := List.mem_singleton.1 he
      exact ⟨hq, own_nil _ _ _, Nat.le_trans hB hqn, Nat.le_refl _, fun s hs => (by cases hs), hl⟩
  · refine List.pairwise_append.2 ⟨h.ap, List.pairwise_singleton _ _, fun a ha b hb => ?_⟩
    obtain rfl := List.mem_singleton.1 hb
    refine ⟨fun e => ?_, fun e => ?_, fun g _ e => by cases e⟩
    · have := List.find?_eq_none.1 hf a ha
      simp [e] at this
    · have := (h.fil a ha).blk.lt
      have e' : a.q = q := e
      omega
  · show tot (x.es ++ [_]) ≤ _
    rw [tot_app]
    have := h.fits.1
    simp only [tot, List.length_nil]
    omega
  · show (x.es ++ [_]).length ≤ 64
    simp
    omega
end Go.Proofs.YtkmdegmpffgplaaGreatDoor
/- disk XII: write, of a new file. -/
namespace Go.Proofs.YtkmdegmpffgplaaGreatDoor
open Go.RowKit Go.Shelf Go.Maps pk
set_option linter.unusedVariables false
set_option linter.unusedSimpArgs false
attribute [local go_sem] Oper.semAt_some ext_cell ext_frozen ext_drew ext_of_drew ext_of_drewN ext_setCell ext_lt ext_lt1 ext_lt2 ext_lt3 lt_n2 lt_n3 lt_n4 lt_n5 lt_n6

set_option maxRecDepth 100000 in
set_option maxHeartbeats 4000000 in
theorem write_new (w : World) (B p m : Nat) (x0 : DK) (h : Dsk w B p m x0) (s : ByteArray) (hs : s.size ≤ 1048576) (sa : Option Addr) (len cap b off : Nat) (bs : List Nat) (hb : Bs w (.slice sa len cap) bs) (hsf : Safe w (.slice sa len cap)) (hsa : 0 < len → sa = some ⟨b, off, none⟩) (hcap : len ≤ cap ∧ cap ≤ 9223372036854775807 ∧ len ≤ 140737488355328) (hfd : fd x0.es s.data.toList = none) (hnm : s.data.toList.length ≤ 16) (hcn : x0.es.length < 64) (hroom : tot x0.es + cnt len ≤ x0.room) :
    Calls Tryz.prog 54 #[ptr p, .string s, .slice sa len cap] w fun r w' => (∃ v, r = .returned v) ∧ (∃ q v', Dsk w' B p m { x0 with es := x0.es ++ [⟨s.data.toList, q, v', parts bs, 0⟩] }) ∧ Kee w w' ∧ Below B w w' := by
  have y1 := h.va.cell 1 (v := .map (some m)) rfl
  have hlk := h.look hs
  rw [hfd] at hlk
  simp only [Option.map_none, Option.getD_none] at hlk
  have hpl := h.va.lt
  have hlen : 0 + cnt len ≤ 65536 := by
    have h1 := h.fits
    omega
  have HH := (show Hid _ from h)
  have HBS0 := (show Hid _ from hb)
  have HSF0 : Hid (Safe w (.slice sa len cap)) := hsf
  clear h hb hsf
  unfold ptr at ⊢
  refine (callsIn_wide (n := 8)).1 ?_
  have hF : ∀ f, Fence.wide.fn f := fun _ => trivial
  have hF1 := hF 83
  refine callsIn_of_wp_marks Tryz.func54 rfl trivial ?_ rfl
  simp only [Tryz.ntmps54, List.size_toArray, List.length_cons, List.length_nil, Nat.reduceAdd, Nat.reduceSub, Array.replicate_succ, Array.replicate_zero, List.push_toArray, List.append_toArray, List.nil_append, List.cons_append]
  gi_wp2_with fail
  have B1 := (Below.refl w.heap.size w).alloc (Nat.le_refl _) (.cells #[.pointer (some ⟨w.heap.size + 1, 0, none⟩)] 110)
  have B2 := B1.alloc (by simp) (.cells #[.slice none 0 0, .int .i64 0] 116)
  have F2 := (va_new w [.pointer (some ⟨w.heap.size + 1, 0, none⟩)] 110).alloc (.cells #[.slice none 0 0, .int .i64 0] 116)
  have Q2 := va_new (w.alloc (.cells #[.pointer (some ⟨w.heap.size + 1, 0, none⟩)] 110)) [.slice none 0 0, .int .i64 0] 116
  simp only [World.size_alloc] at Q2
  have hqn : w.heap.size ≤ w.heap.size + 1 := by omega
  have hqne : w.heap.size ≠ w.heap.size + 1 := by omega
  generalize hW2 : (w.alloc (.cells #[.pointer (some ⟨w.heap.size + 1, 0, none⟩)] 110)).alloc (.cells #[.slice none 0 0, .int .i64 0] 116) = W2 at *
  have hs2 : W2.heap.size = w.heap.size + 2 := by rw [← hW2]; simp
  clear hW2 B1
  obtain ⟨q0, hq0⟩ : ∃ q0, q0 = w.heap.size + 1 := ⟨_, rfl⟩
  rw [← hq0] at F2 Q2 hqn hqne ⊢
  clear hq0
  obtain ⟨e, he⟩ : ∃ e : Ent, e = ⟨s.data.toList, q0, .slice none 0 0, [], 0⟩ := ⟨_, rfl⟩
  have HE : Hid (e.nm = s.data.toList ∧ e.v = .slice none 0 0 ∧ e.ss = [] ∧ e.sy = 0) := by rw [he]; exact ⟨rfl, rfl, rfl, rfl⟩
  have heq : q0 = e.q := by rw [he]
  have HEE : Hid (e = ⟨s.data.toList, e.q, .slice none 0 0, [], 0⟩) := by show e = _; rw [← heq]; exact he
  clear he
  subst heq
  refine wpIn_wide.2 ?_
  refine wp_region_noPanic ?_
  have HV2 : Hid (VA W2 p [.int .i64 x0.room, .map (some m), .bool x0.on, .int .i64 x0.ops, .int .i64 x0.left, x0.und] 106) := HH.out.va.step B2
  refine wp_region_held_drew (S := fun V => VA V p [.int .i64 x0.room, .map (some m), .bool x0.on, .int .i64 x0.ops, .int .i64 x0.left, x0.und] 106 ∧ VA V w.heap.size [.pointer (some ⟨e.q, 0, none⟩)] 110) (by kernel_rfl) ⟨HV2.out.drew, F2.drew⟩ ?_
  intro hHeld
  have b0 : Below W2.heap.size W2 W2.drew := (Below.refl _ _).drew
  generalize W2.drew = W0 at *
  refine takeD 0 18 (.pointer (some ⟨p, 0, none⟩)) (by exact rfl) rfl (by kernel_rfl) (by kernel_rfl) (by kernel_rfl) (fun _ _ _ h => h) (Or.inl ⟨by rfl, ?_⟩) (by assumption) ?_
  · intro wq hS
    go_simp
  try simp only [Act.put, List.setIfInBounds_toArray, List.set_cons_zero, List.set_cons_succ]
  refine takeD 1 19 (.pointer (some ⟨p, 0, none⟩)) (by exact rfl) rfl (by kernel_rfl) (by kernel_rfl) (by kernel_rfl) (fun _ _ _ h => h) (Or.inl ⟨by rfl, ?_⟩) (by assumption) ?_
  · intro wq hS
    go_simp
  try simp only [Act.put, List.setIfInBounds_toArray, List.set_cons_zero, List.set_cons_succ]
  refine takeD 2 20 (.pointer (some ⟨p, 1, none⟩)) (by exact rfl) rfl (by kernel_rfl) (by kernel_rfl) (by kernel_rfl) (fun _ _ _ h => h) (Or.inl ⟨by rfl, ?_⟩) (by assumption) ?_
  · intro wq hS
    go_simp
  try simp only [Act.put, List.setIfInBounds_toArray, List.set_cons_zero, List.set_cons_succ]
  refine takeD 3 21 (.map (some m)) (by exact rfl) rfl (by kernel_rfl) (by kernel_rfl) (by kernel_rfl) (fun _ _ _ h => h) (Or.inl ⟨by rfl, ?_⟩) (by assumption) ?_
  · intro wq hS
    have c := hS.1.cell 1 (v := .map (some m)) rfl
    go_simp
  try simp only [Act.put, List.setIfInBounds_toArray, List.set_cons_zero, List.set_cons_succ]
  refine takeD 4 22 (.string s) (by exact rfl) rfl (by kernel_rfl) (by kernel_rfl) (by kernel_rfl) (fun _ _ _ h => h) (Or.inl ⟨by rfl, ?_⟩) (by assumption) ?_
  · intro wq hS
    go_simp
  try simp only [Act.put, List.setIfInBounds_toArray, List.set_cons_zero, List.set_cons_succ]
  refine takeD 6 24 (.pointer (some ⟨e.q, 0, none⟩)) (by exact rfl) rfl (by kernel_rfl) (by kernel_rfl) (by kernel_rfl) (fun _ _ _ h => h) (Or.inl ⟨by rfl, ?_⟩) (by assumption) ?_
  · intro wq hS
    have c := hS.2.cell 0 rfl
    go_simp
  try simp only [Act.put, List.setIfInBounds_toArray, List.set_cons_zero, List.set_cons_succ]
  refine wpAnyH_ready (rs := [5]) (by kernel_rfl) (by simp) ?_
  refine AllReadyH.cons (by exact rfl) (fun K hK => ?_) AllReadyH.nil
  go_simp
  refine (clone_ok s _ hs).mono ?_
  rintro r W5 ⟨rfl, b5⟩
  go_wp2_with fail
  refine hK.out _ _ ⟨hHeld.1.step b5, hHeld.2.step b5⟩ (fun hHeld5 => ?_)
  clear hK K
  have bw5 : Below w.heap.size w W5 := B2.trans ((b0.trans (b5.mono b0.size)).mono (by omega))
  have M5 : MapF W5 9 m x0.es.length (mf x0.es) := HH.out.mp.step bw5
  have Q5 : VA W5 e.q [.slice none 0 0, .int .i64 0] 116 := (Q2.step b0).step b5
  refine wpAnyH_ready (rs := [7]) (by kernel_rfl) (by simp) ?_
  refine AllReadyH.cons (by exact rfl) (fun K hK => ?_) AllReadyH.nil
  refine stMd (by rfl) _ _ _ 104 rfl 9 110 keyedS Tryz.underlying104 m x0.es.length (mf x0.es) (by rfl) M5 (by unfold maxLen; omega) (.string s) (.pointer (some ⟨e.q, 0, none⟩)) (.string s.data.toList) (by rfl) (by rfl) (keyS hs) ?_
  intro W7 M7 t7
  obtain ⟨ms, mc, hmb⟩ := map_blk M5
  have hb7 := turned_but t7
  have P7 := hHeld5.1.but hb7 (fun er => by rw [← er, hHeld5.1.blk] at hmb; cases hmb)
  have F7 := hHeld5.2.but hb7 (fun er => by rw [← er, hHeld5.2.blk] at hmb; cases hmb)
  have Q7 := Q5.but hb7 (fun er => by rw [← er, Q5.blk] at hmb; cases hmb)
  refine hK.out _ _ ⟨P7, F7⟩ (fun hHeld7 => ?_)
  clear hK K
  refine wpAnyH_done (by kernel_rfl) ?_ _
  refine NoPanic.normal ?_
  have bt7 : But (fun i => i = m) w W7 := (below_but bw5 _).trans hb7 (fun _ _ h => h)
  have HBw : B ≤ w.heap.size := by have := HH.out.lo.1; omega
  have HD7 : Hid (Dsk W7 B p m { x0 with es := x0.es ++ [e] }) := by
    have := HH.out.add hfd hnm hcn bt7 Q7 hqn HBw M7
    rw [← HEE.out] at this
    exact this
  have Kee7 : Hid (Kee w W7) := kee_but bt7 (fun i hi cs T z h => by obtain ⟨_, _, hmw⟩ := map_blk HH.out.mp; rw [hi, hmw] at h; cases h)
  have Bel7 : Hid (Below B w W7) := bt7.below HBw (fun i hi => by rw [hi]; exact HH.out.lo.2)
  have hbs7 : Hid (Bs W7 (.slice sa len cap) bs) := HBS0.out.kee HSF0.out Kee7.out
  have hsf7 : Hid (Safe W7 (.slice sa len cap)) := HSF0.out.kee Kee7.out
  have l7 := F7.lt
  clear P7 Q7 Q5 M5 M7 t7 hb7 hmb hHeld hHeld5 hHeld7 F2 Q2 b0 b5 bw5 bt7 HV2 B2 hs2
  gi_wp2_with (gi_at_call 83; refine (cut_in (8 - 1) _ _ _ _).mono ?_; rintro r w' ⟨rfl, rfl⟩)
  have BL := (Below.refl W7.heap.size W7).alloc (Nat.le_refl _) (.cells #[.slice sa len cap] 22)
  have hF0v := F7.alloc (.cells #[.slice sa len cap] 22)
  have hBx := va_new W7 [.slice sa len cap] 22
  generalize hWl : W7.alloc (.cells #[.slice sa len cap] 22) = Wl at *
  have hsl : Wl.heap.size = W7.heap.size + 1 := by rw [← hWl]; simp
  have HDl : Hid (Dsk Wl B p m { x0 with es := x0.es ++ [e] }) := HD7.out.step BL
  have HBS : Hid (Bs Wl (.slice sa len cap) bs) := hbs7.out.step BL
  have HSF : Hid (Safe Wl (.slice sa len cap)) := hsf7.out.kee (Kee.bel BL)
  have HFil : Hid (Fil Wl B e) := HDl.out.fil e (by simp)
  have HBl : B ≤ Wl.heap.size := by omega
  have hlen2 : e.ss.length + cnt len ≤ 65536 := by rw [HE.out.2.2.1]; simpa using hlen
  refine rangeAll rfl (by omega) (gf := 105) (lb := #[.pointer (some ⟨W7.heap.size, 0, none⟩)]) rfl trivial (enters_of Tryz.func105 (by kernel_rfl) rfl)
    (cut1_in (8 - 1) (by omega) (W7.heap.size) b off len cap (Wl.heap.size + 2) sa bs hsa hcap Wl hBx HBS.out HSF.out (Nat.le_refl _)) KpD.trans
    (fun W o o' ho hc => ⟨Kee.row (grownBy_putObj' W _ o') ho (.inl hc), ⟨by simp, fun k o2 hk h2 _ => (World.putObj_heap_other (by omega)).trans h2⟩⟩) (fun _ => rfl)
    (WI Wl B (w.heap.size) e bs) (WI.own Wl B (w.heap.size) e bs)
    ⟨⟨e.v, HFil.out.blk, by simpa using HFil.out.row, fun g hg => .inl hg⟩, hF0v, But.refl _ _, Kee.refl _⟩
    (fun x a' W => ∃ Bs', VA W Bs' (sect (part bs x)) 143 ∧ a' = { tmps := #[.pointer (some ⟨p, 0, none⟩), .string s, .slice sa len cap, undef, undef, undef, .pointer (some ⟨w.heap.size, 0, none⟩), .pointer (some ⟨Bs', 0, none⟩), .pointer (some ⟨p, 0, none⟩), .pointer (some ⟨p, 0, none⟩), .pointer (some ⟨p, 1, none⟩), .map (some m), .string s, .pointer none, .pointer none, .bool true, .agg #[.slice none 0 0, .int .i64 0], .pointer (some ⟨e.q, 0, none⟩), .pointer (some ⟨p, 0, none⟩), .pointer (some ⟨p, 0, none⟩), .pointer (some ⟨p, 1, none⟩), .map (some m), .string s, .string s, .pointer (some ⟨e.q, 0, none⟩), .slice sa len cap, .func (.func 105) #[] #[.pointer (some ⟨W7.heap.size, 0, none⟩)], .agg (sect (part bs x)).toArray, undef, undef, undef, undef, undef, undef, undef, undef, undef, undef], defers := [] })
    (fun x a' _ A A' row h hg hr => by obtain ⟨Bs', h1, h2⟩ := h; exact ⟨Bs', h1.keptN hg (fun r e => (hr r e).2), h2⟩)
    ?assign ?body ?done
  case assign =>
    rintro l pre x W K hi hK
    have hstv := run_storeVar_row (P := Tryz.prog) (W.alloc (.cells (List.replicate 32 (Value.int .u8 0)).toArray 143)) W.heap.size 143 143 (List.replicate 32 (Value.int .u8 0)).toArray (sect (part bs x)).toArray (va_new W _ _).blk (by rw [infoS1]; simp [sect_len]) (by simp [sect_len]) (Array.all_eq_true_iff_forall_mem.2 (fun v hv => sect_one _ v (by simpa using hv)))
    unfold encS
    have V1 := va_new W (List.replicate 32 (Value.int .u8 0)) 143
    have B1 := (Below.refl W.heap.size W).alloc (Nat.le_refl _) (.cells (List.replicate 32 (Value.int .u8 0)).toArray 143)
    have H1 := (show Hid _ from sect_one (part bs x))
    have HL := (show Hid _ from sect_len (part bs x))
    have HK := (show Hid _ from hK)
    clear hK hstv
    generalize sect (part bs x) = sc at *
    simp only [List.replicate_succ, List.replicate_zero] at V1 B1
    gi_wp2_with (refine stAIn rfl 143 _ _ rfl W.heap.size (by rfl) _ sc (by rfl) 143 V1 (infoS1.trans (by rw [HL.out])) (by rw [HL.out]; rfl) H1.out ?_; intro W5 V5 U5)
    have B5 := U5.bel B1 (Nat.le_refl _)
    refine HK.out _ W5 ⟨B5.size, fun k o _ hk _ => (B5.block k (hlt_of hk)).trans hk⟩ ⟨Kee.bel B5, ⟨B5.size, fun k o _ hk _ => (B5.block k (hlt_of hk)).trans hk⟩⟩ ?_ ⟨W.heap.size, V5, rfl⟩
    exact WI.own Wl B (w.heap.size) e bs pre W W5 none hi ⟨B5.os, B5.tape, B5.output, B5.size, fun i hi _ => B5.block i hi⟩ (fun r e => by cases e)
  case body =>
    rintro l pre x a' W hpl hI ⟨Bs', hX, rfl⟩
    obtain ⟨v', f1, f2, f3⟩ := hI.ex
    obtain ⟨va, vc, hv', hvc, hvm⟩ := f2.form
    generalize hnn : (e.ss ++ pre.map (part bs)).length = nn at hv' hvc
    subst hv'
    have HNN := (show Hid _ from hnn)
    clear hnn
    have yF := hI.box.cell 0 (v := ptr e.q) rfl
    unfold ptr at yF
    have yq := f1.cell 0 rfl
    have lF := hI.box.lt
    have lq := f1.lt
    have HI := (show Hid _ from hI)
    have HF1 : Hid (VA W e.q _ _) := f1
    have HF2 : Hid (Own KS W B _ _) := f2
    have HF3 := (show Hid _ from f3)
    have HX : Hid (VA W Bs' (sect (part bs x)) 143) := hX
    clear hI f1 f2 f3 hX
    gi_wp2
    refine region_round_held (fun V => VA V (w.heap.size) [.pointer (some ⟨e.q, 0, none⟩)] 110) (by kernel_rfl) (by kernel_rfl) (fun h => by obtain ⟨_, _, h⟩ := h; cases h.1) HI.out.box.drew ?_
    intro hHeld
    have hWB : B ≤ W.heap.size := Nat.le_trans HBl (Nat.le_trans HI.out.but.size (Nat.le_refl _))
    have hpx : e.ss.length + pre.length + 1 ≤ 65536 := by rw [List.length_range] at hpl; omega
    have HNE : Hid (¬ (w.heap.size) = e.q) := (show ¬ (w.heap.size) = e.q from fun h => by have h1 := HI.out.box.blk; rw [h, HF1.out.blk] at h1; injection h1 with h1; injection h1 with _ hT _; cases hT)
    have HFX : Hid (VA W (w.heap.size) [.pointer (some ⟨e.q, 0, none⟩)] 110) := HI.out.box
    have B0 : Below W.heap.size W W.drew := (Below.refl _ _).drew
    generalize W.drew = W0 at *
    refine takeD 0 28 (.pointer (some ⟨e.q, 0, none⟩)) (by exact rfl) rfl (by kernel_rfl) (by kernel_rfl) (by kernel_rfl) (fun _ _ _ h => h) (Or.inl ⟨by rfl, ?_⟩) (by assumption) ?_
    · intro wq hS
      have c := hS.cell 0 rfl
      go_simp
    try simp only [Act.put, List.setIfInBounds_toArray, List.set_cons_zero, List.set_cons_succ]
    refine takeD 1 29 (.pointer (some ⟨e.q, 0, none⟩)) (by exact rfl) rfl (by kernel_rfl) (by kernel_rfl) (by kernel_rfl) (fun _ _ _ h => h) (Or.inl ⟨by rfl, ?_⟩) (by assumption) ?_
    · intro wq hS
      have c := hS.cell 0 rfl
      go_simp
    try simp only [Act.put, List.setIfInBounds_toArray, List.set_cons_zero, List.set_cons_succ]
    refine takeD 2 30 (.pointer (some ⟨e.q, 0, none⟩)) (by exact rfl) rfl (by kernel_rfl) (by kernel_rfl) (by kernel_rfl) (fun _ _ _ h => h) (Or.inl ⟨by rfl, ?_⟩) (by assumption) ?_
    · intro wq hS
      go_simp
    try simp only [Act.put, List.setIfInBounds_toArray, List.set_cons_zero, List.set_cons_succ]
    refine takeD 3 31 (.pointer (some ⟨e.q, 0, none⟩)) (by exact rfl) rfl (by kernel_rfl) (by kernel_rfl) (by kernel_rfl) (fun _ _ _ h => h) (Or.inl ⟨by rfl, ?_⟩) (by assumption) ?_
    · intro wq hS
      go_simp
    try simp only [Act.put, List.setIfInBounds_toArray, List.set_cons_zero, List.set_cons_succ]
    have bW0 := B0
    clear B0
    refine wpAnyH_ready (rs := [4, 5]) (by kernel_rfl) (by simp) ?_
    refine AllReadyH.cons (by exact rfl) (fun K hK => ?_) ?_
    · have c4 := (HF1.out.step bW0).cell 0 rfl
      go_simp
      refine hK.out _ _ (HFX.out.step bW0) (fun hHeld => ?_)
      clear hK K
      try simp only [Act.put, List.setIfInBounds_toArray, List.set_cons_zero, List.set_cons_succ]
      refine wpAnyH_ready (rs := [5]) (by kernel_rfl) (by simp) ?_
      refine AllReadyH.cons (by exact rfl) (fun K hK => ?_) AllReadyH.nil
      · refine wantIf (by rfl) (wp_load_mid 143 _ rfl Bs' 0 (by rfl) (sect (part bs x)) _ (fun j u hj => by rw [Nat.zero_add]; exact (HX.out.step bW0).cell j hj) Tryz.underlying143 rfl (infoS1.trans (by simp [sect_len])) (hK.out _ _ (HFX.out.step bW0) (fun hHeld => ?_)))
        clear hK K
        try simp only [Act.put, List.setIfInBounds_toArray, List.set_cons_zero, List.set_cons_succ]
        refine wpAnyH_ready (rs := [6]) (by kernel_rfl) (by simp) ?_
        refine AllReadyH.cons (by exact rfl) (fun K hK => ?_) AllReadyH.nil
        · refine wantIf (by rfl) (bldSw _ rfl (part bs x) (by rfl) (hK.out _ _ (HFX.out.step (bW0.alloc (by have := bW0.size; omega) _)) (fun hHeld => ?_)))
          clear hK K
          try simp only [Act.put, List.setIfInBounds_toArray, List.set_cons_zero, List.set_cons_succ]
          have VW6 := va_new W0 (sect (part bs x)) 143
          have bW6 := bW0.alloc (by have := bW0.size; omega) (.cells (sect (part bs x)).toArray 143)
          have sW6 : W0.heap.size < (W0.alloc (.cells (sect (part bs x)).toArray 143)).heap.size := by simp
          have nW6 : W.heap.size ≤ W0.heap.size := bW0.size
          generalize W0.heap.size = g5 at *
          generalize W0.alloc (.cells (sect (part bs x)).toArray 143) = W6 at *
          refine wpAnyH_ready (rs := [7]) (by kernel_rfl) (by simp) ?_
          refine AllReadyH.cons (by exact rfl) (fun K hK => ?_) AllReadyH.nil
          refine appKS (by rfl) _ _ rfl B (e.ss ++ pre.map (part bs)) (part bs x) _ g5 (by rfl) (by rfl) (HF2.out.step bW6) VW6 (by have := bW6.size; omega) (by rw [List.length_append, List.length_map]; omega) ?_
          intro v2 w3 ho hg3 hat
          obtain ⟨a2, c2, hv2, hc2, hc3⟩ := ho.form
          generalize (e.ss ++ pre.map (part bs) ++ [part bs x]).length = n2 at hv2 hc2
          subst hv2
          have q3 := (HF1.out.step bW6).grownO hg3 (HF2.out.step bW6) (.inl (by decide))
          have x3 := (HFX.out.step bW6).grownO hg3 (HF2.out.step bW6) (.inl (by decide))
          have z3 := q3.cell 0 rfl
          have g3 := q3.free 0
          refine hK.out _ _ x3 (fun hHeld => ?_)
          clear hK K
          try simp only [Act.put, List.setIfInBounds_toArray, List.set_cons_zero, List.set_cons_succ]
          refine takeD 8 36 (.pointer (some ⟨e.q, 0, none⟩)) (by exact rfl) rfl (by kernel_rfl) (by kernel_rfl) (by kernel_rfl) (fun _ _ _ h => h) (Or.inl ⟨by rfl, ?_⟩) (by assumption) ?_
          · intro wq hS
            go_simp
          try simp only [Act.put, List.setIfInBounds_toArray, List.set_cons_zero, List.set_cons_succ]
          refine takeD 9 37 (.pointer (some ⟨e.q, 0, none⟩)) (by exact rfl) rfl (by kernel_rfl) (by kernel_rfl) (by kernel_rfl) (fun _ _ _ h => h) (Or.inl ⟨by rfl, ?_⟩) (by assumption) ?_
          · intro wq hS
            go_simp
          try simp only [Act.put, List.setIfInBounds_toArray, List.set_cons_zero, List.set_cons_succ]
          refine wpAnyH_ready (rs := [10]) (by kernel_rfl) (by simp) ?_
          refine AllReadyH.cons rfl (fun K hK => ?_) AllReadyH.nil
          go_simp
          refine hK.out _ _ (x3.set_other HNE.out 0 _) (fun hHeld => ?_)
          clear hK K
          refine wpAnyH_done (by kernel_rfl) ?_ _
          refine NoPanic.normal ?_
          have hn6 := bW6.size
          have hYd : ∀ i, (i = e.q ∨ (Value.slice va nn vc).ownBlock = some i) → ∃ cs T, W.heap[i]? = some (Obj.cells cs T (0, 0)) ∧ Dt T := fun i hi => by
            rcases hi with rfl | hi
            · exact ⟨_, _, HF1.out.blk, .inr (.inl rfl)⟩
            · obtain ⟨cs, hc⟩ := row_blk HF2.out hi
              exact ⟨cs, _, hc, .inr (.inr rfl)⟩
          have U4 := upd_set w3 e.q 0 (.slice a2 n2 c2)
          have BY : But (fun i => i = e.q ∨ (Value.slice va nn vc).ownBlock = some i) W (w3.setCell ⟨e.q, 0, none⟩ (.slice a2 n2 c2)) :=
            ((below_but bW6 _).trans (⟨hg3.os, hg3.tape, hg3.output, hg3.size, fun i hi hx => hg3.block i hi (fun er => hx (.inr er.symm))⟩ : But (fun i => i = e.q ∨ (Value.slice va nn vc).ownBlock = some i) _ w3) (fun _ _ h => h)).trans (U4.but.mono (fun i h => .inl h)) (fun _ _ h => h)
          have ke : Kee W (w3.setCell ⟨e.q, 0, none⟩ (.slice a2 n2 c2)) := kee_but BY (fun i hi cs T z h => by obtain ⟨cs', T', h', hT⟩ := hYd i hi; rw [h'] at h; cases h; exact hT)
          have kf : ∀ k, KeepsFrom k W (w3.setCell ⟨e.q, 0, none⟩ (.slice a2 n2 c2)) := fun k => keeps_but BY (fun i hi o h => by obtain ⟨cs', T', h', hT⟩ := hYd i hi; rw [h'] at h; cases h; rfl)
          have own4 : Own KS (w3.setCell ⟨e.q, 0, none⟩ (.slice a2 n2 c2)) B (.slice a2 n2 c2) (e.ss ++ (pre ++ [x]).map (part bs)) := by
            rw [List.map_append, ← List.append_assoc]
            refine ho.blk (fun g hg => U4.block g (fun e2 => ?_))
            obtain ⟨cs, hc⟩ := row_blk ho hg
            rw [e2, q3.blk] at hc
            injection hc with hc
            injection hc with _ hT _
            cases hT
          have f4 : ∀ g, (Value.slice a2 n2 c2).ownBlock = some g → e.v.ownBlock = some g ∨ Wl.heap.size ≤ g := fun g hg => by
            rcases hat with h' | h'
            · exact HF3.out g (h'.symm.trans hg)
            · rw [hg] at h'
              have e6 := Option.some.inj h'
              have := HI.out.but.size
              exact .inr (by omega)
          have wi : WI Wl B (w.heap.size) e bs (pre ++ [x]) (w3.setCell ⟨e.q, 0, none⟩ (.slice a2 n2 c2)) :=
            ⟨⟨.slice a2 n2 c2, q3.set 0 _, own4, f4⟩, x3.set_other HNE.out 0 _, HI.out.but.trans BY (fun i hi hy => by
              rcases hy with hy | hy
              · exact .inl hy
              · rcases HF3.out i hy with h' | h'
                · exact .inr h'
                · exact absurd hi (by omega)), HI.out.kee.trans ke⟩
          gi_wp2
          exact ⟨ke, kf _⟩
    refine AllReadyH.cons (by exact rfl) (fun K hK => ?_) AllReadyH.nil
    · refine wantIf (by rfl) (wp_load_mid 143 _ rfl Bs' 0 (by rfl) (sect (part bs x)) _ (fun j u hj => by rw [Nat.zero_add]; exact (HX.out.step bW0).cell j hj) Tryz.underlying143 rfl (infoS1.trans (by simp [sect_len])) (hK.out _ _ (HFX.out.step bW0) (fun hHeld => ?_)))
      clear hK K
      try simp only [Act.put, List.setIfInBounds_toArray, List.set_cons_zero, List.set_cons_succ]
      refine wpAnyH_ready (rs := [4, 6]) (by kernel_rfl) (by simp) ?_
      refine AllReadyH.cons (by exact rfl) (fun K hK => ?_) ?_
      · have c4 := (HF1.out.step bW0).cell 0 rfl
        go_simp
        refine hK.out _ _ (HFX.out.step bW0) (fun hHeld => ?_)
        clear hK K
        try simp only [Act.put, List.setIfInBounds_toArray, List.set_cons_zero, List.set_cons_succ]
        refine wpAnyH_ready (rs := [6]) (by kernel_rfl) (by simp) ?_
        refine AllReadyH.cons (by exact rfl) (fun K hK => ?_) AllReadyH.nil
        · refine wantIf (by rfl) (bldSw _ rfl (part bs x) (by rfl) (hK.out _ _ (HFX.out.step (bW0.alloc (by have := bW0.size; omega) _)) (fun hHeld => ?_)))
          clear hK K
          try simp only [Act.put, List.setIfInBounds_toArray, List.set_cons_zero, List.set_cons_succ]
          have VW6 := va_new W0 (sect (part bs x)) 143
          have bW6 := bW0.alloc (by have := bW0.size; omega) (.cells (sect (part bs x)).toArray 143)
          have sW6 : W0.heap.size < (W0.alloc (.cells (sect (part bs x)).toArray 143)).heap.size := by simp
          have nW6 : W.heap.size ≤ W0.heap.size := bW0.size
          generalize W0.heap.size = g5 at *
          generalize W0.alloc (.cells (sect (part bs x)).toArray 143) = W6 at *
          refine wpAnyH_ready (rs := [7]) (by kernel_rfl) (by simp) ?_
          refine AllReadyH.cons (by exact rfl) (fun K hK => ?_) AllReadyH.nil
          refine appKS (by rfl) _ _ rfl B (e.ss ++ pre.map (part bs)) (part bs x) _ g5 (by rfl) (by rfl) (HF2.out.step bW6) VW6 (by have := bW6.size; omega) (by rw [List.length_append, List.length_map]; omega) ?_
          intro v2 w3 ho hg3 hat
          obtain ⟨a2, c2, hv2, hc2, hc3⟩ := ho.form
          generalize (e.ss ++ pre.map (part bs) ++ [part bs x]).length = n2 at hv2 hc2
          subst hv2
          have q3 := (HF1.out.step bW6).grownO hg3 (HF2.out.step bW6) (.inl (by decide))
          have x3 := (HFX.out.step bW6).grownO hg3 (HF2.out.step bW6) (.inl (by decide))
          have z3 := q3.cell 0 rfl
          have g3 := q3.free 0
          refine hK.out _ _ x3 (fun hHeld => ?_)
          clear hK K
          try simp only [Act.put, List.setIfInBounds_toArray, List.set_cons_zero, List.set_cons_succ]
          refine takeD 8 36 (.pointer (some ⟨e.q, 0, none⟩)) (by exact rfl) rfl (by kernel_rfl) (by kernel_rfl) (by kernel_rfl) (fun _ _ _ h => h) (Or.inl ⟨by rfl, ?_⟩) (by assumption) ?_
          · intro wq hS
            go_simp
          try simp only [Act.put, List.setIfInBounds_toArray, List.set_cons_zero, List.set_cons_succ]
          refine takeD 9 37 (.pointer (some ⟨e.q, 0, none⟩)) (by exact rfl) rfl (by kernel_rfl) (by kernel_rfl) (by kernel_rfl) (fun _ _ _ h => h) (Or.inl ⟨by rfl, ?_⟩) (by assumption) ?_
          · intro wq hS
            go_simp
          try simp only [Act.put, List.setIfInBounds_toArray, List.set_cons_zero, List.set_cons_succ]
          refine wpAnyH_ready (rs := [10]) (by kernel_rfl) (by simp) ?_
          refine AllReadyH.cons rfl (fun K hK => ?_) AllReadyH.nil
          go_simp
          refine hK.out _ _ (x3.set_other HNE.out 0 _) (fun hHeld => ?_)
          clear hK K
          refine wpAnyH_done (by kernel_rfl) ?_ _
          refine NoPanic.normal ?_
          have hn6 := bW6.size
          have hYd : ∀ i, (i = e.q ∨ (Value.slice va nn vc).ownBlock = some i) → ∃ cs T, W.heap[i]? = some (Obj.cells cs T (0, 0)) ∧ Dt T := fun i hi => by
            rcases hi with rfl | hi
            · exact ⟨_, _, HF1.out.blk, .inr (.inl rfl)⟩
            · obtain ⟨cs, hc⟩ := row_blk HF2.out hi
              exact ⟨cs, _, hc, .inr (.inr rfl)⟩
          have U4 := upd_set w3 e.q 0 (.slice a2 n2 c2)
          have BY : But (fun i => i = e.q ∨ (Value.slice va nn vc).ownBlock = some i) W (w3.setCell ⟨e.q, 0, none⟩ (.slice a2 n2 c2)) :=
            ((below_but bW6 _).trans (⟨hg3.os, hg3.tape, hg3.output, hg3.size, fun i hi hx => hg3.block i hi (fun er => hx (.inr er.symm))⟩ : But (fun i => i = e.q ∨ (Value.slice va nn vc).ownBlock = some i) _ w3) (fun _ _ h => h)).trans (U4.but.mono (fun i h => .inl h)) (fun _ _ h => h)
          have ke : Kee W (w3.setCell ⟨e.q, 0, none⟩ (.slice a2 n2 c2)) := kee_but BY (fun i hi cs T z h => by obtain ⟨cs', T', h', hT⟩ := hYd i hi; rw [h'] at h; cases h; exact hT)
          have kf : ∀ k, KeepsFrom k W (w3.setCell ⟨e.q, 0, none⟩ (.slice a2 n2 c2)) := fun k => keeps_but BY (fun i hi o h => by obtain ⟨cs', T', h', hT⟩ := hYd i hi; rw [h'] at h; cases h; rfl)
          have own4 : Own KS (w3.setCell ⟨e.q, 0, none⟩ (.slice a2 n2 c2)) B (.slice a2 n2 c2) (e.ss ++ (pre ++ [x]).map (part bs)) := by
            rw [List.map_append, ← List.append_assoc]
            refine ho.blk (fun g hg => U4.block g (fun e2 => ?_))
            obtain ⟨cs, hc⟩ := row_blk ho hg
            rw [e2, q3.blk] at hc
            injection hc with hc
            injection hc with _ hT _
            cases hT
          have f4 : ∀ g, (Value.slice a2 n2 c2).ownBlock = some g → e.v.ownBlock = some g ∨ Wl.heap.size ≤ g := fun g hg => by
            rcases hat with h' | h'
            · exact HF3.out g (h'.symm.trans hg)
            · rw [hg] at h'
              have e6 := Option.some.inj h'
              have := HI.out.but.size
              exact .inr (by omega)
          have wi : WI Wl B (w.heap.size) e bs (pre ++ [x]) (w3.setCell ⟨e.q, 0, none⟩ (.slice a2 n2 c2)) :=
            ⟨⟨.slice a2 n2 c2, q3.set 0 _, own4, f4⟩, x3.set_other HNE.out 0 _, HI.out.but.trans BY (fun i hi hy => by
              rcases hy with hy | hy
              · exact .inl hy
              · rcases HF3.out i hy with h' | h'
                · exact .inr h'
                · exact absurd hi (by omega)), HI.out.kee.trans ke⟩
          gi_wp2
          exact ⟨ke, kf _⟩
      refine AllReadyH.cons (by exact rfl) (fun K hK => ?_) AllReadyH.nil
      · refine wantIf (by rfl) (bldSw _ rfl (part bs x) (by rfl) (hK.out _ _ (HFX.out.step (bW0.alloc (by have := bW0.size; omega) _)) (fun hHeld => ?_)))
        clear hK K
        try simp only [Act.put, List.setIfInBounds_toArray, List.set_cons_zero, List.set_cons_succ]
        have VW6 := va_new W0 (sect (part bs x)) 143
        have bW6 := bW0.alloc (by have := bW0.size; omega) (.cells (sect (part bs x)).toArray 143)
        have sW6 : W0.heap.size < (W0.alloc (.cells (sect (part bs x)).toArray 143)).heap.size := by simp
        have nW6 : W.heap.size ≤ W0.heap.size := bW0.size
        generalize W0.heap.size = g5 at *
        generalize W0.alloc (.cells (sect (part bs x)).toArray 143) = W6 at *
        refine wpAnyH_ready (rs := [4]) (by kernel_rfl) (by simp) ?_
        refine AllReadyH.cons (by exact rfl) (fun K hK => ?_) AllReadyH.nil
        · have c4 := (HF1.out.step bW6).cell 0 rfl
          go_simp
          refine hK.out _ _ (HFX.out.step bW6) (fun hHeld => ?_)
          clear hK K
          try simp only [Act.put, List.setIfInBounds_toArray, List.set_cons_zero, List.set_cons_succ]
          refine wpAnyH_ready (rs := [7]) (by kernel_rfl) (by simp) ?_
          refine AllReadyH.cons (by exact rfl) (fun K hK => ?_) AllReadyH.nil
          refine appKS (by rfl) _ _ rfl B (e.ss ++ pre.map (part bs)) (part bs x) _ g5 (by rfl) (by rfl) (HF2.out.step bW6) VW6 (by have := bW6.size; omega) (by rw [List.length_append, List.length_map]; omega) ?_
          intro v2 w3 ho hg3 hat
          obtain ⟨a2, c2, hv2, hc2, hc3⟩ := ho.form
          generalize (e.ss ++ pre.map (part bs) ++ [part bs x]).length = n2 at hv2 hc2
          subst hv2
          have q3 := (HF1.out.step bW6).grownO hg3 (HF2.out.step bW6) (.inl (by decide))
          have x3 := (HFX.out.step bW6).grownO hg3 (HF2.out.step bW6) (.inl (by decide))
          have z3 := q3.cell 0 rfl
          have g3 := q3.free 0
          refine hK.out _ _ x3 (fun hHeld => ?_)
          clear hK K
          try simp only [Act.put, List.setIfInBounds_toArray, List.set_cons_zero, List.set_cons_succ]
          refine takeD 8 36 (.pointer (some ⟨e.q, 0, none⟩)) (by exact rfl) rfl (by kernel_rfl) (by kernel_rfl) (by kernel_rfl) (fun _ _ _ h => h) (Or.inl ⟨by rfl, ?_⟩) (by assumption) ?_
          · intro wq hS
            go_simp
          try simp only [Act.put, List.setIfInBounds_toArray, List.set_cons_zero, List.set_cons_succ]
          refine takeD 9 37 (.pointer (some ⟨e.q, 0, none⟩)) (by exact rfl) rfl (by kernel_rfl) (by kernel_rfl) (by kernel_rfl) (fun _ _ _ h => h) (Or.inl ⟨by rfl, ?_⟩) (by assumption) ?_
          · intro wq hS
            go_simp
          try simp only [Act.put, List.setIfInBounds_toArray, List.set_cons_zero, List.set_cons_succ]
          refine wpAnyH_ready (rs := [10]) (by kernel_rfl) (by simp) ?_
          refine AllReadyH.cons rfl (fun K hK => ?_) AllReadyH.nil
          go_simp
          refine hK.out _ _ (x3.set_other HNE.out 0 _) (fun hHeld => ?_)
          clear hK K
          refine wpAnyH_done (by kernel_rfl) ?_ _
          refine NoPanic.normal ?_
          have hn6 := bW6.size
          have hYd : ∀ i, (i = e.q ∨ (Value.slice va nn vc).ownBlock = some i) → ∃ cs T, W.heap[i]? = some (Obj.cells cs T (0, 0)) ∧ Dt T := fun i hi => by
            rcases hi with rfl | hi
            · exact ⟨_, _, HF1.out.blk, .inr (.inl rfl)⟩
            · obtain ⟨cs, hc⟩ := row_blk HF2.out hi
              exact ⟨cs, _, hc, .inr (.inr rfl)⟩
          have U4 := upd_set w3 e.q 0 (.slice a2 n2 c2)
          have BY : But (fun i => i = e.q ∨ (Value.slice va nn vc).ownBlock = some i) W (w3.setCell ⟨e.q, 0, none⟩ (.slice a2 n2 c2)) :=
            ((below_but bW6 _).trans (⟨hg3.os, hg3.tape, hg3.output, hg3.size, fun i hi hx => hg3.block i hi (fun er => hx (.inr er.symm))⟩ : But (fun i => i = e.q ∨ (Value.slice va nn vc).ownBlock = some i) _ w3) (fun _ _ h => h)).trans (U4.but.mono (fun i h => .inl h)) (fun _ _ h => h)
          have ke : Kee W (w3.setCell ⟨e.q, 0, none⟩ (.slice a2 n2 c2)) := kee_but BY (fun i hi cs T z h => by obtain ⟨cs', T', h', hT⟩ := hYd i hi; rw [h'] at h; cases h; exact hT)
          have kf : ∀ k, KeepsFrom k W (w3.setCell ⟨e.q, 0, none⟩ (.slice a2 n2 c2)) := fun k => keeps_but BY (fun i hi o h => by obtain ⟨cs', T', h', hT⟩ := hYd i hi; rw [h'] at h; cases h; rfl)
          have own4 : Own KS (w3.setCell ⟨e.q, 0, none⟩ (.slice a2 n2 c2)) B (.slice a2 n2 c2) (e.ss ++ (pre ++ [x]).map (part bs)) := by
            rw [List.map_append, ← List.append_assoc]
            refine ho.blk (fun g hg => U4.block g (fun e2 => ?_))
            obtain ⟨cs, hc⟩ := row_blk ho hg
            rw [e2, q3.blk] at hc
            injection hc with hc
            injection hc with _ hT _
            cases hT
          have f4 : ∀ g, (Value.slice a2 n2 c2).ownBlock = some g → e.v.ownBlock = some g ∨ Wl.heap.size ≤ g := fun g hg => by
            rcases hat with h' | h'
            · exact HF3.out g (h'.symm.trans hg)
            · rw [hg] at h'
              have e6 := Option.some.inj h'
              have := HI.out.but.size
              exact .inr (by omega)
          have wi : WI Wl B (w.heap.size) e bs (pre ++ [x]) (w3.setCell ⟨e.q, 0, none⟩ (.slice a2 n2 c2)) :=
            ⟨⟨.slice a2 n2 c2, q3.set 0 _, own4, f4⟩, x3.set_other HNE.out 0 _, HI.out.but.trans BY (fun i hi hy => by
              rcases hy with hy | hy
              · exact .inl hy
              · rcases HF3.out i hy with h' | h'
                · exact .inr h'
                · exact absurd hi (by omega)), HI.out.kee.trans ke⟩
          gi_wp2
          exact ⟨ke, kf _⟩
  case done =>
    rintro D W hD hI hK
    gi_wp2
    refine ⟨by simp, .inl ⟨_, _, rfl, run_takeDeferred hK, ?_⟩⟩
    have hI2 := WI.own Wl B (w.heap.size) e bs _ W _ (some D) hI (grownBy_putObj' W D (.deferred none)) (fun r e => by cases e; exact ⟨hD, _, hK, rfl⟩)
    obtain ⟨v', f1, f2, f3⟩ := hI2.ex
    have hbl : bs.length = len := by obtain ⟨_, a, c, e, _⟩ := HBS.out; cases e; rfl
    have hps : (List.range (cnt len)).map (part bs) = parts bs := by unfold parts; rw [hbl]
    rw [hps] at f2
    have hfl : Fil (W.putObj D (.deferred none)) B { e with v := v', ss := e.ss ++ parts bs } := by
      refine ⟨f1, f2, HFil.out.lo, ?_, ?_, HFil.out.nm⟩
      · have := HFil.out.sy
        simp only [List.length_append]
        omega
      · intro s' hs'
        rcases List.mem_append.1 hs' with h' | h'
        · exact HFil.out.byte s' h'
        · obtain ⟨k, _, rfl⟩ := List.mem_map.1 h'
          exact (HBS.out.byte.drop _).take _
    have hput := HDl.out.put (l1 := x0.es) (l2 := []) (e' := { e with v := v', ss := e.ss ++ parts bs }) rfl hI2.but hfl rfl rfl f3 (by
      have : (parts bs).length = cnt len := by unfold parts; rw [hbl]; simp
      simp only [List.length_append, HE.out.2.2.1, List.length_nil, tot]
      omega)
    have hee : ({ e with v := v', ss := e.ss ++ parts bs } : Ent) = ⟨s.data.toList, e.q, v', parts bs, 0⟩ := by
      rw [HE.out.1, HE.out.2.2.1, HE.out.2.2.2]
      rfl
    rw [hee] at hput
    have kee2 : Kee w (W.putObj D (.deferred none)) := (Kee7.out.trans (Kee.bel BL)).trans hI2.kee
    refine ⟨_, results_none rfl _ _ _, ⟨_, rfl⟩, ⟨e.q, v', hput⟩, kee2, ?_⟩
    refine (Bel7.out.trans (BL.mono (by omega))).trans (hI2.but.below HBl (fun i hi => ?_))
    rcases hi with rfl | hi
    · exact HFil.out.lo
    · exact HFil.out.row.block i hi
end Go.Proofs.YtkmdegmpffgplaaGreatDoor
