/- disk IX: write: the sectors are appended, one by one. -/
import Derived.Test.YtkmdegmpffgplaaGreatDoorLai
import Derived.Great.BuildSlice
import Derived.Maps.AppendAt
import Derived.Deep.RegionHeld3
namespace Go.Proofs.YtkmdegmpffgplaaGreatDoor
open Go.RowKit Go.Shelf Go.Maps pk
set_option linter.unusedVariables false
attribute [local go_sem] Oper.semAt_some

theorem VA.keptN {A B : World} {p : Nat} {cs : List Value} {T : TypeId} {row : Option Nat} (h : VA A p cs T) (hg : A.grownBy B row) (hr : ∀ r, row = some r → ∃ o, A.heap[r]? = some o ∧ o.isCells = false) : VA B p cs T := by
  refine ⟨(hg.block p h.lt (fun e => ?_)).trans h.blk⟩
  obtain ⟨o, ho, hc⟩ := hr p e.symm
  rw [h.blk] at ho
  cases ho
  simp [Obj.isCells] at hc
theorem Own.keptN {A W : World} {B : Nat} {v : Value} {ss : List (List Nat)} {row : Option Nat} (h : Own KS A B v ss) (hg : A.grownBy W row) (hr : ∀ r, row = some r → ∃ o, A.heap[r]? = some o ∧ o.isCells = false) : Own KS W B v ss := by
  refine h.blk fun g hv => hg.block g (h.lt g hv) (fun e => ?_)
  obtain ⟨o, ho, hc⟩ := hr g e.symm
  obtain ⟨cs, hcs⟩ := row_blk h hv
  rw [hcs] at ho
  cases ho
  simp [Obj.isCells] at hc
/-- between two rounds -/
structure WI (Wl : World) (B F0 : Nat) (e : Ent) (bs : List Nat) (pre : List Nat) (W : World) : Prop where
  ex : ∃ v', VA W e.q [v', .int .i64 e.sy] 116 ∧ Own KS W B v' (e.ss ++ pre.map (part bs)) ∧ (∀ g, v'.ownBlock = some g → e.v.ownBlock = some g ∨ Wl.heap.size ≤ g)
  box : VA W F0 [ptr e.q] 110
  but : But (XF e) Wl W
  kee : Kee Wl W
theorem WI.own (Wl : World) (B F0 : Nat) (e : Ent) (bs : List Nat) : OwnFrom Wl.heap.size (WI Wl B F0 e bs) := fun s A A' row h hg hr => by
  have hr2 : ∀ r, row = some r → ∃ o, A.heap[r]? = some o ∧ o.isCells = false := fun r e => (hr r e).2
  obtain ⟨v', h1, h2, h3⟩ := h.ex
  exact ⟨⟨v', h1.keptN hg hr2, h2.keptN hg hr2, h3⟩, h.box.keptN hg hr2,
    ⟨hg.os.trans h.but.os, hg.tape.trans h.but.tape, hg.output.trans h.but.output, Nat.le_trans h.but.size hg.size, fun i hi hx => (hg.block i (Nat.lt_of_lt_of_le hi h.but.size) (fun e => by have := (hr i e.symm).1; omega)).trans (h.but.block i hi hx)⟩,
    kee_own _ Wl s A A' row h.kee hg hr⟩
theorem keeps_but {B : Nat} {Y : Nat → Prop} {W W' : World} (h : But Y W W') (hy : ∀ i, Y i → ∀ o, W.heap[i]? = some o → o.isCells = true) : KeepsFrom B W W' :=
  ⟨h.size, fun k o _ hk ho => (h.block k (hlt_of hk) (fun y => by have := hy k y o hk; rw [this] at ho; cases ho)).trans hk⟩
theorem kee_but {Y : Nat → Prop} {W W' : World} (h : But Y W W') (hy : ∀ i, Y i → ∀ cs T z, W.heap[i]? = some (Obj.cells cs T z) → Dt T) : Kee W W' :=
  ⟨h.os, h.tape, h.output, h.size, fun i cs T z e hT => (h.block i (hlt_of e) (fun y => hT (hy i y cs T z e))).trans e⟩
theorem quiet_ld {ops : Array Oper} {C : World → Prop} {Q : Act → Prop} {rest : List Oper} {o : Oper} {a : Act} (hgd : o.guard = none) (t : TypeId) (x : Operand) (ho : o.op = .load t x) (p : Nat) (hx : a.eval x = .pointer (some ⟨p, 0, none⟩)) (v : Value)
    (hrun : ∀ w', C w' → (loadVar t ⟨p, 0, none⟩).run Tryz.prog w' = .ok v w') (k : wpQuiet Tryz.prog ops C Q rest (a.put o.dst v)) : wpQuiet Tryz.prog ops C Q (o :: rest) a := by
  refine wpQuiet_step (fun K hK => ?_)
  rw [if_pos (by simp [Region.wanted, hgd])]
  refine ⟨v, fun w' hw => ?_, hK _ k⟩
  unfold Oper.quietAt execOp
  simp only [ho, hx, Instr.loadAt, Instr.sureAddr, Sem.run_bind, Sem.run_pure, Result.andThen_ok, hrun w' hw]
  exact ⟨rfl, rfl⟩
theorem stAIn {F : Fence} {n : Nat} {w : World} {ops : Array Oper} {rest : List Oper} {o : Oper} {a : Act} {Q : Exit → Act → World → Prop} (hgd : o.guard = none) (t : TypeId) (x y : Operand) (ho : o.op = .store t x y)
    (p : Nat) (hx : a.eval x = .pointer (some ⟨p, 0, none⟩)) (cs ds : List Value) (hy : a.eval y = .agg ds.toArray) (T : TypeId) (h : VA w p cs T) (hi : (Tryz.prog.info? t).map (·.size) = some ds.length) (hl : cs.length = ds.length) (h1 : ∀ v ∈ ds, v.oneCell' = true)
    (k : ∀ w', VA w' p ds T → Upd p w w' → wpListIn F n Tryz.prog ops Q rest (a.put o.dst undef) w') : wpListIn F n Tryz.prog ops Q (o :: rest) a w := by
  refine wpListIn_plain hgd fun K hK' => ?_
  have hrun := run_storeVar_row (P := Tryz.prog) w p T t cs.toArray ds.toArray h.blk (by simpa using hi) (by simpa using hl) (Array.all_eq_true_iff_forall_mem.2 (fun v hv => h1 v (by simpa using hv)))
  unfold Oper.wpIn
  refine ⟨by simp [Oper.about, ho], ?_⟩
  rw [Oper.semAt_plain F _ _ (by rw [ho]; intro c hc'; cases hc')]
  unfold execOp
  simp only [ho, hx, hy, Instr.storeAt, Instr.sureAddr, Sem.run_bind, Sem.run_pure, Result.andThen_ok, hrun]
  exact hK' _ _ (k _ ⟨setRow_heap w p _ _ _ _ h.blk⟩ (upd_setRow w p _))
theorem zS : (Tryz.prog.info? 143).map (fun i => (i.zero, i.size)) = some (some (.agg (List.replicate 32 (Value.int .u8 0)).toArray), 32) := by kernel_rfl
theorem fillS (s : List Nat) : Instr.fill (fun i => some (i * 32, 32)) ((Array.range (1 * 32)).map ((Value.agg (List.replicate 32 (Value.int .u8 0)).toArray).cells[· % (Value.agg (List.replicate 32 (Value.int .u8 0)).toArray).cells.size]!)) [(0, Value.agg (sect s).toArray)] = some (sect s).toArray := by kernel_rfl
theorem bldS (s : List Nat) (w : World) : (Instr.buildSlice 114 1 #[(0, .agg (sect s).toArray)]).run Tryz.prog w = .ok (.slice (some ⟨w.heap.size, 0, none⟩) 1 1) (w.alloc (.cells (sect s).toArray 143)) := by
  obtain ⟨i, hi, hz⟩ := Option.map_eq_some_iff.1 zS
  simp only [Prod.mk.injEq] at hz
  refine run_buildSlice w _ 143 1 _ _ i _ Tryz.underlying114 hi hz.1 (by rw [hz.2]; decide) (by rw [hz.2]; decide) ?_
  rw [hz.2]
  exact fillS s
theorem bldSw {w : World} {o : Oper} {a : Act} {K : Act → World → Prop} {Q : Exit → Act → World → Prop} (z : Operand) (ho : o.op = .buildSlice 114 1 #[(0, z)]) (s : List Nat) (hz : a.eval z = .agg (sect s).toArray)
    (h : K (a.put o.dst (.slice (some ⟨w.heap.size, 0, none⟩) 1 1)) (w.alloc (.cells (sect s).toArray 143))) : o.wp Tryz.prog a w K Q := by
  obtain ⟨i, hi, hz2⟩ := Option.map_eq_some_iff.1 zS
  simp only [Prod.mk.injEq] at hz2
  refine wp_buildSlice 114 143 1 _ ho _ i _ Tryz.underlying114 hi hz2.1 (by rw [hz2.2]; decide) (by rw [hz2.2]; decide) ?_ h
  rw [hz2.2]
  simp only [List.map_toArray, List.map_cons, List.map_nil, hz]
  exact fillS s
/-- append of one sector -/
theorem appKS {w : World} {y : Nat → Option Bool} {o : Oper} {a : Act} {Q : Exit → Act → World → Prop} {KK : Act → World → Prop} {k0 : Prop} (hgd : Region.wanted o y = true) (s x : Operand)
    (ho : o.op = .call { callee := .builtin .append, args := #[s, x], argTypes := #[114, 114] })
    (B : Nat) (xs : List (List Nat)) (d : List Nat) (v : Value) (g : Nat) (hs : a.eval s = v) (hx : a.eval x = .slice (some ⟨g, 0, none⟩) 1 1)
    (hown : Own KS w B v xs) (hV : VA w g (sect d) 143) (hB : B ≤ w.heap.size) (hl : xs.length + 1 ≤ 100000)
    (h : ∀ v' w', Own KS w' B v' (xs ++ [d]) → w.grownBy w' v.ownBlock → (v'.ownBlock = v.ownBlock ∨ v'.ownBlock = some w.heap.size) → KK (a.put o.dst v') w') :
    if Region.wanted o y then o.wp Tryz.prog a w KK Q else k0 := by
  rw [if_pos hgd]
  obtain ⟨i0, z, hi, hz0, hz1, hz2, hz3⟩ := KS.info
  obtain ⟨v', w', hr, h2, h3, h4, h5⟩ := run_append_own_at (P := Tryz.prog) w B 114 o.type 143 i0 z 32 32 KS.und hi hz0 hz1 hz2 hz3 (by decide) v xs.length (KS.cells xs) hown.own ⟨g, 0, none⟩ 1 1 (sect d) (sect_len d) (fun j u hj => by rw [Go.WideShapes.add_plain, Nat.zero_add]; exact hV.cell j hj) (sect_one d) (by unfold maxLen; omega) (by omega) hB
  unfold Oper.wp execOp
  simp only [ho, resolve, invoke, builtin, Sem.run_bind, Sem.run_pure, Result.andThen_ok, List.map_toArray, List.map_cons, List.map_nil, hs, hx, hr]
  refine h v' w' ⟨?_⟩ h3 h5
  have e1 : KS.cells (xs ++ [d]) = KS.cells xs ++ sect d := by
    rw [KS.cells_app]
    show KS.cells xs ++ (sect d ++ []) = _
    rw [List.append_nil]
  rw [List.length_append, List.length_singleton, e1]
  exact h2
/-- a drawn region of a round, what is loaded held by S -/
theorem region_round_held {L : List Oper} {Q : Exit → Act → World → Prop} {n l id : Nat} {a : Act} {w : World} (S : World → Prop) (hm : Tryz.prog.follows .mixedOrders = true) (hd : noDefer L.toArray = true) (hq : ¬ LetsOut Q) (hS : S w.drew)
    (h : S w.drew → wpAnyH Tryz.prog .any L.toArray (NoPanic Q) S L.toArray.size (Array.replicate L.toArray.size false) a w.drew) : (Code.region id L.toArray true).wpIn (Fence.wide.inRound l) n Tryz.prog Q a w :=
  wpIn_mono (region_round (Q := NoPanic Q) hm hd (fun ⟨a, w, h⟩ => hq ⟨a, w, h⟩) (wpAny_of_held _ _ _ _ (h hS))) NoPanic.imp
theorem wantIf {o : Oper} {y : Nat → Option Bool} {a : Act} {w : World} {K : Act → World → Prop} {Q : Exit → Act → World → Prop} {k0 : Prop} (h : Region.wanted o y = true) (k : o.wp Tryz.prog a w K Q) : if Region.wanted o y = true then o.wp Tryz.prog a w K Q else k0 := by
  rw [if_pos h]
  exact k
/-- the files, without where they lie -/
def ab (es : List Ent) : List (List UInt8 × List (List Nat) × Nat) := es.map fun e => (e.nm, e.ss, e.sy)
/-- .. with sectors appended to one -/
def apd : List (List UInt8 × List (List Nat) × Nat) → List UInt8 → List (List Nat) → List (List UInt8 × List (List Nat) × Nat)
  | [], l, ps => [(l, ps, 0)]
  | (n, ss, sy) :: t, l, ps => if n = l then (n, ss ++ ps, sy) :: t else (n, ss, sy) :: apd t l ps
/-- the sectors of bytes -/
def parts (bs : List Nat) : List (List Nat) := (List.range (cnt bs.length)).map (part bs)
end Go.Proofs.YtkmdegmpffgplaaGreatDoor
/- disk X: write, of a file that is there. -/
namespace Go.Proofs.YtkmdegmpffgplaaGreatDoor
open Go.RowKit Go.Shelf Go.Maps pk
set_option linter.unusedVariables false
set_option linter.unusedSimpArgs false
attribute [local go_sem] Oper.semAt_some ext_cell ext_frozen ext_drew ext_of_drew ext_of_drewN ext_setCell ext_lt ext_lt1 ext_lt2 ext_lt3 lt_n2 lt_n3 lt_n4 lt_n5 lt_n6

set_option maxRecDepth 100000 in
set_option maxHeartbeats 4000000 in
theorem write_known (w : World) (B p m : Nat) (x0 : DK) (h : Dsk w B p m x0) (s : ByteArray) (hs : s.size ≤ 1048576) (sa : Option Addr) (len cap b off : Nat) (bs : List Nat) (hb : Bs w (.slice sa len cap) bs) (hsf : Safe w (.slice sa len cap)) (hsa : 0 < len → sa = some ⟨b, off, none⟩) (hcap : len ≤ cap ∧ cap ≤ 9223372036854775807 ∧ len ≤ 140737488355328) (l1 l2 : List Ent) (e : Ent) (hx : x0.es = l1 ++ e :: l2) (hfd : fd x0.es s.data.toList = some e) (hroom : tot x0.es + cnt len ≤ x0.room) :
    Calls Tryz.prog 54 #[ptr p, .string s, .slice sa len cap] w fun r w' => (∃ v, r = .returned v) ∧ (∃ v', Dsk w' B p m { x0 with es := l1 ++ { e with v := v', ss := e.ss ++ parts bs } :: l2 }) ∧ Kee w w' ∧ Below B w w' := by
  have y1 := h.va.cell 1 (v := .map (some m)) rfl
  have hlk := h.look hs
  rw [hfd] at hlk
  simp only [Option.map_some, Option.getD_some] at hlk
  have hpl := h.va.lt
  have hlen : e.ss.length + cnt len ≤ 65536 := by
    have h1 := h.fits
    rw [hx, tot_app] at h1
    rw [hx, tot_app] at hroom
    simp only [tot] at h1 hroom
    omega
  have HH := (show Hid _ from h)
  have HBS0 := (show Hid _ from hb)
  have HSF0 : Hid (Safe w (.slice sa len cap)) := hsf
  clear h hb hsf
  unfold ptr at hlk ⊢
  refine (callsIn_wide (n := 8)).1 ?_
  have hF : ∀ f, Fence.wide.fn f := fun _ => trivial
  have hF1 := hF 83
  refine callsIn_of_wp_marks Tryz.func54 rfl trivial ?_ rfl
  simp only [Tryz.ntmps54, List.size_toArray, List.length_cons, List.length_nil, Nat.reduceAdd, Nat.reduceSub, Array.replicate_succ, Array.replicate_zero, List.push_toArray, List.append_toArray, List.nil_append, List.cons_append]
  gi_wp2_with (gi_at_call 83; refine (cut_in (8 - 1) _ _ _ _).mono ?_; rintro r w' ⟨rfl, rfl⟩)
  have B1 := (Below.refl w.heap.size w).alloc (Nat.le_refl _) (.cells #[.pointer (some ⟨e.q, 0, none⟩)] 110)
  have B2 := B1.alloc (by simp) (.cells #[.slice sa len cap] 22)
  have hF0v := (va_new w [.pointer (some ⟨e.q, 0, none⟩)] 110).alloc (.cells #[.slice sa len cap] 22)
  have hBx := va_new (w.alloc (.cells #[.pointer (some ⟨e.q, 0, none⟩)] 110)) [.slice sa len cap] 22
  simp only [World.size_alloc] at hBx
  generalize hWl : (w.alloc (.cells #[.pointer (some ⟨e.q, 0, none⟩)] 110)).alloc (.cells #[.slice sa len cap] 22) = Wl at *
  have hsl : Wl.heap.size = w.heap.size + 2 := by rw [← hWl]; simp
  have HDl : Hid (Dsk Wl B p m x0) := HH.out.step B2
  have HBS : Hid (Bs Wl (.slice sa len cap) bs) := HBS0.out.step B2
  have HSF : Hid (Safe Wl (.slice sa len cap)) := HSF0.out.kee (Kee.bel B2)
  have HFil : Hid (Fil Wl B e) := HDl.out.fil e (by rw [hx]; simp)
  have HBl : B ≤ Wl.heap.size := by have := HH.out.lo.1; have := HH.out.va.lt; omega
  clear B1
  refine rangeAll rfl (by omega) (gf := 105) (lb := #[.pointer (some ⟨w.heap.size + 1, 0, none⟩)]) rfl trivial (enters_of Tryz.func105 (by kernel_rfl) rfl)
    (cut1_in (8 - 1) (by omega) (w.heap.size + 1) b off len cap (Wl.heap.size + 2) sa bs hsa hcap Wl hBx HBS.out HSF.out (Nat.le_refl _)) KpD.trans
    (fun W o o' ho hc => ⟨Kee.row (grownBy_putObj' W _ o') ho (.inl hc), ⟨by simp, fun k o2 hk h2 _ => (World.putObj_heap_other (by omega)).trans h2⟩⟩) (fun _ => rfl)
    (WI Wl B (w.heap.size) e bs) (WI.own Wl B (w.heap.size) e bs)
    ⟨⟨e.v, HFil.out.blk, by simpa using HFil.out.row, fun g hg => .inl hg⟩, hF0v, But.refl _ _, Kee.refl _⟩
    (fun x a' W => ∃ Bs', VA W Bs' (sect (part bs x)) 143 ∧ a' = { tmps := #[.pointer (some ⟨p, 0, none⟩), .string s, .slice sa len cap, undef, undef, undef, .pointer (some ⟨w.heap.size, 0, none⟩), .pointer (some ⟨Bs', 0, none⟩), .pointer (some ⟨p, 0, none⟩), .pointer (some ⟨p, 0, none⟩), .pointer (some ⟨p, 1, none⟩), .map (some m), .string s, .pointer (some ⟨e.q, 0, none⟩), .pointer (some ⟨e.q, 0, none⟩), .bool false, undef, undef, undef, undef, undef, undef, undef, undef, undef, .slice sa len cap, .func (.func 105) #[] #[.pointer (some ⟨w.heap.size + 1, 0, none⟩)], .agg (sect (part bs x)).toArray, undef, undef, undef, undef, undef, undef, undef, undef, undef, undef], defers := [] })
    (fun x a' _ A A' row h hg hr => by obtain ⟨Bs', h1, h2⟩ := h; exact ⟨Bs', h1.keptN hg (fun r e => (hr r e).2), h2⟩)
    ?assign ?body ?done
  case assign =>
    rintro l pre x W K hi hK
    have hstv := run_storeVar_row (P := Tryz.prog) (W.alloc (.cells (List.replicate 32 (Value.int .u8 0)).toArray 143)) W.heap.size 143 143 (List.replicate 32 (Value.int .u8 0)).toArray (sect (part bs x)).toArray (va_new W _ _).blk (by rw [infoS1]; simp [sect_len]) (by simp [sect_len]) (Array.all_eq_true_iff_forall_mem.2 (fun v hv => sect_one _ v (by simpa using hv)))
    unfold encS
    have V1 := va_new W (List.replicate 32 (Value.int .u8 0)) 143
    have B1 := (Below.refl W.heap.size W).alloc (Nat.le_refl _) (.cells (List.replicate 32 (Value.int .u8 0)).toArray 143)
    have H1 := (show Hid _ from sect_one (part bs x))
    have HL := (show Hid _ from sect_len (part bs x))
    have HK := (show Hid _ from hK)
    clear hK hstv
    generalize sect (part bs x) = sc at *
    simp only [List.replicate_succ, List.replicate_zero] at V1 B1
    gi_wp2_with (refine stAIn rfl 143 _ _ rfl W.heap.size (by rfl) _ sc (by rfl) 143 V1 (infoS1.trans (by rw [HL.out])) (by rw [HL.out]; rfl) H1.out ?_; intro W5 V5 U5)
    have B5 := U5.bel B1 (Nat.le_refl _)
    refine HK.out _ W5 ⟨B5.size, fun k o _ hk _ => (B5.block k (hlt_of hk)).trans hk⟩ ⟨Kee.bel B5, ⟨B5.size, fun k o _ hk _ => (B5.block k (hlt_of hk)).trans hk⟩⟩ ?_ ⟨W.heap.size, V5, rfl⟩
    exact WI.own Wl B (w.heap.size) e bs pre W W5 none hi ⟨B5.os, B5.tape, B5.output, B5.size, fun i hi _ => B5.block i hi⟩ (fun r e => by cases e)
  case body =>
    rintro l pre x a' W hpl hI ⟨Bs', hX, rfl⟩
    obtain ⟨v', f1, f2, f3⟩ := hI.ex
    obtain ⟨va, vc, hv', hvc, hvm⟩ := f2.form
    generalize hnn : (e.ss ++ pre.map (part bs)).length = nn at hv' hvc
    subst hv'
    have HNN := (show Hid _ from hnn)
    clear hnn
    have yF := hI.box.cell 0 (v := ptr e.q) rfl
    unfold ptr at yF
    have yq := f1.cell 0 rfl
    have lF := hI.box.lt
    have lq := f1.lt
    have HI := (show Hid _ from hI)
    have HF1 : Hid (VA W e.q _ _) := f1
    have HF2 : Hid (Own KS W B _ _) := f2
    have HF3 := (show Hid _ from f3)
    have HX : Hid (VA W Bs' (sect (part bs x)) 143) := hX
    clear hI f1 f2 f3 hX
    gi_wp2
    refine region_round_held (fun V => VA V (w.heap.size) [.pointer (some ⟨e.q, 0, none⟩)] 110) (by kernel_rfl) (by kernel_rfl) (fun h => by obtain ⟨_, _, h⟩ := h; cases h.1) HI.out.box.drew ?_
    intro hHeld
    have hWB : B ≤ W.heap.size := Nat.le_trans HBl (Nat.le_trans HI.out.but.size (Nat.le_refl _))
    have hpx : e.ss.length + pre.length + 1 ≤ 65536 := by rw [List.length_range] at hpl; omega
    have HNE : Hid (¬ (w.heap.size) = e.q) := (show ¬ (w.heap.size) = e.q from fun h => by have h1 := HI.out.box.blk; rw [h, HF1.out.blk] at h1; injection h1 with h1; injection h1 with _ hT _; cases hT)
    have HFX : Hid (VA W (w.heap.size) [.pointer (some ⟨e.q, 0, none⟩)] 110) := HI.out.box
    have B0 : Below W.heap.size W W.drew := (Below.refl _ _).drew
    generalize W.drew = W0 at *
    refine takeD 0 28 (.pointer (some ⟨e.q, 0, none⟩)) (by exact rfl) rfl (by kernel_rfl) (by kernel_rfl) (by kernel_rfl) (fun _ _ _ h => h) (Or.inl ⟨by rfl, ?_⟩) (by assumption) ?_
    · intro wq hS
      have c := hS.cell 0 rfl
      go_simp
    try simp only [Act.put, List.setIfInBounds_toArray, List.set_cons_zero, List.set_cons_succ]
    refine takeD 1 29 (.pointer (some ⟨e.q, 0, none⟩)) (by exact rfl) rfl (by kernel_rfl) (by kernel_rfl) (by kernel_rfl) (fun _ _ _ h => h) (Or.inl ⟨by rfl, ?_⟩) (by assumption) ?_
    · intro wq hS
      have c := hS.cell 0 rfl
      go_simp
    try simp only [Act.put, List.setIfInBounds_toArray, List.set_cons_zero, List.set_cons_succ]
    refine takeD 2 30 (.pointer (some ⟨e.q, 0, none⟩)) (by exact rfl) rfl (by kernel_rfl) (by kernel_rfl) (by kernel_rfl) (fun _ _ _ h => h) (Or.inl ⟨by rfl, ?_⟩) (by assumption) ?_
    · intro wq hS
      go_simp
    try simp only [Act.put, List.setIfInBounds_toArray, List.set_cons_zero, List.set_cons_succ]
    refine takeD 3 31 (.pointer (some ⟨e.q, 0, none⟩)) (by exact rfl) rfl (by kernel_rfl) (by kernel_rfl) (by kernel_rfl) (fun _ _ _ h => h) (Or.inl ⟨by rfl, ?_⟩) (by assumption) ?_
    · intro wq hS
      go_simp
    try simp only [Act.put, List.setIfInBounds_toArray, List.set_cons_zero, List.set_cons_succ]
    have bW0 := B0
    clear B0
    refine wpAnyH_ready (rs := [4, 5]) (by kernel_rfl) (by simp) ?_
    refine AllReadyH.cons (by exact rfl) (fun K hK => ?_) ?_
    · have c4 := (HF1.out.step bW0).cell 0 rfl
      go_simp
      refine hK.out _ _ (HFX.out.step bW0) (fun hHeld => ?_)
      clear hK K
      try simp only [Act.put, List.setIfInBounds_toArray, List.set_cons_zero, List.set_cons_succ]
      refine wpAnyH_ready (rs := [5]) (by kernel_rfl) (by simp) ?_
      refine AllReadyH.cons (by exact rfl) (fun K hK => ?_) AllReadyH.nil
      · refine wantIf (by rfl) (wp_load_mid 143 _ rfl Bs' 0 (by rfl) (sect (part bs x)) _ (fun j u hj => by rw [Nat.zero_add]; exact (HX.out.step bW0).cell j hj) Tryz.underlying143 rfl (infoS1.trans (by simp [sect_len])) (hK.out _ _ (HFX.out.step bW0) (fun hHeld => ?_)))
        clear hK K
        try simp only [Act.put, List.setIfInBounds_toArray, List.set_cons_zero, List.set_cons_succ]
        refine wpAnyH_ready (rs := [6]) (by kernel_rfl) (by simp) ?_
        refine AllReadyH.cons (by exact rfl) (fun K hK => ?_) AllReadyH.nil
        · refine wantIf (by rfl) (bldSw _ rfl (part bs x) (by rfl) (hK.out _ _ (HFX.out.step (bW0.alloc (by have := bW0.size; omega) _)) (fun hHeld => ?_)))
          clear hK K
          try simp only [Act.put, List.setIfInBounds_toArray, List.set_cons_zero, List.set_cons_succ]
          have VW6 := va_new W0 (sect (part bs x)) 143
          have bW6 := bW0.alloc (by have := bW0.size; omega) (.cells (sect (part bs x)).toArray 143)
          have sW6 : W0.heap.size < (W0.alloc (.cells (sect (part bs x)).toArray 143)).heap.size := by simp
          have nW6 : W.heap.size ≤ W0.heap.size := bW0.size
          generalize W0.heap.size = g5 at *
          generalize W0.alloc (.cells (sect (part bs x)).toArray 143) = W6 at *
          refine wpAnyH_ready (rs := [7]) (by kernel_rfl) (by simp) ?_
          refine AllReadyH.cons (by exact rfl) (fun K hK => ?_) AllReadyH.nil
          refine appKS (by rfl) _ _ rfl B (e.ss ++ pre.map (part bs)) (part bs x) _ g5 (by rfl) (by rfl) (HF2.out.step bW6) VW6 (by have := bW6.size; omega) (by rw [List.length_append, List.length_map]; omega) ?_
          intro v2 w3 ho hg3 hat
          obtain ⟨a2, c2, hv2, hc2, hc3⟩ := ho.form
          generalize (e.ss ++ pre.map (part bs) ++ [part bs x]).length = n2 at hv2 hc2
          subst hv2
          have q3 := (HF1.out.step bW6).grownO hg3 (HF2.out.step bW6) (.inl (by decide))
          have x3 := (HFX.out.step bW6).grownO hg3 (HF2.out.step bW6) (.inl (by decide))
          have z3 := q3.cell 0 rfl
          have g3 := q3.free 0
          refine hK.out _ _ x3 (fun hHeld => ?_)
          clear hK K
          try simp only [Act.put, List.setIfInBounds_toArray, List.set_cons_zero, List.set_cons_succ]
          refine takeD 8 36 (.pointer (some ⟨e.q, 0, none⟩)) (by exact rfl) rfl (by kernel_rfl) (by kernel_rfl) (by kernel_rfl) (fun _ _ _ h => h) (Or.inl ⟨by rfl, ?_⟩) (by assumption) ?_
          · intro wq hS
            go_simp
          try simp only [Act.put, List.setIfInBounds_toArray, List.set_cons_zero, List.set_cons_succ]
          refine takeD 9 37 (.pointer (some ⟨e.q, 0, none⟩)) (by exact rfl) rfl (by kernel_rfl) (by kernel_rfl) (by kernel_rfl) (fun _ _ _ h => h) (Or.inl ⟨by rfl, ?_⟩) (by assumption) ?_
          · intro wq hS
            go_simp
          try simp only [Act.put, List.setIfInBounds_toArray, List.set_cons_zero, List.set_cons_succ]
          refine wpAnyH_ready (rs := [10]) (by kernel_rfl) (by simp) ?_
          refine AllReadyH.cons rfl (fun K hK => ?_) AllReadyH.nil
          go_simp
          refine hK.out _ _ (x3.set_other HNE.out 0 _) (fun hHeld => ?_)
          clear hK K
          refine wpAnyH_done (by kernel_rfl) ?_ _
          refine NoPanic.normal ?_
          have hn6 := bW6.size
          have hYd : ∀ i, (i = e.q ∨ (Value.slice va nn vc).ownBlock = some i) → ∃ cs T, W.heap[i]? = some (Obj.cells cs T (0, 0)) ∧ Dt T := fun i hi => by
            rcases hi with rfl | hi
            · exact ⟨_, _, HF1.out.blk, .inr (.inl rfl)⟩
            · obtain ⟨cs, hc⟩ := row_blk HF2.out hi
              exact ⟨cs, _, hc, .inr (.inr rfl)⟩
          have U4 := upd_set w3 e.q 0 (.slice a2 n2 c2)
          have BY : But (fun i => i = e.q ∨ (Value.slice va nn vc).ownBlock = some i) W (w3.setCell ⟨e.q, 0, none⟩ (.slice a2 n2 c2)) :=
            ((below_but bW6 _).trans (⟨hg3.os, hg3.tape, hg3.output, hg3.size, fun i hi hx => hg3.block i hi (fun er => hx (.inr er.symm))⟩ : But (fun i => i = e.q ∨ (Value.slice va nn vc).ownBlock = some i) _ w3) (fun _ _ h => h)).trans (U4.but.mono (fun i h => .inl h)) (fun _ _ h => h)
          have ke : Kee W (w3.setCell ⟨e.q, 0, none⟩ (.slice a2 n2 c2)) := kee_but BY (fun i hi cs T z h => by obtain ⟨cs', T', h', hT⟩ := hYd i hi; rw [h'] at h; cases h; exact hT)
          have kf : ∀ k, KeepsFrom k W (w3.setCell ⟨e.q, 0, none⟩ (.slice a2 n2 c2)) := fun k => keeps_but BY (fun i hi o h => by obtain ⟨cs', T', h', hT⟩ := hYd i hi; rw [h'] at h; cases h; rfl)
          have own4 : Own KS (w3.setCell ⟨e.q, 0, none⟩ (.slice a2 n2 c2)) B (.slice a2 n2 c2) (e.ss ++ (pre ++ [x]).map (part bs)) := by
            rw [List.map_append, ← List.append_assoc]
            refine ho.blk (fun g hg => U4.block g (fun e2 => ?_))
            obtain ⟨cs, hc⟩ := row_blk ho hg
            rw [e2, q3.blk] at hc
            injection hc with hc
            injection hc with _ hT _
            cases hT
          have f4 : ∀ g, (Value.slice a2 n2 c2).ownBlock = some g → e.v.ownBlock = some g ∨ Wl.heap.size ≤ g := fun g hg => by
            rcases hat with h' | h'
            · exact HF3.out g (h'.symm.trans hg)
            · rw [hg] at h'
              have e6 := Option.some.inj h'
              have := HI.out.but.size
              exact .inr (by omega)
          have wi : WI Wl B (w.heap.size) e bs (pre ++ [x]) (w3.setCell ⟨e.q, 0, none⟩ (.slice a2 n2 c2)) :=
            ⟨⟨.slice a2 n2 c2, q3.set 0 _, own4, f4⟩, x3.set_other HNE.out 0 _, HI.out.but.trans BY (fun i hi hy => by
              rcases hy with hy | hy
              · exact .inl hy
              · rcases HF3.out i hy with h' | h'
                · exact .inr h'
                · exact absurd hi (by omega)), HI.out.kee.trans ke⟩
          gi_wp2
          exact ⟨ke, kf _⟩
    refine AllReadyH.cons (by exact rfl) (fun K hK => ?_) AllReadyH.nil
    · refine wantIf (by rfl) (wp_load_mid 143 _ rfl Bs' 0 (by rfl) (sect (part bs x)) _ (fun j u hj => by rw [Nat.zero_add]; exact (HX.out.step bW0).cell j hj) Tryz.underlying143 rfl (infoS1.trans (by simp [sect_len])) (hK.out _ _ (HFX.out.step bW0) (fun hHeld => ?_)))
      clear hK K
      try simp only [Act.put, List.setIfInBounds_toArray, List.set_cons_zero, List.set_cons_succ]
      refine wpAnyH_ready (rs := [4, 6]) (by kernel_rfl) (by simp) ?_
      refine AllReadyH.cons (by exact rfl) (fun K hK => ?_) ?_
      · have c4 := (HF1.out.step bW0).cell 0 rfl
        go_simp
        refine hK.out _ _ (HFX.out.step bW0) (fun hHeld => ?_)
        clear hK K
        try simp only [Act.put, List.setIfInBounds_toArray, List.set_cons_zero, List.set_cons_succ]
        refine wpAnyH_ready (rs := [6]) (by kernel_rfl) (by simp) ?_
        refine AllReadyH.cons (by exact rfl) (fun K hK => ?_) AllReadyH.nil
        · refine wantIf (by rfl) (bldSw _ rfl (part bs x) (by rfl) (hK.out _ _ (HFX.out.step (bW0.alloc (by have := bW0.size; omega) _)) (fun hHeld => ?_)))
          clear hK K
          try simp only [Act.put, List.setIfInBounds_toArray, List.set_cons_zero, List.set_cons_succ]
          have VW6 := va_new W0 (sect (part bs x)) 143
          have bW6 := bW0.alloc (by have := bW0.size; omega) (.cells (sect (part bs x)).toArray 143)
          have sW6 : W0.heap.size < (W0.alloc (.cells (sect (part bs x)).toArray 143)).heap.size := by simp
          have nW6 : W.heap.size ≤ W0.heap.size := bW0.size
          generalize W0.heap.size = g5 at *
          generalize W0.alloc (.cells (sect (part bs x)).toArray 143) = W6 at *
          refine wpAnyH_ready (rs := [7]) (by kernel_rfl) (by simp) ?_
          refine AllReadyH.cons (by exact rfl) (fun K hK => ?_) AllReadyH.nil
          refine appKS (by rfl) _ _ rfl B (e.ss ++ pre.map (part bs)) (part bs x) _ g5 (by rfl) (by rfl) (HF2.out.step bW6) VW6 (by have := bW6.size; omega) (by rw [List.length_append, List.length_map]; omega) ?_
          intro v2 w3 ho hg3 hat
          obtain ⟨a2, c2, hv2, hc2, hc3⟩ := ho.form
          generalize (e.ss ++ pre.map (part bs) ++ [part bs x]).length = n2 at hv2 hc2
          subst hv2
          have q3 := (HF1.out.step bW6).grownO hg3 (HF2.out.step bW6) (.inl (by decide))
          have x3 := (HFX.out.step bW6).grownO hg3 (HF2.out.step bW6) (.inl (by decide))
          have z3 := q3.cell 0 rfl
          have g3 := q3.free 0
          refine hK.out _ _ x3 (fun hHeld => ?_)
          clear hK K
          try simp only [Act.put, List.setIfInBounds_toArray, List.set_cons_zero, List.set_cons_succ]
          refine takeD 8 36 (.pointer (some ⟨e.q, 0, none⟩)) (by exact rfl) rfl (by kernel_rfl) (by kernel_rfl) (by kernel_rfl) (fun _ _ _ h => h) (Or.inl ⟨by rfl, ?_⟩) (by assumption) ?_
          · intro wq hS
            go_simp
          try simp only [Act.put, List.setIfInBounds_toArray, List.set_cons_zero, List.set_cons_succ]
          refine takeD 9 37 (.pointer (some ⟨e.q, 0, none⟩)) (by exact rfl) rfl (by kernel_rfl) (by kernel_rfl) (by kernel_rfl) (fun _ _ _ h => h) (Or.inl ⟨by rfl, ?_⟩) (by assumption) ?_
          · intro wq hS
            go_simp
          try simp only [Act.put, List.setIfInBounds_toArray, List.set_cons_zero, List.set_cons_succ]
          refine wpAnyH_ready (rs := [10]) (by kernel_rfl) (by simp) ?_
          refine AllReadyH.cons rfl (fun K hK => ?_) AllReadyH.nil
          go_simp
          refine hK.out _ _ (x3.set_other HNE.out 0 _) (fun hHeld => ?_)
          clear hK K
          refine wpAnyH_done (by kernel_rfl) ?_ _
          refine NoPanic.normal ?_
          have hn6 := bW6.size
          have hYd : ∀ i, (i = e.q ∨ (Value.slice va nn vc).ownBlock = some i) → ∃ cs T, W.heap[i]? = some (Obj.cells cs T (0, 0)) ∧ Dt T := fun i hi => by
            rcases hi with rfl | hi
            · exact ⟨_, _, HF1.out.blk, .inr (.inl rfl)⟩
            · obtain ⟨cs, hc⟩ := row_blk HF2.out hi
              exact ⟨cs, _, hc, .inr (.inr rfl)⟩
          have U4 := upd_set w3 e.q 0 (.slice a2 n2 c2)
          have BY : But (fun i => i = e.q ∨ (Value.slice va nn vc).ownBlock = some i) W (w3.setCell ⟨e.q, 0, none⟩ (.slice a2 n2 c2)) :=
            ((below_but bW6 _).trans (⟨hg3.os, hg3.tape, hg3.output, hg3.size, fun i hi hx => hg3.block i hi (fun er => hx (.inr er.symm))⟩ : But (fun i => i = e.q ∨ (Value.slice va nn vc).ownBlock = some i) _ w3) (fun _ _ h => h)).trans (U4.but.mono (fun i h => .inl h)) (fun _ _ h => h)
          have ke : Kee W (w3.setCell ⟨e.q, 0, none⟩ (.slice a2 n2 c2)) := kee_but BY (fun i hi cs T z h => by obtain ⟨cs', T', h', hT⟩ := hYd i hi; rw [h'] at h; cases h; exact hT)
          have kf : ∀ k, KeepsFrom k W (w3.setCell ⟨e.q, 0, none⟩ (.slice a2 n2 c2)) := fun k => keeps_but BY (fun i hi o h => by obtain ⟨cs', T', h', hT⟩ := hYd i hi; rw [h'] at h; cases h; rfl)
          have own4 : Own KS (w3.setCell ⟨e.q, 0, none⟩ (.slice a2 n2 c2)) B (.slice a2 n2 c2) (e.ss ++ (pre ++ [x]).map (part bs)) := by
            rw [List.map_append, ← List.append_assoc]
            refine ho.blk (fun g hg => U4.block g (fun e2 => ?_))
            obtain ⟨cs, hc⟩ := row_blk ho hg
            rw [e2, q3.blk] at hc
            injection hc with hc
            injection hc with _ hT _
            cases hT
          have f4 : ∀ g, (Value.slice a2 n2 c2).ownBlock = some g → e.v.ownBlock = some g ∨ Wl.heap.size ≤ g := fun g hg => by
            rcases hat with h' | h'
            · exact HF3.out g (h'.symm.trans hg)
            · rw [hg] at h'
              have e6 := Option.some.inj h'
              have := HI.out.but.size
              exact .inr (by omega)
          have wi : WI Wl B (w.heap.size) e bs (pre ++ [x]) (w3.setCell ⟨e.q, 0, none⟩ (.slice a2 n2 c2)) :=
            ⟨⟨.slice a2 n2 c2, q3.set 0 _, own4, f4⟩, x3.set_other HNE.out 0 _, HI.out.but.trans BY (fun i hi hy => by
              rcases hy with hy | hy
              · exact .inl hy
              · rcases HF3.out i hy with h' | h'
                · exact .inr h'
                · exact absurd hi (by omega)), HI.out.kee.trans ke⟩
          gi_wp2
          exact ⟨ke, kf _⟩
      refine AllReadyH.cons (by exact rfl) (fun K hK => ?_) AllReadyH.nil
      · refine wantIf (by rfl) (bldSw _ rfl (part bs x) (by rfl) (hK.out _ _ (HFX.out.step (bW0.alloc (by have := bW0.size; omega) _)) (fun hHeld => ?_)))
        clear hK K
        try simp only [Act.put, List.setIfInBounds_toArray, List.set_cons_zero, List.set_cons_succ]
        have VW6 := va_new W0 (sect (part bs x)) 143
        have bW6 := bW0.alloc (by have := bW0.size; omega) (.cells (sect (part bs x)).toArray 143)
        have sW6 : W0.heap.size < (W0.alloc (.cells (sect (part bs x)).toArray 143)).heap.size := by simp
        have nW6 : W.heap.size ≤ W0.heap.size := bW0.size
        generalize W0.heap.size = g5 at *
        generalize W0.alloc (.cells (sect (part bs x)).toArray 143) = W6 at *
        refine wpAnyH_ready (rs := [4]) (by kernel_rfl) (by simp) ?_
        refine AllReadyH.cons (by exact rfl) (fun K hK => ?_) AllReadyH.nil
        · have c4 := (HF1.out.step bW6).cell 0 rfl
          go_simp
          refine hK.out _ _ (HFX.out.step bW6) (fun hHeld => ?_)
          clear hK K
          try simp only [Act.put, List.setIfInBounds_toArray, List.set_cons_zero, List.set_cons_succ]
          refine wpAnyH_ready (rs := [7]) (by kernel_rfl) (by simp) ?_
          refine AllReadyH.cons (by exact rfl) (fun K hK => ?_) AllReadyH.nil
          refine appKS (by rfl) _ _ rfl B (e.ss ++ pre.map (part bs)) (part bs x) _ g5 (by rfl) (by rfl) (HF2.out.step bW6) VW6 (by have := bW6.size; omega) (by rw [List.length_append, List.length_map]; omega) ?_
          intro v2 w3 ho hg3 hat
          obtain ⟨a2, c2, hv2, hc2, hc3⟩ := ho.form
          generalize (e.ss ++ pre.map (part bs) ++ [part bs x]).length = n2 at hv2 hc2
          subst hv2
          have q3 := (HF1.out.step bW6).grownO hg3 (HF2.out.step bW6) (.inl (by decide))
          have x3 := (HFX.out.step bW6).grownO hg3 (HF2.out.step bW6) (.inl (by decide))
          have z3 := q3.cell 0 rfl
          have g3 := q3.free 0
          refine hK.out _ _ x3 (fun hHeld => ?_)
          clear hK K
          try simp only [Act.put, List.setIfInBounds_toArray, List.set_cons_zero, List.set_cons_succ]
          refine takeD 8 36 (.pointer (some ⟨e.q, 0, none⟩)) (by exact rfl) rfl (by kernel_rfl) (by kernel_rfl) (by kernel_rfl) (fun _ _ _ h => h) (Or.inl ⟨by rfl, ?_⟩) (by assumption) ?_
          · intro wq hS
            go_simp
          try simp only [Act.put, List.setIfInBounds_toArray, List.set_cons_zero, List.set_cons_succ]
          refine takeD 9 37 (.pointer (some ⟨e.q, 0, none⟩)) (by exact rfl) rfl (by kernel_rfl) (by kernel_rfl) (by kernel_rfl) (fun _ _ _ h => h) (Or.inl ⟨by rfl, ?_⟩) (by assumption) ?_
          · intro wq hS
            go_simp
          try simp only [Act.put, List.setIfInBounds_toArray, List.set_cons_zero, List.set_cons_succ]
          refine wpAnyH_ready (rs := [10]) (by kernel_rfl) (by simp) ?_
          refine AllReadyH.cons rfl (fun K hK => ?_) AllReadyH.nil
          go_simp
          refine hK.out _ _ (x3.set_other HNE.out 0 _) (fun hHeld => ?_)
          clear hK K
          refine wpAnyH_done (by kernel_rfl) ?_ _
          refine NoPanic.normal ?_
          have hn6 := bW6.size
          have hYd : ∀ i, (i = e.q ∨ (Value.slice va nn vc).ownBlock = some i) → ∃ cs T, W.heap[i]? = some (Obj.cells cs T (0, 0)) ∧ Dt T := fun i hi => by
            rcases hi with rfl | hi
            · exact ⟨_, _, HF1.out.blk, .inr (.inl rfl)⟩
            · obtain ⟨cs, hc⟩ := row_blk HF2.out hi
              exact ⟨cs, _, hc, .inr (.inr rfl)⟩
          have U4 := upd_set w3 e.q 0 (.slice a2 n2 c2)
          have BY : But (fun i => i = e.q ∨ (Value.slice va nn vc).ownBlock = some i) W (w3.setCell ⟨e.q, 0, none⟩ (.slice a2 n2 c2)) :=
            ((below_but bW6 _).trans (⟨hg3.os, hg3.tape, hg3.output, hg3.size, fun i hi hx => hg3.block i hi (fun er => hx (.inr er.symm))⟩ : But (fun i => i = e.q ∨ (Value.slice va nn vc).ownBlock = some i) _ w3) (fun _ _ h => h)).trans (U4.but.mono (fun i h => .inl h)) (fun _ _ h => h)
          have ke : Kee W (w3.setCell ⟨e.q, 0, none⟩ (.slice a2 n2 c2)) := kee_but BY (fun i hi cs T z h => by obtain ⟨cs', T', h', hT⟩ := hYd i hi; rw [h'] at h; cases h; exact hT)
          have kf : ∀ k, KeepsFrom k W (w3.setCell ⟨e.q, 0, none⟩ (.slice a2 n2 c2)) := fun k => keeps_but BY (fun i hi o h => by obtain ⟨cs', T', h', hT⟩ := hYd i hi; rw [h'] at h; cases h; rfl)
          have own4 : Own KS (w3.setCell ⟨e.q, 0, none⟩ (.slice a2 n2 c2)) B (.slice a2 n2 c2) (e.ss ++ (pre ++ [x]).map (part bs)) := by
            rw [List.map_append, ← List.append_assoc]
            refine ho.blk (fun g hg => U4.block g (fun e2 => ?_))
            obtain ⟨cs, hc⟩ := row_blk ho hg
            rw [e2, q3.blk] at hc
            injection hc with hc
            injection hc with _ hT _
            cases hT
          have f4 : ∀ g, (Value.slice a2 n2 c2).ownBlock = some g → e.v.ownBlock = some g ∨ Wl.heap.size ≤ g := fun g hg => by
            rcases hat with h' | h'
            · exact HF3.out g (h'.symm.trans hg)
            · rw [hg] at h'
              have e6 := Option.some.inj h'
              have := HI.out.but.size
              exact .inr (by omega)
          have wi : WI Wl B (w.heap.size) e bs (pre ++ [x]) (w3.setCell ⟨e.q, 0, none⟩ (.slice a2 n2 c2)) :=
            ⟨⟨.slice a2 n2 c2, q3.set 0 _, own4, f4⟩, x3.set_other HNE.out 0 _, HI.out.but.trans BY (fun i hi hy => by
              rcases hy with hy | hy
              · exact .inl hy
              · rcases HF3.out i hy with h' | h'
                · exact .inr h'
                · exact absurd hi (by omega)), HI.out.kee.trans ke⟩
          gi_wp2
          exact ⟨ke, kf _⟩
  case done =>
    rintro D W hD hI hK
    gi_wp2
    refine ⟨by simp, .inl ⟨_, _, rfl, run_takeDeferred hK, ?_⟩⟩
    have hI2 := WI.own Wl B (w.heap.size) e bs _ W _ (some D) hI (grownBy_putObj' W D (.deferred none)) (fun r e => by cases e; exact ⟨hD, _, hK, rfl⟩)
    obtain ⟨v', f1, f2, f3⟩ := hI2.ex
    have hbl : bs.length = len := by obtain ⟨_, a, c, e, _⟩ := HBS.out; cases e; rfl
    have hps : (List.range (cnt len)).map (part bs) = parts bs := by unfold parts; rw [hbl]
    rw [hps] at f2
    have hfl : Fil (W.putObj D (.deferred none)) B { e with v := v', ss := e.ss ++ parts bs } := by
      refine ⟨f1, f2, HFil.out.lo, ?_, ?_, HFil.out.nm⟩
      · have := HFil.out.sy
        simp only [List.length_append]
        omega
      · intro s' hs'
        rcases List.mem_append.1 hs' with h' | h'
        · exact HFil.out.byte s' h'
        · obtain ⟨k, _, rfl⟩ := List.mem_map.1 h'
          exact (HBS.out.byte.drop _).take _
    have hput := HDl.out.put (e' := { e with v := v', ss := e.ss ++ parts bs }) hx hI2.but hfl rfl rfl f3 (by
      have h1 := hroom
      rw [hx, tot_app] at h1
      simp only [tot] at h1
      have : (parts bs).length = cnt len := by unfold parts; rw [hbl]; simp
      simp only [List.length_append]
      omega)
    have kee2 : Kee w (W.putObj D (.deferred none)) := (Kee.bel B2).trans hI2.kee
    refine ⟨_, results_none rfl _ _ _, ⟨_, rfl⟩, ⟨v', hput⟩, kee2, ?_⟩
    have hb2 : Below B w Wl := B2.mono (by have := HH.out.lo.1; have := HH.out.va.lt; omega)
    refine hb2.trans (hI2.but.below HBl (fun i hi => ?_))
    rcases hi with rfl | hi
    · exact HFil.out.lo
    · exact HFil.out.row.block i hi
end Go.Proofs.YtkmdegmpffgplaaGreatDoor
